import PyProof.Rows.All
import Wide.All
import OpenK.AllK
import Wide.FinOn
import Lean
import PyProof.EqAt
import PyProof.EqKinds
import PyProof.TupleCall
import PyProof.ListStr
import PyProof.TupleOfStr
import PyProof.ConsumeWalk
import PyProof.SliceStr2
import PyProof.Rows.SetFrom
import PyProof.SetRoads
import PyProof.StrLawsIn
import PyProof.Rows.StrIndexOr
import PyProof.Rows.StrJoin2
import PyProof.Rows.SumAny
import PyProof.Draws
import PyProof.ZipIter
import PyProof.EnumMake
import PySem.Challenge.RW_nearreach_k05_weights_and_parts
set_option Elab.async false
set_option linter.all false
set_option maxRecDepth 100000
/-! THE HAND LAYER, for ints, bools, texts, own classes, LISTS and tuples (index, slices, in, append, pop ..), calls, loops. Paste it whole ahead of your own text; what your proof does not reach may be deleted. -/
namespace L2
open PySem PySem.Spec PyProof.Rows

/-- a key: an int or a str -/
abbrev Key := Sum Int Str
def keyIs : Key → Value → Bool
  | .inl k, v => Value.isInt k v
  | .inr x, v => Value.isStrOf x v
def keyH (w : World) : Key → Int
  | .inl k => hashInt k
  | .inr x => hashStr w x
theorem keyIs_shape : ∀ {k : Key} {v : Value}, keyIs k v = true → (∃ i t, k = Sum.inl i ∧ v = Value.int i t) ∨ (∃ x t, k = Sum.inr x ∧ v = Value.str x t)
  | .inl i, v, h => by
    obtain ⟨t, e⟩ := Value.isInt_shape (k := i) (v := v) h
    exact .inl ⟨i, t, rfl, e⟩
  | .inr x, v, h => by
    obtain ⟨t, e⟩ := Value.isStrOf_shape (x := x) (v := v) h
    exact .inr ⟨x, t, rfl, e⟩
theorem keyIs_int (i : Int) (t : Tok) : keyIs (.inl i) (.int i t) = true := by simp [keyIs, Value.isInt]
theorem keyIs_str (x : Str) (t : Tok) : keyIs (.inr x) (.str x t) = true := by simp [keyIs, Value.isStrOf]
theorem key_ll (a b : Int) : decide ((Sum.inl a : Key) = Sum.inl b) = (a == b) := by
  by_cases e : a = b
  · subst e; simp
  · have h : ¬ (Sum.inl a : Key) = Sum.inl b := fun q => e (Sum.inl.inj q)
    rw [decide_eq_false h]
    exact (beq_eq_false_iff_ne.mpr e).symm
theorem key_rr (a b : Str) : decide ((Sum.inr a : Key) = Sum.inr b) = decide (a = b) := by
  by_cases e : a = b
  · subst e; simp
  · have h : ¬ (Sum.inr a : Key) = Sum.inr b := fun q => e (Sum.inr.inj q)
    rw [decide_eq_false h, decide_eq_false e]
theorem key_lr (a : Int) (b : Str) : decide ((Sum.inl a : Key) = Sum.inr b) = false := decide_eq_false (fun q => nomatch q)
theorem key_rl (a : Str) (b : Int) : decide ((Sum.inr a : Key) = Sum.inl b) = false := decide_eq_false (fun q => nomatch q)

def mixKind (prog : Program) (w : World) : PySem.KeyKind prog w Key where
  is := keyIs
  hash := keyH w
  inj := fun v a b ha hb => by
    rcases keyIs_shape ha with ⟨i, t, rfl, rfl⟩ | ⟨x, t, rfl, rfl⟩
    · rcases keyIs_shape hb with ⟨j, u, rfl, e⟩ | ⟨y, u, rfl, e⟩
      · injection e with e1 _; rw [e1]
      · exact nomatch e
    · rcases keyIs_shape hb with ⟨j, u, rfl, e⟩ | ⟨y, u, rfl, e⟩
      · exact nomatch e
      · injection e with e1 _; rw [e1]
  byValue := fun k v h => by
    rcases keyIs_shape h with ⟨i, t, rfl, rfl⟩ | ⟨x, t, rfl, rfl⟩ <;> rfl
  pyHash := fun hv h => by
    rcases keyIs_shape hv with ⟨i, t, rfl, rfl⟩ | ⟨x, t, rfl, rfl⟩
    · exact wpAny_pyHash_int h
    · exact wpAny_pyHash_str h
  eqBool := fun hu hv h => by
    rcases keyIs_shape hu with ⟨i, t, rfl, rfl⟩ | ⟨x, t, rfl, rfl⟩
    · rcases keyIs_shape hv with ⟨j, u, rfl, rfl⟩ | ⟨y, u, rfl, rfl⟩
      · rw [key_ll] at h; exact wpAny_eqBool_int h
      · rw [key_lr] at h; exact SeqAt.EqAt.int_str i t y u _ _ _ _ h
    · rcases keyIs_shape hv with ⟨j, u, rfl, rfl⟩ | ⟨y, u, rfl, rfl⟩
      · rw [key_rl] at h; exact SeqAt.EqAt.str_int x t j u _ _ _ _ h
      · rw [key_rr] at h; exact wpAny_eqBool_str h
  «strs» := fun k x t v h => by
    rcases keyIs_shape h with ⟨i, u, rfl, e⟩ | ⟨y, u, rfl, e⟩
    · exact nomatch e
    · injection e with e1 _
      subst e1
      cases v <;> rfl

theorem mixKind_is (prog : Program) (w : World) (k : Key) (v : Value) : (mixKind prog w).is k v = keyIs k v := rfl
theorem mixKind_int (prog : Program) (w : World) (i : Int) (t : Tok) : (mixKind prog w).is (.inl i) (.int i t) = true := keyIs_int i t
theorem mixKind_str (prog : Program) (w : World) (x : Str) (t : Tok) : (mixKind prog w).is (.inr x) (.str x t) = true := keyIs_str x t
end L2

namespace L2
open PySem PySem.Spec PyProof.Rows

/-- a value, without the heap -/
inductive V where
  | non | bl (b : Bool) | int (i : Int) | str (x : Str) | byt (b : Array UInt8) | flt (b : UInt64) | ref (a : Addr) | ty (n : String)
  deriving DecidableEq

def RelV : V → Value → Prop
  | .non, u => u = Value.none
  | .bl b, u => u = Value.bool b
  | .int i, u => ∃ t, u = Value.int i t
  | .str x, u => ∃ t, u = Value.str x t
  | .byt b, u => ∃ t, u = Value.bytes b t
  | .flt b, u => ∃ t, u = Value.float b t
  | .ref a, u => u = Value.ref a
  | .ty n, u => u = Value.type n

abbrev Vals : List V → List Value → Prop := Paired RelV
theorem Vals.length {xs : List V} {us : List Value} (r : Vals xs us) : xs.length = us.length := Paired.length r
theorem Vals.get : ∀ {xs : List V} {us : List Value} {i : Nat} {x : V}, Vals xs us → xs[i]? = some x → ∃ u, us[i]? = some u ∧ RelV x u
  | _, _, _, _, .nil, e => by simp at e
  | _, _, 0, _, .cons r _, e => by simp at e; subst e; exact ⟨_, rfl, r⟩
  | _, _, i + 1, x, .cons _ t, e => by
    obtain ⟨u, h1, h2⟩ := Vals.get (i := i) (x := x) t (by simpa using e)
    exact ⟨u, by simpa using h1, h2⟩
theorem Vals.set {x : V} {u : Value} (r : RelV x u) : ∀ {xs : List V} {us : List Value} (i : Nat), Vals xs us → Vals (xs.set i x) (us.set i u)
  | _, _, _, .nil => .nil
  | _, _, 0, .cons _ t => .cons r t
  | _, _, i + 1, .cons q t => .cons q (Vals.set r i t)
theorem Vals.append : ∀ {xs ys : List V} {us ws : List Value}, Vals xs us → Vals ys ws → Vals (xs ++ ys) (us ++ ws)
  | _, _, _, _, .nil, s => s
  | _, _, _, _, .cons r t, s => .cons r (Vals.append t s)
theorem Vals.take : ∀ {xs : List V} {us : List Value} (n : Nat), Vals xs us → Vals (xs.take n) (us.take n)
  | _, _, 0, _ => .nil
  | _, _, _ + 1, .nil => .nil
  | _, _, n + 1, .cons r t => .cons r (Vals.take n t)
theorem Vals.drop : ∀ {xs : List V} {us : List Value} (n : Nat), Vals xs us → Vals (xs.drop n) (us.drop n)
  | _, _, 0, r => r
  | _, _, _ + 1, .nil => .nil
  | _, _, n + 1, .cons _ t => Vals.drop n t
theorem Vals.none_of : ∀ {xs : List V} {us : List Value} {i : Nat}, Vals xs us → xs[i]? = none → us[i]? = none := fun {xs us i} r e => by
  have h1 := r.length
  have h2 : xs.length ≤ i := List.getElem?_eq_none_iff.mp e
  exact List.getElem?_eq_none_iff.mpr (by omega)

def RelO : Option V → Option Value → Prop
  | some v, some u => RelV v u
  | none, none => True
  | _, _ => False
def KV {κ : Type} : List (κ × V) → List (κ × Value) → Prop := Paired fun (p : κ × V) (q : κ × Value) => p.1 = q.1 ∧ RelV p.2 q.2

/-- a key of a dict (00_mix): an int or a text -/
def kV : Key → V
  | .inl i => .int i
  | .inr x => .str x

/-- what stands at a tracked address -/
inductive HO where
  /-- a list -/
  | lst (xs : List V)
  /-- a tuple (never changes) -/
  | tup (xs : List V)
  /-- a dict whose keys are ints and texts; one whose keys are tuples of ints and texts (the empty one is both) -/
  | dK (kvs : List (Key × V)) | dT (kvs : List (List Key × V))
  /-- a set of ints: its members, its size -/
  | set (S : Int → Bool) (n : Nat)
  /-- an instance of the class at C, its dict at dx, its attributes -/
  | ins (C dx : Addr) (fs : List (Str × V))
  /-- the dict of the instance at x -/
  | own (x : Addr)
  /-- the dict of an exception -/
  | xd (fs : List (Str × V))
  /-- a bound method, f of x -/
  | met (f x : Addr)
  /-- a range object lo, lo + 1, .. below hi -/
  | rng (lo hi : Int)
  /-- a thing that is known to the object (the script; a dict while a loop walks it): read, never written while it is so -/
  | frz (o : Obj) (u : HO)
  /-- a code object's table -/
  | tbl (ps : Array Value)
  /-- any other thing, by what is true of its one object (a def of one's own: SetO a S n := HO.ext fun h => ..) -/
  | ext (φ : Heap → Prop)

abbrev Hp := Addr → Option HO
def upd (H : Hp) (a : Addr) (o : HO) : Hp := fun b => if b = a then some o else H b
theorem upd_same {H : Hp} {a : Addr} {o : HO} : upd H a o a = some o := by unfold upd; rw [if_pos rfl]
theorem upd_ne {H : Hp} {a b : Addr} {o : HO} (h : b ≠ a) : upd H a o b = H b := by unfold upd; rw [if_neg h]
theorem upd_upd {H : Hp} {a : Addr} {o u : HO} : upd (upd H a o) a u = upd H a u := by
  funext b; unfold upd; split <;> rfl
/-- two objects of different content stand apart -/
theorem ne_of {H : Hp} {a b : Addr} {o u : HO} (h : H a = some o) (h' : H b = some u) (d : o ≠ u) : a ≠ b := by
  intro e; subst e; rw [h] at h'; exact d (Option.some.inj h')
theorem ne_of_none {H : Hp} {a b : Addr} {o : HO} (h : H a = some o) (h' : H b = none) : a ≠ b := by
  intro e; subst e; rw [h] at h'; cases h'

section
variable (P : Program) (w : World)
def ObjOk (H : Hp) (h : Heap) (a : Addr) : HO → Prop
  | .lst xs => xs.length ≤ sizeLine ∧ ∃ (its : List Value) (n : Nat), Vals xs its ∧ h.get? a = some { cls := .type "list", data := .seq its.toArray n }
  | .tup xs => xs.length ≤ sizeLine ∧ ∃ its : List Value, Vals xs its ∧ IsTup h a its.toArray
  | .dK kvs => kvs.length ≤ sizeLine ∧ (a == sysModules) = false ∧ ∃ vs, KV kvs vs ∧ h.DictOf (mixKind P w) a vs
  | .dT kvs => kvs.length ≤ sizeLine ∧ (a == sysModules) = false ∧ ∃ xs : List (List Key × Addr × Value),
      Paired (fun (p : List Key × V) (q : List Key × Addr × Value) => p.1 = q.1 ∧ H q.2.1 = some (.tup (p.1.map kV)) ∧ RelV p.2 q.2.2) kvs xs ∧
      ∃ o es ep, h.get? a = some o ∧ o.ExactDict ∧ o.data = .dict es ep ∧ es.toList = xs.map (entryOfKey (tupleKind (mixKind P w))) ∧ (xs.map (·.1)).Nodup
  | .set S n => h.SetOf (intKind P w) a S n
  | .ins C dx fs => H dx = some (.own a) ∧ fs.length ≤ 1000 ∧ dx ≠ a ∧ h.get? a = some (PySem.W.instObj C dx) ∧
      ∃ mA, h.Ns1 dx mA ∧ (∀ f, RelO (fs.lookup f) (mA f)) ∧ PySem.Within mA (fs.map (·.1))
  | .own _ => ∃ o, h.get? a = some o
  | .xd fs => ∃ mA, h.Ns1 a mA ∧ ∀ f, RelO (fs.lookup f) (mA f)
  | .rng lo hi => ∃ t u v, h.get? a = some { cls := .type "range", data := .fields #[.int lo t, .int hi u, .int 1 v] }
  | .frz o u => h.get? a = some o ∧ ObjOk H h a u
  | .tbl ps => h.get? a = some { cls := .none, data := .fields ps }
  | .met f x => h.get? a = some (PySem.W.methodObj (.ref f) (.ref x))
  | .ext φ => φ h ∧ (∃ o, h.get? a = some o) ∧ ∀ h1 h2 : Heap, φ h1 → (∀ o, h1.get? a = some o → h2.get? a = some o) → φ h2
/-- the abstract heap is held -/
def HOk (H : Hp) (h : Heap) : Prop := ∀ a o, H a = some o → ObjOk P w H h a o
end

section
variable {P : Program} {w : World} {H H' : Hp} {h h' : Heap} {a : Addr} {o : HO}
theorem ObjOk.lt (x : ObjOk P w H h a o) : a < h.objs.size := by
  cases o with
  | lst xs => obtain ⟨_, _, _, _, e⟩ := x; exact Heap.lt_size e
  | tup xs => obtain ⟨_, _, _, p⟩ := x; exact p.lt
  | dK kvs => obtain ⟨_, _, _, _, o, _, _, e, _⟩ := x; exact Heap.lt_size e
  | dT kvs => obtain ⟨_, _, _, _, o, _, _, e, _⟩ := x; exact Heap.lt_size e
  | set S n => obtain ⟨o, _, _, _, e, _⟩ := x; exact Heap.lt_size e
  | ins C dx fs => obtain ⟨_, _, _, e, _⟩ := x; exact Heap.lt_size e
  | own y => obtain ⟨_, e⟩ := x; exact Heap.lt_size e
  | xd fs => obtain ⟨_, ⟨_, _, _, e, _⟩, _⟩ := x; exact Heap.lt_size e
  | rng lo hi => obtain ⟨_, _, _, e⟩ := x; exact Heap.lt_size e
  | frz ob u => obtain ⟨e, _⟩ := x; exact Heap.lt_size e
  | tbl ps => exact Heap.lt_size (show h.get? a = some _ from x)
  | met f y => exact Heap.lt_size (show h.get? a = some _ from x)
  | ext φ => obtain ⟨_, ⟨_, e⟩, _⟩ := x; exact Heap.lt_size e
theorem Paired.mapP {α β : Type} {F G : α → β → Prop} : ∀ {l₁ : List α} {l₂ : List β}, Paired F l₁ l₂ → (∀ a b, F a b → G a b) → Paired G l₁ l₂
  | _, _, .nil, _ => .nil
  | _, _, .cons r t, f => .cons (f _ _ r) (Paired.mapP t f)
theorem Paired.imp' {α β : Type} {F G : α → β → Prop} (f : ∀ a b, F a b → G a b) {l₁ : List α} {l₂ : List β} (r : Paired F l₁ l₂) : Paired G l₁ l₂ := Paired.mapP r f
/-- what an object's description leans on: its own object, its own dict, the tuples -/
theorem ObjOk.stay (x : ObjOk P w H h a o) (k : ∀ b u, (b = a ∨ H b = some (.own a)) → h.get? b = some u → h'.get? b = some u)
    (ho : ∀ b, H b = some (.own a) → H' b = some (.own a)) (ht : ∀ b xs, H b = some (.tup xs) → H' b = some (.tup xs)) : ObjOk P w H' h' a o := by
  induction o with
  | lst xs => obtain ⟨z, its, n, r, e⟩ := x; exact ⟨z, its, n, r, k _ _ (.inl rfl) e⟩
  | tup xs => obtain ⟨z, its, r, ob, e, c⟩ := x; exact ⟨z, its, r, ob, k _ _ (.inl rfl) e, c⟩
  | dK kvs => obtain ⟨z, y, vs, r, ob, es, ep, e, c⟩ := x; exact ⟨z, y, vs, r, ob, es, ep, k _ _ (.inl rfl) e, c⟩
  | dT kvs =>
    obtain ⟨z, y, xs, r, ob, es, ep, e, c⟩ := x
    exact ⟨z, y, xs, Paired.mapP r fun p q z => ⟨z.1, ht _ _ z.2.1, z.2.2⟩, ob, es, ep, k _ _ (.inl rfl) e, c⟩
  | set S n => obtain ⟨ob, es, ep, t, e, c⟩ := x; exact ⟨ob, es, ep, t, k _ _ (.inl rfl) e, c⟩
  | ins C dx fs =>
    obtain ⟨d, z, ne, e, mA, ⟨od, es, ep, e2, c⟩, r⟩ := x
    exact ⟨ho _ d, z, ne, k _ _ (.inl rfl) e, mA, ⟨od, es, ep, k _ _ (.inr d) e2, c⟩, r⟩
  | own y => obtain ⟨ob, e⟩ := x; exact ⟨ob, k _ _ (.inl rfl) e⟩
  | xd fs => obtain ⟨mA, ⟨od, es, ep, e, c⟩, r⟩ := x; exact ⟨mA, ⟨od, es, ep, k _ _ (.inl rfl) e, c⟩, r⟩
  | rng lo hi => obtain ⟨t, u, v, e⟩ := x; exact ⟨t, u, v, k _ _ (.inl rfl) e⟩
  | frz ob u ih => obtain ⟨e, q⟩ := x; exact ⟨k _ _ (.inl rfl) e, ih q⟩
  | tbl ps =>
    have e : h.get? a = some { cls := .none, data := .fields ps } := x
    show h'.get? a = some { cls := .none, data := .fields ps }
    exact k a _ (.inl rfl) e
  | met f y =>
    have e : h.get? a = some (PySem.W.methodObj (.ref f) (.ref y)) := x
    show h'.get? a = some (PySem.W.methodObj (.ref f) (.ref y))
    exact k a _ (.inl rfl) e
  | ext φ => obtain ⟨p, ⟨o, e⟩, st⟩ := x; exact ⟨st _ _ p fun o q => k _ _ (.inl rfl) q, ⟨o, k _ _ (.inl rfl) e⟩, st⟩
theorem HOk.lt (x : HOk P w H h) (e : H a = some o) : a < h.objs.size := (x a o e).lt
theorem HOk.fresh (x : HOk P w H h) (e : h.objs.size ≤ a) : H a = none := by
  cases q : H a with
  | none => rfl
  | some u => exact absurd (Nat.lt_of_lt_of_le (x.lt q) e) (Nat.lt_irrefl _)
/-- every object of the heap is kept -/
theorem HOk.kept (x : HOk P w H h) (k : ∀ b u, h.get? b = some u → h'.get? b = some u) : HOk P w H h' := fun a o e =>
  (x a o e).stay (fun b u _ q => k b u q) (fun _ q => q) fun _ _ q => q
/-- a new object is laid and tracked -/
theorem HOk.laid (x : HOk P w H h) (k : ∀ b u, h.get? b = some u → h'.get? b = some u) (hp : h.objs.size ≤ a) (new : ObjOk P w (upd H a o) h' a o) : HOk P w (upd H a o) h' := fun b u e => by
  have hn := x.fresh hp
  by_cases hb : b = a
  · subst hb; rw [upd_same] at e; cases e; exact new
  · rw [upd_ne hb] at e
    exact (x b u e).stay (fun c v _ q => k c v q) (fun c q => by rw [upd_ne (ne_of_none q hn)]; exact q) fun c xs q => by rw [upd_ne (ne_of_none q hn)]; exact q
end

/-- what may be read as u: it is u, or a known u -/
def Rd (H : Hp) (a : Addr) (u : HO) : Prop := H a = some u ∨ ∃ o, H a = some (.frz o u)
theorem Rd.of {H : Hp} {a : Addr} {u : HO} (h : H a = some u) : Rd H a u := .inl h
theorem Rd.ok {P : Program} {w : World} {H : Hp} {h : Heap} {a : Addr} {u : HO} (r : Rd H a u) (x : HOk P w H h) : ObjOk P w H h a u := by
  rcases r with r | ⟨o, r⟩
  · exact x a u r
  · obtain ⟨_, q⟩ := x a _ r
    exact q
/-- what may be written -/
def Mut : Option HO → Prop
  | some (.lst _) => True
  | some (.dK _) => True
  | some (.dT _) => True
  | some (.set _ _) => True
  | some (.ins _ _ _) => True
  | some (.ext _) => True
  | _ => False
section
variable {P : Program} {w : World} {H : Hp} {h h' : Heap} {x e : Addr} {o' : HO}
/-- the object at e is changed: x itself, or the dict of the instance x -/
theorem HOk.write (ok : HOk P w H h) (mu : Mut (H x)) (he : e = x ∨ H e = some (.own x)) (k : ∀ b u, b ≠ e → h.get? b = some u → h'.get? b = some u) (heo : ∃ u, h'.get? e = some u)
    (new : ObjOk P w (upd H x o') h' x o') : HOk P w (upd H x o') h' := fun b u q => by
  have nown : ∀ c y, H c = some (.own y) → c ≠ x := fun c y r z => by subst z; rw [r] at mu; exact mu
  have ntup : ∀ c xs, H c = some (.tup xs) → c ≠ x := fun c xs r z => by subst z; rw [r] at mu; exact mu
  by_cases hb : b = x
  · subst hb; rw [upd_same] at q; cases q; exact new
  · rw [upd_ne hb] at q
    by_cases hbe : b = e
    · have q' : H b = some (.own x) := by
        rcases he with z | z
        · exact absurd (hbe.trans z) hb
        · rw [hbe]; exact z
      rw [q] at q'; cases q'
      obtain ⟨v, hv⟩ := heo
      exact ⟨v, by rw [hbe]; exact hv⟩
    · refine (ok b u q).stay (fun c v hc r => k c v ?_ r) (fun c r => by rw [upd_ne (nown c b r)]; exact r) fun c xs r => by rw [upd_ne (ntup c xs r)]; exact r
      rcases hc with rfl | hc
      · exact hbe
      · rintro rfl
        rcases he with z | z
        · exact nown c b hc z
        · rw [hc] at z; cases z; exact hb rfl
end

/-! ### kept unless tracked; of the frames at fs (the callers') the slots may change (an exception that passes writes there); of the records at ex (iterators) nothing is said -/
structure Un (fs ex : List Addr) (H H' : Hp) (h h' : Heap) : Prop where
  keep : ∀ b o, h.get? b = some o → H b = none → b ∉ fs → b ∉ ex → h'.get? b = some o
  slot : ∀ b o, h.get? b = some o → H b = none → b ∈ fs → b ∉ ex → ∃ sl, h'.get? b = some { o with slots := sl }
  free : ∀ b o, h.get? b = some o → H b = none → b ∉ ex → H' b = none
  there : ∀ b o, h.get? b = some o → b ∉ ex → ∃ o', h'.get? b = some o'
  tups : ∀ b xs, H b = some (.tup xs) → H' b = some (.tup xs)
  frzs : ∀ b o u, H b = some (.frz o u) → H' b = some (.frz o u)
  tbls : ∀ b ps, H b = some (.tbl ps) → ∃ more, H' b = some (.tbl (ps ++ more))
section
variable {fs fs' ex ex' : List Addr} {H H1 H2 : Hp} {h h1 h2 h' : Heap} {a x e : Addr} {o : HO}
theorem Un.any (u : Un fs ex H H1 h h1) {b : Addr} {ob : Obj} (q : h.get? b = some ob) (n : H b = none) (hx : b ∉ ex) : ∃ sl, h1.get? b = some { ob with slots := sl } := by
  by_cases hb : b ∈ fs
  · exact u.slot b ob q n hb hx
  · exact ⟨ob.slots, u.keep b ob q n hb hx⟩
theorem Un.trans (a : Un fs ex H H1 h h1) (b : Un fs ex H1 H2 h1 h2) : Un fs ex H H2 h h2 where
  keep := fun c ob q n hc hx => b.keep c ob (a.keep c ob q n hc hx) (a.free c ob q n hx) hc hx
  slot := fun c ob q n hc hx => by
    obtain ⟨sl, e1⟩ := a.slot c ob q n hc hx
    obtain ⟨sl', e2⟩ := b.slot c _ e1 (a.free c ob q n hx) hc hx
    exact ⟨sl', e2⟩
  free := fun c ob q n hx => by
    obtain ⟨o', e1⟩ := a.there c ob q hx
    exact b.free c o' e1 (a.free c ob q n hx) hx
  there := fun c ob q hx => by
    obtain ⟨o', e1⟩ := a.there c ob q hx
    exact b.there c o' e1 hx
  tups := fun c xs q => b.tups c xs (a.tups c xs q)
  frzs := fun c ob xs q => b.frzs c ob xs (a.frzs c ob xs q)
  tbls := fun c ps q => by
    obtain ⟨m1, e1⟩ := a.tbls c ps q
    obtain ⟨m2, e2⟩ := b.tbls c _ e1
    exact ⟨m1 ++ m2, by rw [e2, Array.append_assoc]⟩
theorem Un.kept (k : ∀ b u, h.get? b = some u → h'.get? b = some u) : Un fs ex H H h h' :=
  ⟨fun b ob q _ _ _ => k b ob q, fun b ob q _ _ _ => ⟨ob.slots, k b ob q⟩, fun _ _ _ n _ => n, fun b ob q _ => ⟨ob, k b ob q⟩, fun _ _ q => q, fun _ _ _ q => q, fun _ ps q => ⟨#[], by rw [q]; simp⟩⟩
theorem Un.refl : Un fs ex H H h h := Un.kept fun _ _ q => q
theorem Un.laid (k : ∀ b u, h.get? b = some u → h'.get? b = some u) (hp : h.objs.size ≤ a) (hn : H a = none) : Un fs ex H (upd H a o) h h' where
  keep := fun b u q _ _ _ => k b u q
  slot := fun b u q _ _ _ => ⟨u.slots, k b u q⟩
  free := fun b u q n _ => by rw [upd_ne (Nat.ne_of_lt (Nat.lt_of_lt_of_le (Heap.lt_size q) hp))]; exact n
  there := fun b u q _ => ⟨u, k b u q⟩
  tups := fun b xs q => by rw [upd_ne (ne_of_none q hn)]; exact q
  frzs := fun b u xs q => by rw [upd_ne (ne_of_none q hn)]; exact q
  tbls := fun b ps q => ⟨#[], by rw [upd_ne (ne_of_none q hn), q]; simp⟩
theorem Un.write (mu : Mut (H x)) (he : e = x ∨ H e = some (.own x)) (k : ∀ b u, b ≠ e → h.get? b = some u → h'.get? b = some u) (heo : ∃ u, h'.get? e = some u) : Un fs ex H (upd H x o) h h' := by
  have hx : ∀ b, H b = none → b ≠ x := fun b n z => by subst z; rw [n] at mu; exact mu
  have hb : ∀ b, H b = none → b ≠ e := fun b n z => by
    subst z
    rcases he with r | r
    · exact hx b n r
    · rw [n] at r; cases r
  have hm : ∀ b u, H b = some u → ¬ Mut (some u) → b ≠ x := fun b u q nm z => by subst z; rw [q] at mu; exact nm mu
  refine ⟨fun b u q n _ _ => k b u (hb b n) q, fun b u q n _ _ => ⟨u.slots, k b u (hb b n) q⟩, fun b u q n _ => by rw [upd_ne (hx b n)]; exact n, fun b u q _ => ?_,
    fun b xs q => by rw [upd_ne (hm b _ q fun z => z)]; exact q, fun b u xs q => by rw [upd_ne (hm b _ q fun z => z)]; exact q, fun b ps q => ⟨#[], by rw [upd_ne (hm b _ q fun z => z), q]; simp⟩⟩
  by_cases hbe : b = e
  · subst hbe; exact heo
  · exact ⟨u, k b u hbe q⟩
theorem Un.mono (u : Un fs ex H H1 h h1) (hs : ∀ b ∈ fs, b ∈ fs') (hx : ∀ b ∈ ex, b ∈ ex') : Un fs' ex' H H1 h h1 :=
  ⟨fun b ob q n hb he => u.keep b ob q n (fun z => hb (hs b z)) fun z => he (hx b z), fun _ _ q n _ he => u.any q n fun z => he (hx _ z), fun b ob q n he => u.free b ob q n fun z => he (hx b z), fun b ob q he => u.there b ob q fun z => he (hx b z), u.tups, u.frzs, u.tbls⟩
end

/-! ### the heap without what is tracked -/
def trk (h : Heap) (H : Hp) : List Addr := (List.range h.objs.size).filter fun a => (H a).isSome
def hidT (h : Heap) (H : Hp) : Heap := PySem.W.hideAll h (trk h H)
theorem hidT_size (h : Heap) (H : Hp) : (hidT h H).objs.size = h.objs.size := PySem.W.hideAll_size _ _
theorem hidT_get {h : Heap} {H : Hp} {b : Addr} {o : Obj} (e : h.get? b = some o) (n : H b = none) : (hidT h H).get? b = some o :=
  PySem.W.hideAll_get _ e fun hm => by
    have q : (H b).isSome = true := (List.mem_filter.mp hm).2
    rw [n] at q; simp at q
theorem of_hidT {h : Heap} {H : Hp} {b : Addr} {o : Obj} (e : (hidT h H).get? b = some o) : h.get? b = some o ∧ H b = none := by
  have e' : h.get? b = some o := PySem.W.of_hideAll (trk h H) e
  refine ⟨e', ?_⟩
  cases q : H b with
  | none => rfl
  | some x =>
    have hm : b ∈ trk h H := List.mem_filter.mpr ⟨List.mem_range.mpr (Heap.lt_size e'), by simp [q]⟩
    have z : (hidT h H).get? b = none := PySem.W.hideAll_none (trk h H) hm
    rw [z] at e; cases e

/-! ### OpenK's ledger, filled with every new object but one -/
def allNews (g h : Heap) (L : Addr) : List (Addr × Obj) := (List.range h.objs.size).filterMap fun a => if a = L ∨ (g.get? a).isSome = true then none else (h.get? a).map fun o => (a, o)
theorem mem_allNews {g h : Heap} {L a : Addr} {o : Obj} (h1 : a ≠ L) (h2 : g.get? a = none) (h3 : h.get? a = some o) : (a, o) ∈ allNews g h L :=
  List.mem_filterMap.mpr ⟨a, List.mem_range.mpr (Heap.lt_size h3), by simp [h1, h2, h3]⟩
theorem of_mem_allNews {g h : Heap} {L : Addr} {p : Addr × Obj} (hp : p ∈ allNews g h L) : p.1 ≠ L ∧ g.get? p.1 = none ∧ h.get? p.1 = some p.2 := by
  obtain ⟨b, _, e⟩ := List.mem_filterMap.mp hp
  split at e
  · cases e
  · rename_i hn
    cases q : h.get? b with
    | none => rw [q] at e; simp at e
    | some u =>
      rw [q] at e
      simp only [Option.map_some, Option.some.injEq] at e
      subst e
      refine ⟨fun z => hn (.inl z), ?_, q⟩
      show g.get? b = none
      cases r : g.get? b with
      | none => rfl
      | some v => exact (hn (.inr (by simp [r]))).elim
def rest (g h : Heap) (L d : Addr) : List (Addr × Obj) := (allNews g h L).filter fun p => decide (p.1 ≠ d)
theorem rest_ne {g h : Heap} {L d : Addr} : ∀ p ∈ rest g h L d, p.1 ≠ d := fun p hp => of_decide_eq_true (List.mem_filter.mp hp).2
theorem mem_rest {g h : Heap} {L d a : Addr} {o : Obj} (h1 : a ≠ L) (h2 : g.get? a = none) (h3 : h.get? a = some o) (h4 : a ≠ d) : (a, o) ∈ rest g h L d :=
  List.mem_filter.mpr ⟨mem_allNews h1 h2 h3, decide_eq_true h4⟩
theorem news_all {g h : Heap} {L : Addr} : News g L h (allNews g h L) := fun p hp => let ⟨a, b, c⟩ := of_mem_allNews hp; ⟨c, a, b⟩
theorem news_at {g h : Heap} {L d : Addr} {o : Obj} (h1 : d ≠ L) (h2 : g.get? d = none) (h3 : h.get? d = some o) : News g L h ((d, o) :: rest g h L d) := fun p hp => by
  rcases List.mem_cons.mp hp with rfl | hp
  · exact ⟨h3, h1, h2⟩
  · exact news_all p (List.mem_filter.mp hp).1
/-- behind a rule that changed d alone: all else but the frame is kept -/
theorem kept_of_news {g h h' : Heap} {L d : Addr} {m : Str → Option Value} (k : ∀ b o, g.get? b = some o → h.get? b = some o) (F : Fr g L h' m) (N : News g L h' (rest g h L d)) :
    ∀ b o, b ≠ L → b ≠ d → h.get? b = some o → h'.get? b = some o := fun b o h1 h2 e => by
  cases q : g.get? b with
  | some u =>
    have := k b u q
    rw [e] at this; cases this
    exact F.keep b _ q
  | none => exact (N (b, o) (mem_rest h1 q e h2)).1
end L2

namespace L2
open PySem PySem.Spec PyProof.Rows

/-- the module's facts, over the base: the heap at the law's entry without what is tracked there -/
structure Mod (K : PySem.W.Frag) (mg : Str → Option Value) (base : Heap) : Prop where
  kin : K.In base
  glob : base.Ns mainGlobals mg
  blt : ∃ mb, base.Ns builtinsNs mb ∧ ∀ x : Str, x ≠ "__name__" → mb x = bootBuiltins x
  nolimit : base.NoLimit

/-- the context: a def's body (or a comprehension's block) running. base: fixed through the whole law; s₀, H₀: the entry; outer: the frames whose slots others may change (a def's callers); stack: all frames that run;
   ex: iterators that were made ahead of the entry and are walked here (a comprehension's); fn: the names whose cells were made at the entry (a def: all; a comprehension's block: its own); calm: not within an except suite; pn: pins that every state bears; xe: what is wanted of an exception that leaves the code -/
structure Cx where
  prog : Program
  w : World
  K : PySem.W.Frag
  mg : Str → Option Value
  base : Heap
  A : Around
  N : List Str
  s₀ : Shared
  H₀ : Hp
  env : Env
  outer : List Env
  stack : List Env
  ex : List Addr
  fn : Str → Bool
  calm : Bool
  pn : List (Addr × Obj)
  xe : Value → Shared → Prop
/-- the callers' frames -/
def frs (l : List Env) : List Addr := l.filterMap (·.frame)
abbrev Cx.fs (X : Cx) : List Addr := frs X.outer

def Vis (sc : Scope) (x : Str) : Prop := sc.names.lookup x = some .local ∨ sc.names.lookup x = some .cell ∨ sc.names.lookup x = some .free
def Loc (sc : Scope) (x : Str) : Prop := sc.names.lookup x = some .local ∨ sc.names.lookup x = some .cell
def Look (env : Env) (h : Heap) (m : Str → Option Value) (x : Str) (u : Value) : Prop :=
  (env.kindOf x = some .local ∧ m x = some u) ∨ ((env.kindOf x = some .cell ∨ env.kindOf x = some .free) ∧ ∃ c, env.cells.lookup x = some c ∧ h.IsCell c (some u))

structure Cx.Ok (X : Cx) : Prop where
  mod : Mod X.K X.mg X.base
  kind : X.env.scope.kind = .function
  glob : X.env.globals = mainGlobals
  blt : X.env.builtins = builtinsNs
  above : X.s₀.heap.objs.size ≤ X.env.locals
  inj : ∀ x y c, X.env.cells.lookup x = some c → X.env.cells.lookup y = some c → x = y
  has : ∀ x, (X.env.kindOf x = some .cell ∨ X.env.kindOf x = some .free) → ∃ c, X.env.cells.lookup x = some c
  cab : ∀ x c, X.fn x = true → X.env.cells.lookup x = some c → X.s₀.heap.objs.size ≤ c
  hd : X.calm = true → X.A.handled = none
  frames : X.A.frames = some X.stack
  stk : X.stack = X.outer ∨ (X.stack = X.env :: X.outer ∧ X.env.frame = some X.env.locals)
  exf : ∀ b ∈ X.ex, b ≠ X.env.locals ∧ ∀ x c, X.env.cells.lookup x = some c → c ≠ b
  bs : ∀ b o, X.base.get? b = some o → X.s₀.heap.get? b = some o ∧ X.H₀ b = none
  bsz : X.base.objs.size ≤ X.s₀.heap.objs.size
  noex : ∀ b o, X.base.get? b = some o → b ∉ X.ex
  exfs : ∀ b ∈ X.ex, b ∉ X.fs
  funs : X.s₀.heap.FunFrames X.base X.outer
  frf : ∀ b ∈ X.fs, X.H₀ b = none

structure Inv (X : Cx) (pins : List (Addr × Obj)) (σ : List (Option V)) (H : Hp) (s : Shared) : Prop where
  ok : X.Ok
  os : s.os = X.s₀.os
  bare : AllBare s.gens
  base : Un X.fs X.ex X.H₀ H X.s₀.heap s.heap
  loc : ∃ m, s.heap.Ns X.env.locals m ∧ ∀ (i : Nat) (x : Str) (v : V), X.N[i]? = some x → σ[i]? = some (some v) → Vis X.env.scope x → ∃ u, RelV v u ∧ Look X.env s.heap m x u
  cell : ∀ x c, X.env.cells.lookup x = some c → ∃ v, s.heap.IsCell c v
  free : H X.env.locals = none
  freeC : ∀ x c, X.env.cells.lookup x = some c → H c = none
  pin : ∀ p ∈ X.pn ++ pins, s.heap.get? p.1 = some p.2 ∧ H p.1 = none ∧ p.1 ≠ X.env.locals ∧ p.1 ∉ X.fs ∧ ∀ v, p.2.data ≠ .cell v
  hok : HOk X.prog X.w H s.heap
  len : σ.length = X.N.length

section
variable {X : Cx} {pins : List (Addr × Obj)} {σ : List (Option V)} {H H' : Hp} {s : Shared} {h' : Heap}

theorem Cx.Ok.nofr (ok : X.Ok) {b : Addr} {o : Obj} (e : X.base.get? b = some o) : b ∉ X.fs := fun hb => by
  have := (ok.funs.mem hb).1
  rw [e] at this; cases this
theorem Inv.bs (I : Inv X pins σ H s) : ∀ b o, X.base.get? b = some o → s.heap.get? b = some o ∧ H b = none := fun b o e =>
  ⟨I.base.keep b o (I.ok.bs b o e).1 (I.ok.bs b o e).2 (I.ok.nofr e) (I.ok.noex b o e), I.base.free b o (I.ok.bs b o e).1 (I.ok.bs b o e).2 (I.ok.noex b o e)⟩
theorem Inv.bk (I : Inv X pins σ H s) : ∀ b o, X.base.get? b = some o → s.heap.get? b = some o := fun b o e => (I.bs b o e).1
theorem Inv.mod (I : Inv X pins σ H s) : Mod X.K X.mg X.base := I.ok.mod
theorem Inv.kIn (I : Inv X pins σ H s) : X.K.In s.heap := I.ok.mod.kin.keeps I.bk
theorem Inv.nolimit (I : Inv X pins σ H s) : s.heap.NoLimit := I.ok.mod.nolimit.keeps I.bk
/-- the frame over the base: for OpenK's rules (K.In X.base is I.mod.kin) -/
theorem Inv.fr (I : Inv X pins σ H s) : ∃ m, Fr X.base X.env.locals s.heap m :=
  let ⟨m, hn, _⟩ := I.loc
  ⟨m, hn, I.bk, Nat.le_trans I.ok.bsz I.ok.above⟩
theorem Inv.lt (I : Inv X pins σ H s) : X.env.locals < s.heap.objs.size := let ⟨_, hn, _⟩ := I.loc; hn.lt
theorem Inv.sz (I : Inv X pins σ H s) : X.s₀.heap.objs.size ≤ s.heap.objs.size := Nat.le_trans I.ok.above (Nat.le_of_lt I.lt)
theorem Inv.nofs (I : Inv X pins σ H s) {a : Addr} (h : s.heap.objs.size ≤ a) : a ∉ X.fs := fun hb => by
  obtain ⟨_, o, ho, _⟩ := I.ok.funs.mem hb
  exact absurd (Nat.lt_of_lt_of_le (Heap.lt_size ho) (Nat.le_trans I.sz h)) (Nat.lt_irrefl _)
theorem Inv.cne (I : Inv X pins σ H s) : ∀ x c, X.env.cells.lookup x = some c → c ≠ X.env.locals := fun x c e z => by
  obtain ⟨v, o, ho, hd⟩ := I.cell x c e
  obtain ⟨m, ⟨o', es, ep, ho', hd', _⟩, _⟩ := I.loc
  rw [z, ho'] at ho; cases ho; rw [hd'] at hd; cases hd
theorem Inv.funs (I : Inv X pins σ H s) : s.heap.FunFrames X.base X.outer := by
  have all : ∀ (l : List Env), (∀ b ∈ frs l, b ∈ X.fs) → X.s₀.heap.FunFrames X.base l → s.heap.FunFrames X.base l := by
    intro l
    induction l with
    | nil => intro _ _; trivial
    | cons env r ih =>
      intro hs hl
      obtain ⟨hk, ⟨L, o, hf, hn, ho, hd⟩, hr⟩ := hl
      have hL : L ∈ X.fs := hs L (by unfold frs; rw [List.filterMap_cons, hf]; exact List.mem_cons_self)
      obtain ⟨sl, e⟩ := I.base.slot L o ho (I.ok.frf L hL) hL fun z => I.ok.exfs L z hL
      exact ⟨hk, ⟨L, _, hf, hn, e, hd⟩, ih (fun b hb => hs b (by unfold frs; rw [List.filterMap_cons, hf]; exact List.mem_cons_of_mem _ hb)) hr⟩
  exact all X.outer (fun _ hb => hb) I.ok.funs

/-- the frames that run, for a call -/
theorem Inv.stack (I : Inv X pins σ H s) : s.heap.FunFrames X.base X.stack := by
  rcases I.ok.stk with e | ⟨e, hf⟩
  · rw [e]; exact I.funs
  · rw [e]
    obtain ⟨m, hn, _⟩ := I.loc
    refine .cons (by rw [I.ok.kind]; decide) hf hn ?_ I.funs
    exact Heap.get?_none_of_le (Nat.le_trans I.ok.bsz I.ok.above)
theorem Inv.stkSub (I : Inv X pins σ H s) : ∀ b ∈ frs X.stack, b ∈ X.env.locals :: X.fs := fun b hb => by
  rcases I.ok.stk with e | ⟨e, hf⟩
  · rw [e] at hb; exact List.mem_cons_of_mem _ hb
  · rw [e] at hb
    unfold frs at hb
    rw [List.filterMap_cons, hf] at hb
    exact hb
theorem Inv.stkFree (I : Inv X pins σ H s) : ∀ b ∈ frs X.stack, H b = none := fun b hb => by
  rcases List.mem_cons.mp (I.stkSub b hb) with e | hb
  · rw [e]; exact I.free
  · obtain ⟨_, o, ho, _⟩ := I.ok.funs.mem hb
    exact I.base.free b o ho (I.ok.frf b hb) fun z => I.ok.exfs b z hb

/-- THE STEP: the untracked objects but the frame and the records at ch are kept (the callers' frames up to slots), the frame's map is kept, the new abstract heap is held -/
theorem Inv.step {g' : Array GenState} {t' : Nat} {d' : Drawn} {ch : List Addr} (I : Inv X pins σ H s)
    (hch : ∀ b ∈ ch, (b ∈ X.ex ∨ X.s₀.heap.objs.size ≤ b) ∧ b ≠ X.env.locals ∧ (∀ x c, X.env.cells.lookup x = some c → c ≠ b) ∧ ∀ p ∈ X.pn ++ pins, p.1 ≠ b)
    (keep : ∀ b o, b ≠ X.env.locals → b ∉ X.fs → b ∉ ch → s.heap.get? b = some o → H b = none → h'.get? b = some o)
    (slot : ∀ b o, b ≠ X.env.locals → b ∈ X.fs → b ∉ ch → s.heap.get? b = some o → H b = none → ∃ sl, h'.get? b = some { o with slots := sl }) (free : ∀ b o, b ∉ ch → s.heap.get? b = some o → H b = none → H' b = none)
    (there : ∀ b o, b ∉ ch → s.heap.get? b = some o → ∃ o', h'.get? b = some o')
    (tups : ∀ b xs, H b = some (.tup xs) → H' b = some (.tup xs)) (frzs : ∀ b o u, H b = some (.frz o u) → H' b = some (.frz o u)) (tbls : ∀ b ps, H b = some (.tbl ps) → ∃ more, H' b = some (.tbl (ps ++ more)))
    (ns : ∀ m, s.heap.Ns X.env.locals m → h'.Ns X.env.locals m) (hok : HOk X.prog X.w H' h') (hg : AllBare g') :
    Inv X pins σ H' { s with heap := h', gens := g', drawn := d', toks := t' } := by
  have neL : ∀ b o, X.s₀.heap.get? b = some o → b ≠ X.env.locals := fun b o e => Nat.ne_of_lt (Nat.lt_of_lt_of_le (Heap.lt_size e) I.ok.above)
  have neC : ∀ b o, X.s₀.heap.get? b = some o → b ∉ X.ex → b ∉ ch := fun b o e hx hb => by
    rcases (hch b hb).1 with z | z
    · exact hx z
    · exact absurd (Nat.lt_of_lt_of_le (Heap.lt_size e) z) (Nat.lt_irrefl _)
  have cellK : ∀ x c, X.env.cells.lookup x = some c → ∀ v, s.heap.IsCell c v → h'.IsCell c v := fun x c e v ⟨o, ho, hd⟩ => by
    have nch : c ∉ ch := fun z => (hch c z).2.2.1 x c e rfl
    by_cases hc : c ∈ X.fs
    · obtain ⟨sl, q⟩ := slot c o (I.cne x c e) hc nch ho (I.freeC x c e)
      exact ⟨_, q, hd⟩
    · exact ⟨o, keep c o (I.cne x c e) hc nch ho (I.freeC x c e), hd⟩
  refine ⟨I.ok, I.os, hg, ⟨fun b o e n hb hx => ?_, fun b o e n hb hx => ?_, fun b o e n hx => ?_, fun b o e hx => ?_, fun b xs e => tups b xs (I.base.tups b xs e), fun b o xs e => frzs b o xs (I.base.frzs b o xs e), fun b ps e => ?_⟩, ?_, fun x c e => ?_, ?_, fun x c e => ?_, fun p hp => ?_, hok, I.len⟩
  · exact keep b o (neL b o e) hb (neC b o e hx) (I.base.keep b o e n hb hx) (I.base.free b o e n hx)
  · obtain ⟨sl, e1⟩ := I.base.slot b o e n hb hx
    obtain ⟨sl', e2⟩ := slot b _ (neL b o e) hb (neC b o e hx) e1 (I.base.free b o e n hx)
    exact ⟨sl', e2⟩
  · obtain ⟨o', e1⟩ := I.base.there b o e hx
    exact free b o' (neC b o e hx) e1 (I.base.free b o e n hx)
  · obtain ⟨o', e1⟩ := I.base.there b o e hx
    exact there b o' (neC b o e hx) e1
  · obtain ⟨m1, e1⟩ := I.base.tbls b ps e
    obtain ⟨m2, e2⟩ := tbls b _ e1
    exact ⟨m1 ++ m2, by rw [e2, Array.append_assoc]⟩
  · obtain ⟨m, hn, hl⟩ := I.loc
    refine ⟨m, ns m hn, fun i x v e1 e2 e3 => ?_⟩
    obtain ⟨u, r, l⟩ := hl i x v e1 e2 e3
    refine ⟨u, r, ?_⟩
    rcases l with l | ⟨k, c, e, z⟩
    · exact .inl l
    · exact .inr ⟨k, c, e, cellK x c e _ z⟩
  · obtain ⟨v, z⟩ := I.cell x c e
    exact ⟨v, cellK x c e v z⟩
  · obtain ⟨m, ⟨o, _, _, ho, _⟩, _⟩ := I.loc
    exact free _ o (fun z => (hch _ z).2.1 rfl) ho I.free
  · obtain ⟨v, o, ho, hd⟩ := I.cell x c e
    exact free c o (fun z => (hch c z).2.2.1 x c e rfl) ho (I.freeC x c e)
  · obtain ⟨e, n, ne, nf, d⟩ := I.pin p hp
    have nch : p.1 ∉ ch := fun z => (hch p.1 z).2.2.2 p hp rfl
    exact ⟨keep p.1 p.2 ne nf nch e n, free p.1 p.2 nch e n, ne, nf, d⟩
/-- .. where the frame's own object is kept too -/
theorem Inv.un {t' : Nat} (I : Inv X pins σ H s) (u : Un X.fs [] H H' s.heap h') (hok : HOk X.prog X.w H' h') : Inv X pins σ H' { s with heap := h', toks := t' } := by
  obtain ⟨m, ⟨o, es, ep, ho, r⟩, _⟩ := id I.loc
  obtain ⟨sl, hL⟩ := u.any ho I.free (by simp)
  exact I.step (g' := s.gens) (d' := s.drawn) (ch := []) (fun _ z => nomatch z) (fun b o _ hb _ e n => u.keep b o e n hb (by simp)) (fun b o _ hb _ e n => u.slot b o e n hb (by simp)) (fun b o _ e n => u.free b o e n (by simp)) (fun b o _ e => u.there b o e (by simp)) u.tups u.frzs u.tbls (fun m' hm => by
    obtain ⟨o', es', ep', ho', r'⟩ := hm
    rw [ho] at ho'; cases ho'
    exact ⟨_, es', ep', hL, r'⟩) hok I.bare
/-- behind a call (or a comprehension's block): the slots of this frame may have changed too, the records at ch may have turned -/
theorem Inv.call {g' : Array GenState} {t' : Nat} {d' : Drawn} {ch : List Addr} (I : Inv X pins σ H s) (u : Un (frs X.stack) ch H H' s.heap h') (hok : HOk X.prog X.w H' h') (hg : AllBare g')
    (hch : ∀ b ∈ ch, (b ∈ X.ex ∨ X.s₀.heap.objs.size ≤ b) ∧ b ≠ X.env.locals ∧ (∀ x c, X.env.cells.lookup x = some c → c ≠ b) ∧ ∀ p ∈ X.pn ++ pins, p.1 ≠ b) :
    Inv X pins σ H' { s with heap := h', gens := g', drawn := d', toks := t' } := by
  obtain ⟨m, ⟨o, es, ep, ho, r⟩, _⟩ := id I.loc
  obtain ⟨sl, hL⟩ := u.any ho I.free fun z => (hch _ z).2.1 rfl
  exact I.step (ch := ch) hch (fun b o hL hb hc e n => u.keep b o e n (fun z => (List.mem_cons.mp (I.stkSub b z)).elim hL hb) hc) (fun b o _ _ hc e n => u.any e n hc) (fun b o hc e n => u.free b o e n hc) (fun b o hc e => u.there b o e hc) u.tups u.frzs u.tbls (fun m' hm => by
    obtain ⟨o', es', ep', ho', r'⟩ := hm
    rw [ho] at ho'; cases ho'
    exact ⟨_, es', ep', hL, r'⟩) hok hg
/-- an untracked record of ours (an iterator) has turned -/
theorem Inv.turned {t' : Nat} {it : Addr} (I : Inv X pins σ H s) (k : ∀ b o, b ≠ it → s.heap.get? b = some o → h'.get? b = some o) (hn : H it = none) (hL : it ≠ X.env.locals)
    (h1 : it ∈ X.ex ∨ X.s₀.heap.objs.size ≤ it) (h2 : ∀ x c, X.env.cells.lookup x = some c → c ≠ it) (h3 : ∀ p ∈ X.pn ++ pins, p.1 ≠ it) : Inv X pins σ H { s with heap := h', toks := t' } := by
  have nit : ∀ b u, H b = some u → b ≠ it := fun b u e z => by rw [z, hn] at e; cases e
  refine I.step (g' := s.gens) (d' := s.drawn) (ch := [it]) (fun b hb => ?_) (fun b o _ _ hc e _ => k b o (fun z => hc (by simp [z])) e) (fun b o _ _ hc e _ => ⟨o.slots, k b o (fun z => hc (by simp [z])) e⟩) (fun _ _ _ _ n => n)
    (fun b o hc e => ⟨o, k b o (fun z => hc (by simp [z])) e⟩) (fun _ _ e => e) (fun _ _ _ e => e) (fun b ps e => ⟨#[], by rw [e]; simp⟩) (fun m hm => ?_) (fun b u e => ?_) I.bare
  · have e : b = it := by simpa using hb
    subst e
    exact ⟨h1, hL, h2, h3⟩
  · obtain ⟨o, es, ep, ho, r⟩ := hm
    exact ⟨o, es, ep, k _ o (Ne.symm hL) ho, r⟩
  · refine (I.hok b u e).stay (fun c v hc q => k c v ?_ q) (fun _ q => q) fun _ _ q => q
    rcases hc with z | z
    · rw [z]; exact nit b u e
    · exact nit c _ z
theorem Inv.tok (I : Inv X pins σ H s) (t : Nat) : Inv X pins σ H { s with toks := t } := I.un (h' := s.heap) (t' := t) Un.refl I.hok
/-- all objects kept -/
theorem Inv.kept {t' : Nat} (I : Inv X pins σ H s) (k : ∀ b u, s.heap.get? b = some u → h'.get? b = some u) : Inv X pins σ H { s with heap := h', toks := t' } := I.un (Un.kept k) (I.hok.kept k)
/-- a new object laid and tracked -/
theorem Inv.laid {a : Addr} {o : HO} {t' : Nat} (I : Inv X pins σ H s) (k : ∀ b u, s.heap.get? b = some u → h'.get? b = some u) (hp : s.heap.objs.size ≤ a) (new : ObjOk X.prog X.w (upd H a o) h' a o) :
    Inv X pins σ (upd H a o) { s with heap := h', toks := t' } := I.un (Un.laid k hp (I.hok.fresh hp)) (I.hok.laid k hp new)
/-- an object written -/
theorem Inv.write {x e : Addr} {o : HO} {t' : Nat} (I : Inv X pins σ H s) (mu : Mut (H x)) (he : e = x ∨ H e = some (.own x)) (k : ∀ b u, b ≠ e → s.heap.get? b = some u → h'.get? b = some u) (heo : ∃ u, h'.get? e = some u)
    (new : ObjOk X.prog X.w (upd H x o) h' x o) : Inv X pins σ (upd H x o) { s with heap := h', toks := t' } := I.un (Un.write mu he k heo) (I.hok.write mu he k heo new)
/-- forgetting slots, pins -/
theorem Inv.weak {σ' : List (Option V)} (I : Inv X pins σ H s) (hl : σ'.length = σ.length) (w : ∀ (i : Nat) v, σ'[i]? = some (some v) → σ[i]? = some (some v)) : Inv X pins σ' H s :=
  ⟨I.ok, I.os, I.bare, I.base, let ⟨m, hn, hl'⟩ := I.loc; ⟨m, hn, fun i x v e1 e2 e3 => hl' i x v e1 (w i v e2) e3⟩, I.cell, I.free, I.freeC, I.pin, I.hok, hl.trans I.len⟩
theorem Inv.pins_of {pins' : List (Addr × Obj)} (I : Inv X pins σ H s) (h : ∀ p ∈ pins', s.heap.get? p.1 = some p.2 ∧ H p.1 = none ∧ p.1 ≠ X.env.locals ∧ p.1 ∉ X.fs ∧ ∀ v, p.2.data ≠ .cell v) : Inv X pins' σ H s :=
  ⟨I.ok, I.os, I.bare, I.base, I.loc, I.cell, I.free, I.freeC, fun p hp => (List.mem_append.mp hp).elim (fun z => I.pin p (List.mem_append_left _ z)) (h p), I.hok, I.len⟩

theorem nodup_ix {N : List Str} (hN : N.Nodup) {i j : Nat} {x : Str} (a : N[i]? = some x) (b : N[j]? = some x) : i = j := by
  obtain ⟨h1, e1⟩ := List.getElem?_eq_some_iff.mp a
  obtain ⟨h2, e2⟩ := List.getElem?_eq_some_iff.mp b
  exact (List.getElem_inj hN).mp (e1.trans e2.symm)

/-- a name is stored; what changed -/
theorem store_ok2 {M : Model} {A : Around} {E : Value → Shared → Prop} {i : Nat} {x : Str} {v : V} {u : Value} {Q : Unit → Shared → Prop} (I : Inv X pins σ H s) (hN : X.N.Nodup) (hi : X.N[i]? = some x) (hx : Loc X.env.scope x) (r : RelV v u)
    (h : ∀ s', Inv X pins (σ.set i (some v)) H s' → (∃ a, Heap.SameBut a s.heap s'.heap ∧ (a = X.env.locals ∨ X.env.cells.lookup x = some a)) → Q () s') (hf : X.fn x = true ∨ X.env.scope.names.lookup x = some .local := by first | exact .inl rfl | exact .inr rfl | assumption) : wpAny M A (storeName X.env x u) Q E s := by
  obtain ⟨m, hn, hl⟩ := id I.loc
  have hcls : (X.env.scope.kind == .class || (X.env.scope.kind == .module && X.env.locals != X.env.globals)) = false := by rw [I.ok.kind]; rfl
  have hiσ : i < σ.length := by rw [I.len]; exact (List.getElem?_eq_some_iff.mp hi).1
  have cne := I.cne
  have tracked : ∀ {a : Addr} {h' : Heap}, (∃ o, s.heap.get? a = some o ∧ H a = none) → Heap.SameBut a s.heap h' → HOk X.prog X.w H h' := fun {a h'} ha hs b ob e => by
    obtain ⟨_, _, hfree⟩ := ha
    refine (I.hok b ob e).stay (fun c w' hc q => (hs.2 c ?_).trans q) (fun _ q => q) fun _ _ q => q
    rintro rfl
    rcases hc with rfl | hc
    · rw [hfree] at e; cases e
    · rw [hfree] at hc; cases hc
  rcases hx with hk | hk
  · refine wpAny_storeName_local hk hn (fun h' hn' hs => ?_) hcls
    obtain ⟨oL, _, _, hoL, _⟩ := id hn
    refine h _ ⟨I.ok, I.os, I.bare, ⟨fun b o e n hb hx => ?_, fun b o e n hb hx => ?_, I.base.free, fun b o e hx => ?_, I.base.tups, I.base.frzs, I.base.tbls⟩, ⟨_, hn', fun j y v' e1 e2 e3 => ?_⟩, fun y c e => ?_, I.free, I.freeC, fun p hp => ?_, tracked ⟨oL, hoL, I.free⟩ hs, by simpa using I.len⟩ ⟨_, hs, .inl rfl⟩
    · exact (hs.2 b (Nat.ne_of_lt (Nat.lt_of_lt_of_le (Heap.lt_size e) I.ok.above))).trans (I.base.keep b o e n hb hx)
    · obtain ⟨sl, e1⟩ := I.base.slot b o e n hb hx
      exact ⟨sl, (hs.2 b (Nat.ne_of_lt (Nat.lt_of_lt_of_le (Heap.lt_size e) I.ok.above))).trans e1⟩
    · obtain ⟨o', e1⟩ := I.base.there b o e hx
      exact ⟨o', (hs.2 b (Nat.ne_of_lt (Nat.lt_of_lt_of_le (Heap.lt_size e) I.ok.above))).trans e1⟩
    · by_cases hj : j = i
      · subst hj
        rw [hi] at e1; cases e1
        rw [List.getElem?_set_self hiσ] at e2
        cases e2
        exact ⟨u, r, .inl ⟨hk, by simp⟩⟩
      · rw [List.getElem?_set_ne (Ne.symm hj)] at e2
        obtain ⟨u', r', q⟩ := hl j y v' e1 e2 e3
        refine ⟨u', r', ?_⟩
        rcases q with ⟨k, e⟩ | ⟨k, c, e, z⟩
        · refine .inl ⟨k, ?_⟩
          have : y ≠ x := fun e => hj (nodup_ix hN e1 (e ▸ hi))
          simp [this, e]
        · exact .inr ⟨k, c, e, z.sameBut hs (cne y c e)⟩
    · obtain ⟨w', z⟩ := I.cell y c e
      exact ⟨w', z.sameBut hs (cne y c e)⟩
    · obtain ⟨e, n, ne, nf, d⟩ := I.pin p hp
      exact ⟨(hs.2 p.1 ne).trans e, n, ne, nf, d⟩
  · have hfn : X.fn x = true := by
      rcases hf with z | z
      · exact z
      · rw [z] at hk; cases hk
    obtain ⟨c, hc⟩ := I.ok.has x (.inl hk)
    obtain ⟨w', z⟩ := I.cell x c hc
    refine wpAny_storeName_cell I.ok.kind hk hc z (fun h' hc' hs => ?_)
    obtain ⟨oc, hoc, hocd⟩ := id z
    refine h { s with heap := h' } ⟨I.ok, I.os, I.bare, ⟨fun b o e n hb hx => ?_, fun b o e n hb hx => ?_, I.base.free, fun b o e hx => ?_, I.base.tups, I.base.frzs, I.base.tbls⟩, ⟨m, hn.sameBut hs (Ne.symm (cne x c hc)), fun j y v' e1 e2 e3 => ?_⟩, fun y c' e => ?_, I.free, I.freeC, fun p hp => ?_, tracked ⟨oc, hoc, I.freeC x c hc⟩ hs, by simpa using I.len⟩ ⟨c, hs, .inr hc⟩
    · exact (hs.2 b (Nat.ne_of_lt (Nat.lt_of_lt_of_le (Heap.lt_size e) (I.ok.cab x c hfn hc)))).trans (I.base.keep b o e n hb hx)
    · obtain ⟨sl, e1⟩ := I.base.slot b o e n hb hx
      exact ⟨sl, (hs.2 b (Nat.ne_of_lt (Nat.lt_of_lt_of_le (Heap.lt_size e) (I.ok.cab x c hfn hc)))).trans e1⟩
    · obtain ⟨o', e1⟩ := I.base.there b o e hx
      exact ⟨o', (hs.2 b (Nat.ne_of_lt (Nat.lt_of_lt_of_le (Heap.lt_size e) (I.ok.cab x c hfn hc)))).trans e1⟩
    · by_cases hj : j = i
      · subst hj
        rw [hi] at e1; cases e1
        rw [List.getElem?_set_self hiσ] at e2
        cases e2
        exact ⟨u, r, .inr ⟨.inl hk, c, hc, hc'⟩⟩
      · rw [List.getElem?_set_ne (Ne.symm hj)] at e2
        obtain ⟨u', r', q⟩ := hl j y v' e1 e2 e3
        refine ⟨u', r', ?_⟩
        rcases q with q | ⟨k, c', e, z'⟩
        · exact .inl q
        · refine .inr ⟨k, c', e, z'.sameBut hs ?_⟩
          rintro rfl
          exact hj (nodup_ix hN e1 (I.ok.inj _ _ _ e hc ▸ hi))
    · by_cases hcc : c' = c
      · subst hcc; exact ⟨_, hc'⟩
      · obtain ⟨w2, z2⟩ := I.cell y c' e
        exact ⟨w2, z2.sameBut hs hcc⟩
    · obtain ⟨e, n, ne, nf, d⟩ := I.pin p hp
      refine ⟨(hs.2 p.1 ?_).trans e, n, ne, nf, d⟩
      intro q
      rw [q, hoc] at e
      have q' : oc = p.2 := Option.some.inj e
      exact d w' (by rw [← q']; exact hocd)
theorem store_ok {M : Model} {A : Around} {E : Value → Shared → Prop} {i : Nat} {x : Str} {v : V} {u : Value} {Q : Unit → Shared → Prop} (I : Inv X pins σ H s) (hN : X.N.Nodup) (hi : X.N[i]? = some x) (hx : Loc X.env.scope x) (r : RelV v u)
    (h : ∀ s', Inv X pins (σ.set i (some v)) H s' → Q () s') (hf : X.fn x = true ∨ X.env.scope.names.lookup x = some .local := by first | exact .inl rfl | exact .inr rfl | assumption) : wpAny M A (storeName X.env x u) Q E s :=
  store_ok2 I hN hi hx r (fun s' I' _ => h s' I') hf
/-- behind a call or a block, the state as it is -/
theorem Inv.call' {s' : Shared} {ch : List Addr} (I : Inv X pins σ H s) (ho : s'.os = s.os) (u : Un (frs X.stack) ch H H' s.heap s'.heap) (hok : HOk X.prog X.w H' s'.heap) (hg : AllBare s'.gens)
    (hch : ∀ b ∈ ch, (b ∈ X.ex ∨ X.s₀.heap.objs.size ≤ b) ∧ b ≠ X.env.locals ∧ (∀ x c, X.env.cells.lookup x = some c → c ≠ b) ∧ ∀ p ∈ X.pn ++ pins, p.1 ≠ b) : Inv X pins σ H' s' := by
  obtain ⟨h', g', d', t', o'⟩ := s'
  have e : o' = s.os := ho
  subst e
  exact I.call (g' := g') (t' := t') (d' := d') u hok hg hch
end

/-! ### the judgements -/
/-- an exception: its class, its own dict's address (where it has one), the abstract heap behind it -/
abbrev XK := Value → Option Addr → Hp → Prop
abbrev St := List (Option V)
abbrev VK := V → Hp → Prop
/-- an expression's reading; a test's; an argument list's -/
abbrev TE := St → Hp → VK → Prop
abbrev TT := St → Hp → (Bool → Hp → Prop) → Prop
abbrev TA := St → Hp → (List V → Hp → Prop) → Prop
/-- what is wanted behind a statement -/
structure Ends where
  nx : St → Hp → Prop
  rt : VK
  bk : St → Hp → Prop := fun _ _ => False
  ct : St → Hp → Prop := fun _ _ => False
abbrev TS := Ends → St → Hp → Prop

def EP (X : Cx) (pins : List (Addr × Obj)) (σ : St) (Q : VK) (u : Value) (s' : Shared) : Prop := ∃ v H', Inv X pins σ H' s' ∧ RelV v u ∧ Q v H'
def TP (X : Cx) (pins : List (Addr × Obj)) (σ : St) (Q : Bool → Hp → Prop) (b : Bool) (s' : Shared) : Prop := ∃ H', Inv X pins σ H' s' ∧ Q b H'
def AP (X : Cx) (pins : List (Addr × Obj)) (σ : St) (Q : List V → Hp → Prop) (us : List Value) (s' : Shared) : Prop := ∃ vs H', Inv X pins σ H' s' ∧ Vals vs us ∧ Q vs H'
def SP (X : Cx) (pins : List (Addr × Obj)) (D : Ends) (f : Flow) (s' : Shared) : Prop :=
  match f with
  | .next => ∃ σ' H', Inv X pins σ' H' s' ∧ D.nx σ' H'
  | .brk => ∃ σ' H', Inv X pins σ' H' s' ∧ D.bk σ' H'
  | .cont => ∃ σ' H', Inv X pins σ' H' s' ∧ D.ct σ' H'
  | .ret u => ∃ v σ' H', Inv X pins σ' H' s' ∧ RelV v u ∧ D.rt v H'

def PE (X : Cx) (e : Expr) (t : TE) : Prop :=
  ∀ (pins : List (Addr × Obj)) (s : Shared) (σ : St) (H : Hp) (Q : VK), Inv X pins σ H s → t σ H Q → wpAny (model X.prog X.w) X.A (eval e X.env) (EP X pins σ Q) X.xe s
def PT (X : Cx) (e : Expr) (t : TT) : Prop :=
  ∀ (pins : List (Addr × Obj)) (s : Shared) (σ : St) (H : Hp) (Q : Bool → Hp → Prop), Inv X pins σ H s → t σ H Q → wpAny (model X.prog X.w) X.A (isTrue e X.env (eval e X.env)) (TP X pins σ Q) X.xe s
/-- a test whatever its 'whole' is (and, or) -/
def PW (X : Cx) (e : Expr) (t : TT) : Prop :=
  ∀ (whole : Sem Value) (pins : List (Addr × Obj)) (s : Shared) (σ : St) (H : Hp) (Q : Bool → Hp → Prop), Inv X pins σ H s → t σ H Q → wpAny (model X.prog X.w) X.A (isTrue e X.env whole) (TP X pins σ Q) X.xe s
theorem PW.pt {X : Cx} {e : Expr} {t : TT} (h : PW X e t) : PT X e t := h _
/-- an argument list (no star), from the left -/
def PA (X : Cx) (es : List Expr) (t : TA) : Prop :=
  ∀ (pos : Pos) (pins : List (Addr × Obj)) (s : Shared) (σ : St) (H : Hp) (Q : List V → Hp → Prop), Inv X pins σ H s → t σ H Q → wpAny (model X.prog X.w) X.A (spliced (backTo pos (starEach es X.env))) (AP X pins σ Q) X.xe s
def PS (X : Cx) (st : Stmt) (t : TS) : Prop :=
  ∀ (pins : List (Addr × Obj)) (s : Shared) (σ : St) (H : Hp) (D : Ends), Inv X pins σ H s → t D σ H → wpAny (model X.prog X.w) X.A (exec st X.env) (SP X pins D) X.xe s
def PSs (X : Cx) (st : List Stmt) (t : TS) : Prop :=
  ∀ (pins : List (Addr × Obj)) (s : Shared) (σ : St) (H : Hp) (D : Ends), Inv X pins σ H s → t D σ H → wpAny (model X.prog X.w) X.A (execs st X.env) (SP X pins D) X.xe s
/-- weaken the end -/
theorem thn {α : Type} {t : Sem α} {Q Q' : α → Shared → Prop} {M : Model} {A : Around} {E : Value → Shared → Prop} {s : Shared} (h : wpAny M A t Q E s) (hQ : ∀ a s, Q a s → Q' a s) : wpAny M A t Q' E s := wpAny_mono h hQ fun _ _ x => x
end L2

namespace L2
open PySem PySem.Spec PyProof.Rows
section
variable {X : Cx}

/-- two expressions in a row -/
theorem bin {a b : Expr} {ta tb : TE} (ha : PE X a ta) (hb : PE X b tb) {pins : List (Addr × Obj)} {s : Shared} {σ : St} {H : Hp} {R : V → V → Hp → Prop} (I : Inv X pins σ H s) (h : ta σ H fun x H1 => tb σ H1 fun y H2 => R x y H2)
    {α : Type} {Q : α → Shared → Prop} {f : Value → Value → Sem α}
    (hf : ∀ v u s2 x y H2, Inv X pins σ H2 s2 → RelV x v → RelV y u → R x y H2 → wpAny (model X.prog X.w) X.A (f v u) Q X.xe s2) :
    wpAny (model X.prog X.w) X.A (eval a X.env) (fun v s₁ => wpAny (model X.prog X.w) X.A (eval b X.env) (fun u s₂ => wpAny (model X.prog X.w) X.A (f v u) Q X.xe s₂) X.xe s₁) X.xe s := by
  refine thn (ha pins s σ H _ I h) fun v s1 ⟨x, H1, I1, r1, q1⟩ => ?_
  refine thn (hb pins s1 σ H1 _ I1 q1) fun u s2 ⟨y, H2, I2, r2, q2⟩ => ?_
  exact hf v u s2 x y H2 I2 r1 r2 q2

/-! ### names and constants -/
def tVar (i : Nat) : TE := fun σ H Q => ∃ v, σ[i]? = some (some v) ∧ Q v H
def tC (v : V) : TE := fun _ H Q => Q v H
theorem pe_var {i : Nat} {x : Str} {pos : Pos} (hN : X.N[i]? = some x) (hv : Vis X.env.scope x) (hd : (x == ("__debug__" : Str)) = false := by decide) (hcd : (x == ("__classdict__" : Str)) = false := by decide) : PE X (.Name x pos) (tVar i) := by
  intro pins s σ H Q I h
  obtain ⟨v, e, h⟩ := h
  obtain ⟨m, hn, hl⟩ := I.loc
  obtain ⟨u, r, l⟩ := hl i x v hN e hv
  have fin : EP X pins σ Q u s := ⟨v, H, I, r, h⟩
  rcases l with ⟨hk, hm⟩ | ⟨hk, c, hc, hcell⟩
  · exact wpAny_Name (wpAny_loadName_local I.ok.kind hk hn hm fin) hd
  · rcases hk with hk | hk
    · exact wpAny_Name (wpAny_loadName_cell I.ok.kind hk hc hcell fin) hd
    · exact wpAny_Name (wpAny_loadName_free I.ok.kind hk hc hcell fin hcd) hd
theorem pe_int {i j pos} : PE X (.Constant (.int i) j pos) (tC (.int i)) := fun _ _ _ H _ I h => wpAny_Constant_int ⟨.int i, H, I.tok _, ⟨_, rfl⟩, h⟩
theorem pe_bl {b j pos} : PE X (.Constant (.bool b) j pos) (tC (.bl b)) := fun _ _ _ H _ I h => Constant_bool ⟨.bl b, H, I, rfl, h⟩
theorem pe_non {j pos} : PE X (.Constant .none j pos) (tC .non) := fun _ _ _ H _ I h => Constant_none ⟨.non, H, I, rfl, h⟩
theorem pe_str {x j pos} : PE X (.Constant (.str x) j pos) (tC (.str x)) := fun _ _ _ H _ I h => Calls.Constant_str ⟨.str x, H, I.tok _, ⟨_, rfl⟩, h⟩

/-- a global name of the def -/
def Gl (X : Cx) (x : Str) : Prop := X.env.kindOf x = some .globalImplicit
theorem ld_glob {E : Value → Shared → Prop} {pins : List (Addr × Obj)} {s : Shared} {σ : St} {H : Hp} {x : Str} {u : Value} {pos : Pos} {Q : Value → Shared → Prop} (I : Inv X pins σ H s) (hg : Gl X x) (hm : X.mg x = some u) (h : Q u s)
    (hd : (x == ("__debug__" : Str)) = false := by decide) : wpAny (model X.prog X.w) X.A (eval (.Name x pos) X.env) Q E s :=
  Calls.Name_function_global I.ok.kind hg (Calls.loadGlobal_global (by rw [I.ok.glob]; exact I.mod.glob.keeps I.bk) hm h) hd
theorem ld_blt {E : Value → Shared → Prop} {pins : List (Addr × Obj)} {s : Shared} {σ : St} {H : Hp} {x : Str} {u : Value} {pos : Pos} {Q : Value → Shared → Prop} (I : Inv X pins σ H s) (hg : Gl X x) (hm : X.mg x = none) (hv : bootBuiltins x = some u) (h : Q u s)
    (hn : x ≠ "__name__" := by decide) (hd : (x == ("__debug__" : Str)) = false := by decide) : wpAny (model X.prog X.w) X.A (eval (.Name x pos) X.env) Q E s := by
  obtain ⟨mb, h1, h2⟩ := I.mod.blt
  exact Calls.Name_function_global I.ok.kind hg (Calls.loadGlobal_builtin (by rw [I.ok.glob]; exact I.mod.glob.keeps I.bk) hm (by rw [I.ok.blt]; exact h1.keeps I.bk) ((h2 x hn).trans hv) h) hd
/-- a module's constant, a class, a function, as a value -/
theorem pe_glob {x : Str} {v : V} {u : Value} {pos : Pos} (hg : Gl X x) (hm : X.mg x = some u) (r : RelV v u) (hd : (x == ("__debug__" : Str)) = false := by decide) : PE X (.Name x pos) (tC v) :=
  fun _ _ _ H _ I h => ld_glob I hg hm ⟨v, H, I, r, h⟩ hd
theorem pe_bltn {x : Str} {v : V} {u : Value} {pos : Pos} (hg : Gl X x) (hm : X.mg x = none) (hv : bootBuiltins x = some u) (r : RelV v u) (hn : x ≠ "__name__" := by decide) (hd : (x == ("__debug__" : Str)) = false := by decide) : PE X (.Name x pos) (tC v) :=
  fun _ _ _ H _ I h => ld_blt I hg hm hv ⟨v, H, I, r, h⟩ hn hd

/-! ### arithmetic -/
/-- two ints -/
def t2I (ta tb : TE) (k : Int → Int → Hp → Prop) : St → Hp → Prop := fun σ H => ta σ H fun x H1 => tb σ H1 fun y H2 => ∃ i j, x = .int i ∧ y = .int j ∧ k i j H2
def tAdd (ta tb : TE) : TE := fun σ H Q => t2I ta tb (fun i j H2 => Q (.int (i + j)) H2) σ H
def tSub (ta tb : TE) : TE := fun σ H Q => t2I ta tb (fun i j H2 => Q (.int (i - j)) H2) σ H
/-- the left factor below 2^64 -/
def tMul (ta tb : TE) : TE := fun σ H Q => t2I ta tb (fun i j H2 => (-(2 ^ 64) < i ∧ i < 2 ^ 64) ∧ Q (.int (i * j)) H2) σ H
variable {a b : Expr} {ta tb : TE} {pos : Pos}
theorem pe_add (ha : PE X a ta) (hb : PE X b tb) : PE X (.BinOp a .Add b pos) (tAdd ta tb) := by
  intro pins s σ H Q I h
  refine wpAny_BinOp (bin ha hb I h fun v u s2 x y H2 I2 rx ry q => ?_)
  obtain ⟨i, j, rfl, rfl, q⟩ := q
  obtain ⟨t, rfl⟩ := rx
  obtain ⟨t', rfl⟩ := ry
  exact add_int ⟨.int _, H2, I2.tok _, ⟨_, rfl⟩, q⟩
theorem pe_sub (ha : PE X a ta) (hb : PE X b tb) : PE X (.BinOp a .Sub b pos) (tSub ta tb) := by
  intro pins s σ H Q I h
  refine wpAny_BinOp (bin ha hb I h fun v u s2 x y H2 I2 rx ry q => ?_)
  obtain ⟨i, j, rfl, rfl, q⟩ := q
  obtain ⟨t, rfl⟩ := rx
  obtain ⟨t', rfl⟩ := ry
  exact sub_int ⟨.int _, H2, I2.tok _, ⟨_, rfl⟩, q⟩
theorem pe_mul (ha : PE X a ta) (hb : PE X b tb) : PE X (.BinOp a .Mult b pos) (tMul ta tb) := by
  intro pins s σ H Q I h
  refine wpAny_BinOp (bin ha hb I h fun v u s2 x y H2 I2 rx ry q => ?_)
  obtain ⟨i, j, rfl, rfl, ⟨q1, q2⟩, q⟩ := q
  obtain ⟨t, rfl⟩ := rx
  obtain ⟨t', rfl⟩ := ry
  exact mul_int ⟨.int _, H2, I2.tok _, ⟨_, rfl⟩, q⟩ (.of_left (intBits_le_64 q1 q2))

/-! ### comparisons -/
def PC (X : Cx) (op : CmpOp) (a b : Expr) (t : TE) : Prop :=
  ∀ (pins : List (Addr × Obj)) (s : Shared) (σ : St) (H : Hp) (Q : VK), Inv X pins σ H s → t σ H Q →
    wpAny (model X.prog X.w) X.A (eval a X.env) (fun v s₁ => wpAny (model X.prog X.w) X.A (eval b X.env) (fun u s₂ => wpAny (model X.prog X.w) X.A (compareOp op v u) (EP X pins σ Q) X.xe s₂) X.xe s₁) X.xe s
theorem nobehind (b : Expr) {op : CmpOp} (h : op ≠ .In) (h2 : op ≠ .NotIn) : behindInMarks op b = false := by
  have e1 : (op == CmpOp.In) = false := by cases op <;> first | rfl | exact absurd rfl h
  have e2 : (op == CmpOp.NotIn) = false := by cases op <;> first | rfl | exact absurd rfl h2
  cases b <;> simp [behindInMarks, e1, e2]
def tCmp (p : Int → Int → Bool) (ta tb : TE) : TE := fun σ H Q => t2I ta tb (fun i j H2 => Q (.bl (p i j)) H2) σ H
abbrev tLt : TE → TE → TE := tCmp fun i j => decide (i < j)
abbrev tLe : TE → TE → TE := tCmp fun i j => decide (i ≤ j)
abbrev tGt : TE → TE → TE := tCmp fun i j => decide (j < i)
abbrev tGe : TE → TE → TE := tCmp fun i j => decide (j ≤ i)
abbrev tEqI : TE → TE → TE := tCmp fun i j => decide (i = j)
abbrev tNeI : TE → TE → TE := tCmp fun i j => !decide (i = j)
/-- a comparison of two ints, by its rule -/
theorem pc_int {op : CmpOp} {p : Int → Int → Bool} (ha : PE X a ta) (hb : PE X b tb)
    (rule : ∀ (i j : Int) (t u : Tok) (Q : Value → Shared → Prop) (s : Shared), Q (.bool (p i j)) s → wpAny (model X.prog X.w) X.A (compareOp op (.int i t) (.int j u)) Q X.xe s) : PC X op a b (tCmp p ta tb) := by
  intro pins s σ H Q I h
  refine bin ha hb I h fun v u s2 x y H2 I2 rx ry q => ?_
  obtain ⟨i, j, rfl, rfl, q⟩ := q
  obtain ⟨t, rfl⟩ := rx
  obtain ⟨t', rfl⟩ := ry
  exact rule i j t t' _ s2 ⟨.bl _, H2, I2, rfl, q⟩
theorem pc_lt (ha : PE X a ta) (hb : PE X b tb) : PC X .Lt a b (tLt ta tb) := pc_int ha hb fun _ _ _ _ _ _ h => lt_int h
theorem pc_le (ha : PE X a ta) (hb : PE X b tb) : PC X .LtE a b (tLe ta tb) := pc_int ha hb fun _ _ _ _ _ _ h => le_int h
theorem pc_gt (ha : PE X a ta) (hb : PE X b tb) : PC X .Gt a b (tGt ta tb) := pc_int ha hb fun _ _ _ _ _ _ h => gt_int h
theorem pc_ge (ha : PE X a ta) (hb : PE X b tb) : PC X .GtE a b (tGe ta tb) := pc_int ha hb fun _ _ _ _ _ _ h => ge_int h
theorem pc_eqI (ha : PE X a ta) (hb : PE X b tb) : PC X .Eq a b (tEqI ta tb) := pc_int ha hb fun _ _ _ _ _ _ h => eq_int (by rw [Bool.beq_eq_decide_eq]; exact h)
theorem pc_neI (ha : PE X a ta) (hb : PE X b tb) : PC X .NotEq a b (tNeI ta tb) := pc_int ha hb fun _ _ _ _ _ _ h => ne_int (by rw [bne, Bool.beq_eq_decide_eq]; exact h)
/-- is None -/
def tIsN (ta : TE) : TE := fun σ H Q => ta σ H fun x H1 => Q (.bl (decide (x = .non))) H1
def tNotN (ta : TE) : TE := fun σ H Q => ta σ H fun x H1 => Q (.bl (!decide (x = .non))) H1
theorem RelV.none_iff {x : V} {v : Value} (r : RelV x v) : (v == Value.none) = decide (x = .non) := by
  cases x with
  | non => cases r; rfl
  | bl _ => cases r; rfl
  | int _ => obtain ⟨t, rfl⟩ := r; rfl
  | str _ => obtain ⟨t, rfl⟩ := r; rfl
  | byt _ => obtain ⟨t, rfl⟩ := r; rfl
  | flt _ => obtain ⟨t, rfl⟩ := r; rfl
  | ref _ => cases r; rfl
  | ty _ => cases r; rfl
theorem pc_isN {j pos'} (ha : PE X a ta) : PC X .Is a (.Constant .none j pos') (tIsN ta) := by
  intro pins s σ H Q I h
  refine thn (ha pins s σ H _ I h) fun v s1 ⟨x, H1, I1, r1, q1⟩ => ?_
  exact Constant_none (is_none_gen ⟨.bl _, H1, I1, by rw [r1.none_iff]; rfl, q1⟩)
theorem pc_notN {j pos'} (ha : PE X a ta) : PC X .IsNot a (.Constant .none j pos') (tNotN ta) := by
  intro pins s σ H Q I h
  refine thn (ha pins s σ H _ I h) fun v s1 ⟨x, H1, I1, r1, q1⟩ => ?_
  exact Constant_none (isnot_none_gen ⟨.bl _, H1, I1, by rw [r1.none_iff]; rfl, q1⟩)
/-- a comparison as a value, as a test -/
def tB (t : TE) : TT := fun σ H Q => t σ H fun x H1 => ∃ c, x = .bl c ∧ Q c H1
theorem pe_cmp {op : CmpOp} {t : TE} (h : PC X op a b t) (h1 : behindInMarks op b = false := by first | exact nobehind _ (by decide) (by decide) | rfl) : PE X (.Compare a [op] [b] pos) t := fun pins s σ H Q I hw => wpAny_Compare1 (h pins s σ H Q I hw) h1
theorem pt_cmp {op : CmpOp} {t : TE} (h : PC X op a b t) (h1 : behindInMarks op b = false := by first | exact nobehind _ (by decide) (by decide) | rfl) : PT X (.Compare a [op] [b] pos) (tB t) := by
  intro pins s σ H Q I hw
  refine wpAny_isTrue_Compare1 (thn (h pins s σ H _ I hw) fun v s1 h1 => thn h1 fun u s2 h2 => thn h2 fun c s3 ⟨x, H1, I1, r1, q1⟩ => ?_) h1
  obtain ⟨d, rfl, q⟩ := q1
  cases r1
  exact wpAny_truthy_bool ⟨H1, I1, q⟩
/-- an expression whose value is a bool, as a test -/
theorem pt_val {e : Expr} {t : TE} (h : PE X e t) (he : ∀ whole, isTrue e X.env whole = (do let v ← whole; standAt e.pos; holding [v] (truthy v)) := by intro _; rfl) : PT X e (tB t) := by
  intro pins s σ H Q I hw
  refine isTrue_plain (thn (h pins s σ H _ I hw) fun v s1 ⟨x, H1, I1, r1, q1⟩ => ?_) (he _)
  obtain ⟨d, rfl, q⟩ := q1
  cases r1
  exact wpAny_truthy_bool ⟨H1, I1, q⟩

/-! ### and, or, not -/
variable {tA tB' : TT} {rest : List Expr}
def tAnd (t u : TT) : TT := fun σ H Q => t σ H fun c H1 => if c = true then u σ H1 Q else Q false H1
def tOr (t u : TT) : TT := fun σ H Q => t σ H fun c H1 => if c = true then Q true H1 else u σ H1 Q
def tNot (t : TT) : TT := fun σ H Q => t σ H fun c H1 => Q (!c) H1
theorem pw_and1 (ha : PT X a tA) : PW X (.BoolOp .And [a] pos) tA := by
  intro wh pins s σ H Q I h
  refine isTrue_and (thn (ha pins s σ H Q I h) fun c s1 e => ?_)
  cases c with
  | true => exact isTrue_and_nil e
  | false => exact e
theorem pw_or1 (ha : PT X a tA) : PW X (.BoolOp .Or [a] pos) tA := by
  intro wh pins s σ H Q I h
  refine isTrue_or (thn (ha pins s σ H Q I h) fun c s1 e => ?_)
  cases c with
  | false => exact isTrue_or_nil e
  | true => exact e
theorem pw_and (ha : PT X a tA) (hb : PW X (.BoolOp .And (b :: rest) pos) tB') : PW X (.BoolOp .And (a :: b :: rest) pos) (tAnd tA tB') := by
  intro wh pins s σ H Q I h
  refine isTrue_and (thn (ha pins s σ H _ I h) fun c s1 ⟨H1, I1, q1⟩ => ?_)
  cases c with
  | true => exact hb wh pins s1 σ H1 Q I1 q1
  | false => exact ⟨H1, I1, q1⟩
theorem pw_or (ha : PT X a tA) (hb : PW X (.BoolOp .Or (b :: rest) pos) tB') : PW X (.BoolOp .Or (a :: b :: rest) pos) (tOr tA tB') := by
  intro wh pins s σ H Q I h
  refine isTrue_or (thn (ha pins s σ H _ I h) fun c s1 ⟨H1, I1, q1⟩ => ?_)
  cases c with
  | true => exact ⟨H1, I1, q1⟩
  | false => exact hb wh pins s1 σ H1 Q I1 q1
theorem pt_not (ha : PT X a tA) : PT X (.UnaryOp .Not a pos) (tNot tA) := by
  intro pins s σ H Q I h
  exact isTrue_not (ha pins s σ H (fun c H1 => Q (!c) H1) I h)
/-- .. as values (bools) -/
def tAndV (ta tb : TE) : TE := fun σ H Q => ta σ H fun x H1 => ∃ c, x = .bl c ∧ if c = true then tb σ H1 Q else Q (.bl false) H1
def tOrV (ta tb : TE) : TE := fun σ H Q => ta σ H fun x H1 => ∃ c, x = .bl c ∧ if c = true then Q (.bl true) H1 else tb σ H1 Q
def tNotV (ta : TE) : TE := fun σ H Q => ta σ H fun x H1 => ∃ c, x = .bl c ∧ Q (.bl (!c)) H1
theorem pe_one {op} {t : TE} (h : PE X a t) : PE X (.BoolOp op [a] pos) t := fun pins s σ H Q I hw => BoolOp_one (h pins s σ H Q I hw)
theorem pe_and (ha : PE X a ta) (hb : PE X (.BoolOp .And (b :: rest) pos) tb) : PE X (.BoolOp .And (a :: b :: rest) pos) (tAndV ta tb) := by
  intro pins s σ H Q I h
  refine BoolOp_and (thn (ha pins s σ H _ I h) fun v s1 ⟨x, H1, I1, r1, q1⟩ => ?_)
  obtain ⟨c, rfl, q1⟩ := q1
  cases r1
  refine wpAny_truthy_bool ?_
  cases c with
  | true => exact hb pins s1 σ H1 Q I1 q1
  | false => exact ⟨.bl false, H1, I1, rfl, q1⟩
theorem pe_or (ha : PE X a ta) (hb : PE X (.BoolOp .Or (b :: rest) pos) tb) : PE X (.BoolOp .Or (a :: b :: rest) pos) (tOrV ta tb) := by
  intro pins s σ H Q I h
  refine BoolOp_or (thn (ha pins s σ H _ I h) fun v s1 ⟨x, H1, I1, r1, q1⟩ => ?_)
  obtain ⟨c, rfl, q1⟩ := q1
  cases r1
  refine wpAny_truthy_bool ?_
  cases c with
  | false => exact hb pins s1 σ H1 Q I1 q1
  | true => exact ⟨.bl true, H1, I1, rfl, q1⟩
theorem pe_not (ha : PE X a ta) : PE X (.UnaryOp .Not a pos) (tNotV ta) := by
  intro pins s σ H Q I h
  refine UnaryOp_ (thn (ha pins s σ H _ I h) fun v s1 ⟨x, H1, I1, r1, q1⟩ => ?_)
  obtain ⟨c, rfl, q1⟩ := q1
  cases r1
  exact not_of (wpAny_truthy_bool ⟨.bl (!c), H1, I1, rfl, q1⟩)
/-- a if t else b -/
def tIf (t : TT) (ta tb : TE) : TE := fun σ H Q => t σ H fun c H1 => if c = true then ta σ H1 Q else tb σ H1 Q
theorem pe_ifExp {c : Expr} (hc : PT X c tA) (ha : PE X a ta) (hb : PE X b tb) : PE X (.IfExp c a b pos) (tIf tA ta tb) := by
  intro pins s σ H Q I h
  refine wpAny_IfExp (thn (hc pins s σ H _ I h) fun d s1 ⟨H1, I1, q1⟩ => ?_)
  cases d with
  | true => exact ha pins s1 σ H1 Q I1 q1
  | false => exact hb pins s1 σ H1 Q I1 q1
end
end L2

namespace L2
open PySem PySem.Spec PyProof.Rows

/-! ### a list, a tuple that is read: tracked, frozen, or an object of the module -/
def SqL (K : PySem.W.Frag) (H : Hp) (a : Addr) (xs : List V) : Prop :=
  Rd H a (.lst xs) ∨
    ∃ (o : Obj) (its : Array Value) (n : Nat), K.lookup a = some o ∧ o.cls = .type "list" ∧ o.dict = none ∧ o.data = .seq its n ∧ its.size ≤ sizeLine ∧ Vals xs its.toList
def SqT (K : PySem.W.Frag) (H : Hp) (a : Addr) (xs : List V) : Prop :=
  Rd H a (.tup xs) ∨
    ∃ (o : Obj) (its : Array Value) (n : Nat), K.lookup a = some o ∧ o.cls = .type "tuple" ∧ o.data = .seq its n ∧ its.size ≤ sizeLine ∧ Vals xs its.toList
def absV : Value → Option V
  | .none => some .non
  | .bool b => some (.bl b)
  | .int i _ => some (.int i)
  | .str x _ => some (.str x)
  | .bytes b _ => some (.byt b)
  | .float b _ => some (.flt b)
  | .ref a => some (.ref a)
  | .type n => some (.ty n)
  | _ => none
theorem RelV.abs {x : V} {u : Value} (r : RelV x u) : absV u = some x := by
  cases x with
  | non => cases r; rfl
  | bl _ => cases r; rfl
  | int _ => obtain ⟨t, rfl⟩ := r; rfl
  | str _ => obtain ⟨t, rfl⟩ := r; rfl
  | byt _ => obtain ⟨t, rfl⟩ := r; rfl
  | flt _ => obtain ⟨t, rfl⟩ := r; rfl
  | ref _ => cases r; rfl
  | ty _ => cases r; rfl
theorem RelV.inj {x y : V} {u : Value} (r : RelV x u) (q : RelV y u) : x = y := Option.some.inj (r.abs.symm.trans q.abs)
theorem Vals.inj : ∀ {xs ys : List V} {us : List Value}, Vals xs us → Vals ys us → xs = ys
  | _, _, _, .nil, .nil => rfl
  | _, _, _, .cons r t, .cons r' t' => by rw [r.inj r', Vals.inj t t']
section
variable {X : Cx} {pins : List (Addr × Obj)} {σ : St} {H : Hp} {s : Shared} {a : Addr} {xs ys : List V}
theorem SqL.of {K : PySem.W.Frag} (h : H a = some (.lst xs)) : SqL K H a xs := .inl (.inl h)
theorem SqT.of {K : PySem.W.Frag} (h : H a = some (.tup xs)) : SqT K H a xs := .inl (.inl h)
theorem Inv.list (I : Inv X pins σ H s) (h : SqL X.K H a xs) : ∃ its : List Value, Vals xs its ∧ PlainL s.heap a its.toArray ∧ xs.length ≤ sizeLine := by
  rcases h with h | ⟨o, its, n, hk, hc, hd, hs, hz, r⟩
  · obtain ⟨z, its, n, r, e⟩ := h.ok I.hok
    exact ⟨its, r, ⟨_, n, e, rfl, rfl, rfl⟩, z⟩
  · refine ⟨its.toList, r, ⟨o, n, I.kIn a o hk, hc, hd, by simpa using hs⟩, ?_⟩
    have e := r.length
    simp only [Array.length_toList] at e
    omega
theorem Inv.tuple (I : Inv X pins σ H s) (h : SqT X.K H a xs) : ∃ its : List Value, Vals xs its ∧ IsTup s.heap a its.toArray ∧ xs.length ≤ sizeLine := by
  rcases h with h | ⟨o, its, n, hk, hc, hs, hz, r⟩
  · obtain ⟨z, its, r, p⟩ := h.ok I.hok
    exact ⟨its, r, p, z⟩
  · refine ⟨its.toList, r, ⟨o, I.kIn a o hk, hc, n, by simpa using hs⟩, ?_⟩
    have e := r.length
    simp only [Array.length_toList] at e
    omega
theorem Inv.list_inj (I : Inv X pins σ H s) (h : SqL X.K H a xs) (h' : SqL X.K H a ys) : xs = ys := by
  obtain ⟨its, r, ⟨o, n, e, _, _, d⟩, _⟩ := I.list h
  obtain ⟨its', r', ⟨o', n', e', _, _, d'⟩, _⟩ := I.list h'
  rw [e] at e'; cases e'
  rw [d] at d'
  injection d' with d1 _
  have : its = its' := by simpa using congrArg Array.toList d1
  subst this
  exact r.inj r'
theorem Inv.tuple_inj (I : Inv X pins σ H s) (h : SqT X.K H a xs) (h' : SqT X.K H a ys) : xs = ys := by
  obtain ⟨its, r, ⟨o, e, _, n, d⟩, _⟩ := I.tuple h
  obtain ⟨its', r', ⟨o', e', _, n', d'⟩, _⟩ := I.tuple h'
  rw [e] at e'; cases e'
  rw [d] at d'
  injection d' with d1 _
  have : its = its' := by simpa using congrArg Array.toList d1
  subst this
  exact r.inj r'
end

/-! ### another wish about exceptions -/
abbrev Cx.wish (X : Cx) (E : Value → Shared → Prop) : Cx := { X with xe := E }
/-- no exception leaves -/
abbrev Cx.nox (X : Cx) : Cx := X.wish fun _ _ => False
theorem Cx.Ok.wish {X : Cx} (ok : X.Ok) (E : Value → Shared → Prop) : (X.wish E).Ok :=
  ⟨ok.mod, ok.kind, ok.glob, ok.blt, ok.above, ok.inj, ok.has, ok.cab, ok.hd, ok.frames, ok.stk, ok.exf, ok.bs, ok.bsz, ok.noex, ok.exfs, ok.funs, ok.frf⟩
theorem Cx.Ok.unwish {X : Cx} {E : Value → Shared → Prop} (ok : (X.wish E).Ok) : X.Ok :=
  ⟨ok.mod, ok.kind, ok.glob, ok.blt, ok.above, ok.inj, ok.has, ok.cab, ok.hd, ok.frames, ok.stk, ok.exf, ok.bs, ok.bsz, ok.noex, ok.exfs, ok.funs, ok.frf⟩
section
variable {X : Cx} {pins : List (Addr × Obj)} {σ : St} {H : Hp} {s : Shared} {E : Value → Shared → Prop}
theorem Inv.wish (I : Inv X pins σ H s) (E : Value → Shared → Prop) : Inv (X.wish E) pins σ H s := ⟨I.ok.wish E, I.os, I.bare, I.base, I.loc, I.cell, I.free, I.freeC, I.pin, I.hok, I.len⟩
theorem Inv.unwish (I : Inv (X.wish E) pins σ H s) : Inv X pins σ H s := ⟨I.ok.unwish, I.os, I.bare, I.base, I.loc, I.cell, I.free, I.freeC, I.pin, I.hok, I.len⟩
theorem SP.unwish {D : Ends} {f : Flow} {s' : Shared} (h : SP (X.wish E) pins D f s') : SP X pins D f s' := by
  cases f with
  | next => obtain ⟨σ', H', I, q⟩ := h; exact ⟨σ', H', I.unwish, q⟩
  | brk => obtain ⟨σ', H', I, q⟩ := h; exact ⟨σ', H', I.unwish, q⟩
  | cont => obtain ⟨σ', H', I, q⟩ := h; exact ⟨σ', H', I.unwish, q⟩
  | ret u => obtain ⟨v, σ', H', I, r, q⟩ := h; exact ⟨v, σ', H', I.unwish, r, q⟩
theorem PE.nox {e : Expr} {t : TE} (h : PE X.nox e t) : PE X e t := fun pins s σ H Q I hw =>
  wpAny_mono (h pins s σ H Q (I.wish _) hw) (fun _ _ ⟨v, H', I', r, q⟩ => ⟨v, H', I'.unwish, r, q⟩) fun _ _ z => False.elim z
theorem PT.nox {e : Expr} {t : TT} (h : PT X.nox e t) : PT X e t := fun pins s σ H Q I hw =>
  wpAny_mono (h pins s σ H Q (I.wish _) hw) (fun _ _ ⟨H', I', q⟩ => ⟨H', I'.unwish, q⟩) fun _ _ z => False.elim z
theorem PSs.nox {st : List Stmt} {t : TS} (h : PSs X.nox st t) : PSs X st t := fun pins s σ H D I hw =>
  wpAny_mono (h pins s σ H D (I.wish _) hw) (fun _ _ q => q.unwish) fun _ _ z => False.elim z
end

/-! ### blocks and small statements -/
section
variable {X : Cx} {st : Stmt} {rest : List Stmt} {t u : TS} {e : Expr} {te : TE} {pos : Pos}
def tNext : TS := fun D σ H => D.nx σ H
def tSeq (t u : TS) : TS := fun D σ H => t { D with nx := u D } σ H
theorem pss_nil : PSs X [] tNext := fun _ _ σ H _ I h => wpAny_execs_nil ⟨σ, H, I, h⟩
theorem pss_cons (h1 : PS X st t) (h2 : PSs X rest u) : PSs X (st :: rest) (tSeq t u) := by
  intro pins s σ H D I h
  refine wpAny_execs_cons (thn (h1 pins s σ H { D with nx := u D } I h) fun f s1 q => ?_)
  cases f with
  | next =>
    obtain ⟨σ', H', I', q⟩ := q
    exact h2 pins s1 σ' H' D I' q
  | ret v => exact q
  | brk => exact q
  | cont => exact q
theorem pss_one (h1 : PS X st t) : PSs X [st] t := by
  intro pins s σ H D I h
  refine wpAny_execs_cons (thn (h1 pins s σ H D I h) fun f s1 q => ?_)
  cases f with
  | next => exact wpAny_execs_nil q
  | ret v => exact q
  | brk => exact q
  | cont => exact q
def tBreak : TS := fun D σ H => D.bk σ H
def tCont : TS := fun D σ H => D.ct σ H
theorem ps_pass : PS X (.Pass pos) tNext := fun _ _ σ H _ I h => wpAny_Pass ⟨σ, H, I, h⟩
theorem ps_break : PS X (.Break pos) tBreak := fun _ _ σ H _ I h => wpAny_Break ⟨σ, H, I, h⟩
theorem ps_continue : PS X (.Continue pos) tCont := fun _ _ σ H _ I h => wpAny_Continue ⟨σ, H, I, h⟩
/-- in a def's body nothing is shown -/
theorem Inv.quiet {pins : List (Addr × Obj)} {σ : St} {H : Hp} {s : Shared} (I : Inv X pins σ H s) : interactive X.env = false := by simp [interactive, I.ok.kind]
/-- a docstring -/
theorem ps_doc {x j pos pos'} : PS X (.Expr (.Constant (.str x) j pos) pos') tNext := fun _ s σ H _ I h => wpAny_Expr (Calls.Constant_str (show SP X _ _ .next { s with toks := s.toks + 1 } from ⟨σ, H, I.tok _, h⟩)) I.quiet
/-- an expression whose value is dropped -/
def tDrop (te : TE) : TS := fun D σ H => te σ H fun _ H1 => D.nx σ H1
theorem ps_expr (he : PE X e te) (hs : swapsWith e none pos.line X.env = pure false := by rfl) : PS X (.Expr e pos) (tDrop te) := by
  intro pins s σ H D I h
  exact wpAny_Expr_any (thn (he pins s σ H _ I h) fun v s1 ⟨x, H1, I1, r1, q1⟩ => ⟨σ, H1, I1, q1⟩) I.quiet hs
def tRet (te : TE) : TS := fun D σ H => te σ H D.rt
theorem ps_ret (he : PE X e te) : PS X (.Return (some e) pos) (tRet te) := by
  intro pins s σ H D I h
  exact wpAny_Return_some (thn (he pins s σ H _ I h) fun v s1 ⟨x, H1, I1, r1, q1⟩ => ⟨x, σ, H1, I1, r1, q1⟩)
def tRetN : TS := fun D _ H => D.rt .non H
theorem ps_retN : PS X (.Return none pos) tRetN := fun _ _ σ H _ I h => wpAny_Return_none ⟨.non, σ, H, I, rfl, h⟩
def tIfS (c : TT) (t u : TS) : TS := fun D σ H => c σ H fun b H1 => if b = true then t D σ H1 else u D σ H1
theorem ps_if {c : Expr} {a b : List Stmt} {tc : TT} (hc : PT X c tc) (ha : PSs X a t) (hb : PSs X b u) : PS X (.If c a b pos) (tIfS tc t u) := by
  intro pins s σ H D I h
  refine wpAny_If (thn (hc pins s σ H _ I h) fun d s1 ⟨H1, I1, q1⟩ => ?_)
  cases d with
  | true => exact ha pins s1 σ H1 D I1 q1
  | false => exact hb pins s1 σ H1 D I1 q1
/-- code that the proof never comes to -/
def tNever : TS := fun _ _ _ => False
theorem ps_never : PS X st tNever := fun _ _ _ _ _ _ h => h.elim
theorem pss_never {sts : List Stmt} : PSs X sts tNever := fun _ _ _ _ _ _ h => h.elim
end

/-! ### targets -/
abbrev TG := V → St → Hp → (St → Hp → Prop) → Prop
abbrev TGs := List V → St → Hp → (St → Hp → Prop) → Prop
def PG (X : Cx) (target : Expr) (t : TG) : Prop :=
  ∀ (pins : List (Addr × Obj)) (s : Shared) (σ : St) (H : Hp) (v : V) (u : Value) (Q : St → Hp → Prop), Inv X pins σ H s → RelV v u → t v σ H Q →
    wpAny (model X.prog X.w) X.A (assign target X.env u) (fun _ s' => ∃ σ' H', Inv X pins σ' H' s' ∧ Q σ' H') X.xe s
/-- several targets, one after another -/
def PGs (X : Cx) (ts : List Expr) (t : TGs) : Prop :=
  ∀ (pins : List (Addr × Obj)) (s : Shared) (σ : St) (H : Hp) (vs : List V) (us : List Value) (Q : St → Hp → Prop), Inv X pins σ H s → Vals vs us → t vs σ H Q →
    wpAny (model X.prog X.w) X.A (assignInOrder ((assignEach ts X.env).map (·.2)) us) (fun _ s' => ∃ σ' H', Inv X pins σ' H' s' ∧ Q σ' H') X.xe s
/-- o[i] = v, by values -/
abbrev TSet := V → V → V → Hp → (Hp → Prop) → Prop
def PSet (X : Cx) (t : TSet) : Prop :=
  ∀ (pins : List (Addr × Obj)) (s : Shared) (σ : St) (H : Hp) (o i v : V) (ov iv u : Value) (Q : Hp → Prop), Inv X pins σ H s → RelV o ov → RelV i iv → RelV v u → t o i v H Q →
    wpAny (model X.prog X.w) X.A (setItem ov iv u) (fun _ s' => ∃ H', Inv X pins σ H' s' ∧ Q H') X.xe s
/-- a op= b, by values -/
abbrev TIp := V → V → Hp → VK → Prop
def PIp (X : Cx) (op : Operator) (t : TIp) : Prop :=
  ∀ (pins : List (Addr × Obj)) (s : Shared) (σ : St) (H : Hp) (x y : V) (v u : Value) (Q : VK), Inv X pins σ H s → RelV x v → RelV y u → t x y H Q →
    wpAny (model X.prog X.w) X.A (inplaceOp op v u) (EP X pins σ Q) X.xe s
section
variable {X : Cx} {pos : Pos}
def gName (i : Nat) : TG := fun v σ H Q => Q (σ.set i (some v)) H
theorem pg_name {i : Nat} {x : Str} (hN : X.N.Nodup) (hi : X.N[i]? = some x) (hx : Loc X.env.scope x) (hf : X.fn x = true ∨ X.env.scope.names.lookup x = some .local := by first | exact .inl rfl | exact .inr rfl | assumption) : PG X (.Name x pos) (gName i) := by
  intro pins s σ H v u Q I r h
  exact wpAny_assign_Name (store_ok I hN hi hx r (fun s' I' => ⟨_, H, I', h⟩) hf)
def gNil : TGs := fun vs σ H Q => vs = [] ∧ Q σ H
def gCons (t : TG) (u : TGs) : TGs := fun vs σ H Q => ∃ v r, vs = v :: r ∧ t v σ H fun σ' H' => u r σ' H' Q
theorem pgs_nil : PGs X [] gNil := by
  intro pins s σ H vs us Q I r h
  obtain ⟨e, h⟩ := h
  subst e
  cases r
  exact assignInOrder_nil ⟨σ, H, I, h⟩
theorem pgs_cons {e : Expr} {es : List Expr} {t : TG} {u : TGs} (h1 : PG X e t) (h2 : PGs X es u)
    (hs : (assignEach (e :: es) X.env).map (·.2) = assign e X.env :: (assignEach es X.env).map (·.2) := by rfl) : PGs X (e :: es) (gCons t u) := by
  intro pins s σ H vs us Q I r h
  obtain ⟨v, vr, e1, h⟩ := h
  subst e1
  cases r with
  | cons r rr =>
    rw [hs]
    refine assignInOrder_cons (thn (h1 pins s σ H _ _ _ I r h) fun _ s1 ⟨σ1, H1, I1, q1⟩ => ?_)
    exact h2 pins s1 σ1 H1 _ _ Q I1 rr q1
/-- (a, b, ..) = a tuple of that length -/
def gTup (K : PySem.W.Frag) (n : Nat) (t : TGs) : TG := fun v σ H Q => ∃ a xs, v = .ref a ∧ SqT K H a xs ∧ xs.length = n ∧ t xs σ H Q
theorem pg_tup {es : List Expr} {k : Nat} {t : TGs} {n : Nat} (hc : X.calm = true) (h : PGs X es t)
    (hn : (assignEach es X.env).length = n := by rfl) (hst : (assignEach es X.env).findIdx? (·.1) = none := by rfl) : PG X (.Tuple es k pos) (gTup X.K n t) := by
  intro pins s σ H v u Q I r hw
  obtain ⟨a, xs, e1, hq, hl, hw⟩ := hw
  subst e1
  cases r
  obtain ⟨its, rv, ht, hz⟩ := I.tuple hq
  refine assign_Tuple_tuple (I.ok.hd hc) ht (by simp [hn, ← hl, rv.length]) hst fun h' hx => ?_
  have I1 : Inv X pins σ H { s with heap := h' } := I.kept (t' := s.toks) fun b o e => hx b o (Nat.ne_of_lt (Heap.lt_size e)) e
  exact h pins _ σ H xs _ Q I1 (by simpa using rv) hw
/-- o[i] = .. -/
def gSub (to ti : TE) (t : TSet) : TG := fun v σ H Q => to σ H fun o H1 => ti σ H1 fun i H2 => t o i v H2 fun H3 => Q σ H3
theorem pg_sub {o i : Expr} {to ti : TE} {t : TSet} (ho : PE X o to) (hi : PE X i ti) (hs : PSet X t)
    (ha : ∀ v, assign (.Subscript o i pos) X.env v = (do
      let ov ← holding [v] (eval o X.env)
      let iv ← holding [v, ov] (eval i X.env)
      standAt pos
      holding [v, ov, iv] (setItem ov iv v)
      release [v, ov, iv] []) := by intro _; rfl) : PG X (.Subscript o i pos) (gSub to ti t) := by
  intro pins s σ H v u Q I r h
  rw [ha]
  refine wpAny_bind (wpAny_holding (thn (ho pins s σ H _ I h) fun ov s1 ⟨x, H1, I1, r1, q1⟩ => ?_))
  refine wpAny_bind (wpAny_holding (thn (hi pins s1 σ H1 _ I1 q1) fun iv s2 ⟨y, H2, I2, r2, q2⟩ => ?_))
  refine wpAny_bind (wpAny_standAt (wpAny_bind (wpAny_holding (thn (hs pins s2 σ H2 x y v ov iv u _ I2 r1 r2 r q2) fun _ s3 ⟨H3, I3, q3⟩ => ?_))))
  exact wpAny_release ⟨σ, H3, I3, q3⟩
/-- target = value -/
def tAsg (te : TE) (g : TG) : TS := fun D σ H => te σ H fun x H1 => g x σ H1 D.nx
theorem ps_asg {tg e : Expr} {te : TE} {g : TG} (he : PE X e te) (hg : PG X tg g) (hs : swapsWithSole [tg] e pos.line X.env = pure false := by rfl) (hw : swappedStores [tg] e X.env = pure none := by rfl)
    (h1 : (assignEach [tg] X.env).map (·.2) = [assign tg X.env] := by rfl) : PS X (.Assign [tg] e pos) (tAsg te g) := by
  intro pins s σ H D I h
  refine wpAny_Assign_stores (thn (he pins s σ H _ I h) fun v s1 ⟨x, H1, I1, r1, q1⟩ => ?_) hs hw
  rw [h1]
  exact thn (hg pins s1 σ H1 x v _ I1 r1 q1) fun _ s2 q => q
/-- name = value -/
theorem ps_set {i : Nat} {x : Str} {e : Expr} {te : TE} {pos' : Pos} (hN : X.N.Nodup) (hi : X.N[i]? = some x) (hx : Loc X.env.scope x) (he : PE X e te) (hs : swapsWith e (some (.Name x pos')) pos.line X.env = pure false := by rfl) (hf : X.fn x = true ∨ X.env.scope.names.lookup x = some .local := by first | exact .inl rfl | exact .inr rfl | assumption) :
    PS X (.Assign [.Name x pos'] e pos) (tAsg te (gName i)) := by
  intro pins s σ H D I h
  refine wpAny_Assign_Name (thn (he pins s σ H _ I h) fun v s1 ⟨y, H1, I1, r1, q1⟩ => ?_) hs
  exact store_ok I1 hN hi hx r1 (fun s2 I2 => ⟨_, H1, I2, q1⟩) hf
/-- a, b = x, y with plain local names: stored from the right; the pair itself is not tracked (the opening rows as in PyProof/Rows/TupAssign.lean:23) -/
def tPar (i j : Nat) (ta : TA) : TS := fun D σ H => ta σ H fun vs H1 => ∃ v w, vs = [v, w] ∧ D.nx ((σ.set i (some v)).set j (some w)) H1
theorem ps_par {i j : Nat} {x y : Str} {a b : Expr} {ta : TA} {px py pt : Pos} {kt k2 pt2} (hc : X.calm = true) (hN : X.N.Nodup) (hi : X.N[i]? = some x) (hj : X.N[j]? = some y) (hij : i ≠ j)
    (hx : X.env.scope.names.lookup x = some .local) (hy : X.env.scope.names.lookup y = some .local) (ha : PA X [a, b] ta)
    (hw : swappedStores [.Tuple [.Name x px, .Name y py] kt pt] (.Tuple [a, b] k2 pt2) X.env = pure (some [x, y]))
    (hs : swapsWithSole [.Tuple [.Name x px, .Name y py] kt pt] (.Tuple [a, b] k2 pt2) pos.line X.env = pure false := by rfl) :
    PS X (.Assign [.Tuple [.Name x px, .Name y py] kt pt] (.Tuple [a, b] k2 pt2) pos) (tPar i j ta) := by
  intro pins s σ H D I h
  rw [exec_Assign_arm]
  refine wpAny_bind (wpAny_standAt ?_)
  rw [hs]
  refine wpAny_bind (wpAny_pure ?_)
  rw [if_neg (by decide)]
  refine wpAny_bind (Tuple_ (thn (ha _ pins s σ H _ I h) fun us s1 ⟨vs, H1, I1, r1, q1⟩ => ?_))
  obtain ⟨v, w, e1, q1⟩ := q1
  subst e1
  obtain ⟨u1, u2, rfl, rv, rw'⟩ : ∃ u1 u2, us = [u1, u2] ∧ RelV v u1 ∧ RelV w u2 := by
    cases r1 with
    | cons p q =>
      cases q with
      | cons p' q' =>
        cases q'
        exact ⟨_, _, rfl, p, p'⟩
  refine wpAny_newObj_type ?_ (by show 2 ≤ sizeLine; decide)
  have I2 : Inv X pins σ H1 { s1 with heap := s1.heap.push { cls := .type "tuple", data := .seq [u1, u2].toArray } } := I1.kept (t' := s1.toks) fun b o e => Heap.get?_push_of_some _ e
  rw [hw]
  refine wpAny_bind (wpAny_pure ?_)
  show wpAny (model X.prog X.w) X.A (do rule "assign.swapped-stores"; let items ← unpackItems (.ref s1.heap.objs.size) 2 none; assignInOrder [fun v => bindName X.env y v, fun v => bindName X.env x v] items.reverse; pure Flow.next) _ _ _
  refine wpAny_bind (wpAny_rule (wpAny_bind (unpackItems_tuple (items := #[u1, u2]) (I.ok.hd hc) (IsTup.new s1.heap _) fun h' hx' => ?_)))
  have I3 := I2.kept (h' := h') (t' := s1.toks) fun b o e => hx' b o (Nat.ne_of_lt (Heap.lt_size e)) e
  show wpAny _ _ (assignInOrder [fun v => bindName X.env y v, fun v => bindName X.env x v] [u2, u1] >>= fun _ => pure Flow.next) _ _ _
  refine wpAny_bind (assignInOrder_cons (wpAny_bindName (store_ok I3 hN hj (.inl hy) rw' (fun s2 I4 => ?_) (.inr hy))))
  refine assignInOrder_cons (wpAny_bindName (store_ok I4 hN hi (.inl hx) rv (fun s3 I5 => assignInOrder_nil (wpAny_pure ?_)) (.inr hx)))
  rw [List.set_comm _ _ (Ne.symm hij)] at I5
  exact ⟨_, H1, I5, q1⟩
/-- name op= e -/
def tAug (i : Nat) (te : TE) (ti : TIp) : TS := fun D σ H => ∃ x, σ[i]? = some (some x) ∧ te σ H fun y H1 => ti x y H1 fun z H2 => D.nx (σ.set i (some z)) H2
theorem ps_aug {i : Nat} {x : Str} {e : Expr} {te : TE} {op : Operator} {ti : TIp} {pos' : Pos} (hN : X.N.Nodup) (hi : X.N[i]? = some x) (hx : Loc X.env.scope x) (he : PE X e te) (ho : PIp X op ti) (hf : X.fn x = true ∨ X.env.scope.names.lookup x = some .local := by first | exact .inl rfl | exact .inr rfl | assumption) :
    PS X (.AugAssign (.Name x pos') op e pos) (tAug i te ti) := by
  intro pins s σ H D I h
  obtain ⟨v, e1, h⟩ := h
  obtain ⟨m, hn, hl⟩ := I.loc
  have vis : Vis X.env.scope x := by rcases hx with k | k; exact .inl k; exact .inr (.inl k)
  obtain ⟨u, r, l⟩ := hl i x v hi e1 vis
  refine wpAny_AugAssign_Name ?_
  have go : wpAny (model X.prog X.w) X.A (eval e X.env) (fun w s₂ => wpAny (model X.prog X.w) X.A (inplaceOp op u w) (fun r s₃ => wpAny (model X.prog X.w) X.A (storeName X.env x r) (fun _ => SP X pins D .next) X.xe s₃) X.xe s₂) X.xe s := by
    refine thn (he pins s σ H _ I h) fun w s1 ⟨y, H1, I1, r1, q1⟩ => ?_
    refine thn (ho pins s1 σ H1 v y u w _ I1 r r1 q1) fun z s2 ⟨zv, H2, I2, r2, q2⟩ => ?_
    exact store_ok I2 hN hi hx r2 (fun s3 I3 => ⟨_, H2, I3, q2⟩) hf
  rcases l with ⟨hk, hm⟩ | ⟨hk, c, hc, hcell⟩
  · exact wpAny_loadName_local I.ok.kind hk hn hm go
  · rcases hk with hk | hk
    · exact wpAny_loadName_cell I.ok.kind hk hc hcell go
    · rcases hx with k | k
      · have : X.env.scope.names.lookup x = some .free := hk
        rw [k] at this; cases this
      · have : X.env.scope.names.lookup x = some .free := hk
        rw [k] at this; cases this
/-- o[i] op= e -/
def tAugS (to ti te : TE) (tget : V → V → Hp → VK → Prop) (tip : TIp) (tset : TSet) : TS := fun D σ H => to σ H fun o H1 => ti σ H1 fun i H2 => tget o i H2 fun x H3 => te σ H3 fun y H4 => tip x y H4 fun z H5 => tset o i z H5 fun H6 => D.nx σ H6
/-- o[i], by values -/
def PGet (X : Cx) (t : V → V → Hp → VK → Prop) : Prop :=
  ∀ (pins : List (Addr × Obj)) (s : Shared) (σ : St) (H : Hp) (o i : V) (ov iv : Value) (Q : VK), Inv X pins σ H s → RelV o ov → RelV i iv → t o i H Q →
    wpAny (model X.prog X.w) X.A (getItem ov iv) (EP X pins σ Q) X.xe s
theorem ps_augS {o i e : Expr} {to ti te : TE} {tget : V → V → Hp → VK → Prop} {tip : TIp} {tset : TSet} {op : Operator} {tpos : Pos} (ho : PE X o to) (hi : PE X i ti) (hg : PGet X tget) (he : PE X e te) (hp : PIp X op tip) (hs : PSet X tset)
    (ha : ∀ ov iv new, augStore i ov iv new = (do holding [new, ov, iv] (setItem ov iv new); release [new, ov, iv] []; pure .next) := by intros; rfl) : PS X (.AugAssign (.Subscript o i tpos) op e pos) (tAugS to ti te tget tip tset) := by
  intro pins s σ H D I h
  refine wpAny_AugAssign_SubscriptAny (thn (ho pins s σ H _ I h) fun ov s1 ⟨x1, H1, I1, r1, q1⟩ => ?_) ha
  refine thn (hi pins s1 σ H1 _ I1 q1) fun iv s2 ⟨x2, H2, I2, r2, q2⟩ => ?_
  refine thn (hg pins s2 σ H2 x1 x2 ov iv _ I2 r1 r2 q2) fun old s3 ⟨x3, H3, I3, r3, q3⟩ => ?_
  refine thn (he pins s3 σ H3 _ I3 q3) fun v s4 ⟨x4, H4, I4, r4, q4⟩ => ?_
  refine thn (hp pins s4 σ H4 x3 x4 old v _ I4 r3 r4 q4) fun new s5 ⟨x5, H5, I5, r5, q5⟩ => ?_
  exact thn (hs pins s5 σ H5 x1 x2 x5 ov iv new _ I5 r1 r2 r5 q5) fun _ s6 ⟨H6, I6, q6⟩ => ⟨σ, H6, I6, q6⟩
/-- ints -/
def ipI (f : Int → Int → Int) : TIp := fun x y H Q => ∃ i j, x = .int i ∧ y = .int j ∧ Q (.int (f i j)) H
theorem ip_add : PIp X .Add (ipI fun i j => i + j) := by
  intro pins s σ H x y v u Q I r1 r2 h
  obtain ⟨i, j, e1, e2, q⟩ := h
  subst e1; subst e2
  obtain ⟨t, rfl⟩ := r1
  obtain ⟨t', rfl⟩ := r2
  exact iadd_int ⟨.int _, H, I.tok _, ⟨_, rfl⟩, q⟩
theorem ip_sub : PIp X .Sub (ipI fun i j => i - j) := by
  intro pins s σ H x y v u Q I r1 r2 h
  obtain ⟨i, j, e1, e2, q⟩ := h
  subst e1; subst e2
  obtain ⟨t, rfl⟩ := r1
  obtain ⟨t', rfl⟩ := r2
  exact isub_int ⟨.int _, H, I.tok _, ⟨_, rfl⟩, q⟩
end

/-! ### while -/
section
variable {X : Cx} {pos : Pos}
/-- the invariant W with its measure -/
def tWhile (c : TT) (tb : TS) : TS := fun D σ H => ∃ W : Nat → St → Hp → Prop, (∃ m, W m σ H) ∧ ∀ m σ H, W m σ H →
  c σ H fun b H1 => if b = true then ∃ N : St → Hp → Prop, (∀ σ' H', N σ' H' → ∃ m', m' < m ∧ W m' σ' H') ∧ tb { D with nx := N, ct := N, bk := D.nx } σ H1 else D.nx σ H1
theorem ps_while {c : Expr} {body : List Stmt} {tc : TT} {tb : TS} (hp : PassesOwn (model X.prog X.w) X.A X.env X.xe) (hc : PT X c tc) (hb : PSs X body tb) : PS X (.While c body [] pos) (tWhile tc tb) := by
  intro pins s σ H D I h
  obtain ⟨W, ⟨m0, w0⟩, turn⟩ := h
  refine wpAny_While (codeAny_whileLoop (fun n s' => ∃ σ' H', Inv X pins σ' H' s' ∧ W n σ' H') ?_ m0 ⟨σ, H, I, w0⟩)
  rintro n s1 ⟨σ1, H1, I1, w1⟩
  refine wpAny_passesOwn hp (thn (hc pins s1 σ1 H1 _ I1 (turn n σ1 H1 w1)) fun b s2 ⟨H2, I2, q2⟩ => ?_)
  cases b with
  | true =>
    obtain ⟨N, hN, q2⟩ := q2
    rw [if_pos rfl]
    refine wpAny_passesOwn hp (thn (hb pins s2 σ1 H2 _ I2 q2) fun f s3 q3 => ?_)
    cases f with
    | next =>
      obtain ⟨σ3, H3, I3, n3⟩ := q3
      obtain ⟨m', hm, w3⟩ := hN σ3 H3 n3
      exact ⟨m', hm, σ3, H3, I3, w3⟩
    | cont =>
      obtain ⟨σ3, H3, I3, n3⟩ := q3
      obtain ⟨m', hm, w3⟩ := hN σ3 H3 n3
      exact ⟨m', hm, σ3, H3, I3, w3⟩
    | brk => exact q3
    | ret v => exact q3
  | false =>
    rw [if_neg Bool.false_ne_true]
    exact wpAny_execs_nil ⟨σ1, H2, I2, q2⟩
end

/-! ### what a loop or a comprehension walks -/
/-- at turn i: it yields x (the heap may grow), or it stops -/
structure It where
  go : Nat → Hp → Prop
  yld : Nat → Hp → V → Hp → Prop
  stop : Nat → Hp → Prop
/-- the iterator's own objects may turn: they are not the frame's, not pinned, younger than the entry (or a comprehension's own) -/
def FpOk (X : Cx) (pins : List (Addr × Obj)) (H : Hp) (b : Addr) : Prop :=
  H b = none ∧ b ≠ X.env.locals ∧ b ∉ X.fs ∧ (b ∈ X.ex ∨ X.s₀.heap.objs.size ≤ b) ∧ (∀ x c, X.env.cells.lookup x = some c → c ≠ b) ∧ ∀ p ∈ X.pn ++ pins, p.1 ≠ b
theorem Inv.fpOk {X : Cx} {pins : List (Addr × Obj)} {σ : St} {H H' : Hp} {s : Shared} {b : Addr} (I : Inv X pins σ H s) (hb : s.heap.objs.size ≤ b) (hn : H' b = none) : FpOk X pins H' b := by
  refine ⟨hn, Nat.ne_of_gt (Nat.lt_of_lt_of_le I.lt hb), I.nofs hb, .inr (Nat.le_trans I.sz hb), fun x c e z => ?_, fun p hp z => ?_⟩
  · obtain ⟨v, q⟩ := I.cell x c e
    exact absurd (Nat.lt_of_lt_of_le q.lt (by rw [z]; exact hb)) (Nat.lt_irrefl _)
  · exact absurd (Nat.lt_of_lt_of_le (Heap.lt_size (I.pin p hp).1) (by rw [z]; exact hb)) (Nat.lt_irrefl _)
structure Turn (P : Program) (w : World) (K : PySem.W.Frag) (tg : Expr) (J : It) (fp : List Addr) (it : Addr) (tn : Nat → Heap → Prop) : Prop where
  mem : it ∈ fp
  obj : ∀ i h, tn i h → ∀ b ∈ fp, ∃ o, h.get? b = some o ∧ ∀ v, o.data ≠ .cell v
  keep : ∀ i h h', tn i h → (∀ b ∈ fp, ∀ o, h.get? b = some o → h'.get? b = some o) → tn i h'
  item : ∀ (X : Cx), X.prog = P → X.w = w → X.K = K → X.calm = true → ∀ (i : Nat) (pins : List (Addr × Obj)) (s : Shared) (σ : St) (H : Hp) (E : Value → Shared → Prop), Inv X pins σ H s → (∀ b ∈ fp, FpOk X pins H b) → tn i s.heap → J.go i H →
    wpAny (model P w) X.A (pyNext (.ref it)) (fun r s1 => ∃ u, r = some u ∧
      wpAny (model P w) X.A (letOwnedTupleGo tg (.ref it) u) (fun _ s2 => ∃ x H', Inv X pins σ H' s2 ∧ RelV x u ∧ J.yld i H x H' ∧ tn (i + 1) s2.heap ∧ ∀ b ∈ fp, H' b = none) E s1) E s
  done : ∀ (X : Cx), X.prog = P → X.w = w → X.K = K → X.calm = true → ∀ (i : Nat) (pins : List (Addr × Obj)) (s : Shared) (σ : St) (H : Hp) (E : Value → Shared → Prop), Inv X pins σ H s → (∀ b ∈ fp, FpOk X pins H b) → tn i s.heap → J.stop i H →
    wpAny (model P w) X.A (pyNext (.ref it)) (fun r s1 => r = none ∧ Inv X pins σ H s1) E s
  self : ∀ (A : Around) (i : Nat) (s : Shared) (Q : Value → Shared → Prop) (E : Value → Shared → Prop), tn i s.heap → Q (.ref it) s → wpAny (model P w) A (pyIter (.ref it)) Q E s
abbrev TI := St → Hp → (It → Hp → Prop) → Prop
/-- an iterator has come -/
def PIE (X : Cx) (pins : List (Addr × Obj)) (σ : St) (tg : Expr) (R : It → Hp → Prop) (itv : Value) (s2 : Shared) : Prop :=
  ∃ (it : Addr) (fp : List Addr) (tn : Nat → Heap → Prop) (J : It) (H' : Hp), itv = .ref it ∧ Inv X pins σ H' s2 ∧ Turn X.prog X.w X.K tg J fp it tn ∧ tn 0 s2.heap ∧ (∀ b ∈ fp, FpOk X pins H' b) ∧ R J H'
def PI (X : Cx) (tg iter : Expr) (wi : TI) : Prop :=
  ∀ (pins : List (Addr × Obj)) (s : Shared) (σ : St) (H : Hp) (R : It → Hp → Prop), Inv X pins σ H s → wi σ H R →
    wpAny (model X.prog X.w) X.A (eval iter X.env) (fun v s1 => wpAny (model X.prog X.w) X.A (pyIter v) (PIE X pins σ tg R) X.xe s1) X.xe s

/-- the step ahead of the store is nothing for an iterator that keeps no tuple -/
theorem go_of {M : Model} {A : Around} {E : Value → Shared → Prop} {s : Shared} {tg : Expr} {it : Addr} {u : Value} {o : Obj} {n : String} {vs : Array Value} {Q : Unit → Shared → Prop} (ho : s.heap.get? it = some o) (hc : o.cls = .type n) (hd : o.data = .fields vs)
    (hn : ["enumerate", "zip", "dict_itemiterator", "dict_reverseitemiterator", "odict_iterator", "itertools.zip_longest", "itertools.pairwise"].contains n = false) (hQ : Q () s) : wpAny M A (letOwnedTupleGo tg (.ref it) u) Q E s := by
  unfold letOwnedTupleGo
  cases tg <;> first
    | exact wpAny_pure hQ
    | (cases u <;> first
        | exact wpAny_pure hQ
        | (refine wpAny_bind (wpAny_load ho ?_)
           rw [hc, hd]
           show wpAny M A (if (["enumerate", "zip", "dict_itemiterator", "dict_reverseitemiterator", "odict_iterator", "itertools.zip_longest", "itertools.pairwise"].contains n && vs[0]? == some (rawInt _)) = true then _ else _) Q E s
           rw [if_neg (by intro h; rw [hn, Bool.false_and] at h; cases h)]
           exact wpAny_pure hQ))

/-- the list at a, as it stands at each turn (a loop may append to it) -/
def Itl (K : PySem.W.Frag) (a : Addr) : It :=
  ⟨fun i H => ∃ xs x, SqL K H a xs ∧ xs[i]? = some x, fun i H x H' => H' = H ∧ ∀ xs, SqL K H a xs → xs[i]? = some x, fun i H => ∃ xs, SqL K H a xs ∧ xs.length ≤ i⟩
def Itt (K : PySem.W.Frag) (a : Addr) : It :=
  ⟨fun i H => ∃ xs x, SqT K H a xs ∧ xs[i]? = some x, fun i H x H' => H' = H ∧ ∀ xs, SqT K H a xs → xs[i]? = some x, fun i H => ∃ xs, SqT K H a xs ∧ xs.length ≤ i⟩
/-- lo, lo + 1, .. (n of them) -/
def Itr (lo : Int) (n : Nat) : It := ⟨fun i _ => i < n, fun i H x H' => H' = H ∧ x = .int (lo + i), fun i _ => n ≤ i⟩
theorem turn_list {P : Program} {w : World} {K : PySem.W.Frag} {tg : Expr} (a it : Addr) : Turn P w K tg (Itl K a) [it] it (fun i h => h.IsListIter it a i) where
  mem := by simp
  obj := fun i h st b hb => by
    have e : b = it := by simpa using hb
    subst e
    obtain ⟨o, e, c, d⟩ := st
    exact ⟨o, e, fun v z => by rw [d] at z; cases z⟩
  keep := fun i h h' st k => st.at fun o e => k it (by simp) o e
  item := by
    intro X hP hw hK hc i pins s σ H E I hf st hg
    subst hP hw hK
    obtain ⟨xs, x, hq, hx⟩ := hg
    obtain ⟨its, rv, p, hz⟩ := I.list hq
    obtain ⟨u, hu, ru⟩ := rv.get hx
    obtain ⟨f0, f1, f2, f3, f4, f5⟩ := hf it (by simp)
    refine wpAny_pyNext_list_item st p.isList (x := u) (by simpa using hu) fun h' st' sb => ?_
    have I1 : Inv X pins σ H { s with heap := h' } := I.turned (t' := s.toks) (fun b o hb e => (sb.2 b hb).trans e) f0 f1 f3 f4 f5
    obtain ⟨o, e, c, d⟩ := id st'
    exact ⟨u, rfl, go_of (s := { s with heap := h' }) e c d (by decide) ⟨x, H, I1, ru, ⟨rfl, fun ys hy => by rw [I.list_inj hy hq]; exact hx⟩, st', fun b hb => (hf b hb).1⟩⟩
  done := by
    intro X hP hw hK hc i pins s σ H E I hf st hg
    subst hP hw hK
    obtain ⟨xs, hq, hx⟩ := hg
    obtain ⟨its, rv, p, hz⟩ := I.list hq
    obtain ⟨f0, f1, f2, f3, f4, f5⟩ := hf it (by simp)
    have hl := rv.length
    exact wpAny_pyNext_list_end (I.ok.hd hc) st p.isList (by simp; omega) fun h' eb => ⟨rfl, I.turned (t' := s.toks) (fun b o hb e => eb b o hb e) f0 f1 f3 f4 f5⟩
  self := fun _ _ _ _ _ st h => wpAny_pyIter_listiter st h
theorem turn_tuple {P : Program} {w : World} {K : PySem.W.Frag} {tg : Expr} (a it : Addr) : Turn P w K tg (Itt K a) [it] it (fun i h => h.IsTupleIter it a i) where
  mem := by simp
  obj := fun i h st b hb => by
    have e : b = it := by simpa using hb
    subst e
    obtain ⟨o, e, c, d⟩ := st
    exact ⟨o, e, fun v z => by rw [d] at z; cases z⟩
  keep := fun i h h' st k => st.at fun o e => k it (by simp) o e
  item := by
    intro X hP hw hK hc i pins s σ H E I hf st hg
    subst hP hw hK
    obtain ⟨xs, x, hq, hx⟩ := hg
    obtain ⟨its, rv, p, hz⟩ := I.tuple hq
    obtain ⟨u, hu, ru⟩ := rv.get hx
    obtain ⟨f0, f1, f2, f3, f4, f5⟩ := hf it (by simp)
    refine wpAny_pyNext_tuple_item st (show s.heap.IsTuple a its.toArray from p) (x := u) (by simpa using hu) fun h' st' sb => ?_
    have I1 : Inv X pins σ H { s with heap := h' } := I.turned (t' := s.toks) (fun b o hb e => (sb.2 b hb).trans e) f0 f1 f3 f4 f5
    obtain ⟨o, e, c, d⟩ := id st'
    exact ⟨u, rfl, go_of (s := { s with heap := h' }) e c d (by decide) ⟨x, H, I1, ru, ⟨rfl, fun ys hy => by rw [I.tuple_inj hy hq]; exact hx⟩, st', fun b hb => (hf b hb).1⟩⟩
  done := by
    intro X hP hw hK hc i pins s σ H E I hf st hg
    subst hP hw hK
    obtain ⟨xs, hq, hx⟩ := hg
    obtain ⟨its, rv, p, hz⟩ := I.tuple hq
    obtain ⟨f0, f1, f2, f3, f4, f5⟩ := hf it (by simp)
    have hl := rv.length
    exact wpAny_pyNext_tuple_end (I.ok.hd hc) st (show s.heap.IsTuple a its.toArray from p) (by simp; omega) fun h' eb => ⟨rfl, I.turned (t' := s.toks) (fun b o hb e => eb b o hb e) f0 f1 f3 f4 f5⟩
  self := fun _ _ _ _ _ st h => wpAny_pyIter_tupleiter st h
theorem turn_range {P : Program} {w : World} {K : PySem.W.Frag} {tg : Expr} (it : Addr) (lo : Int) (n : Nat) : Turn P w K tg (Itr lo n) [it] it (fun i h => IsRangeIter h it (lo + (i : Nat) * 1) ((n : Int) - (i : Nat)) 1) where
  mem := by simp
  obj := fun i h st b hb => by
    have e : b = it := by simpa using hb
    subst e
    exact ⟨_, st, fun v z => by
      have z' : Data.fields _ = Data.cell v := z
      cases z'⟩
  keep := fun i h h' st k => k it (by simp) _ st
  item := by
    intro X hP hw hK hc i pins s σ H E I hf st hg
    subst hP hw hK
    obtain ⟨f0, f1, f2, f3, f4, f5⟩ := hf it (by simp)
    have W := Walks.range (prog := X.prog) (w := X.w) (I.ok.hd hc) it lo 1 n
    refine W.item i s _ _ hg st fun v h' tk hv st' kk => ?_
    obtain ⟨t, rfl⟩ := hv
    have I1 : Inv X pins σ H { s with heap := h', toks := tk } := I.turned (fun b o hb e => kk b o (by simpa using hb) e) f0 f1 f3 f4 f5
    refine ⟨_, rfl, go_of (s := { s with heap := h', toks := tk }) (n := "range_iterator") st' rfl rfl (by decide) ⟨.int (lo + i), H, I1, ⟨t, ?_⟩, ⟨rfl, rfl⟩, st', fun b hb => (hf b hb).1⟩⟩
    rw [Int.mul_one]
  done := by
    intro X hP hw hK hc i pins s σ H E I hf st hg
    subst hP hw hK
    obtain ⟨f0, f1, f2, f3, f4, f5⟩ := hf it (by simp)
    exact wpAny_pyNext_range_end (I.ok.hd hc) st (by have : n ≤ i := hg; omega) fun h' eb => ⟨rfl, I.turned (t' := s.toks) (fun b o hb e => eb b o hb e) f0 f1 f3 f4 f5⟩
  self := fun _ _ _ _ _ st h => wpAny_pyIter_rangeiter st h
end L2

namespace L2
open PySem PySem.Spec PyProof.Rows
section
variable {X : Cx} {tg : Expr}
def iList (K : PySem.W.Frag) (tl : TE) : TI := fun σ H R => tl σ H fun x H1 => ∃ a, x = .ref a ∧ (∃ xs, SqL K H1 a xs) ∧ R (Itl K a) H1
def iTup (K : PySem.W.Frag) (tl : TE) : TI := fun σ H R => tl σ H fun x H1 => ∃ a, x = .ref a ∧ (∃ xs, SqT K H1 a xs) ∧ R (Itt K a) H1
theorem pi_list {l : Expr} {tl : TE} (hl : PE X l tl) : PI X tg l (iList X.K tl) := by
  intro pins s σ H R I h
  refine thn (hl pins s σ H _ I h) fun v s1 ⟨x, H1, I1, r1, q1⟩ => ?_
  obtain ⟨a, e, ⟨xs, hq⟩, q⟩ := q1
  subst e
  cases r1
  obtain ⟨its, rv, p, hz⟩ := I1.list hq
  refine wpAny_pyIter_list p.isList ?_
  refine ⟨s1.heap.objs.size, [s1.heap.objs.size], _, _, H1, rfl, I1.kept (t' := s1.toks) fun b o e => Heap.get?_push_of_some _ e, turn_list a _, ⟨_, Heap.get?_push_size _ rfl, rfl, rfl⟩, fun b hb => ?_, q⟩
  have e : b = s1.heap.objs.size := by simpa using hb
  subst e
  exact I1.fpOk (Nat.le_refl _) (I1.hok.fresh (Nat.le_refl _))
theorem pi_tup {l : Expr} {tl : TE} (hl : PE X l tl) : PI X tg l (iTup X.K tl) := by
  intro pins s σ H R I h
  refine thn (hl pins s σ H _ I h) fun v s1 ⟨x, H1, I1, r1, q1⟩ => ?_
  obtain ⟨a, e, ⟨xs, hq⟩, q⟩ := q1
  subst e
  cases r1
  obtain ⟨its, rv, p, hz⟩ := I1.tuple hq
  refine wpAny_pyIter_tuple (show s1.heap.IsTuple a its.toArray from p) ?_
  refine ⟨s1.heap.objs.size, [s1.heap.objs.size], _, _, H1, rfl, I1.kept (t' := s1.toks) fun b o e => Heap.get?_push_of_some _ e, turn_tuple a _, ⟨_, Heap.get?_push_size _ rfl, rfl, rfl⟩, fun b hb => ?_, q⟩
  have e : b = s1.heap.objs.size := by simpa using hb
  subst e
  exact I1.fpOk (Nat.le_refl _) (I1.hok.fresh (Nat.le_refl _))
/-- a range object just made, walked -/
theorem range_it {pins : List (Addr × Obj)} {σ : St} {H : Hp} {s : Shared} {R : It → Hp → Prop} {E : Value → Shared → Prop} {lo hi : Int} {t u v : Tok} {tk : Nat} (I : Inv X pins σ H s) (h1 : -(2 ^ 62) ≤ lo) (h2 : lo < 2 ^ 62) (h3 : -(2 ^ 62) ≤ hi) (h4 : hi < 2 ^ 62)
    (q : R (Itr lo (hi - lo).toNat) H) : wpAny (model X.prog X.w) X.A (pyIter (.ref s.heap.objs.size)) (PIE X pins σ tg R) E { s with heap := s.heap.push { cls := .type "range", data := .fields #[.int lo t, .int hi u, .int 1 v] }, toks := tk } := by
  refine wpAny_pyIter_range (IsRange.new ..) (small_one h1 h2 h3 h4) ?_
  have I1 : Inv X pins σ H { s with heap := s.heap.push { cls := .type "range", data := .fields #[.int lo t, .int hi u, .int 1 v] }, toks := tk } := I.kept fun b o e => Heap.get?_push_of_some _ e
  refine ⟨(s.heap.push { cls := .type "range", data := .fields #[.int lo t, .int hi u, .int 1 v] }).objs.size, [(s.heap.push { cls := .type "range", data := .fields #[.int lo t, .int hi u, .int 1 v] }).objs.size], _, _, H, rfl,
    I1.kept (t' := tk) fun b o e => Heap.get?_push_of_some _ e, turn_range _ lo (hi - lo).toNat, ?_, fun b hb => ?_, q⟩
  · have e1 : lo + ((0 : Nat) : Int) * 1 = lo := by simp
    have e2 : (((hi - lo).toNat : Nat) : Int) - ((0 : Nat) : Int) = Builtin.Range.rangeSize lo hi 1 := by rw [rangeSize_one]; split <;> omega
    show IsRangeIter _ _ (lo + ((0 : Nat) : Int) * 1) ((((hi - lo).toNat : Nat) : Int) - ((0 : Nat) : Int)) 1
    rw [e1, e2]
    exact Heap.get?_push_size _ rfl
  · have e : b = (s.heap.push { cls := .type "range", data := .fields #[.int lo t, .int hi u, .int 1 v] }).objs.size := by simpa using hb
    subst e
    exact I1.fpOk (Nat.le_refl _) (I1.hok.fresh (Nat.le_refl _))
def iRng1 (ta : TA) : TI := fun σ H R => ta σ H fun vs H1 => ∃ j : Int, vs = [.int j] ∧ -(2 ^ 62) ≤ j ∧ j < 2 ^ 62 ∧ R (Itr 0 j.toNat) H1
def iRng2 (ta : TA) : TI := fun σ H R => ta σ H fun vs H1 => ∃ i j : Int, vs = [.int i, .int j] ∧ (-(2 ^ 62) ≤ i ∧ i < 2 ^ 62 ∧ -(2 ^ 62) ≤ j ∧ j < 2 ^ 62) ∧ R (Itr i (j - i).toNat) H1
theorem pi_range1 {a : Expr} {ta : TA} {p pos : Pos} (hg : Gl X "range") (hm : X.mg "range" = none) (ha : PA X [a] ta) (hs : starEach [a] X.env = [(false, eval a X.env)] := by rfl) : PI X tg (.Call (.Name "range" p) [a] [] pos) (iRng1 ta) := by
  intro pins s σ H R I h
  refine Call_ (ld_blt I hg hm boot_range (PyProof.Rows.callWith_type1 (thn (ha pos pins s σ H _ I h) fun us s1 ⟨vs, H1, I1, r1, q1⟩ => ?_) hs rfl))
  obtain ⟨j, e, q1, q2, q⟩ := q1
  subst e
  cases r1 with
  | cons r rr =>
    cases rr
    obtain ⟨t, rfl⟩ := r
    exact call_range_1 (range_it I1 (by omega) (by omega) q1 q2 (by simpa using q))
theorem pi_range2 {a b : Expr} {ta : TA} {p pos : Pos} (hg : Gl X "range") (hm : X.mg "range" = none) (ha : PA X [a, b] ta) (hs : starEach [a, b] X.env = [(false, eval a X.env), (false, eval b X.env)] := by rfl) (hs2 : starEach [b] X.env = [(false, eval b X.env)] := by rfl) :
    PI X tg (.Call (.Name "range" p) [a, b] [] pos) (iRng2 ta) := by
  intro pins s σ H R I h
  refine Call_ (ld_blt I hg hm boot_range (PyProof.Rows.callWith_type1 (thn (ha pos pins s σ H _ I h) fun us s1 ⟨vs, H1, I1, r1, q1⟩ => ?_) (by rw [hs, hs2]) (by rw [hs2]; rfl)))
  obtain ⟨i, j, e, ⟨q1, q2, q3, q4⟩, q⟩ := q1
  subst e
  cases r1 with
  | cons r rr =>
    cases rr with
    | cons r' rr =>
      cases rr
      obtain ⟨t, rfl⟩ := r
      obtain ⟨t', rfl⟩ := r'
      exact call_range_2 (range_it I1 q1 q2 q3 q4 q)

/-! ### for -/
/-- W: the invariant by the turn and a measure; N: what the body is to reach -/
def tFor (wi : TI) (g : TG) (tb : TS) : TS := fun D σ H => wi σ H fun J H1 => ∃ W : Nat → Nat → St → Hp → Prop, (∃ m, W 0 m σ H1) ∧ ∀ i m σ H, W i m σ H →
  (J.stop i H ∧ D.nx σ H) ∨ (J.go i H ∧ ∃ N : St → Hp → Prop, (∀ σ' H', N σ' H' → ∃ m', m' < m ∧ W (i + 1) m' σ' H') ∧ ∀ x H', J.yld i H x H' → g x σ H' fun σ2 H2 => tb { D with nx := N, ct := N, bk := D.nx } σ2 H2)
/-- the records at fp as they stand -/
def pinsAt (fp : List Addr) (h : Heap) : List (Addr × Obj) := fp.filterMap fun b => (h.get? b).map fun o => (b, o)
theorem mem_pinsAt {fp : List Addr} {h : Heap} {b : Addr} {o : Obj} (hb : b ∈ fp) (e : h.get? b = some o) : (b, o) ∈ pinsAt fp h := List.mem_filterMap.mpr ⟨b, hb, by rw [e]; rfl⟩
theorem of_pinsAt {fp : List Addr} {h : Heap} {p : Addr × Obj} (hp : p ∈ pinsAt fp h) : p.1 ∈ fp ∧ h.get? p.1 = some p.2 := by
  obtain ⟨b, hb, e⟩ := List.mem_filterMap.mp hp
  cases q : h.get? b with
  | none => rw [q] at e; cases e
  | some o =>
    rw [q] at e
    have e' : (b, o) = p := Option.some.inj e
    subst e'
    exact ⟨hb, q⟩
theorem Inv.pinned {pins : List (Addr × Obj)} {σ : St} {H : Hp} {s : Shared} {fp : List Addr} (I : Inv X pins σ H s) (hf : ∀ b ∈ fp, FpOk X pins H b) (ho : ∀ b ∈ fp, ∃ o, s.heap.get? b = some o ∧ ∀ v, o.data ≠ .cell v) : Inv X (pins ++ pinsAt fp s.heap) σ H s :=
  I.pins_of fun p hp => (List.mem_append.mp hp).elim (fun z => I.pin p (List.mem_append_right _ z)) fun z => by
    obtain ⟨hb, e⟩ := of_pinsAt z
    obtain ⟨f0, f1, f2, _⟩ := hf p.1 hb
    obtain ⟨o, e', d⟩ := ho p.1 hb
    rw [e] at e'; cases e'
    exact ⟨e, f0, f1, f2, d⟩
theorem Inv.unpinned {pins pl : List (Addr × Obj)} {σ : St} {H : Hp} {s : Shared} (I : Inv X (pins ++ pl) σ H s) : Inv X pins σ H s := I.pins_of fun p hp => I.pin p (List.mem_append_right _ (List.mem_append_left _ hp))
theorem ps_for {iter : Expr} {body : List Stmt} {wi : TI} {g : TG} {tb : TS} {pos : Pos} (hp : PassesOwn (model X.prog X.w) X.A X.env X.xe) (hc : X.calm = true) (hi : PI X tg iter wi) (hg : PG X tg g) (hb : PSs X body tb)
    (hs : ∀ x, foldedSetIterable iter X.env x = pure x := by intro _; rfl) : PS X (.For tg iter body [] pos) (tFor wi g tb) := by
  intro pins s σ H D I h
  refine wpAny_For (thn (hi pins s σ H _ I h) fun v s1 h1 => thn h1 fun itv s2 h2 => ?_) hs
  obtain ⟨it, fp, tn, J, H2, e, I2, T, st2, f2, W, ⟨m0, w0⟩, turn⟩ := h2
  subst e
  -- what stays true of the iterator's objects through the loop
  have stat : ∀ {H' : Hp}, (∀ b ∈ fp, H' b = none) → ∀ b ∈ fp, FpOk X pins H' b := fun hn b hb => ⟨hn b hb, (f2 b hb).2⟩
  refine codeAny_forLoop_any (fun n s' => ∃ i σ' H', Inv X pins σ' H' s' ∧ tn i s'.heap ∧ (∀ b ∈ fp, H' b = none) ∧ W i n σ' H') ?_ m0 ⟨0, σ, H2, I2, st2, fun b hb => (f2 b hb).1, w0⟩
  rintro n s3 ⟨i, σ3, H3, I3, st3, fr3, w3⟩
  rcases turn i n σ3 H3 w3 with ⟨stop, qn⟩ | ⟨go, N, hN, step⟩
  · refine wpAny_passesOwn hp (thn (T.done X rfl rfl rfl hc i pins s3 σ3 H3 X.xe I3 (stat fr3) st3 stop) fun r s4 ⟨hr, I4⟩ => ?_)
    subst hr
    exact wpAny_execs_nil ⟨σ3, H3, I4, qn⟩
  · refine wpAny_passesOwn hp (thn (T.item X rfl rfl rfl hc i pins s3 σ3 H3 X.xe I3 (stat fr3) st3 go) fun r s4 ⟨u, hr, h4⟩ => ?_)
    subst hr
    refine wpAny_passesOwn hp (thn h4 fun _ s5 ⟨x, H5, I5, r5, y5, st5, fr5⟩ => ?_)
    have I5' := I5.pinned (stat fr5) (T.obj _ _ st5)
    refine wpAny_passesOwn hp (thn (hg _ s5 σ3 H5 x u _ I5' r5 (step x H5 y5)) fun _ s6 ⟨σ6, H6, I6, q6⟩ => ?_)
    refine wpAny_passesOwn hp (thn (hb _ s6 σ6 H6 _ I6 q6) fun f s7 q7 => ?_)
    have again : ∀ {σ7 : St} {H7 : Hp}, Inv X (pins ++ pinsAt fp s5.heap) σ7 H7 s7 → N σ7 H7 → ∃ m, m < n ∧ ∃ i σ' H', Inv X pins σ' H' s7 ∧ tn i s7.heap ∧ (∀ b ∈ fp, H' b = none) ∧ W i m σ' H' := fun {σ7 H7} I7 n7 => by
      obtain ⟨m', hm, w7⟩ := hN σ7 H7 n7
      refine ⟨m', hm, i + 1, σ7, H7, I7.unpinned, T.keep _ _ _ st5 fun b hb o e => (I7.pin (b, o) (List.mem_append_right _ (List.mem_append_right _ (mem_pinsAt hb e)))).1, fun b hb => ?_, w7⟩
      obtain ⟨o, e, d⟩ := T.obj _ _ st5 b hb
      exact (I7.pin (b, o) (List.mem_append_right _ (List.mem_append_right _ (mem_pinsAt hb e)))).2.1
    cases f with
    | next => obtain ⟨σ7, H7, I7, n7⟩ := q7; exact again I7 n7
    | cont => obtain ⟨σ7, H7, I7, n7⟩ := q7; exact again I7 n7
    | brk => obtain ⟨σ7, H7, I7, q7⟩ := q7; exact ⟨σ7, H7, I7.unpinned, q7⟩
    | ret v => obtain ⟨x7, σ7, H7, I7, r7, q7⟩ := q7; exact ⟨x7, σ7, H7, I7.unpinned, r7, q7⟩
end

/-! ### the forms one uses -/
/-- over a list that the body leaves as it is -/
theorem for_list {K : PySem.W.Frag} {a : Addr} {xs : List V} {g : TG} {tb : TS} {D : Ends} {σ : St} {H : Hp} (Pv : Nat → St → Hp → Prop) (h0 : Pv 0 σ H) (hl : ∀ i σ H, i ≤ xs.length → Pv i σ H → SqL K H a xs)
    (hs : ∀ i x σ H, xs[i]? = some x → Pv i σ H → g x σ H fun σ2 H2 => tb { D with nx := Pv (i + 1), ct := Pv (i + 1), bk := D.nx } σ2 H2) (hd : ∀ σ H, Pv xs.length σ H → D.nx σ H) :
    ∃ W : Nat → Nat → St → Hp → Prop, (∃ m, W 0 m σ H) ∧ ∀ i m σ H, W i m σ H →
      ((Itl K a).stop i H ∧ D.nx σ H) ∨ ((Itl K a).go i H ∧ ∃ N : St → Hp → Prop, (∀ σ' H', N σ' H' → ∃ m', m' < m ∧ W (i + 1) m' σ' H') ∧ ∀ x H', (Itl K a).yld i H x H' → g x σ H' fun σ2 H2 => tb { D with nx := N, ct := N, bk := D.nx } σ2 H2) := by
  refine ⟨fun i m σ H => m = xs.length - i ∧ i ≤ xs.length ∧ Pv i σ H, ⟨xs.length, by simp, Nat.zero_le _, h0⟩, ?_⟩
  rintro i m σ H ⟨rfl, hi, p⟩
  have q := hl i σ H hi p
  by_cases hlt : i < xs.length
  · refine .inr ⟨⟨xs, xs[i], q, by simp [hlt]⟩, Pv (i + 1), fun σ' H' p' => ⟨xs.length - (i + 1), by omega, rfl, hlt, p'⟩, fun x H' y => ?_⟩
    obtain ⟨e, y⟩ := y
    subst e
    exact hs i x σ _ (y xs q) p
  · have e : i = xs.length := by omega
    subst e
    exact .inl ⟨⟨xs, q, Nat.le_refl _⟩, hd σ H p⟩
theorem for_tup {K : PySem.W.Frag} {a : Addr} {xs : List V} {g : TG} {tb : TS} {D : Ends} {σ : St} {H : Hp} (Pv : Nat → St → Hp → Prop) (h0 : Pv 0 σ H) (hl : ∀ i σ H, i ≤ xs.length → Pv i σ H → SqT K H a xs)
    (hs : ∀ i x σ H, xs[i]? = some x → Pv i σ H → g x σ H fun σ2 H2 => tb { D with nx := Pv (i + 1), ct := Pv (i + 1), bk := D.nx } σ2 H2) (hd : ∀ σ H, Pv xs.length σ H → D.nx σ H) :
    ∃ W : Nat → Nat → St → Hp → Prop, (∃ m, W 0 m σ H) ∧ ∀ i m σ H, W i m σ H →
      ((Itt K a).stop i H ∧ D.nx σ H) ∨ ((Itt K a).go i H ∧ ∃ N : St → Hp → Prop, (∀ σ' H', N σ' H' → ∃ m', m' < m ∧ W (i + 1) m' σ' H') ∧ ∀ x H', (Itt K a).yld i H x H' → g x σ H' fun σ2 H2 => tb { D with nx := N, ct := N, bk := D.nx } σ2 H2) := by
  refine ⟨fun i m σ H => m = xs.length - i ∧ i ≤ xs.length ∧ Pv i σ H, ⟨xs.length, by simp, Nat.zero_le _, h0⟩, ?_⟩
  rintro i m σ H ⟨rfl, hi, p⟩
  have q := hl i σ H hi p
  by_cases hlt : i < xs.length
  · refine .inr ⟨⟨xs, xs[i], q, by simp [hlt]⟩, Pv (i + 1), fun σ' H' p' => ⟨xs.length - (i + 1), by omega, rfl, hlt, p'⟩, fun x H' y => ?_⟩
    obtain ⟨e, y⟩ := y
    subst e
    exact hs i x σ _ (y xs q) p
  · have e : i = xs.length := by omega
    subst e
    exact .inl ⟨⟨xs, q, Nat.le_refl _⟩, hd σ H p⟩
theorem for_range {lo : Int} {n : Nat} {g : TG} {tb : TS} {D : Ends} {σ : St} {H : Hp} (Pv : Nat → St → Hp → Prop) (h0 : Pv 0 σ H)
    (hs : ∀ i σ H, i < n → Pv i σ H → g (.int (lo + i)) σ H fun σ2 H2 => tb { D with nx := Pv (i + 1), ct := Pv (i + 1), bk := D.nx } σ2 H2) (hd : ∀ σ H, Pv n σ H → D.nx σ H) :
    ∃ W : Nat → Nat → St → Hp → Prop, (∃ m, W 0 m σ H) ∧ ∀ i m σ H, W i m σ H →
      ((Itr lo n).stop i H ∧ D.nx σ H) ∨ ((Itr lo n).go i H ∧ ∃ N : St → Hp → Prop, (∀ σ' H', N σ' H' → ∃ m', m' < m ∧ W (i + 1) m' σ' H') ∧ ∀ x H', (Itr lo n).yld i H x H' → g x σ H' fun σ2 H2 => tb { D with nx := N, ct := N, bk := D.nx } σ2 H2) := by
  refine ⟨fun i m σ H => m = n - i ∧ i ≤ n ∧ Pv i σ H, ⟨n, by simp, Nat.zero_le _, h0⟩, ?_⟩
  rintro i m σ H ⟨rfl, hi, p⟩
  by_cases hlt : i < n
  · refine .inr ⟨hlt, Pv (i + 1), fun σ' H' p' => ⟨n - (i + 1), by omega, rfl, hlt, p'⟩, fun x H' y => ?_⟩
    obtain ⟨e, y⟩ := y
    subst e y
    exact hs i σ _ hlt p
  · have e : i = n := by omega
    subst e
    exact .inl ⟨Nat.le_refl _, hd σ H p⟩
/-- while, by a word and a measure of the state -/
theorem while_by {c : TT} {tb : TS} {D : Ends} {σ : St} {H : Hp} (Pv : St → Hp → Prop) (μ : St → Hp → Nat) (h0 : Pv σ H)
    (hs : ∀ σ H, Pv σ H → c σ H fun b H1 => if b = true then tb { D with nx := fun σ' H' => Pv σ' H' ∧ μ σ' H' < μ σ H, ct := fun σ' H' => Pv σ' H' ∧ μ σ' H' < μ σ H, bk := D.nx } σ H1 else D.nx σ H1)
    (mono : ∀ σ H Q Q', (∀ b H1, Q b H1 → Q' b H1) → c σ H Q → c σ H Q') : tWhile c tb D σ H := by
  refine ⟨fun m σ H => m = μ σ H ∧ Pv σ H, ⟨_, rfl, h0⟩, ?_⟩
  rintro m σ H ⟨rfl, p⟩
  refine mono σ H _ _ (fun b H1 q => ?_) (hs σ H p)
  cases b with
  | true => exact ⟨_, fun σ' H' ⟨p', l⟩ => ⟨_, l, rfl, p'⟩, q⟩
  | false => exact q
end L2

namespace L2
open PySem PySem.Spec PyProof.Rows

abbrev R2 := V → V → Hp → VK → Prop
/-- a two-place operation on values: f is binaryOp op, inplaceOp op or compareOp op -/
def OpR (X : Cx) (f : Value → Value → Sem Value) (r : R2) : Prop :=
  ∀ (pins : List (Addr × Obj)) (s : Shared) (σ : St) (H : Hp) (x y : V) (v u : Value) (Q : VK), Inv X pins σ H s → RelV x v → RelV y u → r x y H Q →
    wpAny (model X.prog X.w) X.A (f v u) (EP X pins σ Q) X.xe s
/-- a one-place operation -/
def UnR (X : Cx) (f : Value → Sem Value) (r : V → Hp → VK → Prop) : Prop :=
  ∀ (pins : List (Addr × Obj)) (s : Shared) (σ : St) (H : Hp) (x : V) (v : Value) (Q : VK), Inv X pins σ H s → RelV x v → r x H Q →
    wpAny (model X.prog X.w) X.A (f v) (EP X pins σ Q) X.xe s
/-- a call of a value that is known (a builtin, a type) with values -/
def CallR (X : Cx) (f : Value) (r : List V → Hp → VK → Prop) : Prop :=
  ∀ (pins : List (Addr × Obj)) (s : Shared) (σ : St) (H : Hp) (xs : List V) (us : List Value) (Q : VK), Inv X pins σ H s → Vals xs us → r xs H Q →
    wpAny (model X.prog X.w) X.A (call f us) (EP X pins σ Q) X.xe s
/-- a value's truth -/
def TruR (X : Cx) (r : V → Hp → (Bool → Hp → Prop) → Prop) : Prop :=
  ∀ (pins : List (Addr × Obj)) (s : Shared) (σ : St) (H : Hp) (x : V) (v : Value) (Q : Bool → Hp → Prop), Inv X pins σ H s → RelV x v → r x H Q →
    wpAny (model X.prog X.w) X.A (truthy v) (TP X pins σ Q) X.xe s

def tOp (r : R2) (ta tb : TE) : TE := fun σ H Q => ta σ H fun x H1 => tb σ H1 fun y H2 => r x y H2 Q
def tUn (r : V → Hp → VK → Prop) (ta : TE) : TE := fun σ H Q => ta σ H fun x H1 => r x H1 Q
/-- ints in, under C, and a value out -/
def rI (C : Int → Int → Prop) (g : Int → Int → V) : R2 := fun x y H Q => ∃ i j, x = .int i ∧ y = .int j ∧ C i j ∧ Q (g i j) H
def rI0 (g : Int → Int → V) : R2 := fun x y H Q => ∃ i j, x = .int i ∧ y = .int j ∧ Q (g i j) H
def rU (g : Int → V) : V → Hp → VK → Prop := fun x H Q => ∃ i, x = .int i ∧ Q (g i) H

section
variable {X : Cx} {a b c : Expr} {ta tb tc : TE} {pos : Pos}

theorem binT (ha : PE X a ta) (hb : PE X b tb) {pins : List (Addr × Obj)} {s : Shared} {σ : St} {H : Hp} {R : V → V → Hp → Prop} (I : Inv X pins σ H s)
    (h : ta σ H fun x H1 => tb σ H1 fun y H2 => R x y H2) {Q : Value → Shared → Prop} {f : Value → Value → Sem Value}
    (hf : ∀ v u s2 x y H2, Inv X pins σ H2 s2 → RelV x v → RelV y u → R x y H2 → wpAny (model X.prog X.w) X.A (f v u) Q X.xe s2) :
    wpAny (model X.prog X.w) X.A (eval a X.env) (fun v s₁ => wpAny (model X.prog X.w) X.A (eval b X.env) (fun u s₂ => wpAny (model X.prog X.w) X.A (f v u) Q X.xe s₂) X.xe s₁) X.xe s := by
  refine thn (ha pins s σ H _ I h) fun v s1 ⟨x, H1, I1, r1, q1⟩ => ?_
  refine thn (hb pins s1 σ H1 _ I1 q1) fun u s2 ⟨y, H2, I2, r2, q2⟩ => ?_
  exact hf v u s2 x y H2 I2 r1 r2 q2

theorem pe_op {op : Operator} {r : R2} (ho : OpR X (binaryOp op) r) (ha : PE X a ta) (hb : PE X b tb) : PE X (.BinOp a op b pos) (tOp r ta tb) := by
  intro pins s σ H Q I h
  exact wpAny_BinOp (binT ha hb I h fun v u s2 x y H2 I2 rx ry q => ho pins s2 σ H2 x y v u Q I2 rx ry q)
theorem pe_un {op : UnaryOp} {r : V → Hp → VK → Prop} (ho : UnR X (unaryOp op) r) (ha : PE X a ta) : PE X (.UnaryOp op a pos) (tUn r ta) := by
  intro pins s σ H Q I h
  exact UnaryOp_ (thn (ha pins s σ H _ I h) fun v s1 ⟨x, H1, I1, r1, q1⟩ => ho pins s1 σ H1 x v Q I1 r1 q1)
/-- a op= e at a name: the name's slot i -/
theorem augR {op : Operator} {r : R2} (ho : OpR X (inplaceOp op) r) {pins : List (Addr × Obj)} {s : Shared} {σ : St} {H : Hp} {x y : V} {v u : Value} {Q : VK} (I : Inv X pins σ H s)
    (rx : RelV x v) (ry : RelV y u) (q : r x y H Q) : wpAny (model X.prog X.w) X.A (inplaceOp op v u) (EP X pins σ Q) X.xe s := ho pins s σ H x y v u Q I rx ry q

/-! ### ints -/
theorem opI {f : Value → Value → Sem Value} {C : Int → Int → Prop} {g : Int → Int → Int}
    (rule : ∀ (i j : Int) (t u : Tok) (s : Shared) (Q : Value → Shared → Prop) (E : Value → Shared → Prop), C i j → Q (.int (g i j) s.toks) { s with toks := s.toks + 1 } → wpAny (model X.prog X.w) X.A (f (.int i t) (.int j u)) Q E s) :
    OpR X f (rI C fun i j => .int (g i j)) := by
  intro pins s σ H x y v u Q I rx ry h
  obtain ⟨i, j, rfl, rfl, hc, q⟩ := h
  obtain ⟨t, rfl⟩ := rx
  obtain ⟨t', rfl⟩ := ry
  exact rule i j t t' s _ _ hc ⟨.int (g i j), H, I.tok _, ⟨_, rfl⟩, q⟩
theorem opI0 {f : Value → Value → Sem Value} {g : Int → Int → Int}
    (rule : ∀ (i j : Int) (t u : Tok) (s : Shared) (Q : Value → Shared → Prop) (E : Value → Shared → Prop), Q (.int (g i j) s.toks) { s with toks := s.toks + 1 } → wpAny (model X.prog X.w) X.A (f (.int i t) (.int j u)) Q E s) :
    OpR X f (rI0 fun i j => .int (g i j)) := by
  intro pins s σ H x y v u Q I rx ry h
  obtain ⟨i, j, rfl, rfl, q⟩ := h
  obtain ⟨t, rfl⟩ := rx
  obtain ⟨t', rfl⟩ := ry
  exact rule i j t t' s _ _ ⟨.int (g i j), H, I.tok _, ⟨_, rfl⟩, q⟩
theorem opB0 {f : Value → Value → Sem Value} {g : Int → Int → Bool}
    (rule : ∀ (i j : Int) (t u : Tok) (s : Shared) (Q : Value → Shared → Prop) (E : Value → Shared → Prop), Q (.bool (g i j)) s → wpAny (model X.prog X.w) X.A (f (.int i t) (.int j u)) Q E s) :
    OpR X f (rI0 fun i j => .bl (g i j)) := by
  intro pins s σ H x y v u Q I rx ry h
  obtain ⟨i, j, rfl, rfl, q⟩ := h
  obtain ⟨t, rfl⟩ := rx
  obtain ⟨t', rfl⟩ := ry
  exact rule i j t t' s _ _ ⟨.bl (g i j), H, I, rfl, q⟩

def CDiv (i j : Int) : Prop := 0 < j ∧ j < 1073741824
def CDivN (i j : Int) : Prop := j ≠ 0 ∧ j.natAbs < 1073741824
def CPow (i j : Int) : Prop := 0 ≤ j ∧ j ≤ 1000000 ∧ i.natAbs < 2 ^ 64
def CMul (i j : Int) : Prop := (-(2 ^ 64) < i ∧ i < 2 ^ 64) ∨ (-(2 ^ 64) < j ∧ j < 2 ^ 64)
theorem CMul.ok {i j : Int} (h : CMul i j) : IntMulOk i j := by
  rcases h with ⟨h1, h2⟩ | ⟨h1, h2⟩
  · exact .of_left (intBits_le_64 h1 h2)
  · exact .of_right (intBits_le_64 h1 h2)
theorem two_pow_nn (k : Nat) : (0 : Int) ≤ 2 ^ k := by
  rw [two_pow_cast]
  exact Int.natCast_nonneg _

theorem op_add : OpR X (binaryOp .Add) (rI0 fun i j => .int (i + j)) := opI0 fun _ _ _ _ _ _ _ q => add_int q
theorem op_sub : OpR X (binaryOp .Sub) (rI0 fun i j => .int (i - j)) := opI0 fun _ _ _ _ _ _ _ q => sub_int q
theorem op_mul : OpR X (binaryOp .Mult) (rI CMul fun i j => .int (i * j)) := opI fun _ _ _ _ _ _ _ hc q => mul_int q hc.ok
/-- // by a positive divisor -/
theorem op_fdiv : OpR X (binaryOp .FloorDiv) (rI CDiv fun i j => .int (i / j)) := opI fun i j _ _ _ _ _ hc q => by
  have h1 : (0 : Int) < j := hc.1
  have h2 : j < 1073741824 := hc.2
  exact floordiv_int (by omega) (by rw [Int.fdiv_eq_ediv_of_nonneg i (by omega)]; exact q) (.inl (PyProof.noPylong_small (by omega)))
theorem op_fdivN : OpR X (binaryOp .FloorDiv) (rI CDivN fun i j => .int (i.fdiv j)) := opI fun _ _ _ _ _ _ _ hc q => floordiv_int hc.1 q (.inl (PyProof.noPylong_small hc.2))
/-- % by a positive divisor of any size -/
theorem op_mod : OpR X (binaryOp .Mod) (rI (fun _ j => 0 < j) fun i j => .int (i % j)) := opI fun i j _ _ _ _ _ hc q => by
  have h1 : (0 : Int) < j := hc
  exact mod_int' (by omega) (by rw [Int.fmod_eq_emod_of_nonneg i (by omega)]; exact q)
theorem op_modN : OpR X (binaryOp .Mod) (rI (fun _ j => j ≠ 0) fun i j => .int (i.fmod j)) := opI fun _ _ _ _ _ _ _ hc q => mod_int' hc q
theorem op_pow : OpR X (binaryOp .Pow) (rI CPow fun i j => .int (i ^ j.toNat)) := opI fun _ _ _ _ _ _ _ hc q => pow_int_small hc.1 hc.2.1 hc.2.2 q
theorem op_shl : OpR X (binaryOp .LShift) (rI CPow fun i j => .int (i * 2 ^ j.toNat)) := opI fun _ _ _ _ _ _ _ hc q => lshift_int_small hc.1 hc.2.1 hc.2.2 q
theorem op_shr : OpR X (binaryOp .RShift) (rI (fun _ j => 0 ≤ j) fun i j => .int (i / 2 ^ j.toNat)) := opI fun i j _ _ _ _ _ hc q =>
  rshift_int hc (by rw [Int.fdiv_eq_ediv_of_nonneg i (two_pow_nn _)]; exact q)
theorem op_and : OpR X (binaryOp .BitAnd) (rI0 fun i j => .int (Builtin.bitAnd i j)) := opI0 fun _ _ _ _ _ _ _ q => and_int q
theorem op_or : OpR X (binaryOp .BitOr) (rI0 fun i j => .int (Builtin.bitOr i j)) := opI0 fun _ _ _ _ _ _ _ q => or_int q
theorem op_xor : OpR X (binaryOp .BitXor) (rI0 fun i j => .int (Builtin.bitXor i j)) := opI0 fun _ _ _ _ _ _ _ q => xor_int q

theorem iop_add : OpR X (inplaceOp .Add) (rI0 fun i j => .int (i + j)) := opI0 fun _ _ _ _ _ _ _ q => iadd_int q
theorem iop_sub : OpR X (inplaceOp .Sub) (rI0 fun i j => .int (i - j)) := opI0 fun _ _ _ _ _ _ _ q => isub_int q
theorem iop_mul : OpR X (inplaceOp .Mult) (rI CMul fun i j => .int (i * j)) := opI fun _ _ _ _ _ _ _ hc q => imul_int q hc.ok
theorem iop_fdiv : OpR X (inplaceOp .FloorDiv) (rI CDiv fun i j => .int (i / j)) := opI fun i j _ _ _ _ _ hc q => by
  have h1 : (0 : Int) < j := hc.1
  have h2 : j < 1073741824 := hc.2
  exact ifloordiv_int (by omega) (by rw [Int.fdiv_eq_ediv_of_nonneg i (by omega)]; exact q) (.inl (PyProof.noPylong_small (by omega)))
theorem iop_mod : OpR X (inplaceOp .Mod) (rI (fun _ j => 0 < j) fun i j => .int (i % j)) := opI fun i j _ _ _ _ _ hc q => by
  have h1 : (0 : Int) < j := hc
  exact imod_int (by omega) (by rw [Int.fmod_eq_emod_of_nonneg i (by omega)]; exact q)
theorem iop_shl : OpR X (inplaceOp .LShift) (rI CPow fun i j => .int (i * 2 ^ j.toNat)) := opI fun _ _ _ _ _ _ _ hc q => ilshift_int_small hc.1 hc.2.1 hc.2.2 q
theorem iop_shr : OpR X (inplaceOp .RShift) (rI (fun _ j => 0 ≤ j) fun i j => .int (i / 2 ^ j.toNat)) := opI fun i j _ _ _ _ _ hc q =>
  irshift_int hc (by rw [Int.fdiv_eq_ediv_of_nonneg i (two_pow_nn _)]; exact q)
theorem iop_and : OpR X (inplaceOp .BitAnd) (rI0 fun i j => .int (Builtin.bitAnd i j)) := opI0 fun _ _ _ _ _ _ _ q => iand_int q
theorem iop_or : OpR X (inplaceOp .BitOr) (rI0 fun i j => .int (Builtin.bitOr i j)) := opI0 fun _ _ _ _ _ _ _ q => ior_int q
theorem iop_xor : OpR X (inplaceOp .BitXor) (rI0 fun i j => .int (Builtin.bitXor i j)) := opI0 fun _ _ _ _ _ _ _ q => ixor_int q

theorem unI {f : Value → Sem Value} {g : Int → Int}
    (rule : ∀ (i : Int) (t : Tok) (s : Shared) (Q : Value → Shared → Prop) (E : Value → Shared → Prop), Q (.int (g i) s.toks) { s with toks := s.toks + 1 } → wpAny (model X.prog X.w) X.A (f (.int i t)) Q E s) :
    UnR X f (rU fun i => .int (g i)) := by
  intro pins s σ H x v Q I rx h
  obtain ⟨i, rfl, q⟩ := h
  obtain ⟨t, rfl⟩ := rx
  exact rule i t s _ _ ⟨.int (g i), H, I.tok _, ⟨_, rfl⟩, q⟩
theorem un_neg : UnR X (unaryOp .USub) (rU fun i => .int (-i)) := unI fun _ _ _ _ _ q => neg_int q
theorem un_inv : UnR X (unaryOp .Invert) (rU fun i => .int (Builtin.bitNot i)) := unI fun _ _ _ _ _ q => invert_int q

/-! ### bools among ints: n += (a < b) -/
theorem op_add_ib : OpR X (binaryOp .Add) (fun x y H Q => ∃ i k, x = .int i ∧ y = .bl k ∧ Q (.int (i + b2i k)) H) := by
  intro pins s σ H x y v u Q I rx ry h
  obtain ⟨i, k, rfl, rfl, q⟩ := h
  obtain ⟨t, rfl⟩ := rx
  cases ry
  exact add_int_bool ⟨.int (i + b2i k), H, I.tok _, ⟨_, rfl⟩, q⟩
end

/-! ### comparisons -/
/-- the scalars that == tells apart as data does -/
def scal : V → V → Bool
  | .non, .non => true | .non, .int _ => true | .int _, .non => true | .non, .bl _ => true | .bl _, .non => true | .non, .str _ => true | .str _, .non => true
  | .int _, .int _ => true | .bl _, .bl _ => true | .str _, .str _ => true | .byt _, .byt _ => true
  | .int _, .str _ => true | .str _, .int _ => true | .bl _, .str _ => true | .str _, .bl _ => true
  | _, _ => false
def rEq : R2 := fun x y H Q => scal x y = true ∧ Q (.bl (decide (x = y))) H
def rNe : R2 := fun x y H Q => scal x y = true ∧ Q (.bl (!decide (x = y))) H

theorem dec_int {i j : Int} : decide (V.int i = V.int j) = (i == j) := by
  rw [Bool.eq_iff_iff]
  simp
theorem dec_bl {i j : Bool} : decide (V.bl i = V.bl j) = (i == j) := by
  rw [Bool.eq_iff_iff]
  simp
theorem dec_str {i j : Str} : decide (V.str i = V.str j) = (i == j) := by
  rw [Bool.eq_iff_iff]
  simp
theorem dec_byt {i j : Array UInt8} : decide (V.byt i = V.byt j) = (i.toList == j.toList) := by
  rw [Bool.eq_iff_iff]
  cases i
  cases j
  simp

section
variable {X : Cx} {a b c : Expr} {ta tb tc : TE} {pos : Pos}
theorem fin_bl {pins : List (Addr × Obj)} {σ : St} {H : Hp} {s : Shared} {Q : VK} {k k' : Bool} (I : Inv X pins σ H s) (q : Q (.bl k) H) (e : k = k') : EP X pins σ Q (.bool k') s := by
  subst e
  exact ⟨.bl k, H, I, rfl, q⟩
theorem op_eq : OpR X (compareOp .Eq) rEq := by
  intro pins s σ H x y v u Q I rx ry h
  obtain ⟨hs, q⟩ := h
  cases x with
  | non =>
    cases rx
    cases y with
    | non => cases ry; exact PySem.EqNone.eq_none_none (fin_bl I q (by simp))
    | bl j => cases ry; exact PySem.EqNone.eq_none_bool (fin_bl I q (by simp))
    | int j => obtain ⟨t', rfl⟩ := ry; exact PySem.EqNone.eq_none_int (fin_bl I q (by simp))
    | str j => obtain ⟨t', rfl⟩ := ry; exact PySem.EqNone.eq_none_str (fin_bl I q (by simp))
    | _ => exact absurd (show false = true from hs) Bool.false_ne_true
  | bl i =>
    cases rx
    cases y with
    | non => cases ry; exact PySem.EqNone.eq_bool_none (fin_bl I q (by simp))
    | bl j => cases ry; exact eq_bool (fin_bl I q dec_bl)
    | str j => obtain ⟨t', rfl⟩ := ry; exact PySem.EqMixed.eq_bool_str (fin_bl I q (by simp))
    | _ => exact absurd (show false = true from hs) Bool.false_ne_true
  | int i =>
    obtain ⟨t, rfl⟩ := rx
    cases y with
    | non => cases ry; exact PySem.EqNone.eq_int_none (fin_bl I q (by simp))
    | int j => obtain ⟨t', rfl⟩ := ry; exact eq_int (fin_bl I q dec_int)
    | str j => obtain ⟨t', rfl⟩ := ry; exact PySem.EqMixed.eq_int_str (fin_bl I q (by simp))
    | _ => exact absurd (show false = true from hs) Bool.false_ne_true
  | str i =>
    obtain ⟨t, rfl⟩ := rx
    cases y with
    | non => cases ry; exact PySem.EqNone.eq_str_none (fin_bl I q (by simp))
    | bl j => cases ry; exact PySem.EqMixed.eq_str_bool (fin_bl I q (by simp))
    | int j => obtain ⟨t', rfl⟩ := ry; exact PySem.EqMixed.eq_str_int (fin_bl I q (by simp))
    | str j => obtain ⟨t', rfl⟩ := ry; exact eq_str (fin_bl I q dec_str)
    | _ => exact absurd (show false = true from hs) Bool.false_ne_true
  | byt i =>
    obtain ⟨t, rfl⟩ := rx
    cases y with
    | byt j => obtain ⟨t', rfl⟩ := ry; exact PySem.W.eq_bytes (fin_bl I q dec_byt)
    | _ => exact absurd (show false = true from hs) Bool.false_ne_true
  | _ => cases y <;> exact absurd (show false = true from hs) Bool.false_ne_true
theorem op_ne : OpR X (compareOp .NotEq) rNe := by
  intro pins s σ H x y v u Q I rx ry h
  obtain ⟨hs, q⟩ := h
  cases x with
  | non =>
    cases rx
    cases y with
    | non => cases ry; exact PySem.EqNone.ne_none_none (fin_bl I q (by simp))
    | bl j => cases ry; exact PySem.EqNone.ne_none_bool (fin_bl I q (by simp))
    | int j => obtain ⟨t', rfl⟩ := ry; exact PySem.EqNone.ne_none_int (fin_bl I q (by simp))
    | str j => obtain ⟨t', rfl⟩ := ry; exact PySem.EqNone.ne_none_str (fin_bl I q (by simp))
    | _ => exact absurd (show false = true from hs) Bool.false_ne_true
  | bl i =>
    cases rx
    cases y with
    | non => cases ry; exact PySem.EqNone.ne_bool_none (fin_bl I q (by simp))
    | bl j => cases ry; exact ne_bool (fin_bl I q (congrArg not dec_bl))
    | str j => obtain ⟨t', rfl⟩ := ry; exact PySem.EqMixed.ne_bool_str (fin_bl I q (by simp))
    | _ => exact absurd (show false = true from hs) Bool.false_ne_true
  | int i =>
    obtain ⟨t, rfl⟩ := rx
    cases y with
    | non => cases ry; exact PySem.EqNone.ne_int_none (fin_bl I q (by simp))
    | int j => obtain ⟨t', rfl⟩ := ry; exact ne_int (fin_bl I q (congrArg not dec_int))
    | str j => obtain ⟨t', rfl⟩ := ry; exact PySem.EqMixed.ne_int_str (fin_bl I q (by simp))
    | _ => exact absurd (show false = true from hs) Bool.false_ne_true
  | str i =>
    obtain ⟨t, rfl⟩ := rx
    cases y with
    | non => cases ry; exact PySem.EqNone.ne_str_none (fin_bl I q (by simp))
    | bl j => cases ry; exact PySem.EqMixed.ne_str_bool (fin_bl I q (by simp))
    | int j => obtain ⟨t', rfl⟩ := ry; exact PySem.EqMixed.ne_str_int (fin_bl I q (by simp))
    | str j => obtain ⟨t', rfl⟩ := ry; exact ne_str (fin_bl I q (congrArg not dec_str))
    | _ => exact absurd (show false = true from hs) Bool.false_ne_true
  | byt i =>
    obtain ⟨t, rfl⟩ := rx
    cases y with
    | byt j => obtain ⟨t', rfl⟩ := ry; exact PySem.W.ne_bytes (fin_bl I q (congrArg not dec_byt))
    | _ => exact absurd (show false = true from hs) Bool.false_ne_true
  | _ => cases y <;> exact absurd (show false = true from hs) Bool.false_ne_true

theorem op_lt : OpR X (compareOp .Lt) (rI0 fun i j => .bl (decide (i < j))) := opB0 fun _ _ _ _ _ _ _ q => lt_int q
theorem op_le : OpR X (compareOp .LtE) (rI0 fun i j => .bl (decide (i ≤ j))) := opB0 fun _ _ _ _ _ _ _ q => le_int q
theorem op_gt : OpR X (compareOp .Gt) (rI0 fun i j => .bl (decide (j < i))) := opB0 fun _ _ _ _ _ _ _ q => gt_int q
theorem op_ge : OpR X (compareOp .GtE) (rI0 fun i j => .bl (decide (j ≤ i))) := opB0 fun _ _ _ _ _ _ _ q => ge_int q
theorem op_lt_str : OpR X (compareOp .Lt) (fun x y H Q => ∃ i j, x = .str i ∧ y = .str j ∧ Q (.bl (decide (i.cps.toList < j.cps.toList))) H) := by
  intro pins s σ H x y v u Q I rx ry h
  obtain ⟨i, j, rfl, rfl, q⟩ := h
  obtain ⟨t, rfl⟩ := rx
  obtain ⟨t', rfl⟩ := ry
  exact lt_str (fin_bl I q rfl)
/-- the one string within the other -/
theorem op_in_str : OpR X (compareOp .In) (fun x y H Q => ∃ i j, x = .str i ∧ y = .str j ∧ Q (.bl (!(Builtin.Str.occurrences j i 0 j.length 1).isEmpty)) H) := by
  intro pins s σ H x y v u Q I rx ry h
  obtain ⟨i, j, rfl, rfl, q⟩ := h
  obtain ⟨t, rfl⟩ := rx
  obtain ⟨t', rfl⟩ := ry
  exact in_str (fin_bl I q rfl)

/-- is None, is not None: the right side a value none -/
theorem op_isN : OpR X (compareOp .Is) (fun x y H Q => y = .non ∧ Q (.bl (decide (x = .non))) H) := by
  intro pins s σ H x y v u Q I rx ry h
  obtain ⟨rfl, q⟩ := h
  cases ry
  refine is_none_gen (fin_bl I q ?_)
  cases x <;> first
    | (cases rx; rfl)
    | (obtain ⟨t, rfl⟩ := rx; rfl)
theorem op_notN : OpR X (compareOp .IsNot) (fun x y H Q => y = .non ∧ Q (.bl (!decide (x = .non))) H) := by
  intro pins s σ H x y v u Q I rx ry h
  obtain ⟨rfl, q⟩ := h
  cases ry
  refine isnot_none_gen (fin_bl I q ?_)
  cases x <;> first
    | (cases rx; rfl)
    | (obtain ⟨t, rfl⟩ := rx; rfl)

theorem op_notin_str : OpR X (compareOp .NotIn) (fun x y H Q => ∃ i j, x = .str i ∧ y = .str j ∧ Q (.bl (!(!(Builtin.Str.occurrences j i 0 j.length 1).isEmpty))) H) := by
  intro pins s σ H x y v u Q I rx ry h
  obtain ⟨i, j, rfl, rfl, q⟩ := h
  obtain ⟨t, rfl⟩ := rx
  obtain ⟨t', rfl⟩ := ry
  exact notIn_str (fin_bl I q rfl)
/-- is, is not of two objects that are tracked lists or instances -/
def isObj : HO → Bool
  | .lst _ => true
  | .ins _ _ _ => true
  | _ => false
theorem obj_there {pins : List (Addr × Obj)} {s : Shared} {σ : St} {H : Hp} {a : Addr} {o : HO} (I : Inv X pins σ H s) (h : H a = some o) (p : isObj o = true) : ∃ ob, s.heap.get? a = some ob ∧ ob.cls ≠ .type "tuple" := by
  cases o with
  | lst xs =>
    obtain ⟨_, its, n, _, e⟩ : xs.length ≤ sizeLine ∧ ∃ (its : List Value) (n : Nat), Vals xs its ∧ s.heap.get? a = some { cls := .type "list", data := .seq its.toArray n } := I.hok a _ h
    exact ⟨_, e, (by show Value.type "list" ≠ .type "tuple"; decide +kernel)⟩
  | ins C dx fs =>
    have x := I.hok a _ h
    obtain ⟨_, _, _, e, _⟩ := x
    exact ⟨_, e, (by show Value.ref C ≠ .type "tuple"; exact fun z => by cases z)⟩
  | _ => exact absurd (show false = true from p) Bool.false_ne_true
theorem op_is_ref : OpR X (compareOp .Is) (fun x y H Q => ∃ a b oa ob, x = .ref a ∧ y = .ref b ∧ H a = some oa ∧ isObj oa = true ∧ H b = some ob ∧ isObj ob = true ∧ Q (.bl (decide (a = b))) H) := by
  intro pins s σ H x y v u Q I rx ry h
  obtain ⟨a, b, oa, ob, rfl, rfl, ha, pa, hb, pb, q⟩ := h
  cases rx
  cases ry
  obtain ⟨o1, e1, n1⟩ := obj_there I ha pa
  obtain ⟨o2, e2, _⟩ := obj_there I hb pb
  by_cases z : a = b
  · subst z
    exact wpAny_is_ref_self (fin_bl I q (by simp))
  · exact wpAny_is_ref_other z e1 e2 n1 (fin_bl I q (by simp [z]))
theorem op_isnot_ref : OpR X (compareOp .IsNot) (fun x y H Q => ∃ a b oa ob, x = .ref a ∧ y = .ref b ∧ H a = some oa ∧ isObj oa = true ∧ H b = some ob ∧ isObj ob = true ∧ Q (.bl (!decide (a = b))) H) := by
  intro pins s σ H x y v u Q I rx ry h
  obtain ⟨a, b, oa, ob, rfl, rfl, ha, pa, hb, pb, q⟩ := h
  cases rx
  cases ry
  obtain ⟨o1, e1, n1⟩ := obj_there I ha pa
  obtain ⟨o2, e2, _⟩ := obj_there I hb pb
  by_cases z : a = b
  · subst z
    exact wpAny_isNot_ref_self (fin_bl I q (by simp))
  · exact wpAny_isNot_ref_other z e1 e2 n1 (fin_bl I q (by simp [z]))

/-- two rules for one operation: by cases -/
theorem OpR.or {f : Value → Value → Sem Value} {r r' : R2} (h : OpR X f r) (h' : OpR X f r') : OpR X f (fun x y H Q => r x y H Q ∨ r' x y H Q) := by
  intro pins s σ H x y v u Q I rx ry q
  rcases q with q | q
  · exact h pins s σ H x y v u Q I rx ry q
  · exact h' pins s σ H x y v u Q I rx ry q

theorem nomark (b : Expr) {op : CmpOp} (h : op ≠ .In := by decide) (h2 : op ≠ .NotIn := by decide) : behindInMarks op b = false := by
  have e1 : (op == CmpOp.In) = false := by cases op <;> first | rfl | exact absurd rfl h
  have e2 : (op == CmpOp.NotIn) = false := by cases op <;> first | rfl | exact absurd rfl h2
  cases b <;> simp [behindInMarks, e1, e2]
/-- a comparison as a value; hm: nomark b, or (for in, not in) by with_unfolding_all rfl -/
theorem pe_cmpR {op : CmpOp} {r : R2} (ho : OpR X (compareOp op) r) (ha : PE X a ta) (hb : PE X b tb) (hm : behindInMarks op b = false) : PE X (.Compare a [op] [b] pos) (tOp r ta tb) := by
  intro pins s σ H Q I h
  exact wpAny_Compare1 (binT ha hb I h fun v u s2 x y H2 I2 rx ry q => ho pins s2 σ H2 x y v u Q I2 rx ry q) hm
/-- a reading of a value as a test -/
def tTest (t : TE) : TT := fun σ H Q => t σ H fun x H' => ∃ k, x = .bl k ∧ Q k H'
theorem pt_cmpR {op : CmpOp} {r : R2} (ho : OpR X (compareOp op) r) (ha : PE X a ta) (hb : PE X b tb) (hm : behindInMarks op b = false) : PT X (.Compare a [op] [b] pos) (tTest (tOp r ta tb)) := by
  intro pins s σ H Q I h
  refine wpAny_isTrue_Compare1 (thn (ha pins s σ H _ I h) fun v s1 ⟨x, H1, I1, r1, q1⟩ => thn (hb pins s1 σ H1 _ I1 q1) fun u s2 ⟨y, H2, I2, r2, q2⟩ =>
    thn (ho pins s2 σ H2 x y v u _ I2 r1 r2 q2) fun c s3 ⟨z, H3, I3, r3, k, e, q3⟩ => ?_) hm
  subst e
  cases r3
  exact wpAny_truthy_bool ⟨H3, I3, q3⟩
/-- a op1 b op2 c -/
def tChain (r r' : R2) (ta tb tc : TE) : TE := fun σ H Q => ta σ H fun x H1 => tb σ H1 fun y H2 => r x y H2 fun z H3 => ∃ k, z = .bl k ∧
  (if k = true then tc σ H3 fun w' H4 => r' y w' H4 Q else Q (.bl false) H3)
theorem pe_chain {op op' : CmpOp} {r r' : R2} (ho : OpR X (compareOp op) r) (ho' : OpR X (compareOp op') r') (ha : PE X a ta) (hb : PE X b tb) (hc : PE X c tc)
    (hm : lastMarks [op, op'] [b, c] = false := by with_unfolding_all rfl) : PE X (.Compare a [op, op'] [b, c] pos) (tChain r r' ta tb tc) := by
  intro pins s σ H Q I h
  refine Compare_chain (thn (ha pins s σ H _ I h) fun v s1 ⟨x, H1, I1, r1, q1⟩ => chain_link (thn (hb pins s1 σ H1 _ I1 q1) fun u s2 ⟨y, H2, I2, r2, q2⟩ =>
    thn (ho pins s2 σ H2 x y v u _ I2 r1 r2 q2) fun d s3 ⟨z, H3, I3, r3, k, e, q3⟩ => ?_)) hm
  subst e
  cases r3
  refine wpAny_truthy_bool ?_
  cases k with
  | false => exact ite_ff ⟨.bl false, H3, I3, rfl, q3⟩
  | true => exact ite_tt (chain_last (thn (hc pins s3 σ H3 _ I3 q3) fun w' s4 ⟨z', H4, I4, r4, q4⟩ => ho' pins s4 σ H4 y z' u w' Q I4 r2 r4 q4))
theorem pt_chain {op op' : CmpOp} {r r' : R2} (ho : OpR X (compareOp op) r) (ho' : OpR X (compareOp op') r') (ha : PE X a ta) (hb : PE X b tb) (hc : PE X c tc)
    (hm : lastMarks [op, op'] [b, c] = false := by with_unfolding_all rfl) : PT X (.Compare a [op, op'] [b, c] pos) (tTest (tChain r r' ta tb tc)) := by
  intro pins s σ H Q I h
  refine isTrue_chain (thn (ha pins s σ H _ I h) fun v s1 ⟨x, H1, I1, r1, q1⟩ => test_link (thn (hb pins s1 σ H1 _ I1 q1) fun u s2 ⟨y, H2, I2, r2, q2⟩ =>
    thn (ho pins s2 σ H2 x y v u _ I2 r1 r2 q2) fun d s3 ⟨z, H3, I3, r3, k, e, q3⟩ => ?_)) hm
  subst e
  cases r3
  refine wpAny_truthy_bool ?_
  cases k with
  | false =>
    obtain ⟨k', e', q'⟩ := q3
    cases e'
    exact ite_ff ⟨H3, I3, q'⟩
  | true =>
    refine ite_tt (test_last (thn (hc pins s3 σ H3 _ I3 q3) fun w' s4 ⟨z', H4, I4, r4, q4⟩ => thn (ho' pins s4 σ H4 y z' u w' _ I4 r2 r4 q4) fun d' s5 ⟨z2, H5, I5, r5, k2, e2, q5⟩ => ?_))
    subst e2
    cases r5
    exact wpAny_truthy_bool ⟨H5, I5, q5⟩

/-! ### truth -/
/-- a value's truth by the abstract heap -/
def TruV (K : PySem.W.Frag) (x : V) (H : Hp) (k : Bool) : Prop :=
  match x with
  | .non => k = false
  | .bl b => k = b
  | .int i => k = (i != 0)
  | .str y => y.length ≤ sizeLine ∧ k = ((y.length : Int) != 0)
  | .byt y => y.size ≤ sizeLine ∧ k = ((y.size : Int) != 0)
  | .ref p => (∃ xs, SqL K H p xs ∧ k = !xs.isEmpty) ∨ (∃ xs, SqT K H p xs ∧ k = !xs.isEmpty) ∨ ∃ kvs, H p = some (.dK kvs) ∧ k = !kvs.isEmpty
  | _ => False
theorem isEmpty_kv {κ : Type} {kvs : List (κ × V)} {vs : List (κ × Value)} (r : KV kvs vs) : (!vs.isEmpty) = !kvs.isEmpty := by
  cases r <;> rfl
theorem isEmpty_of {xs : List V} {its : List Value} (r : Vals xs its) : (!its.toArray.isEmpty) = !xs.isEmpty := by
  cases r <;> simp
theorem line63 : (sizeLine : Nat) < 2 ^ 63 := by rw [sizeLine_eq]; decide
theorem tru_ok : TruR X (fun x H Q => ∃ k, TruV X.K x H k ∧ Q k H) := by
  intro pins s σ H x v Q I rx h
  obtain ⟨k, e, q⟩ := h
  have hl := line63
  have hs : sizeLine = 16777216 := sizeLine_eq
  cases x with
  | non =>
    cases rx
    have e' : k = false := e
    subst e'
    exact truthy_none ⟨H, I, q⟩
  | bl b =>
    cases rx
    have e' : k = b := e
    subst e'
    exact wpAny_truthy_bool ⟨H, I, q⟩
  | int i =>
    obtain ⟨t, rfl⟩ := rx
    have e' : k = (i != 0) := e
    subst e'
    exact PySem.P.truthy_int ⟨H, I, q⟩
  | str y =>
    obtain ⟨t, rfl⟩ := rx
    obtain ⟨hy, e'⟩ : y.length ≤ sizeLine ∧ k = ((y.length : Int) != 0) := e
    subst e'
    exact PySem.P.truthy_str (by omega) ⟨H, I.tok _, q⟩
  | byt y =>
    obtain ⟨t, rfl⟩ := rx
    obtain ⟨hy, e'⟩ : y.size ≤ sizeLine ∧ k = ((y.size : Int) != 0) := e
    subst e'
    exact PySem.W.truthy_bytes (by omega) ⟨H, I.tok _, q⟩
  | ref p =>
    cases rx
    have e' : (∃ xs, SqL X.K H p xs ∧ k = !xs.isEmpty) ∨ (∃ xs, SqT X.K H p xs ∧ k = !xs.isEmpty) ∨ ∃ kvs, H p = some (.dK kvs) ∧ k = !kvs.isEmpty := e
    rcases e' with ⟨xs, hx, e'⟩ | ⟨xs, hx, e'⟩ | ⟨kvs, hx, e'⟩
    · subst e'
      obtain ⟨its, r, pl, hz⟩ := I.list hx
      have hlen := r.length
      exact wpAny_truthy_list pl.isList (by simp only [List.size_toArray]; omega) ⟨H, I.tok _, by rw [isEmpty_of r]; exact q⟩
    · subst e'
      obtain ⟨its, r, pl, hz⟩ := I.tuple hx
      have hlen := r.length
      exact truthy_tuple pl (by simp only [List.size_toArray]; omega) ⟨H, I.tok _, by rw [isEmpty_of r]; exact q⟩
    · subst e'
      obtain ⟨hz, hS, vs, r, m⟩ : kvs.length ≤ sizeLine ∧ (p == sysModules) = false ∧ ∃ vs, KV kvs vs ∧ s.heap.DictOf (mixKind X.prog X.w) p vs := I.hok p _ hx
      have hlen : kvs.length = vs.length := Paired.length r
      exact wpAny_truthy_dict hS m (by omega) ⟨H, I.tok _, by rw [isEmpty_kv r]; exact q⟩
  | _ => exact (show False from e).elim
/-- any expression whose test is its value's truth (a name, a call, a subscript, a field ..: he by fun _ => rfl) -/
theorem pt_truth (ha : PE X a ta) (he : ∀ whole, isTrue a X.env whole = (do let v ← whole; standAt a.pos; holding [v] (truthy v))) :
    PT X a (fun σ H Q => ta σ H fun x H' => ∃ k, TruV X.K x H' k ∧ Q k H') := by
  intro pins s σ H Q I h
  exact isTrue_plain (thn (ha pins s σ H _ I h) fun v s1 ⟨x, H1, I1, r1, q1⟩ => tru_ok pins s1 σ H1 x v Q I1 r1 q1) (he _)

/-! ### strs and bytes -/
theorem pe_byt {x : List UInt8} {k : Nat} : PE X (.Constant (.bytes x) k pos) (fun _ H Q => Q (.byt x.toArray) H) := fun _ _ _ H _ I h => PySem.W.Constant_bytes ⟨.byt x.toArray, H, I.tok _, ⟨_, rfl⟩, h⟩
theorem op_add_str : OpR X (binaryOp .Add) (fun x y H Q => ∃ i j, x = .str i ∧ y = .str j ∧ i.length + j.length ≤ sizeLine ∧ Q (.str (i ++ j)) H) := by
  intro pins s σ H x y v u Q I rx ry h
  obtain ⟨i, j, rfl, rfl, hz, q⟩ := h
  obtain ⟨t, rfl⟩ := rx
  obtain ⟨t', rfl⟩ := ry
  exact add_str (fun t' tk => ⟨.str (i ++ j), H, I.tok _, ⟨_, rfl⟩, q⟩) hz
theorem iop_add_str : OpR X (inplaceOp .Add) (fun x y H Q => ∃ i j, x = .str i ∧ y = .str j ∧ i.length + j.length ≤ sizeLine ∧ Q (.str (i ++ j)) H) := by
  intro pins s σ H x y v u Q I rx ry h
  obtain ⟨i, j, rfl, rfl, hz, q⟩ := h
  obtain ⟨t, rfl⟩ := rx
  obtain ⟨t', rfl⟩ := ry
  exact iadd_str (fun t' tk => ⟨.str (i ++ j), H, I.tok _, ⟨_, rfl⟩, q⟩) hz
theorem op_add_byt : OpR X (binaryOp .Add) (fun x y H Q => ∃ i j, x = .byt i ∧ y = .byt j ∧ i.size + j.size ≤ 16777216 ∧ Q (.byt (i ++ j)) H) := by
  intro pins s σ H x y v u Q I rx ry h
  obtain ⟨i, j, rfl, rfl, hz, q⟩ := h
  obtain ⟨t, rfl⟩ := rx
  obtain ⟨t', rfl⟩ := ry
  exact PySem.W.KBy.add_bytes hz (fun t' tk => ⟨.byt (i ++ j), H, I.tok _, ⟨_, rfl⟩, q⟩)

def PlainIxT (b : Expr) : Prop := ∀ o i, subscripted b false o i = operate [o, i] (getItem o i)
/-- s[i], 0 ≤ i < len -/
theorem pe_item_str (ha : PE X a ta) (hb : PE X b tb) (hs : PlainIxT b) :
    PE X (.Subscript a b pos) (tOp (fun x y H Q => ∃ z i c, x = .str z ∧ y = .int i ∧ 0 ≤ i ∧ i < 2 ^ 63 ∧ i < z.length ∧ z.cps[i.toNat]? = some c ∧ Q (.str ⟨#[c]⟩) H) ta tb) := by
  intro pins s σ H Q I h
  refine Subscript_ (binT ha hb I h fun v u s2 x y H2 I2 rx ry q => ?_)
  obtain ⟨z, i, c, rfl, rfl, h0, h63, h1, hc, q⟩ := q
  obtain ⟨t, rfl⟩ := rx
  obtain ⟨t', rfl⟩ := ry
  have e : seqIndex? i z.length = some i.toNat := PySem.StrLaws.seqIndex_nonneg h0 h1
  exact tail_any (typeIs_str s2 z t) slot_str_getitem.lookup (getItem_str (c := c) (by
    have e1 : decide (i < -(2 ^ 63 : Int)) = false := decide_eq_false (by omega)
    have e2 : decide (i ≥ 2 ^ 63) = false := decide_eq_false (by omega)
    rw [e1, e2] <;> rfl) (by rw [e]; exact hc) ⟨.str ⟨#[c]⟩, H2, I2.tok _, ⟨_, rfl⟩, q⟩) (hs _ _)
/-- b[i], 0 ≤ i < len -/
theorem pe_item_byt (ha : PE X a ta) (hb : PE X b tb) (hs : PlainIxT b) :
    PE X (.Subscript a b pos) (tOp (fun x y H Q => ∃ (z : List UInt8) (i : Int), x = .byt z.toArray ∧ y = .int i ∧ z.length ≤ sizeLine ∧ 0 ≤ i ∧ i < z.length ∧ Q (.int ((z.getD i.toNat 0).toNat : Nat)) H) ta tb) := by
  intro pins s σ H Q I h
  refine Subscript_ (binT ha hb I h fun v u s2 x y H2 I2 rx ry q => ?_)
  obtain ⟨z, i, rfl, rfl, hz, h0, h1, q⟩ := q
  obtain ⟨t, rfl⟩ := rx
  obtain ⟨t', rfl⟩ := ry
  have hl : sizeLine = 16777216 := sizeLine_eq
  exact tail_any (PySem.W.typeIs_bytes s2 z.toArray t) PySem.W.FB.slot_bytes_getitem.lookup (PySem.W.getItem_bytes (by omega) h0 h1 ⟨.int ((z.getD i.toNat 0).toNat : Nat), H2, I2.tok _, ⟨_, rfl⟩, q⟩) (hs _ _)

/-! ### scalar builtins, by CallR -/
theorem vals1 {x : V} {us : List Value} (r : Vals [x] us) : ∃ u, us = [u] ∧ RelV x u := by
  cases r with
  | cons r1 r2 => cases r2; exact ⟨_, rfl, r1⟩
theorem vals2 {x y : V} {us : List Value} (r : Vals [x, y] us) : ∃ u w', us = [u, w'] ∧ RelV x u ∧ RelV y w' := by
  cases r with
  | cons r1 r2 =>
    cases r2 with
    | cons r3 r4 => cases r4; exact ⟨_, _, rfl, r1, r3⟩
theorem call_abs : CallR X (.builtin "abs") (fun xs H Q => ∃ i, xs = [.int i] ∧ Q (.int (if i < 0 then -i else i)) H) := by
  intro pins s σ H xs us Q I r h
  obtain ⟨i, rfl, q⟩ := h
  obtain ⟨u, rfl, t, rfl⟩ := vals1 r
  exact call_abs_int fun u tk => ⟨.int (if i < 0 then -i else i), H, I.tok _, ⟨_, rfl⟩, q⟩
theorem call_max2 (hc : X.calm = true) : CallR X (.builtin "max") (fun xs H Q => ∃ i j, xs = [.int i, .int j] ∧ Q (.int (if j > i then j else i)) H) := by
  intro pins s σ H xs us Q I r h
  obtain ⟨i, j, rfl, q⟩ := h
  obtain ⟨u, w', rfl, ⟨t, rfl⟩, ⟨t', rfl⟩⟩ := vals2 r
  refine max_two_ints (I.ok.hd hc) fun h' tk k => ⟨_, H, I.kept k, ?_, q⟩
  by_cases hj : j > i
  · rw [if_pos hj, if_pos hj]; exact ⟨_, rfl⟩
  · rw [if_neg hj, if_neg hj]; exact ⟨_, rfl⟩
theorem call_min2 (hc : X.calm = true) : CallR X (.builtin "min") (fun xs H Q => ∃ i j, xs = [.int i, .int j] ∧ Q (.int (if j < i then j else i)) H) := by
  intro pins s σ H xs us Q I r h
  obtain ⟨i, j, rfl, q⟩ := h
  obtain ⟨u, w', rfl, ⟨t, rfl⟩, ⟨t', rfl⟩⟩ := vals2 r
  refine min_two_ints (I.ok.hd hc) fun h' tk k => ⟨_, H, I.kept k, ?_, q⟩
  by_cases hj : j < i
  · rw [if_pos hj, if_pos hj]; exact ⟨_, rfl⟩
  · rw [if_neg hj, if_neg hj]; exact ⟨_, rfl⟩
theorem call_int1 : CallR X (.type "int") (fun xs H Q => (∃ i, xs = [.int i] ∧ Q (.int i) H) ∨ ∃ k, xs = [.bl k] ∧ Q (.int (if k then 1 else 0)) H) := by
  intro pins s σ H xs us Q I r h
  rcases h with ⟨i, rfl, q⟩ | ⟨k, rfl, q⟩
  · obtain ⟨u, rfl, t, rfl⟩ := vals1 r
    exact call_int_int ⟨.int i, H, I, ⟨_, rfl⟩, q⟩
  · obtain ⟨u, rfl, r1⟩ := vals1 r
    cases r1
    exact call_int_bool ⟨.int (if k then 1 else 0), H, I.tok _, ⟨_, rfl⟩, q⟩
theorem call_bool1 : CallR X (.type "bool") (fun xs H Q => (∃ i, xs = [.int i] ∧ Q (.bl (i != 0)) H) ∨ ∃ k, xs = [.bl k] ∧ Q (.bl k) H) := by
  intro pins s σ H xs us Q I r h
  rcases h with ⟨i, rfl, q⟩ | ⟨k, rfl, q⟩
  · obtain ⟨u, rfl, t, rfl⟩ := vals1 r
    exact call_bool_int ⟨.bl (i != 0), H, I, rfl, q⟩
  · obtain ⟨u, rfl, r1⟩ := vals1 r
    cases r1
    exact call_bool_bool ⟨.bl k, H, I, rfl, q⟩
theorem call_str_int : CallR X (.type "str") (fun xs H Q => ∃ i, xs = [.int i] ∧ i.natAbs.log2 < 1920 ∧ Q (.str (toString i)) H) := by
  intro pins s σ H xs us Q I r h
  obtain ⟨i, rfl, hz, q⟩ := h
  obtain ⟨u, rfl, t, rfl⟩ := vals1 r
  exact PySem.P.str_of_int hz ⟨.str _, H, I.tok _, ⟨_, rfl⟩, q⟩
theorem call_ord : CallR X (.builtin "ord") (fun xs H Q => ∃ x, xs = [.str x] ∧ x.length = 1 ∧ Q (.int (x.cps.getD 0 0 : Nat)) H) := by
  intro pins s σ H xs us Q I r h
  obtain ⟨x, rfl, hz, q⟩ := h
  obtain ⟨u, rfl, t, rfl⟩ := vals1 r
  exact ord_of_one hz ⟨.int _, H, I.tok _, ⟨_, rfl⟩, q⟩
theorem call_chr : CallR X (.builtin "chr") (fun xs H Q => ∃ i, xs = [.int i] ∧ 0 ≤ i ∧ i ≤ 1114111 ∧ Q (.str ⟨#[i.toNat]⟩) H) := by
  intro pins s σ H xs us Q I r h
  obtain ⟨i, rfl, h0, h1, q⟩ := h
  obtain ⟨u, rfl, t, rfl⟩ := vals1 r
  exact chr_of_range h0 h1 ⟨.str _, H, I.tok _, ⟨_, rfl⟩, q⟩
/-- len of a str, a bytes, a list, a tuple -/
def LenV (K : PySem.W.Frag) (x : V) (H : Hp) (n : Nat) : Prop :=
  match x with
  | .str y => y.length ≤ sizeLine ∧ n = y.length
  | .byt y => y.size ≤ sizeLine ∧ n = y.size
  | .ref p => (∃ xs, SqL K H p xs ∧ n = xs.length) ∨ ∃ xs, SqT K H p xs ∧ n = xs.length
  | _ => False
theorem call_len : CallR X (.builtin "len") (fun xs H Q => ∃ x n, xs = [x] ∧ LenV X.K x H n ∧ Q (.int n) H) := by
  intro pins s σ H xs us Q I r h
  obtain ⟨x, n, rfl, e, q⟩ := h
  obtain ⟨u, rfl, rx⟩ := vals1 r
  have hl := line63
  have hs : sizeLine = 16777216 := sizeLine_eq
  cases x with
  | str y =>
    obtain ⟨t, rfl⟩ := rx
    obtain ⟨hy, e'⟩ : y.length ≤ sizeLine ∧ n = y.length := e
    subst e'
    exact len_str (by omega) ⟨.int _, H, I.tok _, ⟨_, rfl⟩, q⟩
  | byt y =>
    obtain ⟨t, rfl⟩ := rx
    obtain ⟨hy, e'⟩ : y.size ≤ sizeLine ∧ n = y.size := e
    subst e'
    exact PySem.W.len_bytes (by omega) ⟨.int _, H, I.tok _, ⟨_, rfl⟩, q⟩
  | ref p =>
    cases rx
    have e' : (∃ xs, SqL X.K H p xs ∧ n = xs.length) ∨ ∃ xs, SqT X.K H p xs ∧ n = xs.length := e
    rcases e' with ⟨xs, hx, e'⟩ | ⟨xs, hx, e'⟩
    · subst e'
      obtain ⟨its, r', pl, hz⟩ := I.list hx
      have hlen := r'.length
      exact Calls.call_len_list pl.isList (by simp only [List.size_toArray]; omega) ⟨.int xs.length, H, I.tok _, ⟨_, by simp only [List.size_toArray]; rw [hlen]⟩, q⟩
    · subst e'
      obtain ⟨its, r', pl, hz⟩ := I.tuple hx
      have hlen := r'.length
      exact len_tuple pl (by simp only [List.size_toArray]; omega) ⟨.int xs.length, H, I.tok _, ⟨_, by simp only [List.size_toArray]; rw [hlen]⟩, q⟩
  | _ => exact (show False from e).elim
/-- divmod: a new tuple -/
theorem call_divmod : CallR X (.builtin "divmod") (fun xs H Q => ∃ i j, xs = [.int i, .int j] ∧ CDiv i j ∧ ∀ p, H p = none → Q (.ref p) (upd H p (.tup [.int (i / j), .int (i % j)]))) := by
  intro pins s σ H xs us Q I r h
  obtain ⟨i, j, rfl, ⟨h1, h2⟩, q⟩ := h
  obtain ⟨u, w', rfl, ⟨t, rfl⟩, ⟨t', rfl⟩⟩ := vals2 r
  refine divmod_int (by omega) ?_ (.inl (PyProof.noPylong_small (by omega)))
  rw [Int.fdiv_eq_ediv_of_nonneg i (by omega), Int.fmod_eq_emod_of_nonneg i (by omega)]
  have hn : H s.heap.objs.size = none := I.hok.fresh (Nat.le_refl _)
  refine ⟨.ref s.heap.objs.size, _, ?_, rfl, q _ hn⟩
  refine I.laid (fun b o e => Heap.get?_push_of_some _ e) (Nat.le_refl _) ⟨by simp only [List.length_cons, List.length_nil]; rw [sizeLine_eq]; decide, [.int (i / j) s.toks, .int (i % j) (s.toks + 1)], .cons ⟨_, rfl⟩ (.cons ⟨_, rfl⟩ .nil), ?_⟩
  exact ⟨_, Heap.get?_push_size s.heap rfl, rfl, 0, rfl⟩
end
end L2

namespace L2
open PySem PySem.Spec PyProof.Rows

/-! ### an instance, its attributes a map -/
structure ObjM (h : Heap) (x dx C : Addr) (mA : Str → Option Value) : Prop where
  obj : h.get? x = some (PySem.W.instObj C dx)
  ns : h.Ns1 dx mA
  ne : dx ≠ x

theorem lookIn_ns {h : Heap} {dx : Addr} {mA : Str → Option Value} (n : h.Ns1 dx mA) : ∃ od, h.get? dx = some od ∧ ∀ name, PySem.W.lookIn name od = some (mA name) := by
  obtain ⟨o, es, ep, ho, hd, hk, _, hm⟩ := n
  refine ⟨o, ho, fun name => ?_⟩
  have e := hm name
  unfold nsFind findBy at e
  rw [← Array.find?_toList] at e
  unfold PySem.W.lookIn
  rw [hd]
  dsimp only
  split
  · rename_i y q
    rw [q] at e
    exact congrArg some e
  · rename_i q
    rw [q] at e
    have a : es.toList.any (·.refKey) = false := by
      rw [List.any_eq_false]
      intro y hy
      obtain ⟨z, t, hkey⟩ := hk y (Array.mem_toList_iff.mp hy)
      simp [DictEntry.refKey, hkey]
    have a' : ¬ es.toList.any (·.refKey) = true := by rw [a]; exact Bool.false_ne_true
    rw [if_neg a']
    exact congrArg some e

theorem ObjM.look {h : Heap} {x dx C : Addr} {mA : Str → Option Value} (I : ObjM h x dx C mA) : ∃ od, PySem.W.InstAt h x (PySem.W.instObj C dx) C (some od) ∧ ∀ name, PySem.W.lookIn name od = some (mA name) :=
  let ⟨od, ho, hl⟩ := lookIn_ns I.ns
  ⟨od, ⟨I.obj, rfl, rfl, ho⟩, hl⟩

section
variable {prog : Program} {w : World} {A : Around} {E : Value → Shared → Prop} {s : Shared} {K : PySem.W.Frag} {x dx C f : Addr} {mA : Str → Option Value} {name : Str} {v : Value}

theorem get_map {expr : Bool} {Q : Value → Shared → Prop} (X : K.In s.heap) (I : ObjM s.heap x dx C mA) (hg : PySem.W.plainGet K C name = true) (hh : PySem.W.hasDictIn K C = true)
    (ha : PySem.W.findIn K (.ref C) name = some none) (hv : mA name = some v) (hv' : PySem.W.handedIn v = true) (h : Q v { s with toks := s.toks + 1 }) :
    wpAny (model prog w) A (getAttr (.ref x) name expr) Q E s := by
  obtain ⟨od, J, hl⟩ := I.look
  exact PySem.W.get_value X J (PySem.W.plainGet_of hg).1 (PySem.W.findObj_own hh ha rfl (by rw [hl, hv])) hv' h

theorem get_const {expr : Bool} {a : Value} {Q : Value → Shared → Prop} (X : K.In s.heap) (I : ObjM s.heap x dx C mA) (hg : PySem.W.plainGet K C name = true) (hh : PySem.W.hasDictIn K C = true)
    (ha : PySem.W.findIn K (.ref C) name = some (some a)) (hn : PySem.W.specialIn K a "__get__" = some none) (hc : PySem.W.copiedNames.contains name = false) (hv : mA name = none) (hv' : PySem.W.handedIn a = true)
    (h : Q a { s with toks := s.toks + 1 }) : wpAny (model prog w) A (getAttr (.ref x) name expr) Q E s := by
  obtain ⟨od, J, hl⟩ := I.look
  exact PySem.W.get_value X J (PySem.W.plainGet_of hg).1 (PySem.W.findObj_cls hh ha hn hv' hc (by rw [hl, hv])) hv' h

theorem get_meth {pl : Sem Bool} {Q : Value × List Value → Shared → Prop} (X : K.In s.heap) (I : ObjM s.heap x dx C mA) (hg : PySem.W.plainGet K C name = true)
    (hf : PySem.W.findIn K (.ref C) name = some (some (.ref f))) (ht : PySem.W.isFn K (.ref f) = true) (hv : mA name = none) (h : Q (.ref f, [.ref x]) s) :
    wpAny (model prog w) A (getMethod (.ref x) name pl) Q E s := by
  obtain ⟨od, J, hl⟩ := I.look
  exact PySem.W.method_fn X J (PySem.W.plainGet_of hg).1 (PySem.W.plainGet_of hg).2 hf (beq_iff_eq.mp ht) (by show (PySem.W.lookIn name od).map (·.isSome) = some false; rw [hl, hv]; rfl) h

theorem set_map {ns : List Str} {Q : Unit → Shared → Prop} (X : K.In s.heap) (I : ObjM s.heap x dx C mA)
    (hs : PySem.W.findIn K (.ref C) "__setattr__" = some (some (.builtin "object.__setattr__"))) (hp : PySem.W.plainOver K C = true) (ht : PySem.W.takerIn K C name = some none) (hh : PySem.W.hasDictIn K C = true)
    (hw : PySem.Within mA ns) (hsz : ns.length ≤ sizeLine)
    (h : ∀ h', ObjM h' x dx C (fun y => if y = name then some v else mA y) → Heap.SameBut dx s.heap h' → Q () { s with heap := h', toks := s.toks + 2 }) :
    wpAny (model prog w) A (setAttr (.ref x) name v) Q E s := by
  obtain ⟨od, J, hl⟩ := I.look
  refine PySem.W.set_plain X J hs (PySem.W.osa_open (s := { s with toks := s.toks + 1 }) (r := none) X J hp ht fun b => ?_)
  obtain ⟨cd, hc, hd'⟩ := PySem.W.any_some hh
  have hx : s.heap.get? x = some ⟨.ref C, some dx, .plain, #[]⟩ := I.obj
  refine wpAny_bind (wpAny_pure (wpAny_bind (wpAny_bind (wpAny_loadPart hx (wpAny_bind (PySem.W.Looks.here (s := { s with toks := s.toks + 1 }) (PySem.W.looks_clsIn X hc) ?_))))))
  rw [hd']
  refine wpAny_pure (a := some dx) (wpAny_bind (wpAny_pure (wpAny_bind ?_)))
  refine wpAny_nsSet1 (s := { s with toks := s.toks + 1 }) I.ns fun h' hn2 hs2 => ?_
  obtain ⟨oD, esD, epD, hoD, hdD, hcD⟩ := hn2.count (PySem.Within.cons name v hw)
  refine wpAny_bind (wpAny_lookBehind hoD (by rw [hdD]; exact pastItsLine_dict (Nat.le_trans hcD (by rw [List.length_cons]; omega))) ?_)
  exact wpAny_pure (h _ ⟨(hs2.2 _ (Ne.symm I.ne)).trans I.obj, hn2, I.ne⟩ hs2)

/-- C(..): the dict at the heap's end, the instance behind it; then its __init__ -/
theorem make_map {R : Result → Shared → Prop} {vs : List Value} {kw : List (Str × Value)} (X : K.In s.heap) (hm : PySem.W.makesIn K C = true)
    (hi : PySem.W.findIn K (.ref C) "__init__" = some (some (.ref f))) (hf : PySem.W.typeIn K (.ref f) = some (.type "function"))
    (h : codeAny (model prog w) (A.under (.builtin "type.__call__" ⟨.ref C :: vs, kw⟩)) (.call (.ref f) ⟨.ref (s.heap.objs.size + 1) :: vs, kw⟩) (PySem.W.InitBack (s.heap.objs.size + 1) R)
      { s with heap := (s.heap.push PySem.W.emptyDict).push (PySem.W.instObj C s.heap.objs.size) }) :
    codeAny (model prog w) A (.call (.ref C) ⟨vs, kw⟩) R s := by
  obtain ⟨hh, g, d, t, os⟩ := s
  exact PySem.W.make_core (PySem.W.makes_of X hm) (PySem.W.looks_findIn X hi) (fun self => PySem.W.bind_fn X self hf) (.inl rfl) h
/-- C() where there is no __init__ but object's -/
theorem make_map0 {R : Result → Shared → Prop} (X : K.In s.heap) (hm : PySem.W.makesIn K C = true)
    (hi : PySem.W.findIn K (.ref C) "__init__" = some (some (.builtin "object.__init__")))
    (hb : ∀ self, PySem.W.Looks (model prog w) s.heap (bindSpecial (.builtin "object.__init__") self) (.builtin "object.__init__", [self]))
    (h : codeAny (model prog w) (A.under (.builtin "type.__call__" ⟨[.ref C], []⟩)) (.call (.builtin "object.__init__") ⟨[.ref (s.heap.objs.size + 1)], []⟩) (PySem.W.InitBack (s.heap.objs.size + 1) R)
      { s with heap := (s.heap.push PySem.W.emptyDict).push (PySem.W.instObj C s.heap.objs.size) }) :
    codeAny (model prog w) A (.call (.ref C) ⟨[], []⟩) R s := by
  obtain ⟨hh, g, d, t, os⟩ := s
  exact PySem.W.make_core (PySem.W.makes_of X hm) (PySem.W.looks_findIn X hi) hb (.inr ⟨rfl, rfl⟩) h
end

/-! ### the attributes as a list of pairs -/
def putF (f : Str) (v : V) : List (Str × V) → List (Str × V)
  | [] => [(f, v)]
  | (g, x) :: r => if g = f then (g, v) :: r else (g, x) :: putF f v r
theorem lookup_putF (f g : Str) (v : V) : ∀ fs : List (Str × V), (putF f v fs).lookup g = if g = f then some v else fs.lookup g
  | [] => by
    show List.lookup g [(f, v)] = _
    by_cases h : g = f
    · have hb : (g == f) = true := beq_iff_eq.mpr h
      simp only [List.lookup, hb, if_pos h]
    · have hb : (g == f) = false := beq_eq_false_iff_ne.mpr h
      simp only [List.lookup, hb, if_neg h]
  | (k, x) :: r => by
    have ih := lookup_putF f g v r
    rw [show putF f v ((k, x) :: r) = (if k = f then (k, v) :: r else (k, x) :: putF f v r) from rfl]
    by_cases hk : k = f
    · rw [if_pos hk]
      by_cases h : g = k
      · have hb : (g == k) = true := beq_iff_eq.mpr h
        simp only [List.lookup, hb, if_pos (h.trans hk)]
      · have hb : (g == k) = false := beq_eq_false_iff_ne.mpr h
        simp only [List.lookup, hb, if_neg (fun e : g = f => h (e.trans hk.symm))]
    · rw [if_neg hk]
      by_cases h : g = k
      · have hb : (g == k) = true := beq_iff_eq.mpr h
        simp only [List.lookup, hb, if_neg (fun e : g = f => hk (h.symm.trans e))]
      · have hb : (g == k) = false := beq_eq_false_iff_ne.mpr h
        simp only [List.lookup, hb]
        exact ih
theorem keys_putF (f : Str) (v : V) : ∀ fs : List (Str × V), f ∈ (putF f v fs).map (·.1) ∧ ∀ g, g ∈ fs.map (·.1) → g ∈ (putF f v fs).map (·.1)
  | [] => ⟨by simp [putF], fun g h => by simp at h⟩
  | (k, x) :: r => by
    obtain ⟨i1, i2⟩ := keys_putF f v r
    rw [show putF f v ((k, x) :: r) = (if k = f then (k, v) :: r else (k, x) :: putF f v r) from rfl]
    by_cases hk : k = f
    · rw [if_pos hk]
      subst hk
      exact ⟨by simp, fun g h => by simpa using h⟩
    · rw [if_neg hk]
      refine ⟨?_, fun g h => ?_⟩
      · rw [List.map_cons]
        exact List.mem_cons_of_mem _ i1
      · rw [List.map_cons] at h ⊢
        rcases List.mem_cons.mp h with e | e
        · exact List.mem_cons.mpr (.inl e)
        · exact List.mem_cons_of_mem _ (i2 g e)
theorem length_putF (f : Str) (v : V) : ∀ fs : List (Str × V), (putF f v fs).length ≤ fs.length + 1
  | [] => by simp [putF]
  | (k, x) :: r => by
    have ih := length_putF f v r
    rw [show putF f v ((k, x) :: r) = (if k = f then (k, v) :: r else (k, x) :: putF f v r) from rfl]
    by_cases hk : k = f
    · rw [if_pos hk, List.length_cons, List.length_cons]; omega
    · rw [if_neg hk, List.length_cons, List.length_cons]; omega

theorem RelO.some_of {v : V} {o : Option Value} (r : RelO (some v) o) : ∃ u, o = some u ∧ RelV v u := by
  cases o with
  | none => exact (show False from r).elim
  | some u => exact ⟨u, rfl, r⟩
theorem RelO.none_of {o : Option Value} (r : RelO none o) : o = none := by
  cases o with
  | none => rfl
  | some u => exact (show False from r).elim
theorem handed_of {v : V} {u : Value} (r : RelV v u) : PySem.W.handedIn u = true := by
  cases v with
  | non => cases (show u = Value.none from r); rfl
  | bl b => cases (show u = Value.bool b from r); rfl
  | int i => obtain ⟨t, e⟩ := (show ∃ t, u = Value.int i t from r); cases e; rfl
  | str x => obtain ⟨t, e⟩ := (show ∃ t, u = Value.str x t from r); cases e; rfl
  | byt b => obtain ⟨t, e⟩ := (show ∃ t, u = Value.bytes b t from r); cases e; rfl
  | flt b => obtain ⟨t, e⟩ := (show ∃ t, u = Value.float b t from r); cases e; rfl
  | ref a => cases (show u = Value.ref a from r); rfl
  | ty n => cases (show u = Value.type n from r); rfl

section
variable {P : Program} {w : World} {H H' : Hp} {h h' : Heap} {a C dx : Addr} {fs fs' : List (Str × V)}
theorem ins_get (hok : HOk P w H h) (e : H a = some (.ins C dx fs)) : ∃ mA, ObjM h a dx C mA ∧ (∀ f, RelO (fs.lookup f) (mA f)) ∧ PySem.Within mA (fs.map (·.1)) ∧ fs.length ≤ 1000 ∧ H dx = some (.own a) := by
  obtain ⟨d, z, ne, ob, mA, n, r, q⟩ := (show ObjOk P w H h a (.ins C dx fs) from hok a _ e)
  exact ⟨mA, ⟨ob, n, ne⟩, r, q, z, d⟩
end

/-! ### what of the text a class must have -/
structure Cls (K : PySem.W.Frag) (C : Addr) : Prop where
  pg : PySem.W.plainGet K C Str.empty = true
  hd : PySem.W.hasDictIn K C = true
  po : PySem.W.plainOver K C = true
  sa : PySem.W.findIn K (.ref C) "__setattr__" = some (some (.builtin "object.__setattr__"))
theorem Cls.get {K : PySem.W.Frag} {C : Addr} (c : Cls K C) (f : Str) : PySem.W.plainGet K C f = true := c.pg
/-- no class of it has the name -/
def NoAttr (K : PySem.W.Frag) (C : Addr) (f : Str) : Prop := PySem.W.findIn K (.ref C) f = some none
theorem NoAttr.taker {K : PySem.W.Frag} {C : Addr} {f : Str} (n : NoAttr K C f) : PySem.W.takerIn K C f = some none := by
  unfold PySem.W.takerIn
  rw [show PySem.W.findIn K (.ref C) f = some none from n]
  rfl
/-- a constant of the class -/
structure Con (K : PySem.W.Frag) (C : Addr) (f : Str) (v : V) (u : Value) : Prop where
  at_ : PySem.W.findIn K (.ref C) f = some (some u)
  rel : RelV v u
  get : PySem.W.specialIn K u "__get__" = some none
  cp : PySem.W.copiedNames.contains f = false
/-- a method: a plain def of the class or of one above it -/
structure Meth (K : PySem.W.Frag) (C : Addr) (m : Str) (f : Addr) : Prop where
  at_ : PySem.W.findIn K (.ref C) m = some (some (.ref f))
  fn : PySem.W.isFn K (.ref f) = true
  kp : PySem.W.keepIn K (.ref f) = true

section
variable {X : Cx} {pins : List (Addr × Obj)} {σ : St} {H : Hp} {s : Shared} {a C dx : Addr} {fs : List (Str × V)} {f : Str} {v : V} {A : Around} {E : Value → Shared → Prop}

theorem getattr_ok {b : Bool} {Q : Value → Shared → Prop} (I : Inv X pins σ H s) (e : H a = some (.ins C dx fs)) (c : Cls X.K C) (n : NoAttr X.K C f) (l : fs.lookup f = some v)
    (h : ∀ u s', Inv X pins σ H s' → RelV v u → Q u s') : wpAny (model X.prog X.w) A (getAttr (.ref a) f b) Q E s := by
  obtain ⟨mA, O, r, _, _, _⟩ := ins_get I.hok e
  obtain ⟨u, hu, ru⟩ := RelO.some_of (v := v) (o := mA f) (by rw [← l]; exact r f)
  exact get_map I.kIn O (c.get f) c.hd n hu (handed_of ru) (h u _ (I.tok _) ru)

theorem getcon_ok {b : Bool} {u : Value} {Q : Value → Shared → Prop} (I : Inv X pins σ H s) (e : H a = some (.ins C dx fs)) (c : Cls X.K C) (k : Con X.K C f v u) (l : fs.lookup f = none)
    (h : ∀ s', Inv X pins σ H s' → Q u s') : wpAny (model X.prog X.w) A (getAttr (.ref a) f b) Q E s := by
  obtain ⟨mA, O, r, _, _, _⟩ := ins_get I.hok e
  have hn : mA f = none := RelO.none_of (by rw [← l]; exact r f)
  exact get_const I.kIn O (c.get f) c.hd k.at_ k.get k.cp hn (handed_of k.rel) (h _ (I.tok _))

theorem getmeth_ok {m : Str} {g : Addr} {pl : Sem Bool} {Q : Value × List Value → Shared → Prop} (I : Inv X pins σ H s) (e : H a = some (.ins C dx fs)) (c : Cls X.K C) (k : Meth X.K C m g) (l : fs.lookup m = none)
    (h : Q (.ref g, [.ref a]) s) : wpAny (model X.prog X.w) A (getMethod (.ref a) m pl) Q E s := by
  obtain ⟨mA, O, r, _, _, _⟩ := ins_get I.hok e
  have hn : mA m = none := RelO.none_of (by rw [← l]; exact r m)
  exact get_meth I.kIn O (c.get m) k.at_ k.fn hn h

theorem setattr_ok {y : V} {u : Value} {Q : Unit → Shared → Prop} (I : Inv X pins σ H s) (e : H a = some (.ins C dx fs)) (c : Cls X.K C) (n : NoAttr X.K C f) (hl : fs.length < 1000) (ry : RelV y u)
    (h : ∀ s', Inv X pins σ (upd H a (.ins C dx (putF f y fs))) s' → Q () s') : wpAny (model X.prog X.w) A (setAttr (.ref a) f u) Q E s := by
  obtain ⟨mA, O, r, wi, _, ho⟩ := ins_get I.hok e
  have hz : (fs.map (·.1)).length ≤ sizeLine := by rw [List.length_map, sizeLine_eq]; omega
  refine set_map I.kIn O c.sa c.po n.taker c.hd wi hz fun h' O' sb => h _ ?_
  have hd : ∃ o, h'.get? dx = some o := let ⟨o, _, _, e', _⟩ := O'.ns; ⟨o, e'⟩
  refine I.write (x := a) (e := dx) (by rw [e]; exact True.intro) (.inr ho) (fun b q hb z => (sb.2 b hb).trans z) hd ?_
  refine ⟨by rw [upd_ne O.ne]; exact ho, ?_, O.ne, O'.obj, _, O'.ns, fun g => ?_, fun g hg => ?_⟩
  · have := length_putF f y fs; omega
  · show RelO ((putF f y fs).lookup g) (if g = f then some u else mA g)
    rw [lookup_putF]
    by_cases q : g = f
    · rw [if_pos q, if_pos q]; exact ry
    · rw [if_neg q, if_neg q]; exact r g
  · by_cases q : g = f
    · rw [q]; exact (keys_putF f y fs).1
    · refine (keys_putF f y fs).2 g (wi g fun z => hg ?_)
      show (if g = f then some u else mA g) = none
      rw [if_neg q]; exact z

/-- a new instance, tracked, without attributes -/
theorem Inv.made (I : Inv X pins σ H s) : Inv X pins σ (upd (upd H s.heap.objs.size (.own (s.heap.objs.size + 1))) (s.heap.objs.size + 1) (.ins C s.heap.objs.size []))
    { s with heap := (s.heap.push PySem.W.emptyDict).push (PySem.W.instObj C s.heap.objs.size) } := by
  have e1 : (s.heap.push PySem.W.emptyDict).get? s.heap.objs.size = some PySem.W.emptyDict := Heap.get?_push_size s.heap rfl
  have e2 : ((s.heap.push PySem.W.emptyDict).push (PySem.W.instObj C s.heap.objs.size)).get? (s.heap.objs.size + 1) = some (PySem.W.instObj C s.heap.objs.size) := by
    have := Heap.get?_push_size (s.heap.push PySem.W.emptyDict) (o := PySem.W.instObj C s.heap.objs.size) rfl
    rwa [Heap.size_push] at this
  have e3 : (s.heap.push PySem.W.emptyDict).Ns s.heap.objs.size (fun _ => none) := ⟨PySem.W.emptyDict, #[], _, e1, rfl, (fun e he => absurd he (by simp)), fun _ => rfl⟩
  have I1 := I.laid (a := s.heap.objs.size) (o := .own (s.heap.objs.size + 1)) (h' := s.heap.push PySem.W.emptyDict) (t' := s.toks) (fun b u q => Heap.get?_push_of_some _ q) (Nat.le_refl _) ⟨_, e1⟩
  refine I1.laid (a := s.heap.objs.size + 1) (o := .ins C s.heap.objs.size []) (t' := s.toks) (fun b u q => Heap.get?_push_of_some _ q) (Nat.le_of_eq (Heap.size_push _ _)) ?_
  have ne : s.heap.objs.size ≠ s.heap.objs.size + 1 := Nat.ne_of_lt (Nat.lt_succ_self _)
  refine ⟨by rw [upd_ne ne, upd_same], Nat.zero_le _, ne, e2, fun _ => none, (Heap.Ns1.of_empty e3).at fun o q => Heap.get?_push_of_some _ q, fun _ => True.intro, fun y hy => absurd rfl hy⟩

/-- e.f where nothing but the object is asked: through attributeBase (super) and the last hold -/
theorem attr_of {prog : Program} {w : World} {env : Env} {e : Expr} {f : Str} {pos : Pos} {s : Shared} {Q : Value → Shared → Prop} (hb : attributeBase e f env (eval e env) = eval e env)
    (h : wpAny (model prog w) A (eval e env) (fun o s₁ => wpAny (model prog w) A (getAttr o f true) Q E s₁) E s) : wpAny (model prog w) A (eval (.Attribute e f pos) env) Q E s :=
  Attribute_any_ h (by rw [arm_eval_Attribute, hb])
end

/-! ### readings and rules -/
/-- e.f, an attribute of the instance -/
def tFld (K : PySem.W.Frag) (ta : TE) (f : Str) : TE := fun σ H Q => ta σ H fun x H1 => ∃ a C dx fs v, x = .ref a ∧ H1 a = some (.ins C dx fs) ∧ Cls K C ∧ NoAttr K C f ∧ fs.lookup f = some v ∧ Q v H1
/-- e.f, a constant of the class -/
def tCon (K : PySem.W.Frag) (ta : TE) (f : Str) : TE := fun σ H Q => ta σ H fun x H1 => ∃ a C dx fs v u, x = .ref a ∧ H1 a = some (.ins C dx fs) ∧ Cls K C ∧ Con K C f v u ∧ fs.lookup f = none ∧ Q v H1
/-- e.f = value -/
def sFld (K : PySem.W.Frag) (ta tv : TE) (f : Str) : TS := fun D σ H => tv σ H fun y H1 => ta σ H1 fun x H2 => ∃ a C dx fs, x = .ref a ∧ H2 a = some (.ins C dx fs) ∧ Cls K C ∧ NoAttr K C f ∧ fs.length < 1000 ∧
  D.nx σ (upd H2 a (.ins C dx (putF f y fs)))
/-- an augmented operator on two values -/
def InOp (X : Cx) (op : Operator) (rd : V → V → Hp → VK → Prop) : Prop :=
  ∀ (pins : List (Addr × Obj)) (s : Shared) (σ : St) (H : Hp) (x y : V) (u v : Value) (Q : VK), Inv X pins σ H s → RelV x u → RelV y v → rd x y H Q → wpAny (model X.prog X.w) X.A (inplaceOp op u v) (EP X pins σ Q) X.xe s
/-- e.f op= value -/
def sFldAug (K : PySem.W.Frag) (ta tv : TE) (rd : V → V → Hp → VK → Prop) (f : Str) : TS := fun D σ H => ta σ H fun x H1 => ∃ a C dx fs v, x = .ref a ∧ H1 a = some (.ins C dx fs) ∧ Cls K C ∧ NoAttr K C f ∧ fs.lookup f = some v ∧
  tv σ H1 fun y H2 => rd v y H2 fun z H3 => ∃ dx' fs', H3 a = some (.ins C dx' fs') ∧ fs'.length < 1000 ∧ D.nx σ (upd H3 a (.ins C dx' (putF f z fs')))

section
variable {X : Cx} {o e value : Expr} {f : Str} {pos pos' tpos : Pos} {ta tv : TE}
theorem pe_fld (he : PE X e ta) (hb : attributeBase e f X.env (eval e X.env) = eval e X.env) : PE X (.Attribute e f pos) (tFld X.K ta f) := by
  intro pins s σ H Q I h
  refine attr_of hb (thn (he pins s σ H _ I h) fun u s1 ⟨x, H1, I1, rx, a, C, dx, fs, v, ex, ea, c, n, l, q⟩ => ?_)
  subst ex
  obtain rfl : u = Value.ref a := rx
  exact getattr_ok I1 ea c n l fun u' s2 I2 ru => ⟨v, H1, I2, ru, q⟩
theorem pe_con (he : PE X e ta) (hb : attributeBase e f X.env (eval e X.env) = eval e X.env) : PE X (.Attribute e f pos) (tCon X.K ta f) := by
  intro pins s σ H Q I h
  refine attr_of hb (thn (he pins s σ H _ I h) fun u s1 ⟨x, H1, I1, rx, a, C, dx, fs, v, u0, ex, ea, c, k, l, q⟩ => ?_)
  subst ex
  obtain rfl : u = Value.ref a := rx
  exact getcon_ok I1 ea c k l fun s2 I2 => ⟨v, H1, I2, k.rel, q⟩
theorem ps_fld (ha : PE X o ta) (hv : PE X value tv) (hs : swapsWith value (some (.Attribute o f pos')) pos.line X.env = pure false) : PS X (.Assign [.Attribute o f pos'] value pos) (sFld X.K ta tv f) := by
  intro pins s σ H D I h
  refine plainObj_wpAny_Assign_Attribute (thn (hv pins s σ H _ I h) fun u s1 ⟨y, H1, I1, ry, q⟩ => thn (ha pins s1 σ H1 _ I1 q) fun ov s2 ⟨x, H2, I2, rx, a, C, dx, fs, ex, ea, c, n, l, q2⟩ => ?_) hs
  subst ex
  obtain rfl : ov = Value.ref a := rx
  exact setattr_ok I2 ea c n l ry fun s3 I3 => ⟨σ, _, I3, q2⟩
theorem ps_fldaug {op : Operator} {rd : V → V → Hp → VK → Prop} (ha : PE X o ta) (hv : PE X value tv) (hop : InOp X op rd) : PS X (.AugAssign (.Attribute o f tpos) op value pos) (sFldAug X.K ta tv rd f) := by
  intro pins s σ H D I h
  refine wpAny_AugAssign_AttributeAny (thn (ha pins s σ H _ I h) fun ov s1 ⟨x, H1, I1, rx, a, C, dx, fs, v, ex, ea, c, n, l, q⟩ => ?_)
  subst ex
  obtain rfl : ov = Value.ref a := rx
  refine getattr_ok I1 ea c n l fun u s2 I2 ru => thn (hv pins s2 σ H1 _ I2 q) fun w3 s3 ⟨y, H2, I3, ry, q3⟩ => thn (hop pins s3 σ H2 v y u w3 _ I3 ru ry q3) fun w4 s4 ⟨z, H3, I4, rz, dx', fs', ea', l', q4⟩ => ?_
  exact setattr_ok I4 ea' c n l' rz fun s5 I5 => ⟨σ, _, I5, q4⟩
def rAdd : V → V → Hp → VK → Prop := fun x y H Q => ∃ i j, x = .int i ∧ y = .int j ∧ Q (.int (i + j)) H
def rSub : V → V → Hp → VK → Prop := fun x y H Q => ∃ i j, x = .int i ∧ y = .int j ∧ Q (.int (i - j)) H
theorem in_add : InOp X .Add rAdd := by
  rintro pins s σ H x y u v Q I rx ry ⟨i, j, rfl, rfl, q⟩
  obtain ⟨t, rfl⟩ := (show ∃ t, u = Value.int i t from rx)
  obtain ⟨t', rfl⟩ := (show ∃ t', v = Value.int j t' from ry)
  exact PyProof.Rows.iadd_int ⟨.int (i + j), H, I.tok _, ⟨_, rfl⟩, q⟩
theorem in_sub : InOp X .Sub rSub := by
  rintro pins s σ H x y u v Q I rx ry ⟨i, j, rfl, rfl, q⟩
  obtain ⟨t, rfl⟩ := (show ∃ t, u = Value.int i t from rx)
  obtain ⟨t', rfl⟩ := (show ∃ t', v = Value.int j t' from ry)
  exact PyProof.Rows.isub_int ⟨.int (i - j), H, I.tok _, ⟨_, rfl⟩, q⟩

/-- what is between an instance and its method: the tree of a method call -/
theorem methcall_of {pl : Sem Bool} {m : Str} {apos : Pos} {args : List Expr} {pins : List (Addr × Obj)} {s : Shared} {σ : St} {H : Hp} {Q : Value → Shared → Prop} {te : TE} (he : PE X e te) (I : Inv X pins σ H s)
    (h : te σ H fun x H1 => ∃ a C dx fs g, x = .ref a ∧ H1 a = some (.ins C dx fs) ∧ Cls X.K C ∧ Meth X.K C m g ∧ fs.lookup m = none ∧
      ∀ s1, Inv X pins σ H1 s1 → wpAny (model X.prog X.w) X.A (callWith pos (.ref g) [.ref a] (backTo pos (starEach args X.env)) (backToKw pos (keywordEach [] X.env))) Q X.xe s1)
    (ht : eval (.Call (.Attribute e m apos) args [] pos) X.env = (do
      let ov ← eval e X.env
      standAt apos.atName
      let (f, first) ← holding [ov] (getMethod ov m pl)
      callWith pos f first (backTo pos (starEach args X.env)) (backToKw pos (keywordEach [] X.env)))) :
    wpAny (model X.prog X.w) X.A (eval (.Call (.Attribute e m apos) args [] pos) X.env) Q X.xe s := by
  refine PySem.W.methodCall_KW (pl := pl) (thn (he pins s σ H _ I h) fun u s1 ⟨x, H1, I1, rx, a, C, dx, fs, g, ex, ea, c, k, l, q⟩ => ?_) ht
  subst ex
  obtain rfl : u = Value.ref a := rx
  exact getmeth_ok I1 ea c k l (q s1 I1)
end

/-! ### isinstance -/
section
variable {X : Cx} {pins : List (Addr × Obj)} {σ : St} {H : Hp} {s : Shared} {A : Around} {E : Value → Shared → Prop} {Q : Value → Shared → Prop} {c : Value} {b : Bool}
/-- the type of a value, as the fragment's deciders take it; for an instance its class -/
inductive TyOf (K : PySem.W.Frag) (H : Hp) : V → Value → Prop where
  | non : TyOf K H .non (.type "NoneType")
  | bl (x : Bool) : TyOf K H (.bl x) (.type "bool")
  | int (i : Int) : TyOf K H (.int i) (.type "int")
  | str (x : Str) : TyOf K H (.str x) (.type "str")
  | flt (x : UInt64) : TyOf K H (.flt x) (.type "float")
  | lst {a : Addr} {xs : List V} (e : H a = some (.lst xs)) : TyOf K H (.ref a) (.type "list")
  | frz {a : Addr} {o : Obj} {xs : List V} (e : H a = some (.frz o (.lst xs))) : TyOf K H (.ref a) (.type "list")
  | tup {a : Addr} {xs : List V} (e : H a = some (.tup xs)) : TyOf K H (.ref a) (.type "tuple")
  | dK {a : Addr} {kvs : List (Key × V)} (e : H a = some (.dK kvs)) : TyOf K H (.ref a) (.type "dict")
  | dT {a : Addr} {kvs : List (List Key × V)} (e : H a = some (.dT kvs)) : TyOf K H (.ref a) (.type "dict")
  | ins {a C dx : Addr} {fs : List (Str × V)} (e : H a = some (.ins C dx fs)) (cl : Cls K C) (ha : PySem.W.findIn K (.ref C) "__class__" = some (some (.builtin "object.__class__")))
      (hn : PySem.W.specialIn K (.builtin "object.__class__") "__get__" = some (some (.builtin "getset_descriptor.__get__"))) (htk : PySem.W.takesIn K (.builtin "object.__class__") = some true)
      (hm : PySem.W.mroIn K C (.type "object") = some true) : TyOf K H (.ref a) (.ref C)
/-- isinstance(x, c) for one class c, a built-in or an own one: kitOne's answer -/
theorem isinst_ok {x : V} {u t : Value} (I : Inv X pins σ H s) (rx : RelV x u) (ty : TyOf X.K H x t) (e : PySem.W.kitOne X.K t c = some b) (h : ∀ tk, Q (.bool b) { s with toks := tk }) :
    wpAny (model X.prog X.w) A (call (.builtin "isinstance") [u, c]) Q E s := by
  cases ty with
  | non => cases (show u = Value.none from rx); exact PySem.W.kia_one PySem.W.kitx_none I.kIn True.intro e (fun z => nomatch z) h
  | bl y => cases (show u = Value.bool y from rx); exact PySem.W.kia_one PySem.W.kitx_bool I.kIn True.intro e (fun z => nomatch z) h
  | int i => obtain ⟨t, q⟩ := (show ∃ t, u = Value.int i t from rx); cases q; exact PySem.W.kia_one PySem.W.kitx_int I.kIn True.intro e (fun z => nomatch z) h
  | str y => obtain ⟨t, q⟩ := (show ∃ t, u = Value.str y t from rx); cases q; exact PySem.W.kia_one PySem.W.kitx_str I.kIn True.intro e (fun z => nomatch z) h
  | flt y => obtain ⟨t, q⟩ := (show ∃ t, u = Value.float y t from rx); cases q; exact PySem.W.kia_one PySem.W.kitx_float I.kIn True.intro e (fun z => nomatch z) h
  | @lst a xs ea =>
    cases (show u = Value.ref a from rx)
    obtain ⟨_, _, n, _, h1⟩ := (show ObjOk X.prog X.w H s.heap a (.lst xs) from I.hok a _ ea)
    exact PySem.W.kia_one PySem.W.kitx_list I.kIn ⟨_, h1, rfl⟩ e (fun z => nomatch z) h
  | @frz a ob xs ea =>
    cases (show u = Value.ref a from rx)
    obtain ⟨_, _, _, n, _, h1⟩ := (show ObjOk X.prog X.w H s.heap a (.frz ob (.lst xs)) from I.hok a _ ea)
    exact PySem.W.kia_one PySem.W.kitx_list I.kIn ⟨_, h1, rfl⟩ e (fun z => nomatch z) h
  | @tup a xs ea =>
    cases (show u = Value.ref a from rx)
    obtain ⟨_, _, _, p⟩ := (show ObjOk X.prog X.w H s.heap a (.tup xs) from I.hok a _ ea)
    obtain ⟨o, h1, h2, _⟩ := p
    exact PySem.W.kia_one PySem.W.kitx_tuple I.kIn ⟨o, h1, h2⟩ e (fun z => nomatch z) h
  | @dK a kvs ea =>
    cases (show u = Value.ref a from rx)
    obtain ⟨_, _, vs, _, p⟩ := (show ObjOk X.prog X.w H s.heap a (.dK kvs) from I.hok a _ ea)
    obtain ⟨o, es, ep, h1, h2, _⟩ := p
    exact PySem.W.kia_one PySem.W.kitx_dict I.kIn ⟨o, h1, h2.1⟩ e (fun z => nomatch z) h
  | @dT a kvs ea =>
    cases (show u = Value.ref a from rx)
    obtain ⟨_, _, xs, _, o, es, ep, h1, h2, _⟩ := (show ObjOk X.prog X.w H s.heap a (.dT kvs) from I.hok a _ ea)
    exact PySem.W.kia_one PySem.W.kitx_dict I.kIn ⟨o, h1, h2.1⟩ e (fun z => nomatch z) h
  | @ins a C dx fs ea cl ha hn htk hm =>
    cases (show u = Value.ref a from rx)
    obtain ⟨mA, O, _⟩ := ins_get I.hok ea
    obtain ⟨od, J, _⟩ := O.look
    exact PySem.W.kia_one (PySem.W.kitx_own (cl.get _) cl.hd ha hn htk hm) I.kIn J e (fun z => nomatch z) h
end
end L2

namespace L2
open PySem PySem.Spec PyProof.Rows

/-! ### room -/
structure Room (k : Nat) (A : Around) : Prop where
  hd : A.handled = none
  dp : A.depth + 3 * k + 5 < recursionLimit
  un : A.units + 16 * k + 200 < cLine
theorem Room.mono {j k : Nat} {A : Around} (r : Room k A) (h : j ≤ k) : Room j A := ⟨r.hd, by have := r.dp; omega, by have := r.un; omega⟩
theorem Room.deeper {k : Nat} {A : Around} (r : Room (k + 1) A) (env : Env) : Room k (A.deeper env) :=
  ⟨r.hd, by have := r.dp; show A.depth + 1 + 3 * k + 5 < _; omega, by have := r.un; show A.units + 3 + 16 * k + 200 < _; omega⟩
theorem Room.in1 {k : Nat} {A : Around} (r : Room (k + 1) A) : Room k A.in1 :=
  ⟨r.hd, by have := r.dp; show A.depth + 3 * k + 5 < _; omega, by have := r.un; show A.units + 1 + 16 * k + 200 < _; omega⟩
theorem make_depth {A : Around} {C : Addr} {us : List Value} {kw : List (Str × Value)} : (A.under (.builtin "type.__call__" ⟨.ref C :: us, kw⟩)).depth = A.depth + 1 := by
  first | rfl | simp [Around.under, Code.weight, Code.isCreation, Code.isGuard, Code.isCaller, Code.frames, Code.isFrame, guardIds]
theorem make_units {A : Around} {C : Addr} {us : List Value} {kw : List (Str × Value)} : (A.under (.builtin "type.__call__" ⟨.ref C :: us, kw⟩)).units = A.units + 1 := by
  first | rfl | simp [Around.under, Code.cUnits, Code.frames, Code.isFrame]
theorem Room.make {k : Nat} {A : Around} (r : Room (k + 1) A) (C : Addr) (us : List Value) (kw : List (Str × Value)) : Room k (A.under (.builtin "type.__call__" ⟨.ref C :: us, kw⟩)) :=
  ⟨r.hd, by have := r.dp; rw [make_depth]; omega, by have := r.un; rw [make_units]; omega⟩
theorem Room.depth {k : Nat} {A : Around} (r : Room k A) : A.depth < recursionLimit := by have := r.dp; omega
theorem Room.units {k : Nat} {A : Around} (r : Room k A) : A.units + 64 < cLine := by have := r.un; omega
theorem Room.units0 {k : Nat} {A : Around} (r : Room k A) : A.units < cLine := by have := r.un; omega

/-! ### argument lists and displays -/
def tNil : TA := fun _ H Q => Q [] H
def tCons (ta : TE) (tr : TA) : TA := fun σ H Q => ta σ H fun x H1 => tr σ H1 fun xs H2 => Q (x :: xs) H2
section
variable {X : Cx} {e : Expr} {es : List Expr} {te : TE} {t : TA} {pos : Pos}
theorem pa_nil : PA X [] tNil := fun _ _ _ _ H Q I h => Calls.spliced_nil ⟨[], H, I, .nil, h⟩
theorem pa_cons (ha : PE X e te) (hr : PA X es t) (hs : starEach (e :: es) X.env = (false, eval e X.env) :: starEach es X.env := by rfl) : PA X (e :: es) (tCons te t) := by
  intro pos pins s σ H Q I h
  rw [hs]
  show wpAny _ _ (spliced ((false, eval e X.env) :: backTo pos (starEach es X.env))) _ _ s
  refine Calls.spliced_cons (thn (ha pins s σ H _ I h) fun u s1 ⟨x, H1, I1, r1, q1⟩ => ?_)
  exact thn (hr pos pins s1 σ H1 _ I1 q1) fun us s2 ⟨xs, H2, I2, r2, q2⟩ => ⟨x :: xs, H2, I2, .cons r1 r2, q2⟩

/-- a tuple, a list of written items -/
def tTup (t : TA) : TE := fun σ H Q => t σ H fun xs H1 => xs.length ≤ sizeLine ∧ ∀ p, H1 p = none → Q (.ref p) (upd H1 p (.tup xs))
def tLst (t : TA) : TE := fun σ H Q => t σ H fun xs H1 => xs.length ≤ sizeLine ∧ ∀ p, H1 p = none → Q (.ref p) (upd H1 p (.lst xs))
theorem pe_tup {x1} (h : PA X es t) : PE X (.Tuple es x1 pos) (tTup t) := by
  intro pins s σ H Q I hq
  refine wpAny_Tuple_spliced (thn (h pos pins s σ H _ I hq) fun us s1 ⟨xs, H1, I1, r, z, q⟩ => ⟨by rw [← r.length]; exact z, ?_⟩)
  have hf : H1 s1.heap.objs.size = none := I1.hok.fresh (Nat.le_refl _)
  refine ⟨.ref s1.heap.objs.size, upd H1 s1.heap.objs.size (.tup xs), I1.laid (t' := s1.toks) (fun b u e => Heap.get?_push_of_some _ e) (Nat.le_refl _) ?_, rfl, q _ hf⟩
  exact ⟨z, us, r, ⟨_, Heap.get?_push_size _ rfl, rfl, _, rfl⟩⟩
theorem pe_lst (h : PA X es t) : PE X (.List es pos) (tLst t) := by
  intro pins s σ H Q I hq
  refine wpAny_List_spliced (thn (h pos pins s σ H _ I hq) fun us s1 ⟨xs, H1, I1, r, z, q⟩ => ⟨by rw [← r.length]; exact z, ?_⟩)
  have hf : H1 s1.heap.objs.size = none := I1.hok.fresh (Nat.le_refl _)
  refine ⟨.ref s1.heap.objs.size, upd H1 s1.heap.objs.size (.lst xs), I1.laid (t' := s1.toks) (fun b u e => Heap.get?_push_of_some _ e) (Nat.le_refl _) ?_, rfl, q _ hf⟩
  exact ⟨z, us, 0, r, Heap.get?_push_size _ rfl⟩
end

/-! ### what a def promises -/
/-- a def's promise: the bound arguments in the parameters' order, the heap, the wanted end, the wanted exception -/
abbrev Sp := List V → Hp → VK → XK → Prop
/-- how an exception lies behind a call (file 08 gives it): the callers' frames, abstract heap and state ahead of the call, the wish, the exception, the state -/
abbrev CXT := List Env → Hp → Shared → XK → Value → Shared → Prop

/-- the state at a call -/
structure Env0 (P : Program) (w : World) (K : PySem.W.Frag) (mg : Str → Option Value) (base : Heap) (A : Around) (outer : List Env) (s : Shared) (H : Hp) : Prop where
  frames : A.frames = some outer
  mod : Mod K mg base
  bs : ∀ b o, base.get? b = some o → s.heap.get? b = some o ∧ H b = none
  bsz : base.objs.size ≤ s.heap.objs.size
  funs : s.heap.FunFrames base outer
  frf : ∀ b ∈ frs outer, H b = none
  hok : HOk P w H s.heap
  bare : AllBare s.gens
/-- a call's end -/
def CE (outer : List Env) (P : Program) (w : World) (H : Hp) (s : Shared) (Q : VK) (u : Value) (s' : Shared) : Prop :=
  ∃ v H', s'.os = s.os ∧ AllBare s'.gens ∧ Un (frs outer) [] H H' s.heap s'.heap ∧ HOk P w H' s'.heap ∧ RelV v u ∧ Q v H'
def CR (CX : CXT) (outer : List Env) (P : Program) (w : World) (H : Hp) (s : Shared) (Q : VK) (E : XK) (r : Result) (s' : Shared) : Prop :=
  match r with
  | .ok (.ret u) => CE outer P w H s Q u s'
  | .ok _ => False
  | .error e => CX outer H s E e s'
structure FnOk (P : Program) (w : World) (K : PySem.W.Frag) (mg : Str → Option Value) (base : Heap) (CX : CXT) (k : Nat) (f : Addr) (fd : FuncData) (ps : List Str) (sp : Sp) : Prop where
  len : ∀ vs H Q E, sp vs H Q E → vs.length = ps.length
  run : ∀ (A : Around) (outer : List Env) (s : Shared) (H : Hp) (args : Args) (us : List Value) (vs : List V) (Q : VK) (E : XK), Room k A → Env0 P w K mg base A outer s H → BindsTo s fd args (ps.zip us) → Vals vs us → sp vs H Q E →
    codeAny (model P w) A (.call (.ref f) args) (CR CX outer P w H s Q E) s
theorem FnOk.mono {P : Program} {w : World} {K : PySem.W.Frag} {mg : Str → Option Value} {base : Heap} {CX : CXT} {j k : Nat} {f : Addr} {fd : FuncData} {ps : List Str} {sp : Sp} (F : FnOk P w K mg base CX j f fd ps sp) (h : j ≤ k) :
    FnOk P w K mg base CX k f fd ps sp := ⟨F.len, fun A outer s H args us vs Q E hr => F.run A outer s H args us vs Q E (hr.mono h)⟩
/-- a weaker promise -/
theorem FnOk.imp {P : Program} {w : World} {K : PySem.W.Frag} {mg : Str → Option Value} {base : Heap} {CX : CXT} {k : Nat} {f : Addr} {fd : FuncData} {ps : List Str} {sp sp' : Sp} (F : FnOk P w K mg base CX k f fd ps sp)
    (h : ∀ vs H Q E, sp' vs H Q E → sp vs H Q E) : FnOk P w K mg base CX k f fd ps sp' :=
  ⟨fun vs H Q E q => F.len vs H Q E (h _ _ _ _ q), fun A outer s H args us vs Q E hr he hb hv hs => F.run A outer s H args us vs Q E hr he hb hv (h _ _ _ _ hs)⟩

theorem Env0.make {P : Program} {w : World} {K : PySem.W.Frag} {mg : Str → Option Value} {base : Heap} {A : Around} {outer : List Env} {s : Shared} {H : Hp} (e : Env0 P w K mg base A outer s H) (C : Addr) (us : List Value) (kw : List (Str × Value)) :
    Env0 P w K mg base (A.under (.builtin "type.__call__" ⟨.ref C :: us, kw⟩)) outer s H := ⟨by first | exact e.frames | (simpa [Around.under, Code.envs, Code.isFrame, pushEnvs] using e.frames), e.mod, e.bs, e.bsz, e.funs, e.frf, e.hok, e.bare⟩
theorem Env0.in1 {P : Program} {w : World} {K : PySem.W.Frag} {mg : Str → Option Value} {base : Heap} {A : Around} {outer : List Env} {s : Shared} {H : Hp} (e : Env0 P w K mg base A outer s H) :
    Env0 P w K mg base A.in1 outer s H := ⟨e.frames, e.mod, e.bs, e.bsz, e.funs, e.frf, e.hok, e.bare⟩

section
variable {X : Cx} {pins : List (Addr × Obj)} {σ : St} {H : Hp} {s s' : Shared}
/-- from a body: what a callee wants -/
theorem Inv.env0 (I : Inv X pins σ H s) : Env0 X.prog X.w X.K X.mg X.base X.A X.stack s H :=
  ⟨I.ok.frames, I.ok.mod, I.bs, Nat.le_trans I.ok.bsz I.sz, I.stack, I.stkFree, I.hok, I.bare⟩
/-- behind a call -/
theorem Inv.after {Q : VK} {u : Value} (I : Inv X pins σ H s) (h : CE X.stack X.prog X.w H s Q u s') : EP X pins σ Q u s' := by
  obtain ⟨v, H', os, bare, un, hok, r, q⟩ := h
  obtain ⟨hh, g, d, t, os'⟩ := s'
  obtain rfl : os' = s.os := os
  exact ⟨v, H', I.call (h' := hh) (g' := g) (d' := d) (t' := t) (ch := []) un hok bare (fun b z => absurd z (by simp)), r, q⟩
end

/-! ### calls -/
/-- f(..): the written arguments, then the defaults dvs; E: what is wanted of an exception -/
def tCall (sp : Sp) (dvs : List V) (E : XK) (t : TA) : TE := fun σ H Q => t σ H fun vs H1 => sp (vs ++ dvs) H1 Q E
/-- o.m(..) of an instance of the class at C -/
def tMeth (C : Addr) (m : Str) (sp : Sp) (dvs : List V) (E : XK) (ta : TE) (t : TA) : TE := fun σ H Q => ta σ H fun x H1 => ∃ a dx fs, x = .ref a ∧ H1 a = some (.ins C dx fs) ∧ fs.lookup m = none ∧
  t σ H1 fun vs H2 => sp (x :: (vs ++ dvs)) H2 Q E
/-- C(..): a new instance and its dict, then __init__ -/
def tMake (C : Addr) (sp : Sp) (dvs : List V) (E : XK) (t : TA) : TE := fun σ H Q => t σ H fun vs H1 => ∀ x dx, H1 x = none → H1 dx = none → dx ≠ x →
  sp (.ref x :: (vs ++ dvs)) (upd (upd H1 dx (.own x)) x (.ins C dx [])) (fun v H2 => v = .non ∧ Q (.ref x) H2) E

/-- how the parameters are bound: us the positional arguments, kw the keywords' values by name, ds the defaults that fill up -/
def Binds (K : PySem.W.Frag) (fd : FuncData) (ps : List Str) (ds : List Value) : Prop :=
  ∀ (s : Shared) (us : List Value), K.In s.heap → (us ++ ds).length = ps.length → BindsTo s fd ⟨us, []⟩ (ps.zip (us ++ ds))
/-- every parameter is given -/
theorem Binds.all {K : PySem.W.Frag} {fd : FuncData} {ps : List Str} (h : ∀ us : List Value, us.length = ps.length → bindArgs fd ⟨us, []⟩ = pure (ps.zip us)) : Binds K fd ps [] := fun s us _ hl => by
  rw [List.append_nil] at hl ⊢
  exact .of_eq (h us hl)

/-- an exception of a callee reaches what this body wants of exceptions -/
def Passes (CX : CXT) (X : Cx) (E : XK) : Prop := ∀ (pins : List (Addr × Obj)) (σ : St) (H : Hp) (s : Shared) (e : Value) (s' : Shared), Inv X pins σ H s → CX X.stack H s E e s' → X.xe e s'

section
variable {X : Cx} {CX : CXT} {k : Nat} {f C : Addr} {fd : FuncData} {ps : List Str} {sp : Sp} {dvs : List V} {ds : List Value} {E : XK} {x m : Str} {p pos apos : Pos} {e o : Expr} {es : List Expr} {ta : TE} {t : TA}

/-- the callee runs -/
theorem run_fn {pins : List (Addr × Obj)} {σ : St} {H : Hp} {s : Shared} {Q : VK} {us : List Value} {vs : List V} (F : FnOk X.prog X.w X.K X.mg X.base CX k f fd ps sp) (hr : Room k X.A) (hb : Binds X.K fd ps ds) (hd : Vals dvs ds) (hx : Passes CX X E)
    (I : Inv X pins σ H s) (r : Vals vs us) (h : sp (vs ++ dvs) H Q E) : wpAny (model X.prog X.w) X.A (call (.ref f) us) (EP X pins σ Q) X.xe s := by
  have r2 : Vals (vs ++ dvs) (us ++ ds) := r.append hd
  have hl : (us ++ ds).length = ps.length := by rw [← r2.length]; exact F.len _ _ _ _ h
  refine wpAny_call (codeAny_mono (F.run X.A X.stack s H ⟨us, []⟩ (us ++ ds) (vs ++ dvs) Q E hr I.env0 (hb s us I.kIn hl) r2 h) fun r s' hq => ?_)
  cases r with
  | error e => exact hx pins σ H s e s' I hq
  | ok fl =>
    cases fl with
    | ret u => exact I.after hq
    | next => exact False.elim hq
    | brk => exact False.elim hq
    | cont => exact False.elim hq

theorem pe_call (F : FnOk X.prog X.w X.K X.mg X.base CX k f fd ps sp) (hr : Room k X.A) (hg : Gl X x) (hm : X.mg x = some (.ref f)) (hk : PySem.W.keepIn X.K (.ref f) = true) (hb : Binds X.K fd ps ds) (hd : Vals dvs ds) (hx : Passes CX X E)
    (ha : PA X (e :: es) t) (hdb : (x == ("__debug__" : Str)) = false := by decide) (he : starEach (e :: es) X.env = (false, eval e X.env) :: starEach es X.env := by rfl) (hpl : (backTo pos (starEach es X.env)).any (·.1) = false := by rfl) :
    PE X (.Call (.Name x p) (e :: es) [] pos) (tCall sp dvs E t) := by
  intro pins s σ H Q I h
  refine wpAny_Call_Name_kw (ld_glob I hg hm ?_ hdb)
  refine PySem.W.callWith_K (h₀ := X.base) I.ok.mod.kin hk (thn (ha pos pins s σ H _ I h) fun us s1 ⟨vs, H1, I1, r, q⟩ => ⟨I1.kIn, ?_⟩) he hpl
  exact run_fn F hr hb hd hx I1 r q
theorem pe_call0 (F : FnOk X.prog X.w X.K X.mg X.base CX k f fd ps sp) (hr : Room k X.A) (hg : Gl X x) (hm : X.mg x = some (.ref f)) (hk : PySem.W.keepIn X.K (.ref f) = true) (hb : Binds X.K fd ps ds) (hd : Vals dvs ds) (hx : Passes CX X E)
    (hdb : (x == ("__debug__" : Str)) = false := by decide) : PE X (.Call (.Name x p) [] [] pos) (tCall sp dvs E tNil) := by
  intro pins s σ H Q I h
  refine wpAny_Call_Name_kw (ld_glob I hg hm ?_ hdb)
  exact PySem.W.callWith_K0 I.kIn hk (run_fn (us := []) F hr hb hd hx I .nil h)

/-- o.m(e, ..) -/
theorem pe_meth {pl : Sem Bool} (he : PE X o ta) (c : Cls X.K C) (hm : Meth X.K C m f) (F : FnOk X.prog X.w X.K X.mg X.base CX k f fd ps sp) (hr : Room k X.A) (hb : Binds X.K fd ps ds) (hd : Vals dvs ds) (hx : Passes CX X E) (ha : PA X (e :: es) t)
    (hst : starEach (e :: es) X.env = (false, eval e X.env) :: starEach es X.env := by rfl) (hpl : (backTo pos (starEach es X.env)).any (·.1) = false := by rfl)
    (ht : eval (.Call (.Attribute o m apos) (e :: es) [] pos) X.env = (do
      let ov ← eval o X.env
      standAt apos.atName
      let (f, first) ← holding [ov] (getMethod ov m pl)
      callWith pos f first (backTo pos (starEach (e :: es) X.env)) (backToKw pos (keywordEach [] X.env))) := by rfl) :
    PE X (.Call (.Attribute o m apos) (e :: es) [] pos) (tMeth C m sp dvs E ta t) := by
  intro pins s σ H Q I h
  refine PySem.W.methodCall_KW (pl := pl) (thn (he pins s σ H _ I h) fun u s1 ⟨x, H1, I1, rx, a, dx, fs, ex, ea, l, q⟩ => ?_) ht
  subst ex
  obtain rfl : u = Value.ref a := rx
  refine getmeth_ok I1 ea c hm l ?_
  refine PySem.W.callWith_K (first := [.ref a]) (h₀ := X.base) I.ok.mod.kin hm.kp (thn (ha pos pins s1 σ H1 _ I1 q) fun us s2 ⟨vs, H2, I2, r, q2⟩ => ⟨I2.kIn, ?_⟩) hst hpl
  exact run_fn (us := .ref a :: us) (vs := .ref a :: vs) F hr hb hd hx I2 (.cons rfl r) q2
/-- o.m() -/
theorem pe_meth0 {pl : Sem Bool} (he : PE X o ta) (c : Cls X.K C) (hm : Meth X.K C m f) (F : FnOk X.prog X.w X.K X.mg X.base CX k f fd ps sp) (hr : Room k X.A) (hb : Binds X.K fd ps ds) (hd : Vals dvs ds) (hx : Passes CX X E)
    (ht : eval (.Call (.Attribute o m apos) [] [] pos) X.env = (do
      let ov ← eval o X.env
      standAt apos.atName
      let (f, first) ← holding [ov] (getMethod ov m pl)
      callWith pos f first (backTo pos (starEach [] X.env)) (backToKw pos (keywordEach [] X.env))) := by rfl) :
    PE X (.Call (.Attribute o m apos) [] [] pos) (tMeth C m sp dvs E ta tNil) := by
  intro pins s σ H Q I h
  refine PySem.W.methodCall_KW (pl := pl) (thn (he pins s σ H _ I h) fun u s1 ⟨x, H1, I1, rx, a, dx, fs, ex, ea, l, q⟩ => ?_) ht
  subst ex
  obtain rfl : u = Value.ref a := rx
  refine getmeth_ok I1 ea c hm l ?_
  exact PySem.W.callWith_K0 (first := [.ref a]) I1.kIn hm.kp (run_fn (us := [.ref a]) (vs := [.ref a]) F hr hb hd hx I1 (.cons rfl .nil) q)

/-- what a class must have to be made -/
structure Mk (K : PySem.W.Frag) (C f : Addr) : Prop where
  makes : PySem.W.makesIn K C = true
  init : PySem.W.findIn K (.ref C) "__init__" = some (some (.ref f))
  fn : PySem.W.isFn K (.ref f) = true
  kp : PySem.W.keepIn K (.ref C) = true

theorem run_make {pins : List (Addr × Obj)} {σ : St} {H : Hp} {s : Shared} {Q : VK} {us : List Value} {vs : List V} (M : Mk X.K C f) (F : FnOk X.prog X.w X.K X.mg X.base CX k f fd ps sp) (hr : Room (k + 1) X.A) (hb : Binds X.K fd ps ds) (hd : Vals dvs ds)
    (hx : Passes CX X E) (I : Inv X pins σ H s) (r : Vals vs us)
    (h : ∀ x dx, H x = none → H dx = none → dx ≠ x → sp (.ref x :: (vs ++ dvs)) (upd (upd H dx (.own x)) x (.ins C dx [])) (fun v H2 => v = .non ∧ Q (.ref x) H2) E) :
    wpAny (model X.prog X.w) X.A (call (.ref C) us) (EP X pins σ Q) X.xe s := by
  have hq := h (s.heap.objs.size + 1) s.heap.objs.size (I.hok.fresh (Nat.le_succ _)) (I.hok.fresh (Nat.le_refl _)) (Nat.ne_of_lt (Nat.lt_succ_self _))
  have I2 := Inv.made (C := C) I
  have r2 : Vals (V.ref (s.heap.objs.size + 1) :: (vs ++ dvs)) (Value.ref (s.heap.objs.size + 1) :: (us ++ ds)) := .cons rfl (r.append hd)
  have hl : (Value.ref (s.heap.objs.size + 1) :: us ++ ds).length = ps.length := by
    have e := r2.length
    rw [F.len _ _ _ _ hq] at e
    exact e.symm
  refine wpAny_call (make_map (f := f) I.kIn M.makes M.init (beq_iff_eq.mp M.fn) (codeAny_mono (F.run _ X.stack _ _ ⟨Value.ref (s.heap.objs.size + 1) :: us, []⟩ (Value.ref (s.heap.objs.size + 1) :: (us ++ ds)) _ _ E (hr.make C us [])
    (I2.env0.make C us []) (hb _ (Value.ref (s.heap.objs.size + 1) :: us) I2.kIn hl) r2 hq) fun r s' hq' => ?_))
  cases r with
  | error e => exact hx pins σ _ _ e s' I2 hq'
  | ok fl =>
    cases fl with
    | ret u =>
      obtain ⟨v, H', I3, rv, ev, q3⟩ := I2.after hq'
      subst ev
      exact ⟨rv, ⟨V.ref (s.heap.objs.size + 1), H', I3, rfl, q3⟩⟩
    | next => exact False.elim hq'
    | brk => exact False.elim hq'
    | cont => exact False.elim hq'
theorem pe_make (M : Mk X.K C f) (F : FnOk X.prog X.w X.K X.mg X.base CX k f fd ps sp) (hr : Room (k + 1) X.A) (hg : Gl X x) (hm : X.mg x = some (.ref C)) (hb : Binds X.K fd ps ds) (hd : Vals dvs ds) (hx : Passes CX X E)
    (ha : PA X (e :: es) t) (hdb : (x == ("__debug__" : Str)) = false := by decide) (he : starEach (e :: es) X.env = (false, eval e X.env) :: starEach es X.env := by rfl) (hpl : (backTo pos (starEach es X.env)).any (·.1) = false := by rfl) :
    PE X (.Call (.Name x p) (e :: es) [] pos) (tMake C sp dvs E t) := by
  intro pins s σ H Q I h
  refine wpAny_Call_Name_kw (ld_glob I hg hm ?_ hdb)
  refine PySem.W.callWith_K (h₀ := X.base) I.ok.mod.kin M.kp (thn (ha pos pins s σ H _ I h) fun us s1 ⟨vs, H1, I1, r, q⟩ => ⟨I1.kIn, ?_⟩) he hpl
  exact run_make M F hr hb hd hx I1 r q
theorem pe_make0 (M : Mk X.K C f) (F : FnOk X.prog X.w X.K X.mg X.base CX k f fd ps sp) (hr : Room (k + 1) X.A) (hg : Gl X x) (hm : X.mg x = some (.ref C)) (hb : Binds X.K fd ps ds) (hd : Vals dvs ds) (hx : Passes CX X E)
    (hdb : (x == ("__debug__" : Str)) = false := by decide) : PE X (.Call (.Name x p) [] [] pos) (tMake C sp dvs E tNil) := by
  intro pins s σ H Q I h
  refine wpAny_Call_Name_kw (ld_glob I hg hm ?_ hdb)
  exact PySem.W.callWith_K0 I.kIn M.kp (run_make (us := []) M F hr hb hd hx I .nil h)
end

/-! ### keywords -/
/-- the values of the keywords, from the left -/
def PK (X : Cx) (kws : List Keyword) (t : TA) : Prop :=
  ∀ (pos : Pos) (pins : List (Addr × Obj)) (s : Shared) (σ : St) (H : Hp) (Q : List V → Hp → Prop), Inv X pins σ H s → t σ H Q → wpAny (model X.prog X.w) X.A (evalAll ((backToKw pos (keywordEach kws X.env)).map (·.2))) (AP X pins σ Q) X.xe s
section
variable {X : Cx} {CX : CXT} {k : Nat} {f C : Addr} {fd : FuncData} {ps ks : List Str} {sp : Sp} {E : XK} {x m : Str} {p pos apos kpos : Pos} {e o : Expr} {es : List Expr} {kws : List Keyword} {te ta : TE} {t tk : TA} {nm : Option Str}
theorem pk_nil : PK X [] tNil := fun _ _ _ _ H Q I h => wpAny_evalAll_nil ⟨[], H, I, .nil, h⟩
theorem pk_cons (ha : PE X e te) (hr : PK X kws t) : PK X (⟨nm, e, kpos⟩ :: kws) (tCons te t) := by
  intro pos pins s σ H Q I h
  show wpAny _ _ (evalAll ((do let v ← eval e X.env; standAt pos; pure v) :: (backToKw pos (keywordEach kws X.env)).map (·.2))) _ _ s
  refine wpAny_evalAll_cons (wpAny_bind (thn (ha pins s σ H _ I h) fun u s1 ⟨x, H1, I1, r1, q1⟩ => wpAny_bind (wpAny_standAt (wpAny_pure ?_))))
  exact thn (hr pos pins s1 σ H1 _ I1 q1) fun us s2 ⟨xs, H2, I2, r2, q2⟩ => ⟨x :: xs, H2, I2, .cons r1 r2, q2⟩

/-- how a call with keywords binds: g puts the positional values us and the keywords' values ws (names ks) in the parameters' order, defaults among them -/
structure KBinds (K : PySem.W.Frag) (fd : FuncData) (ps ks : List Str) (g : List Value → List Value → List Value) (gV : List V → List V → List V) : Prop where
  to : ∀ (s : Shared) (us ws : List Value), K.In s.heap → (g us ws).length = ps.length → BindsTo s fd ⟨us, ks.zip ws⟩ (ps.zip (g us ws))
  rel : ∀ {vs : List V} {us : List Value} {zs : List V} {ws : List Value}, Vals vs us → Vals zs ws → Vals (gV vs zs) (g us ws)
def tCallK (sp : Sp) (gV : List V → List V → List V) (E : XK) (t tk : TA) : TE := fun σ H Q => t σ H fun vs H1 => tk σ H1 fun zs H2 => sp (gV vs zs) H2 Q E
variable {g : List Value → List Value → List Value} {gV : List V → List V → List V}
theorem run_fnk {pins : List (Addr × Obj)} {σ : St} {H : Hp} {s : Shared} {Q : VK} {us ws : List Value} {vs zs : List V} (F : FnOk X.prog X.w X.K X.mg X.base CX k f fd ps sp) (hr : Room k X.A) (hb : KBinds X.K fd ps ks g gV) (hx : Passes CX X E)
    (I : Inv X pins σ H s) (r : Vals vs us) (rz : Vals zs ws) (h : sp (gV vs zs) H Q E) : wpAny (model X.prog X.w) X.A (call (.ref f) us (ks.zip ws)) (EP X pins σ Q) X.xe s := by
  have r2 := hb.rel r rz
  have hl : (g us ws).length = ps.length := by rw [← r2.length]; exact F.len _ _ _ _ h
  refine wpAny_call (codeAny_mono (F.run X.A X.stack s H ⟨us, ks.zip ws⟩ (g us ws) (gV vs zs) Q E hr I.env0 (hb.to s us ws I.kIn hl) r2 h) fun r s' hq => ?_)
  cases r with
  | error e => exact hx pins σ H s e s' I hq
  | ok fl =>
    cases fl with
    | ret u => exact I.after hq
    | next => exact False.elim hq
    | brk => exact False.elim hq
    | cont => exact False.elim hq
/-- f(e, .., k = v, ..) -/
theorem pe_callK (F : FnOk X.prog X.w X.K X.mg X.base CX k f fd ps sp) (hr : Room k X.A) (hg : Gl X x) (hm : X.mg x = some (.ref f)) (hk : PySem.W.keepIn X.K (.ref f) = true) (hb : KBinds X.K fd ps ks g gV) (hx : Passes CX X E)
    (ha : PA X (e :: es) t) (hkw : PK X kws tk) (hall : (backToKw pos (keywordEach kws X.env)).all (·.1.isSome) = true := by rfl) (hks : (backToKw pos (keywordEach kws X.env)).filterMap (·.1) = ks := by rfl)
    (hdb : (x == ("__debug__" : Str)) = false := by decide) (he : starEach (e :: es) X.env = (false, eval e X.env) :: starEach es X.env := by rfl)
    (hpl : ((backTo pos (starEach (e :: es) X.env)).any (·.1) || (backToKw pos (keywordEach kws X.env)).any (·.1.isNone)) = false := by rfl) :
    PE X (.Call (.Name x p) (e :: es) kws pos) (tCallK sp gV E t tk) := by
  intro pins s σ H Q I h
  refine wpAny_Call_Name_kw (ld_glob I hg hm ?_ hdb)
  refine PySem.W.callWith_KW (h₀ := X.base) I.ok.mod.kin hk hall (thn (ha pos pins s σ H _ I h) fun us s1 ⟨vs, H1, I1, r, q⟩ => ?_) hpl he
  refine thn (hkw pos pins s1 σ H1 _ I1 q) fun ws s2 ⟨zs, H2, I2, rz, q2⟩ => ⟨I2.kIn, ?_⟩
  rw [hks]
  exact run_fnk F hr hb hx I2 r rz q2
end

/-! ### a def's body keeps its promise -/
/-- names: the parameters first -/
structure FnScope (N P : List Str) (sc : Scope) : Prop where
  kind : sc.kind = .function
  co : sc.isCoroutine = false
  gen : sc.isGenerator = false
  nd : N.Nodup
  pre : N.take P.length = P
  par : ∀ x ∈ P, sc.names.lookup x = some .local ∨ sc.names.lookup x = some .cell
  nofree : ∀ y ∈ sc.names, y.2 ≠ .free

theorem bindL_out {kindOf : Str → Option NameKind} {x : Str} : ∀ {binds : List (Str × Value)} {m : Str → Option Value}, (∀ v, (x, v) ∉ binds) → bindL kindOf binds m x = m x
  | [], _, _ => rfl
  | (n, v) :: r, m, h => by
    unfold bindL
    rw [bindL_out fun w hw => h w (List.mem_cons_of_mem _ hw)]
    split
    · have : x ≠ n := by rintro rfl; exact h v List.mem_cons_self
      simp [this]
    · rfl
theorem bindC_out {kindOf : Str → Option NameKind} {x : Str} : ∀ {binds : List (Str × Value)} {m : Str → Option Value}, (∀ v, (x, v) ∉ binds) → bindC kindOf binds m x = m x
  | [], _, _ => rfl
  | (n, v) :: r, m, h => by
    unfold bindC
    rw [bindC_out fun w hw => h w (List.mem_cons_of_mem _ hw)]
    split
    · rfl
    · have : x ≠ n := by rintro rfl; exact h v List.mem_cons_self
      simp [this]
theorem bindL_get {kindOf : Str → Option NameKind} {x : Str} {v : Value} : ∀ {P : List Str} {vs : List Value} {i : Nat} {m : Str → Option Value}, P.Nodup → P[i]? = some x → vs[i]? = some v → kindOf x = some .local →
    bindL kindOf (P.zip vs) m x = some v
  | [], _, _, _, _, h, _, _ => by simp at h
  | _ :: _, [], _, _, _, _, h, _ => by simp at h
  | p :: P, w :: vs, 0, m, nd, h1, h2, hk => by
    simp at h1 h2; subst h1; subst h2
    show bindL kindOf ((p, w) :: P.zip vs) m p = _
    unfold bindL
    rw [bindL_out fun v hv => (List.nodup_cons.mp nd).1 (List.of_mem_zip hv).1, if_pos hk]
    simp
  | p :: P, w :: vs, i + 1, m, nd, h1, h2, hk => by
    show bindL kindOf ((p, w) :: P.zip vs) m x = _
    unfold bindL
    exact bindL_get (i := i) (List.nodup_cons.mp nd).2 (by simpa using h1) (by simpa using h2) hk
theorem bindC_get {kindOf : Str → Option NameKind} {x : Str} {v : Value} : ∀ {P : List Str} {vs : List Value} {i : Nat} {m : Str → Option Value}, P.Nodup → P[i]? = some x → vs[i]? = some v → kindOf x ≠ some .local →
    bindC kindOf (P.zip vs) m x = some v
  | [], _, _, _, _, h, _, _ => by simp at h
  | _ :: _, [], _, _, _, _, h, _ => by simp at h
  | p :: P, w :: vs, 0, m, nd, h1, h2, hk => by
    simp at h1 h2; subst h1; subst h2
    show bindC kindOf ((p, w) :: P.zip vs) m p = _
    unfold bindC
    rw [bindC_out fun v hv => (List.nodup_cons.mp nd).1 (List.of_mem_zip hv).1, if_neg hk]
    simp
  | p :: P, w :: vs, i + 1, m, nd, h1, h2, hk => by
    show bindC kindOf ((p, w) :: P.zip vs) m x = _
    unfold bindC
    exact bindC_get (i := i) (List.nodup_cons.mp nd).2 (by simpa using h1) (by simpa using h2) hk

/-- the names' values at the entry -/
def start (N : List Str) (vs : List V) : St := vs.map some ++ List.replicate (N.length - vs.length) none

/-- the context of a def's body, at its entry; an exception leaves the frame, then lies as CX says -/
def cxOf (CX : CXT) (P : Program) (w : World) (K : PySem.W.Frag) (mg : Str → Option Value) (base : Heap) (N : List Str) (qual : Str) (scope : Scope) (f : Addr) (cd : Value) (A : Around) (outer : List Env) (s : Shared) (H : Hp) (E : XK) : Cx where
  prog := P
  w := w
  K := K
  mg := mg
  base := base
  A := A.deeper (envOfC qual scope s.heap.objs.size f cd)
  N := N
  s₀ := s
  H₀ := H
  env := envOfC qual scope s.heap.objs.size f cd
  outer := outer
  stack := envOfC qual scope s.heap.objs.size f cd :: outer
  ex := []
  calm := true
  fn := fun _ => true
  pn := []
  xe := fun e s' => wpAny (model P w) (A.deeper (envOfC qual scope s.heap.objs.size f cd)) (leaving (envOfC qual scope s.heap.objs.size f cd) e) (fun _ s'' => CX outer H s E e s'') (fun e' s'' => CX outer H s E e' s'') s'

theorem cell_has {sc : Scope} {n : Nat} {x : Str} (h : sc.names.lookup x = some .cell) : ∃ c, (cellsFrom n sc.names []).lookup x = some c := by
  have q := PySem.W.cellsFrom_some sc.names n [] (.inl h)
  exact Option.isSome_iff_exists.mp q

theorem inv_start {CX : CXT} {P : Program} {w : World} {K : PySem.W.Frag} {mg : Str → Option Value} {base : Heap} {N ps : List Str} {qual : Str} {scope : Scope} {f : Addr} {cd : Value} {A : Around} {outer : List Env} {s s1 : Shared} {H : Hp} {E : XK} {us : List Value} {vs : List V}
    (S : FnScope N ps scope) (hd : A.handled = none) (e0 : Env0 P w K mg base A outer s H) (hl : vs.length = ps.length) (r : Vals vs us)
    (x : InCallC s s.heap.objs.size (bindL (envOfC qual scope s.heap.objs.size f cd).kindOf (ps.zip us) fun _ => none) (cellsFrom (s.heap.objs.size + 1) scope.names []) (bindC (envOfC qual scope s.heap.objs.size f cd).kindOf (ps.zip us) fun _ => none) s1) :
    Inv (cxOf CX P w K mg base N qual scope f cd A outer s H E) [] (start N vs) H s1 := by
  have hpl : ps.length ≤ N.length := by have := congrArg List.length S.pre; rw [List.length_take] at this; omega
  obtain ⟨h1, tk, rfl, hk⟩ := x.done
  have noA : ∀ b : Addr, b ∉ (cxOf CX P w K mg base N qual scope f cd A outer s H E).ex := fun b z => absurd (show b ∈ ([] : List Addr) from z) (by simp)
  refine ⟨⟨e0.mod, S.kind, rfl, rfl, Nat.le_refl _, fun y z c h1 h2 => ?_, fun y hy => ?_, fun y c _ h => ?_, fun _ => hd, Around.frames_deeper e0.frames, .inr ⟨rfl, rfl⟩, fun b z => absurd z (noA b), e0.bs, e0.bsz, fun b _ _ => noA b, fun b z => absurd z (noA b), e0.funs, e0.frf⟩,
    rfl, e0.bare, Un.kept hk, ⟨_, x.toInCall.ns, fun i y v h1 h2 h3 => ?_⟩, fun y c h => ⟨_, x.cell y c h⟩, e0.hok.fresh (Nat.le_refl _), fun y c h => ?_, fun p hp => absurd (show p ∈ ([] : List (Addr × Obj)) from hp) (by simp), e0.hok.kept hk, ?_⟩
  · exact name_of_addr x.apart (PySem.mem_of_lookup h1) (PySem.mem_of_lookup h2)
  · have hy : scope.names.lookup y = some .cell ∨ scope.names.lookup y = some .free := hy
    rcases hy with hy | hy
    · exact cell_has hy
    · exact absurd rfl (S.nofree _ (PySem.mem_of_lookup hy))
  · exact Nat.le_of_lt (x.above y c (PySem.mem_of_lookup h))
  · have hi : i < vs.length := by
      unfold start at h2
      by_cases hi : i < vs.length
      · exact hi
      · rw [List.getElem?_append_right (by simpa using hi)] at h2
        rw [List.getElem?_replicate] at h2
        split at h2 <;> cases h2
    have ha : vs[i]? = some v := by
      unfold start at h2
      rw [List.getElem?_append_left (by simpa using hi), List.getElem?_map] at h2
      cases e : vs[i]? with
      | none => rw [e] at h2; cases h2
      | some a => rw [e] at h2; cases h2; rfl
    obtain ⟨u, hu, rv⟩ := r.get ha
    have hp : ps[i]? = some y := by
      rw [← S.pre, List.getElem?_take_of_lt (by omega)]; exact h1
    have ndP : ps.Nodup := by rw [← S.pre]; exact S.nd.sublist (List.take_sublist _ _)
    refine ⟨u, rv, ?_⟩
    rcases S.par y (List.mem_of_getElem? hp) with k | k
    · exact .inl ⟨k, bindL_get ndP hp hu k⟩
    · obtain ⟨c, e⟩ := cell_has (n := s.heap.objs.size + 1) k
      refine .inr ⟨.inl k, c, e, ?_⟩
      have q := x.cell y c e
      rw [bindC_get ndP hp hu (by show scope.names.lookup y ≠ _; rw [k]; decide)] at q
      exact q
  · exact e0.hok.fresh (Nat.le_of_lt (x.above y c (PySem.mem_of_lookup h)))
  · unfold start
    show _ = N.length
    rw [List.length_append, List.length_map, List.length_replicate]
    omega

/-- THE RULE: a def (or a method) of the text, by its body. The body's reading t is chosen for each entry; it is run at the parameters' values -/
theorem fn_of {CX : CXT} {P : Program} {w : World} {K : PySem.W.Frag} {mg : Str → Option Value} {base : Heap} {k : Nat} {f : Addr} {name qual : Str} {params : Arguments} {body : List Stmt} {scope : Scope} {dV kV doc pm cdv ct oc : Value} {an od : Option Addr}
    {osl : Array (Option Value)} {N ps : List Str} {sp : Sp} (lk : K.lookup f = some ⟨oc, od, .func (PySem.W.fnOf name qual params body scope dV kV doc pm an cdv ct), osl⟩) (hcd : PySem.W.codeIn K cdv qual = true) (S : FnScope N ps scope)
    (len : ∀ vs H Q E, sp vs H Q E → vs.length = ps.length)
    (hbody : ∀ (A : Around) (outer : List Env) (s : Shared) (H : Hp) (vs : List V) (Q : VK) (E : XK), Room k (A.deeper (envOfC qual scope s.heap.objs.size f cdv)) → sp vs H Q E →
      ∃ t, PSs (cxOf CX P w K mg base N qual scope f cdv A outer s H E) body t ∧ t { nx := fun _ H' => Q .non H', rt := Q } (start N vs) H) :
    FnOk P w K mg base CX (k + 1) f (PySem.W.fnOf name qual params body scope dV kV doc pm an cdv ct) ps sp := by
  refine ⟨len, fun A outer s H args us vs Q E hr e0 hb r hsp => ?_⟩
  have hl := len _ _ _ _ hsp
  have KX : K.In s.heap := e0.mod.kin.keeps fun b o e => (e0.bs b o e).1
  have lim : s.heap.NoLimit := e0.mod.nolimit.keeps fun b o e => (e0.bs b o e).1
  have hkind : ∀ y ∈ ps.zip us, scope.names.lookup y.1 = some .local ∨ (scope.names.lookup y.1 = some .cell ∧ ((cellsFrom (s.heap.objs.size + 1) scope.names []).lookup y.1).isSome = true) := fun ⟨n, v⟩ hy => by
    rcases S.par n (List.of_mem_zip hy).1 with q | q
    · exact .inl q
    · exact .inr ⟨q, PySem.W.cellsFrom_some _ _ _ (.inl q)⟩
  refine codeAny_call_function hr.depth (KX _ _ lk) rfl S.co S.gen rfl (PySem.W.codeRec_of KX hcd) (hb _ _ _ _ ?_)
  refine wpAny_newFunctionEnv_cells S.kind hkind fun env he s1 x => ?_
  subst he
  refine ⟨lim.keeps x.toInCall.keep, codeAny_func ?_⟩
  obtain ⟨t, ht, hq⟩ := hbody A outer s H vs Q E (hr.deeper _) hsp
  have I : Inv (cxOf CX P w K mg base N qual scope f cdv A outer s H E) [] (start N vs) H s1 := inv_start S hr.hd e0 hl r x
  refine wpAny_mono (ht [] s1 (start N vs) H _ I hq) (fun fl s' hs => ?_) fun e s' hs => hs
  have fin : ∀ {σ' : St} {H' : Hp} {v : V} {u : Value}, Inv (cxOf CX P w K mg base N qual scope f cdv A outer s H E) [] σ' H' s' → RelV v u → Q v H' → CE outer P w H s Q u s' :=
    fun {σ' H' v u} J rv q => ⟨v, H', J.os, J.bare, J.base, J.hok, rv, q⟩
  cases fl with
  | ret u =>
    obtain ⟨v, σ', H', J, rv, q⟩ := hs
    exact fin J rv q
  | next =>
    obtain ⟨σ', H', J, q⟩ := hs
    exact fin (v := V.non) (u := Value.none) J rfl q
  | brk =>
    obtain ⟨_, _, _, q⟩ := hs
    exact False.elim q
  | cont =>
    obtain ⟨_, _, _, q⟩ := hs
    exact False.elim q
end L2

namespace L2
open PySem PySem.Spec PyProof.Rows
section
variable {X : Cx} {x : Str} {p pos : Pos} {e : Expr} {es : List Expr} {t : TA} {id T : String} {r : List V → Hp → VK → Prop}

def tCB (r : List V → Hp → VK → Prop) (t : TA) : TE := fun σ H Q => t σ H fun vs H1 => r vs H1 Q
/-- f(e, ..), f a built-in function -/
theorem pe_callB (hc : CallR X (.builtin id) r) (hg : Gl X x) (hm : X.mg x = none) (hv : bootBuiltins x = some (.builtin id)) (ha : PA X (e :: es) t) (hn : x ≠ "__name__" := by decide) (hdb : (x == ("__debug__" : Str)) = false := by decide)
    (he : starEach (e :: es) X.env = (false, eval e X.env) :: starEach es X.env := by rfl) (hpl : (backTo pos (starEach es X.env)).any (·.1) = false := by rfl) : PE X (.Call (.Name x p) (e :: es) [] pos) (tCB r t) := by
  intro pins s σ H Q I h
  refine wpAny_Call_Name_kw (ld_blt I hg hm hv ?_ hn hdb)
  exact PyProof.Rows.callWith_builtin1 (thn (ha pos pins s σ H _ I h) fun us s1 ⟨vs, H1, I1, r1, q1⟩ => hc pins s1 σ H1 vs us Q I1 r1 q1) he hpl
/-- T(e, ..), T a built-in type -/
theorem pe_callTy (hc : CallR X (.type T) r) (hg : Gl X x) (hm : X.mg x = none) (hv : bootBuiltins x = some (.type T)) (ha : PA X (e :: es) t) (hn : x ≠ "__name__" := by decide) (hdb : (x == ("__debug__" : Str)) = false := by decide)
    (he : starEach (e :: es) X.env = (false, eval e X.env) :: starEach es X.env := by rfl) (hpl : (backTo pos (starEach es X.env)).any (·.1) = false := by rfl) : PE X (.Call (.Name x p) (e :: es) [] pos) (tCB r t) := by
  intro pins s σ H Q I h
  refine wpAny_Call_Name_kw (ld_blt I hg hm hv ?_ hn hdb)
  exact PyProof.Rows.callWith_type1 (thn (ha pos pins s σ H _ I h) fun us s1 ⟨vs, H1, I1, r1, q1⟩ => hc pins s1 σ H1 vs us Q I1 r1 q1) he hpl
/-- T() -/
theorem pe_callTy0 (hc : CallR X (.type T) r) (hg : Gl X x) (hm : X.mg x = none) (hv : bootBuiltins x = some (.type T)) (hn : x ≠ "__name__" := by decide) (hdb : (x == ("__debug__" : Str)) = false := by decide) :
    PE X (.Call (.Name x p) [] [] pos) (tCB r tNil) := by
  intro pins s σ H Q I h
  refine wpAny_Call_Name_kw (ld_blt I hg hm hv ?_ hn hdb)
  exact PyProof.Rows.callWith_type0 (hc pins s σ H [] [] Q I .nil h)
end
end L2

namespace HT
open PySem PyProof.Rows

/-- t < u of tuples of ints -/
def lexLt : List Int → List Int → Bool
  | [], [] => false
  | [], _ :: _ => true
  | _ :: _, [] => false
  | x :: xs, y :: ys => if x = y then lexLt xs ys else decide (x < y)
theorem lexLt_cons (x y : Int) (xs ys : List Int) : lexLt (x :: xs) (y :: ys) = if x = y then lexLt xs ys else decide (x < y) := rfl
theorem lexLt_nil_nil : lexLt [] [] = false := rfl
theorem lexLt_nil_cons (y : Int) (ys : List Int) : lexLt [] (y :: ys) = true := rfl
theorem lexLt_cons_nil (x : Int) (xs : List Int) : lexLt (x :: xs) [] = false := rfl

theorem eqAt_int (A : Around) (s : Shared) (a : Int) (t : Tok) (c : Int) (u : Tok) : ∃ e, SeqAt.EqAt A s (.int a t) (.int c u) e ∧ (e = true ↔ a = c) :=
  ⟨(a == c), SeqAt.EqAt.int_int a t c u, by simp⟩
theorem rcLt_int (A : Around) (s : Shared) (a : Int) (t : Tok) (c : Int) (u : Tok) (prog : Program) (w : World) (E : Value → Shared → Prop) (Q : Value → Shared → Prop) (h : Q (.bool (decide (a < c))) s) :
    wpAny (model prog w) A (richCompare .Lt (.int a t) (.int c u)) Q E s :=
  (PyProof.Rows.lt_int h : wpAny (model prog w) A (compareOp .Lt (.int a t) (.int c u)) Q E s)

section
open PySem.SeqAt
open PySem.AutoSeq1 (wpAny_loadPart')
open PySem.MeetsSeq PySem.MeetsSeq2 PySem.MeetsSeq3

theorem tuple_lt_ints (l b : Addr) (items items2 : Array Value) (n n2 : Nat) (dd dd2 : Option Addr) (sl sl2 : Array (Option Value)) (ns ms : List Int) (hi : IntsAre items.toList ns) (hj : IntsAre items2.toList ms) :
    Meets (Builtin.«tuple.__lt__» ⟨[.ref l, .ref b], []⟩)
      (fun _ R s => s.heap.get? l = some { cls := .type "tuple", dict := dd, data := .seq items n, slots := sl } ∧ s.heap.get? b = some { cls := .type "tuple", dict := dd2, data := .seq items2 n2, slots := sl2 } ∧
        R (.ok (.ret (.bool (lexLt ns ms)))) s) :=
  .of_wp fun prog w A R s h => by
    obtain ⟨hp, g, d, tk, os⟩ := s; obtain ⟨hl, hb, h⟩ := h
    have f2 := AutoSeq1.sub_tuple_tuple
    have z1 : items.size = ns.length := by rw [← hi.length]; simp
    have z2 : items2.size = ms.length := by rw [← hj.length]; simp
    wp_walk using wpAny_loadPart' hl, wpAny_loadPart' hb, wpAny_forIn_list _ (fun rest b s' => b.1 = none ∧ s' = ⟨hp, g, d, tk, os⟩ ∧ ∃ (vs ws : List Value) (ns' ms' : List Int), rest = vs.zip ws ∧
      IntsAre vs ns' ∧ IntsAre ws ms' ∧ ns'.length + items2.size = ms'.length + items.size ∧ R (.ok (.ret (.bool (lexLt ns' ms')))) ⟨hp, g, d, tk, os⟩) _
    case turn =>
      rintro ⟨y, x⟩ rest b s' ⟨hb', rfl, vs, ws, ns', ms', hz, hvi, hwi, hlen, hR⟩
      cases hvi with
      | nil => rw [List.zip_nil_left] at hz; cases hz
      | cons a t hvi' =>
        cases hwi with
        | nil => rw [List.zip_nil_right] at hz; cases hz
        | cons c u hwi' =>
          rw [List.zip_cons_cons] at hz
          injection hz with hyx hrest
          injection hyx with hy hx
          subst hy hx
          rw [lexLt_cons] at hR
          simp only [List.length_cons] at hlen
          obtain ⟨e, he, hiff⟩ := eqAt_int A.in1 ⟨hp, g, d, tk, os⟩ a t c u
          refine wpAny_bind (he prog w _ _ ?_)
          cases e with
          | true =>
            rw [if_pos (hiff.mp rfl)] at hR
            wp_walk
            exact ⟨rfl, rfl, _, _, _, _, hrest, hvi', hwi', by omega, hR⟩
          | false =>
            rw [if_neg (fun q => absurd (hiff.mpr q) Bool.false_ne_true)] at hR
            have hri := rcLt_int A.in1 ⟨hp, g, d, tk, os⟩ a t c u prog w
            wp_walk using hri
            exact ⟨_, rfl, by simpa using hR⟩
    case fin =>
      rintro ⟨b1, b2⟩ s' ⟨hb', rfl, vs, ws, ns', ms', hz, hvi, hwi, hlen, hR⟩
      simp only at hb'
      subst hb'
      have hv : lexLt ns' ms' = decide (items.size < items2.size) := by
        cases hvi with
        | nil =>
          cases hwi with
          | nil =>
            simp only [List.length_nil] at hlen
            rw [lexLt_nil_nil]
            exact (decide_eq_false (by omega)).symm
          | cons c u hw =>
            simp only [List.length_nil, List.length_cons] at hlen
            rw [lexLt_nil_cons]
            exact (decide_eq_true (by omega)).symm
        | cons a t hv =>
          cases hwi with
          | nil =>
            simp only [List.length_nil, List.length_cons] at hlen
            rw [lexLt_cons_nil]
            exact (decide_eq_false (by omega)).symm
          | cons c u hw =>
            rw [List.zip_cons_cons] at hz
            cases hz
      rw [hv] at hR
      wp_walk
      exact ⟨_, rfl, by simpa [Builtin.Tuple.tupleCompareSizes] using hR⟩
    case h =>
      exact ⟨rfl, rfl, items.toList, items2.toList, ns, ms, rfl, hi, hj, by omega, h⟩
end

section
variable {prog : Program} {w : World} {A : Around} {E : Value → Shared → Prop} {s : Shared}

theorem lt_tupInts {l b : Addr} {items items2 : Array Value} {ns ms : List Int} {Q : Value → Shared → Prop} (hl : IsTup s.heap l items) (hb : IsTup s.heap b items2) (hi : IntsAre items.toList ns) (hj : IntsAre items2.toList ms)
    (hu : A.units < cLine) (h : Q (.bool (lexLt ns ms)) s) : wpAny (model prog w) A (compareOp .Lt (.ref l) (.ref b)) Q E s := by
  obtain ⟨⟨cls, dd, data, sl⟩, ho, hc, n, hd⟩ := id hl
  obtain ⟨⟨cls2, dd2, data2, sl2⟩, ho2, hc2, n2, hd2⟩ := id hb
  simp only at hc hd hc2 hd2
  subst hc hd hc2 hd2
  exact richCompare_meets_room (op := .Lt) ⟨_, ho, rfl⟩ ⟨_, ho2, rfl⟩ PySem.F.slot_tuple_lt PySem.F.entry_tuple_lt (PySem.F.args_tuple_lt_2 _ _) (tuple_lt_ints l b items items2 n n2 dd dd2 sl sl2 ns ms hi hj)
    ⟨ho, ho2, show Value.bool (lexLt ns ms) ≠ Value.notImplemented ∧ Q (.bool (lexLt ns ms)) s from ⟨(fun x => nomatch x), h⟩⟩ hu

/-- t + u, t not empty -/
theorem cat_tup {t b : Addr} {vs ws : List Value} {Q : Value → Shared → Prop} (ht : IsTup s.heap t vs.toArray) (hb : IsTup s.heap b ws.toArray) (hv : vs ≠ [])
    (h1 : ws = [] → Q (.ref t) s) (h2 : ws ≠ [] → Q (.ref s.heap.objs.size) { s with heap := s.heap.push { cls := .type "tuple", data := .seq (vs ++ ws).toArray } })
    (hsz : vs.length + ws.length ≤ sizeLine) : wpAny (model prog w) A (binaryOp .Add (.ref t) (.ref b)) Q E s := by
  obtain ⟨⟨cls, dd, data, sl⟩, ho, hc, n, hd⟩ := id ht
  obtain ⟨⟨cls2, dd2, data2, sl2⟩, ho2, hc2, n2, hd2⟩ := id hb
  simp only at hc hd hc2 hd2
  subst hc hd hc2 hd2
  have e : vs.toArray ++ ws.toArray = (vs ++ ws).toArray := by simp
  by_cases hw : ws = []
  · exact concat_meets ⟨_, ho, rfl⟩ ⟨_, ho2, rfl⟩ noFill_tuple_add seq_tuple_add PySem.F.slot_tuple_add PySem.F.entry_tuple_add (PySem.F.args_tuple_add_2 _ _)
      (tuple_addW1 t b vs.toArray ws.toArray n n2 dd dd2 sl sl2 (by simpa using hv) (by simp [hw])) ⟨ho, ho2, h1 hw⟩
  · refine concat_meets ⟨_, ho, rfl⟩ ⟨_, ho2, rfl⟩ noFill_tuple_add seq_tuple_add PySem.F.slot_tuple_add PySem.F.entry_tuple_add (PySem.F.args_tuple_add_2 _ _)
      (tuple_addW2 t b vs.toArray ws.toArray n n2 dd dd2 sl sl2 (by simpa using hv) (by simpa using hw) (by rw [List.size_toArray, List.size_toArray]; exact hsz)) ⟨ho, ho2, ?_⟩
    rw [e]
    exact h2 hw

/-! ### t[a:b], not the whole -/
/-- a slice's bound as a place among n (d where it is left out) -/
def sIx (n d : Nat) : Option Int → Nat
  | none => d
  | some v => if v < 0 then (v + (n : Int)).toNat else min v.toNat n
theorem sIx_none (n d : Nat) : sIx n d none = d := rfl
theorem sIx_nat (n d k : Nat) : sIx n d (some (k : Int)) = min k n := by
  show (if (k : Int) < 0 then ((k : Int) + (n : Int)).toNat else min (k : Int).toNat n) = min k n
  rw [if_neg (by omega), Int.toNat_natCast]
theorem sIx_le (n d : Nat) (hd : d ≤ n) (o : Option Int) : sIx n d o ≤ n := by
  cases o with
  | none => exact hd
  | some v =>
    show (if v < 0 then (v + (n : Int)).toNat else min v.toNat n) ≤ n
    by_cases hv : v < 0
    · rw [if_pos hv]; omega
    · rw [if_neg hv]; exact Nat.min_le_right _ _
theorem clip_eq (v : Int) (n d : Nat) : (if v < 0 then max (v + (n : Int)) 0 else min v (n : Int)) = ((sIx n d (some v) : Nat) : Int) := by
  show (if v < 0 then max (v + (n : Int)) 0 else min v (n : Int)) = (((if v < 0 then (v + (n : Int)).toNat else min v.toNat n) : Nat) : Int)
  by_cases hv : v < 0
  · simp only [if_pos hv]; omega
  · simp only [if_neg hv]; omega
theorem adjust_gen (lo hi : Option Int) (n : Nat) : Builtin.Slice.sliceAdjust lo hi 1 (n : Int) = (((sIx n 0 lo : Nat) : Int), ((sIx n n hi : Nat) : Int)) := by
  have h1 : ¬ ((1 : Int) < 0) := by omega
  unfold Builtin.Slice.sliceAdjust
  simp only [h1, if_false]
  refine Prod.ext ?_ ?_
  · cases lo with
    | none => rfl
    | some v => exact clip_eq v n 0
  · cases hi with
    | none => rfl
    | some v => exact clip_eq v n n
theorem places_gen (i j : Nat) : Builtin.Slice.slicePlaces (i : Int) (j : Int) 1 = j - i := by
  unfold Builtin.Slice.slicePlaces
  have h1 : (1 : Int) > 0 := by omega
  simp only [h1, if_true, Int.ediv_one]
  split <;> omega
theorem slicePart_ {v : Value} {o : Option Int} {Q : Option Int → Shared → Prop} (p : IsPart v o) (h : Q o s) : wpAny (model prog w) A (Builtin.Slice.slicePartIndex v) Q E s := by
  cases p with
  | none => exact slicePart_none h
  | int i t => exact slicePart_int h
theorem sliceApplied_gen {sl : Addr} {vl vu : Value} {lo hi : Option Int} {n : Nat} {Q : Int × Int × Nat → Shared → Prop} (hs : s.heap.IsSliceOf sl vl vu .none) (pl : IsPart vl lo) (pu : IsPart vu hi)
    (h : Q (((sIx n 0 lo : Nat) : Int), 1, sIx n n hi - sIx n 0 lo) s) : wpAny (model prog w) A (Builtin.Slice.sliceApplied (.ref sl) (pure (n : Int))) Q E s := by
  obtain ⟨os, hos, hcs, hds⟩ := id hs
  unfold Builtin.Slice.sliceApplied Builtin.Slice.sliceFields
  refine wpAny_bind (wpAny_bind (wpAny_field hos hds (x := vl) rfl (wpAny_bind (wpAny_field hos hds (x := vu) rfl (wpAny_bind (wpAny_field hos hds (x := .none) rfl (wpAny_pure ?_)))))))
  refine wpAny_bind (slicePart_none ?_)
  show wpAny _ _ (if ((1 : Int) == 0) = true then _ else _) _ _ s
  rw [if_neg (by decide)]
  refine wpAny_bind (slicePart_ pl (wpAny_bind (slicePart_ pu (wpAny_bind (wpAny_pure ?_)))))
  show wpAny _ _ (match Builtin.Slice.sliceAdjust lo hi 1 (n : Int) with | (lo, hi) => pure (lo, (1 : Int), Builtin.Slice.slicePlaces lo hi 1)) _ _ s
  rw [adjust_gen lo hi n]
  show wpAny _ _ (pure (((sIx n 0 lo : Nat) : Int), (1 : Int), Builtin.Slice.slicePlaces ((sIx n 0 lo : Nat) : Int) ((sIx n n hi : Nat) : Int) 1)) _ _ s
  rw [places_gen]
  exact wpAny_pure h
theorem pick_gen (xs : Array Value) (i k : Nat) : ((List.range k).filterMap fun (m : Nat) => xs[((i : Int) + (m : Int) * 1).toNat]?).toArray = ((xs.toList.drop i).take k).toArray := by
  have e : (fun (m : Nat) => xs[((i : Int) + (m : Int) * 1).toNat]?) = fun m => xs[i + m]? := by
    funext m
    have : ((i : Int) + (m : Int) * 1).toNat = i + m := by omega
    rw [this]
  rw [e]
  have := pick_run xs i k
  rw [List.filterMap_map] at this
  have e2 : ((fun x => xs[x]?) ∘ fun x => i + x) = fun m => xs[i + m]? := rfl
  rw [e2] at this
  rw [this]

theorem getItem_tuple_cut {t sl : Addr} {items : Array Value} {vl vu : Value} {lo hi : Option Int} {Q : Value → Shared → Prop} (ht : IsTup s.heap t items) (hs : s.heap.IsSliceOf sl vl vu .none) (pl : IsPart vl lo) (pu : IsPart vu hi)
    (hw : ¬ (sIx items.size 0 lo = 0 ∧ sIx items.size items.size hi = items.size))
    (h : Q (.ref s.heap.objs.size) { s with heap := s.heap.push { cls := .type "tuple", data := .seq ((items.toList.drop (sIx items.size 0 lo)).take (sIx items.size items.size hi - sIx items.size 0 lo)).toArray } })
    (hsz : items.size ≤ sizeLine) : wpAny (model prog w) A (getItem (.ref t) (.ref sl)) Q E s := by
  have htake : sizeOk (.seq ((items.toList.drop (sIx items.size 0 lo)).take (sIx items.size items.size hi - sIx items.size 0 lo)).toArray) := by
    show ((items.toList.drop (sIx items.size 0 lo)).take (sIx items.size items.size hi - sIx items.size 0 lo)).toArray.size ≤ sizeLine
    rw [List.size_toArray, List.length_take, List.length_drop, Array.length_toList]
    omega
  have hj : sIx items.size items.size hi ≤ items.size := sIx_le _ _ (Nat.le_refl _) hi
  obtain ⟨os, hos, hcs, hds⟩ := id hs
  have hTs : s.TypeIs (.ref sl) "slice" := ⟨os, hos, hcs⟩
  unfold getItem
  try with_reducible refine wpAny_holding ?_
  first | refine wpAny_bind (wpAny_pure ?_) | skip
  refine wpAny_bind (wpAny_sequenceKey ht.typeIs (by decide) ?_)
  refine wpAny_bind (wpAny_callSpecial?_slot (name := Str.ofString "__getitem__") ht.typeIs PyProof.Rows.slot_tuple_getitem
    (wpAny_call_entry PyProof.Rows.slot_tuple_getitem ht.typeIs entry_tuple_getitem ?_ (args_tuple_getitem _ _)))
  show wpAny _ _ (Builtin.Tuple.tupleItemsOf (.ref t) >>= _) _ _ s
  refine wpAny_bind (tupleItemsOf_ ht ?_)
  refine wpAny_bind (wpAny_typeOf hTs ?_)
  rw [if_pos (by decide)]
  refine wpAny_bind (sliceApplied_gen hs pl pu ?_)
  have hno : ¬ ((((sIx items.size 0 lo : Nat) : Int) == 0 && (1 : Int) == 1 && (sIx items.size items.size hi - sIx items.size 0 lo) == items.size) = true) := by
    intro q
    rw [Bool.and_eq_true, Bool.and_eq_true] at q
    have q1 : ((sIx items.size 0 lo : Nat) : Int) = 0 := eq_of_beq q.1.1
    have q2 : sIx items.size items.size hi - sIx items.size 0 lo = items.size := eq_of_beq q.2
    exact hw ⟨by omega, by omega⟩
  show wpAny _ _ (if (((sIx items.size 0 lo : Nat) : Int) == 0 && (1 : Int) == 1 && (sIx items.size items.size hi - sIx items.size 0 lo) == items.size) = true then _ else _) _ _ s
  rw [if_neg hno, pick_gen]
  first
    | exact wpAny_bind (m := Builtin.Tuple.tupleExact _) (wpAny_newObj_type (wpAny_pure ⟨_, rfl, wpAny_pure h⟩) htake)
    | exact wpAny_bind (m := Builtin.Tuple.tupleExact _) (wpAny_newObj_type (wpAny_bind (wpAny_pure (wpAny_pure ⟨_, rfl, wpAny_pure h⟩))) htake)
    | exact wpAny_bind (wpAny_bind (m := Builtin.Tuple.tupleExact _) (wpAny_newObj_type (wpAny_pure (wpAny_pure ⟨_, rfl, wpAny_pure h⟩)) htake))
    | exact wpAny_bind (wpAny_bind (m := Builtin.Tuple.tupleExact _) (wpAny_newObj_type (wpAny_pure ⟨_, rfl, wpAny_pure h⟩) htake))
end
end HT

namespace L2
open PySem PySem.Spec PyProof.Rows

/-! ### the parts of a slice -/
abbrev TO := St → Hp → (Option Int → Hp → Prop) → Prop
/-- a slice's part (left out, or an int) -/
def PO (X : Cx) (e : Option Expr) (t : TO) : Prop :=
  ∀ (pins : List (Addr × Obj)) (s : Shared) (σ : St) (H : Hp) (Q : Option Int → Hp → Prop), Inv X pins σ H s → t σ H Q →
    wpAny (model X.prog X.w) X.A (evalPart e X.env) (fun u s' => ∃ o H', Inv X pins σ H' s' ∧ IsPart u o ∧ Q o H') X.xe s
def tNoPart : TO := fun _ H Q => Q none H
def tPart (t : TE) : TO := fun σ H Q => t σ H fun x H1 => ∃ i, x = .int i ∧ Q (some i) H1

theorem intsAre_of {ns : List Int} : ∀ {us : List Value}, Vals (ns.map V.int) us → IntsAre us ns := by
  induction ns with
  | nil => intro us r; rw [List.map_nil] at r; cases r; exact .nil
  | cons n ns ih =>
    intro us r
    rw [List.map_cons] at r
    cases r with
    | cons r1 r2 =>
      obtain ⟨t, e⟩ := r1
      subst e
      exact .cons n t (ih r2)

section
variable {X : Cx} {e : Expr} {te : TE} {lo hi : Option Expr} {tl th : TO} {pos p2 : Pos}

theorem po_none : PO X none tNoPart := by
  intro pins s σ H Q I h
  rw [evalPart_none]
  exact wpAny_pure ⟨none, H, I, .none, h⟩
theorem po_some (h : PE X e te) : PO X (some e) (tPart te) := by
  intro pins s σ H Q I hw
  rw [evalPart_some]
  refine thn (h pins s σ H _ I hw) fun u s1 ⟨x, H1, I1, r1, q1⟩ => ?_
  obtain ⟨i, rfl, q⟩ := q1
  obtain ⟨t, rfl⟩ := r1
  exact ⟨some i, H1, I1, .int i t, q⟩

/-- what a slice of a value is, by values: the slice object stands at sl -/
def SlR (X : Cx) (r : V → Option Int → Option Int → Hp → VK → Prop) : Prop :=
  ∀ (pins : List (Addr × Obj)) (s : Shared) (σ : St) (H : Hp) (x : V) (v vl vu : Value) (lo hi : Option Int) (sl : Addr) (Q : VK), Inv X pins σ H s → RelV x v → s.heap.IsSliceOf sl vl vu .none → IsPart vl lo → IsPart vu hi → r x lo hi H Q →
    ∃ T id, typeLookup (.type T) "__getitem__" = pure (some (.builtin id)) ∧ s.TypeIs v T ∧ wpAny (model X.prog X.w) X.A (getItem v (.ref sl)) (EP X pins σ Q) X.xe s
theorem SlR.or {r r' : V → Option Int → Option Int → Hp → VK → Prop} (h : SlR X r) (h' : SlR X r') : SlR X (fun x lo hi H Q => r x lo hi H Q ∨ r' x lo hi H Q) := by
  intro pins s σ H x v vl vu lo hi sl Q I rx hs pl pu q
  rcases q with q | q
  · exact h pins s σ H x v vl vu lo hi sl Q I rx hs pl pu q
  · exact h' pins s σ H x v vl vu lo hi sl Q I rx hs pl pu q
def tSl (r : V → Option Int → Option Int → Hp → VK → Prop) (te : TE) (tl th : TO) : TE := fun σ H Q => te σ H fun x H1 => tl σ H1 fun l H2 => th σ H2 fun u H3 => r x l u H3 Q
/-- a[lo:hi], any a -/
theorem pe_slice {r : V → Option Int → Option Int → Hp → VK → Prop} (hr : SlR X r) (he : PE X e te) (hl : PO X lo tl) (hu : PO X hi th) : PE X (.Subscript e (.Slice lo hi none p2) pos) (tSl r te tl th) := by
  intro pins s σ H Q I h
  refine Subscript_ (thn (he pins s σ H _ I h) fun v s1 ⟨x, H1, I1, r1, q1⟩ => ?_)
  refine wpAny_Slice (thn (hl pins s1 σ H1 _ I1 q1) fun vl s2 ⟨l, H2, I2, pl, q2⟩ => thn (hu pins s2 σ H2 _ I2 q2) fun vu s3 ⟨u, H3, I3, pu, q3⟩ => ?_)
  rw [evalPart_none]
  refine wpAny_pure ?_
  have I4 : Inv X pins σ H3 { s3 with heap := s3.heap.push { cls := .type "slice", data := .fields #[vl, vu, .none] } } := I3.kept (t' := s3.toks) fun b ob q => Heap.get?_push_of_some _ q
  obtain ⟨T, id, hT, ht, hg⟩ := hr pins { s3 with heap := s3.heap.push { cls := .type "slice", data := .fields #[vl, vu, .none] } } σ H3 x v vl vu l u s3.heap.objs.size Q I4 r1 (Heap.IsSliceOf.new ..) pl pu q3
  show wpAny (model X.prog X.w) X.A (subscriptTail e (.Slice lo hi none p2) v (.ref s3.heap.objs.size)) (EP X pins σ Q) X.xe { s3 with heap := s3.heap.push { cls := .type "slice", data := .fields #[vl, vu, .none] } }
  exact tail_any (ops := [.ref s3.heap.objs.size, v]) ht hT hg (by with_unfolding_all rfl)

/-- the items of xs[lo:hi] -/
def cutV (xs : List V) (lo hi : Option Int) : List V := (xs.drop (HT.sIx xs.length 0 lo)).take (HT.sIx xs.length xs.length hi - HT.sIx xs.length 0 lo)
theorem cutV_length (xs : List V) (lo hi : Option Int) : (cutV xs lo hi).length ≤ xs.length := by
  unfold cutV
  rw [List.length_take, List.length_drop]
  omega
/-- t[lo:hi], not the whole of it (the whole would be t itself) -/
def rSlT (K : PySem.W.Frag) : V → Option Int → Option Int → Hp → VK → Prop := fun x lo hi H Q => ∃ a xs, x = .ref a ∧ SqT K H a xs ∧
  ¬ (HT.sIx xs.length 0 lo = 0 ∧ HT.sIx xs.length xs.length hi = xs.length) ∧ ∀ p, H p = none → Q (.ref p) (upd H p (.tup (cutV xs lo hi)))
theorem sl_tup : SlR X (rSlT X.K) := by
  intro pins s σ H x v vl vu lo hi sl Q I rx hs pl pu h
  obtain ⟨a, xs, rfl, hx, hw, q⟩ := h
  cases rx
  obtain ⟨its, r, ht, hz⟩ := I.tuple hx
  have hlen : its.toArray.size = xs.length := by rw [List.size_toArray]; exact r.length.symm
  refine ⟨"tuple", _, PyProof.Rows.slot_tuple_getitem.lookup, ht.typeIs, ?_⟩
  refine HT.getItem_tuple_cut ht hs pl pu (by rw [hlen]; exact hw) ?_ (by rw [hlen]; exact hz)
  rw [hlen]
  refine ⟨.ref s.heap.objs.size, _, I.laid (t' := s.toks) (o := .tup (cutV xs lo hi)) (fun b ob q => Heap.get?_push_of_some _ q) (Nat.le_refl _) ?_, rfl, q _ (I.hok.fresh (Nat.le_refl _))⟩
  exact ⟨Nat.le_trans (cutV_length xs lo hi) hz, _, (r.drop (HT.sIx xs.length 0 lo)).take (HT.sIx xs.length xs.length hi - HT.sIx xs.length 0 lo), IsTup.new _ _⟩

/-! ### t < u, t + u -/
def rLtT (K : PySem.W.Frag) : R2 := fun x y H Q => ∃ a b ns ms, x = .ref a ∧ y = .ref b ∧ SqT K H a (ns.map V.int) ∧ SqT K H b (ms.map V.int) ∧ Q (.bl (HT.lexLt ns ms)) H
theorem op_ltT (hu : X.A.units < cLine) : OpR X (compareOp .Lt) (rLtT X.K) := by
  intro pins s σ H x y v u Q I rx ry h
  obtain ⟨a, b, ns, ms, rfl, rfl, ha, hb, q⟩ := h
  cases rx
  cases ry
  obtain ⟨its, r1, p1, _⟩ := I.tuple ha
  obtain ⟨its2, r2, p2, _⟩ := I.tuple hb
  have i1 : IntsAre its.toArray.toList ns := intsAre_of r1
  have i2 : IntsAre its2.toArray.toList ms := intsAre_of r2
  exact HT.lt_tupInts p1 p2 i1 i2 hu ⟨.bl (HT.lexLt ns ms), H, I, rfl, q⟩
/-- t + u, t not empty: u empty gives t itself -/
def rCatT (K : PySem.W.Frag) : R2 := fun x y H Q => ∃ a b xs ys, x = .ref a ∧ y = .ref b ∧ SqT K H a xs ∧ SqT K H b ys ∧ xs ≠ [] ∧ xs.length + ys.length ≤ sizeLine ∧
  (ys = [] → Q (.ref a) H) ∧ (ys ≠ [] → ∀ p, H p = none → Q (.ref p) (upd H p (.tup (xs ++ ys))))
theorem Vals.nil_iff {xs : List V} {us : List Value} (r : Vals xs us) : us = [] ↔ xs = [] := by
  cases r with
  | nil => simp
  | cons _ _ => simp
theorem op_catT : OpR X (binaryOp .Add) (rCatT X.K) := by
  intro pins s σ H x y v u Q I rx ry h
  obtain ⟨a, b, xs, ys, rfl, rfl, ha, hb, hx, hz, q1, q2⟩ := h
  cases rx
  cases ry
  obtain ⟨its, r1, p1, _⟩ := I.tuple ha
  obtain ⟨its2, r2, p2, _⟩ := I.tuple hb
  refine HT.cat_tup p1 p2 (fun z => hx (r1.nil_iff.mp z)) (fun z => ⟨.ref a, H, I, rfl, q1 (r2.nil_iff.mp z)⟩) (fun z => ?_) (by rw [← r1.length, ← r2.length]; exact hz)
  refine ⟨.ref s.heap.objs.size, _, I.laid (t' := s.toks) (o := .tup (xs ++ ys)) (fun b ob q => Heap.get?_push_of_some _ q) (Nat.le_refl _) ?_, rfl, q2 (fun w => z (r2.nil_iff.mpr w)) _ (I.hok.fresh (Nat.le_refl _))⟩
  exact ⟨by rw [List.length_append]; exact hz, _, r1.append r2, IsTup.new _ _⟩
/-- tuple(t) -/
theorem call_tupleT : CallR X (.type "tuple") (fun xs H Q => ∃ a ys, xs = [.ref a] ∧ SqT X.K H a ys ∧ Q (.ref a) H) := by
  intro pins s σ H xs us Q I r h
  obtain ⟨a, ys, rfl, ha, q⟩ := h
  obtain ⟨u, rfl, ru⟩ := vals1 r
  cases ru
  obtain ⟨its, _, p1, _⟩ := I.tuple ha
  exact call_tuple_same (items := its.toArray) p1 ⟨.ref a, H, I, rfl, q⟩
end
end L2

namespace L2
open PySem PySem.Spec PyProof.Rows

/-! ### places -/
/-- the place that an index of any sign means -/
def ixN (n : Nat) (i : Int) : Option Nat := if 0 ≤ i then (if i < n then some i.toNat else none) else if -(n : Int) ≤ i then some (i + n).toNat else none
def atI {α : Type} (xs : List α) (i : Int) : Option α := (ixN xs.length i).bind fun j => xs[j]?
theorem ixN_seq {n : Nat} {i : Int} {j : Nat} (h : ixN n i = some j) : seqIndex? i n = some j ∧ j < n ∧ -(n : Int) ≤ i ∧ i < n := by
  unfold ixN at h
  by_cases h0 : 0 ≤ i
  · rw [if_pos h0] at h
    by_cases h1 : i < n
    · rw [if_pos h1] at h
      have e : i.toNat = j := Option.some.inj h
      exact ⟨by rw [seqIndex_of h0 h1, e], by omega, by omega, h1⟩
    · rw [if_neg h1] at h; cases h
  · rw [if_neg h0] at h
    by_cases h1 : -(n : Int) ≤ i
    · rw [if_pos h1] at h
      have e : (i + n).toNat = j := Option.some.inj h
      exact ⟨by rw [seqIndex_neg (by omega) h1, e], by omega, h1, by omega⟩
    · rw [if_neg h1] at h; cases h
theorem atI_get {α : Type} {xs : List α} {i : Int} {v : α} (h : atI xs i = some v) : ∃ j, seqIndex? i xs.length = some j ∧ xs[j]? = some v ∧ j < xs.length ∧ -(xs.length : Int) ≤ i ∧ i < xs.length := by
  unfold atI at h
  cases e : ixN xs.length i with
  | none => rw [e] at h; cases h
  | some j =>
    rw [e] at h
    obtain ⟨h1, h2, h3, h4⟩ := ixN_seq e
    exact ⟨j, h1, h, h2, h3, h4⟩
theorem atI_nat {α : Type} {xs : List α} {j : Nat} {v : α} (h : xs[j]? = some v) : atI xs (j : Int) = some v := by
  have hj : j < xs.length := (List.getElem?_eq_some_iff.mp h).1
  have e : ixN xs.length (j : Int) = some j := by
    unfold ixN
    rw [if_pos (by omega), if_pos (by omega)]; simp
  unfold atI; rw [e]; exact h
theorem atI_last {α : Type} (xs : List α) (v : α) : atI (xs ++ [v]) (-1) = some v := by
  have hl : (xs ++ [v]).length = xs.length + 1 := by simp
  have e : ixN (xs ++ [v]).length (-1) = some xs.length := by
    unfold ixN
    rw [hl, if_neg (by decide), if_pos (by omega)]
    congr 1
    omega
  unfold atI
  rw [e]
  show (xs ++ [v])[xs.length]? = some v
  simp

/-! ### what may be subscripted -/
/-- what stands as an index of a plain subscript -/
def PlainIx (b : Expr) : Prop := ∀ o i, subscripted b false o i = operate [o, i] (getItem o i)
/-- a subscript by values -/
def IxR (X : Cx) (r : R2) : Prop :=
  ∀ (value slice : Expr) (pins : List (Addr × Obj)) (s : Shared) (σ : St) (H : Hp) (x y : V) (v u : Value) (Q : VK), Inv X pins σ H s → RelV x v → RelV y u → r x y H Q →
    subscripted slice false v u = operate [v, u] (getItem v u) → wpAny (model X.prog X.w) X.A (subscriptTail value slice v u) (EP X pins σ Q) X.xe s
/-- a call of a builtin's method by values: the receiver, the arguments -/
def MtR (X : Cx) (id : String) (r : V → List V → Hp → VK → Prop) : Prop :=
  ∀ (pins : List (Addr × Obj)) (s : Shared) (σ : St) (H : Hp) (x : V) (xs : List V) (v : Value) (us : List Value) (Q : VK), Inv X pins σ H s → RelV x v → Vals xs us → r x xs H Q →
    wpAny (model X.prog X.w) X.A (call (.builtin id) (v :: us)) (EP X pins σ Q) X.xe s
section
variable {X : Cx} {a b : Expr} {ta tb : TE} {pos : Pos}
theorem IxR.or {r r' : R2} (h : IxR X r) (h' : IxR X r') : IxR X (fun x y H Q => r x y H Q ∨ r' x y H Q) := by
  intro value slice pins s σ H x y v u Q I rx ry q hs
  rcases q with q | q
  · exact h value slice pins s σ H x y v u Q I rx ry q hs
  · exact h' value slice pins s σ H x y v u Q I rx ry q hs
theorem MtR.or {id : String} {r r' : V → List V → Hp → VK → Prop} (h : MtR X id r) (h' : MtR X id r') : MtR X id (fun x xs H Q => r x xs H Q ∨ r' x xs H Q) := by
  intro pins s σ H x xs v us Q I rx rs q
  rcases q with q | q
  · exact h pins s σ H x xs v us Q I rx rs q
  · exact h' pins s σ H x xs v us Q I rx rs q
/-- a[b] -/
theorem pe_ix {r : R2} (hr : IxR X r) (ha : PE X a ta) (hb : PE X b tb) (hs : PlainIx b) : PE X (.Subscript a b pos) (tOp r ta tb) := by
  intro pins s σ H Q I h
  exact Subscript_ (binT ha hb I h fun v u s2 x y H2 I2 rx ry q => hr a b pins s2 σ H2 x y v u Q I2 rx ry q (hs _ _))

def rIxL (K : PySem.W.Frag) : R2 := fun x y H Q => ∃ p xs i v, x = .ref p ∧ y = .int i ∧ SqL K H p xs ∧ atI xs i = some v ∧ Q v H
def rIxT (K : PySem.W.Frag) : R2 := fun x y H Q => ∃ p xs i v, x = .ref p ∧ y = .int i ∧ SqT K H p xs ∧ atI xs i = some v ∧ Q v H
def rIxS : R2 := fun x y H Q => ∃ z i c, x = .str z ∧ y = .int i ∧ z.length ≤ sizeLine ∧ atI z.cps.toList i = some c ∧ Q (.str ⟨#[c]⟩) H
theorem ix_list : IxR X (rIxL X.K) := by
  intro value slice pins s σ H x y v u Q I rx ry h hs
  obtain ⟨p, xs, i, z, rfl, rfl, hq, he, q⟩ := h
  cases rx
  obtain ⟨t, rfl⟩ := ry
  obtain ⟨its, r, pl, hz⟩ := I.list hq
  obtain ⟨j, h1, h2, h3, h4, h5⟩ := atI_get he
  obtain ⟨w, ew, rw'⟩ := r.get h2
  have hl := r.length
  have hn := line63
  have fin : EP X pins σ Q w s := ⟨z, H, I, rw', q⟩
  by_cases h0 : 0 ≤ i
  · have hj : i.toNat = j := by
      rw [seqIndex_of h0 h5] at h1
      exact Option.some.inj h1
    exact item_listR pl.isList h0 (by omega) (by rw [hj]; simpa using ew) fin hs
  · have hj : (i + (its.toArray.size : Int)).toNat = j := by
      rw [seqIndex_neg (by omega) h4] at h1
      rw [List.size_toArray, ← hl]
      exact Option.some.inj h1
    exact subscriptTail_builtinR (x := w) pl.isList.typeIs slot_list_getitem.lookup
      (wpAny_getItem_list_neg (Q := fun r s' => r = w ∧ EP X pins σ Q r s') pl.isList (by omega) (by rw [List.size_toArray] <;> omega) (by omega) (by rw [hj]; simpa using ew) ⟨rfl, fin⟩) hs
theorem ix_tup : IxR X (rIxT X.K) := by
  intro value slice pins s σ H x y v u Q I rx ry h hs
  obtain ⟨p, xs, i, z, rfl, rfl, hq, he, q⟩ := h
  cases rx
  obtain ⟨t, rfl⟩ := ry
  obtain ⟨its, r, pl, hz⟩ := I.tuple hq
  obtain ⟨j, h1, h2, h3, h4, h5⟩ := atI_get he
  obtain ⟨w, ew, rw'⟩ := r.get h2
  have hl := r.length
  have hn := line63
  have fin : EP X pins σ Q w s := ⟨z, H, I, rw', q⟩
  exact subscriptTail_builtinR (x := w) pl.typeIs slot_tuple_getitem.lookup
    (getItem_tuple (j := j) (Q := fun r s' => r = w ∧ EP X pins σ Q r s') pl (by omega) (by omega) (by rw [List.size_toArray, ← hl]; exact h1) (by simpa using ew) ⟨rfl, fin⟩) hs
theorem ix_str : IxR X rIxS := by
  intro value slice pins s σ H x y v u Q I rx ry h hs
  obtain ⟨z, i, c, rfl, rfl, hz, he, q⟩ := h
  obtain ⟨t, rfl⟩ := rx
  obtain ⟨t', rfl⟩ := ry
  obtain ⟨j, h1, h2, h3, h4, h5⟩ := atI_get he
  have hl : z.cps.toList.length = z.length := by simp [Str.length]
  rw [hl] at h1 h4 h5
  have hn := line63
  exact tail_any (typeIs_str s z t) slot_str_getitem.lookup (getItem_str (c := c) (by
    have e1 : decide (i < -(2 ^ 63 : Int)) = false := decide_eq_false (by omega)
    have e2 : decide (i ≥ 2 ^ 63) = false := decide_eq_false (by omega)
    rw [e1, e2, Bool.or_false]) (by rw [h1]; simpa using h2) ⟨.str ⟨#[c]⟩, H, I.tok _, ⟨_, rfl⟩, q⟩) hs
/-- list, tuple or str -/
def rIx (K : PySem.W.Frag) : R2 := fun x y H Q => rIxL K x y H Q ∨ rIxT K x y H Q ∨ rIxS x y H Q
theorem ix_seq : IxR X (rIx X.K) := ix_list.or (ix_tup.or ix_str)

/-! ### xs[i] = v, any sign -/
/-- the list's object behind a store -/
theorem mapSeq_set (its : List Value) (n j : Nat) (u : Value) : Obj.mapSeq (·.setIfInBounds j u) { cls := .type "list", data := .seq its.toArray n } = { cls := .type "list", data := .seq (its.set j u).toArray n } := by
  simp [Obj.mapSeq]
theorem Inv.lst {pins : List (Addr × Obj)} {σ : St} {H : Hp} {s : Shared} {p : Addr} {xs : List V} (I : Inv X pins σ H s) (h : H p = some (.lst xs)) :
    ∃ (its : List Value) (n : Nat), Vals xs its ∧ s.heap.get? p = some { cls := .type "list", data := .seq its.toArray n } ∧ xs.length ≤ sizeLine := by
  obtain ⟨z, its, n, r, e⟩ := I.hok p _ h
  exact ⟨its, n, r, e, z⟩
/-- the list at p is written by an update of its object -/
theorem Inv.lstUpd {pins : List (Addr × Obj)} {σ : St} {H : Hp} {s : Shared} {p : Addr} {xs ys : List V} {its its' : List Value} {n n' : Nat} {f : Obj → Obj} (I : Inv X pins σ H s) (h : H p = some (.lst xs))
    (ho : s.heap.get? p = some { cls := .type "list", data := .seq its.toArray n }) (hf : f { cls := .type "list", data := .seq its.toArray n } = { cls := .type "list", data := .seq its'.toArray n' }) (r : Vals ys its') (hz : ys.length ≤ sizeLine) (t : Nat) :
    Inv X pins σ (upd H p (.lst ys)) { s with heap := s.heap.update p f, toks := t } := by
  have e : (s.heap.update p f).get? p = some { cls := .type "list", data := .seq its'.toArray n' } := by
    rw [Heap.get?_update_self f ho (by rw [hf] <;> rfl), hf]
  refine I.write (x := p) (e := p) (by rw [h]; trivial) (.inl rfl) (fun b u hb q => (Heap.get?_update_other _ _ (Ne.symm hb)).trans q) ⟨_, e⟩ ?_
  exact ⟨hz, its', n', r, e⟩
def rSetL : V → V → V → Hp → (Hp → Prop) → Prop := fun o i v H Q => ∃ p xs k j, o = .ref p ∧ i = .int k ∧ H p = some (.lst xs) ∧ ixN xs.length k = some j ∧ Q (upd H p (.lst (xs.set j v)))
theorem set_list : PSet X rSetL := by
  intro pins s σ H o i v ov iv u Q I ro ri rv h
  obtain ⟨p, xs, k, j, rfl, rfl, hp, hj, q⟩ := h
  cases ro
  obtain ⟨t, rfl⟩ := ri
  obtain ⟨its, n, r, ho, hz⟩ := I.lst hp
  obtain ⟨h1, h2, h3, h4⟩ := ixN_seq hj
  have hl := r.length
  have hn := line63
  have I' : Inv X pins σ (upd H p (.lst (xs.set j v))) { s with heap := s.heap.update p (Obj.mapSeq (·.setIfInBounds j u)) } :=
    I.lstUpd hp ho (mapSeq_set its n j u) (r.set rv j) (by rw [List.length_set]; exact hz) s.toks
  by_cases h0 : 0 ≤ k
  · have hk : k.toNat = j := by
      rw [seqIndex_of h0 h4] at h1
      exact Option.some.inj h1
    exact PySem.W.ki_setAt ho h0 (by omega) (by rw [List.size_toArray, ← hl]; exact h4) (by rw [hk]; exact ⟨_, I', q⟩)
  · have hk : (k + (its.toArray.size : Int)).toNat = j := by
      rw [seqIndex_neg (by omega) h3] at h1
      rw [List.size_toArray, ← hl]
      exact Option.some.inj h1
    exact PySem.W.ki_setBack ho (by omega) (by rw [List.size_toArray, ← hl]; exact h3) (by omega) (by rw [hk]; exact ⟨_, I', q⟩)

/-! ### slices -/
theorem slice_bounds (lo hi : Option Int) (n : Nat) : (sliceBounds lo hi none n).1 = ((HT.sIx n 0 lo : Nat) : Int) ∧ (sliceBounds lo hi none n).2.1 = ((HT.sIx n n hi : Nat) : Int) ∧ (sliceBounds lo hi none n).2.2 = 1 := by
  refine ⟨?_, ?_, rfl⟩
  · cases lo with
    | none => simp [sliceBounds, HT.sIx]
    | some i =>
      simp only [sliceBounds, HT.sIx, Option.getD_none, show (1 : Int) > 0 by decide, if_true]
      by_cases h : i < 0
      · simp only [h, if_true] <;> omega
      · simp only [h, if_false] <;> omega
  · cases hi with
    | none => simp [sliceBounds, HT.sIx]
    | some i =>
      simp only [sliceBounds, HT.sIx, Option.getD_none, show (1 : Int) > 0 by decide, if_true]
      by_cases h : i < 0
      · simp only [h, if_true] <;> omega
      · simp only [h, if_false] <;> omega
theorem slicePick_cut (its : List Value) (lo hi : Option Int) : slicePick its.toArray lo hi none = ((its.drop (HT.sIx its.length 0 lo)).take (HT.sIx its.length its.length hi - HT.sIx its.length 0 lo)).toArray := by
  obtain ⟨h1, h2, h3⟩ := slice_bounds lo hi its.toArray.size
  unfold slicePick
  rw [h1, h2, h3]
  simp only [sliceRange_one, pick_run, List.size_toArray] <;> rfl
/-- xs[lo:hi] of a list: a new list -/
def rSlL (K : PySem.W.Frag) : V → Option Int → Option Int → Hp → VK → Prop := fun x lo hi H Q => ∃ a xs, x = .ref a ∧ SqL K H a xs ∧ ∀ p, H p = none → Q (.ref p) (upd H p (.lst (cutV xs lo hi)))
theorem sl_list : SlR X (rSlL X.K) := by
  intro pins s σ H x v vl vu lo hi sl Q I rx hs pl pu h
  obtain ⟨a, xs, rfl, hx, q⟩ := h
  cases rx
  obtain ⟨its, r, ht, hz⟩ := I.list hx
  have hlen := r.length
  refine ⟨"list", _, slot_list_getitem.lookup, ht.isList.typeIs, ?_⟩
  refine wpAny_getItem_list_slice ht.isList hs pl pu .none (by simp) ?_ (by rw [List.size_toArray] <;> omega)
  rw [slicePick_cut, ← hlen]
  refine ⟨.ref s.heap.objs.size, _, I.laid (t' := s.toks) (o := .lst (cutV xs lo hi)) (fun b ob q => Heap.get?_push_of_some _ q) (Nat.le_refl _) ?_, rfl, q _ (I.hok.fresh (Nat.le_refl _))⟩
  exact ⟨Nat.le_trans (cutV_length xs lo hi) hz, _, 0, (r.drop (HT.sIx xs.length 0 lo)).take (HT.sIx xs.length xs.length hi - HT.sIx xs.length 0 lo), Heap.get?_push_size _ rfl⟩

/-! ### in, not in: flat items -/
def flatV : V → Bool
  | .non => true
  | .bl _ => true
  | .int _ => true
  | .str _ => true
  | _ => false
/-- == of flat values -/
def eqV : V → V → Bool
  | .non, .non => true
  | .bl a, .bl b => a == b
  | .bl a, .int b => (if a then 1 else 0) == b
  | .int a, .bl b => a == (if b then 1 else 0)
  | .int a, .int b => a == b
  | .str a, .str b => a == b
  | _, _ => false
theorem eqAt_V {A : Around} {s : Shared} {y x : V} {u v : Value} (ry : RelV y u) (rx : RelV x v) (fy : flatV y = true) (fx : flatV x = true) : SeqAt.EqAt A s u v (eqV y x) := by
  cases y with
  | non =>
    cases ry
    cases x with
    | non => cases rx; exact SeqAt.EqAt.same _
    | bl b => cases rx; exact SeqAt.EqAt.none_bool b
    | int b => obtain ⟨t, rfl⟩ := rx; exact SeqAt.EqAt.none_int b t
    | str b => obtain ⟨t, rfl⟩ := rx; exact SeqAt.EqAt.none_str b t
    | _ => exact absurd (show false = true from fx) Bool.false_ne_true
  | bl a =>
    cases ry
    cases x with
    | non => cases rx; exact SeqAt.EqAt.bool_none a
    | bl b => cases rx; exact SeqAt.EqAt.bool_bool a b
    | int b => obtain ⟨t, rfl⟩ := rx; exact SeqAt.EqAt.bool_int a b t
    | str b => obtain ⟨t, rfl⟩ := rx; exact SeqAt.EqAt.bool_str a b t
    | _ => exact absurd (show false = true from fx) Bool.false_ne_true
  | int a =>
    obtain ⟨t', rfl⟩ := ry
    cases x with
    | non => cases rx; exact SeqAt.EqAt.int_none a t'
    | bl b => cases rx; exact SeqAt.EqAt.int_bool a t' b
    | int b => obtain ⟨t, rfl⟩ := rx; exact SeqAt.EqAt.int_int a t' b t
    | str b => obtain ⟨t, rfl⟩ := rx; exact SeqAt.EqAt.int_str a t' b t
    | _ => exact absurd (show false = true from fx) Bool.false_ne_true
  | str a =>
    obtain ⟨t', rfl⟩ := ry
    cases x with
    | non => cases rx; exact SeqAt.EqAt.str_none a t'
    | bl b => cases rx; exact SeqAt.EqAt.str_bool a t' b
    | int b => obtain ⟨t, rfl⟩ := rx; exact SeqAt.EqAt.str_int a t' b t
    | str b => obtain ⟨t, rfl⟩ := rx; exact SeqAt.EqAt.str_str a t' b t
    | _ => exact absurd (show false = true from fx) Bool.false_ne_true
  | _ => exact absurd (show false = true from fy) Bool.false_ne_true
/-- the items' answers, read off the values (a value's own answer does not lean on its token) -/
def eqU (x : V) (u : Value) : Bool := match u with
  | .none => eqV .non x
  | .bool b => eqV (.bl b) x
  | .int i _ => eqV (.int i) x
  | .str z _ => eqV (.str z) x
  | _ => false
theorem eqU_of {x y : V} {u : Value} (r : RelV y u) (f : flatV y = true) : eqU x u = eqV y x := by
  cases y with
  | non => cases r; rfl
  | bl b => cases r; rfl
  | int i => obtain ⟨t, rfl⟩ := r; rfl
  | str z => obtain ⟨t, rfl⟩ := r; rfl
  | _ => exact absurd (show false = true from f) Bool.false_ne_true
theorem any_eqU {x : V} : ∀ {xs : List V} {us : List Value}, Vals xs us → xs.all flatV = true → us.any (eqU x) = xs.any fun y => eqV y x
  | _, _, .nil, _ => rfl
  | y :: xs, u :: us, .cons r t, f => by
    rw [List.all_cons, Bool.and_eq_true] at f
    rw [List.any_cons, List.any_cons, eqU_of r f.1, any_eqU t f.2]
theorem mem_eqAt {A : Around} {s : Shared} {x : V} {v : Value} (rx : RelV x v) (fx : flatV x = true) : ∀ {xs : List V} {us : List Value}, Vals xs us → xs.all flatV = true → ∀ u ∈ us, SeqAt.EqAt A s u v (eqU x u)
  | _, _, .nil, _ => fun u hu => by cases hu
  | y :: xs, u :: us, .cons r t, f => fun u' hu => by
    rw [List.all_cons, Bool.and_eq_true] at f
    rcases List.mem_cons.mp hu with rfl | hu
    · rw [eqU_of r f.1]; exact eqAt_V r rx f.1 fx
    · exact mem_eqAt rx fx t f.2 u' hu
def inV (x : V) (xs : List V) : Bool := xs.any fun y => eqV y x
/-- x in a list or tuple of flat items -/
def rIn (K : PySem.W.Frag) (neg : Bool) : R2 := fun x y H Q => ∃ p xs, y = .ref p ∧ (SqL K H p xs ∨ SqT K H p xs) ∧ flatV x = true ∧ xs.all flatV = true ∧ Q (.bl (if neg then !inV x xs else inV x xs)) H
theorem op_in_seq : OpR X (compareOp .In) (rIn X.K false) := by
  intro pins s σ H x y v u Q I rx ry h
  obtain ⟨p, xs, rfl, hq, fx, fs, q⟩ := h
  cases ry
  rcases hq with hq | hq
  · obtain ⟨its, r, pl, hz⟩ := I.list hq
    refine SeqAt.in_listAt (eqU x) pl.isList (fun w hw => mem_eqAt rx fx r fs w (by simpa using hw)) ⟨.bl _, H, I, rfl, ?_⟩
    rw [show its.toArray.any (eqU x) = its.any (eqU x) by simp, any_eqU r fs]
    exact q
  · obtain ⟨its, r, pl, hz⟩ := I.tuple hq
    refine SeqAt.in_tupleAt (eqU x) pl (fun w hw => mem_eqAt rx fx r fs w (by simpa using hw)) ⟨.bl _, H, I, rfl, ?_⟩
    rw [show its.toArray.any (eqU x) = its.any (eqU x) by simp, any_eqU r fs]
    exact q
theorem op_notIn_seq : OpR X (compareOp .NotIn) (rIn X.K true) := by
  intro pins s σ H x y v u Q I rx ry h
  obtain ⟨p, xs, rfl, hq, fx, fs, q⟩ := h
  cases ry
  rcases hq with hq | hq
  · obtain ⟨its, r, pl, hz⟩ := I.list hq
    refine SeqAt.notIn_listAt (eqU x) pl.isList (fun w hw => mem_eqAt rx fx r fs w (by simpa using hw)) ⟨.bl _, H, I, rfl, ?_⟩
    rw [show its.toArray.any (eqU x) = its.any (eqU x) by simp, any_eqU r fs]
    exact q
  · obtain ⟨its, r, pl, hz⟩ := I.tuple hq
    refine SeqAt.notIn_tupleAt (eqU x) pl (fun w hw => mem_eqAt rx fx r fs w (by simpa using hw)) ⟨.bl _, H, I, rfl, ?_⟩
    rw [show its.toArray.any (eqU x) = its.any (eqU x) by simp, any_eqU r fs]
    exact q
theorem op_notIn_str : OpR X (compareOp .NotIn) (fun x y H Q => ∃ i j, x = .str i ∧ y = .str j ∧ Q (.bl (!(!(Builtin.Str.occurrences j i 0 j.length 1).isEmpty))) H) := by
  intro pins s σ H x y v u Q I rx ry h
  obtain ⟨i, j, rfl, rfl, q⟩ := h
  obtain ⟨t, rfl⟩ := rx
  obtain ⟨t', rfl⟩ := ry
  exact notIn_str ⟨.bl _, H, I, rfl, q⟩

/-! ### len, list(x), tuple(x) of any list or tuple that is read -/
theorem call_len_seq : CallR X (.builtin "len") (fun xs H Q => ∃ p ys, xs = [.ref p] ∧ (SqL X.K H p ys ∨ SqT X.K H p ys) ∧ Q (.int ys.length) H) := by
  intro pins s σ H xs us Q I r h
  obtain ⟨p, ys, rfl, hq, q⟩ := h
  obtain ⟨u, rfl, rx⟩ := vals1 r
  cases rx
  have hn := line63
  rcases hq with hq | hq
  · obtain ⟨its, r', pl, hz⟩ := I.list hq
    have hlen := r'.length
    exact Calls.call_len_list pl.isList (by simp only [List.size_toArray] <;> omega) ⟨.int ys.length, H, I.tok _, ⟨s.toks + 1, by rw [List.size_toArray, hlen]⟩, q⟩
  · obtain ⟨its, r', pl, hz⟩ := I.tuple hq
    have hlen := r'.length
    exact len_tuple pl (by simp only [List.size_toArray] <;> omega) ⟨.int ys.length, H, I.tok _, ⟨s.toks + 1, by rw [List.size_toArray, hlen]⟩, q⟩
theorem call_len_str : CallR X (.builtin "len") (fun xs H Q => ∃ z, xs = [.str z] ∧ z.length ≤ sizeLine ∧ Q (.int z.length) H) := by
  intro pins s σ H xs us Q I r h
  obtain ⟨z, rfl, hz, q⟩ := h
  obtain ⟨u, rfl, t, rfl⟩ := vals1 r
  have hn := line63
  exact len_str (by omega) ⟨.int z.length, H, I.tok _, ⟨_, rfl⟩, q⟩
theorem CallR.or {f : Value} {r r' : List V → Hp → VK → Prop} (h : CallR X f r) (h' : CallR X f r') : CallR X f (fun xs H Q => r xs H Q ∨ r' xs H Q) := by
  intro pins s σ H xs us Q I rs q
  rcases q with q | q
  · exact h pins s σ H xs us Q I rs q
  · exact h' pins s σ H xs us Q I rs q
theorem call_list_of : CallR X (.type "list") (fun xs H Q => ∃ p ys, xs = [.ref p] ∧ (SqL X.K H p ys ∨ SqT X.K H p ys) ∧ ∀ l, H l = none → Q (.ref l) (upd H l (.lst ys))) := by
  intro pins s σ H xs us Q I r h
  obtain ⟨p, ys, rfl, hq, q⟩ := h
  obtain ⟨u, rfl, rx⟩ := vals1 r
  cases rx
  have fin : ∀ (its : List Value), Vals ys its → ys.length ≤ sizeLine → ∀ (h' : Heap) (c' : Nat), (∀ b o', s.heap.get? b = some o' → h'.get? b = some o') →
      h'.get? s.heap.objs.size = some { cls := .type "list", dict := none, data := .seq its.toArray c', slots := #[] } → EP X pins σ Q (.ref s.heap.objs.size) { s with heap := h' } := fun its r' hz h' c' kp e =>
    ⟨.ref s.heap.objs.size, _, I.laid (t' := s.toks) kp (Nat.le_refl _) (show ObjOk X.prog X.w _ h' _ (.lst ys) from ⟨hz, its, c', r', e⟩), rfl, q _ (I.hok.fresh (Nat.le_refl _))⟩
  rcases hq with hq | hq
  · obtain ⟨its, r', pl, hz⟩ := I.list hq
    have hlen := r'.length
    obtain ⟨o, ho, hc, n, hd⟩ := pl.isList
    exact call_list_seq p (.inl rfl) ho hc hd (fun h' c' kp e => fin its r' hz h' c' kp e) (by simp only [List.size_toArray] <;> omega)
  · obtain ⟨its, r', pl, hz⟩ := I.tuple hq
    have hlen := r'.length
    obtain ⟨o, ho, hc, n, hd⟩ := pl
    exact call_list_seq p (.inr rfl) ho hc hd (fun h' c' kp e => fin its r' hz h' c' kp e) (by simp only [List.size_toArray] <;> omega)
theorem call_tuple_of : CallR X (.type "tuple") (fun xs H Q => ∃ p ys, xs = [.ref p] ∧ ((SqL X.K H p ys ∧ ∀ l, H l = none → Q (.ref l) (upd H l (.tup ys))) ∨ (SqT X.K H p ys ∧ Q (.ref p) H))) := by
  intro pins s σ H xs us Q I r h
  obtain ⟨p, ys, rfl, h⟩ := h
  obtain ⟨u, rfl, rx⟩ := vals1 r
  cases rx
  rcases h with ⟨hq, q⟩ | ⟨hq, q⟩
  · obtain ⟨its, r', pl, hz⟩ := I.list hq
    have hlen := r'.length
    refine call_tuple_list pl.isList (fun h' kp => ?_) (by simp only [List.size_toArray] <;> omega)
    have I1 : Inv X pins σ H { s with heap := h' } := I.kept (t' := s.toks) kp
    have I2 : Inv X pins σ (upd H h'.objs.size (.tup ys)) { s with heap := h'.push { cls := .type "tuple", data := .seq its.toArray } } :=
      I1.laid (t' := s.toks) (fun b o e => Heap.get?_push_of_some _ e) (Nat.le_refl _) (show ObjOk X.prog X.w _ _ _ (.tup ys) from ⟨hz, its, r', IsTup.new _ _⟩)
    exact ⟨.ref h'.objs.size, _, I2, rfl, q _ (I1.hok.fresh (Nat.le_refl _))⟩
  · obtain ⟨its, r', pl, hz⟩ := I.tuple hq
    exact call_tuple_same pl ⟨.ref p, H, I, rfl, q⟩

/-! ### the call of a builtin's method: o.m(..) -/
/-- the value is of that builtin type -/
def tyV (K : PySem.W.Frag) (T : String) (x : V) (H : Hp) : Prop := match x with
  | .str _ => T = "str"
  | .int _ => T = "int"
  | .ref p => (T = "list" ∧ ∃ xs, SqL K H p xs) ∨ (T = "tuple" ∧ ∃ o, K.lookup p = some o ∧ o.cls = .type "tuple" ∧ o.dict = none) ∨
      (T = "dict" ∧ ((∃ kvs, H p = some (.dK kvs)) ∨ ∃ kvs, H p = some (.dT kvs))) ∨ (T = "set" ∧ ∃ S n, H p = some (.set S n))
  | _ => False
theorem tyV_is {pins : List (Addr × Obj)} {σ : St} {H : Hp} {s : Shared} {T : String} {x : V} {v : Value} (I : Inv X pins σ H s) (r : RelV x v) (ty : tyV X.K T x H) :
    s.TypeIs v T ∧ ∀ a, v = .ref a → ∃ ob, s.heap.get? a = some ob ∧ ob.dict = none := by
  cases x with
  | str z =>
    obtain ⟨t, rfl⟩ := r
    cases (show T = "str" from ty)
    exact ⟨typeIs_str s z t, fun _ e => nomatch e⟩
  | int i =>
    obtain ⟨t, rfl⟩ := r
    cases (show T = "int" from ty)
    exact ⟨typeIs_int s i t, fun _ e => nomatch e⟩
  | ref p =>
    cases r
    rcases ty with ⟨rfl, xs, hq⟩ | ⟨rfl, o, hk, hc, hd⟩ | ⟨rfl, hk⟩ | ⟨rfl, S, n, hk⟩
    · obtain ⟨its, _, pl, _⟩ := I.list hq
      refine ⟨pl.isList.typeIs, fun a e => ?_⟩
      cases e
      obtain ⟨o, n, e, c, hd, _⟩ := pl
      exact ⟨o, e, hd⟩
    · refine ⟨⟨o, I.kIn p o hk, hc⟩, fun a e => ?_⟩
      cases e
      exact ⟨o, I.kIn _ o hk, hd⟩
    · have z : ∃ o, s.heap.get? p = some o ∧ o.ExactDict := by
        rcases hk with ⟨kvs, hk⟩ | ⟨kvs, hk⟩
        · obtain ⟨_, _, _, _, o, _, _, e, ex, _⟩ := I.hok p _ hk
          exact ⟨o, e, ex⟩
        · obtain ⟨_, _, _, _, o, _, _, e, ex, _⟩ := I.hok p _ hk
          exact ⟨o, e, ex⟩
      obtain ⟨o, e, ex⟩ := z
      refine ⟨⟨o, e, ex.1⟩, fun a e2 => ?_⟩
      cases e2
      exact ⟨o, e, ex.2.1⟩
    · obtain ⟨o, _, _, _, e, ex, _⟩ := I.hok p _ hk
      refine ⟨⟨o, e, ex.1⟩, fun a e2 => ?_⟩
      cases e2
      exact ⟨o, e, ex.2.1⟩
  | _ => exact False.elim ty
def tBM0 (K : PySem.W.Frag) (T : String) (r : V → List V → Hp → VK → Prop) (to : TE) : TE := fun σ H Q => to σ H fun x H1 => tyV K T x H1 ∧ r x [] H1 Q
def tBM (K : PySem.W.Frag) (T : String) (r : V → List V → Hp → VK → Prop) (to : TE) (t : TA) : TE := fun σ H Q => to σ H fun x H1 => tyV K T x H1 ∧ t σ H1 fun xs H2 => r x xs H2 Q
variable {o e : Expr} {es : List Expr} {to : TE} {t : TA} {name : Str} {apos cpos : Pos} {T id : String} {r : V → List V → Hp → VK → Prop}
theorem pe_bm0 (pa : PlainAttrs T) (slot : Slot T name id) (hty : typeOf (.builtin id) = pure (.type "method_descriptor")) (hm : MtR X id r) (ho : PE X o to)
    (hbase : attributeBase o name X.env (eval o X.env) = eval o X.env := by rfl) (hline : (apos.endLine == cpos.line) = true := by rfl) : PE X (.Call (.Attribute o name apos) [] [] cpos) (tBM0 X.K T r to) := by
  intro pins s σ H Q I h
  refine wpAny_Call_method0_late hbase hline (thn (ho pins s σ H _ I h) fun v s1 ⟨x, H1, I1, r1, ty, q1⟩ => ?_)
  obtain ⟨h1, h2⟩ := tyV_is I1 r1 ty
  exact ⟨T, id, pa, slot, hty, h1, h2, Calls.callWith_builtin rfl (PySem.evalArgs_none (hm pins s1 σ H1 x [] v [] Q I1 r1 .nil q1))⟩
theorem pe_bm (pa : PlainAttrs T) (slot : Slot T name id) (hty : typeOf (.builtin id) = pure (.type "method_descriptor")) (hm : MtR X id r) (ho : PE X o to) (ha : PA X (e :: es) t)
    (hbase : attributeBase o name X.env (eval o X.env) = eval o X.env := by rfl)
    (hfew : ((backTo cpos (starEach (e :: es) X.env)).all (fun x => !x.1) && (backToKw cpos (keywordEach [] X.env)).all (fun x => x.1.isSome)
      && decide ((e :: es).length + ([] : List Keyword).length + (if ([] : List Keyword).isEmpty then 0 else 1) < 30)) = true := by rfl)
    (hline : (apos.endLine == cpos.line) = true := by rfl) (hs : starEach (e :: es) X.env = (false, eval e X.env) :: starEach es X.env := by rfl) (hplain : (backTo cpos (starEach es X.env)).any (·.1) = false := by rfl) :
    PE X (.Call (.Attribute o name apos) (e :: es) [] cpos) (tBM X.K T r to t) := by
  intro pins s σ H Q I h
  refine wpAny_Call_method_late hbase hfew hline rfl (thn (ho pins s σ H _ I h) fun v s1 ⟨x, H1, I1, r1, ty, q1⟩ => ?_)
  obtain ⟨h1, h2⟩ := tyV_is I1 r1 ty
  refine ⟨T, id, pa, slot, hty, h1, h2, ?_⟩
  have hA := ha cpos pins s1 σ H1 _ I1 q1
  rw [hs] at hA ⊢
  refine Calls.callWith_builtin (by show (false || (backTo cpos (starEach es X.env)).any (·.1)) = false; rw [hplain] <;> rfl) (Calls.evalArgs_plain ?_)
  exact thn hA fun us s2 ⟨vs, H2, I2, r2, q2⟩ => hm pins s2 σ H2 x vs v us Q I2 r1 r2 q2
/- xs.append(e), list.index on a module's tuple .. are MtR facts of 06m -/
end
end L2

namespace L2
open PySem PySem.Spec PyProof.Rows

def MtM (X : Cx) (id : String) (r : V → List V → Hp → VK → Prop) : Prop :=
  ∀ (pins : List (Addr × Obj)) (s : Shared) (σ : St) (H : Hp) (x : V) (xs : List V) (v : Value) (us : List Value) (Q : VK), Inv X pins σ H s → RelV x v → Vals xs us → r x xs H Q →
    wpAny (model X.prog X.w) X.A (call (.builtin id) (v :: us)) (EP X pins σ Q) X.xe s

/-! ### lists of values -/
theorem Vals.one : ∀ {x : V} {us : List Value}, Vals [x] us → ∃ u, us = [u] ∧ RelV x u
  | _, _, .cons r .nil => ⟨_, rfl, r⟩
theorem Vals.two : ∀ {x y : V} {us : List Value}, Vals [x, y] us → ∃ u v, us = [u, v] ∧ RelV x u ∧ RelV y v
  | _, _, _, .cons r (.cons q .nil) => ⟨_, _, rfl, r, q⟩
theorem Vals.zero : ∀ {us : List Value}, Vals [] us → us = []
  | _, .nil => rfl
theorem Vals.dropLast {xs : List V} {us : List Value} (h : Vals xs us) : Vals xs.dropLast us.dropLast := by
  induction h with
  | nil => exact .nil
  | cons r t ih =>
    cases t with
    | nil => exact .nil
    | cons q t' => exact .cons r ih
theorem Vals.eraseIdx : ∀ {xs : List V} {us : List Value} (i : Nat), Vals xs us → Vals (xs.eraseIdx i) (us.eraseIdx i)
  | _, _, _, .nil => .nil
  | _, _, 0, .cons _ t => t
  | _, _, i + 1, .cons r t => .cons r (Vals.eraseIdx i t)
theorem Vals.reverse {xs : List V} {us : List Value} (h : Vals xs us) : Vals xs.reverse us.reverse := by
  induction h with
  | nil => exact .nil
  | cons r t ih => rw [List.reverse_cons, List.reverse_cons]; exact Vals.append ih (.cons r .nil)
theorem Vals.rep {xs : List V} {us : List Value} (h : Vals xs us) : ∀ k : Nat, Vals (List.replicate k xs).flatten (List.replicate k us).flatten
  | 0 => .nil
  | k + 1 => by
    rw [List.replicate_succ, List.replicate_succ, List.flatten_cons, List.flatten_cons]
    exact Vals.append h (Vals.rep h k)
theorem erase_last {α : Type} (l : List α) : l.eraseIdx (l.length - 1) = l.dropLast := by
  induction l with
  | nil => rfl
  | cons a r ih =>
    cases r with
    | nil => rfl
    | cons b r =>
      have e : (a :: b :: r).length - 1 = ((b :: r).length - 1) + 1 := by
        have h1 : (a :: b :: r).length = r.length + 2 := rfl
        have h2 : (b :: r).length = r.length + 1 := rfl
        omega
      rw [e, List.eraseIdx_cons_succ, ih]
      all_goals rfl
theorem len_erase {α : Type} : ∀ (l : List α) (i : Nat), (l.eraseIdx i).length ≤ l.length
  | [], _ => Nat.le_refl _
  | _ :: _, 0 => Nat.le_succ _
  | _ :: r, i + 1 => Nat.succ_le_succ (len_erase r i)
theorem foldl_rep (its : List Value) : ∀ (k : Nat) (acc : List Value),
    List.foldl (fun x1 x2 => x1 ++ x2) acc.toArray (List.replicate k its.toArray) = (acc ++ (List.replicate k its).flatten).toArray
  | 0, acc => by simp
  | k + 1, acc => by
    have e : acc.toArray ++ its.toArray = (acc ++ its).toArray := by simp
    have e2 : (acc ++ its) ++ (List.replicate k its).flatten = acc ++ (List.replicate (k + 1) its).flatten := by
      rw [List.replicate_succ, List.flatten_cons, List.append_assoc]
    rw [← e2, ← foldl_rep its k (acc ++ its), ← e, List.replicate_succ, List.foldl_cons]

section
variable {X : Cx} {pins : List (Addr × Obj)} {σ : St} {H : Hp} {s : Shared} {l b : Addr} {xs ys zs : List V}

/-! ### the two steps: a tracked list is rewritten, a new list is laid -/
theorem Inv.lset {its its' : List Value} {n : Nat} {f : Array Value → Array Value} {t' : Nat} (I : Inv X pins σ H s) (hH : H l = some (.lst xs))
    (e : s.heap.get? l = some { cls := .type "list", data := .seq its.toArray n }) (hf : f its.toArray = its'.toArray) (hv : Vals ys its') (hz : ys.length ≤ sizeLine) :
    Inv X pins σ (upd H l (.lst ys)) { s with heap := s.heap.update l (Obj.mapSeq f), toks := t' } := by
  have q := PySem.IsL.update e f
  rw [hf] at q
  refine I.write (x := l) (e := l) (by rw [hH]; exact trivial) (.inl rfl) (fun b' u hb hu => (Heap.get?_update_other s.heap (Obj.mapSeq f) (Ne.symm hb)).trans hu) ⟨_, q⟩ ?_
  exact ⟨hz, its', _, hv, q⟩
theorem Inv.lnew {its : List Value} {t' : Nat} (I : Inv X pins σ H s) (hv : Vals ys its) (hz : ys.length ≤ sizeLine) :
    Inv X pins σ (upd H s.heap.objs.size (.lst ys)) { s with heap := s.heap.push { cls := .type "list", data := .seq its.toArray }, toks := t' } :=
  I.laid (fun _ _ q => Heap.get?_push_of_some _ q) (Nat.le_refl _) ⟨hz, its, 0, hv, Heap.get?_push_size _ rfl⟩
theorem Inv.fresh (I : Inv X pins σ H s) : H s.heap.objs.size = none := I.hok.fresh (Nat.le_refl _)
theorem Inv.lstM (I : Inv X pins σ H s) (hH : H l = some (.lst xs)) : xs.length ≤ sizeLine ∧ ∃ (its : List Value) (n : Nat), Vals xs its ∧ xs.length = its.length ∧ s.heap.get? l = some { cls := .type "list", data := .seq its.toArray n } := by
  obtain ⟨z, its, n, r, e⟩ := I.hok l _ hH
  exact ⟨z, its, n, r, r.length, e⟩

theorem notLongL {n : Nat} (h : n ≤ sizeLine) : Builtin.List.listTooLong n = false := by
  unfold Builtin.List.listTooLong
  exact decide_eq_false (by omega)
end

section
variable {X : Cx}

/-! ### methods -/
def rAppend : V → List V → Hp → VK → Prop := fun x vs H Q => ∃ l xs y, x = .ref l ∧ vs = [y] ∧ H l = some (.lst xs) ∧ xs.length < sizeLine ∧ Q .non (upd H l (.lst (xs ++ [y])))
theorem mt_append : MtM X "list.append" rAppend := by
  intro pins s σ H x vs v us Q I rx rv h
  obtain ⟨l, xs, y, rfl, rfl, hH, hz, q⟩ := h
  cases rx
  obtain ⟨u, rfl, ru⟩ := rv.one
  obtain ⟨z, its, n, r, hl, e⟩ := I.lstM hH
  refine call_meets F.slot_list_append ⟨_, e, rfl⟩ F.entry_list_append (F.args_list_append_2 _ _) (PySem.list_append l its.toArray n u (by rw [List.size_toArray]; omega)) ⟨e, ?_⟩
  refine ⟨.non, _, I.lset (its' := its ++ [u]) hH e (by simp) (r.append (.cons ru .nil)) ?_, rfl, q⟩
  rw [List.length_append, List.length_singleton]
  omega

def rExtend : V → List V → Hp → VK → Prop := fun x vs H Q => ∃ l b xs zs, x = .ref l ∧ vs = [.ref b] ∧ H l = some (.lst xs) ∧ H b = some (.lst zs) ∧ xs.length + zs.length ≤ sizeLine ∧ Q .non (upd H l (.lst (xs ++ zs)))
theorem mt_extend : MtM X "list.extend" rExtend := by
  intro pins s σ H x vs v us Q I rx rv h
  obtain ⟨l, b, xs, zs, rfl, rfl, hH, hB, hz, q⟩ := h
  cases rx
  obtain ⟨u, rfl, ru⟩ := rv.one
  cases ru
  obtain ⟨z, its, n, r, hl, e⟩ := I.lstM hH
  obtain ⟨z2, its2, n2, r2, hl2, e2⟩ := I.lstM hB
  have hsz : its.toArray.size + its2.toArray.size ≤ sizeLine := by rw [List.size_toArray, List.size_toArray]; omega
  have hlong : ¬ (!its.toArray.isEmpty && Builtin.List.listTooLong (its.toArray.size + its2.toArray.size)) = true := by
    rw [notLongL hsz, Bool.and_false]
    exact Bool.false_ne_true
  refine call_meets F.slot_list_extend ⟨_, e, rfl⟩ F.entry_list_extend (F.args_list_extend_2 _ _)
    (AutoSeq1.list_extend_list_list_0 l its.toArray n b its2.toArray n2 hlong (by rw [List.size_toArray]; omega) (by omega)) ⟨e, e2, ?_⟩
  refine ⟨.non, _, I.lset (its' := its ++ its2) hH e (by simp) (r.append r2) ?_, rfl, q⟩
  rw [List.length_append]
  omega

def rPop : V → List V → Hp → VK → Prop := fun x vs H Q => ∃ l xs y, x = .ref l ∧ vs = [] ∧ H l = some (.lst xs) ∧ xs[xs.length - 1]? = some y ∧ Q y (upd H l (.lst xs.dropLast))
theorem mt_pop : MtM X "list.pop" rPop := by
  intro pins s σ H x vs v us Q I rx rv h
  obtain ⟨l, xs, y, rfl, rfl, hH, hy, q⟩ := h
  cases rx
  have hus := rv.zero
  subst hus
  obtain ⟨z, its, n, r, hl, e⟩ := I.lstM hH
  obtain ⟨u, hu, ru⟩ := r.get hy
  have hy' : its.toArray[its.toArray.size - 1]? = some u := by
    show its.toArray[its.length - 1]? = some u
    rw [← Array.getElem?_toList, ← hl]
    exact hu
  refine call_meets F.slot_list_pop ⟨_, e, rfl⟩ F.entry_list_pop (F.args_list_pop_1 _) (MeetsSeq.list_pop_last l its.toArray n u hy' (by rw [List.size_toArray]; omega)) ⟨e, ?_⟩
  refine ⟨y, _, I.lset (its' := its.dropLast) hH e ?_ r.dropLast ?_, ru, q⟩
  · show its.toArray.eraseIdxIfInBounds (its.toArray.size - 1) = its.dropLast.toArray
    rw [List.size_toArray, List.eraseIdxIfInBounds_toArray, erase_last]
  · rw [List.length_dropLast]
    omega

def rPopAt : V → List V → Hp → VK → Prop := fun x vs H Q => ∃ l xs i k y, x = .ref l ∧ vs = [.int i] ∧ H l = some (.lst xs) ∧ -(2 ^ 63) ≤ i ∧ i < 2 ^ 63 ∧ seqIndex? i xs.length = some k ∧ xs[k]? = some y ∧ Q y (upd H l (.lst (xs.eraseIdx k)))
theorem mt_popAt : MtM X "list.pop" rPopAt := by
  intro pins s σ H x vs v us Q I rx rv h
  obtain ⟨l, xs, i, k, y, rfl, rfl, hH, h1, h2, hk, hy, q⟩ := h
  cases rx
  obtain ⟨u, rfl, ru⟩ := rv.one
  obtain ⟨t, rfl⟩ := ru
  obtain ⟨z, its, n, r, hl, e⟩ := I.lstM hH
  obtain ⟨w, hw, rw'⟩ := r.get hy
  refine call_meets F.slot_list_pop ⟨_, e, rfl⟩ F.entry_list_pop (F.args_list_pop_2 _ _)
    (MeetsSeq.list_pop_at l its.toArray n i t k w (fitsIndex_both h1 h2) (by rw [List.size_toArray, ← hl]; exact hk) (by rw [← Array.getElem?_toList]; exact hw) (by rw [List.size_toArray]; omega)) ⟨e, ?_⟩
  refine ⟨y, _, I.lset (its' := its.eraseIdx k) hH e ?_ (r.eraseIdx k) ?_, rw', q⟩
  · show its.toArray.eraseIdxIfInBounds k = (its.eraseIdx k).toArray
    rw [List.eraseIdxIfInBounds_toArray]
  · have := len_erase xs k
    omega

def rReverse : V → List V → Hp → VK → Prop := fun x vs H Q => ∃ l xs, x = .ref l ∧ vs = [] ∧ H l = some (.lst xs) ∧ Q .non (upd H l (.lst xs.reverse))
theorem mt_reverse : MtM X "list.reverse" rReverse := by
  intro pins s σ H x vs v us Q I rx rv h
  obtain ⟨l, xs, rfl, rfl, hH, q⟩ := h
  cases rx
  have hus := rv.zero
  subst hus
  obtain ⟨z, its, n, r, hl, e⟩ := I.lstM hH
  refine call_meets F.slot_list_reverse ⟨_, e, rfl⟩ F.entry_list_reverse (F.args_list_reverse_1 _) (AutoSeq1.list_reverse_list_0 l its.toArray n (by rw [List.size_toArray]; omega)) ⟨e, ?_⟩
  refine ⟨.non, _, I.lset (its' := its.reverse) hH e (by simp) r.reverse ?_, rfl, q⟩
  rw [List.length_reverse]
  omega

def rClear : V → List V → Hp → VK → Prop := fun x vs H Q => ∃ l xs, x = .ref l ∧ vs = [] ∧ H l = some (.lst xs) ∧ Q .non (upd H l (.lst []))
theorem mt_clear : MtM X "list.clear" rClear := by
  intro pins s σ H x vs v us Q I rx rv h
  obtain ⟨l, xs, rfl, rfl, hH, q⟩ := h
  cases rx
  have hus := rv.zero
  subst hus
  obtain ⟨z, its, n, r, hl, e⟩ := I.lstM hH
  refine call_meets F.slot_list_clear ⟨_, e, rfl⟩ F.entry_list_clear (F.args_list_clear_1 _) (AutoSeq1.list_clear_list_0 l its.toArray n (by rw [List.size_toArray]; omega)) ⟨e, ?_⟩
  exact ⟨.non, _, I.lset (its' := []) (ys := []) hH e rfl .nil (Nat.zero_le _), rfl, q⟩

/-! ### list + list, list += list, list * int -/
def rCat : R2 := fun x y H Q => ∃ l b xs zs, x = .ref l ∧ y = .ref b ∧ H l = some (.lst xs) ∧ H b = some (.lst zs) ∧ xs.length + zs.length ≤ sizeLine ∧ ∀ p, H p = none → Q (.ref p) (upd H p (.lst (xs ++ zs)))
theorem op_cat : OpR X (binaryOp .Add) rCat := by
  intro pins s σ H x y v u Q I rx ry h
  obtain ⟨l, b, xs, zs, rfl, rfl, hH, hB, hz, q⟩ := h
  cases rx
  cases ry
  obtain ⟨z, its, n, r, hl, e⟩ := I.lstM hH
  obtain ⟨z2, its2, n2, r2, hl2, e2⟩ := I.lstM hB
  refine PySem.P.add_list e e2 ?_ (by rw [List.size_toArray, List.size_toArray]; omega)
  have ea : its.toArray ++ its2.toArray = (its ++ its2).toArray := by simp
  rw [ea]
  exact ⟨.ref _, _, I.lnew (t' := s.toks) (r.append r2) (by rw [List.length_append]; omega), rfl, q _ I.fresh⟩
/-- a list times an int (a negative one is nothing) -/
def rRep : R2 := fun x y H Q => ∃ l k xs, x = .ref l ∧ y = .int k ∧ H l = some (.lst xs) ∧ -(2 ^ 63) ≤ k ∧ k < 2 ^ 63 ∧ xs.length * k.toNat ≤ sizeLine ∧
  ∀ p, H p = none → Q (.ref p) (upd H p (.lst (List.replicate k.toNat xs).flatten))
theorem len_rep {α : Type} (xs : List α) (k : Nat) : (List.replicate k xs).flatten.length = k * xs.length := by
  induction k with
  | zero => simp
  | succ k ih => rw [List.replicate_succ, List.flatten_cons, List.length_append, ih, Nat.succ_mul, Nat.add_comm]
theorem op_rep : OpR X (binaryOp .Mult) rRep := by
  intro pins s σ H x y v u Q I rx ry h
  obtain ⟨l, k, xs, rfl, rfl, hH, h1, h2, hz, q⟩ := h
  cases rx
  obtain ⟨t, rfl⟩ := ry
  obtain ⟨z, its, n, r, hl, e⟩ := I.lstM hH
  have hlen : its.toArray.size * k.toNat ≤ sizeLine := by rw [List.size_toArray, ← hl]; exact hz
  have hcap : ¬ its.toArray.size * k.toNat > (2 ^ 63 - 1) / 8 := by
    have : (sizeLine : Nat) ≤ (2 ^ 63 - 1) / 8 := by decide
    omega
  have hfit : ¬ (!Builtin.List.listFitsIndex k) = true := by
    rw [fitsIndex_both h1 h2]
    exact Bool.false_ne_true
  have hlong : ¬ Builtin.List.listTooLong (its.toArray.size * k.toNat) = true := by
    rw [notLongL hlen]
    exact Bool.false_ne_true
  have hnew : List.foldl (fun x1 x2 => x1 ++ x2) #[] (List.replicate (if its.toArray.isEmpty = true then 0 else k.toNat) its.toArray) = (List.replicate k.toNat its).flatten.toArray := by
    have f0 : ∀ m : Nat, List.foldl (fun x1 x2 => x1 ++ x2) #[] (List.replicate m its.toArray) = (List.replicate m its).flatten.toArray := fun m => by
      have := foldl_rep its m []
      rw [List.nil_append] at this
      exact this
    rw [f0]
    cases its with
    | nil => simp
    | cons a r' => rw [if_neg (by simp)]
  refine wpAny_binaryOp_repeat_ref (T := "list") (U := "int") (by decide) ⟨_, e, rfl⟩ (fun s' => typeIs_int s' k t) noFill_list_mul F.fills_int_mul F.slot_int_rmul repeat_list F.slot_int_index.lookup
    (call_meets F.slot_int_rmul (typeIs_int s k t) F.entry_int_rmul (F.args_int_rmul_2 _ _) (int___rmul___int_list k t l its.toArray n)
      ⟨e, rfl, ⟨_, e, rfl⟩, call_meets F.slot_list_mul ⟨_, e, rfl⟩ F.entry_list_mul (F.args_list_mul_2 _ _) (AutoListH.list___mul___list_int_3 l its.toArray n k t hfit hcap hlong) ⟨e, ?_⟩⟩)
  rw [hnew]
  exact ⟨.ref _, _, I.lnew (t' := s.toks) (r.rep k.toNat) (by rw [len_rep, Nat.mul_comm]; exact hz), rfl, q _ I.fresh⟩

/-! ### del xs[i] -/
theorem del_list {pins : List (Addr × Obj)} {s : Shared} {σ : St} {H : Hp} {l : Addr} {xs : List V} {i : Int} {t : Tok} {k : Nat} {Q : Unit → Shared → Prop} (I : Inv X pins σ H s) (hH : H l = some (.lst xs))
    (h1 : -(2 ^ 63) ≤ i) (h2 : i < 2 ^ 63) (hk : seqIndex? i xs.length = some k) (h : ∀ s', Inv X pins σ (upd H l (.lst (xs.eraseIdx k))) s' → Q () s') :
    wpAny (model X.prog X.w) X.A (delItem (.ref l) (.int i t)) Q X.xe s := by
  obtain ⟨z, its, n, r, hl, e⟩ := I.lstM hH
  refine PySem.P.delItem_list (k := k) e (fitsIndex_both h1 h2) (by rw [List.size_toArray, ← hl]; exact hk) (h _ ?_) (by rw [List.size_toArray]; omega)
  refine I.lset (its' := its.eraseIdx k) (t' := s.toks) hH e ?_ (r.eraseIdx k) ?_
  · show its.toArray.eraseIdxIfInBounds k = (its.eraseIdx k).toArray
    rw [List.eraseIdxIfInBounds_toArray]
  · have := len_erase xs k
    omega
end

/-! ### xs[a:b] = ys -/
section
variable {prog : Program} {w : World} {A : Around} {E : Value → Shared → Prop} {s : Shared}
theorem splice_eq (its its2 : List Value) (a c : Nat) : its.toArray.extract 0 a ++ its2.toArray ++ its.toArray.extract c its.toArray.size = (its.take a ++ its2 ++ its.drop c).toArray := by
  apply Array.toList_inj.mp
  first
    | (simp
       exact List.take_of_length_le (by simp))
    | simp [List.take_of_length_le]
    | simp
theorem bounds_run {a c n : Nat} (hac : a ≤ c) (hc : c ≤ n) : sliceBounds (some (a : Int)) (some (c : Int)) none n = ((a : Int), (c : Int), 1) := by
  simp only [sliceBounds, Option.getD_none]
  have h1 : ¬ ((a : Int) < 0) := by omega
  have h2 : ¬ ((c : Int) < 0) := by omega
  simp only [h1, h2, if_false, show (1 : Int) > 0 by decide, if_true]
  congr 1
  · omega
  · congr 1; omega
set_option maxRecDepth 100000 in
/-- list.__setitem__ with a slice of step one and another list -/
theorem setItem_slice {l b sl : Addr} {items new : Array Value} {n n2 : Nat} {vl vu : Value} {a c : Nat} {Q : Unit → Shared → Prop}
    (e : s.heap.get? l = some { cls := .type "list", data := .seq items n }) (e2 : s.heap.get? b = some { cls := .type "list", data := .seq new n2 }) (hne : l ≠ b)
    (hs : s.heap.IsSliceOf sl vl vu .none) (pl : IsPart vl (some (a : Int))) (pu : IsPart vu (some (c : Int))) (hac : a ≤ c) (hc : c ≤ items.size)
    (hsz : items.size + new.size ≤ sizeLine) (h : Q () { s with heap := s.heap.update l (Obj.mapSeq fun xs => xs.extract 0 a ++ new ++ xs.extract c xs.size) }) :
    wpAny (model prog w) A (setItem (.ref l) (.ref sl) (.ref b)) Q E s := by
  have hl : s.heap.IsList l items := PySem.IsL.isList e
  have hb : s.heap.IsList b new := PySem.IsL.isList e2
  obtain ⟨os, hos, hcs, hds⟩ := id hs
  have hTs : s.TypeIs (.ref sl) "slice" := ⟨os, hos, hcs⟩
  have hstep : ¬ ((rawPart none == rawInt 0) = true) := Bool.false_ne_true
  have hsame : Builtin.List.listSameRef (.ref l) (.ref b) = false := by
    unfold Builtin.List.listSameRef
    exact beq_eq_false_iff_ne.mpr hne
  have hmax : (max (a : Int) (c : Int)).toNat = c := by omega
  have hz' : ((fun xs : Array Value => xs.extract 0 a ++ new ++ xs.extract c xs.size) items).size ≤ sizeLine + 1 := by
    simp only [Array.size_append, Array.size_extract]
    omega
  unfold setItem
  try with_reducible refine wpAny_holding ?_
  first | refine wpAny_bind (wpAny_pure ?_) | skip
  refine wpAny_bind (wpAny_sequenceKey hl.typeIs (by decide) ?_)
  refine wpAny_bind (wpAny_callSpecial?_slot (name := Str.ofString "__setitem__") hl.typeIs slot_list_setitem
    (wpAny_call_entry slot_list_setitem hl.typeIs entry_list_setitem ?_ (args_list_setitem _ _ _)))
  show wpAny _ _ (Builtin.List.listSubscript? (.ref sl) >>= _) _ _ s
  refine wpAny_bind ?_
  unfold Builtin.List.listSubscript?
  refine wpAny_bind (wpAny_specialOf hTs slice_no_index ?_)
  simp only [Option.isNone_none, if_true]
  refine wpAny_pure ?_
  show wpAny _ _ (typeOf (.ref sl) >>= _) _ _ s
  refine wpAny_bind (wpAny_typeOf hTs ?_)
  first
    | rw [if_neg (by decide)]
    | refine PySem.W.KFB.if_not (by decide) ?_
  rw [listSliceParts_eq]
  refine wpAny_bind (wpAny_bind (wpAny_field hos hds (x := .none) rfl (wpAny_bind (wpAny_listPart .none ?_))))
  rw [if_neg hstep]
  refine wpAny_bind (wpAny_field hos hds (x := vl) rfl (wpAny_bind (wpAny_listPart pl ?_)))
  refine wpAny_bind (wpAny_field hos hds (x := vu) rfl (wpAny_bind (wpAny_listPart pu (wpAny_pure ?_))))
  first
    | simp only [hsame, Bool.false_eq_true, if_false]
    | refine PySem.W.KFB.if_not hsame ?_
    | (dsimp only
       rw [if_neg (by rw [hsame]; exact Bool.false_ne_true)])
  refine wpAny_bind (m := Builtin.List.listAllItems (.ref b) "must assign iterable to extended slice") ?_
  unfold Builtin.List.listAllItems
  refine wpAny_bind (wpAny_typeOf hb.typeIs ?_)
  first
    | refine PySem.W.KFB.if_so (by decide) ?_
    | rw [if_pos (by decide)]
    | simp only [beq_self_eq_true, Bool.true_or, if_true]
  unfold Builtin.List.listItems
  refine wpAny_bind (wpAny_seqItems e2 rfl (wpAny_pure ?_))
  refine wpAny_bind (wpAny_bind (wpAny_seqItems e rfl (wpAny_pure ?_)))
  refine wpAny_bind (wpAny_of_eq ((sliceIndices_raw (some (a : Int)) (some (c : Int)) none items.size (by simp)).trans (congrArg (pure : Int × Int × Int → Sem (Int × Int × Int)) (bounds_run hac hc))) ?_)
  show wpAny _ _ (if ((1 : Int) == 1) = true then _ else _) _ _ s
  rw [if_pos (by decide)]
  refine wpAny_bind (wpAny_rule ?_)
  first
    | simp only [notLongL hsz, Bool.false_eq_true, if_false]
    | refine PySem.W.KFB.if_not (notLongL hsz) ?_
  first | refine wpAny_bind (wpAny_pure ?_) | skip
  show wpAny _ _ (updateSeq l (fun xs => xs.extract 0 ((a : Int)).toNat ++ new ++ xs.extract (max (a : Int) (c : Int)).toNat xs.size) >>= _) _ _ s
  rw [hmax, Int.toNat_natCast]
  refine wpAny_bind (wpAny_updateSeq (hz := Nat.le_trans (Nat.le_add_right _ _) hsz) (_hz' := hz') e rfl ?_)
  refine wpAny_bind (wpAny_letGo ?_)
  first
    | exact wpAny_bind (wpAny_pure (wpAny_pure ⟨.none, rfl, wpAny_pure h⟩))
    | exact wpAny_pure ⟨.none, rfl, wpAny_pure h⟩
end

section
variable {X : Cx}
/-- xs[a:c] = ys of another list, at the value level: sl is the slice object that was just made -/
theorem set_slice {pins : List (Addr × Obj)} {s : Shared} {σ : St} {H : Hp} {l b sl : Addr} {xs ys : List V} {a c : Int} {vl vu : Value} {Q : Unit → Shared → Prop} (I : Inv X pins σ H s)
    (hH : H l = some (.lst xs)) (hB : H b = some (.lst ys)) (hne : l ≠ b) (hs : s.heap.IsSliceOf sl vl vu .none) (ra : RelV (.int a) vl) (rc : RelV (.int c) vu) (h0 : 0 ≤ a) (hac : a ≤ c) (hc : c ≤ xs.length)
    (hz : xs.length + ys.length ≤ sizeLine) (h : ∀ s', Inv X pins σ (upd H l (.lst (xs.take a.toNat ++ ys ++ xs.drop c.toNat))) s' → Q () s') :
    wpAny (model X.prog X.w) X.A (setItem (.ref l) (.ref sl) (.ref b)) Q X.xe s := by
  obtain ⟨ta, rfl⟩ := ra
  obtain ⟨tc, rfl⟩ := rc
  obtain ⟨z, its, n, r, hl, e⟩ := I.lstM hH
  obtain ⟨z2, its2, n2, r2, hl2, e2⟩ := I.lstM hB
  obtain ⟨a', rfl⟩ := Int.eq_ofNat_of_zero_le h0
  obtain ⟨c', rfl⟩ := Int.eq_ofNat_of_zero_le (Int.le_trans h0 hac)
  simp only [Int.toNat_natCast] at h
  refine setItem_slice (a := a') (c := c') e e2 hne hs (.int _ _) (.int _ _) (by omega) (by rw [List.size_toArray]; omega) (by rw [List.size_toArray, List.size_toArray]; omega) (h _ ?_)
  refine I.lset (its' := its.take a' ++ its2 ++ its.drop c') (t' := s.toks) hH e ?_ (Vals.append (Vals.append (r.take _) r2) (r.drop _)) ?_
  · exact splice_eq its its2 a' c'
  · rw [List.length_append, List.length_append, List.length_take, List.length_drop]
    omega
end
end L2

namespace Att
open PySem PySem.W PySem.Calls PyProof.Rows

/-! ### the script -/
theorem ints_of_wellAll {P : Params} {h : Heap} : ∀ (ns : List Int) (vs : List Value), WellAll P h vs (ns.map WData.int) → IntsAre vs ns := by
  intro ns
  induction ns with
  | nil =>
    intro vs w
    rw [List.map_nil] at w
    cases w
    exact .nil
  | cons n ns ih =>
    intro vs w
    rw [List.map_cons] at w
    cases w with
    | cons a b =>
      cases a
      exact .cons _ _ (ih _ b)

theorem script_of {l : OpenLaw} {n : Nat} (hn : l.most = some n) {P : Params} {h : Heap} {args : List WData} {vals : List Value}
    (hpre : l.row.toRowW.claim.pre args = true) (hwl : WellAll P h vals args) :
    ∃ a vs ns, vals = [Value.ref a] ∧ args = [WData.list (ns.map WData.int)] ∧ h.get? a = some { cls := .type "list", data := .seq vs.toArray } ∧ IntsAre vs ns ∧ ns.length ≤ n := by
  have hsh : WShape.hasAll [] args [.list .int] = true := (pre_splitW hpre).1
  have hc : l.pre.holds [] { args := args } = true := (pre_splitW hpre).2
  obtain ⟨d, r, rfl, h1, h2⟩ := hasAllW_cons hsh
  obtain rfl := hasAllW_nil h2
  obtain ⟨xs, rfl, h3⟩ := hasW_list h1
  obtain ⟨ns, rfl⟩ := items_int h3
  have hlen : ns.length ≤ n := by
    unfold OpenLaw.pre at hc
    have h4 : (WTm.not (.lt (.lit (.int (n : Int))) (.len (.arg 0)))).holds [] { args := [.list (ns.map .int)] } = true := by
      have h4 := (holds_andW hc).1
      rw [hn] at h4
      exact h4
    have h5 := condW_of h4 (w_not (w_lt w_lit (w_len_list (w_arg rfl))))
    rw [List.length_map] at h5
    refine Nat.le_of_not_lt fun q => ?_
    have q' : (n : Int) < ((ns.length : Nat) : Int) := by omega
    first
      | (rw [decide_eq_true q'] at h5; exact absurd h5 (by decide))
      | (simp at h5; omega)
  cases hwl with
  | cons w1 w2 =>
    cases w2
    cases w1 with
    | list ho hall => exact ⟨_, _, ns, rfl, rfl, ho, ints_of_wellAll ns _ hall, hlen⟩

theorem post_true (l : OpenLaw) (args : List WData) : l.row.toRowW.claim.post args (.bool true) args = true :=
  postW_of (r := l.row.toRowW) (X := (true == true))
    (show WShape.has [] (.bool true) .bool = true by first | rfl | decide | simp [WShape.has, WShape.arms, WShape.armsAll])
    (show (WTm.eq .res (.lit (.bool true))).value [] { args := args, res := some (.bool true), after := args } = some (.bool (true == true)) from w_eq_bool (w_res rfl) w_lit) rfl

/-! ### the attachment: holds_open's last premise (the goal 'hc' behind k_head) from a wpAny of the law's body -/
theorem attach {l : OpenLaw} {n : Nat} {q : Program} {loose : List Str} {XP : (Str → Option Value) → Heap → Prop} {YP : World → Heap → Prop} {d : DefRec} {x : Str}
    (hn : l.most = some n) (hdf : d.params.defaults = [])
    (hbind : ∀ pm cd doc v : Value, bindArgs (docDef d.name d.params d.body d.scope pm cd doc) ⟨[v], []⟩ = pure [(x, v)])
    (hx : d.scope.names.lookup x = some .local ∨ d.scope.names.lookup x = some .cell)
    (hk : d.scope.kind = .function) (hco : d.scope.isCoroutine = false) (hgen : d.scope.isGenerator = false)
    (body : ∀ (w : World) (s₀ s₁ s : Shared) (mg mb : Str → Option Value) (fa : Addr) (o : Obj) (pm cd doc : Value) (a : Addr) (vs : List Value) (ns : List Int),
      Ground q loose [] XP w s₀ mg mb s₁.heap → YP w s₁.heap →
      s₁.heap.get? fa = some o → o.data = .func (docDef d.name d.params d.body d.scope pm cd doc) → s₁.heap.CodeRec cd d.name → mg d.name = some (.ref fa) →
      s₁.heap.get? a = some { cls := .type "list", data := .seq vs.toArray } → IntsAre vs ns → ns.length ≤ n →
      s.gens = #[] → s.os = s₁.os →
      Fr s₁.heap s₁.heap.objs.size s.heap (bindL (envOfC d.name d.scope s₁.heap.objs.size fa cd).kindOf [(x, .ref a)] fun _ => none) →
      Cl s₁.heap.objs.size (cellsFrom (s₁.heap.objs.size + 1) d.scope.names []) s.heap (bindC (envOfC d.name d.scope s₁.heap.objs.size fa cd).kindOf [(x, .ref a)] fun _ => none) →
      wpAny (model l.prog w) (callerA.deeper (envOfC d.name d.scope s₁.heap.objs.size fa cd)) (execs d.body (envOfC d.name d.scope s₁.heap.objs.size fa cd))
        (fun f s' => f = .ret (.bool true) ∧ OldK s₁.heap s'.heap ∧ s'.os = s₁.os ∧ AllBare s'.gens) (fun _ _ => False) s) :
    WalkO q loose XP YP l.row.toRowW d [] (fun f vs => PySem.call f vs) := by
  intro w s₀ s₁ mg mb G Y fa o pm cd doc dV kV ho hd hcd hD hmg hg args vals as hpre hlay hrd hwl hlo
  obtain rfl : dV = .none := Dflts.none hD hdf
  obtain rfl : kV = .none := Dflts.noKw hD
  obtain ⟨a, vs, ns, rfl, rfl, hobj, hints, hlen⟩ := script_of hn hpre hwl
  refine enter_call ?_
  refine call_cells_ret (o := o) (by rw [depth_caller]; decide) ho (fd_plain hd) G.T.nolimit hcd (hbind pm cd doc (.ref a)) (fun y hy => ?_) (fun h₁ tk F X => ?_) hco hgen hk
  · obtain rfl : y = (x, Value.ref a) := List.mem_singleton.mp hy
    rcases hx with e | e
    · exact .inl e
    · exact .inr ⟨e, cellsFrom_some _ _ _ (.inl e)⟩
  · refine wpAny_mono (body w s₀ s₁ { s₁ with heap := h₁, toks := tk } mg mb fa o pm cd doc a vs ns G Y ho (fd_plain hd) hcd hmg hobj hints hlen hg rfl F X) (fun f s' hq => ?_) (fun _ _ hq => hq)
    obtain ⟨rfl, h2, h3, h4⟩ := hq
    exact ⟨.inl ⟨.bool true, .bool true, [], rfl, fun _ => rfl, .bool true, post_true l _, fun _ => ⟨List.Pairwise.nil, fun _ hm => (nomatch hm)⟩⟩, h2, h3, h4⟩

/-- the same from a codeAny of the CALL (for a layer whose function contracts speak of calls) -/
theorem attach_call {l : OpenLaw} {n : Nat} {q : Program} {loose : List Str} {XP : (Str → Option Value) → Heap → Prop} {YP : World → Heap → Prop} {d : DefRec}
    (hn : l.most = some n) (hdf : d.params.defaults = [])
    (call : ∀ (w : World) (s₀ s₁ : Shared) (mg mb : Str → Option Value) (fa : Addr) (o : Obj) (pm cd doc : Value) (a : Addr) (vs : List Value) (ns : List Int),
      Ground q loose [] XP w s₀ mg mb s₁.heap → YP w s₁.heap →
      s₁.heap.get? fa = some o → o.data = .func (docDef d.name d.params d.body d.scope pm cd doc) → s₁.heap.CodeRec cd d.name → mg d.name = some (.ref fa) →
      s₁.heap.get? a = some { cls := .type "list", data := .seq vs.toArray } → IntsAre vs ns → ns.length ≤ n → s₁.gens = #[] →
      codeAny (model l.prog w) callerA (.call (.ref fa) ⟨[.ref a], []⟩) (fun r s' => r = .ok (.ret (.bool true)) ∧ OldK s₁.heap s'.heap ∧ s'.os = s₁.os ∧ AllBare s'.gens) s₁) :
    WalkO q loose XP YP l.row.toRowW d [] (fun f vs => PySem.call f vs) := by
  intro w s₀ s₁ mg mb G Y fa o pm cd doc dV kV ho hd hcd hD hmg hg args vals as hpre hlay hrd hwl hlo
  obtain rfl : dV = .none := Dflts.none hD hdf
  obtain rfl : kV = .none := Dflts.noKw hD
  obtain ⟨a, vs, ns, rfl, rfl, hobj, hints, hlen⟩ := script_of hn hpre hwl
  refine enter_call (codeAny_mono (call w s₀ s₁ mg mb fa o pm cd doc a vs ns G Y ho (fd_plain hd) hcd hmg hobj hints hlen hg) fun r s' hq => ?_)
  obtain ⟨rfl, h2, h3, h4⟩ := hq
  exact ⟨.inl ⟨.bool true, .bool true, [], rfl, fun _ => rfl, .bool true, post_true l _, fun _ => ⟨List.Pairwise.nil, fun _ hm => (nomatch hm)⟩⟩, h2, h3, h4⟩

/-- the same where the top left finished generators (o_head chose holds_openN): nothing may have changed at all and no generator may be left -/
theorem attachN {l : OpenLaw} {n : Nat} {q : Program} {loose : List Str} {XP : (Str → Option Value) → Heap → Prop} {YP : World → Heap → Prop} {d : DefRec} {x : Str}
    (hn : l.most = some n) (hdf : d.params.defaults = [])
    (hbind : ∀ pm cd doc v : Value, bindArgs (docDef d.name d.params d.body d.scope pm cd doc) ⟨[v], []⟩ = pure [(x, v)])
    (hx : d.scope.names.lookup x = some .local ∨ d.scope.names.lookup x = some .cell)
    (hk : d.scope.kind = .function) (hco : d.scope.isCoroutine = false) (hgen : d.scope.isGenerator = false)
    (body : ∀ (w : World) (s₀ s₁ s : Shared) (mg mb : Str → Option Value) (fa : Addr) (o : Obj) (pm cd doc : Value) (a : Addr) (vs : List Value) (ns : List Int),
      Ground q loose [] XP w s₀ mg mb s₁.heap → YP w s₁.heap →
      s₁.heap.get? fa = some o → o.data = .func (docDef d.name d.params d.body d.scope pm cd doc) → s₁.heap.CodeRec cd d.name → mg d.name = some (.ref fa) →
      s₁.heap.get? a = some { cls := .type "list", data := .seq vs.toArray } → IntsAre vs ns → ns.length ≤ n →
      s.gens = #[] → s.os = s₁.os →
      Fr s₁.heap s₁.heap.objs.size s.heap (bindL (envOfC d.name d.scope s₁.heap.objs.size fa cd).kindOf [(x, .ref a)] fun _ => none) →
      Cl s₁.heap.objs.size (cellsFrom (s₁.heap.objs.size + 1) d.scope.names []) s.heap (bindC (envOfC d.name d.scope s₁.heap.objs.size fa cd).kindOf [(x, .ref a)] fun _ => none) →
      wpAny (model l.prog w) (callerA.deeper (envOfC d.name d.scope s₁.heap.objs.size fa cd)) (execs d.body (envOfC d.name d.scope s₁.heap.objs.size fa cd))
        (fun f s' => f = .ret (.bool true) ∧ (∀ b o, s₁.heap.get? b = some o → s'.heap.get? b = some o) ∧ s'.os = s₁.os ∧ s'.gens = #[]) (fun _ _ => False) s) :
    WalkN q loose XP YP l.row.toRowW d [] (fun f vs => PySem.call f vs) := by
  intro w s₀ s₁ mg mb G Y fa o pm cd doc dV kV ho hd hcd hD hmg hg args vals as hpre hlay hrd hwl hlo
  obtain rfl : dV = .none := Dflts.none hD hdf
  obtain rfl : kV = .none := Dflts.noKw hD
  obtain ⟨a, vs, ns, rfl, rfl, hobj, hints, hlen⟩ := script_of hn hpre hwl
  refine enter_callW ?_
  refine call_cells_ret (o := o) (by rw [depth_caller]; decide) ho (fd_plain hd) G.T.nolimit hcd (hbind pm cd doc (.ref a)) (fun y hy => ?_) (fun h₁ tk F X => ?_) hco hgen hk
  · obtain rfl : y = (x, Value.ref a) := List.mem_singleton.mp hy
    rcases hx with e | e
    · exact .inl e
    · exact .inr ⟨e, cellsFrom_some _ _ _ (.inl e)⟩
  · refine wpAny_mono (body w s₀ s₁ { s₁ with heap := h₁, toks := tk } mg mb fa o pm cd doc a vs ns G Y ho (fd_plain hd) hcd hmg hobj hints hlen hg rfl F X) (fun f s' hq => ?_) (fun _ _ hq => hq)
    obtain ⟨rfl, h2, h3, h4⟩ := hq
    exact ⟨.inl ⟨.bool true, .bool true, [], rfl, fun _ => rfl, .bool true, post_true l _, fun _ => ⟨List.Pairwise.nil, fun _ hm => (nomatch hm)⟩⟩, h2, h3, h4⟩

/-! ### rules over ANY heap (no ledger) from facts about the written part K: the library's own take a ledger (News) for what they write -/
section
variable {prog : Program} {w : World} {A : Around} {E : Value → Shared → Prop} {s : Shared} {K : Frag}

/-- a def of the module, or a method (qual 'C.m'), entered: the frame is the next address; cells behind it -/
theorem call_fn {R : Result → Shared → Prop} {name qual : Str} {params : Arguments} {body : List Stmt} {scope : Scope} {dV kV doc pm cdv ct oc : Value} {an od : Option Addr} {osl : Array (Option Value)} {f : Addr} {args : Args} {binds : List (Str × Value)}
    (X : K.In s.heap) (hlim : s.heap.NoLimit) (ho : K.lookup f = some ⟨oc, od, .func (fnOf name qual params body scope dV kV doc pm an cdv ct), osl⟩) (hcd : codeIn K cdv qual = true) (hroom : A.depth < recursionLimit)
    (hbind : BindsTo s (fnOf name qual params body scope dV kV doc pm an cdv ct) args binds)
    (hkind : (binds.all fun y => scope.names.lookup y.1 == some .local || scope.names.lookup y.1 == some .cell) = true)
    (h : ∀ s₁, InCallC s s.heap.objs.size (bindL (envOfC qual scope s.heap.objs.size f cdv).kindOf binds fun _ => none) (cellsFrom (s.heap.objs.size + 1) scope.names [])
        (bindC (envOfC qual scope s.heap.objs.size f cdv).kindOf binds fun _ => none) s₁ →
      wpAny (model prog w) (A.deeper (envOfC qual scope s.heap.objs.size f cdv)) (execs body (envOfC qual scope s.heap.objs.size f cdv))
        (fun fl s' => R (.ok (.ret (match fl with | .ret v => v | _ => .none))) s')
        (fun e s' => wpAny (model prog w) (A.deeper (envOfC qual scope s.heap.objs.size f cdv)) (leaving (envOfC qual scope s.heap.objs.size f cdv) e) (fun _ s'' => R (.error e) s'') (fun e' s'' => R (.error e') s'') s') s₁)
    (hco : scope.isCoroutine = false) (hgen : scope.isGenerator = false) (hk : scope.kind = .function) : codeAny (model prog w) A (.call (.ref f) args) R s := by
  refine codeAny_call_function hroom (X _ _ ho) rfl hco hgen rfl (codeRec_of X hcd) (hbind _ _ _ _ ?_)
  refine wpAny_newFunctionEnv_cells hk (kindsX hkind _) fun env he s₁ x => ?_
  subst he
  exact ⟨hlim.keeps x.toInCall.keep, codeAny_func (h s₁ x)⟩

/-- C(..): dict at size, instance at size + 1, then __init__ -/
theorem make_obj {R : Result → Shared → Prop} {C fI : Addr} {rest : List Value} {kw : List (Str × Value)}
    (X : K.In s.heap) (hm : makesIn K C = true) (hi : findIn K (.ref C) "__init__" = some (some (.ref fI))) (hf : isFn K (.ref fI) = true)
    (h : codeAny (model prog w) (A.under (.builtin "type.__call__" ⟨.ref C :: rest, kw⟩)) (.call (.ref fI) ⟨.ref (s.heap.objs.size + 1) :: rest, kw⟩) (InitBack (s.heap.objs.size + 1) R)
      { s with heap := (s.heap.push emptyDict).push (instObj C s.heap.objs.size) }) : codeAny (model prog w) A (.call (.ref C) ⟨rest, kw⟩) R s := by
  obtain ⟨hh, g, d, t, os⟩ := s
  exact make_core (makes_of X hm) (looks_findIn X hi) (fun self => bind_fn X self (beq_iff_eq.mp hf)) (.inl rfl) h

/-- x.name where the instance's dict holds the name and the class does not -/
theorem get_field {x C : Addr} {ox : Obj} {es : List DictEntry} {n : Nat} {name : Str} {expr : Bool} {v : Value} {Q : Value → Shared → Prop}
    (X : K.In s.heap) (I : PySem.W.InstAt s.heap x ox C (some (dictOf es n))) (hg : plainGet K C name = true) (hh : hasDictIn K C = true) (ha : findIn K (.ref C) name = some none)
    (hl : getL name es = some (some v)) (hv : handedIn v = true) (h : Q v { s with toks := s.toks + 1 }) : wpAny (model prog w) A (getAttr (.ref x) name expr) Q E s :=
  get_value X I (plainGet_of hg).1 (findObj_own hh ha rfl hl) hv h

/-- x.m(..): the method found in the class -/
theorem get_method {x C f : Addr} {ox : Obj} {es : List DictEntry} {n : Nat} {name : Str} {pl : Sem Bool} {Q : Value × List Value → Shared → Prop}
    (X : K.In s.heap) (I : PySem.W.InstAt s.heap x ox C (some (dictOf es n))) (hg : plainGet K C name = true) (hf : findIn K (.ref C) name = some (some (.ref f))) (ht : isFn K (.ref f) = true)
    (hl : getL name es = some none) (h : Q (.ref f, [.ref x]) s) : wpAny (model prog w) A (getMethod (.ref x) name pl) Q E s :=
  method_fn X I (plainGet_of hg).1 (plainGet_of hg).2 hf (beq_iff_eq.mp ht) (by show (lookIn name (dictOf es n)).map _ = _; rw [lookIn_dict, hl]; rfl) h

/-! the whole heap as the ledger: makes every rule that writes through a ledger a rule over any heap -/
def noObjs (h : Heap) : Heap := { h with objs := #[] }
theorem noObjs_get (h : Heap) (b : Addr) : (noObjs h).get? b = none := by
  cases e : (noObjs h).get? b with
  | none => rfl
  | some o => exact absurd (Heap.lt_size e) (Nat.not_lt_zero _)
def ledger (h : Heap) (L d : Addr) : List (Addr × Obj) := (List.range h.objs.size).filterMap fun a => if a = L ∨ a = d then none else (h.get? a).map fun o => (a, o)
theorem mem_ledger {h : Heap} {L d a : Addr} {o : Obj} : (a, o) ∈ ledger h L d ↔ a ≠ L ∧ a ≠ d ∧ h.get? a = some o := by
  unfold ledger
  rw [List.mem_filterMap]
  constructor
  · rintro ⟨b, _, e⟩
    split at e
    · cases e
    · rename_i hb
      obtain ⟨o', ho, e'⟩ := Option.map_eq_some_iff.mp e
      cases e'
      exact ⟨fun q => hb (.inl q), fun q => hb (.inr q), ho⟩
  · rintro ⟨n1, n2, ho⟩
    refine ⟨a, List.mem_range.mpr (Heap.lt_size ho), ?_⟩
    rw [if_neg (show ¬ (a = L ∨ a = d) from fun q => q.elim n1 n2), ho] <;> rfl
theorem news_ledger {h : Heap} {L d : Addr} {od : Obj} (hne : d ≠ L) (ho : h.get? d = some od) : News (noObjs h) L h ([] ++ (d, od) :: ledger h L d) := by
  rintro ⟨a, o⟩ hp
  rcases List.mem_cons.mp hp with e | hp
  · cases e
    exact ⟨ho, hne, noObjs_get _ _⟩
  · obtain ⟨n1, n2, e⟩ := mem_ledger.mp hp
    exact ⟨e, n1, noObjs_get _ _⟩
theorem fr_all {h : Heap} {L : Addr} {m : Str → Option Value} (n : h.Ns L m) : Fr (noObjs h) L h m :=
  ⟨n, fun b o e => (by rw [noObjs_get] at e; cases e), Nat.zero_le _⟩
/-- Upd of the head entry (for append_K, setItem_K ..) -/
theorem upd_ledger {h : Heap} {L d : Addr} {o o' : Obj} : Upd d o o' ((d, o) :: ledger h L d) ((d, o') :: ledger h L d) :=
  .head fun ⟨_, _⟩ hp => (mem_ledger.mp hp).2.1

/-- x.name = v over any heap: L is any namespace of the heap (the frame's, say): its map stays, its object is not told; all else but the dict stays -/
theorem set_field {x C dx L : Addr} {ox : Obj} {m : Str → Option Value} {es es' : List DictEntry} {n n' : Nat} {name : Str} {v : Value} {Q : Unit → Shared → Prop}
    (X : K.In s.heap) (I : PySem.W.InstAt s.heap x ox C (some (dictOf es n))) (hd : ox.dict = some dx) (hL : s.heap.Ns L m) (hne : dx ≠ L)
    (hs : findIn K (.ref C) "__setattr__" = some (some (.builtin "object.__setattr__"))) (hp : plainOver K C = true) (ht : takerIn K C name = some none) (hh : hasDictIn K C = true) (hl : (getL name es).isSome = true)
    (e : (putL name (PyData.keyHash w.params name) (.str name (s.toks + 1)) v es, putN name es n) = (es', n')) (hz : es'.length ≤ 1000)
    (h : ∀ h' : Heap, h'.Ns L m → h'.get? dx = some (dictOf es' n') → (∀ b o, b ≠ dx → b ≠ L → s.heap.get? b = some o → h'.get? b = some o) → Q () { s with heap := h', toks := s.toks + 2 }) :
    wpAny (model prog w) A (setAttr (.ref x) name v) Q E s := by
  obtain ⟨e1, e2⟩ := Prod.mk.inj e
  have hdx : s.heap.get? dx = some (dictOf es n) := by
    have := I.dict
    rw [hd] at this
    exact this
  refine set_plain X I hs (osa_dict (s := { s with toks := s.toks + 1 }) (h₀ := noObjs s.heap) (L := L) (m := m) (od := dictOf es n) (od' := dictOf es' n') (es := es') (n := n') (pre := []) (post := ledger s.heap L dx)
    (fr_all hL) (news_ledger hne hdx) X I hd hp ht hh hl (fun _ q => nomatch q) (fun ⟨_, _⟩ q => (mem_ledger.mp q).2.1) (by rw [putName_dict, e1, e2]) rfl hz fun h' F' N' => ?_)
  exact h h' F'.ns (N'.get (List.Mem.head _)) fun b o n1 n2 ho => N'.get (List.Mem.tail _ (mem_ledger.mpr ⟨n2, n1, ho⟩))
end
end Att

namespace L2
open PySem PySem.Spec PyProof.Rows

theorem vals_ints : ∀ {vs : List Value} {ns : List Int}, IntsAre vs ns → Vals (ns.map V.int) vs
  | _, _, .nil => .nil
  | _, _, .cons n t h => .cons ⟨t, rfl⟩ (vals_ints h)

/-- nothing is tracked but the script, known to the object (or it is an object of the module) -/
def Only (H : Hp) : Prop := ∀ b, H b = none ∨ ∃ o xs, H b = some (.frz o (.lst xs))

/-- THE HEAD: the law's promise, at the heap behind the top. F, the promise of the law's def, may use that base is part of the heap (so K.In base, base.Ns mainGlobals mg stand in Mod) -/
theorem law_call {P : Program} {w : World} {K : PySem.W.Frag} {mg mb : Str → Option Value} {CX : CXT} {k : Nat} {fa a : Addr} {fd : FuncData} {x : Str} {sp : Sp} {s₁ : Shared} {vs : List Value} {ns : List Int}
    (KX : K.In s₁.heap) (hns : s₁.heap.Ns mainGlobals mg) (hb : s₁.heap.Ns builtinsNs mb) (hbb : ∀ x : Str, x ≠ "__name__" → mb x = bootBuiltins x) (hlim : s₁.heap.NoLimit) (hg : s₁.gens = #[])
    (ha : s₁.heap.get? a = some { cls := .type "list", data := .seq vs.toArray }) (hi : IntsAre vs ns) (hl : ns.length ≤ sizeLine) (hr : Room k callerA)
    (F : ∀ base : Heap, K.In base → base.Ns mainGlobals mg → FnOk P w K mg base CX k fa fd [x] sp) (hbind : ∀ (s : Shared) (u : Value), BindsTo s fd ⟨[u], []⟩ [(x, u)])
    (hsp : ∀ H : Hp, Only H → SqL K H a (ns.map V.int) → sp [.ref a] H (fun v _ => v = .bl true) fun _ _ _ => False)
    (hCX : ∀ H e s', CX [] H s₁ (fun _ _ _ => False) e s' → False) :
    codeAny (model P w) callerA (.call (.ref fa) ⟨[.ref a], []⟩) (fun r s' => r = .ok (.ret (.bool true)) ∧ OldK s₁.heap s'.heap ∧ s'.os = s₁.os ∧ AllBare s'.gens) s₁ := by
  have rv := vals_ints hi
  have lenV := hi.length
  -- from an abstract heap in which nothing but the script may be tracked
  have core : ∀ H : Hp, Only H → SqL K H a (ns.map V.int) → HOk P w H s₁.heap → (∀ b, H b ≠ none → b = a) → (H a ≠ none → K.lookup a = none) →
      codeAny (model P w) callerA (.call (.ref fa) ⟨[.ref a], []⟩) (fun r s' => r = .ok (.ret (.bool true)) ∧ OldK s₁.heap s'.heap ∧ s'.os = s₁.os ∧ AllBare s'.gens) s₁ := by
    intro H hO hS hok hA hK
    have base_of : ∀ {b : Addr} {o : Obj}, s₁.heap.get? b = some o → H b = none → (hidT s₁.heap H).get? b = some o := fun e n => hidT_get e n
    have noA : ∀ {b : Addr} {o : Obj} {es : Array DictEntry} {ep : Nat}, s₁.heap.get? b = some o → o.data = .dict es ep → H b = none := fun {b o es ep} e d => by
      cases q : H b with
      | none => rfl
      | some u =>
        have e' : b = a := hA b (by rw [q]; simp)
        subst e'
        rw [ha] at e; cases e
        have d' : Data.seq vs.toArray _ = Data.dict es ep := d
        cases d'
    have nsK : ∀ {b : Addr} {m : Str → Option Value}, s₁.heap.Ns b m → (hidT s₁.heap H).Ns b m := fun {b m} ⟨o, es, ep, e, d, r⟩ => ⟨o, es, ep, base_of e (noA e d), d, r⟩
    have hKb : K.In (hidT s₁.heap H) := fun b o e => base_of (KX b o e) (by
      cases q : H b with
      | none => rfl
      | some u =>
        have e' : b = a := hA b (by rw [q]; simp)
        subst e'
        rw [hK (by rw [q]; simp)] at e; cases e)
    have hM : Mod K mg (hidT s₁.heap H) := ⟨hKb, nsK hns, ⟨mb, nsK hb, hbb⟩, let ⟨mc, h1, h2⟩ := hlim; ⟨mc, nsK h1, h2⟩⟩
    have e0 : Env0 P w K mg (hidT s₁.heap H) callerA [] s₁ H := ⟨rfl, hM, fun b o e => of_hidT e, Nat.le_of_eq (hidT_size _ _), trivial, fun b hb => absurd (show b ∈ ([] : List Addr) from hb) (by simp), hok, .of_eq hg⟩
    refine codeAny_mono ((F _ hKb (nsK hns)).run callerA [] s₁ H ⟨[.ref a], []⟩ [.ref a] [.ref a] _ _ hr e0 (hbind s₁ (.ref a)) (.cons rfl .nil) (hsp H hO hS)) fun r s' h => ?_
    cases r with
    | error e => exact (hCX H e s' h).elim
    | ok fl =>
      cases fl with
      | next => exact False.elim h
      | brk => exact False.elim h
      | cont => exact False.elim h
      | ret u =>
        obtain ⟨v, H', os, bare, un, hok', r', q⟩ := h
        have q' : v = .bl true := q
        subst q'
        obtain rfl : u = Value.bool true := r'
        refine ⟨rfl, OldK.of_keep fun b o e => ?_, os, bare⟩
        cases q : H b with
        | none => exact un.keep b o e q (by intro z; exact absurd (show b ∈ ([] : List Addr) from z) (by simp)) (by simp)
        | some u =>
          rcases hO b with z | ⟨ob, xs, z⟩
          · rw [q] at z; cases z
          · have z2 := un.frzs b ob _ z
            obtain ⟨e1, _⟩ := hok b _ z
            obtain ⟨e2, _⟩ := hok' b _ z2
            rw [e] at e1; cases e1
            exact e2
  cases hk : K.lookup a with
  | some o =>
    -- the script is one of the module's own objects
    have e := KX a o hk
    rw [ha] at e
    cases e
    refine core (fun _ => none) (fun _ => .inl rfl) (.inr ⟨_, vs.toArray, _, hk, rfl, rfl, rfl, by rw [List.size_toArray, lenV]; exact hl, by simpa using rv⟩) (fun b u z => by have z' : (none : Option HO) = some u := z; cases z') (fun b z => absurd rfl z) fun z => absurd rfl z
  | none =>
    refine core (fun b => if b = a then some (.frz { cls := .type "list", data := .seq vs.toArray } (.lst (ns.map V.int))) else none) (fun b => ?_) (.inl (.inr ⟨{ cls := .type "list", data := .seq vs.toArray }, if_pos rfl⟩)) (fun b u z => ?_) (fun b z => ?_) fun _ => hk
    · by_cases hb : b = a
      · exact .inr ⟨_, _, if_pos hb⟩
      · exact .inl (if_neg hb)
    · by_cases hb : b = a
      · have z' := (if_pos hb).symm.trans z
        cases z'
        subst hb
        exact ⟨ha, by rw [List.length_map]; exact hl, vs, _, rv, ha⟩
      · have z' := (if_neg hb).symm.trans z
        cases z'
    · by_cases hb : b = a
      · exact hb
      · exact absurd (if_neg hb) z
end L2

namespace L2
open PySem PySem.Spec PyProof.Rows

abbrev KOf {K : PySem.W.Frag} {h : Heap} (_ : K.In h) : PySem.W.Frag := K

/-- the goal that k_head leaves (case hc), from the law's promise. F gives the function object fd (K's own) once, then the promise over every base -/
theorem walk_of {l : PySem.W.OpenLaw} {n k : Nat} {q : Program} {loose : List Str} {XP : (Str → Option Value) → Heap → Prop} {YP : World → Heap → Prop} {d : DefRec} {K : Params → PySem.W.Frag} {CX : World → CXT} {sp : World → Sp} {x : Str}
    (hn : l.most = some n) (hn2 : n ≤ sizeLine) (hdf : d.params.defaults = []) (hr : Room k callerA)
    (hY : ∀ (w : World) (h : Heap), YP w h → (K w.params).In h)
    (F : ∀ (w : World) (mg : Str → Option Value) (fa : Addr) (h : Heap), (K w.params).In h → h.Ns mainGlobals mg → mg d.name = some (.ref fa) →
      ∃ fd : FuncData, (∀ (s : Shared) (u : Value), BindsTo s fd ⟨[u], []⟩ [(x, u)]) ∧
        ∀ base : Heap, (K w.params).In base → base.Ns mainGlobals mg → FnOk l.prog w (K w.params) mg base (CX w) k fa fd [x] (sp w))
    (hsp : ∀ (w : World) (H : Hp) (a : Addr) (ns : List Int), ns.length ≤ n → Only H → SqL (K w.params) H a (ns.map V.int) → sp w [.ref a] H (fun v _ => v = .bl true) fun _ _ _ => False)
    (hCX : ∀ (w : World) (H : Hp) (s : Shared) (e : Value) (s' : Shared), CX w [] H s (fun _ _ _ => False) e s' → False) :
    PySem.W.WalkO q loose XP YP l.row.toRowW d [] (fun f vs => PySem.call f vs) := by
  refine Att.attach_call hn hdf fun w s₀ s₁ mg mb fa o pm cd doc a vs ns G Y ho hd hcd hmg hobj hints hlen hg => ?_
  have KX := hY w _ Y
  obtain ⟨fd, hb, hF⟩ := F w mg fa _ KX G.T.g hmg
  exact law_call KX G.T.g G.T.b G.T.builtins G.T.nolimit hg hobj hints (Nat.le_trans hlen hn2) hr hF hb (fun H hO hS => hsp w H a ns hlen hO hS) fun H e s' => hCX w H s₁ e s'
/-- the same where the promise hangs on the written part alone: (sp := My.sp_law), no hole under a binder -/
theorem walk_ofK {l : PySem.W.OpenLaw} {n k : Nat} {q : Program} {loose : List Str} {XP : (Str → Option Value) → Heap → Prop} {YP : World → Heap → Prop} {d : DefRec} {K : Params → PySem.W.Frag} {CX : CXT} {sp : PySem.W.Frag → Sp} {x : Str}
    (hn : l.most = some n) (hn2 : n ≤ sizeLine) (hdf : d.params.defaults = []) (hr : Room k callerA)
    (hY : ∀ (w : World) (h : Heap), YP w h → (K w.params).In h)
    (F : ∀ (w : World) (mg : Str → Option Value) (fa : Addr) (h : Heap), (K w.params).In h → h.Ns mainGlobals mg → mg d.name = some (.ref fa) →
      ∃ fd : FuncData, (∀ (s : Shared) (u : Value), BindsTo s fd ⟨[u], []⟩ [(x, u)]) ∧
        ∀ base : Heap, (K w.params).In base → base.Ns mainGlobals mg → FnOk l.prog w (K w.params) mg base CX k fa fd [x] (sp (K w.params)))
    (hsp : ∀ (K : PySem.W.Frag) (H : Hp) (a : Addr) (ns : List Int), ns.length ≤ n → Only H → SqL K H a (ns.map V.int) → sp K [.ref a] H (fun v _ => v = .bl true) fun _ _ _ => False)
    (hCX : ∀ (H : Hp) (s : Shared) (e : Value) (s' : Shared), CX [] H s (fun _ _ _ => False) e s' → False) :
    PySem.W.WalkO q loose XP YP l.row.toRowW d [] (fun f vs => PySem.call f vs) :=
  walk_of (K := K) (CX := fun _ => CX) (sp := fun w => sp (K w.params)) hn hn2 hdf hr hY F (fun w H a ns h1 h2 h3 => hsp (K w.params) H a ns h1 h2 h3) fun _ H s e s' => hCX H s e s'
end L2

/- THE LAST THEOREM (shape; LID, My.* are yours):
   My.Adr: a structure of the addresses that your layer names (classes, functions); My.Txt K t: a structure (Prop) of the equations over K;
   My.txt_mk : {K} {implicit addresses ..} (e1 : nsIn K mainGlobals "law" = some (some (.ref f))) (e2 : K.lookup f = some ⟨oc, od, .func (fnOf "law" "law" params body scope dV kV doc pm an cdv ct), sl⟩) (e3 : codeIn K cdv "law" = true) .. : ∃ t, My.Txt K t

set_option maxRecDepth 100000 in
set_option maxHeartbeats 0 in
theorem PySem.Challenge.cw_LID_holds : PySem.Challenge.rw_LID.Holds := by
  w_on; o_law; k_head; (case hw => w_witness2)
  k_fill
  refine L2.walk_of (l := PySem.Challenge.rw_LID) (n := 63) (k := 40) (x := "script") (CX := fun w => ..) (sp := fun _ => My.sp_law) rfl (by decide) rfl ⟨rfl, by decide, by decide⟩ (fun w h Y => PySem.W.kIn_of Y) ?F ?S ?C
  case F =>
    intro w mg fa h KX G hmg
    have T : ∃ t, My.Txt (L2.KOf KX) t := by
      dsimp only [L2.KOf]                          -- K must stand as «<heap const> w.params» for k_is
      refine' My.txt_mk ?e1 ?e2 ?e3 ..
      (case e1 => PySem.W.k_is)                    -- in the order: a name -> its address -> its object -> its parts
      (case e2 => PySem.W.k_is)
      ..
    obtain ⟨t, T⟩ := T
    have e0 := hmg.symm.trans (PySem.W.mg_of KX G T.law)
    cases e0                                       -- fa is the law's own address
    exact ⟨_, fun s u => .of_eq rfl, fun base kb nb => My.law_fn T kb nb⟩     -- if «.of_eq rfl» comes too early: refine' ⟨_, ?b, fun base kb nb => My.law_fn T kb nb⟩; exact fun s u => .of_eq rfl
  case S => exact fun w H a ns hl hO hS => ..
  case C => exact ..
(the tactic k_is has no namespace: write k_is) -/

/-! SHORT WORDS over the layer: a def of the text, its body, what a loop and a test want. -/
namespace L2
open PySem PySem.Spec PyProof.Rows

/-! ### the text by places -/
/-- the j-th statement of a class's body -/
def inClass (s : Stmt) (j : Nat) : Stmt := match s with
  | .ClassDef _ _ _ body _ _ _ _ _ _ _ => body.getD j (.Pass ⟨0, 0, 0, 0⟩)
  | _ => .Pass ⟨0, 0, 0, 0⟩
def defArgs (s : Stmt) : Arguments := match s with
  | .FunctionDef _ a _ _ _ _ _ _ _ _ => a
  | _ => { posonlyargs := [], args := [], vararg := none, kwonlyargs := [], kw_defaults := [], kwarg := none, defaults := [] }
def defBody (s : Stmt) : List Stmt := match s with
  | .FunctionDef _ _ b _ _ _ _ _ _ _ => b
  | _ => []
def defScope (s : Stmt) : Scope := match s with
  | .FunctionDef _ _ _ _ _ _ sc _ _ _ => sc
  | _ => { kind := .function, names := [], isGenerator := false, isCoroutine := false }

/-! ### no exception leaves a def -/
abbrev CX0 : CXT := fun _ _ _ _ _ _ => False
abbrev E0 : XK := fun _ _ _ => False
theorem pass0 {X : Cx} : Passes CX0 X E0 := fun _ _ _ _ _ _ _ h => h.elim

/-! ### a def (or method) of the text as it stands behind the top -/
structure Fun (K : PySem.W.Frag) (x qual : Str) (st : Stmt) (f : Addr) (fd : FuncData) : Prop where
  ex : ∃ (oc : Value) (od : Option Addr) (kV doc pm : Value) (an : Option Addr) (cdv ct : Value) (osl : Array (Option Value)),
    fd = PySem.W.fnOf x qual (defArgs st) (defBody st) (defScope st) .none kV doc pm an cdv ct ∧ K.lookup f = some ⟨oc, od, .func fd, osl⟩ ∧ PySem.W.codeIn K cdv qual = true
  kp : PySem.W.keepIn K (.ref f) = true
section
variable {P : Program} {w : World} {K : PySem.W.Frag} {mg : Str → Option Value} {base : Heap}
/-- THE RULE for a def: its body as a term of rules, and the reading of that term -/
theorem Fun.ok {x qual : Str} {st : Stmt} {f : Addr} {fd : FuncData} {N ps : List Str} {k : Nat} {sp : Sp} (F : Fun K x qual st f fd) (S : FnScope N ps (defScope st)) (len : ∀ vs H Q E, sp vs H Q E → vs.length = ps.length)
    (hbody : ∀ (cdv : Value) (A : Around) (outer : List Env) (s : Shared) (H : Hp) (vs : List V) (Q : VK) (E : XK), Room k (A.deeper (envOfC qual (defScope st) s.heap.objs.size f cdv)) → sp vs H Q E →
      ∃ t, PSs (cxOf CX0 P w K mg base N qual (defScope st) f cdv A outer s H E).nox (defBody st) t ∧ t { nx := fun _ H' => Q .non H', rt := Q } (start N vs) H) : FnOk P w K mg base CX0 (k + 1) f fd ps sp := by
  obtain ⟨oc, od, kV, doc, pm, an, cdv, ct, osl, rfl, lk, hcd⟩ := F.ex
  refine fn_of lk hcd S len fun A outer s H vs Q E hr hsp => ?_
  obtain ⟨t, h, q⟩ := hbody cdv A outer s H vs Q E hr hsp
  exact ⟨t, h.nox, q⟩
/-- how its arguments bind (no defaults): h is «fun _ _ _ _ _ _ us hl => match us, hl with | [_, _], _ => rfl», one _ a parameter -/
theorem Fun.binds {x qual : Str} {st : Stmt} {f : Addr} {fd : FuncData} {ps : List Str} (F : Fun K x qual st f fd)
    (h : ∀ (kV doc pm : Value) (an : Option Addr) (cdv ct : Value) (us : List Value), us.length = ps.length → bindArgs (PySem.W.fnOf x qual (defArgs st) (defBody st) (defScope st) .none kV doc pm an cdv ct) ⟨us, []⟩ = pure (ps.zip us)) : Binds K fd ps [] := by
  obtain ⟨oc, od, kV, doc, pm, an, cdv, ct, osl, rfl, lk, hcd⟩ := F.ex
  exact .all (h kV doc pm an cdv ct)
theorem fun_mk {x qual : Str} {st : Stmt} {f : Addr} {oc : Value} {od an : Option Addr} {osl : Array (Option Value)} {kV doc pm cdv ct : Value} (l : K.lookup f = some ⟨oc, od, .func (PySem.W.fnOf x qual (defArgs st) (defBody st) (defScope st) .none kV doc pm an cdv ct), osl⟩)
    (c : PySem.W.codeIn K cdv qual = true) (k : PySem.W.keepIn K (.ref f) = true) : Fun K x qual st f (PySem.W.fnOf x qual (defArgs st) (defBody st) (defScope st) .none kV doc pm an cdv ct) := ⟨⟨oc, od, kV, doc, pm, an, cdv, ct, osl, rfl, l, c⟩, k⟩
end
theorem hu_of {A : Around} {k : Nat} (hr : Room k A) : A.units + 1 < cLine := Nat.lt_of_le_of_lt (Nat.add_le_add_left (by decide : 1 ≤ 64) _) hr.units
theorem small1000 {n : Nat} (h : n ≤ 1000) : n < sizeLine := Nat.lt_of_le_of_lt h (by decide)

/-! ### expressions in short: the name that stands in the i-th slot -/
section
variable {X : Cx}
theorem pv (i : Nat) {x : Str} {pos : Pos} (hN : X.N[i]? = some x := by rfl) (hv : Vis X.env.scope x := by first | exact Or.inl rfl | exact Or.inr (Or.inl rfl) | exact Or.inr (Or.inr rfl)) (hd : (x == ("__debug__" : Str)) = false := by decide)
    (hcd : (x == ("__classdict__" : Str)) = false := by decide) : PE X (.Name x pos) (tVar i) := pe_var hN hv hd hcd
end

/-! ### tests -/
theorem iteF {A B : Prop} (h : B) : if false = true then A else B := by
  rw [if_neg Bool.false_ne_true]
  exact h
theorem iteT {A B : Prop} (h : A) : if true = true then A else B := by
  rw [if_pos rfl]
  exact h
theorem ite2 {c A B : Prop} [Decidable c] (h1 : c → A) (h2 : ¬ c → B) : if c then A else B := by
  by_cases h : c
  · rw [if_pos h]
    exact h1 h
  · rw [if_neg h]
    exact h2 h
theorem iteNS {c A B : Prop} [Decidable c] (hc : c) (h : B) : if (!decide c) = true then A else B := by
  rw [decide_eq_true hc]
  exact iteF h

/-! ### heaps -/
/-- all that was tracked is as it was -/
def Same (H H' : Hp) : Prop := ∀ b o, H b = some o → H' b = some o
theorem Same.refl (H : Hp) : Same H H := fun _ _ h => h
theorem Same.trans {H H1 H2 : Hp} (a : Same H H1) (b : Same H1 H2) : Same H H2 := fun c o h => b c o (a c o h)
theorem Same.free {H H' : Hp} (e : Same H H') {l : Addr} (h : H' l = Option.none) : H l = Option.none := by
  cases q : H l with
  | none => rfl
  | some o =>
    rw [e l o q] at h
    cases h
theorem Same.seq {K : PySem.W.Frag} {H H' : Hp} {a : Addr} {xs : List V} (e : Same H H') (h : SqL K H a xs) : SqL K H' a xs := by
  rcases h with (h | ⟨o, h⟩) | h
  · exact .inl (.inl (e _ _ h))
  · exact .inl (.inr ⟨o, e _ _ h⟩)
  · exact .inr h

end L2

set_option Elab.async false
set_option linter.all false
set_option maxRecDepth 100000
namespace L2
open PySem PySem.Spec PyProof.Rows

/-! ### lists of pairs as tables -/
section
variable {κ : Type} [DecidableEq κ]
def valV (kvs : List (κ × V)) (k : κ) : Option V := (kvs.find? fun kv => decide (kv.1 = k)).map (·.2)
/-- in its place, or at the end -/
def putK (kvs : List (κ × V)) (k : κ) (v : V) : List (κ × V) :=
  if (kvs.any fun kv => decide (kv.1 = k)) = true then kvs.map (fun kv => if kv.1 = k then (kv.1, v) else kv) else kvs ++ [(k, v)]
def dropK (kvs : List (κ × V)) (k : κ) : List (κ × V) := kvs.filter fun kv => decide (kv.1 ≠ k)

theorem valV_nil {k : κ} : valV ([] : List (κ × V)) k = none := rfl
theorem valV_pos {p : κ × V} {r : List (κ × V)} {k : κ} (e : p.1 = k) : valV (p :: r) k = some p.2 := by simp [valV, List.find?_cons, e]
theorem valV_neg {p : κ × V} {r : List (κ × V)} {k : κ} (e : ¬ p.1 = k) : valV (p :: r) k = valV r k := by simp [valV, List.find?_cons, e]
theorem valV_any (k : κ) : ∀ kvs : List (κ × V), (kvs.any fun kv => decide (kv.1 = k)) = (valV kvs k).isSome
  | [] => rfl
  | p :: r => by
    rw [List.any_cons]
    by_cases e : p.1 = k
    · simp only [valV_pos e, decide_eq_true e, Bool.true_or, Option.isSome_some]
    · rw [valV_neg e, decide_eq_false e, Bool.false_or]; exact valV_any k r
theorem valV_map (k j : κ) (y : V) : ∀ kvs : List (κ × V), valV (kvs.map fun kv => if kv.1 = k then (kv.1, y) else kv) j = (valV kvs j).map fun x => if j = k then y else x
  | [] => rfl
  | p :: r => by
    have ih := valV_map k j y r
    rw [List.map_cons]
    by_cases h : p.1 = k
    · rw [if_pos h]
      by_cases e : p.1 = j
      · rw [valV_pos (p := (p.1, y)) e, valV_pos e, Option.map_some, if_pos (e.symm.trans h)]
      · rw [valV_neg (p := (p.1, y)) e, valV_neg e, ih]
    · rw [if_neg h]
      by_cases e : p.1 = j
      · rw [valV_pos (p := p) e, valV_pos e, Option.map_some, if_neg (fun z => h (e.trans z))]
      · rw [valV_neg (p := p) e, valV_neg e, ih]
theorem valV_snoc (k j : κ) (y : V) : ∀ kvs : List (κ × V), valV kvs k = none → valV (kvs ++ [(k, y)]) j = if j = k then some y else valV kvs j
  | [], _ => by
    by_cases e : k = j
    · rw [if_pos e.symm]; exact valV_pos (p := (k, y)) e
    · rw [if_neg (fun z => e z.symm)]; exact valV_neg (p := (k, y)) e
  | p :: r, hn => by
    rw [List.cons_append]
    have hk : ¬ p.1 = k := fun z => by rw [valV_pos z] at hn; cases hn
    rw [valV_neg hk] at hn
    have ih := valV_snoc k j y r hn
    by_cases e : p.1 = j
    · rw [valV_pos e, valV_pos e, if_neg (fun z => hk (e.trans z))]
    · rw [valV_neg e, valV_neg e, ih]
theorem valV_put (kvs : List (κ × V)) (k j : κ) (y : V) : valV (putK kvs k y) j = if j = k then some y else valV kvs j := by
  unfold putK
  by_cases a : (kvs.any fun kv => decide (kv.1 = k)) = true
  · rw [if_pos a, valV_map]
    rw [valV_any] at a
    by_cases e : j = k
    · obtain ⟨x, hx⟩ := Option.isSome_iff_exists.mp a
      rw [if_pos e, e, hx, Option.map_some, if_pos rfl]
    · rw [if_neg e]
      cases valV kvs j with
      | none => rfl
      | some x => rw [Option.map_some, if_neg e]
  · rw [if_neg a]
    refine valV_snoc k j y kvs ?_
    rw [valV_any] at a
    cases q : valV kvs k with
    | none => rfl
    | some x => rw [q] at a; exact (a rfl).elim
theorem length_putK (kvs : List (κ × V)) (k : κ) (v : V) : (putK kvs k v).length ≤ kvs.length + 1 := by
  unfold putK
  split
  · rw [List.length_map]; omega
  · rw [List.length_append, List.length_cons, List.length_nil]; omega
theorem putK_new {kvs : List (κ × V)} {k : κ} (v : V) (h : valV kvs k = none) : putK kvs k v = kvs ++ [(k, v)] := by
  unfold putK
  rw [valV_any, h]
  exact if_neg (by decide)

theorem RelO.isSome_eq {o : Option V} {u : Option Value} (r : RelO o u) : o.isSome = u.isSome := by
  cases o with
  | none => cases u with
    | none => rfl
    | some _ => exact (show False from r).elim
  | some _ => cases u with
    | none => exact (show False from r).elim
    | some _ => rfl
theorem RelO.getD {o : Option V} {u : Option Value} {d : V} {d' : Value} (r : RelO o u) (rd : RelV d d') : RelV (o.getD d) (u.getD d') := by
  cases o with
  | none => cases u with
    | none => exact rd
    | some _ => exact (show False from r).elim
  | some _ => cases u with
    | none => exact (show False from r).elim
    | some _ => exact r

/-- raw tables of the same keys -/
theorem KV.val {kvs : List (κ × V)} {vs : List (κ × Value)} (r : KV kvs vs) (k : κ) : RelO (valV kvs k) (valueAt vs k) := by
  unfold KV at r
  induction r with
  | nil => exact True.intro
  | @cons p q ps qs h t ih =>
    obtain ⟨h1, h2⟩ := h
    by_cases e : p.1 = k
    · have e' : q.1 = k := h1.symm.trans e
      have b : valueAt (q :: qs) k = some q.2 := by simp [valueAt, List.find?_cons, e']
      rw [valV_pos e, b]; exact h2
    · have e' : ¬ q.1 = k := fun z => e (h1.trans z)
      have b : valueAt (q :: qs) k = valueAt qs k := by simp [valueAt, List.find?_cons, e']
      rw [valV_neg e, b]; exact ih
theorem KV.any {kvs : List (κ × V)} {vs : List (κ × Value)} (r : KV kvs vs) (k : κ) : (kvs.any fun kv => decide (kv.1 = k)) = vs.any fun kv => decide (kv.1 = k) := by
  unfold KV at r
  induction r with
  | nil => rfl
  | cons h t ih => rw [List.any_cons, List.any_cons, ih, h.1]
theorem KV.repl {kvs : List (κ × V)} {vs : List (κ × Value)} (r : KV kvs vs) (k : κ) {y : V} {u : Value} (ry : RelV y u) :
    KV (kvs.map fun kv => if kv.1 = k then (kv.1, y) else kv) (vs.map fun kv => if kv.1 = k then (kv.1, u) else kv) := by
  unfold KV at r ⊢
  induction r with
  | nil => exact .nil
  | @cons p q ps qs h t ih =>
    rw [List.map_cons, List.map_cons]
    refine .cons ?_ ih
    obtain ⟨h1, h2⟩ := h
    by_cases e : p.1 = k
    · rw [if_pos e, if_pos (h1.symm.trans e)]; exact ⟨h1, ry⟩
    · rw [if_neg e, if_neg (fun z => e (h1.trans z))]; exact ⟨h1, h2⟩
theorem KV.put {kvs : List (κ × V)} {vs : List (κ × Value)} (r : KV kvs vs) (k : κ) {y : V} {u : Value} (ry : RelV y u) : KV (putK kvs k y) (stored vs k u) := by
  unfold putK stored
  rw [r.any k]
  by_cases e : (vs.any fun kv => decide (kv.1 = k)) = true
  · rw [if_pos e, if_pos e]; exact r.repl k ry
  · rw [if_neg e, if_neg e]; exact Paired.snoc r ⟨rfl, ry⟩
theorem KV.drop {kvs : List (κ × V)} {vs : List (κ × Value)} (r : KV kvs vs) (k : κ) : KV (dropK kvs k) (without vs k) := by
  unfold KV at r ⊢
  unfold dropK without
  induction r with
  | nil => exact .nil
  | @cons p q ps qs h t ih =>
    obtain ⟨h1, h2⟩ := h
    rw [List.filter_cons, List.filter_cons]
    by_cases e : p.1 = k
    · have a : ¬ decide (p.1 ≠ k) = true := by simp [e]
      have b : ¬ decide (q.1 ≠ k) = true := by simp [h1.symm.trans e]
      rw [if_neg a, if_neg b]; exact ih
    · have e' : ¬ q.1 = k := fun z => e (h1.trans z)
      have a : decide (p.1 ≠ k) = true := by simp [e]
      have b : decide (q.1 ≠ k) = true := by simp [e']
      rw [if_pos a, if_pos b]; exact .cons ⟨h1, h2⟩ ih
theorem KV.keys {kvs : List (κ × V)} {vs : List (κ × Value)} (r : KV kvs vs) : kvs.map (·.1) = vs.map (·.1) := by
  unfold KV at r
  induction r with
  | nil => rfl
  | cons h t ih => rw [List.map_cons, List.map_cons, ih, h.1]
theorem KV.length {kvs : List (κ × V)} {vs : List (κ × Value)} (r : KV kvs vs) : kvs.length = vs.length := Paired.length r
theorem dropK_le (kvs : List (κ × V)) (k : κ) : (dropK kvs k).length ≤ kvs.length := List.length_filter_le _ _
end


/-! ### a tracked dict, its keys ints and texts or tuples of these -/
theorem kV_is {P : Program} {w : World} {k : Key} {u : Value} (r : RelV (kV k) u) : (mixKind P w).is k u = true := by
  cases k with
  | inl i => obtain ⟨t, e⟩ := (show ∃ t, u = Value.int i t from r); subst e; exact mixKind_int P w i t
  | inr x => obtain ⟨t, e⟩ := (show ∃ t, u = Value.str x t from r); subst e; exact mixKind_str P w x t
theorem kV_inj {a b : Key} (e : kV a = kV b) : a = b := by
  cases a with
  | inl i => cases b with
    | inl j => have e' : V.int i = V.int j := e; injection e' with e'; rw [e']
    | inr y => exact nomatch (show V.int i = V.str y from e)
  | inr x => cases b with
    | inl j => exact nomatch (show V.str x = V.int j from e)
    | inr y => have e' : V.str x = V.str y := e; injection e' with e'; rw [e']
theorem kVs_inj : ∀ {a b : List Key}, a.map kV = b.map kV → a = b
  | [], [], _ => rfl
  | [], _ :: _, e => by simp at e
  | _ :: _, [], e => by simp at e
  | x :: xs, y :: ys, e => by
    rw [List.map_cons, List.map_cons] at e
    injection e with e1 e2
    rw [kV_inj e1, kVs_inj e2]
theorem items_are {P : Program} {w : World} : ∀ {ks : List Key} {us : List Value}, Vals (ks.map kV) us → ItemsAre (mixKind P w) ks us
  | [], _, r => by rw [List.map_nil] at r; cases r; exact .nil
  | k :: ks, _, r => by
    rw [List.map_cons] at r
    cases r with
    | cons h t => exact .cons (kV_is h) (items_are t)

/-- raw entries of a dict with tuple keys -/
abbrev KT (H : Hp) : List (List Key × V) → List (List Key × Addr × Value) → Prop := Paired fun p q => p.1 = q.1 ∧ H q.2.1 = some (.tup (p.1.map kV)) ∧ RelV p.2 q.2.2
theorem KT.val {H : Hp} {kvs : List (List Key × V)} {xs : List (List Key × Addr × Value)} (r : KT H kvs xs) (k : List Key) : RelO (valV kvs k) ((atKey xs k).map (·.2)) := by
  induction r with
  | nil => exact True.intro
  | @cons p q ps qs h t ih =>
    obtain ⟨h1, _, h2⟩ := h
    by_cases e : p.1 = k
    · have e' : q.1 = k := h1.symm.trans e
      have b : atKey (q :: qs) k = some q.2 := by simp [atKey, List.find?_cons, e']
      rw [valV_pos e, b]; exact h2
    · have e' : ¬ q.1 = k := fun z => e (h1.trans z)
      have b : atKey (q :: qs) k = atKey qs k := by simp [atKey, List.find?_cons, e']
      rw [valV_neg e, b]; exact ih
theorem KT.repl {H : Hp} {kvs : List (List Key × V)} {xs : List (List Key × Addr × Value)} (r : KT H kvs xs) (k : List Key) {y : V} {u : Value} (ry : RelV y u) :
    KT H (kvs.map fun kv => if kv.1 = k then (kv.1, y) else kv) (xs.map (putAt k u)) := by
  induction r with
  | nil => exact .nil
  | @cons p q ps qs h t ih =>
    rw [List.map_cons, List.map_cons]
    refine .cons ?_ ih
    obtain ⟨h1, h2, h3⟩ := h
    unfold putAt
    by_cases e : p.1 = k
    · rw [if_pos e, if_pos (h1.symm.trans e)]; exact ⟨h1, h2, ry⟩
    · rw [if_neg e, if_neg (fun z => e (h1.trans z))]; exact ⟨h1, h2, h3⟩
theorem KT.put {H : Hp} {kvs : List (List Key × V)} {xs : List (List Key × Addr × Value)} (r : KT H kvs xs) (k : List Key) {b : Addr} {y : V} {u : Value} (hb : H b = some (.tup (k.map kV))) (ry : RelV y u) :
    KT H (putK kvs k y) (storedH xs k b u) := by
  have e : (kvs.any fun kv => decide (kv.1 = k)) = (atKey xs k).isSome := by
    rw [valV_any, (r.val k).isSome_eq, Option.isSome_map]
  unfold putK storedH
  rw [e]
  by_cases q : (atKey xs k).isSome = true
  · rw [if_pos q, if_pos q]; exact r.repl k ry
  · rw [if_neg q, if_neg q]; exact Paired.snoc r ⟨rfl, hb, ry⟩
theorem KT.keeps {H H' : Hp} {kvs : List (List Key × V)} {xs : List (List Key × Addr × Value)} (r : KT H kvs xs) (ht : ∀ b ys, H b = some (.tup ys) → H' b = some (.tup ys)) : KT H' kvs xs :=
  Paired.mapP r fun _ _ z => ⟨z.1, ht _ _ z.2.1, z.2.2⟩

section
variable {P : Program} {w : World} {H : Hp} {h : Heap} {a : Addr}
theorem rd_of {u : HO} (ok : HOk P w H h) (e : Rd H a u) : ObjOk P w H h a u := e.ok ok
theorem dk_rd {kvs : List (Key × V)} (ok : HOk P w H h) (e : Rd H a (.dK kvs)) : kvs.length ≤ sizeLine ∧ (a == sysModules) = false ∧ ∃ vs, KV kvs vs ∧ h.DictOf (mixKind P w) a vs :=
  show ObjOk P w H h a (.dK kvs) from rd_of ok e
theorem dk_of {kvs : List (Key × V)} (ok : HOk P w H h) (e : H a = some (.dK kvs)) : kvs.length ≤ sizeLine ∧ (a == sysModules) = false ∧ ∃ vs, KV kvs vs ∧ h.DictOf (mixKind P w) a vs := dk_rd ok (.inl e)
/-- a tracked tuple of ints and texts is a key -/
theorem key_of {ks : List Key} (ok : HOk P w H h) (e : H a = some (.tup (ks.map kV))) : (tupleKind (mixKind P w)).is h ks a := by
  obtain ⟨_, its, r, o, h1, h2, n, h3⟩ := (show ObjOk P w H h a (.tup (ks.map kV)) from ok a _ e)
  exact ⟨o, its.toArray, n, h1, h2, h3, by simpa using items_are r⟩
theorem dt_rd {kvs : List (List Key × V)} (ok : HOk P w H h) (e : Rd H a (.dT kvs)) : kvs.length ≤ sizeLine ∧ (a == sysModules) = false ∧
    ∃ xs, KT H kvs xs ∧ h.DictOfH (tupleKind (mixKind P w)) a xs := by
  obtain ⟨z, y, xs, r, o, es, ep, h1, h2, h3, h4, h5⟩ := (show ObjOk P w H h a (.dT kvs) from rd_of ok e)
  refine ⟨z, y, xs, r, o, es, ep, h1, h2, h3, h4, fun x hx => ?_, h5⟩
  have all : ∀ {l : List (List Key × V)} {m : List (List Key × Addr × Value)}, KT H l m → ∀ x ∈ m, (tupleKind (mixKind P w)).is h x.1 x.2.1 := by
    intro l m q
    induction q with
    | nil => intro x hx; exact nomatch hx
    | @cons p q ps qs hq t ih =>
      intro x hx
      rcases List.mem_cons.mp hx with e | hx
      · subst e
        exact key_of ok (by rw [← hq.1]; exact hq.2.1)
      · exact ih x hx
  exact all r x hx
theorem dt_of {kvs : List (List Key × V)} (ok : HOk P w H h) (e : H a = some (.dT kvs)) : kvs.length ≤ sizeLine ∧ (a == sysModules) = false ∧
    ∃ xs, KT H kvs xs ∧ h.DictOfH (tupleKind (mixKind P w)) a xs := dt_rd ok (.inl e)
end

/-- what the dict at a holds at the key y -/
def DGet (H : Hp) (a : Addr) (y : V) (r : Option V) : Prop :=
  (∃ kvs k, Rd H a (.dK kvs) ∧ y = kV k ∧ r = valV kvs k) ∨ ∃ kvs k b, Rd H a (.dT kvs) ∧ y = .ref b ∧ H b = some (.tup (k.map kV)) ∧ r = valV kvs k
/-- the heap behind a[y] = v -/
def DPut (H : Hp) (a : Addr) (y v : V) (H' : Hp) : Prop :=
  (∃ kvs k, H a = some (.dK kvs) ∧ y = kV k ∧ kvs.length < sizeLine ∧ H' = upd H a (.dK (putK kvs k v))) ∨
  ∃ kvs k b, H a = some (.dT kvs) ∧ y = .ref b ∧ H b = some (.tup (k.map kV)) ∧ kvs.length < sizeLine ∧ H' = upd H a (.dT (putK kvs k v))
theorem DGet.k {H : Hp} {a : Addr} {kvs : List (Key × V)} {k : Key} (e : H a = some (.dK kvs)) : DGet H a (kV k) (valV kvs k) := .inl ⟨kvs, k, .inl e, rfl, rfl⟩
theorem DGet.t {H : Hp} {a b : Addr} {kvs : List (List Key × V)} {k : List Key} (e : H a = some (.dT kvs)) (eb : H b = some (.tup (k.map kV))) : DGet H a (.ref b) (valV kvs k) := .inr ⟨kvs, k, b, .inl e, rfl, eb, rfl⟩
theorem DPut.k {H : Hp} {a : Addr} {kvs : List (Key × V)} {k : Key} {v : V} (e : H a = some (.dK kvs)) (hl : kvs.length < sizeLine) : DPut H a (kV k) v (upd H a (.dK (putK kvs k v))) := .inl ⟨kvs, k, e, rfl, hl, rfl⟩
theorem DPut.t {H : Hp} {a b : Addr} {kvs : List (List Key × V)} {k : List Key} {v : V} (e : H a = some (.dT kvs)) (eb : H b = some (.tup (k.map kV))) (hl : kvs.length < sizeLine) :
    DPut H a (.ref b) v (upd H a (.dT (putK kvs k v))) := .inr ⟨kvs, k, b, e, rfl, eb, hl, rfl⟩


section
variable {X : Cx} {pins : List (Addr × Obj)} {σ : St} {H : Hp} {s : Shared} {a : Addr} {y v : V} {u r : Value} {o : Option V} {A : Around} {E : Value → Shared → Prop}

theorem Inv.big (I : Inv X pins σ H s) : sysModules < s.heap.objs.size := by
  have h : mainGlobals < s.heap.objs.size := (I.mod.glob.keeps I.bk).lt
  exact Nat.lt_trans (by decide) h

/-- d[y], there -/
theorem d_getItem {Q : Value → Shared → Prop} (hu : A.units + 1 < cLine) (I : Inv X pins σ H s) (g : DGet H a y (some v)) (ry : RelV y u) (h : ∀ w' s', Inv X pins σ H s' → RelV v w' → Q w' s') :
    wpAny (model X.prog X.w) A (getItem (.ref a) u) Q E s := by
  rcases g with ⟨kvs, k, e, ey, l⟩ | ⟨kvs, k, b, e, ey, eb, l⟩
  · subst ey
    obtain ⟨z, hd, vs, rel, dd⟩ := dk_rd I.hok e
    obtain ⟨w', hw, rw'⟩ := RelO.some_of (v := v) (o := valueAt vs k) (by rw [l]; exact rel.val k)
    exact wpAny_getItem_of (kV_is ry) dd.mapOf hw (h w' _ (I.tok _) rw')
  · subst ey
    cases (show u = Value.ref b from ry)
    obtain ⟨z, hd, xs, rel, dd⟩ := dt_rd I.hok e
    obtain ⟨w', hw, rw'⟩ := RelO.some_of (v := v) (o := (atKey xs k).map (·.2)) (by rw [l]; exact rel.val k)
    obtain ⟨p, hp, hp2⟩ := Option.map_eq_some_iff.mp hw
    refine wpAny_getItem_heap (tupleKind_room_in1 hu) (key_of I.hok eb) dd hp ?_
    rw [hp2]
    exact h w' _ (I.tok _) rw'
/-- y in d -/
theorem d_in {Q : Value → Shared → Prop} (hu : A.units + 1 < cLine) (I : Inv X pins σ H s) (g : DGet H a y o) (ry : RelV y u) (h : ∀ s', Inv X pins σ H s' → Q (.bool o.isSome) s') :
    wpAny (model X.prog X.w) A (compareOp .In u (.ref a)) Q E s := by
  rcases g with ⟨kvs, k, e, ey, l⟩ | ⟨kvs, k, b, e, ey, eb, l⟩
  · subst ey
    obtain ⟨z, hd, vs, rel, dd⟩ := dk_rd I.hok e
    refine wpAny_in_of (kV_is ry) hd dd.mapOf ?_
    rw [← (rel.val k).isSome_eq, ← l]
    exact h _ (I.tok _)
  · subst ey
    cases (show u = Value.ref b from ry)
    obtain ⟨z, hd, xs, rel, dd⟩ := dt_rd I.hok e
    refine wpAny_in_heap (tupleKind_room_in1 hu) (key_of I.hok eb) hd dd ?_
    have q := (rel.val k).isSome_eq
    rw [Option.isSome_map] at q
    rw [← q, ← l]
    exact h _ (I.tok _)
theorem d_notIn {Q : Value → Shared → Prop} (hu : A.units + 1 < cLine) (I : Inv X pins σ H s) (g : DGet H a y o) (ry : RelV y u) (h : ∀ s', Inv X pins σ H s' → Q (.bool (!o.isSome)) s') :
    wpAny (model X.prog X.w) A (compareOp .NotIn u (.ref a)) Q E s := by
  rcases g with ⟨kvs, k, e, ey, l⟩ | ⟨kvs, k, b, e, ey, eb, l⟩
  · subst ey
    obtain ⟨z, hd, vs, rel, dd⟩ := dk_rd I.hok e
    refine wpAny_notIn_of (kV_is ry) hd dd.mapOf ?_
    rw [← (rel.val k).isSome_eq, ← l]
    exact h _ (I.tok _)
  · subst ey
    cases (show u = Value.ref b from ry)
    obtain ⟨z, hd, xs, rel, dd⟩ := dt_rd I.hok e
    refine wpAny_notIn_heap (tupleKind_room_in1 hu) (key_of I.hok eb) hd dd ?_
    have q := (rel.val k).isSome_eq
    rw [Option.isSome_map] at q
    rw [← q, ← l]
    exact h _ (I.tok _)
/-- a dict's object is replaced -/
theorem d_write {h' : Heap} {t' : Nat} {ob : HO} (I : Inv X pins σ H s) (mu : Mut (H a)) (hs : Heap.SameBut a s.heap h') (he : ∃ q, h'.get? a = some q) (new : ObjOk X.prog X.w (upd H a ob) h' a ob) :
    Inv X pins σ (upd H a ob) { s with heap := h', toks := t' } :=
  I.write (x := a) (e := a) mu (.inl rfl) (fun b q hb z => (hs.2 b hb).trans z) he new
theorem dk_new {P : Program} {w : World} {H' : Hp} {h' : Heap} {kvs : List (Key × V)} {vs : List (Key × Value)} (z : kvs.length ≤ sizeLine) (hd : (a == sysModules) = false) (rel : KV kvs vs) (dd : h'.DictOf (mixKind P w) a vs) :
    ObjOk P w H' h' a (.dK kvs) := ⟨z, hd, vs, rel, dd⟩
/-- d[y] = v -/
theorem d_setItem {H' : Hp} {Q : Unit → Shared → Prop} (hu : A.units + 1 < cLine) (I : Inv X pins σ H s) (g : DPut H a y v H') (ry : RelV y u) (rv : RelV v r) (h : ∀ s', Inv X pins σ H' s' → Q () s') :
    wpAny (model X.prog X.w) A (setItem (.ref a) u r) Q E s := by
  rcases g with ⟨kvs, k, e, ey, l, eH⟩ | ⟨kvs, k, b, e, ey, eb, l, eH⟩
  · subst ey eH
    obtain ⟨z, hd, vs, rel, dd⟩ := dk_of I.hok e
    have hz : vs.length ≤ sizeLine := by rw [← rel.length]; exact z
    have hl : (putK kvs k v).length ≤ sizeLine := by have := length_putK kvs k v; omega
    refine wpAny_setItem_pairs (hsz := hz) (kV_is ry) dd fun h' dd' hs => h _ ?_
    have he : ∃ q, h'.get? a = some q := let ⟨q, _, _, hq, _⟩ := dd'; ⟨q, hq⟩
    exact d_write I (by rw [e]; exact True.intro) hs he (dk_new hl hd (rel.put k rv) dd')
  · subst ey eH
    cases (show u = Value.ref b from ry)
    obtain ⟨z, hd, xs, rel, dd⟩ := dt_of I.hok e
    have hz : xs.length ≤ sizeLine := by rw [← Paired.length rel]; exact z
    have hl : (putK kvs k v).length ≤ sizeLine := by have := length_putK kvs k v; omega
    refine wpAny_setItem_heap (hsz := hz) (tupleKind_room_in1 hu) (key_of I.hok eb) dd fun h' dd' hs => h _ ?_
    obtain ⟨q, es, ep, hq, h2, h3, h4, _, h5⟩ := dd'
    refine d_write I (by rw [e]; exact True.intro) hs ⟨q, hq⟩ ⟨hl, hd, _, (rel.put k eb rv).keeps fun c ys ec => ?_, q, es, ep, hq, h2, h3, h4, h5⟩
    rw [upd_ne (ne_of ec e (fun z => nomatch z))]
    exact ec
end

section
variable {X : Cx} {pins : List (Addr × Obj)} {σ : St} {H : Hp} {s : Shared} {a : Addr} {kvs : List (Key × V)} {k : Key} {u : Value} {A : Around} {E : Value → Shared → Prop}
/-- del d[k] -/
theorem d_delItem {Q : Unit → Shared → Prop} (I : Inv X pins σ H s) (e : H a = some (.dK kvs)) (ry : RelV (kV k) u) (l : (valV kvs k).isSome = true) (h : ∀ s', Inv X pins σ (upd H a (.dK (dropK kvs k))) s' → Q () s') :
    wpAny (model X.prog X.w) A (delItem (.ref a) u) Q E s := by
  obtain ⟨z, hd, vs, rel, dd⟩ := dk_of I.hok e
  refine wpAny_delItem_slot dd.typeIs (by decide) PySem.F.slot_dict_delitem
    (call_meetsIn PySem.F.slot_dict_delitem dd.typeIs PySem.F.entry_dict_delitem (PySem.F.args_dict_delitem_2 _ _) (meets_dict_delitem_pairs (mixKind X.prog X.w) a (kV_is ry)) ⟨vs, dd, by rw [← rel.length]; exact z, by rw [← (rel.val k).isSome_eq]; exact l, fun h' dd' hs => h _ ?_⟩)
  have he : ∃ q, h'.get? a = some q := let ⟨q, _, _, hq, _⟩ := dd'; ⟨q, hq⟩
  exact d_write I (by rw [e]; exact True.intro) hs he (dk_new (Nat.le_trans (dropK_le kvs k) z) hd (rel.drop k) dd')
/-- d.pop(k[, x]), there -/
theorem d_pop {v : V} {more : List Value} {Q : Value → Shared → Prop} (I : Inv X pins σ H s) (e : H a = some (.dK kvs)) (ry : RelV (kV k) u) (l : valV kvs k = some v) (hm : more = [] ∨ ∃ x, more = [x])
    (h : ∀ w' s', Inv X pins σ (upd H a (.dK (dropK kvs k))) s' → RelV v w' → Q w' s') : wpAny (model X.prog X.w) A (call (.builtin "dict.pop") (.ref a :: u :: more)) Q E s := by
  obtain ⟨z, hd, vs, rel, dd⟩ := dk_of I.hok e
  obtain ⟨w', hw, rw'⟩ := RelO.some_of (v := v) (o := valueAt vs k) (by rw [← l]; exact rel.val k)
  have hp : (keyPart u).isSome = true := by
    cases k with
    | inl i => obtain ⟨t, q⟩ := (show ∃ t, u = Value.int i t from ry); subst q; rfl
    | inr x => obtain ⟨t, q⟩ := (show ∃ t, u = Value.str x t from ry); subst q; rfl
  have ha : argsOk "dict.pop" ⟨.ref a :: u :: more, []⟩ := by
    rcases hm with q | ⟨x, q⟩
    · subst q; exact PySem.F.args_dict_pop_2 _ _
    · subst q; exact PySem.F.args_dict_pop_3 _ _ _
  refine call_meetsIn PySem.F.slot_dict_pop dd.typeIs PySem.F.entry_dict_pop ha (meets_dict_pop_there (mixKind X.prog X.w) a (kV_is ry) more hm hp)
    ⟨vs, w', dd, by rw [← rel.length]; exact z, hw, fun h' dd' hs => h w' _ ?_ rw'⟩
  have he : ∃ q, h'.get? a = some q := let ⟨q, _, _, hq, _⟩ := dd'; ⟨q, hq⟩
  exact d_write I (by rw [e]; exact True.intro) hs he (dk_new (Nat.le_trans (dropK_le kvs k) z) hd (rel.drop k) dd')
/-- d.pop(k, x), not there -/
theorem d_popD {r : Value} {Q : Value → Shared → Prop} (I : Inv X pins σ H s) (e : H a = some (.dK kvs)) (ry : RelV (kV k) u) (l : valV kvs k = none) (h : ∀ s', Inv X pins σ H s' → Q r s') :
    wpAny (model X.prog X.w) A (call (.builtin "dict.pop") [.ref a, u, r]) Q E s := by
  obtain ⟨z, hd, vs, rel, dd⟩ := dk_of I.hok e
  have hn : valueAt vs k = none := RelO.none_of (by rw [← l]; exact rel.val k)
  have hp : (keyPart u).isSome = true := by
    cases k with
    | inl i => obtain ⟨t, q⟩ := (show ∃ t, u = Value.int i t from ry); subst q; rfl
    | inr x => obtain ⟨t, q⟩ := (show ∃ t, u = Value.str x t from ry); subst q; rfl
  exact call_meetsIn PySem.F.slot_dict_pop dd.typeIs PySem.F.entry_dict_pop (PySem.F.args_dict_pop_3 _ _ _) (meets_dict_pop_default (mixKind X.prog X.w) a (kV_is ry) hd hp r) ⟨vs, dd, hn, h _ (I.tok _)⟩
/-- d.clear() -/
theorem d_clear {Q : Value → Shared → Prop} (I : Inv X pins σ H s) (e : H a = some (.dK kvs)) (h : ∀ s', Inv X pins σ (upd H a (.dK [])) s' → Q .none s') : wpAny (model X.prog X.w) A (call (.builtin "dict.clear") [.ref a]) Q E s := by
  obtain ⟨z, hd, vs, rel, dd⟩ := dk_of I.hok e
  refine call_meetsIn PySem.F.slot_dict_clear dd.typeIs PySem.F.entry_dict_clear (PySem.F.args_dict_clear_1 _) (meets_dict_clear (mixKind X.prog X.w) a) ⟨vs, dd, by rw [← rel.length]; exact z, fun h' dd' hs => h _ ?_⟩
  have he : ∃ q, h'.get? a = some q := let ⟨q, _, _, hq, _⟩ := dd'; ⟨q, hq⟩
  exact d_write (t' := s.toks) I (by rw [e]; exact True.intro) hs he (dk_new (Nat.zero_le _) hd .nil dd')
/-- len(d) -/
theorem d_len {Q : Value → Shared → Prop} (I : Inv X pins σ H s) (e : Rd H a (.dK kvs)) (h : ∀ t s', Inv X pins σ H s' → Q (.int kvs.length t) s') : wpAny (model X.prog X.w) A (call (.builtin "len") [.ref a]) Q E s := by
  obtain ⟨z, hd, vs, rel, dd⟩ := dk_rd I.hok e
  refine call_len_dict hd dd (by rw [← rel.length]; rw [sizeLine_eq] at z; omega) ?_
  rw [← rel.length]
  exact h _ _ (I.tok _)
/-- if d -/
theorem d_truth {Q : Bool → Shared → Prop} (I : Inv X pins σ H s) (e : Rd H a (.dK kvs)) (h : ∀ s', Inv X pins σ H s' → Q (!kvs.isEmpty) s') : wpAny (model X.prog X.w) A (truthy (.ref a)) Q E s := by
  obtain ⟨z, hd, vs, rel, dd⟩ := dk_rd I.hok e
  refine wpAny_truthy_dict hd dd (by rw [← rel.length]; rw [sizeLine_eq] at z; omega) ?_
  have q : kvs.isEmpty = vs.isEmpty := by cases rel <;> rfl
  rw [← q]
  exact h _ (I.tok _)
end


/-! ### readings and rules -/
/-- the element of a subscription, not a slice -/
def NoSl (i : Expr) : Prop := ∀ ov iv, subscripted i false ov iv = operate [ov, iv] (getItem ov iv)
theorem subD_of {prog : Program} {w : World} {A : Around} {E : Value → Shared → Prop} {s : Shared} {env : Env} {value slice : Expr} {pos : Pos} {T id : String} {Q : Value → Shared → Prop}
    (hl : typeLookup (.type T) "__getitem__" = pure (some (.builtin id))) (hs : NoSl slice)
    (h : wpAny (model prog w) A (eval value env) (fun o s₁ => wpAny (model prog w) A (eval slice env) (fun i s₂ => s₂.TypeIs o T ∧ wpAny (model prog w) A (getItem o i) Q E s₂) E s₁) E s) :
    wpAny (model prog w) A (eval (.Subscript value slice pos) env) Q E s := by
  refine Subscript_ (wpAny_mono h (fun o s₁ h₁ => wpAny_mono h₁ (fun i s₂ h₂ => ?_) fun _ _ x => x) fun _ _ x => x)
  obtain ⟨hT, h₂⟩ := h₂
  unfold subscriptTail
  refine wpAny_bind ?_
  rw [getitemInPython_of_ne hT.not_modules]
  refine wpAny_bind (wpAny_specialOf hT hl ?_)
  have fin : wpAny (model prog w) A (subscripted slice false o i) (fun r s₃ => wpAny (model prog w) A (letTemporaryGo value o r >>= fun _ => pure r) Q E s₃) E s₂ := by
    rw [hs o i]
    exact wpAny_operating (wpAny_mono h₂ (fun r s₃ h₃ => wpAny_bind (wpAny_letTemporaryGo (wpAny_pure h₃))) fun _ _ x => x)
  first
    | exact wpAny_pure (wpAny_bind fin)
    | exact wpAny_bind (wpAny_pure (wpAny_bind fin))
    | exact wpAny_bind fin

theorem dict_typeIs {X : Cx} {pins : List (Addr × Obj)} {σ : St} {H : Hp} {s : Shared} {a : Addr} {y : V} {o : Option V} (I : Inv X pins σ H s) (g : DGet H a y o) : s.TypeIs (.ref a) "dict" := by
  rcases g with ⟨kvs, k, e, _, _⟩ | ⟨kvs, k, b, e, _, _, _⟩
  · obtain ⟨_, _, vs, _, dd⟩ := dk_rd I.hok e
    exact dd.typeIs
  · obtain ⟨_, _, xs, _, dd⟩ := dt_rd I.hok e
    exact dd.typeIs
theorem dict_noDict {X : Cx} {pins : List (Addr × Obj)} {σ : St} {H : Hp} {s : Shared} {a : Addr} {y : V} {o : Option V} (I : Inv X pins σ H s) (g : DGet H a y o) :
    ∀ b, Value.ref a = .ref b → ∃ ob, s.heap.get? b = some ob ∧ ob.dict = none := fun b q => by
  cases q
  rcases g with ⟨kvs, k, e, _, _⟩ | ⟨kvs, k, b, e, _, _, _⟩
  · obtain ⟨_, _, vs, _, ob, _, _, h1, h2, _⟩ := dk_rd I.hok e
    exact ⟨ob, h1, h2.2.1⟩
  · obtain ⟨_, _, xs, _, ob, _, _, h1, h2, _⟩ := dt_rd I.hok e
    exact ⟨ob, h1, h2.2.1⟩

/-- d[y] -/
def tDGet (td ty : TE) : TE := fun σ H Q => td σ H fun x H1 => ty σ H1 fun y H2 => ∃ a v, x = .ref a ∧ DGet H2 a y (some v) ∧ Q v H2
/-- y in d, y not in d -/
def tDIn (ty td : TE) : TE := fun σ H Q => ty σ H fun y H1 => td σ H1 fun x H2 => ∃ a o, x = .ref a ∧ DGet H2 a y o ∧ Q (.bl o.isSome) H2
def tDNotIn (ty td : TE) : TE := fun σ H Q => ty σ H fun y H1 => td σ H1 fun x H2 => ∃ a o, x = .ref a ∧ DGet H2 a y o ∧ Q (.bl (!o.isSome)) H2
/-- d[y] = v -/
def sDPut (td ty tv : TE) : TS := fun D σ H => tv σ H fun v H1 => td σ H1 fun x H2 => ty σ H2 fun y H3 => ∃ a H4, x = .ref a ∧ DPut H3 a y v H4 ∧ D.nx σ H4
/-- d[y] op= v -/
def sDAug (td ty tv : TE) (rd : V → V → Hp → VK → Prop) : TS := fun D σ H => td σ H fun x H1 => ty σ H1 fun y H2 => ∃ a v, x = .ref a ∧ DGet H2 a y (some v) ∧
  tv σ H2 fun y2 H3 => rd v y2 H3 fun z H4 => ∃ H5, DPut H4 a y z H5 ∧ D.nx σ H5
/-- del d[y] -/
def sDDel (td ty : TE) : TS := fun D σ H => td σ H fun x H1 => ty σ H1 fun y H2 => ∃ a kvs k, x = .ref a ∧ H2 a = some (.dK kvs) ∧ y = kV k ∧ (valV kvs k).isSome = true ∧ D.nx σ (upd H2 a (.dK (dropK kvs k)))

section
variable {X : Cx} {o i e value : Expr} {pos pos' tpos : Pos} {td ty tv : TE}
theorem pe_dget (hu : X.A.units + 1 < cLine) (ho : PE X o td) (hi : PE X i ty) (hs : NoSl i) : PE X (.Subscript o i pos) (tDGet td ty) := by
  intro pins s σ H Q I h
  refine subD_of PySem.F.slot_dict_getitem.lookup hs (thn (ho pins s σ H _ I h) fun u s1 ⟨x, H1, I1, rx, q1⟩ => thn (hi pins s1 σ H1 _ I1 q1) fun iv s2 ⟨y, H2, I2, ry, a, v, ex, g, q2⟩ => ?_)
  subst ex
  obtain rfl : u = Value.ref a := rx
  exact ⟨dict_typeIs I2 g, d_getItem hu I2 g ry fun w' s3 I3 rw' => ⟨v, H2, I3, rw', q2⟩⟩
theorem pc_din (hu : X.A.units + 1 < cLine) (hi : PE X i ty) (ho : PE X o td) : PC X .In i o (tDIn ty td) := by
  intro pins s σ H Q I h
  refine thn (hi pins s σ H _ I h) fun iv s1 ⟨y, H1, I1, ry, q1⟩ => thn (ho pins s1 σ H1 _ I1 q1) fun u s2 ⟨x, H2, I2, rx, a, ov, ex, g, q2⟩ => ?_
  subst ex
  obtain rfl : u = Value.ref a := rx
  exact d_in hu I2 g ry fun s3 I3 => ⟨.bl ov.isSome, H2, I3, rfl, q2⟩
theorem pc_dnotin (hu : X.A.units + 1 < cLine) (hi : PE X i ty) (ho : PE X o td) : PC X .NotIn i o (tDNotIn ty td) := by
  intro pins s σ H Q I h
  refine thn (hi pins s σ H _ I h) fun iv s1 ⟨y, H1, I1, ry, q1⟩ => thn (ho pins s1 σ H1 _ I1 q1) fun u s2 ⟨x, H2, I2, rx, a, ov, ex, g, q2⟩ => ?_
  subst ex
  obtain rfl : u = Value.ref a := rx
  exact d_notIn hu I2 g ry fun s3 I3 => ⟨.bl (!ov.isSome), H2, I3, rfl, q2⟩
theorem ps_dput (hu : X.A.units + 1 < cLine) (ho : PE X o td) (hi : PE X i ty) (hv : PE X value tv) (hs : swapsWith value (some (.Subscript o i pos')) pos.line X.env = pure false) :
    PS X (.Assign [.Subscript o i pos'] value pos) (sDPut td ty tv) := by
  intro pins s σ H D I h
  refine wpAny_Assign_Subscript (thn (hv pins s σ H _ I h) fun r s1 ⟨v, H1, I1, rv, q1⟩ => thn (ho pins s1 σ H1 _ I1 q1) fun u s2 ⟨x, H2, I2, rx, q2⟩ => thn (hi pins s2 σ H2 _ I2 q2) fun iv s3 ⟨y, H3, I3, ry, a, H4, ex, g, q3⟩ => ?_) hs
  subst ex
  obtain rfl : u = Value.ref a := rx
  exact d_setItem hu I3 g ry rv fun s4 I4 => ⟨σ, H4, I4, q3⟩
theorem ps_daug {op : Operator} {rd : V → V → Hp → VK → Prop} (hu : X.A.units + 1 < cLine) (ho : PE X o td) (hi : PE X i ty) (hv : PE X value tv) (hop : InOp X op rd)
    (ha : ∀ ov iv new, augStore i ov iv new = (do holding [new, ov, iv] (setItem ov iv new); release [new, ov, iv] []; pure .next)) : PS X (.AugAssign (.Subscript o i tpos) op value pos) (sDAug td ty tv rd) := by
  intro pins s σ H D I h
  refine wpAny_AugAssign_SubscriptAny (thn (ho pins s σ H _ I h) fun u s1 ⟨x, H1, I1, rx, q1⟩ => thn (hi pins s1 σ H1 _ I1 q1) fun iv s2 ⟨y, H2, I2, ry, a, v, ex, g, q2⟩ => ?_) ha
  subst ex
  obtain rfl : u = Value.ref a := rx
  refine d_getItem hu I2 g ry fun w' s3 I3 rw' => thn (hv pins s3 σ H2 _ I3 q2) fun w2 s4 ⟨y2, H3, I4, ry2, q3⟩ => thn (hop pins s4 σ H3 v y2 w' w2 _ I4 rw' ry2 q3) fun w3 s5 ⟨z, H4, I5, rz, H5, g5, q4⟩ => ?_
  exact d_setItem hu I5 g5 ry rz fun s6 I6 => ⟨σ, H5, I6, q4⟩
theorem ps_ddel (ho : PE X o td) (hi : PE X i ty) : PS X (.Delete [.Subscript o i tpos] pos) (sDDel td ty) := by
  intro pins s σ H D I h
  refine wpAny_Delete (wpAny_deleteEach_cons (wpAny_delete_Subscript (thn (ho pins s σ H _ I h) fun u s1 ⟨x, H1, I1, rx, q1⟩ => thn (hi pins s1 σ H1 _ I1 q1) fun iv s2 ⟨y, H2, I2, ry, a, kvs, k, ex, e, ey, l, q2⟩ => ?_)))
  subst ex ey
  obtain rfl : u = Value.ref a := rx
  exact d_delItem I2 e ry l fun s3 I3 => wpAny_deleteEach_nil ⟨σ, _, I3, q2⟩
end


/-! ### displays -/
theorem dk_empty {P : Program} {w : World} {H : Hp} (h : Heap) (hb : sysModules < h.objs.size) : ObjOk P w H (h.push { cls := .type "dict", data := .dict #[] }) h.objs.size (.dK []) :=
  ⟨Nat.zero_le _, beq_eq_false_iff_ne.mpr (Ne.symm (Nat.ne_of_lt hb)), [], .nil, Heap.DictOf.new h⟩
theorem dt_empty {P : Program} {w : World} {H : Hp} (h : Heap) (hb : sysModules < h.objs.size) : ObjOk P w H (h.push { cls := .type "dict", data := .dict #[] }) h.objs.size (.dT []) :=
  ⟨Nat.zero_le _, beq_eq_false_iff_ne.mpr (Ne.symm (Nat.ne_of_lt hb)), [], .nil, _, #[], 0, Heap.get?_push_size _ rfl, ⟨rfl, rfl, rfl⟩, rfl, rfl, List.nodup_nil⟩
/-- {}, to be a dict of the kind that is wanted -/
def tDNewK : TE := fun _ H Q => ∀ p, H p = none → Q (.ref p) (upd H p (.dK []))
def tDNewT : TE := fun _ H Q => ∀ p, H p = none → Q (.ref p) (upd H p (.dT []))
section
variable {X : Cx} {pos : Pos}
theorem pe_dnewK : PE X (.Dict [] [] pos) tDNewK := fun pins s σ H Q I h =>
  wpAny_Dict_empty ⟨.ref s.heap.objs.size, _, I.laid (a := s.heap.objs.size) (o := .dK []) (t' := s.toks) (fun _ _ q => Heap.get?_push_of_some _ q) (Nat.le_refl _) (dk_empty s.heap I.big), rfl, h _ (I.hok.fresh (Nat.le_refl _))⟩
theorem pe_dnewT : PE X (.Dict [] [] pos) tDNewT := fun pins s σ H Q I h =>
  wpAny_Dict_empty ⟨.ref s.heap.objs.size, _, I.laid (a := s.heap.objs.size) (o := .dT []) (t' := s.toks) (fun _ _ q => Heap.get?_push_of_some _ q) (Nat.le_refl _) (dt_empty s.heap I.big), rfl, h _ (I.hok.fresh (Nat.le_refl _))⟩
end

/-- the pairs of a display, from the left -/
def tPairs : List (TE × TE) → St → Hp → (List (V × V) → Hp → Prop) → Prop
  | [], _, H, Q => Q [] H
  | (tk, tv) :: r, σ, H, Q => tk σ H fun x H1 => tv σ H1 fun y H2 => tPairs r σ H2 fun ps H3 => Q ((x, y) :: ps) H3
abbrev VV : List (V × V) → List (Value × Value) → Prop := Paired fun p q => RelV p.1 q.1 ∧ RelV p.2 q.2
def PPs (X : Cx) (pos : Pos) (keys : List (Option Expr)) (values : List Expr) (trs : List (TE × TE)) : Prop :=
  ∀ (pins : List (Addr × Obj)) (s : Shared) (σ : St) (H : Hp) (Q : List (V × V) → Hp → Prop), Inv X pins σ H s → tPairs trs σ H Q →
    wpAny (model X.prog X.w) X.A (evalPairs (pairTrees keys values X.env pos)) (fun vs s' => ∃ ps H', Inv X pins σ H' s' ∧ VV ps vs ∧ Q ps H') X.xe s
theorem pps_nil {X : Cx} {pos : Pos} : PPs X pos [] [] [] := fun pins s σ H Q I h => pairTrees_nil_walk ⟨[], H, I, .nil, h⟩
theorem pps_cons {X : Cx} {pos : Pos} {k v : Expr} {ks : List (Option Expr)} {vs : List Expr} {tk tv : TE} {trs : List (TE × TE)} (hk : PE X k tk) (hv : PE X v tv) (hr : PPs X pos ks vs trs) :
    PPs X pos (some k :: ks) (v :: vs) ((tk, tv) :: trs) := fun pins s σ H Q I h =>
  pairTrees_cons_walk (thn (hk pins s σ H _ I h) fun u s1 ⟨x, H1, I1, rx, q1⟩ => thn (hv pins s1 σ H1 _ I1 q1) fun w2 s2 ⟨y, H2, I2, ry, q2⟩ =>
    thn (hr pins s2 σ H2 _ I2 q2) fun ws s3 ⟨ps, H3, I3, rel, q3⟩ => ⟨(x, y) :: ps, H3, I3, .cons ⟨rx, ry⟩ rel, q3⟩)

def mergeK (kvs more : List (Key × V)) : List (Key × V) := more.foldl (fun acc kv => putK acc kv.1 kv.2) kvs
theorem KV.merge : ∀ {more : List (Key × V)} {rs : List (Key × Value)} {kvs : List (Key × V)} {vs : List (Key × Value)}, KV more rs → KV kvs vs → KV (mergeK kvs more) (merged vs rs) := by
  intro more rs kvs vs r
  unfold KV at r
  induction r generalizing kvs vs with
  | nil => intro q; exact q
  | @cons p q ps qs h t ih =>
    intro r0
    have e : KV (putK kvs p.1 p.2) (stored vs q.1 q.2) := by
      have := r0.put p.1 h.2
      rw [← h.1]; exact this
    exact ih e
theorem length_mergeK : ∀ (more kvs : List (Key × V)), (mergeK kvs more).length ≤ kvs.length + more.length
  | [], kvs => by show kvs.length ≤ kvs.length + 0; omega
  | p :: r, kvs => by
    have h1 := length_mergeK r (putK kvs p.1 p.2)
    have h2 := length_putK kvs p.1 p.2
    show (mergeK (putK kvs p.1 p.2) r).length ≤ _
    rw [List.length_cons]; omega
theorem carries_of {P : Program} {w : World} : ∀ {kvs : List (Key × V)} {ws : List (Value × Value)}, VV (kvs.map fun kv => (kV kv.1, kv.2)) ws → ∃ rs, Carries (mixKind P w) ws rs ∧ KV kvs rs
  | [], _, r => by rw [List.map_nil] at r; cases r; exact ⟨[], True.intro, .nil⟩
  | p :: kvs, _, r => by
    rw [List.map_cons] at r
    cases r with
    | @cons a b as bs h t =>
      obtain ⟨rs, c, q⟩ := carries_of (P := P) (w := w) t
      obtain ⟨b1, b2⟩ := b
      exact ⟨(p.1, b2) :: rs, ⟨kV_is h.1, rfl, c⟩, .cons ⟨rfl, h.2⟩ q⟩
/-- {k: v, ..} with keys ints and texts; the new dict stands empty while the pairs are made -/
def tDisp (trs : List (TE × TE)) : TE := fun σ H Q => ∀ p, H p = none → tPairs trs σ (upd H p (.dK [])) fun ps H2 => H2 p = some (.dK []) ∧ ∃ kvs : List (Key × V), ps = kvs.map (fun kv => (kV kv.1, kv.2)) ∧ kvs.length ≤ 15 ∧ Q (.ref p) (upd H2 p (.dK (mergeK [] kvs)))
theorem pe_disp {X : Cx} {pos : Pos} {keys : List (Option Expr)} {values : List Expr} {trs : List (TE × TE)} (h : PPs X pos keys values trs) (hall : keys.all (·.isSome) = true) (hl : keys.length = values.length) (h0 : keys ≠ [])
    (h15 : keys.length ≤ 15) : PE X (.Dict keys values pos) (tDisp trs) := by
  intro pins s σ H Q I q
  have hn := I.hok.fresh (Nat.le_refl s.heap.objs.size)
  have I1 := I.laid (a := s.heap.objs.size) (o := .dK []) (h' := s.heap.push { cls := .type "dict", data := .dict #[] }) (t' := s.toks) (fun _ _ q => Heap.get?_push_of_some _ q) (Nat.le_refl _) (dk_empty s.heap I.big)
  refine wpAny_Dict_walk (knd := mixKind X.prog X.w) hall hl h0 h15 (thn (h pins _ σ _ _ I1 (q _ hn)) fun ws s2 ⟨ps, H2, I2, rel, e, kvs, ep, lk, q2⟩ => ?_)
  subst ep
  obtain ⟨rs, c, rk⟩ := carries_of (P := X.prog) (w := X.w) rel
  obtain ⟨z, hd, vs0, r0, dd⟩ := dk_of I2.hok e
  cases r0
  refine ⟨rs, c, dd, fun h' dd' hs => ⟨.ref s.heap.objs.size, _, ?_, rfl, q2⟩⟩
  have hz : (mergeK [] kvs).length ≤ sizeLine := by
    have h1 := length_mergeK kvs []
    rw [List.length_nil] at h1
    rw [sizeLine_eq]; omega
  have he : ∃ q, h'.get? s.heap.objs.size = some q := let ⟨q, _, _, hq, _⟩ := dd'; ⟨q, hq⟩
  exact d_write I2 (by rw [e]; exact True.intro) hs he (dk_new hz hd (rk.merge .nil) dd')


/-! ### methods -/
/-- a method call o.m(e) of a built-in, with one argument: what must be seen of the text -/
structure M1 (X : Cx) (o : Expr) (m : Str) (apos : Pos) (e : Expr) (cpos : Pos) : Prop where
  base : attributeBase o m X.env (eval o X.env) = eval o X.env
  few : ((backTo cpos (starEach [e] X.env)).all (fun x => !x.1) && (backToKw cpos (keywordEach [] X.env)).all (fun x => x.1.isSome)
    && decide (([e] : List Expr).length + ([] : List Keyword).length + (if ([] : List Keyword).isEmpty then 0 else 1) < 30)) = true
  line : (apos.endLine == cpos.line) = true
  trees : backTo cpos (starEach [e] X.env) = [(false, eval e X.env)]
structure M2 (X : Cx) (o : Expr) (m : Str) (apos : Pos) (e f : Expr) (cpos : Pos) : Prop where
  base : attributeBase o m X.env (eval o X.env) = eval o X.env
  few : ((backTo cpos (starEach [e, f] X.env)).all (fun x => !x.1) && (backToKw cpos (keywordEach [] X.env)).all (fun x => x.1.isSome)
    && decide (([e, f] : List Expr).length + ([] : List Keyword).length + (if ([] : List Keyword).isEmpty then 0 else 1) < 30)) = true
  line : (apos.endLine == cpos.line) = true
  trees : backTo cpos (starEach [e, f] X.env) = [(false, eval e X.env), (false, eval f X.env)]

/-- a is a dict, whatever its keys -/
def IsD (H : Hp) (a : Addr) : Prop := (∃ kvs, Rd H a (.dK kvs)) ∨ ∃ kvs, Rd H a (.dT kvs)
theorem isD_at {X : Cx} {pins : List (Addr × Obj)} {σ : St} {H : Hp} {s : Shared} {a : Addr} (I : Inv X pins σ H s) (d : IsD H a) :
    s.TypeIs (.ref a) "dict" ∧ (∀ b, Value.ref a = .ref b → ∃ ob, s.heap.get? b = some ob ∧ ob.dict = none) ∧ (a == sysModules) = false := by
  rcases d with ⟨kvs, e⟩ | ⟨kvs, e⟩
  · obtain ⟨_, hd, vs, _, dd⟩ := dk_rd I.hok e
    refine ⟨dd.typeIs, fun b q => ?_, hd⟩
    cases q
    obtain ⟨ob, _, _, h1, h2, _⟩ := dd
    exact ⟨ob, h1, h2.2.1⟩
  · obtain ⟨_, hd, xs, _, dd⟩ := dt_rd I.hok e
    refine ⟨dd.typeIs, fun b q => ?_, hd⟩
    cases q
    obtain ⟨ob, _, _, h1, h2, _⟩ := dd
    exact ⟨ob, h1, h2.2.1⟩

section
variable {X : Cx} {pins : List (Addr × Obj)} {σ : St} {H : Hp} {s : Shared} {a : Addr} {y d : V} {u r : Value} {o : Option V} {A : Around} {E : Value → Shared → Prop}
/-- d.get(y) -/
theorem d_get1 {Q : Value → Shared → Prop} (hu : A.units + 1 < cLine) (I : Inv X pins σ H s) (g : DGet H a y o) (ry : RelV y u) (h : ∀ w' s', Inv X pins σ H s' → RelV (o.getD .non) w' → Q w' s') :
    wpAny (model X.prog X.w) A (call (.builtin "dict.get") [.ref a, u]) Q E s := by
  rcases g with ⟨kvs, k, e, ey, l⟩ | ⟨kvs, k, b, e, ey, eb, l⟩
  · subst ey
    obtain ⟨z, hd, vs, rel, dd⟩ := dk_rd I.hok e
    refine call_meetsIn PySem.F.slot_dict_get dd.typeIs PySem.F.entry_dict_get (PySem.F.args_dict_get_2 _ _) (meets_dict_get (mixKind X.prog X.w) a (kV_is ry) hd) ⟨_, dd.mapOf, h _ _ (I.tok _) ?_⟩
    rw [l]
    exact (rel.val k).getD rfl
  · subst ey
    cases (show u = Value.ref b from ry)
    obtain ⟨z, hd, xs, rel, dd⟩ := dt_rd I.hok e
    refine call_meetsIn PySem.F.slot_dict_get dd.typeIs PySem.F.entry_dict_get (PySem.F.args_dict_get_2 _ _) (meetsH_dict_get (tupleKind (mixKind X.prog X.w)) a b hd) ⟨tupleKind_room_in1 hu, k, xs, key_of I.hok eb, dd, h _ _ (I.tok _) ?_⟩
    rw [l]
    exact (rel.val k).getD rfl
/-- d.get(y, x) -/
theorem d_get2 {Q : Value → Shared → Prop} (hu : A.units + 1 < cLine) (I : Inv X pins σ H s) (g : DGet H a y o) (ry : RelV y u) (rd : RelV d r) (h : ∀ w' s', Inv X pins σ H s' → RelV (o.getD d) w' → Q w' s') :
    wpAny (model X.prog X.w) A (call (.builtin "dict.get") [.ref a, u, r]) Q E s := by
  rcases g with ⟨kvs, k, e, ey, l⟩ | ⟨kvs, k, b, e, ey, eb, l⟩
  · subst ey
    obtain ⟨z, hd, vs, rel, dd⟩ := dk_rd I.hok e
    refine call_meetsIn PySem.F.slot_dict_get dd.typeIs PySem.F.entry_dict_get (PySem.F.args_dict_get_3 _ _ _) (meets_dict_get_default (mixKind X.prog X.w) a (kV_is ry) hd r) ⟨_, dd.mapOf, h _ _ (I.tok _) ?_⟩
    rw [l]
    exact (rel.val k).getD rd
  · subst ey
    cases (show u = Value.ref b from ry)
    obtain ⟨z, hd, xs, rel, dd⟩ := dt_rd I.hok e
    refine call_meetsIn PySem.F.slot_dict_get dd.typeIs PySem.F.entry_dict_get (PySem.F.args_dict_get_3 _ _ _) (meetsH_dict_get_default (tupleKind (mixKind X.prog X.w)) a b hd r) ⟨tupleKind_room_in1 hu, k, xs, key_of I.hok eb, dd, h _ _ (I.tok _) ?_⟩
    rw [l]
    exact (rel.val k).getD rd
end

def tDGet1 (td ty : TE) : TE := fun σ H Q => td σ H fun x H1 => ∃ a, x = .ref a ∧ IsD H1 a ∧ ty σ H1 fun y H2 => ∃ o, DGet H2 a y o ∧ Q (o.getD .non) H2
def tDGet2 (td ty tx : TE) : TE := fun σ H Q => td σ H fun x H1 => ∃ a, x = .ref a ∧ IsD H1 a ∧ ty σ H1 fun y H2 => tx σ H2 fun z H3 => ∃ o, DGet H3 a y o ∧ Q (o.getD z) H3
/-- d.pop(k): there; d.pop(k, x): there or not -/
def tDPop1 (td ty : TE) : TE := fun σ H Q => td σ H fun x H1 => ∃ a, x = .ref a ∧ IsD H1 a ∧ ty σ H1 fun y H2 => ∃ kvs k v, H2 a = some (.dK kvs) ∧ y = kV k ∧ valV kvs k = some v ∧ Q v (upd H2 a (.dK (dropK kvs k)))
def tDPop2 (td ty tx : TE) : TE := fun σ H Q => td σ H fun x H1 => ∃ a, x = .ref a ∧ IsD H1 a ∧ ty σ H1 fun y H2 => tx σ H2 fun z H3 => ∃ kvs k, H3 a = some (.dK kvs) ∧ y = kV k ∧
  (∀ v, valV kvs k = some v → Q v (upd H3 a (.dK (dropK kvs k)))) ∧ (valV kvs k = none → Q z H3)
section
variable {X : Cx} {o e f : Expr} {apos cpos : Pos} {td ty tx : TE}
theorem pe_dget1 (hu : X.A.units + 1 < cLine) (ho : PE X o td) (he : PE X e ty) (m : M1 X o "get" apos e cpos) : PE X (.Call (.Attribute o "get" apos) [e] [] cpos) (tDGet1 td ty) := by
  intro pins s σ H Q I h
  refine wpAny_Call_method m.base m.few m.line PySem.F.plainAttrs_dict PySem.F.slot_dict_get PySem.F.type_dict_get (thn (ho pins s σ H _ I h) fun u s1 ⟨x, H1, I1, rx, a, ex, d, q1⟩ => ?_)
  subst ex
  obtain rfl : u = Value.ref a := rx
  obtain ⟨t1, t2, _⟩ := isD_at I1 d
  refine ⟨t1, t2, ?_⟩
  rw [m.trees]
  refine Calls.callWith_builtin rfl (Calls.evalArgs_plain (Calls.spliced_cons (thn (he pins s1 σ H1 _ I1 q1) fun iv s2 ⟨y, H2, I2, ry, ov, g, q2⟩ => Calls.spliced_nil ?_)))
  exact d_get1 hu I2 g ry fun w' s3 I3 rw' => ⟨_, H2, I3, rw', q2⟩
theorem pe_dget2 (hu : X.A.units + 1 < cLine) (ho : PE X o td) (he : PE X e ty) (hf : PE X f tx) (m : M2 X o "get" apos e f cpos) : PE X (.Call (.Attribute o "get" apos) [e, f] [] cpos) (tDGet2 td ty tx) := by
  intro pins s σ H Q I h
  refine wpAny_Call_method m.base m.few m.line PySem.F.plainAttrs_dict PySem.F.slot_dict_get PySem.F.type_dict_get (thn (ho pins s σ H _ I h) fun u s1 ⟨x, H1, I1, rx, a, ex, d, q1⟩ => ?_)
  subst ex
  obtain rfl : u = Value.ref a := rx
  obtain ⟨t1, t2, _⟩ := isD_at I1 d
  refine ⟨t1, t2, ?_⟩
  rw [m.trees]
  refine Calls.callWith_builtin rfl (Calls.evalArgs_plain (Calls.spliced_cons (thn (he pins s1 σ H1 _ I1 q1) fun iv s2 ⟨y, H2, I2, ry, q2⟩ =>
    Calls.spliced_cons (thn (hf pins s2 σ H2 _ I2 q2) fun fv s3 ⟨z, H3, I3, rz, ov, g, q3⟩ => Calls.spliced_nil ?_))))
  exact d_get2 hu I3 g ry rz fun w' s4 I4 rw' => ⟨_, H3, I4, rw', q3⟩
theorem pe_dpop1 (ho : PE X o td) (he : PE X e ty) (m : M1 X o "pop" apos e cpos) : PE X (.Call (.Attribute o "pop" apos) [e] [] cpos) (tDPop1 td ty) := by
  intro pins s σ H Q I h
  refine wpAny_Call_method m.base m.few m.line PySem.F.plainAttrs_dict PySem.F.slot_dict_pop PySem.F.type_dict_pop (thn (ho pins s σ H _ I h) fun u s1 ⟨x, H1, I1, rx, a, ex, d, q1⟩ => ?_)
  subst ex
  obtain rfl : u = Value.ref a := rx
  obtain ⟨t1, t2, _⟩ := isD_at I1 d
  refine ⟨t1, t2, ?_⟩
  rw [m.trees]
  refine Calls.callWith_builtin rfl (Calls.evalArgs_plain (Calls.spliced_cons (thn (he pins s1 σ H1 _ I1 q1) fun iv s2 ⟨y, H2, I2, ry, kvs, k, v, ea, ey, l, q2⟩ => Calls.spliced_nil ?_)))
  subst ey
  exact d_pop I2 ea ry l (.inl rfl) fun w' s3 I3 rw' => ⟨v, _, I3, rw', q2⟩
theorem pe_dpop2 (ho : PE X o td) (he : PE X e ty) (hf : PE X f tx) (m : M2 X o "pop" apos e f cpos) : PE X (.Call (.Attribute o "pop" apos) [e, f] [] cpos) (tDPop2 td ty tx) := by
  intro pins s σ H Q I h
  refine wpAny_Call_method m.base m.few m.line PySem.F.plainAttrs_dict PySem.F.slot_dict_pop PySem.F.type_dict_pop (thn (ho pins s σ H _ I h) fun u s1 ⟨x, H1, I1, rx, a, ex, d, q1⟩ => ?_)
  subst ex
  obtain rfl : u = Value.ref a := rx
  obtain ⟨t1, t2, _⟩ := isD_at I1 d
  refine ⟨t1, t2, ?_⟩
  rw [m.trees]
  refine Calls.callWith_builtin rfl (Calls.evalArgs_plain (Calls.spliced_cons (thn (he pins s1 σ H1 _ I1 q1) fun iv s2 ⟨y, H2, I2, ry, q2⟩ =>
    Calls.spliced_cons (thn (hf pins s2 σ H2 _ I2 q2) fun fv s3 ⟨z, H3, I3, rz, kvs, k, ea, ey, q3, q4⟩ => Calls.spliced_nil ?_))))
  subst ey
  cases l : valV kvs k with
  | some v => exact d_pop I3 ea ry l (.inr ⟨fv, rfl⟩) fun w' s4 I4 rw' => ⟨v, _, I4, rw', q3 v l⟩
  | none => exact d_popD I3 ea ry l fun s4 I4 => ⟨z, H3, I4, rz, q4 l⟩
end

/-! ### dict(d): a copy -/
section
variable {X : Cx} {pins : List (Addr × Obj)} {σ : St} {H : Hp} {s : Shared} {a : Addr} {kvs : List (Key × V)} {A : Around} {E : Value → Shared → Prop}
theorem d_copyOf {Q : Value → Shared → Prop} (I : Inv X pins σ H s) (e : Rd H a (.dK kvs)) (h : ∀ p s', H p = none → Inv X pins σ (upd H p (.dK kvs)) s' → Q (.ref p) s') : wpAny (model X.prog X.w) A (call (.type "dict") [.ref a]) Q E s := by
  obtain ⟨z, hd, vs, rel, dd⟩ := dk_rd I.hok e
  refine kt_call_dict hd dd (by rw [← rel.length]; exact z) fun h' dd' hs => ?_
  refine h _ _ (I.hok.fresh (Nat.le_refl _)) (I.laid (a := s.heap.objs.size) (o := .dK kvs) (t' := s.toks) (fun b q hq => ?_) (Nat.le_refl _) (dk_new z (beq_eq_false_iff_ne.mpr (Ne.symm (Nat.ne_of_lt I.big))) rel dd'))
  exact (hs.2 b (Nat.ne_of_lt (Heap.lt_size hq))).trans (Heap.get?_push_of_some _ hq)
end


section
variable {X : Cx} {pins : List (Addr × Obj)} {σ : St} {H : Hp} {s : Shared} {a : Addr} {y : V} {u : Value} {A : Around} {E : Value → Shared → Prop}
/-- d[y], not there: a KeyError -/
theorem d_missing {Q : Value → Shared → Prop} (hu : A.units + 1 < cLine) (hh : A.handled = none) (I : Inv X pins σ H s) (g : DGet H a y none) (ry : RelV y u)
    (h : ∀ h' e t', Heap.NewExc s.heap h' e "KeyError" → E (.ref e) { s with heap := h', toks := t' }) : wpAny (model X.prog X.w) A (getItem (.ref a) u) Q E s := by
  rcases g with ⟨kvs, k, e, ey, l⟩ | ⟨kvs, k, b, e, ey, eb, l⟩
  · subst ey
    obtain ⟨z, hd, vs, rel, dd⟩ := dk_rd I.hok e
    have hn : valueAt vs k = none := RelO.none_of (by rw [l]; exact rel.val k)
    exact wpAny_getItem_missing_of (kV_is ry) hd hh dd.mapOf hn fun h' ex ne => h h' ex _ ne
  · subst ey
    cases (show u = Value.ref b from ry)
    obtain ⟨z, hd, xs, rel, dd⟩ := dt_rd I.hok e
    have hn : (atKey xs k).map (·.2) = none := RelO.none_of (by rw [l]; exact rel.val k)
    exact wpAny_getItem_missing_heap (tupleKind_room_in1 hu) (key_of I.hok eb) hd hh dd (Option.map_eq_none_iff.mp hn) fun h' ex ne => h h' ex _ ne
end
end L2

set_option Elab.async false
set_option linter.all false
set_option maxRecDepth 100000
set_option maxHeartbeats 4000000
namespace L2
open PySem PySem.Spec PyProof.Rows

section
variable {X : Cx}
theorem op_is_bl : OpR X (compareOp .Is) (fun x y H Q => ∃ i j, x = .bl i ∧ y = .bl j ∧ Q (.bl (i == j)) H) := by
  intro pins s σ H x y v u Q I rx ry h
  obtain ⟨i, j, rfl, rfl, q⟩ := h
  cases rx
  cases ry
  exact is_bool (fin_bl I q rfl)
theorem op_isnot_bl : OpR X (compareOp .IsNot) (fun x y H Q => ∃ i j, x = .bl i ∧ y = .bl j ∧ Q (.bl (i != j)) H) := by
  intro pins s σ H x y v u Q I rx ry h
  obtain ⟨i, j, rfl, rfl, q⟩ := h
  cases rx
  cases ry
  exact isnot_bool (fin_bl I q rfl)
theorem op_le_str : OpR X (compareOp .LtE) (fun x y H Q => ∃ i j, x = .str i ∧ y = .str j ∧ Q (.bl (!decide (j.cps.toList < i.cps.toList))) H) := by
  intro pins s σ H x y v u Q I rx ry h
  obtain ⟨i, j, rfl, rfl, q⟩ := h
  obtain ⟨t, rfl⟩ := rx
  obtain ⟨t', rfl⟩ := ry
  exact PySem.P.le_str (fin_bl I q rfl)

/-- x[lo:hi] of a text -/
def cutL {α : Type} (xs : List α) (lo hi : Option Int) : List α := (xs.drop (HT.sIx xs.length 0 lo)).take (HT.sIx xs.length xs.length hi - HT.sIx xs.length 0 lo)
def rSlS : V → Option Int → Option Int → Hp → VK → Prop := fun x lo hi H Q => ∃ z, x = .str z ∧ z.length ≤ sizeLine ∧ Q (.str ⟨(cutL z.cps.toList lo hi).toArray⟩) H
theorem strIdx (lo hi : Option Int) (n : Nat) : Builtin.Str.strSliceIndices lo hi 1 n = (List.range (HT.sIx n n hi - HT.sIx n 0 lo)).map fun k => HT.sIx n 0 lo + k := by
  have e1 : Builtin.Str.strSliceIndices lo hi 1 n = sliceRange ((HT.sIx n 0 lo : Nat) : Int) ((HT.sIx n n hi : Nat) : Int) 1 := by
    unfold Builtin.Str.strSliceIndices
    dsimp only
    congr 1
    · cases lo with
      | none => simp [HT.sIx]
      | some i => simp only [HT.sIx, show (1 : Int) > 0 by decide, if_true]; split <;> omega
    · cases hi with
      | none => simp [HT.sIx]
      | some i => simp only [HT.sIx, show (1 : Int) > 0 by decide, if_true]; split <;> omega
  rw [e1]
  exact sliceRange_one _ _
theorem pickS {α : Type} (xs : List α) (a : Nat) : ∀ k, a + k ≤ xs.length → ((List.range k).map fun j => a + j).filterMap (xs[·]?) = (xs.drop a).take k
  | 0, _ => by simp
  | k + 1, h => by
    rw [List.range_succ, List.map_append, List.filterMap_append, pickS xs a k (by omega)]
    have hk : a + k < xs.length := by omega
    rw [List.take_succ]
    congr 1
    simp [List.getElem?_drop, hk]
theorem sl_str : SlR X rSlS := by
  intro pins s σ H x v vl vu lo hi sl Q I rx hs pl pu h
  obtain ⟨z, rfl, hz, q⟩ := h
  obtain ⟨t, rfl⟩ := rx
  refine ⟨"str", _, PyProof.Rows.slot_str_getitem.lookup, typeIs_str s z t, ?_⟩
  have hl : z.cps.toList.length = z.length := by simp [Str.length]
  have fin : ∀ (l u : Option (Int × Tok)), vl = partValue l → vu = partValue u → l.map (·.1) = lo → u.map (·.1) = hi → wpAny (model X.prog X.w) X.A (getItem (.str z t) (.ref sl)) (EP X pins σ Q) X.xe s := by
    intro l u e1 e2 e3 e4
    subst e1 e2
    refine wpAny_getItem_str_slice (l := l) (u := u) (st := none) hs rfl ?_
    have hp : slicePicked z l u none = (List.range (HT.sIx z.length z.length hi - HT.sIx z.length 0 lo)).map fun k => HT.sIx z.length 0 lo + k := by
      unfold slicePicked
      rw [e3, e4]
      exact strIdx lo hi z.length
    have hb1 : HT.sIx z.length z.length hi ≤ z.length := HT.sIx_le _ _ (Nat.le_refl _) _
    have hb2 : HT.sIx z.length 0 lo ≤ z.length := HT.sIx_le _ _ (Nat.zero_le _) _
    unfold sliceMade
    split
    · rename_i c
      simp only [Bool.and_eq_true, beq_iff_eq] at c
      obtain ⟨_, c⟩ := c
      rw [hp, List.length_map, List.length_range] at c
      have e : (⟨(cutL z.cps.toList lo hi).toArray⟩ : Str) = z := by
        unfold cutL
        rw [hl]
        have z1 : HT.sIx z.length 0 lo = 0 := by omega
        have z2 : HT.sIx z.length z.length hi = z.length := by omega
        rw [z1, z2, List.drop_zero, Nat.sub_zero, List.take_of_length_le (by omega)]
      rw [e] at q
      exact ⟨.str z, H, I, ⟨_, rfl⟩, q⟩
    · have e : (⟨(cutL z.cps.toList lo hi).toArray⟩ : Str) = ⟨((slicePicked z l u none).filterMap (z.cps[·]?)).toArray⟩ := by
        rw [hp]
        unfold cutL
        rw [hl]
        by_cases hc : HT.sIx z.length 0 lo ≤ HT.sIx z.length z.length hi
        · rw [← pickS z.cps.toList _ _ (by omega)]
          simp only [Array.getElem?_toList]
        · rw [show HT.sIx z.length z.length hi - HT.sIx z.length 0 lo = 0 by omega]
          simp
      rw [e] at q
      refine ⟨?_, .str _, H, I.tok _, ⟨_, rfl⟩, q⟩
      rw [← e]
      show (cutL z.cps.toList lo hi).toArray.size ≤ sizeLine
      rw [List.size_toArray]
      unfold cutL
      rw [List.length_take, List.length_drop, hl]
      omega
  cases pl with
  | none => cases pu with
    | none => exact fin none none rfl rfl rfl rfl
    | int j t' => exact fin none (some (j, t')) rfl rfl rfl rfl
  | int i t' => cases pu with
    | none => exact fin (some (i, t')) none rfl rfl rfl rfl
    | int j t'' => exact fin (some (i, t')) (some (j, t'')) rfl rfl rfl rfl

/-- isinstance(x, T), T a built-in type -/
theorem call_isinst : CallR X (.builtin "isinstance") (fun xs H Q => ∃ x T t b, xs = [x, .ty T] ∧ TyOf X.K H x t ∧ PySem.W.kitOne X.K t (.type T) = some b ∧ Q (.bl b) H) := by
  intro pins s σ H xs us Q I r h
  obtain ⟨x, T, t, b, rfl, ty, e, q⟩ := h
  obtain ⟨u, w', rfl, rx, rt⟩ := vals2 r
  cases rt
  exact isinst_ok I rx ty e fun tk => ⟨.bl b, H, I.tok tk, rfl, q⟩

theorem range_all_bl (bs : List Bool) : ((List.range bs.length).all fun i => (bs[i]?).getD true) = bs.all id := by
  have e : (List.range bs.length).map (fun i => (bs[i]?).getD true) = bs := by
    apply List.ext_getElem (by simp)
    intro i h1 h2
    simp [h2]
  have f : ((List.range bs.length).map fun i => (bs[i]?).getD true).all id = bs.all id := by rw [e]
  rw [← f, List.all_map]
  rfl
/-- all, any of a list of bools -/
theorem call_all_bl (hc : X.calm = true) : CallR X (.builtin "all") (fun xs H Q => ∃ (p : Addr) (bs : List Bool), xs = [.ref p] ∧ SqL X.K H p (bs.map V.bl) ∧ Q (.bl (bs.all id)) H) := by
  intro pins s σ H xs us Q I r h
  obtain ⟨p, bs, rfl, hq, q⟩ := h
  obtain ⟨u, rfl, rx⟩ := vals1 r
  cases rx
  obtain ⟨its, r', pl, hz⟩ := I.list hq
  have hl := r'.length
  rw [List.length_map] at hl
  have hlt : p < s.heap.objs.size := by obtain ⟨_, e, _⟩ := pl.isList; exact Heap.lt_size e
  refine call_all_walk (wpAny_pyIter_list pl.isList ?_)
  refine ⟨s.heap.objs.size, [s.heap.objs.size, p], [s.heap.objs.size], its.toArray.size, _, _, fun i => (bs[i]?).getD true, rfl, Walks.list (A := X.A.in1) (I.ok.hd hc) _ p (Nat.ne_of_lt hlt) its.toArray,
    ⟨⟨_, Heap.get?_push_size _ rfl, rfl, rfl⟩, pl.isList.push _⟩, fun i v s' Q' E' hP hQ => ?_, fun h' tk hk => ?_⟩
  · have hP' : its[i]? = some v := by simpa using hP
    have hi : i < bs.length := by
      have := (List.getElem?_eq_some_iff.mp hP').1
      omega
    obtain ⟨u, e, ru⟩ := r'.get (i := i) (x := .bl bs[i]) (by simp [hi])
    rw [hP'] at e
    cases e
    cases ru
    simp only [List.getElem?_eq_getElem hi, Option.getD_some] at hQ
    exact wpAny_truthy_bool hQ
  · have e : ((List.range its.toArray.size).all fun i => (bs[i]?).getD true) = bs.all id := by
      rw [List.size_toArray, ← hl]; exact range_all_bl bs
    rw [e]
    exact ⟨.bl _, H, I.kept fun b x e => hk b x (fun hm => by rw [List.mem_singleton.mp hm] at e; exact Nat.lt_irrefl _ (Heap.lt_size e)) (Heap.get?_push_of_some _ e), rfl, q⟩

/-- list(x), tuple(x) of a text -/
def signsV (x : Str) : List V := x.cps.toList.map fun c => V.str ⟨#[c]⟩
theorem signs_vals {x : Str} {acc : Array Value} (h : ItemsOf (SignAt x) acc x.cps.size) : Vals (signsV x) acc.toList := by
  obtain ⟨hs, ha⟩ := h
  have key : ∀ (cs : List Nat) (us : List Value), us.length = cs.length → (∀ (j : Nat) (v : Value), us[j]? = some v → ∃ c u, cs[j]? = some c ∧ v = .str ⟨#[c]⟩ u) → Vals (cs.map fun c => V.str ⟨#[c]⟩) us := by
    intro cs
    induction cs with
    | nil => intro us hl _; cases us with | nil => exact .nil | cons _ _ => simp at hl
    | cons c cs ih =>
      intro us hl hp
      cases us with
      | nil => simp at hl
      | cons u us =>
        refine .cons ?_ (ih us (by simpa using hl) fun j v e => hp (j + 1) v (by simpa using e))
        obtain ⟨c', t, e1, e2⟩ := hp 0 u rfl
        simp at e1
        subst e1
        exact ⟨t, e2⟩
  refine key _ _ (by simp [hs]) fun j v e => ?_
  obtain ⟨c, u, e1, e2⟩ := ha j v (by simpa using e)
  exact ⟨c, u, by simpa using e1, e2⟩
theorem call_list_s (hc : X.calm = true) : CallR X (.type "list") (fun xs H Q => ∃ z, xs = [.str z] ∧ z.length ≤ sizeLine ∧ ∀ l, H l = none → Q (.ref l) (upd H l (.lst (signsV z)))) := by
  intro pins s σ H xs us Q I r h
  obtain ⟨z, rfl, hz, q⟩ := h
  obtain ⟨u, rfl, t, rfl⟩ := vals1 r
  refine PySem.call_list_str (I.ok.hd hc) z t (fun h' tk acc c kp e hi => ?_) (by simpa [Str.length] using hz)
  refine ⟨.ref s.heap.objs.size, _, I.laid (t' := tk) kp (Nat.le_refl _) (show ObjOk X.prog X.w _ h' _ (.lst (signsV z)) from ⟨by simpa [signsV, Str.length] using hz, acc.toList, c, signs_vals hi, by simpa using e⟩), rfl, q _ (I.hok.fresh (Nat.le_refl _))⟩
theorem call_tuple_s (hc : X.calm = true) : CallR X (.type "tuple") (fun xs H Q => ∃ z, xs = [.str z] ∧ z.length ≤ sizeLine ∧ ∀ l, H l = none → Q (.ref l) (upd H l (.tup (signsV z)))) := by
  intro pins s σ H xs us Q I r h
  obtain ⟨z, rfl, hz, q⟩ := h
  obtain ⟨u, rfl, t, rfl⟩ := vals1 r
  refine PySem.call_tuple_str (I.ok.hd hc) z t (fun h' tk acc kp hi => ?_) (by simpa [Str.length] using hz)
  have I1 : Inv X pins σ H { s with heap := h', toks := tk } := I.kept kp
  have I2 : Inv X pins σ (upd H h'.objs.size (.tup (signsV z))) { s with heap := h'.push { cls := .type "tuple", data := .seq acc }, toks := tk } :=
    I1.laid (t' := tk) (fun b o e => Heap.get?_push_of_some _ e) (Nat.le_refl _) (show ObjOk X.prog X.w _ _ _ (.tup (signsV z)) from ⟨by simpa [signsV, Str.length] using hz, acc.toList, signs_vals hi, by simpa using IsTup.new h' acc⟩)
  exact ⟨.ref h'.objs.size, _, I2, rfl, q _ (I1.hok.fresh (Nat.le_refl _))⟩
end

/-! ### a loop over a text -/
def Its (x : Str) : It := ⟨fun i _ => i < x.cps.size, fun i H v H' => H' = H ∧ ∃ c, x.cps.toList[i]? = some c ∧ v = .str ⟨#[c]⟩, fun i _ => i = x.cps.size⟩
theorem turn_str {P : Program} {w : World} {K : PySem.W.Frag} {tg : Expr} (it : Addr) (x : Str) (t : Tok) (ty : String)
    (hty : ["enumerate", "zip", "dict_itemiterator", "dict_reverseitemiterator", "odict_iterator", "itertools.zip_longest", "itertools.pairwise"].contains ty = false)
    (W : ∀ A' : Around, A'.handled = none → Walks P w A' it [it] [it] x.cps.size (SignAt x) (fun i h => h.IsStrIter it ty x t i))
    (slf : ∀ (A : Around) (i : Nat) (s : Shared) (Q : Value → Shared → Prop) (E : Value → Shared → Prop), s.heap.IsStrIter it ty x t i → Q (.ref it) s → wpAny (model P w) A (pyIter (.ref it)) Q E s) :
    Turn P w K tg (Its x) [it] it (fun i h => h.IsStrIter it ty x t i) where
  mem := by simp
  obj := fun i h st b hb => by
    have e : b = it := by simpa using hb
    subst e
    obtain ⟨o, e, c, d⟩ := st
    exact ⟨o, e, fun v z => by rw [d] at z; cases z⟩
  keep := fun i h h' st k => by
    obtain ⟨o, e, c, d⟩ := st
    exact ⟨o, k it (by simp) o e, c, d⟩
  item := by
    intro X hP hw hK hc i pins s σ H E I hf st hg
    subst hP hw hK
    obtain ⟨f0, f1, f2, f3, f4, f5⟩ := hf it (by simp)
    refine (W X.A (I.ok.hd hc)).item i s _ _ hg st fun v h' tk hv st' kk => ?_
    obtain ⟨c, u, hx, rfl⟩ := hv
    have I1 : Inv X pins σ H { s with heap := h', toks := tk } := I.turned (fun b o hb e => kk b o (by simpa using hb) e) f0 f1 f3 f4 f5
    obtain ⟨o, e, oc, d⟩ := id st'
    exact ⟨_, rfl, go_of (s := { s with heap := h', toks := tk }) e oc d hty ⟨.str ⟨#[c]⟩, H, I1, ⟨_, rfl⟩, ⟨rfl, c, by simpa using hx, rfl⟩, st', fun b hb => (hf b hb).1⟩⟩
  done := by
    intro X hP hw hK hc i pins s σ H E I hf st hg
    subst hP hw hK
    obtain ⟨f0, f1, f2, f3, f4, f5⟩ := hf it (by simp)
    have hg' : i = x.cps.size := hg
    subst hg'
    exact (W X.A (I.ok.hd hc)).done s _ _ st fun h' tk eb => ⟨rfl, I.turned (fun b o hb e => eb b o (by simpa using hb) e) f0 f1 f3 f4 f5⟩
  self := slf
section
variable {X : Cx} {tg : Expr}
def iStr (tl : TE) : TI := fun σ H R => tl σ H fun x H1 => ∃ z, x = .str z ∧ R (Its z) H1
theorem pi_str {l : Expr} {tl : TE} (hl : PE X l tl) : PI X tg l (iStr tl) := by
  intro pins s σ H R I h
  refine thn (hl pins s σ H _ I h) fun v s1 ⟨x, H1, I1, r1, q1⟩ => ?_
  obtain ⟨z, e, q⟩ := q1
  subst e
  obtain ⟨t, rfl⟩ := r1
  have fp : ∀ b ∈ [s1.heap.objs.size], FpOk X pins H1 b := fun b hb => by
    have e : b = s1.heap.objs.size := by simpa using hb
    subst e
    exact I1.fpOk (Nat.le_refl _) (I1.hok.fresh (Nat.le_refl _))
  cases ha : z.cps.all (· < 128)
  · exact wpAny_pyIter_wide ha ⟨s1.heap.objs.size, [s1.heap.objs.size], _, _, H1, rfl, I1.kept (t' := s1.toks) fun b o e => Heap.get?_push_of_some _ e,
      turn_str _ z t "str_iterator" (by decide) (fun A' hA => Walks.strWide hA _ z t) (fun _ _ _ _ _ st h => wpAny_pyIter_striter_wide st h), ⟨_, Heap.get?_push_size _ rfl, rfl, rfl⟩, fp, q⟩
  · exact wpAny_pyIter_ascii ha ⟨s1.heap.objs.size, [s1.heap.objs.size], _, _, H1, rfl, I1.kept (t' := s1.toks) fun b o e => Heap.get?_push_of_some _ e,
      turn_str _ z t "str_ascii_iterator" (by decide) (fun A' hA => Walks.strAscii hA _ z t) (fun _ _ _ _ _ st h => wpAny_pyIter_striter_ascii st h), ⟨_, Heap.get?_push_size _ rfl, rfl, rfl⟩, fp, q⟩
end
theorem for_str {z : Str} {g : TG} {tb : TS} {D : Ends} {σ : St} {H : Hp} (Pv : Nat → St → Hp → Prop) (h0 : Pv 0 σ H)
    (hs : ∀ i c σ H, z.cps.toList[i]? = some c → Pv i σ H → g (.str ⟨#[c]⟩) σ H fun σ2 H2 => tb { D with nx := Pv (i + 1), ct := Pv (i + 1), bk := D.nx } σ2 H2) (hd : ∀ σ H, Pv z.cps.size σ H → D.nx σ H) :
    ∃ W : Nat → Nat → St → Hp → Prop, (∃ m, W 0 m σ H) ∧ ∀ i m σ H, W i m σ H →
      ((Its z).stop i H ∧ D.nx σ H) ∨ ((Its z).go i H ∧ ∃ N : St → Hp → Prop, (∀ σ' H', N σ' H' → ∃ m', m' < m ∧ W (i + 1) m' σ' H') ∧ ∀ x H', (Its z).yld i H x H' → g x σ H' fun σ2 H2 => tb { D with nx := N, ct := N, bk := D.nx } σ2 H2) := by
  refine ⟨fun i m σ H => m = z.cps.size - i ∧ i ≤ z.cps.size ∧ Pv i σ H, ⟨z.cps.size, by simp, Nat.zero_le _, h0⟩, ?_⟩
  rintro i m σ H ⟨rfl, hi, p⟩
  by_cases hlt : i < z.cps.size
  · refine .inr ⟨hlt, Pv (i + 1), fun σ' H' p' => ⟨z.cps.size - (i + 1), by omega, rfl, hlt, p'⟩, fun x H' y => ?_⟩
    obtain ⟨e, c, y, rfl⟩ := y
    subst e
    exact hs i c σ _ y p
  · have e : i = z.cps.size := by omega
    subst e
    exact .inl ⟨rfl, hd σ H p⟩
end L2

set_option Elab.async false
set_option linter.all false
set_option maxRecDepth 100000
set_option maxHeartbeats 4000000
namespace L2
open PySem PySem.Spec PyProof.Rows

/-- the context of a comprehension's block: its frame's dict at C, the iterator's records fp, entered at s, H; nothing raises in it -/
def cxC (X : Cx) (N : List Str) (scope : Scope) (cl : List (Str × Addr)) (C : Addr) (fp : List Addr) (s : Shared) (H : Hp) : Cx where
  prog := X.prog
  w := X.w
  K := X.K
  mg := X.mg
  base := X.base
  A := X.A
  N := N
  s₀ := s
  H₀ := H
  env := compEnvC scope cl C X.env
  outer := X.stack
  stack := X.stack
  ex := fp
  fn := fun _ => false
  calm := X.calm
  pn := []
  xe := fun _ _ => False
/-- what must be seen of a comprehension's scope: its targets ts, the names fr of the def that it reads, at the places ix -/
structure CSc (X : Cx) (scope : Scope) (cl : List (Str × Addr)) (ts fr : List Str) (ix : List Nat) : Prop where
  clos : closureFor scope X.env = pure cl
  kind : scope.kind = .function
  nocell : ∀ y ∈ scope.names, y.2 ≠ .cell
  names : ∀ y ∈ scope.names, y.2 = .local → scope.names.lookup y.1 = some .local
  sub : ∀ y c, cl.lookup y = some c → X.env.cells.lookup y = some c
  has : ∀ y, ((relabel scope X.env).names.lookup y = some .cell ∨ (relabel scope X.env).names.lookup y = some .free) → ∃ c, cl.lookup y = some c
  nofn : ∀ y ∈ ts, (relabel scope X.env).names.lookup y = some .local
  len : ix.length = fr.length
  vis : ∀ (j : Nat) (y : Str), fr[j]? = some y → ∃ i : Nat, ix[j]? = some i ∧ X.N[i]? = some y ∧ (X.env.kindOf y = some .cell ∨ X.env.kindOf y = some .free) ∧ ((relabel scope X.env).names.lookup y = some .cell ∨ (relabel scope X.env).names.lookup y = some .free)
def Ext (a b : St) : Prop := b.length = a.length ∧ ∀ (i : Nat) v, a[i]? = some (some v) → b[i]? = some (some v)
def compSt (nt : Nat) (ix : List Nat) (σ : St) : St := List.replicate nt none ++ ix.map fun i => (σ[i]?).join
def compW (J : It) (s0 : St) (g : TG) (te : TE) (Q : VK) (H1 : Hp) : Prop := ∃ W : Nat → Nat → List V → Hp → Prop, (∃ m, W 0 m [] H1) ∧ ∀ i m ys H, W i m ys H →
  (J.stop i H ∧ ∀ p, H p = none → Q (.ref p) (upd H p (.lst ys))) ∨
  (J.go i H ∧ ys.length < sizeLine ∧ ∀ x H', J.yld i H x H' → g x s0 H' fun σ2 H2 => Ext s0 σ2 ∧ te σ2 H2 fun y H3 => ∃ m', m' < m ∧ W (i + 1) m' (ys ++ [y]) H3)
def tComp (wi : TI) (s0 : St → St) (g : TG) (te : TE) : TE := fun σ H Q => wi σ H fun J H1 => compW J (s0 σ) g te Q H1

theorem compLoop1 {prog : Program} {w : World} {A : Around} {R : Result → Shared → Prop} {s : Shared} {elt target iter : Expr} {scope : Scope} {pos : Pos} {it acc : Value} {env : Env} (J : Nat → Shared → Prop)
    (step : ∀ m z, J m z → wpAny (model prog w) A (pyNext it) (fun got z1 => match got with
      | none => R (.ok .next) z1
      | some v => wpAny (model prog w) A (letOwnedTupleGo target it v) (fun _ z2 => wpAny (model prog w) A (assign target env v) (fun _ z3 => wpAny (model prog w) A (eval elt env) (fun x z4 =>
          wpAny (model prog w) A (call (.builtin "list.append") [acc, x]) (fun _ z5 => ∃ m', m' < m ∧ J m' z5) (fun _ _ => False) z4)
          (fun _ _ => False) z3) (fun _ _ => False) z2) (fun _ _ => False) z1) (fun _ _ => False) z)
    (m : Nat) (j0 : J m s) : codeAny (model prog w) A (.compLoop (.ListComp elt [⟨target, iter, [], 0⟩] scope pos) 0 it acc env) R s := by
  refine codeAny_loop rfl J (fun m z hj => (wpAny_noted ?_ : wpAny _ _ ((compTurn (.ListComp elt [⟨target, iter, [], 0⟩] scope pos) 0 it acc env).onRaise _) _ _ z)) m j0
  rw [compTurn_list1]
  refine wpAny_bind (wpAny_standAt (wpAny_bind (wpAny_mono (step m z hj) (fun got z1 h1 => ?_) fun _ _ no => no.elim)))
  match got, h1 with
  | none, h1 => exact wpAny_pure h1
  | some v, h1 =>
    refine wpAny_bind (wpAny_mono h1 (fun _ z2 h2 => wpAny_bind (wpAny_mono h2 (fun _ z3 h3 => ?_) fun _ _ no => no.elim)) fun _ _ no => no.elim)
    refine wpAny_bind (wpAny_bind (wpAny_mono h3 (fun x z4 h4 => ?_) fun _ _ no => no.elim))
    exact wpAny_bind (wpAny_mono h4 (fun _ z5 h5 => wpAny_pure (wpAny_pure ⟨rfl, h5⟩)) fun _ _ no => no.elim)

section
variable {X : Cx}
theorem cxC_ok {pins : List (Addr × Obj)} {σ : St} {H : Hp} {s : Shared} {scope : Scope} {cl : List (Str × Addr)} {ts fr : List Str} {ix : List Nat} {C : Addr} {fp : List Addr} (S : CSc X scope cl ts fr ix) (I : Inv X pins σ H s)
    (hf : ∀ b ∈ fp, FpOk X pins H b) (hb : ∀ b ∈ fp, b < s.heap.objs.size) (hC : s.heap.objs.size ≤ C) : (cxC X (ts ++ fr) scope cl C fp s H).Ok where
  mod := I.ok.mod
  kind := S.kind
  glob := I.ok.glob
  blt := I.ok.blt
  above := hC
  inj := fun x y c h1 h2 => I.ok.inj x y c (S.sub x c h1) (S.sub y c h2)
  has := S.has
  cab := fun _ _ z => nomatch z
  hd := I.ok.hd
  frames := I.ok.frames
  stk := .inl rfl
  exf := fun b hb' => ⟨Nat.ne_of_lt (Nat.lt_of_lt_of_le (hb b hb') hC), fun x c e => (hf b hb').2.2.2.2.1 x c (S.sub x c e)⟩
  bs := fun b o e => I.bs b o e
  bsz := Nat.le_trans I.ok.bsz I.sz
  noex := fun b o e hb' => by
    rcases (hf b hb').2.2.2.1 with z | z
    · exact I.ok.noex b o e z
    · exact absurd (Nat.lt_of_lt_of_le (Heap.lt_size e) (Nat.le_trans I.ok.bsz z)) (Nat.lt_irrefl _)
  exfs := fun b hb' z => by
    rcases List.mem_cons.mp (I.stkSub b z) with e | e
    · exact (hf b hb').2.1 e
    · exact (hf b hb').2.2.1 e
  funs := I.stack
  frf := fun b hb' => I.stkFree b hb'

theorem compSt_len {nt : Nat} {ix : List Nat} {σ : St} : (compSt nt ix σ).length = nt + ix.length := by
  unfold compSt; rw [List.length_append, List.length_replicate, List.length_map]

theorem cxC_inv {pins : List (Addr × Obj)} {σ : St} {H : Hp} {s s4 : Shared} {scope : Scope} {cl : List (Str × Addr)} {ts fr : List Str} {ix : List Nat} {C : Addr} {fp : List Addr} {m : Str → Option Value} (S : CSc X scope cl ts fr ix) (I : Inv X pins σ H s)
    (hf : ∀ b ∈ fp, FpOk X pins H b) (hb : ∀ b ∈ fp, b < s.heap.objs.size) (hC : s.heap.objs.size ≤ C)
    (k : ∀ b o, s.heap.get? b = some o → s4.heap.get? b = some o) (hn : s4.heap.Ns C m) (ho : s4.os = s.os) (hg : s4.gens = s.gens) :
    Inv (cxC X (ts ++ fr) scope cl C fp s H) [] (compSt ts.length ix σ) H s4 where
  ok := cxC_ok S I hf hb hC
  os := ho
  bare := by rw [hg]; exact I.bare
  base := Un.kept k
  loc := by
    refine ⟨m, hn, fun i x v e1 e2 e3 => ?_⟩
    have e1 : (ts ++ fr)[i]? = some x := e1
    by_cases hi : i < ts.length
    · unfold compSt at e2
      rw [List.getElem?_append_left (by simpa using hi), List.getElem?_replicate, if_pos hi] at e2
      cases e2
    · rw [List.getElem?_append_right (by omega)] at e1
      unfold compSt at e2
      rw [List.getElem?_append_right (by simpa using hi), List.length_replicate, List.getElem?_map] at e2
      obtain ⟨j, h1, h2, h3, h4⟩ := S.vis _ x e1
      rw [h1] at e2
      have e2' : (σ[j]?).join = some v := Option.some.inj e2
      have e5 : σ[j]? = some (some v) := by
        cases q : σ[j]? with
        | none => rw [q] at e2'; cases e2'
        | some o => rw [q] at e2'; simp at e2'; rw [e2']
      obtain ⟨m0, _, hl⟩ := I.loc
      have vis : Vis X.env.scope x := h3.elim (fun z => .inr (.inl z)) fun z => .inr (.inr z)
      obtain ⟨u, ru, l⟩ := hl j x v h2 e5 vis
      refine ⟨u, ru, ?_⟩
      rcases l with ⟨z, _⟩ | ⟨_, c, hc, hcell⟩
      · rcases h3 with h3 | h3 <;> rw [h3] at z <;> cases z
      · obtain ⟨c', hc'⟩ := S.has x h4
        have e6 : c' = c := Option.some.inj ((S.sub x c' hc').symm.trans hc)
        subst e6
        obtain ⟨o, ho, hd⟩ := hcell
        exact .inr ⟨h4, c', hc', o, k _ _ ho, hd⟩
  cell := fun x c e => by
    obtain ⟨v, o, ho, hd⟩ := I.cell x c (S.sub x c e)
    exact ⟨v, o, k _ _ ho, hd⟩
  free := I.hok.fresh hC
  freeC := fun x c e => I.freeC x c (S.sub x c e)
  pin := fun p hp => absurd (show p ∈ ([] : List (Addr × Obj)) from hp) (by simp)
  hok := I.hok.kept k
  len := by
    rw [compSt_len]
    show _ = (ts ++ fr).length
    rw [List.length_append, S.len]

theorem Inv.unpinned' {pins : List (Addr × Obj)} {σ : St} {H : Hp} {s : Shared} (I : Inv X pins σ H s) : Inv X [] σ H s := I.pins_of fun _ hp => nomatch hp
/-- back from the block -/
theorem comp_back {pins : List (Addr × Obj)} {σ σ' : St} {H H' : Hp} {s s' : Shared} {scope : Scope} {cl : List (Str × Addr)} {N : List Str} {C acc : Addr} {fp : List Addr} {h' : Heap} {ys : List V} {its : List Value} {n : Nat} (I : Inv X pins σ H s)
    (hf : ∀ b ∈ fp, FpOk X pins H b) (hC : s.heap.objs.size ≤ C) (hacc : s.heap.objs.size ≤ acc) (hCa : C ≠ acc)
    (J : Inv (cxC X N scope cl C fp s H) [] σ' H' s') (hn : H' acc = none) (ha : s'.heap.get? acc = some { cls := .type "list", data := .seq its.toArray n }) (rv : Vals ys its) (hz : ys.length ≤ sizeLine) (sb : Heap.SameBut C s'.heap h') :
    Inv X pins σ (upd H' acc (.lst ys)) { s' with heap := h' } := by
  have k : ∀ b o, b ≠ C → s'.heap.get? b = some o → h'.get? b = some o := fun b o hb e => sb.extBut b o hb e
  have old : ∀ b o, s.heap.get? b = some o → b ≠ C ∧ b ≠ acc := fun b o e => ⟨Nat.ne_of_lt (Nat.lt_of_lt_of_le (Heap.lt_size e) hC), Nat.ne_of_lt (Nat.lt_of_lt_of_le (Heap.lt_size e) hacc)⟩
  have u0 : Un (frs X.stack) fp H H' s.heap s'.heap := J.base
  have fC : H' C = none := J.free
  have u : Un (frs X.stack) fp H (upd H' acc (.lst ys)) s.heap h' := by
    refine ⟨fun b o e n' hb hx => k b o (old b o e).1 (u0.keep b o e n' hb hx), fun b o e n' hb hx => ?_, fun b o e n' hx => ?_, fun b o e hx => ?_, fun b xs e => ?_, fun b o v e => ?_, fun b ps e => ?_⟩
    · obtain ⟨sl, e1⟩ := u0.slot b o e n' hb hx
      exact ⟨sl, k b _ (old b o e).1 e1⟩
    · rw [upd_ne (old b o e).2]; exact u0.free b o e n' hx
    · obtain ⟨o', e1⟩ := u0.there b o e hx
      exact ⟨o', k b _ (old b o e).1 e1⟩
    · rw [upd_ne (ne_of_none (u0.tups b xs e) hn)]; exact u0.tups b xs e
    · rw [upd_ne (ne_of_none (u0.frzs b o v e) hn)]; exact u0.frzs b o v e
    · obtain ⟨more, e1⟩ := u0.tbls b ps e
      exact ⟨more, by rw [upd_ne (ne_of_none e1 hn)]; exact e1⟩
  have hok : HOk X.prog X.w (upd H' acc (.lst ys)) h' := fun b o e => by
    by_cases hb : b = acc
    · subst hb; rw [upd_same] at e; cases e
      exact ⟨hz, its, n, rv, k _ _ (Ne.symm hCa) ha⟩
    · rw [upd_ne hb] at e
      refine (J.hok b o e).stay (fun c v hc q => k c v ?_ q) (fun c q => by rw [upd_ne (ne_of_none q hn)]; exact q) fun c xs q => by rw [upd_ne (ne_of_none q hn)]; exact q
      rcases hc with z | z
      · rw [z]; exact ne_of_none e fC
      · exact ne_of_none z fC
  have J' := I.call (g' := s'.gens) (t' := s'.toks) (d' := s'.drawn) (ch := fp) u hok J.bare fun b hb => ⟨(hf b hb).2.2.2.1, (hf b hb).2.1, (hf b hb).2.2.2.2.1, (hf b hb).2.2.2.2.2⟩
  have eo : s'.os = s.os := J.os
  obtain ⟨hp, g, d, t, o⟩ := s'
  have eo' : o = s.os := eo
  subst eo'
  exact J'

theorem pe_lcomp {elt tg iter : Expr} {scope : Scope} {pos : Pos} {cl : List (Str × Addr)} {ts fr : List Str} {ix : List Nat} {wi : TI} {g : TG} {te : TE} (hc : X.calm = true) (S : CSc X scope cl ts fr ix) (hi : PI X tg iter wi)
    (hg : ∀ C fp s H, PG (cxC X (ts ++ fr) scope cl C fp s H) tg g) (he : ∀ C fp s H, PE (cxC X (ts ++ fr) scope cl C fp s H) elt te)
    (hs : ∀ x, foldedSetIterable iter X.env x = pure x := by intro _; rfl) :
    PE X (.ListComp elt [⟨tg, iter, [], 0⟩] scope pos) (tComp wi (compSt ts.length ix) g te) := by
  intro pins s σ H Q I h
  rw [eval_ListComp]
  refine wpAny_comprehension_free (use := none) rfl hs S.clos S.kind S.names (thn (hi pins s σ H _ I h) fun v s1 h1 => thn h1 fun itv s2 h2 => ?_)
  obtain ⟨it, fp, tn, J, H2, e, I2, T, st2, f2, W, ⟨m0, w0⟩, turn⟩ := h2
  subst e
  have hob : ∀ b ∈ fp, b < s2.heap.objs.size := fun b hb => let ⟨o, e, _⟩ := T.obj _ _ st2 b hb; Heap.lt_size e
  refine wpAny_newObj_type (wpAny_newFunctionEnv S.nocell (by intro y hy; simp at hy) (fun h4 hns4 hsb4 => ?_) S.kind)
  dsimp only at hns4 hsb4 ⊢
  generalize hH2 : s2.heap.push { cls := .type "list", dict := none, data := .seq ([] : List Value).toArray } = G at hns4 hsb4 ⊢
  have hCs : G.objs.size = s2.heap.objs.size + 1 := by rw [← hH2, Heap.size_push]
  have hCle : s2.heap.objs.size ≤ G.objs.size := by omega
  have hne : G.objs.size ≠ s2.heap.objs.size := by omega
  have old : ∀ b o, s2.heap.get? b = some o → h4.get? b = some o := fun b o e => by
    have hlt := Heap.lt_size e
    exact hsb4.extBut b o (Nat.ne_of_lt (Nat.lt_of_lt_of_le hlt hCle)) (Heap.get?_push_of_some _ (hH2 ▸ Heap.get?_push_of_some _ e))
  have hacc : h4.get? s2.heap.objs.size = some { cls := .type "list", data := .seq ([] : List Value).toArray 0 } :=
    hsb4.extBut _ _ (Ne.symm hne) (Heap.get?_push_of_some _ (hH2 ▸ Heap.get?_push_size _ rfl))
  have K0 : Inv (cxC X (ts ++ fr) scope cl G.objs.size fp s2 H2) [] (compSt ts.length ix σ) H2 { s2 with heap := h4, toks := s2.toks + ([] : List (Str × Value)).length } :=
    cxC_inv S I2 f2 hob hCle old hns4 rfl rfl
  have st4 : tn 0 h4 := T.keep _ _ _ st2 fun b _ o e => old b o e
  have accF : s2.heap.objs.size ∉ fp := fun z => Nat.lt_irrefl _ (hob _ z)
  -- what stays true of the records
  have stat : ∀ {H' : Hp}, (∀ b ∈ fp, H' b = none) → ∀ b ∈ fp, FpOk (cxC X (ts ++ fr) scope cl G.objs.size fp s2 H2) [] H' b := fun hn b hb =>
    ⟨hn b hb, fun z => by have h1 := hob b hb; have z' : b = G.objs.size := z; exact Nat.ne_of_lt (Nat.lt_of_lt_of_le h1 hCle) z', fun z => (cxC_ok S I2 f2 hob hCle).exfs b hb z, .inl hb, fun x c e => (f2 b hb).2.2.2.2.1 x c (S.sub x c e), fun p hp => absurd (show p ∈ ([] : List (Addr × Obj)) from hp) (by simp)⟩
  have statA : ∀ {H' : Hp}, H' s2.heap.objs.size = none → FpOk (cxC X (ts ++ fr) scope cl G.objs.size fp s2 H2) [] H' s2.heap.objs.size := fun hn =>
    ⟨hn, fun z => hne (show G.objs.size = s2.heap.objs.size from z.symm), fun z => by
      obtain ⟨_, o, ho, _⟩ := (cxC_ok S I2 f2 hob hCle).funs.mem z
      exact Nat.lt_irrefl _ (Heap.lt_size ho), .inr (Nat.le_refl _), fun x c e z => by
      obtain ⟨v, o, ho, _⟩ := I2.cell x c (S.sub x c e)
      rw [z] at ho
      exact Nat.lt_irrefl _ (Heap.lt_size ho), fun p hp => absurd (show p ∈ ([] : List (Addr × Obj)) from hp) (by simp)⟩
  have loop : ∀ s4 : Shared, s4 = { s2 with heap := h4, toks := s2.toks + ([] : List (Str × Value)).length } →
      codeAny (model X.prog X.w) X.A (.compLoop (.ListComp elt [⟨tg, iter, [], 0⟩] scope pos) 0 (.ref it) (.ref s2.heap.objs.size) (compEnvC scope cl G.objs.size X.env))
        (compPost (model X.prog X.w) X.A X.xe none (EP X pins σ Q) (.ref s2.heap.objs.size) G.objs.size) s4 := by
    rintro s4 rfl
    refine compLoop1 (fun n s' => ∃ i σ' H' ys its k, Inv (cxC X (ts ++ fr) scope cl G.objs.size fp s2 H2) [] σ' H' s' ∧ Ext (compSt ts.length ix σ) σ' ∧ tn i s'.heap ∧ (∀ b ∈ fp, H' b = none) ∧ H' s2.heap.objs.size = none ∧
      s'.heap.get? s2.heap.objs.size = some { cls := .type "list", data := .seq its.toArray k } ∧ Vals ys its ∧ ys.length ≤ sizeLine ∧ W i n ys H') ?_ m0
      ⟨0, _, H2, [], [], 0, K0, ⟨rfl, fun _ _ z => z⟩, st4, fun b hb => (f2 b hb).1, I2.hok.fresh (Nat.le_refl _), hacc, .nil, Nat.zero_le _, w0⟩
    rintro n s5 ⟨i, σ5, H5, ys, its, k5, I5, x5, st5, fr5, fa5, ac5, rv5, hz5, w5⟩
    have I5' : Inv (cxC X (ts ++ fr) scope cl G.objs.size fp s2 H2) [] (compSt ts.length ix σ) H5 s5 := I5.weak x5.1.symm x5.2
    rcases turn i n ys H5 w5 with ⟨stop, qn⟩ | ⟨go, hlt, step⟩
    · refine thn (T.done (cxC X (ts ++ fr) scope cl G.objs.size fp s2 H2) rfl rfl rfl hc i [(s2.heap.objs.size, { cls := .type "list", data := .seq its.toArray k5 })] s5 _ H5 _ (I5'.pins_of fun p hp => ?_) (fun b hb => ?_) st5 stop) fun r s6 ⟨hr, I6⟩ => ?_
      · have e : p = (s2.heap.objs.size, { cls := .type "list", data := .seq its.toArray k5 }) := by simpa using hp
        subst e
        obtain ⟨a0, a1, a2, _⟩ := statA fa5
        exact ⟨ac5, a0, a1, a2, fun v z => by cases z⟩
      · obtain ⟨b0, b1, b2, b3, b4, b5⟩ := stat fr5 b hb
        refine ⟨b0, b1, b2, b3, b4, fun p hp => ?_⟩
        have e : p = (s2.heap.objs.size, { cls := .type "list", data := .seq its.toArray k5 }) := by
          have hp' : p ∈ [(s2.heap.objs.size, _)] := hp
          simpa using hp'
        subst e
        exact fun z => accF (by have z' : s2.heap.objs.size = b := z; rw [z']; exact hb)
      · subst hr
        have e6 := (I6.pin (s2.heap.objs.size, { cls := .type "list", data := .seq its.toArray k5 }) (by show _ ∈ [] ++ [_]; simp)).1
        obtain ⟨m6, hn6, _⟩ := I6.loc
        exact ⟨m6, hn6, fun h' sb => ⟨.ref s2.heap.objs.size, _, comp_back I2 f2 hCle (Nat.le_refl _) hne I6.unpinned' fa5 e6 rv5 hz5 sb, rfl, qn _ fa5⟩⟩
    · refine thn (T.item (cxC X (ts ++ fr) scope cl G.objs.size fp s2 H2) rfl rfl rfl hc i [(s2.heap.objs.size, { cls := .type "list", data := .seq its.toArray k5 })] s5 _ H5 _ (I5'.pins_of fun p hp => ?_) (fun b hb => ?_) st5 go) fun r s6 ⟨u, hr, h6⟩ => ?_
      · have e : p = (s2.heap.objs.size, { cls := .type "list", data := .seq its.toArray k5 }) := by simpa using hp
        subst e
        obtain ⟨a0, a1, a2, _⟩ := statA fa5
        exact ⟨ac5, a0, a1, a2, fun v z => by cases z⟩
      · obtain ⟨b0, b1, b2, b3, b4, b5⟩ := stat fr5 b hb
        refine ⟨b0, b1, b2, b3, b4, fun p hp => ?_⟩
        have e : p = (s2.heap.objs.size, { cls := .type "list", data := .seq its.toArray k5 }) := by
          have hp' : p ∈ [(s2.heap.objs.size, _)] := hp
          simpa using hp'
        subst e
        exact fun z => accF (by have z' : s2.heap.objs.size = b := z; rw [z']; exact hb)
      · subst hr
        refine thn h6 fun _ s7 ⟨x, H7, I7, r7, y7, st7, fr7⟩ => ?_
        have fa7 : H7 s2.heap.objs.size = none := (I7.pin (s2.heap.objs.size, { cls := .type "list", data := .seq its.toArray k5 }) (by show _ ∈ [] ++ [_]; simp)).2.1
        have ac7 := (I7.pin (s2.heap.objs.size, { cls := .type "list", data := .seq its.toArray k5 }) (by show _ ∈ [] ++ [_]; simp)).1
        have I7' : Inv (cxC X (ts ++ fr) scope cl G.objs.size fp s2 H2) ([] ++ pinsAt (s2.heap.objs.size :: fp) s7.heap) (compSt ts.length ix σ) H7 s7 := by
          refine Inv.pinned I7.unpinned' (fun b hb => ?_) fun b hb => ?_
          · rcases List.mem_cons.mp hb with e | e
            · subst e; exact statA fa7
            · exact stat fr7 b e
          · rcases List.mem_cons.mp hb with e | e
            · subst e; exact ⟨_, ac7, fun v z => by cases z⟩
            · exact T.obj _ _ st7 b e
        refine thn (hg G.objs.size fp s2 H2 _ s7 _ H7 x u _ I7' r7 (step x H7 y7)) fun _ s8 ⟨σ8, H8, I8, x8, q8⟩ => ?_
        refine thn (he G.objs.size fp s2 H2 _ s8 _ H8 _ I8 q8) fun yv s9 ⟨y, H9, I9, r9, m', hm', w9⟩ => ?_
        obtain ⟨ac9, fa9, _⟩ := I9.pin (s2.heap.objs.size, { cls := .type "list", data := .seq its.toArray k5 }) (by show _ ∈ [] ++ ([] ++ _); simp; exact mem_pinsAt List.mem_cons_self ac7)
        have keep9 : ∀ b ∈ fp, ∀ o, s7.heap.get? b = some o → s9.heap.get? b = some o ∧ H9 b = none := fun b hb o e => by
          obtain ⟨z1, z2, _⟩ := I9.pin (b, o) (by show _ ∈ [] ++ ([] ++ _); simp; exact mem_pinsAt (List.mem_cons_of_mem _ hb) e)
          exact ⟨z1, z2⟩
        have hl := rv5.length
        refine call_meets F.slot_list_append ⟨_, ac9, rfl⟩ F.entry_list_append (F.args_list_append_2 _ _) (PySem.list_append s2.heap.objs.size its.toArray k5 yv (by rw [List.size_toArray]; omega)) ⟨ac9, ?_⟩
        have q := PySem.IsL.update ac9 (fun a => a.push yv)
        have qo : ∀ b o, b ≠ s2.heap.objs.size → s9.heap.get? b = some o → (s9.heap.update s2.heap.objs.size (Obj.mapSeq (fun a => a.push yv))).get? b = some o := fun b o hb e => (Heap.get?_update_other s9.heap _ (Ne.symm hb)).trans e
        have q' : ∃ k, (s9.heap.update s2.heap.objs.size (Obj.mapSeq (fun a => a.push yv))).get? s2.heap.objs.size = some { cls := .type "list", data := .seq (its ++ [yv]).toArray k } := ⟨_, by rw [q]; simp; rfl⟩
        obtain ⟨k9, q9⟩ := q'
        obtain ⟨a0, a1, a2, a3, a4, a5⟩ := statA (show H9 s2.heap.objs.size = none from fa9)
        refine ⟨m', hm', i + 1, σ8, H9, ys ++ [y], its ++ [yv], k9, (I9.unpinned').turned qo a0 a1 a3 a4 a5, x8, ?_, ?_, fa9, q9, rv5.append (.cons r9 .nil), ?_, w9⟩
        · refine T.keep _ _ _ st7 fun b hb o e => qo b o (fun z => accF (z ▸ hb)) (keep9 b hb o e).1
        · intro b hb
          obtain ⟨o, e, _⟩ := T.obj _ _ st7 b hb
          exact (keep9 b hb o e).2
        · rw [List.length_append, List.length_singleton]; omega
  exact codeAny_compStart_list (loop _ rfl) (T.self _ 0 _ _ _ st4 (loop _ rfl))
end
end L2

set_option Elab.async false
set_option linter.all false
set_option maxRecDepth 100000
set_option maxHeartbeats 4000000
namespace L2
open PySem PySem.Spec PyProof.Rows

/-! ### set(x) of a text, its len -/
section
variable {K : Type} [DecidableEq K]
def stepK (l : List K) (v : K) : List K := if v ∈ l then l else l ++ [v]
def dedup (l : List K) : List K := l.foldl stepK []
theorem stepK_mem (l : List K) (v k : K) : k ∈ stepK l v ↔ k ∈ l ∨ k = v := by
  unfold stepK; split
  · rename_i h
    constructor
    · exact .inl
    · rintro (z | rfl)
      · exact z
      · exact h
  · simp
theorem stepK_len (l : List K) (v : K) : (stepK l v).length = if v ∈ l then l.length else l.length + 1 := by
  unfold stepK; split <;> simp
theorem fold_nodup : ∀ (l acc : List K), acc.Nodup → (l.foldl stepK acc).Nodup ∧ (l.foldl stepK acc).length ≤ acc.length + l.length ∧ ((l.foldl stepK acc).length = acc.length + l.length ↔ (acc ++ l).Nodup)
  | [], acc, h => by simp [h]
  | v :: l, acc, h => by
    rw [List.foldl_cons]
    unfold stepK
    split
    · rename_i hv
      obtain ⟨h1, h2, h3⟩ := fold_nodup l acc h
      unfold stepK at h1 h2 h3
      refine ⟨h1, by rw [List.length_cons]; omega, ?_⟩
      constructor
      · intro e; rw [List.length_cons] at e; omega
      · intro e
        have := (List.nodup_append.mp e).2.2 v hv v List.mem_cons_self
        exact absurd rfl this
    · rename_i hv
      obtain ⟨h1, h2, h3⟩ := fold_nodup l (acc ++ [v]) (by
        rw [List.nodup_append]
        exact ⟨h, by simp, fun a ha b hb => by rw [List.mem_singleton] at hb; subst hb; rintro rfl; exact hv ha⟩)
      unfold stepK at h1 h2 h3
      rw [List.length_append, List.length_singleton] at h2 h3
      rw [List.append_assoc, List.singleton_append] at h3
      refine ⟨h1, by rw [List.length_cons]; omega, ?_⟩
      rw [← h3, List.length_cons]
      omega
theorem dedup_len (l : List K) : ((dedup l).length = l.length) ↔ l.Nodup := by
  have h := (fold_nodup l [] List.nodup_nil).2.2
  rw [List.length_nil, Nat.zero_add, List.nil_append] at h
  exact h
theorem dedup_map {J : Type} [DecidableEq J] (f : K → J) (hf : ∀ a b, f a = f b → a = b) (l : List K) : dedup (l.map f) = (dedup l).map f := by
  have key : ∀ (l acc : List K), (l.map f).foldl stepK (acc.map f) = (l.foldl stepK acc).map f := by
    intro l
    induction l with
    | nil => intro acc; rfl
    | cons v l ih =>
      intro acc
      rw [List.map_cons, List.foldl_cons, List.foldl_cons]
      have e : stepK (acc.map f) (f v) = (stepK acc v).map f := by
        unfold stepK
        by_cases hv : v ∈ acc
        · rw [if_pos hv, if_pos (List.mem_map_of_mem hv)]
        · rw [if_neg hv, if_neg (fun z => by
            obtain ⟨a, ha, e⟩ := List.mem_map.mp z
            rw [hf a v e] at ha; exact hv ha)]
          simp
      rw [e, ih]
  exact key l []
def metK (val : Nat → K) (i : Nat) : List K := dedup ((List.range i).map val)
theorem metK_succ (val : Nat → K) (i : Nat) : metK val (i + 1) = stepK (metK val i) (val i) := by
  unfold metK dedup; rw [List.range_succ, List.map_append, List.foldl_append]; rfl
theorem metK_le (val : Nat → K) : ∀ i, (metK val i).length ≤ i
  | 0 => by simp [metK, dedup]
  | i + 1 => by
    rw [metK_succ, stepK_len]
    have := metK_le val i
    split <;> omega
end

section
variable {prog : Program} {w : World} {K : Type} [DecidableEq K] {knd : KeyKind prog w K} {A : Around} {R : Result → Shared → Prop}
/-- the set at S holds the keys of the first i values, each once -/
def Held (knd : KeyKind prog w K) (S : Addr) (val : Nat → K) (i : Nat) (h : Heap) : Prop := h.SetOf knd S (fun k => decide (k ∈ metK val i)) (metK val i).length
theorem Held.keep {S : Addr} {val : Nat → K} {i : Nat} {h h' : Heap} (x : Held knd S val i h) (k : ∀ o, h.get? S = some o → h'.get? S = some o) : Held knd S val i h' := by
  obtain ⟨o, es, ep, t, e, rest⟩ := x
  exact ⟨o, es, ep, t, k o e, rest⟩
/-- one value more -/
theorem held_add {E : Value → Shared → Prop} {s : Shared} {S : Addr} {val : Nat → K} {i : Nat} {v : Value} {Q : Bool → Shared → Prop} (is : knd.is (val i) v = true) (sc : v.scannable = true) (few : i + 1 < scanBound) (x : Held knd S val i s.heap)
    (q : ∀ b h' tk, Held knd S val (i + 1) h' → (∀ c, c ≠ S → h'.get? c = s.heap.get? c) → Q b { s with heap := h', toks := tk }) : wpAny (model prog w) A (setAdd S v) Q E s := by
  have le := metK_le val i
  have key : ∀ k, (decide (k ∈ metK val i) || decide (k = val i)) = decide (k ∈ metK val (i + 1)) := fun k => by
    rw [metK_succ, Bool.eq_iff_iff]; simp [stepK_mem]
  have num : (if decide (val i ∈ metK val i) = true then (metK val i).length else (metK val i).length + 1) = (metK val (i + 1)).length := by
    rw [metK_succ, stepK_len]; simp
  have y : wpAny (model prog w) A (setAddHashed S v (knd.hash (val i))) Q E { s with toks := s.toks + 1 } :=
    wpAny_setAddHashed_of is sc x (by omega) fun h' same z => q _ h' _ (by unfold Held; rw [← num, ← funext key]; exact z) fun c hc => same.2 c hc
  exact wpAny_holding (wpAny_bind (knd.pyHash is y))
/-- the loop that takes what an iterator has left -/
theorem gather_loop {I S : Addr} {fp wr : List Addr} {n : Nat} {P : Nat → Value → Prop} {St : Nat → Heap → Prop} (W : Walks prog w A.in1 I fp wr n P St) (apart : S ∉ fp) (val : Nat → K) (key : ∀ i v, P i v → knd.is (val i) v = true ∧ v.scannable = true) (few : n + 1 < scanBound) :
    ∀ (left i : Nat) (s : Shared), i + left = n → St i s.heap → Held knd S val i s.heap →
      (∀ h' tk, Held knd S val n h' → (∀ c o, c ≠ S → c ∉ wr → s.heap.get? c = some o → h'.get? c = some o) → R (.ok (.ret .none)) { s with heap := h', toks := tk }) →
      codeAny (model prog w) A (.builtin "set.update.loop" ⟨[.ref S, .ref I], []⟩) R s
  | 0, i, s, hi, st, x, fin => codeAny_builtin F.entry_set_update_loop (by
      obtain rfl : i = n := by omega
      simp only [Around.under_plainId F.plain_set_update_loop]
      exact wpAny_bind (W.done s _ _ st fun h' tk k => wpAny_pure (fin h' tk (x.keep fun o e => k S o (fun z => apart (W.sub S z)) e) fun c o _ hc e => k c o hc e)))
  | left + 1, i, s, hi, st, x, fin => codeAny_builtin F.entry_set_update_loop (by
      simp only [Around.under_plainId F.plain_set_update_loop]
      refine wpAny_bind (W.item i s _ _ (by omega) st fun v h1 t1 p st1 k1 => ?_)
      obtain ⟨is, sc⟩ := key i v p
      refine wpAny_bind (wpAny_holding (held_add is sc (by omega) (x.keep fun o e => k1 S o (fun z => apart (W.sub S z)) e) fun _ h2 t2 x2 k2 => ?_))
      refine wpAny_pure ⟨plainId_quiet F.plain_set_update_loop _, gather_loop W apart val key few left (i + 1) _ (by omega) (W.frame _ _ _ st1 fun c hc o e => (k2 c (fun z => apart (z ▸ hc))).trans e) x2 fun h3 t3 x3 k3 => ?_⟩
      exact fin h3 t3 x3 fun c o cS cw e => k3 c o cS cw ((k2 c cS).trans (k1 c o cw e)))
end
theorem strNoSet : isSubtype (.type "str") (.type "set") = pure false ∧ isSubtype (.type "str") (.type "frozenset") = pure false := by
  constructor <;> (rw [isSubtype_type]; kernel_rfl)

section
variable {prog : Program} {w : World} {A : Around} {E : Value → Shared → Prop} {s : Shared}
def signAt (x : Str) (i : Nat) : Str := ⟨#[x.cps.getD i 0]⟩
/-- an empty set's object -/
abbrev bareSet (led : Bool) : Obj := { cls := .type "set", dict := none, data := .set #[] 0 (.fresh 0 0 led) }
theorem bare_held {K : Type} [DecidableEq K] {knd : KeyKind prog w K} {S : Addr} {val : Nat → K} {h : Heap} {led : Bool} (e : h.get? S = some (bareSet led)) : Held knd S val 0 h :=
  (PyProof.Rows.setObjOf_fresh (knd := knd) led).setOf e (by decide)
/-- set.__init__ of a new set, with a text -/
theorem init_str {x : Str} {t : Tok} {led : Bool} {R : Result → Shared → Prop} (hh : A.handled = none) (few : x.cps.size + 1 < scanBound)
    (q : ∀ h' tk, Held (strKind prog w) s.heap.objs.size (signAt x) x.cps.size h' → (∀ c o, s.heap.get? c = some o → h'.get? c = some o) → R (.ok (.ret .none)) { s with heap := h', toks := tk }) :
    wpAny (model prog w) A.in1 (Builtin.«set.__init__» ⟨[.ref s.heap.objs.size, .str x t], []⟩)
      (fun fin s' => match fin with | .done f => R (.ok f) s' | .again c' => c'.quiet = true ∧ codeAny (model prog w) A c' R s') (fun e s' => R (.error e) s') { s with heap := s.heap.push (bareSet led) } := by
  have at0 : (s.heap.push (bareSet led)).get? s.heap.objs.size = some (bareSet led) := Heap.get?_push_size _ rfl
  have ne1 : (Value.type "str" == Value.type "dict") = false := by decide
  obtain ⟨no1, no2⟩ := strNoSet
  unfold Builtin.«set.__init__»
  unfold noKeywords Builtin.Frozenset.updateFrom
  generalize ep : pyIter = walker
  wp_walk
  subst ep
  refine wpAny_pyIter_str fun o St W st => wpAny_bind (wpAny_runValue ?_)
  have far : s.heap.objs.size ∉ [(s.heap.push (bareSet led)).objs.size] := fun z => by
    have := List.mem_singleton.mp z
    rw [Heap.size_push] at this
    exact absurd this (Nat.ne_of_lt (Nat.lt_succ_self _))
  refine gather_loop (knd := strKind prog w) (W _ (by simp [hh])) far (signAt x) (fun i v ⟨c, u, e, ev⟩ => ?_) few x.cps.size 0 _ (by omega) st (bare_held (Heap.get?_push_of_some _ at0)) fun h' tk held k => ?_
  · subst ev
    refine ⟨?_, rfl⟩
    have ec : signAt x i = ⟨#[c]⟩ := by simp [signAt, Array.getD_eq_getD_getElem?, e]
    rw [ec]
    show Value.isStrOf _ (.str _ u) = true
    simp [Value.isStrOf]
  · refine wpAny_pure (wpAny_pure ?_)
    refine q h' tk held fun c o e => k c o ?_ ?_ (Heap.get?_push_of_some _ (Heap.get?_push_of_some _ e))
    · exact Nat.ne_of_lt (Heap.lt_size e)
    · intro z
      have := List.mem_singleton.mp z
      rw [Heap.size_push] at this
      exact absurd (Heap.lt_size e) (by rw [this]; exact Nat.not_lt.mpr (Nat.le_succ _))
/-- set(x) of a text -/
theorem call_set_str {x : Str} {t : Tok} {Q : Value → Shared → Prop} (hh : A.handled = none) (few : x.cps.size + 1 < scanBound)
    (q : ∀ h' tk, Held (strKind prog w) s.heap.objs.size (signAt x) x.cps.size h' → (∀ c o, s.heap.get? c = some o → h'.get? c = some o) → Q (.ref s.heap.objs.size) { s with heap := h', toks := tk }) :
    wpAny (model prog w) A (call (.type "set") [.str x t]) Q E s := by
  obtain ⟨_, _, order⟩ := F.called_set.mro
  have made := F.called_set.made
  have self := F.called_set.sub
  have nt := F.called_set.notType
  have cc := F.called_set.canCreate
  have tc := F.typeCall_set_1 (.str x t)
  refine wpAny_call (codeAny_of_tree (wpAny_pure ⟨Code.quiet_builtin _ (by decide +kernel), codeAny_builtin F.entry_type_call ?_⟩))
  simp only [Around.under_plain (weight_type_call_type "set" [.str x t] []) rfl]
  repeat any_goals first | assumption | wp_step
  refine codeAny_mono (code_set_new_1 (.str x t) (E := E) (Q₁ := fun obj s1 => obj = .ref s.heap.objs.size ∧ ∃ led, s1 = { s with heap := s.heap.push (bareSet led) }) fun led => ⟨rfl, led, rfl⟩) fun r s1 hr => ?_
  match r, hr with
  | .error _, hr => exact hr
  | .ok (.ret _), ⟨eo, led, es⟩ =>
    subst eo es
    have ty : Shared.TypeIs { s with heap := s.heap.push (bareSet led) } (.ref s.heap.objs.size) "set" := ⟨_, Heap.get?_push_size _ rfl, rfl⟩
    have look := F.called_set.init.lookup
    have bound := F.called_set.init.bind (.ref s.heap.objs.size)
    repeat any_goals first | assumption | wp_step
    refine codeAny_mono (codeAny_call_builtin (R := wants (fun r s2 => r = .none ∧ Q (.ref s.heap.objs.size) s2) E) F.called_set.init.plain F.entry_set_init (check_set_init_1 ty (init_str hh few fun h' tk x1 k1 => ⟨rfl, q h' tk x1 k1⟩))) fun r2 s2 hr2 => ?_
    match r2, hr2 with
    | .error _, hr2 => exact hr2
    | .ok (.ret _), ⟨e2, q2⟩ =>
      subst e2
      repeat any_goals first | assumption | wp_step
    | .ok .next, hr2 => exact hr2.elim
    | .ok .brk, hr2 => exact hr2.elim
    | .ok .cont, hr2 => exact hr2.elim
  | .ok .next, hr => exact hr.elim
  | .ok .brk, hr => exact hr.elim
  | .ok .cont, hr => exact hr.elim
end
/-- a set of texts with n members -/
def setS (a : Addr) (P : Program) (w : World) (n : Nat) : HO := .ext fun h => ∃ S, h.SetOf (strKind P w) a S n
section
variable {X : Cx}
theorem call_set_s (hc : X.calm = true) : CallR X (.type "set") (fun xs H Q => ∃ z, xs = [.str z] ∧ z.length ≤ 1000 ∧ ∀ l, H l = none → Q (.ref l) (upd H l (setS l X.prog X.w (dedup z.cps.toList).length))) := by
  intro pins s σ H xs us Q I r h
  obtain ⟨z, rfl, hz, q⟩ := h
  obtain ⟨u, rfl, t, rfl⟩ := vals1 r
  have hz' : z.cps.size ≤ 1000 := hz
  refine call_set_str (I.ok.hd hc) (by unfold scanBound; omega) fun h' tk hS kp => ?_
  unfold Held at hS
  have en : (metK (signAt z) z.cps.size).length = (dedup z.cps.toList).length := by
    have e1 : (List.range z.cps.size).map (signAt z) = z.cps.toList.map fun c => (⟨#[c]⟩ : Str) := by
      apply List.ext_getElem?
      intro i
      rw [List.getElem?_map, List.getElem?_map]
      by_cases hi : i < z.cps.size
      · rw [List.getElem?_range hi]
        simp [signAt, hi]
      · rw [List.getElem?_eq_none (by simpa using hi), List.getElem?_eq_none (by simpa using hi)]; rfl
    unfold metK
    rw [e1, dedup_map (fun c => (⟨#[c]⟩ : Str)) (fun a b e => by cases e; rfl), List.length_map]
  rw [en] at hS
  refine ⟨.ref s.heap.objs.size, _, I.laid (t' := tk) (o := setS s.heap.objs.size X.prog X.w (dedup z.cps.toList).length) kp (Nat.le_refl _) ?_, rfl, q _ (I.hok.fresh (Nat.le_refl _))⟩
  refine ⟨⟨_, hS⟩, let ⟨o, _, _, _, e, _⟩ := hS; ⟨o, e⟩, fun h1 h2 p k => ?_⟩
  obtain ⟨S, o, es, ep, t, e, r⟩ := p
  exact ⟨S, o, es, ep, t, k o e, r⟩
theorem call_len_set : CallR X (.builtin "len") (fun xs H Q => ∃ l n, xs = [.ref l] ∧ H l = some (setS l X.prog X.w n) ∧ Q (.int (n : Nat)) H) := by
  intro pins s σ H xs us Q I r h
  obtain ⟨l, n, rfl, hl, q⟩ := h
  obtain ⟨u, rfl, rx⟩ := vals1 r
  cases rx
  obtain ⟨⟨S, o, es, ep, t, e, hex, hd, _, _, hb, hf, hn⟩, _⟩ := I.hok l _ hl
  refine PySem.call_len_set e hex hd hf (by unfold scanBound at hb; omega) ⟨.int (n : Nat), H, I.tok _, ⟨_, by rw [hn]⟩, q⟩
end
end L2

set_option Elab.async false
set_option linter.all false
set_option maxRecDepth 100000
set_option maxHeartbeats 4000000
namespace L2
open PySem PySem.Spec
theorem bt_len : bootBuiltins "len" = some (.builtin "len") := PySem.boot_len
theorem bt_isinstance : bootBuiltins "isinstance" = some (.builtin "isinstance") := by first | exact PySem.boot_isinstance | exact PyProof.Rows.boot_isinstance
theorem bt_str : bootBuiltins "str" = some (.type "str") := by first | exact PySem.boot_str | exact PyProof.Rows.boot_str
theorem bt_ord : bootBuiltins "ord" = some (.builtin "ord") := by first | exact PySem.boot_ord | exact PyProof.Rows.boot_ord
theorem bt_set : bootBuiltins "set" = some (.type "set") := by first | exact PySem.boot_set | exact PyProof.Rows.boot_set
theorem bt_all : bootBuiltins "all" = some (.builtin "all") := by first | exact PySem.boot_all | exact PyProof.Rows.boot_all
theorem bt_abs : bootBuiltins "abs" = some (.builtin "abs") := by first | exact PySem.boot_abs | exact PyProof.Rows.boot_abs
theorem bt_int : bootBuiltins "int" = some (.type "int") := by first | exact PySem.boot_int | exact PyProof.Rows.boot_int
theorem bt_list : bootBuiltins "list" = some (.type "list") := by first | exact PySem.boot_list | exact PyProof.Rows.boot_list
theorem bt_tuple : bootBuiltins "tuple" = some (.type "tuple") := by first | exact PySem.boot_tuple | exact PyProof.Rows.boot_tuple
/-- a def of the text that keeps its promise, as it is called -/
structure Dn (P : Program) (w : World) (K : PySem.W.Frag) (mg : Str → Option Value) (base : Heap) (k : Nat) (x : Str) (ps : List Str) (sp : Sp) (f : Addr) (fd : FuncData) : Prop where
  ok : FnOk P w K mg base CX0 k f fd ps sp
  m : mg x = some (.ref f)
  kp : PySem.W.keepIn K (.ref f) = true
  b : Binds K fd ps []
/-- all but the object at p stays -/
def Keep (p : Addr) (H H' : Hp) : Prop := ∀ b o, b ≠ p → H b = some o → H' b = some o
theorem Keep.refl (p : Addr) (H : Hp) : Keep p H H := fun _ _ _ h => h
theorem Keep.trans {p : Addr} {H H1 H2 : Hp} (a : Keep p H H1) (b : Keep p H1 H2) : Keep p H H2 := fun c o n h => b c o n (a c o n h)
theorem Same.keep {p : Addr} {H H' : Hp} (a : Same H H') : Keep p H H' := fun b o _ h => a b o h
theorem Keep.upd {p : Addr} {H : Hp} {o : HO} : Keep p H (upd H p o) := fun b u n h => by rw [upd_ne n]; exact h
theorem same_new {H : Hp} {p : Addr} (h : H p = none) (o : HO) : Same H (L2.upd H p o) := fun b u q => by rw [upd_ne (ne_of_none q h)]; exact q
theorem sLine : sizeLine = 16777216 := sizeLine_eq
theorem le_line {n : Nat} (h : n ≤ 16777216) : n ≤ sizeLine := by rw [sizeLine_eq]; exact h
end L2
namespace L2
open PySem PySem.Spec
/-- a comprehension that reads no name of its def -/
theorem CSc.noFree {X : Cx} {scope : Scope} {ts : List Str} (kind : scope.kind = .function) (h : ∀ y ∈ scope.names, y.2 ≠ .cell ∧ y.2 ≠ .free) (names : ∀ y ∈ scope.names, y.2 = .local → scope.names.lookup y.1 = some .local)
    (ht : ∀ y ∈ ts, scope.names.lookup y = some .local) : CSc X scope [] ts [] [] := by
  have e : (relabel scope X.env).names = scope.names := by
    show scope.names.map _ = _
    refine map_eq_self fun y hy => ?_
    obtain ⟨n, k⟩ := y
    have : (k == NameKind.free) = false := by simpa using (h _ hy).2
    simp [this]
  refine ⟨closureFor_none fun y hy => (h y hy).2, kind, fun y hy => (h y hy).1, names, (fun _ _ z => nomatch z), fun y z => ?_, fun y hy => by rw [e]; exact ht y hy, rfl, (fun _ _ z => by simp at z)⟩
  rw [e] at z
  rcases z with z | z
  · exact absurd rfl (h _ (PySem.mem_of_lookup z)).1
  · exact absurd rfl (h _ (PySem.mem_of_lookup z)).2
/-- a comprehension over a text, its elements reckoned by fn; I is what stays true of the heap -/
theorem comp_str {z : Str} {s0 : St} {g : TG} {te : TE} {Q : VK} {H1 : Hp} (I : Hp → Prop) (fn : Nat → V) (hz : z.length ≤ sizeLine) (h0 : I H1)
    (hs : ∀ (i c : Nat) (H : Hp), z.cps.toList[i]? = some c → I H → g (.str ⟨#[c]⟩) s0 H fun σ2 H2 => Ext s0 σ2 ∧ te σ2 H2 fun y H3 => y = fn c ∧ I H3)
    (gm : ∀ x s H (P P' : St → Hp → Prop), (∀ a b, P a b → P' a b) → g x s H P → g x s H P') (tm : ∀ s H (P P' : VK), (∀ a b, P a b → P' a b) → te s H P → te s H P')
    (he : ∀ H p, I H → H p = none → Q (.ref p) (upd H p (.lst (z.cps.toList.map fn)))) :
    compW (Its z) s0 g te Q H1 := by
  have hl : z.cps.toList.length = z.cps.size := by simp
  have hz' : z.cps.size ≤ sizeLine := hz
  refine ⟨fun i m ys H => m = z.cps.size - i ∧ i ≤ z.cps.size ∧ ys = (z.cps.toList.take i).map fn ∧ I H, ⟨_, rfl, Nat.zero_le _, rfl, h0⟩, ?_⟩
  rintro i m ys H ⟨rfl, hi, rfl, iH⟩
  by_cases hlt : i < z.cps.size
  · refine .inr ⟨hlt, ?_, fun x H' y => ?_⟩
    · rw [List.length_map, List.length_take]; omega
    · obtain ⟨e, c, hc, rfl⟩ := y
      subst e
      refine gm _ _ _ _ _ (fun σ2 H2 q => ⟨q.1, tm _ _ _ _ (fun y H3 q' => ?_) q.2⟩) (hs i c _ hc iH)
      obtain ⟨rfl, i3⟩ := q'
      refine ⟨z.cps.size - (i + 1), by omega, rfl, hlt, ?_, i3⟩
      rw [List.take_succ, hc]
      simp
  · have e : i = z.cps.size := by omega
    subst e
    refine .inl ⟨rfl, fun p hp => ?_⟩
    have := he H p iH hp
    rw [List.take_of_length_le (by omega)]
    exact this
theorem nd_one (x : Str) : (([x] : List Str) ++ []).Nodup := by simp
theorem gName_mono (i : Nat) : ∀ x s H (P P' : St → Hp → Prop), (∀ a b, P a b → P' a b) → gName i x s H P → gName i x s H P' := fun _ _ _ _ _ h q => h _ _ q
theorem ext_one (v : V) (r : St) : Ext (none :: r) (some v :: r) := ⟨rfl, fun i w e => by
  cases i with
  | zero => cases e
  | succ i => exact e⟩
theorem app_l (x y : Str) : (x ++ y).cps.toList = x.cps.toList ++ y.cps.toList := by
  show (x.cps ++ y.cps).toList = _
  simp
theorem app_len (x y : Str) : (x ++ y).length = x.length + y.length := by
  show (x.cps ++ y.cps).size = x.cps.size + y.cps.size
  simp
theorem len_l (x : Str) : x.cps.toList.length = x.length := by simp [Str.length]
theorem mk_l (l : List Nat) : (⟨l.toArray⟩ : Str).cps.toList = l := by simp
theorem mk_len (l : List Nat) : (⟨l.toArray⟩ : Str).length = l.length := by simp [Str.length]
theorem cutL_to {α : Type} (xs : List α) (k : Nat) : cutL xs none (some (k : Int)) = xs.take k := by
  unfold cutL
  rw [HT.sIx_none, HT.sIx_nat, List.drop_zero, Nat.sub_zero]
  by_cases h : k ≤ xs.length
  · rw [Nat.min_eq_left h]
  · rw [Nat.min_eq_right (by omega), List.take_of_length_le (Nat.le_refl _), List.take_of_length_le (by omega)]
theorem cutL_from {α : Type} (xs : List α) (k : Nat) : cutL xs (some (k : Int)) none = xs.drop k := by
  unfold cutL
  rw [HT.sIx_none, HT.sIx_nat]
  by_cases h : k ≤ xs.length
  · rw [Nat.min_eq_left h, List.take_of_length_le (by rw [List.length_drop]; omega)]
  · rw [Nat.min_eq_right (by omega), List.drop_eq_nil_of_le (Nat.le_refl _), List.drop_eq_nil_of_le (by omega), List.take_nil]
theorem cutL_ft {α : Type} (xs : List α) (j k : Nat) : cutL xs (some (j : Int)) (some (k : Int)) = (xs.drop j).take (k - j) := by
  unfold cutL
  rw [HT.sIx_nat, HT.sIx_nat]
  by_cases h : j ≤ xs.length
  · rw [Nat.min_eq_left h]
    by_cases h2 : k ≤ xs.length
    · rw [Nat.min_eq_left h2]
    · rw [Nat.min_eq_right (by omega), List.take_of_length_le (by rw [List.length_drop]; omega), List.take_of_length_le (by rw [List.length_drop]; omega)]
  · rw [Nat.min_eq_right (show xs.length ≤ j by omega), List.drop_eq_nil_of_le (Nat.le_refl _), List.drop_eq_nil_of_le (by omega), List.take_nil, List.take_nil]
end L2

set_option Elab.async false
set_option linter.all false
set_option maxRecDepth 100000
set_option maxHeartbeats 4000000
namespace L2
open PySem PySem.Spec PyProof.Rows
def compWIf (J : It) (s0 : St) (g : TG) (tc : TT) (te : TE) (Q : VK) (H1 : Hp) : Prop := ∃ W : Nat → Nat → List V → Hp → Prop, (∃ m, W 0 m [] H1) ∧ ∀ i m ys H, W i m ys H →
  (J.stop i H ∧ ∀ p, H p = none → Q (.ref p) (upd H p (.lst ys))) ∨
  (J.go i H ∧ ys.length < sizeLine ∧ ∀ x H', J.yld i H x H' → g x s0 H' fun σ2 H2 => Ext s0 σ2 ∧ tc σ2 H2 fun ok H2' => if ok = true then te σ2 H2' (fun y H3 => ∃ m', m' < m ∧ W (i + 1) m' (ys ++ [y]) H3) else ∃ m', m' < m ∧ W (i + 1) m' ys H2')
def tCompIf (wi : TI) (s0 : St → St) (g : TG) (tc : TT) (te : TE) : TE := fun σ H Q => wi σ H fun J H1 => compWIf J (s0 σ) g tc te Q H1
theorem compTurn_listIf (elt target iter cnd : Expr) (scope : Scope) (pos : Pos) (it acc : Value) (env : Env) :
    compTurn (.ListComp elt [⟨target, iter, [cnd], 0⟩] scope pos) 0 it acc env = (standAt iter.pos >>= fun _ => pyNext it >>= fun r => match r with
      | none => pure (.done .next)
      | some v => letOwnedTupleGo target it v >>= fun _ => assign target env v >>= fun _ => isTrue cnd env (eval cnd env) >>= fun ok =>
        (if ok = true then (eval elt env >>= fun x => call (.builtin "list.append") [acc, x] >>= fun _ => pure ()) else pure ()) >>= fun _ =>
          again (.compLoop (.ListComp elt [⟨target, iter, [cnd], 0⟩] scope pos) 0 it acc env)) := by
  first
    | rfl
    | (unfold compTurn; simp only [List.getElem?_cons_zero]; rfl)
    | (show (standAt iter.pos >>= fun _ => pyNext it >>= fun r => _) = _
       congr 1; funext _; congr 1; funext r
       cases r with
       | none => rfl
       | some v =>
         show (letOwnedTupleGo target it v >>= fun _ => assign target env v >>= fun _ => _) = (letOwnedTupleGo target it v >>= fun _ => assign target env v >>= fun _ => _)
         congr 1; funext _; congr 1; funext _
         simp
         congr 1; funext ok
         cases ok with
         | false => rw [if_neg Bool.false_ne_true, if_neg Bool.false_ne_true, pure_bind]
         | true =>
           rw [if_pos rfl, if_pos rfl, bind_assoc]
           congr 1; funext x
           rw [map_eq_pure_bind, bind_assoc]
           congr 1)

theorem compLoopIf {prog : Program} {w : World} {A : Around} {R : Result → Shared → Prop} {s : Shared} {elt target iter cnd : Expr} {scope : Scope} {pos : Pos} {it acc : Value} {env : Env} (J : Nat → Shared → Prop)
    (step : ∀ m z, J m z → wpAny (model prog w) A (pyNext it) (fun got z1 => match got with
      | none => R (.ok .next) z1
      | some v => wpAny (model prog w) A (letOwnedTupleGo target it v) (fun _ z2 => wpAny (model prog w) A (assign target env v) (fun _ z3 => wpAny (model prog w) A (isTrue cnd env (eval cnd env)) (fun ok z3' => if ok = true then wpAny (model prog w) A (eval elt env) (fun x z4 =>
          wpAny (model prog w) A (call (.builtin "list.append") [acc, x]) (fun _ z5 => ∃ m', m' < m ∧ J m' z5) (fun _ _ => False) z4)
          (fun _ _ => False) z3' else ∃ m', m' < m ∧ J m' z3') (fun _ _ => False) z3) (fun _ _ => False) z2) (fun _ _ => False) z1) (fun _ _ => False) z)
    (m : Nat) (j0 : J m s) : codeAny (model prog w) A (.compLoop (.ListComp elt [⟨target, iter, [cnd], 0⟩] scope pos) 0 it acc env) R s := by
  refine codeAny_loop rfl J (fun m z hj => (wpAny_noted ?_ : wpAny _ _ ((compTurn (.ListComp elt [⟨target, iter, [cnd], 0⟩] scope pos) 0 it acc env).onRaise _) _ _ z)) m j0
  rw [compTurn_listIf]
  refine wpAny_bind (wpAny_standAt (wpAny_bind (wpAny_mono (step m z hj) (fun got z1 h1 => ?_) fun _ _ no => no.elim)))
  match got, h1 with
  | none, h1 => exact wpAny_pure h1
  | some v, h1 =>
    refine wpAny_bind (wpAny_mono h1 (fun _ z2 h2 => wpAny_bind (wpAny_mono h2 (fun _ z3 h3 => wpAny_bind (wpAny_mono h3 (fun ok z3' h3' => ?_) fun _ _ no => no.elim)) fun _ _ no => no.elim)) fun _ _ no => no.elim)
    match ok, h3' with
    | true, h3' =>
      rw [if_pos rfl] at h3'
      refine wpAny_bind (wpAny_bind (wpAny_mono h3' (fun x z4 h4 => ?_) fun _ _ no => no.elim))
      exact wpAny_bind (wpAny_mono h4 (fun _ z5 h5 => wpAny_pure (wpAny_pure ⟨rfl, h5⟩)) fun _ _ no => no.elim)
    | false, h3' =>
      rw [if_neg Bool.false_ne_true] at h3'
      exact wpAny_bind (wpAny_pure (wpAny_pure ⟨rfl, h3'⟩))

section
variable {X : Cx}
theorem pe_lcompIf {elt tg iter cnd : Expr} {scope : Scope} {pos : Pos} {cl : List (Str × Addr)} {ts fr : List Str} {ix : List Nat} {wi : TI} {g : TG} {tc : TT} {te : TE} (hc : X.calm = true) (S : CSc X scope cl ts fr ix) (hi : PI X tg iter wi)
    (hg : ∀ C fp s H, PG (cxC X (ts ++ fr) scope cl C fp s H) tg g) (he : ∀ C fp s H, PE (cxC X (ts ++ fr) scope cl C fp s H) elt te) (ht : ∀ C fp s H, PT (cxC X (ts ++ fr) scope cl C fp s H) cnd tc)
    (hs : ∀ x, foldedSetIterable iter X.env x = pure x := by intro _; rfl) :
    PE X (.ListComp elt [⟨tg, iter, [cnd], 0⟩] scope pos) (tCompIf wi (compSt ts.length ix) g tc te) := by
  intro pins s σ H Q I h
  rw [eval_ListComp]
  refine wpAny_comprehension_free (use := none) rfl hs S.clos S.kind S.names (thn (hi pins s σ H _ I h) fun v s1 h1 => thn h1 fun itv s2 h2 => ?_)
  obtain ⟨it, fp, tn, J, H2, e, I2, T, st2, f2, W, ⟨m0, w0⟩, turn⟩ := h2
  subst e
  have hob : ∀ b ∈ fp, b < s2.heap.objs.size := fun b hb => let ⟨o, e, _⟩ := T.obj _ _ st2 b hb; Heap.lt_size e
  refine wpAny_newObj_type (wpAny_newFunctionEnv S.nocell (by intro y hy; simp at hy) (fun h4 hns4 hsb4 => ?_) S.kind)
  dsimp only at hns4 hsb4 ⊢
  generalize hH2 : s2.heap.push { cls := .type "list", dict := none, data := .seq ([] : List Value).toArray } = G at hns4 hsb4 ⊢
  have hCs : G.objs.size = s2.heap.objs.size + 1 := by rw [← hH2, Heap.size_push]
  have hCle : s2.heap.objs.size ≤ G.objs.size := by omega
  have hne : G.objs.size ≠ s2.heap.objs.size := by omega
  have old : ∀ b o, s2.heap.get? b = some o → h4.get? b = some o := fun b o e => by
    have hlt := Heap.lt_size e
    exact hsb4.extBut b o (Nat.ne_of_lt (Nat.lt_of_lt_of_le hlt hCle)) (Heap.get?_push_of_some _ (hH2 ▸ Heap.get?_push_of_some _ e))
  have hacc : h4.get? s2.heap.objs.size = some { cls := .type "list", data := .seq ([] : List Value).toArray 0 } :=
    hsb4.extBut _ _ (Ne.symm hne) (Heap.get?_push_of_some _ (hH2 ▸ Heap.get?_push_size _ rfl))
  have K0 : Inv (cxC X (ts ++ fr) scope cl G.objs.size fp s2 H2) [] (compSt ts.length ix σ) H2 { s2 with heap := h4, toks := s2.toks + ([] : List (Str × Value)).length } :=
    cxC_inv S I2 f2 hob hCle old hns4 rfl rfl
  have st4 : tn 0 h4 := T.keep _ _ _ st2 fun b _ o e => old b o e
  have accF : s2.heap.objs.size ∉ fp := fun z => Nat.lt_irrefl _ (hob _ z)
  -- what stays true of the records
  have stat : ∀ {H' : Hp}, (∀ b ∈ fp, H' b = none) → ∀ b ∈ fp, FpOk (cxC X (ts ++ fr) scope cl G.objs.size fp s2 H2) [] H' b := fun hn b hb =>
    ⟨hn b hb, fun z => by have h1 := hob b hb; have z' : b = G.objs.size := z; exact Nat.ne_of_lt (Nat.lt_of_lt_of_le h1 hCle) z', fun z => (cxC_ok S I2 f2 hob hCle).exfs b hb z, .inl hb, fun x c e => (f2 b hb).2.2.2.2.1 x c (S.sub x c e), fun p hp => absurd (show p ∈ ([] : List (Addr × Obj)) from hp) (by simp)⟩
  have statA : ∀ {H' : Hp}, H' s2.heap.objs.size = none → FpOk (cxC X (ts ++ fr) scope cl G.objs.size fp s2 H2) [] H' s2.heap.objs.size := fun hn =>
    ⟨hn, fun z => hne (show G.objs.size = s2.heap.objs.size from z.symm), fun z => by
      obtain ⟨_, o, ho, _⟩ := (cxC_ok S I2 f2 hob hCle).funs.mem z
      exact Nat.lt_irrefl _ (Heap.lt_size ho), .inr (Nat.le_refl _), fun x c e z => by
      obtain ⟨v, o, ho, _⟩ := I2.cell x c (S.sub x c e)
      rw [z] at ho
      exact Nat.lt_irrefl _ (Heap.lt_size ho), fun p hp => absurd (show p ∈ ([] : List (Addr × Obj)) from hp) (by simp)⟩
  have loop : ∀ s4 : Shared, s4 = { s2 with heap := h4, toks := s2.toks + ([] : List (Str × Value)).length } →
      codeAny (model X.prog X.w) X.A (.compLoop (.ListComp elt [⟨tg, iter, [cnd], 0⟩] scope pos) 0 (.ref it) (.ref s2.heap.objs.size) (compEnvC scope cl G.objs.size X.env))
        (compPost (model X.prog X.w) X.A X.xe none (EP X pins σ Q) (.ref s2.heap.objs.size) G.objs.size) s4 := by
    rintro s4 rfl
    refine compLoopIf (fun n s' => ∃ i σ' H' ys its k, Inv (cxC X (ts ++ fr) scope cl G.objs.size fp s2 H2) [] σ' H' s' ∧ Ext (compSt ts.length ix σ) σ' ∧ tn i s'.heap ∧ (∀ b ∈ fp, H' b = none) ∧ H' s2.heap.objs.size = none ∧
      s'.heap.get? s2.heap.objs.size = some { cls := .type "list", data := .seq its.toArray k } ∧ Vals ys its ∧ ys.length ≤ sizeLine ∧ W i n ys H') ?_ m0
      ⟨0, _, H2, [], [], 0, K0, ⟨rfl, fun _ _ z => z⟩, st4, fun b hb => (f2 b hb).1, I2.hok.fresh (Nat.le_refl _), hacc, .nil, Nat.zero_le _, w0⟩
    rintro n s5 ⟨i, σ5, H5, ys, its, k5, I5, x5, st5, fr5, fa5, ac5, rv5, hz5, w5⟩
    have I5' : Inv (cxC X (ts ++ fr) scope cl G.objs.size fp s2 H2) [] (compSt ts.length ix σ) H5 s5 := I5.weak x5.1.symm x5.2
    rcases turn i n ys H5 w5 with ⟨stop, qn⟩ | ⟨go, hlt, step⟩
    · refine thn (T.done (cxC X (ts ++ fr) scope cl G.objs.size fp s2 H2) rfl rfl rfl hc i [(s2.heap.objs.size, { cls := .type "list", data := .seq its.toArray k5 })] s5 _ H5 _ (I5'.pins_of fun p hp => ?_) (fun b hb => ?_) st5 stop) fun r s6 ⟨hr, I6⟩ => ?_
      · have e : p = (s2.heap.objs.size, { cls := .type "list", data := .seq its.toArray k5 }) := by simpa using hp
        subst e
        obtain ⟨a0, a1, a2, _⟩ := statA fa5
        exact ⟨ac5, a0, a1, a2, fun v z => by cases z⟩
      · obtain ⟨b0, b1, b2, b3, b4, b5⟩ := stat fr5 b hb
        refine ⟨b0, b1, b2, b3, b4, fun p hp => ?_⟩
        have e : p = (s2.heap.objs.size, { cls := .type "list", data := .seq its.toArray k5 }) := by
          have hp' : p ∈ [(s2.heap.objs.size, _)] := hp
          simpa using hp'
        subst e
        exact fun z => accF (by have z' : s2.heap.objs.size = b := z; rw [z']; exact hb)
      · subst hr
        have e6 := (I6.pin (s2.heap.objs.size, { cls := .type "list", data := .seq its.toArray k5 }) (by show _ ∈ [] ++ [_]; simp)).1
        obtain ⟨m6, hn6, _⟩ := I6.loc
        exact ⟨m6, hn6, fun h' sb => ⟨.ref s2.heap.objs.size, _, comp_back I2 f2 hCle (Nat.le_refl _) hne I6.unpinned' fa5 e6 rv5 hz5 sb, rfl, qn _ fa5⟩⟩
    · refine thn (T.item (cxC X (ts ++ fr) scope cl G.objs.size fp s2 H2) rfl rfl rfl hc i [(s2.heap.objs.size, { cls := .type "list", data := .seq its.toArray k5 })] s5 _ H5 _ (I5'.pins_of fun p hp => ?_) (fun b hb => ?_) st5 go) fun r s6 ⟨u, hr, h6⟩ => ?_
      · have e : p = (s2.heap.objs.size, { cls := .type "list", data := .seq its.toArray k5 }) := by simpa using hp
        subst e
        obtain ⟨a0, a1, a2, _⟩ := statA fa5
        exact ⟨ac5, a0, a1, a2, fun v z => by cases z⟩
      · obtain ⟨b0, b1, b2, b3, b4, b5⟩ := stat fr5 b hb
        refine ⟨b0, b1, b2, b3, b4, fun p hp => ?_⟩
        have e : p = (s2.heap.objs.size, { cls := .type "list", data := .seq its.toArray k5 }) := by
          have hp' : p ∈ [(s2.heap.objs.size, _)] := hp
          simpa using hp'
        subst e
        exact fun z => accF (by have z' : s2.heap.objs.size = b := z; rw [z']; exact hb)
      · subst hr
        refine thn h6 fun _ s7 ⟨x, H7, I7, r7, y7, st7, fr7⟩ => ?_
        have fa7 : H7 s2.heap.objs.size = none := (I7.pin (s2.heap.objs.size, { cls := .type "list", data := .seq its.toArray k5 }) (by show _ ∈ [] ++ [_]; simp)).2.1
        have ac7 := (I7.pin (s2.heap.objs.size, { cls := .type "list", data := .seq its.toArray k5 }) (by show _ ∈ [] ++ [_]; simp)).1
        have I7' : Inv (cxC X (ts ++ fr) scope cl G.objs.size fp s2 H2) ([] ++ pinsAt (s2.heap.objs.size :: fp) s7.heap) (compSt ts.length ix σ) H7 s7 := by
          refine Inv.pinned I7.unpinned' (fun b hb => ?_) fun b hb => ?_
          · rcases List.mem_cons.mp hb with e | e
            · subst e; exact statA fa7
            · exact stat fr7 b e
          · rcases List.mem_cons.mp hb with e | e
            · subst e; exact ⟨_, ac7, fun v z => by cases z⟩
            · exact T.obj _ _ st7 b e
        refine thn (hg G.objs.size fp s2 H2 _ s7 _ H7 x u _ I7' r7 (step x H7 y7)) fun _ s8 ⟨σ8, H8, I8, x8, q8⟩ => ?_
        refine thn (ht G.objs.size fp s2 H2 _ s8 _ H8 _ I8 q8) fun ok s8' ⟨H8', I8', q8'⟩ => ?_
        cases ok with
        | false =>
          rw [if_neg Bool.false_ne_true] at q8' ⊢
          obtain ⟨m', hm', w9⟩ := q8'
          obtain ⟨ac9, fa9, _⟩ := I8'.pin (s2.heap.objs.size, { cls := .type "list", data := .seq its.toArray k5 }) (by show _ ∈ [] ++ ([] ++ _); simp; exact mem_pinsAt List.mem_cons_self ac7)
          have keep9 : ∀ b ∈ fp, ∀ o, s7.heap.get? b = some o → s8'.heap.get? b = some o ∧ H8' b = none := fun b hb o e => by
            obtain ⟨z1, z2, _⟩ := I8'.pin (b, o) (by show _ ∈ [] ++ ([] ++ _); simp; exact mem_pinsAt (List.mem_cons_of_mem _ hb) e)
            exact ⟨z1, z2⟩
          refine ⟨m', hm', i + 1, σ8, H8', ys, its, k5, I8'.unpinned', x8, ?_, ?_, fa9, ac9, rv5, hz5, w9⟩
          · exact T.keep _ _ _ st7 fun b hb o e => (keep9 b hb o e).1
          · intro b hb
            obtain ⟨o, e, _⟩ := T.obj _ _ st7 b hb
            exact (keep9 b hb o e).2
        | true =>
          rw [if_pos rfl] at q8' ⊢
          refine thn (he G.objs.size fp s2 H2 _ s8' _ H8' _ I8' q8') fun yv s9 ⟨y, H9, I9, r9, m', hm', w9⟩ => ?_
          obtain ⟨ac9, fa9, _⟩ := I9.pin (s2.heap.objs.size, { cls := .type "list", data := .seq its.toArray k5 }) (by show _ ∈ [] ++ ([] ++ _); simp; exact mem_pinsAt List.mem_cons_self ac7)
          have keep9 : ∀ b ∈ fp, ∀ o, s7.heap.get? b = some o → s9.heap.get? b = some o ∧ H9 b = none := fun b hb o e => by
            obtain ⟨z1, z2, _⟩ := I9.pin (b, o) (by show _ ∈ [] ++ ([] ++ _); simp; exact mem_pinsAt (List.mem_cons_of_mem _ hb) e)
            exact ⟨z1, z2⟩
          have hl := rv5.length
          refine call_meets F.slot_list_append ⟨_, ac9, rfl⟩ F.entry_list_append (F.args_list_append_2 _ _) (PySem.list_append s2.heap.objs.size its.toArray k5 yv (by rw [List.size_toArray]; omega)) ⟨ac9, ?_⟩
          have q := PySem.IsL.update ac9 (fun a => a.push yv)
          have qo : ∀ b o, b ≠ s2.heap.objs.size → s9.heap.get? b = some o → (s9.heap.update s2.heap.objs.size (Obj.mapSeq (fun a => a.push yv))).get? b = some o := fun b o hb e => (Heap.get?_update_other s9.heap _ (Ne.symm hb)).trans e
          have q' : ∃ k, (s9.heap.update s2.heap.objs.size (Obj.mapSeq (fun a => a.push yv))).get? s2.heap.objs.size = some { cls := .type "list", data := .seq (its ++ [yv]).toArray k } := ⟨_, by rw [q]; simp; rfl⟩
          obtain ⟨k9, q9⟩ := q'
          obtain ⟨a0, a1, a2, a3, a4, a5⟩ := statA (show H9 s2.heap.objs.size = none from fa9)
          refine ⟨m', hm', i + 1, σ8, H9, ys ++ [y], its ++ [yv], k9, (I9.unpinned').turned qo a0 a1 a3 a4 a5, x8, ?_, ?_, fa9, q9, rv5.append (.cons r9 .nil), ?_, w9⟩
          · refine T.keep _ _ _ st7 fun b hb o e => qo b o (fun z => accF (z ▸ hb)) (keep9 b hb o e).1
          · intro b hb
            obtain ⟨o, e, _⟩ := T.obj _ _ st7 b hb
            exact (keep9 b hb o e).2
          · rw [List.length_append, List.length_singleton]; omega
  exact codeAny_compStart_list (loop _ rfl) (T.self _ 0 _ _ _ st4 (loop _ rfl))
end
end L2

set_option Elab.async false
set_option linter.all false
set_option maxRecDepth 100000
set_option maxHeartbeats 4000000
namespace L2
open PySem PySem.Spec PyProof.Rows
section
variable {X : Cx}
/-- the place of a sign in a text -/
def findC (T : Str) (c : Nat) : Int := Txt.find T ⟨#[c]⟩
theorem occ_mem (s sub : Str) (hi limit : Nat) : ∀ (l : List Nat) (st : Array Nat × Nat) (k : Nat), k ∈ (forIn l st (StrLaws.occBody s sub hi limit)).run.fst.toList → k ∈ st.fst.toList ∨ (k + sub.length ≤ hi ∧ Builtin.Str.subAt s sub k = true)
  | [], st, k, h => .inl h
  | a :: l, st, k, h => by
    rw [List.forIn_cons] at h
    unfold StrLaws.occBody at h
    split at h
    · rename_i c
      rcases occ_mem s sub hi limit l _ k h with z | z
      · simp at z
        rcases z with z | z
        · exact .inl (by simpa using z)
        · subst z; exact .inr ⟨c.1.2, c.2⟩
      · exact .inr z
    · rcases occ_mem s sub hi limit l _ k h with z | z
      · exact .inl z
      · exact .inr z
theorem findC_at {T : Str} {c : Nat} (h : c ∈ T.cps.toList) : ∃ i : Nat, findC T c = (i : Int) ∧ T.cps.toList[i]? = some c ∧ ∃ rest, Builtin.Str.occurrences T ⟨#[c]⟩ 0 T.length 1 = i :: rest := by
  have h1 := StrLaws.found_one T c
  rw [decide_eq_true h] at h1
  cases ho : Builtin.Str.occurrences T ⟨#[c]⟩ 0 T.length 1 with
  | nil => rw [ho] at h1; cases h1
  | cons i rest =>
    refine ⟨i, by simp [findC, Txt.find, ho], ?_, rest, rfl⟩
    rw [StrLaws.occ_eq] at ho
    have hm := occ_mem T ⟨#[c]⟩ T.length 1 (List.range' 0 (T.length + 1 - 0)) (#[], 0) i (by rw [ho]; exact List.mem_cons_self)
    rcases hm with z | z
    · simp at z
    · exact (StrLaws.subAt_one T c i).mp z
theorem op_in_1 : OpR X (compareOp .In) (fun x y H Q => ∃ c T, x = .str ⟨#[c]⟩ ∧ y = .str T ∧ Q (.bl (decide (c ∈ T.cps.toList))) H) := by
  intro pins s σ H x y v u Q I rx ry h
  obtain ⟨c, T, rfl, rfl, q⟩ := h
  exact op_in_str pins s σ H _ _ v u Q I rx ry ⟨_, _, rfl, rfl, by rw [StrLaws.found_one]; exact q⟩
theorem op_notin_1 : OpR X (compareOp .NotIn) (fun x y H Q => ∃ c T, x = .str ⟨#[c]⟩ ∧ y = .str T ∧ Q (.bl (!decide (c ∈ T.cps.toList))) H) := by
  intro pins s σ H x y v u Q I rx ry h
  obtain ⟨c, T, rfl, rfl, q⟩ := h
  exact op_notin_str pins s σ H _ _ v u Q I rx ry ⟨_, _, rfl, rfl, by rw [StrLaws.found_one]; exact q⟩
theorem mt_find : MtR X "str.find" (fun x xs H Q => ∃ T c, x = .str T ∧ xs = [.str ⟨#[c]⟩] ∧ Q (.int (findC T c)) H) := by
  intro pins s σ H x xs v us Q I rx rs h
  obtain ⟨T, c, rfl, rfl, q⟩ := h
  obtain ⟨t, rfl⟩ := rx
  obtain ⟨u, rfl, t', rfl⟩ := vals1 rs
  exact call_meets F.slot_str_find (typeIs_str _ _ _) F.entry_str_find (F.args_str_find_2 _ _) (gives_str_find _ _ _ _).meets ⟨.int (findC T c), H, I.tok _, ⟨_, rfl⟩, q⟩
theorem mt_index : MtR X "str.index" (fun x xs H Q => ∃ T c, x = .str T ∧ xs = [.str ⟨#[c]⟩] ∧ c ∈ T.cps.toList ∧ Q (.int (findC T c)) H) := by
  intro pins s σ H x xs v us Q I rx rs h
  obtain ⟨T, c, rfl, rfl, hc, q⟩ := h
  obtain ⟨t, rfl⟩ := rx
  obtain ⟨u, rfl, t', rfl⟩ := vals1 rs
  obtain ⟨i, e1, e2, rest, ho⟩ := findC_at hc
  refine call_meets F.slot_str_index (typeIs_str _ _ _) F.entry_str_index (F.args_str_index_2 _ _) (gives_str_index _ _ _ _ i rest ho).meets ⟨.int (findC T c), H, I.tok _, ⟨_, by rw [e1]⟩, q⟩
theorem strs_of {zs : List Str} : ∀ {us : List Value}, Vals (zs.map V.str) us → StrsAre us zs := by
  induction zs with
  | nil => intro us r; rw [List.map_nil] at r; cases r; exact .nil
  | cons z zs ih =>
    intro us r
    rw [List.map_cons] at r
    cases r with
    | cons r1 r2 =>
      obtain ⟨t, e⟩ := r1
      subst e
      exact .cons z t (ih r2)
theorem mt_join : MtR X "str.join" (fun x xs H Q => ∃ sep p zs, x = .str sep ∧ xs = [.ref p] ∧ SqL X.K H p (zs.map V.str) ∧ (zs.map (·.length)).sum + zs.length * sep.length ≤ 16777216 ∧ Q (.str (Txt.join sep zs)) H) := by
  intro pins s σ H x xs v us Q I rx rs h
  obtain ⟨sep, p, zs, rfl, rfl, hp, hz, q⟩ := h
  obtain ⟨t, rfl⟩ := rx
  obtain ⟨u, rfl, ru⟩ := vals1 rs
  cases ru
  obtain ⟨its, r, pl, _⟩ := I.list hp
  exact join_list pl.isList (by simpa using strs_of r) hz fun t' k => ⟨.str _, H, I.tok _, ⟨_, rfl⟩, q⟩
end
/-- a comprehension with one name, by what holds between two turns -/
theorem comp_by {J : It} {fr : St} {te : TE} {Q : VK} {H1 : Hp} (n : Nat) (val : Nat → V) (Pv : Nat → List V → Hp → Prop) (h0 : Pv 0 [] H1) (hn : n ≤ sizeLine)
    (hgo : ∀ i ys H, i < n → Pv i ys H → J.go i H ∧ ∀ x H', J.yld i H x H' → x = val i ∧ H' = H) (hst : ∀ ys H, Pv n ys H → J.stop n H)
    (hs : ∀ i ys H (K : VK), i < n → ys.length ≤ i → Pv i ys H → (∀ y H3, Pv (i + 1) (ys ++ [y]) H3 → K y H3) → te (some (val i) :: fr) H K)
    (he : ∀ ys H p, Pv n ys H → H p = none → Q (.ref p) (upd H p (.lst ys))) : compW J (none :: fr) (gName 0) te Q H1 := by
  refine ⟨fun i m ys H => m = n - i ∧ i ≤ n ∧ ys.length ≤ i ∧ Pv i ys H, ⟨_, rfl, Nat.zero_le _, Nat.zero_le _, h0⟩, ?_⟩
  rintro i m ys H ⟨rfl, hi, hl, p⟩
  by_cases hlt : i < n
  · obtain ⟨hg, hy⟩ := hgo i ys H hlt p
    refine .inr ⟨hg, by omega, fun x H' y => ?_⟩
    obtain ⟨rfl, rfl⟩ := hy x H' y
    refine ⟨ext_one _ _, hs i ys _ _ hlt hl p fun y H3 p3 => ⟨n - (i + 1), by omega, rfl, hlt, by rw [List.length_append, List.length_singleton]; omega, p3⟩⟩
  · have e : i = n := by omega
    subst e
    exact .inl ⟨hst ys H p, fun q hq => he ys H q p hq⟩
theorem compIf_by {J : It} {fr : St} {tc : TT} {te : TE} {Q : VK} {H1 : Hp} (n : Nat) (val : Nat → V) (Pv : Nat → List V → Hp → Prop) (h0 : Pv 0 [] H1) (hn : n ≤ sizeLine)
    (hgo : ∀ i ys H, i < n → Pv i ys H → J.go i H ∧ ∀ x H', J.yld i H x H' → x = val i ∧ H' = H) (hst : ∀ ys H, Pv n ys H → J.stop n H)
    (hs : ∀ i ys H (K : VK) (N : Hp → Prop), i < n → ys.length ≤ i → Pv i ys H → (∀ y H3, Pv (i + 1) (ys ++ [y]) H3 → K y H3) → (∀ H3, Pv (i + 1) ys H3 → N H3) → tc (some (val i) :: fr) H fun ok H2 => if ok = true then te (some (val i) :: fr) H2 K else N H2)
    (he : ∀ ys H p, Pv n ys H → H p = none → Q (.ref p) (upd H p (.lst ys))) : compWIf J (none :: fr) (gName 0) tc te Q H1 := by
  refine ⟨fun i m ys H => m = n - i ∧ i ≤ n ∧ ys.length ≤ i ∧ Pv i ys H, ⟨_, rfl, Nat.zero_le _, Nat.zero_le _, h0⟩, ?_⟩
  rintro i m ys H ⟨rfl, hi, hl, p⟩
  by_cases hlt : i < n
  · obtain ⟨hg, hy⟩ := hgo i ys H hlt p
    refine .inr ⟨hg, by omega, fun x H' y => ?_⟩
    obtain ⟨rfl, rfl⟩ := hy x H' y
    exact ⟨ext_one _ _, hs i ys _ _ _ hlt hl p (fun y H3 p3 => ⟨n - (i + 1), by omega, rfl, hlt, by rw [List.length_append, List.length_singleton]; omega, p3⟩) fun H3 p3 => ⟨n - (i + 1), by omega, rfl, hlt, by omega, p3⟩⟩
  · have e : i = n := by omega
    subst e
    exact .inl ⟨hst ys H p, fun q hq => he ys H q p hq⟩
theorem its_go {z : Str} {i : Nat} {H : Hp} (h : i < z.cps.size) : (Its z).go i H ∧ ∀ x H', (Its z).yld i H x H' → x = V.str ⟨#[z.cps.toList.getD i 0]⟩ ∧ H' = H := by
  refine ⟨h, fun x H' y => ?_⟩
  obtain ⟨e, c, hc, rfl⟩ := y
  rw [List.getD_eq_getElem?_getD, hc]
  exact ⟨rfl, e⟩
theorem itr_go {lo : Int} {n i : Nat} {H : Hp} (h : i < n) : (Itr lo n).go i H ∧ ∀ x H', (Itr lo n).yld i H x H' → x = V.int (lo + i) ∧ H' = H := by
  refine ⟨h, fun x H' y => ?_⟩
  obtain ⟨e, rfl⟩ := y
  exact ⟨rfl, e⟩
/-- what a comprehension's scope must show, each by rfl -/
theorem CSc.of {X : Cx} {scope : Scope} {cl : List (Str × Addr)} {ts fr : List Str} {ix : List Nat} (clos : closureFor scope X.env = pure cl) (kind : scope.kind = .function)
    (nocell : (scope.names.all fun p => p.2 != .cell) = true) (names : (scope.names.all fun p => p.2 != .local || scope.names.lookup p.1 == some .local) = true) (sub : ∀ p ∈ cl, X.env.cells.lookup p.1 = some p.2)
    (has : ((relabel scope X.env).names.all fun p => !(p.2 == .cell || p.2 == .free) || (cl.lookup p.1).isSome) = true) (nofn : (ts.all fun y => (relabel scope X.env).names.lookup y == some .local) = true)
    (len : ix.length = fr.length) (vis : ((fr.zip ix).all fun p => X.N[p.2]? == some p.1 && (X.env.kindOf p.1 == some .cell || X.env.kindOf p.1 == some .free) && ((relabel scope X.env).names.lookup p.1 == some .cell || (relabel scope X.env).names.lookup p.1 == some .free)) = true) :
    CSc X scope cl ts fr ix := by
  refine ⟨clos, kind, fun y hy => ?_, fun y hy e => ?_, fun y c e => sub _ (PySem.mem_of_lookup e), fun y z => ?_, fun y hy => ?_, len, fun j y e => ?_⟩
  · have := List.all_eq_true.mp nocell y hy
    simpa using this
  · have := List.all_eq_true.mp names y hy
    rw [e] at this
    simpa using this
  · have key : ∀ k, (relabel scope X.env).names.lookup y = some k → (k == .cell || k == .free) = true → ∃ c, cl.lookup y = some c := fun k e hk => by
      have := List.all_eq_true.mp has _ (PySem.mem_of_lookup e)
      rw [hk] at this
      exact Option.isSome_iff_exists.mp (by simpa using this)
    rcases z with z | z
    · exact key _ z rfl
    · exact key _ z rfl
  · have := List.all_eq_true.mp nofn y hy
    simpa using this
  · obtain ⟨hj, _⟩ := List.getElem?_eq_some_iff.mp e
    have hj2 : j < ix.length := by omega
    have hm : (y, ix[j]) ∈ fr.zip ix := by
      rw [List.mem_iff_getElem?]
      exact ⟨j, by rw [List.getElem?_zip_eq_some]; exact ⟨e, List.getElem?_eq_getElem hj2⟩⟩
    have := List.all_eq_true.mp vis _ hm
    simp only [Bool.and_eq_true, Bool.or_eq_true, beq_iff_eq] at this
    exact ⟨ix[j], List.getElem?_eq_getElem hj2, this.1.1, this.1.2, this.2⟩
end L2

set_option Elab.async false
set_option linter.all false
set_option maxRecDepth 100000
set_option maxHeartbeats 4000000
namespace HT
open PySem PySem.Spec PyProof.Rows
section
open PySem.SeqAt
open PySem.AutoSeq1 (wpAny_loadPart')
open PySem.MeetsSeq PySem.MeetsSeq2 PySem.MeetsSeq3
/-- two int lists as long, from the i-th item on -/
theorem ltFrom (l b : Addr) (xs ys : Array Value) (n n2 : Nat) (dd dd2 : Option Addr) (sl sl2 : Array (Option Value)) (ns ms : List Int) (hx : IntsAre xs.toList ns) (hy : IntsAre ys.toList ms) (len : xs.size = ys.size) :
    ∀ left i : Nat, i + left = xs.size → Meets (Builtin.«list.__eq__.loop» ⟨[.ref l, .ref b, rawInt i, rawInt 0], []⟩)
      (fun _ R s => (s.heap.get? l = some { cls := .type "list", dict := dd, data := .seq xs n, slots := sl } ∧ s.heap.get? b = some { cls := .type "list", dict := dd2, data := .seq ys n2, slots := sl2 }) ∧ R (.ok (.ret (.bool (lexLt (ns.drop i) (ms.drop i))))) s)
  | 0, i, hi, prog, w, A, R, ⟨hp, gn, dr, tk, os⟩, ⟨⟨hl, hb⟩, q⟩ => by
    have c1 : xs.size = ns.length := by simpa using hx.length
    have c2 : ys.size = ms.length := by simpa using hy.length
    have o1 : xs[(i : Int).toNat]? = none := by simp; omega
    have o2 : ys[(i : Int).toNat]? = none := by simp; omega
    have e0 : ns.drop i = [] ∧ ms.drop i = [] := ⟨List.drop_eq_nil_of_le (by omega), List.drop_eq_nil_of_le (by omega)⟩
    have e3 : decide (xs.size < ys.size) = false := decide_eq_false (by omega)
    wp_walk using wpAny_loadPart' hl, wpAny_loadPart' hb
    simp only [o1, o2]
    wp_walk using wpAny_loadPart' hl, wpAny_loadPart' hb
    show R (.ok (.ret (.bool (decide (xs.size < ys.size))))) _
    rw [e3]
    rw [e0.1, e0.2] at q
    exact q
  | left + 1, i, hi, prog, w, A, R, ⟨hp, gn, dr, tk, os⟩, ⟨⟨hl, hb⟩, q⟩ => by
    have c1 : xs.size = ns.length := by simpa using hx.length
    have c2 : ys.size = ms.length := by simpa using hy.length
    have i1 : i < xs.size := by omega
    have i2 : i < ys.size := by omega
    obtain ⟨t, et⟩ := IntsAre.int_at hx i xs[i] (by simp [i1])
    obtain ⟨u, eu⟩ := IntsAre.int_at hy i ys[i] (by simp [i2])
    have o1 : xs[(i : Int).toNat]? = some (.int (ns.getD i 0) t) := by rw [← et]; simp [i1]
    have o2 : ys[(i : Int).toNat]? = some (.int (ms.getD i 0) u) := by rw [← eu]; simp [i2]
    have p1 : ns.drop i = ns.getD i 0 :: ns.drop (i + 1) := by
      rw [List.drop_eq_getElem_cons (by omega)]; simp [List.getD_eq_getElem?_getD, show i < ns.length by omega]
    have p2 : ms.drop i = ms.getD i 0 :: ms.drop (i + 1) := by
      rw [List.drop_eq_getElem_cons (by omega)]; simp [List.getD_eq_getElem?_getD, show i < ms.length by omega]
    rw [p1, p2, lexLt_cons] at q
    wp_walk using wpAny_loadPart' hl, wpAny_loadPart' hb
    simp only [o1, o2]
    obtain ⟨same, look, iff⟩ := eqAt_int A.in1 ⟨hp, gn, dr, tk, os⟩ (ns.getD i 0) t (ms.getD i 0) u
    refine wpAny_bind (look prog w _ _ ?_)
    match same, iff with
    | true, iff =>
      rw [if_pos (iff.mp rfl)] at q
      wp_walk
      refine ⟨plainId_quiet plain_eq_loop _, codeAny_builtin entry_eq_loop ?_⟩
      simp only [Around.under_plainId plain_eq_loop]
      exact ltFrom l b xs ys n n2 dd dd2 sl sl2 ns ms hx hy len left (i + 1) (by omega) prog w A R _ ⟨⟨hl, hb⟩, q⟩
    | false, iff =>
      rw [if_neg fun z => Bool.false_ne_true (iff.mpr z)] at q
      wp_walk using wpAny_loadPart' hl, wpAny_loadPart' hb
      simp only [o1, o2]
      have less := rcLt_int A.in1 ⟨hp, gn, dr, tk, os⟩ (ns.getD i 0) t (ms.getD i 0) u prog w
      wp_walk using less
      simpa using q
theorem list_ltAt (l b : Addr) (xs ys : Array Value) (n n2 : Nat) (dd dd2 : Option Addr) (sl sl2 : Array (Option Value)) (ns ms : List Int) (hx : IntsAre xs.toList ns) (hy : IntsAre ys.toList ms) (len : xs.size = ys.size) :
    Meets (Builtin.«list.__lt__» ⟨[.ref l, .ref b], []⟩)
      (fun _ R s => (s.heap.get? l = some { cls := .type "list", dict := dd, data := .seq xs n, slots := sl } ∧ s.heap.get? b = some { cls := .type "list", dict := dd2, data := .seq ys n2, slots := sl2 }) ∧ R (.ok (.ret (.bool (lexLt ns ms)))) s) := by
  intro prog w A R ⟨hp, gn, dr, tk, os⟩ ⟨⟨hl, hb⟩, q⟩
  have sub := AutoSeq1.sub_list_list
  wp_walk using wpAny_loadPart' hl, wpAny_loadPart' hb
  refine ⟨plainId_quiet plain_eq_loop _, codeAny_builtin entry_eq_loop ?_⟩
  simp only [Around.under_plainId plain_eq_loop]
  exact ltFrom l b xs ys n n2 dd dd2 sl sl2 ns ms hx hy len xs.size 0 (by omega) prog w A R _ ⟨⟨hl, hb⟩, by simpa using q⟩
end
end HT
namespace L2
open PySem PySem.Spec PyProof.Rows
section
variable {X : Cx}
theorem op_ltL (hu : X.A.units < cLine) : OpR X (compareOp .Lt) (fun x y H Q => ∃ a b ns ms, x = .ref a ∧ y = .ref b ∧ SqL X.K H a (ns.map V.int) ∧ SqL X.K H b (ms.map V.int) ∧ ns.length = ms.length ∧ Q (.bl (HT.lexLt ns ms)) H) := by
  intro pins s σ H x y v u Q I rx ry h
  obtain ⟨a, b, ns, ms, rfl, rfl, ha, hb, hl, q⟩ := h
  cases rx
  cases ry
  obtain ⟨its, r1, p1, _⟩ := I.list ha
  obtain ⟨its2, r2, p2, _⟩ := I.list hb
  have i1 : IntsAre its.toArray.toList ns := intsAre_of r1
  have i2 : IntsAre its2.toArray.toList ms := intsAre_of r2
  obtain ⟨⟨cls, dd, data, sl⟩, ho, hc, n, hd⟩ := p1.isList
  obtain ⟨⟨cls2, dd2, data2, sl2⟩, ho2, hc2, n2, hd2⟩ := p2.isList
  simp only at hc hd hc2 hd2
  subst hc hd hc2 hd2
  have hsz : its.toArray.size = its2.toArray.size := by
    have e1 := r1.length; have e2 := r2.length
    rw [List.length_map] at e1 e2
    rw [List.size_toArray, List.size_toArray]; omega
  exact richCompare_meets_room (op := .Lt) ⟨_, ho, rfl⟩ ⟨_, ho2, rfl⟩ PySem.F.slot_list_lt PySem.F.entry_list_lt (PySem.F.args_list_lt_2 _ _) (HT.list_ltAt a b its.toArray its2.toArray n n2 dd dd2 sl sl2 ns ms i1 i2 hsz)
    ⟨⟨ho, ho2⟩, show Value.bool (HT.lexLt ns ms) ≠ Value.notImplemented ∧ EP X pins σ Q (.bool (HT.lexLt ns ms)) s from ⟨(fun x => nomatch x), ⟨.bl (HT.lexLt ns ms), H, I, rfl, q⟩⟩⟩ hu
end
end L2

set_option Elab.async false
set_option linter.all false
set_option maxRecDepth 100000
set_option maxHeartbeats 4000000
namespace L2
open PySem PySem.Spec PyProof.Rows
/-- a text's method with arguments (its reading names no K: it may stand in a comprehension) -/
def tSM (r : V → List V → Hp → VK → Prop) (to : TE) (t : TA) : TE := fun σ H Q => to σ H fun x H1 => (∃ z, x = .str z) ∧ t σ H1 fun xs H2 => r x xs H2 Q
theorem pe_sm {X : Cx} {o e : Expr} {es : List Expr} {to : TE} {t : TA} {name : Str} {apos cpos : Pos} {id : String} {r : V → List V → Hp → VK → Prop} (slot : Slot "str" name id) (hty : typeOf (.builtin id) = pure (.type "method_descriptor")) (hm : MtR X id r) (ho : PE X o to) (ha : PA X (e :: es) t)
    (hbase : attributeBase o name X.env (eval o X.env) = eval o X.env := by rfl)
    (hfew : ((backTo cpos (starEach (e :: es) X.env)).all (fun x => !x.1) && (backToKw cpos (keywordEach [] X.env)).all (fun x => x.1.isSome)
      && decide ((e :: es).length + ([] : List Keyword).length + (if ([] : List Keyword).isEmpty then 0 else 1) < 30)) = true := by rfl)
    (hline : (apos.endLine == cpos.line) = true := by rfl) (hs : starEach (e :: es) X.env = (false, eval e X.env) :: starEach es X.env := by rfl) (hplain : (backTo cpos (starEach es X.env)).any (·.1) = false := by rfl) :
    PE X (.Call (.Attribute o name apos) (e :: es) [] cpos) (tSM r to t) := by
  intro pins s σ H Q I h
  refine wpAny_Call_method_late hbase hfew hline rfl (thn (ho pins s σ H _ I h) fun v s1 ⟨x, H1, I1, r1, ⟨z, hz⟩, q1⟩ => ?_)
  subst hz
  obtain ⟨h1, h2⟩ := tyV_is (T := "str") I1 r1 rfl
  refine ⟨"str", id, PySem.F.plainAttrs_str, slot, hty, h1, h2, ?_⟩
  have hA := ha cpos pins s1 σ H1 _ I1 q1
  rw [hs] at hA ⊢
  refine Calls.callWith_builtin (by show (false || (backTo cpos (starEach es X.env)).any (·.1)) = false; rw [hplain] <;> rfl) (Calls.evalArgs_plain ?_)
  exact thn hA fun us s2 ⟨vs, H2, I2, r2, q2⟩ => hm pins s2 σ H2 _ vs v us Q I2 r1 r2 q2
end L2

set_option Elab.async false
set_option linter.all false
set_option maxRecDepth 100000
set_option maxHeartbeats 4000000
namespace L2
open PySem PySem.Spec PyProof.Rows
section
variable {X : Cx}
/-- sum(xs) of a list of ints -/
theorem call_sum_l (hc : X.calm = true) : CallR X (.builtin "sum") (fun xs H Q => ∃ (p : Addr) (ns : List Int), xs = [.ref p] ∧ SqL X.K H p (ns.map V.int) ∧ Q (.int ns.sum) H) := by
  intro pins s σ H xs us Q I r h
  obtain ⟨p, ns, rfl, hq, q⟩ := h
  obtain ⟨u, rfl, rx⟩ := vals1 r
  cases rx
  obtain ⟨its, r', pl, hz⟩ := I.list hq
  have hInts : IntsAre its ns := intsAre_of r'
  obtain ⟨prs, ep⟩ := hInts.allInts.items
  refine sum_intListG (xs := prs) (I.ok.hd hc) (ep ▸ pl.isList) fun h' tk t' hk => ⟨.int ns.sum, H, I.kept hk, ⟨t', ?_⟩, q⟩
  have nums : prs.toList.map (·.1) = ns := by
    rw [← nums_intItems, ← ep]
    exact hInts.numsOf
  have tot : preSum (numAt prs) prs.size = ns.sum := by
    rw [preSum_eq, ← nums]
    congr 1
    exact List.take_of_length_le (by simp)
  rw [tot]
end
/-- a comprehension over a tuple: H keeps the tuple -/
theorem itt_go {K : PySem.W.Frag} {a : Addr} {xs : List V} {i : Nat} {H : Hp} (h : SqT K H a xs) (hi : i < xs.length) : (Itt K a).go i H ∧ ∀ x H', (Itt K a).yld i H x H' → x = xs.getD i .non ∧ H' = H := by
  refine ⟨⟨xs, xs[i], h, List.getElem?_eq_getElem hi⟩, fun x H' y => ?_⟩
  obtain ⟨e, y⟩ := y
  have := y xs h
  rw [List.getD_eq_getElem?_getD, this]
  exact ⟨rfl, e⟩
theorem itt_stop {K : PySem.W.Frag} {a : Addr} {xs : List V} {H : Hp} (h : SqT K H a xs) : (Itt K a).stop xs.length H := ⟨xs, h, Nat.le_refl _⟩
end L2
/-! ### shapes: the datum, and how it stands in the heap -/
namespace SHP
open PySem L2
inductive Sh where
  | one (s : Str) | row (ps : List Sh) | either (ps : List Sh) | many (p : Sh) | times (p : Sh) (lo hi : Int)
def innerS : Sh → List Sh
  | .one _ => []
  | .row ps => ps
  | .either ps => ps
  | .many p => [p]
  | .times p _ _ => [p]
/-- at most n deep (rows of none count as any depth) -/
def ShAt : Nat → Hp → V → Sh → Prop
  | 0, _, _, _ => False
  | n + 1, H, v, sh => match sh with
    | .one s => ∃ a, v = .ref a ∧ H a = some (.tup [.str "one", .str s])
    | .row ps => ∃ a b vs, v = .ref a ∧ H a = some (.tup [.str "row", .ref b]) ∧ H b = some (.tup vs) ∧ vs.length ≤ 1000 ∧ Paired (ShAt n H) vs ps
    | .either ps => ∃ a b vs, v = .ref a ∧ H a = some (.tup [.str "either", .ref b]) ∧ H b = some (.tup vs) ∧ vs.length ≤ 1000 ∧ Paired (ShAt n H) vs ps
    | .many p => ∃ a u, v = .ref a ∧ H a = some (.tup [.str "many", u]) ∧ ShAt n H u p
    | .times p lo hi => ∃ a u, v = .ref a ∧ H a = some (.tup [.str "times", u, .int lo, .int hi]) ∧ 0 ≤ lo ∧ lo ≤ hi ∧ hi ≤ 4 ∧ ShAt n H u p
/-- the tuples stay -/
def Tups (H H' : Hp) : Prop := ∀ a xs, H a = some (.tup xs) → H' a = some (.tup xs)
theorem Tups.of {H H' : Hp} (s : Same H H') : Tups H H' := fun a xs h => s a _ h
theorem Tups.keep {H H' : Hp} {p : Addr} {xs : List V} (k : Keep p H H') (hp : H p = some (.lst xs)) : Tups H H' := fun a ys h => k a _ (by rintro rfl; rw [h] at hp; cases hp) h
theorem Tups.trans {H H1 H2 : Hp} (a : Tups H H1) (b : Tups H1 H2) : Tups H H2 := fun c xs h => b c xs (a c xs h)
theorem ShAt.tups {H H' : Hp} (t : Tups H H') : ∀ {n : Nat} {v : V} {sh : Sh}, ShAt n H v sh → ShAt n H' v sh
  | 0, _, _, h => h
  | n + 1, v, .one s, h => by
    obtain ⟨a, e, h⟩ := h
    exact ⟨a, e, t _ _ h⟩
  | n + 1, v, .row ps, h => by
    obtain ⟨a, b, vs, e, h1, h2, hl, r⟩ := h
    exact ⟨a, b, vs, e, t _ _ h1, t _ _ h2, hl, Paired.mapP r fun _ _ q => ShAt.tups t q⟩
  | n + 1, v, .either ps, h => by
    obtain ⟨a, b, vs, e, h1, h2, hl, r⟩ := h
    exact ⟨a, b, vs, e, t _ _ h1, t _ _ h2, hl, Paired.mapP r fun _ _ q => ShAt.tups t q⟩
  | n + 1, v, .many p, h => by
    obtain ⟨a, u, e, h1, r⟩ := h
    exact ⟨a, u, e, t _ _ h1, ShAt.tups t r⟩
  | n + 1, v, .times p lo hi, h => by
    obtain ⟨a, u, e, h1, h2, h3, h4, r⟩ := h
    exact ⟨a, u, e, t _ _ h1, h2, h3, h4, ShAt.tups t r⟩
/-- deeper is no harm -/
theorem ShAt.up {H : Hp} : ∀ {n : Nat} {v : V} {sh : Sh}, ShAt n H v sh → ShAt (n + 1) H v sh
  | 0, _, _, h => h.elim
  | n + 1, v, .one s, h => h
  | n + 1, v, .row ps, h => by
    obtain ⟨a, b, vs, e, h1, h2, hl, r⟩ := h
    exact ⟨a, b, vs, e, h1, h2, hl, Paired.mapP r fun _ _ q => ShAt.up q⟩
  | n + 1, v, .either ps, h => by
    obtain ⟨a, b, vs, e, h1, h2, hl, r⟩ := h
    exact ⟨a, b, vs, e, h1, h2, hl, Paired.mapP r fun _ _ q => ShAt.up q⟩
  | n + 1, v, .many p, h => by
    obtain ⟨a, u, e, h1, r⟩ := h
    exact ⟨a, u, e, h1, ShAt.up r⟩
  | n + 1, v, .times p lo hi, h => by
    obtain ⟨a, u, e, h1, h2, h3, h4, r⟩ := h
    exact ⟨a, u, e, h1, h2, h3, h4, ShAt.up r⟩
/-- the weight, by depth -/
def weightS : Nat → Sh → Int
  | 0, _ => 0
  | _ + 1, .one _ => 1
  | n + 1, .row ps => (ps.map (weightS n)).sum
  | n + 1, .either ps => (ps.map (weightS n)).sum
  | n + 1, .many p => ([p].map (weightS n)).sum
  | n + 1, .times p _ hi => hi * ([p].map (weightS n)).sum
/-- the parts in order, by depth -/
def partsS : Nat → Sh → List Sh
  | 0, sh => [sh]
  | n + 1, sh => sh :: ((innerS sh).map (partsS n)).flatten
end SHP

set_option Elab.async false
set_option linter.all false
set_option maxRecDepth 100000
set_option maxHeartbeats 4000000
namespace L2
open PySem PySem.Spec PyProof.Rows
open PySem.AutoSeq1 in
theorem list_extend_tup (l b : Addr) (xs ys : Array Value) (n m : Nat) (dd : Option Addr) (sl : Array (Option Value)) (long : ¬(!xs.isEmpty && Builtin.List.listTooLong (xs.size + ys.size)) = true) (fit1 : xs.size ≤ sizeLine) (fit2 : xs.size + ys.size ≤ sizeLine + 1) :
    Meets (Builtin.«list.extend» ⟨[.ref l, .ref b], []⟩) (fun _ R s => (s.heap.get? l = some { cls := .type "list", dict := none, data := .seq xs n, slots := #[] } ∧ s.heap.get? b = some { cls := .type "tuple", dict := dd, data := .seq ys m, slots := sl }) ∧ R (.ok (.ret Value.none)) { s with heap := s.heap.update l (Obj.mapSeq (· ++ ys)) }) :=
  .of_wp fun prog w A R ⟨hp, gn, dr, tk, os⟩ ⟨⟨hl, hb⟩, q⟩ => by
    have a1 := idx_int
    have a2 := AutoSeq1.sub_tuple_tuple
    have a3 := AutoSeq1.sub_list_list
    have a4 := AutoSeq1.sub_tuple_list
    have a5 := AutoSeq1.sub_list_tuple
    have both : (xs ++ ys).size ≤ sizeLine + 1 := by simpa using fit2
    wp_walk using wpAny_updateSeq hl rfl (hz := fit1) (_hz' := both), wpAny_loadPart' hl, wpAny_loadPart' hb
    exact ⟨_, rfl, q⟩
section
variable {X : Cx}
/-- xs.extend(t), t a tuple -/
def rExtendT (K : PySem.W.Frag) : V → List V → Hp → VK → Prop := fun x vs H Q => ∃ l b xs zs, x = .ref l ∧ vs = [.ref b] ∧ H l = some (.lst xs) ∧ SqT K H b zs ∧ xs.length + zs.length ≤ sizeLine ∧ Q .non (upd H l (.lst (xs ++ zs)))
theorem mt_extendT : MtM X "list.extend" (rExtendT X.K) := by
  intro pins s σ H x vs v us Q I rx rv h
  obtain ⟨l, b, xs, zs, rfl, rfl, hH, hB, hz, q⟩ := h
  cases rx
  obtain ⟨u, rfl, ru⟩ := rv.one
  cases ru
  obtain ⟨z, its, n, r, hl, e⟩ := I.lstM hH
  obtain ⟨its2, r2, p2, _⟩ := I.tuple hB
  have hl2 := r2.length
  obtain ⟨⟨cls, dd, data, sl⟩, e2, hc, hrest⟩ := id p2
  have hsz : its.toArray.size + its2.toArray.size ≤ sizeLine := by rw [List.size_toArray, List.size_toArray]; omega
  have hlong : ¬ (!its.toArray.isEmpty && Builtin.List.listTooLong (its.toArray.size + its2.toArray.size)) = true := by
    rw [notLongL hsz, Bool.and_false]
    exact Bool.false_ne_true
  obtain ⟨n2, hd⟩ := (show ∃ n2, data = .seq its2.toArray n2 from by first | exact hrest | exact ⟨_, hrest.2⟩ | (obtain ⟨_, n, hd⟩ := hrest; exact ⟨n, hd⟩))
  have hc' : cls = .type "tuple" := hc
  subst hc' hd
  refine call_meets F.slot_list_extend ⟨_, e, rfl⟩ F.entry_list_extend (F.args_list_extend_2 _ _)
    (list_extend_tup l b its.toArray its2.toArray n n2 dd sl hlong (by rw [List.size_toArray]; omega) (by omega)) ⟨⟨e, e2⟩, ?_⟩
  refine ⟨.non, _, I.lset (its' := its ++ its2) hH e (by simp) (r.append r2) ?_, rfl, q⟩
  rw [List.length_append]
  omega
end
end L2
namespace SHP
open PySem L2
/-- the values that stand straight within the shape at v -/
def Kids (H : Hp) (v : V) : Sh → List V → Prop
  | .one _, ks => ks = []
  | .row _, ks => ∃ a b, v = .ref a ∧ H a = some (.tup [.str "row", .ref b]) ∧ H b = some (.tup ks)
  | .either _, ks => ∃ a b, v = .ref a ∧ H a = some (.tup [.str "either", .ref b]) ∧ H b = some (.tup ks)
  | .many _, ks => ∃ a u, v = .ref a ∧ H a = some (.tup [.str "many", u]) ∧ ks = [u]
  | .times _ lo hi, ks => ∃ a u, v = .ref a ∧ H a = some (.tup [.str "times", u, .int lo, .int hi]) ∧ ks = [u]
theorem Kids.tups {H H' : Hp} (t : Tups H H') {v : V} {ks : List V} : ∀ {sh : Sh}, Kids H v sh ks → Kids H' v sh ks
  | .one _, h => h
  | .row _, h => by obtain ⟨a, b, e, h1, h2⟩ := h; exact ⟨a, b, e, t _ _ h1, t _ _ h2⟩
  | .either _, h => by obtain ⟨a, b, e, h1, h2⟩ := h; exact ⟨a, b, e, t _ _ h1, t _ _ h2⟩
  | .many _, h => by obtain ⟨a, u, e, h1, h2⟩ := h; exact ⟨a, u, e, t _ _ h1, h2⟩
  | .times _ _ _, h => by obtain ⟨a, u, e, h1, h2⟩ := h; exact ⟨a, u, e, t _ _ h1, h2⟩
/-- three lists side by side -/
inductive Tri {α β γ : Type} (R : α → β → γ → Prop) : List α → List β → List γ → Prop where
  | nil : Tri R [] [] []
  | cons {a b c as bs cs} : R a b c → Tri R as bs cs → Tri R (a :: as) (b :: bs) (c :: cs)
theorem Tri.imp {α β γ : Type} {R S : α → β → γ → Prop} : ∀ {as : List α} {bs : List β} {cs : List γ}, Tri R as bs cs → (∀ a b c, R a b c → S a b c) → Tri S as bs cs
  | _, _, _, .nil, _ => .nil
  | _, _, _, .cons r t, f => .cons (f _ _ _ r) (Tri.imp t f)
theorem Tri.snoc {α β γ : Type} {R : α → β → γ → Prop} {a : α} {b : β} {c : γ} (r : R a b c) : ∀ {as : List α} {bs : List β} {cs : List γ}, Tri R as bs cs → Tri R (as ++ [a]) (bs ++ [b]) (cs ++ [c])
  | _, _, _, .nil => .cons r .nil
  | _, _, _, .cons q t => .cons q (Tri.snoc r t)
/-- us are the values of the parts of the shape at v, in order -/
def PV : Nat → Hp → V → Sh → List V → Prop
  | 0, _, _, _, _ => False
  | n + 1, H, v, sh, us => ∃ ks uss, Kids H v sh ks ∧ Tri (PV n H) ks (innerS sh) uss ∧ us = v :: uss.flatten
theorem PV.tups {H H' : Hp} (t : Tups H H') : ∀ {n : Nat} {v : V} {sh : Sh} {us : List V}, PV n H v sh us → PV n H' v sh us
  | 0, _, _, _, h => h
  | n + 1, _, _, _, h => by
    obtain ⟨ks, uss, k, r, e⟩ := h
    exact ⟨ks, uss, k.tups t, r.imp fun _ _ _ q => PV.tups t q, e⟩
end SHP

set_option Elab.async false
set_option linter.all false
set_option maxRecDepth 100000
set_option maxHeartbeats 4000000
/-! What a def reckons, as a plain function of plain data: tuples stand by value, what can be changed stands in a list of objects by its number. -/
namespace MI
open PySem L2
inductive D where
  | non | bl (b : Bool) | int (i : Int) | str (x : Str) | ty (n : String) | tup (xs : List D) | rol (xs : List D) | ref (i : Nat)
inductive O where
  | lst (xs : List D) | dK (kvs : List (Key × D))
abbrev Hd := List O
abbrev Sd := List (Option D)
inductive R (α : Type) where
  | ok (a : α) (h : Hd) | ex (c : Str) (h : Hd) | no
def R.bind {α β : Type} : R α → (α → Hd → R β) → R β
  | .ok a h, k => k a h
  | .ex c h, _ => .ex c h
  | .no, _ => .no
inductive Fl where
  | nx (σ : Sd) (h : Hd) | rt (d : D) (h : Hd) | bk (σ : Sd) (h : Hd) | ct (σ : Sd) (h : Hd) | ex (c : Str) (h : Hd) | no
def R.fl {α : Type} : R α → (α → Hd → Fl) → Fl
  | .ok a h, k => k a h
  | .ex c h, _ => .ex c h
  | .no, _ => .no
abbrev SE := Sd → Hd → R D
abbrev ST := Sd → Hd → R Bool
abbrev SA := Sd → Hd → R (List D)
abbrev SS := Sd → Hd → Fl

/-! ### how data stand in the heap -/
/-- a list that nobody changes: the script, or one of the module -/
def SqF (K : PySem.W.Frag) (H : Hp) (a : Addr) (vs : List V) : Prop := (∃ o, H a = some (.frz o (.lst vs))) ∨ SqL K (fun _ => none) a vs
theorem SqF.l {K : PySem.W.Frag} {H : Hp} {a : Addr} {vs : List V} (h : SqF K H a vs) : SqL K H a vs := by
  rcases h with ⟨o, h⟩ | h
  · exact .inl (.inr ⟨o, h⟩)
  · rcases h with (h | ⟨o, h⟩) | h
    · cases h
    · cases h
    · exact .inr h
mutual
inductive Rep (K : PySem.W.Frag) (ι : List Addr) (H : Hp) : V → D → Prop
  | non : Rep K ι H .non .non
  | bl (b : Bool) : Rep K ι H (.bl b) (.bl b)
  | int (i : Int) : Rep K ι H (.int i) (.int i)
  | str (x : Str) : Rep K ι H (.str x) (.str x)
  | ty (n : String) : Rep K ι H (.ty n) (.ty n)
  | tup {a : Addr} {vs : List V} {xs : List D} (h : H a = some (.tup vs)) (r : Reps K ι H vs xs) : Rep K ι H (.ref a) (.tup xs)
  | rol {a : Addr} {vs : List V} {xs : List D} (h : SqF K H a vs) (r : Reps K ι H vs xs) : Rep K ι H (.ref a) (.rol xs)
  | ref {a : Addr} {i : Nat} (h : ι[i]? = some a) : Rep K ι H (.ref a) (.ref i)
inductive Reps (K : PySem.W.Frag) (ι : List Addr) (H : Hp) : List V → List D → Prop
  | nil : Reps K ι H [] []
  | cons {v : V} {d : D} {vs : List V} {ds : List D} (r : Rep K ι H v d) (rs : Reps K ι H vs ds) : Reps K ι H (v :: vs) (d :: ds)
end
/-- what grows: new numbers; tuples and frozen things stay -/
structure Gr (ι : List Addr) (H : Hp) (ι' : List Addr) (H' : Hp) : Prop where
  pre : ∃ m, ι' = ι ++ m
  tup : ∀ a vs, H a = some (.tup vs) → H' a = some (.tup vs)
  frz : ∀ a o u, H a = some (.frz o u) → H' a = some (.frz o u)
theorem Gr.refl (ι : List Addr) (H : Hp) : Gr ι H ι H := ⟨⟨[], by simp⟩, fun _ _ h => h, fun _ _ _ h => h⟩
theorem Gr.trans {ι ι1 ι2 : List Addr} {H H1 H2 : Hp} (a : Gr ι H ι1 H1) (b : Gr ι1 H1 ι2 H2) : Gr ι H ι2 H2 := by
  obtain ⟨m, rfl⟩ := a.pre
  obtain ⟨n, rfl⟩ := b.pre
  exact ⟨⟨m ++ n, by simp⟩, fun x vs h => b.tup x vs (a.tup x vs h), fun x o u h => b.frz x o u (a.frz x o u h)⟩
theorem Gr.at {ι ι' : List Addr} {H H' : Hp} (g : Gr ι H ι' H') {i : Nat} {a : Addr} (h : ι[i]? = some a) : ι'[i]? = some a := by
  obtain ⟨m, rfl⟩ := g.pre
  rw [List.getElem?_append_left (List.getElem?_eq_some_iff.mp h).1]
  exact h
theorem SqF.mono {K : PySem.W.Frag} {ι ι' : List Addr} {H H' : Hp} (g : Gr ι H ι' H') {a : Addr} {vs : List V} (h : SqF K H a vs) : SqF K H' a vs := by
  rcases h with ⟨o, h⟩ | h
  · exact .inl ⟨o, g.frz _ _ _ h⟩
  · exact .inr h
mutual
theorem Rep.mono {K : PySem.W.Frag} {ι ι' : List Addr} {H H' : Hp} (g : Gr ι H ι' H') : ∀ {v : V} {d : D}, Rep K ι H v d → Rep K ι' H' v d
  | _, _, .non => .non
  | _, _, .bl b => .bl b
  | _, _, .int i => .int i
  | _, _, .str x => .str x
  | _, _, .ty n => .ty n
  | _, _, .tup h r => .tup (g.tup _ _ h) (Reps.mono g r)
  | _, _, .rol h r => .rol (h.mono g) (Reps.mono g r)
  | _, _, .ref h => .ref (g.at h)
theorem Reps.mono {K : PySem.W.Frag} {ι ι' : List Addr} {H H' : Hp} (g : Gr ι H ι' H') : ∀ {vs : List V} {ds : List D}, Reps K ι H vs ds → Reps K ι' H' vs ds
  | _, _, .nil => .nil
  | _, _, .cons r rs => .cons (Rep.mono g r) (Reps.mono g rs)
end
section
variable {K : PySem.W.Frag} {ι : List Addr} {H : Hp}
theorem Reps.len {vs : List V} {ds : List D} : Reps K ι H vs ds → vs.length = ds.length
  | .nil => rfl
  | .cons _ rs => by rw [List.length_cons, List.length_cons, rs.len]
theorem Reps.get : ∀ {vs : List V} {ds : List D} {i : Nat} {d : D}, Reps K ι H vs ds → ds[i]? = some d → ∃ v, vs[i]? = some v ∧ Rep K ι H v d
  | _, _, _, _, .nil, e => by simp at e
  | _, _, 0, _, .cons r _, e => by simp at e; subst e; exact ⟨_, rfl, r⟩
  | _, _, i + 1, d, .cons _ rs, e => by
    obtain ⟨u, h1, h2⟩ := Reps.get (i := i) (d := d) rs (by simpa using e)
    exact ⟨u, by simpa using h1, h2⟩
theorem Reps.app : ∀ {vs us : List V} {ds es : List D}, Reps K ι H vs ds → Reps K ι H us es → Reps K ι H (vs ++ us) (ds ++ es)
  | _, _, _, _, .nil, s => s
  | _, _, _, _, .cons r rs, s => .cons r (Reps.app rs s)
theorem Reps.set {v : V} {d : D} (q : Rep K ι H v d) : ∀ {vs : List V} {ds : List D} (i : Nat), Reps K ι H vs ds → Reps K ι H (vs.set i v) (ds.set i d)
  | _, _, _, .nil => .nil
  | _, _, 0, .cons _ rs => .cons q rs
  | _, _, i + 1, .cons r rs => .cons r (Reps.set q i rs)
theorem Reps.take : ∀ {vs : List V} {ds : List D} (n : Nat), Reps K ι H vs ds → Reps K ι H (vs.take n) (ds.take n)
  | _, _, 0, _ => .nil
  | _, _, _ + 1, .nil => .nil
  | _, _, n + 1, .cons r rs => .cons r (Reps.take n rs)
theorem Reps.drop : ∀ {vs : List V} {ds : List D} (n : Nat), Reps K ι H vs ds → Reps K ι H (vs.drop n) (ds.drop n)
  | _, _, 0, r => r
  | _, _, _ + 1, .nil => .nil
  | _, _, n + 1, .cons _ rs => Reps.drop n rs
theorem Reps.erase : ∀ {vs : List V} {ds : List D} (n : Nat), Reps K ι H vs ds → Reps K ι H (vs.eraseIdx n) (ds.eraseIdx n)
  | _, _, _, .nil => .nil
  | _, _, 0, .cons _ rs => rs
  | _, _, n + 1, .cons r rs => .cons r (Reps.erase n rs)
theorem Reps.snoc {vs : List V} {ds : List D} {v : V} {d : D} (r : Reps K ι H vs ds) (q : Rep K ι H v d) : Reps K ι H (vs ++ [v]) (ds ++ [d]) := r.app (.cons q .nil)
theorem Reps.flat : ∀ {vs : List V} {ds : List D} (k : Nat), Reps K ι H vs ds → Reps K ι H (List.replicate k vs).flatten (List.replicate k ds).flatten
  | _, _, 0, _ => .nil
  | vs, ds, k + 1, r => by
    rw [List.replicate_succ, List.replicate_succ, List.flatten_cons, List.flatten_cons]
    exact r.app (Reps.flat k r)
end
/-- how an object stands at an address -/
def KRep (K : PySem.W.Frag) (ι : List Addr) (H : Hp) (us : List (Key × V)) (kvs : List (Key × D)) : Prop := us.map (·.1) = kvs.map (·.1) ∧ Reps K ι H (us.map (·.2)) (kvs.map (·.2))
def ORep (K : PySem.W.Frag) (ι : List Addr) (H : Hp) (a : Addr) : O → Prop
  | .lst xs => ∃ vs, H a = some (.lst vs) ∧ Reps K ι H vs xs
  | .dK kvs => ∃ us, H a = some (.dK us) ∧ KRep K ι H us kvs
structure HRep (K : PySem.W.Frag) (ι : List Addr) (H : Hp) (h : Hd) : Prop where
  nd : ι.Nodup
  len : ι.length = h.length
  obj : ∀ (i : Nat) (a : Addr) (o : O), ι[i]? = some a → h[i]? = some o → ORep K ι H a o
section
variable {K : PySem.W.Frag} {ι : List Addr} {H : Hp} {h : Hd}
theorem ORep.some {a : Addr} {o : O} (r : ORep K ι H a o) : ∃ u, H a = some u ∧ (∀ vs, u ≠ .tup vs) ∧ (∀ o' u', u ≠ .frz o' u') := by
  cases o with
  | lst xs => obtain ⟨vs, e, _⟩ := r; exact ⟨_, e, fun _ z => (by cases z), fun _ _ z => (by cases z)⟩
  | dK kvs => obtain ⟨us, e, _⟩ := r; exact ⟨_, e, fun _ z => (by cases z), fun _ _ z => (by cases z)⟩
theorem HRep.at (r : HRep K ι H h) {i : Nat} {a : Addr} (e : ι[i]? = some a) : ∃ o, h[i]? = some o ∧ ORep K ι H a o := by
  have hi : i < h.length := by rw [← r.len]; exact (List.getElem?_eq_some_iff.mp e).1
  exact ⟨h[i], List.getElem?_eq_getElem hi, r.obj i a _ e (List.getElem?_eq_getElem hi)⟩
theorem HRep.addr (r : HRep K ι H h) {i : Nat} {o : O} (e : h[i]? = some o) : ∃ a, ι[i]? = some a ∧ ORep K ι H a o := by
  have hi : i < ι.length := by rw [r.len]; exact (List.getElem?_eq_some_iff.mp e).1
  exact ⟨ι[i], List.getElem?_eq_getElem hi, r.obj i _ o (List.getElem?_eq_getElem hi) e⟩
theorem HRep.notin (r : HRep K ι H h) {p : Addr} (e : H p = none) : p ∉ ι := fun z => by
  obtain ⟨i, hi⟩ := List.getElem?_of_mem z
  obtain ⟨o, _, q⟩ := r.at hi
  obtain ⟨u, q, _⟩ := q.some
  rw [e] at q; cases q
theorem ORep.mono {ι' : List Addr} {H' : Hp} {a : Addr} {o : O} (g : Gr ι H ι' H') (e : H' a = H a) (r : ORep K ι H a o) : ORep K ι' H' a o := by
  cases o with
  | lst xs => obtain ⟨vs, h1, h2⟩ := r; exact ⟨vs, by rw [e]; exact h1, h2.mono g⟩
  | dK kvs => obtain ⟨us, h1, h2, h3⟩ := r; exact ⟨us, by rw [e]; exact h1, h2, h3.mono g⟩
/-- a new thing that is no object of ours (a tuple) -/
theorem gr_new {p : Addr} (e : H p = none) (o : HO) : Gr ι H ι (upd H p o) :=
  ⟨⟨[], by simp⟩, fun a vs h => by rw [upd_ne (ne_of_none h e)]; exact h, fun a o u h => by rw [upd_ne (ne_of_none h e)]; exact h⟩
theorem HRep.aside (r : HRep K ι H h) {p : Addr} (e : H p = none) (o : HO) : HRep K ι (upd H p o) h := by
  refine ⟨r.nd, r.len, fun i a o' e1 e2 => ?_⟩
  have q := r.obj i a o' e1 e2
  obtain ⟨u, hu, _⟩ := q.some
  exact q.mono (gr_new e o) (upd_ne (ne_of_none hu e))
/-- a new object -/
theorem gr_add {p : Addr} (e : H p = none) (o : HO) : Gr ι H (ι ++ [p]) (upd H p o) :=
  ⟨⟨[p], rfl⟩, (gr_new (ι := ι) e o).tup, (gr_new (ι := ι) e o).frz⟩
theorem HRep.add (r : HRep K ι H h) {p : Addr} (e : H p = none) {o : HO} {ob : O} (q : ORep K (ι ++ [p]) (upd H p o) p ob) : HRep K (ι ++ [p]) (upd H p o) (h ++ [ob]) := by
  refine ⟨?_, by simp [r.len], fun i a o' e1 e2 => ?_⟩
  · rw [List.nodup_append]
    exact ⟨r.nd, by simp, fun a ha b hb z => r.notin e (by rw [List.mem_singleton.mp hb] at z; rw [← z]; exact ha)⟩
  · by_cases hi : i < ι.length
    · rw [List.getElem?_append_left hi] at e1
      rw [List.getElem?_append_left (by rw [← r.len]; exact hi)] at e2
      have q := r.obj i a o' e1 e2
      obtain ⟨u, hu, _⟩ := q.some
      exact q.mono (gr_add e o) (upd_ne (ne_of_none hu e))
    · have hi2 : i < (ι ++ [p]).length := (List.getElem?_eq_some_iff.mp e1).1
      have : i = ι.length := by simp at hi2; omega
      subst this
      rw [List.getElem?_append_right (Nat.le_refl _)] at e1
      rw [r.len, List.getElem?_append_right (Nat.le_refl _)] at e2
      simp at e1 e2
      subst e1 e2
      exact q
/-- an object changed -/
theorem gr_put {a : Addr} {i : Nat} (r : HRep K ι H h) (e : ι[i]? = some a) (o : HO) : Gr ι H ι (upd H a o) := by
  obtain ⟨_, _, q⟩ := r.at e
  obtain ⟨u, hu, n1, n2⟩ := q.some
  refine ⟨⟨[], by simp⟩, fun b vs hb => ?_, fun b o' u' hb => ?_⟩
  · rw [upd_ne (fun z => by subst z; rw [hu] at hb; exact n1 _ (Option.some.inj hb))]; exact hb
  · rw [upd_ne (fun z => by subst z; rw [hu] at hb; exact n2 _ _ (Option.some.inj hb))]; exact hb
theorem HRep.put (r : HRep K ι H h) {a : Addr} {i : Nat} (e : ι[i]? = some a) {o : HO} {ob : O} (q : ORep K ι (upd H a o) a ob) : HRep K ι (upd H a o) (h.set i ob) := by
  refine ⟨r.nd, by rw [List.length_set]; exact r.len, fun j b o' e1 e2 => ?_⟩
  by_cases hj : i = j
  · subst hj
    rw [e] at e1; cases e1
    have hi : i < h.length := by rw [← r.len]; exact (List.getElem?_eq_some_iff.mp e).1
    rw [List.getElem?_set_self hi] at e2; cases e2
    exact q
  · rw [List.getElem?_set_ne hj] at e2
    have hne : b ≠ a := fun z => by
      subst z
      obtain ⟨h1, g1⟩ := List.getElem?_eq_some_iff.mp e
      obtain ⟨h2, g2⟩ := List.getElem?_eq_some_iff.mp e1
      have np := List.pairwise_iff_getElem.mp r.nd
      rcases Nat.lt_or_gt_of_ne hj with l | l
      · exact np i j h1 h2 l (g1.trans g2.symm)
      · exact np j i h2 h1 l (g2.trans g1.symm)
    exact (r.obj j b o' e1 e2).mono (gr_put r e o) (upd_ne hne)
end
/-- the names' values -/
structure SRep (K : PySem.W.Frag) (ι : List Addr) (H : Hp) (σ : St) (τ : Sd) : Prop where
  len : σ.length = τ.length
  val : ∀ (i : Nat) (d : D), τ[i]? = some (some d) → ∃ v, σ[i]? = some (some v) ∧ Rep K ι H v d
theorem SRep.mono {K : PySem.W.Frag} {ι ι' : List Addr} {H H' : Hp} {σ : St} {τ : Sd} (g : Gr ι H ι' H') (s : SRep K ι H σ τ) : SRep K ι' H' σ τ :=
  ⟨s.len, fun i d e => let ⟨v, h1, h2⟩ := s.val i d e; ⟨v, h1, h2.mono g⟩⟩
theorem SRep.set {K : PySem.W.Frag} {ι : List Addr} {H : Hp} {σ : St} {τ : Sd} (s : SRep K ι H σ τ) {v : V} {d : D} (r : Rep K ι H v d) (i : Nat) : SRep K ι H (σ.set i (some v)) (τ.set i (some d)) := by
  refine ⟨by simp [s.len], fun j d' e => ?_⟩
  by_cases hj : i = j
  · subst hj
    have hi : i < τ.length := by
      have := (List.getElem?_eq_some_iff.mp e).1
      simpa using this
    rw [List.getElem?_set_self hi] at e
    cases e
    exact ⟨v, by rw [List.getElem?_set_self (by rw [s.len]; exact hi)], r⟩
  · rw [List.getElem?_set_ne hj] at e ⊢
    exact s.val j d' e

/-! ### what is wanted of a result -/
abbrev XD := Str → List Addr → Hp → Hd → Prop
def out {α β : Type} (K : PySem.W.Frag) (E : XD) (Rp : List Addr → Hp → β → α → Prop) (ι : List Addr) (H : Hp) (r : R α) (Q : β → Hp → Prop) : Prop :=
  match r with
  | .ok a h => ∀ ι' H' b, Gr ι H ι' H' → Rp ι' H' b a → HRep K ι' H' h → Q b H'
  | .ex c h => ∀ ι' H', Gr ι H ι' H' → HRep K ι' H' h → E c ι' H' h
  | .no => False
theorem out_mono {α β : Type} {K : PySem.W.Frag} {E : XD} {Rp : List Addr → Hp → β → α → Prop} {ι ι1 : List Addr} {H H1 : Hp} {r : R α} {Q : β → Hp → Prop} (o : out K E Rp ι H r Q) (g : Gr ι H ι1 H1) : out K E Rp ι1 H1 r Q := by
  cases r with
  | ok a h => exact fun ι' H' b g' => o ι' H' b (g.trans g')
  | ex c h => exact fun ι' H' g' => o ι' H' (g.trans g')
  | no => exact o
/-- one thing behind another -/
theorem out_bind {α β γ δ : Type} {K : PySem.W.Frag} {E : XD} {Rp : List Addr → Hp → β → α → Prop} {Sp : List Addr → Hp → δ → γ → Prop} {ι : List Addr} {H : Hp} {r : R α} {k : α → Hd → R γ} {Q : δ → Hp → Prop} {P : β → Hp → Prop}
    (o : out K E Sp ι H (r.bind k) Q) (hP : ∀ a h ι1 H1 b, Gr ι H ι1 H1 → Rp ι1 H1 b a → HRep K ι1 H1 h → out K E Sp ι1 H1 (k a h) Q → P b H1) : out K E Rp ι H r P := by
  cases r with
  | ok a h => exact fun ι' H' b g r' hr => hP a h ι' H' b g r' hr (out_mono o g)
  | ex c h => exact o
  | no => exact o
abbrev repD (K : PySem.W.Frag) : List Addr → Hp → V → D → Prop := fun ι H v d => Rep K ι H v d
abbrev repL (K : PySem.W.Frag) : List Addr → Hp → List V → List D → Prop := fun ι H v d => Reps K ι H v d
abbrev repB : List Addr → Hp → Bool → Bool → Prop := fun _ _ a b => a = b
abbrev repO : List Addr → Hp → Option Int → Option Int → Prop := fun _ _ a b => a = b
def outS (K : PySem.W.Frag) (E : XD) (ι : List Addr) (H : Hp) (r : Fl) (N : Ends) : Prop :=
  match r with
  | .nx τ h => ∀ ι' H' σ, Gr ι H ι' H' → SRep K ι' H' σ τ → HRep K ι' H' h → N.nx σ H'
  | .bk τ h => ∀ ι' H' σ, Gr ι H ι' H' → SRep K ι' H' σ τ → HRep K ι' H' h → N.bk σ H'
  | .ct τ h => ∀ ι' H' σ, Gr ι H ι' H' → SRep K ι' H' σ τ → HRep K ι' H' h → N.ct σ H'
  | .rt d h => ∀ ι' H' v, Gr ι H ι' H' → Rep K ι' H' v d → HRep K ι' H' h → N.rt v H'
  | .ex c h => ∀ ι' H', Gr ι H ι' H' → HRep K ι' H' h → E c ι' H' h
  | .no => False
theorem outS_mono {K : PySem.W.Frag} {E : XD} {ι ι1 : List Addr} {H H1 : Hp} {r : Fl} {N : Ends} (o : outS K E ι H r N) (g : Gr ι H ι1 H1) : outS K E ι1 H1 r N := by
  cases r with
  | nx τ h => exact fun ι' H' b g' => o ι' H' b (g.trans g')
  | bk τ h => exact fun ι' H' b g' => o ι' H' b (g.trans g')
  | ct τ h => exact fun ι' H' b g' => o ι' H' b (g.trans g')
  | rt d h => exact fun ι' H' b g' => o ι' H' b (g.trans g')
  | ex c h => exact fun ι' H' g' => o ι' H' (g.trans g')
  | no => exact o
theorem out_fl {α β : Type} {K : PySem.W.Frag} {E : XD} {Rp : List Addr → Hp → β → α → Prop} {ι : List Addr} {H : Hp} {r : R α} {k : α → Hd → Fl} {N : Ends} {P : β → Hp → Prop}
    (o : outS K E ι H (r.fl k) N) (hP : ∀ a h ι1 H1 b, Gr ι H ι1 H1 → Rp ι1 H1 b a → HRep K ι1 H1 h → outS K E ι1 H1 (k a h) N → P b H1) : out K E Rp ι H r P := by
  cases r with
  | ok a h => exact fun ι' H' b g r' hr => hP a h ι' H' b g r' hr (outS_mono o g)
  | ex c h => exact o
  | no => exact o
def lift {α β : Type} (K : PySem.W.Frag) (E : XD) (Rp : List Addr → Hp → β → α → Prop) (f : Sd → Hd → R α) : St → Hp → (β → Hp → Prop) → Prop := fun σ H Q =>
  ∃ ι τ h, SRep K ι H σ τ ∧ HRep K ι H h ∧ out K E Rp ι H (f τ h) Q
def liftS (K : PySem.W.Frag) (E : XD) (f : SS) : TS := fun N σ H => ∃ ι τ h, SRep K ι H σ τ ∧ HRep K ι H h ∧ outS K E ι H (f τ h) N
abbrev ME (X : Cx) (E : XD) (e : Expr) (f : SE) : Prop := PE X e (lift X.K E (repD X.K) f)
abbrev MT (X : Cx) (E : XD) (e : Expr) (f : ST) : Prop := PT X e (lift X.K E repB f)
abbrev MW (X : Cx) (E : XD) (e : Expr) (f : ST) : Prop := PW X e (lift X.K E repB f)
abbrev MA (X : Cx) (E : XD) (es : List Expr) (f : SA) : Prop := PA X es (lift X.K E (repL X.K) f)
abbrev MS (X : Cx) (E : XD) (st : Stmt) (f : SS) : Prop := PS X st (liftS X.K E f)
abbrev MSs (X : Cx) (E : XD) (st : List Stmt) (f : SS) : Prop := PSs X st (liftS X.K E f)
theorem PE.weak {X : Cx} {e : Expr} {t t' : TE} (h : PE X e t) (i : ∀ σ H Q, t' σ H Q → t σ H Q) : PE X e t' := fun pins s σ H Q I q => h pins s σ H Q I (i _ _ _ q)
theorem PT.weak {X : Cx} {e : Expr} {t t' : TT} (h : PT X e t) (i : ∀ σ H Q, t' σ H Q → t σ H Q) : PT X e t' := fun pins s σ H Q I q => h pins s σ H Q I (i _ _ _ q)
theorem PW.weak {X : Cx} {e : Expr} {t t' : TT} (h : PW X e t) (i : ∀ σ H Q, t' σ H Q → t σ H Q) : PW X e t' := fun wh pins s σ H Q I q => h wh pins s σ H Q I (i _ _ _ q)
theorem PA.weak {X : Cx} {e : List Expr} {t t' : TA} (h : PA X e t) (i : ∀ σ H Q, t' σ H Q → t σ H Q) : PA X e t' := fun pos pins s σ H Q I q => h pos pins s σ H Q I (i _ _ _ q)
theorem PS.weak {X : Cx} {e : Stmt} {t t' : TS} (h : PS X e t) (i : ∀ N σ H, t' N σ H → t N σ H) : PS X e t' := fun pins s σ H N I q => h pins s σ H N I (i _ _ _ q)
theorem PSs.weak {X : Cx} {e : List Stmt} {t t' : TS} (h : PSs X e t) (i : ∀ N σ H, t' N σ H → t N σ H) : PSs X e t' := fun pins s σ H N I q => h pins s σ H N I (i _ _ _ q)
end MI

set_option Elab.async false
set_option linter.all false
set_option maxRecDepth 100000
set_option maxHeartbeats 4000000
namespace MI
open PySem L2
abbrev LINE : Nat := 16777216
theorem ll {n : Nat} (h : n ≤ LINE) : n ≤ sizeLine := le_line h
/-! ### names, constants -/
def sV (i : Nat) : SE := fun τ h => match τ[i]? with | some (some d) => .ok d h | _ => .no
def sC (d : D) : SE := fun _ h => .ok d h
section
variable {X : Cx} {E : XD} {a b c e : Expr} {fa fb fc : SE} {pos : Pos}
theorem me_v (i : Nat) {x : Str} {pos : Pos} (hN : X.N[i]? = some x := by rfl) (hv : Vis X.env.scope x := by first | exact Or.inl rfl | exact Or.inr (Or.inl rfl) | exact Or.inr (Or.inr rfl)) (hd : (x == ("__debug__" : Str)) = false := by decide)
    (hcd : (x == ("__classdict__" : Str)) = false := by decide) : ME X E (.Name x pos) (sV i) := by
  refine PE.weak (pe_var hN hv hd hcd) fun σ H Q ⟨ι, τ, h, S, Rh, o⟩ => ?_
  unfold sV at o
  split at o
  · rename_i d e
    obtain ⟨v, h1, h2⟩ := S.val i d e
    exact ⟨v, h1, o ι H v (.refl _ _) h2 Rh⟩
  · exact o.elim
theorem me_c {v : V} {d : D} (h : PE X e (tC v)) (r : ∀ ι H, Rep X.K ι H v d) : ME X E e (sC d) :=
  PE.weak h fun σ H Q ⟨ι, τ, h, S, Rh, o⟩ => o ι H v (.refl _ _) (r ι H) Rh
theorem me_int {i j pos} : ME X E (.Constant (.int i) j pos) (sC (.int i)) := me_c pe_int fun _ _ => .int i
theorem me_bl {i j pos} : ME X E (.Constant (.bool i) j pos) (sC (.bl i)) := me_c pe_bl fun _ _ => .bl i
theorem me_str {i j pos} : ME X E (.Constant (.str i) j pos) (sC (.str i)) := me_c pe_str fun _ _ => .str i
theorem me_non {j pos} : ME X E (.Constant .none j pos) (sC .non) := me_c pe_non fun _ _ => .non
theorem me_ty {x : Str} {n : String} {pos : Pos} (hg : Gl X x) (hm : X.mg x = none) (hv : bootBuiltins x = some (.type n)) (hn : x ≠ "__name__" := by decide) (hd : (x == ("__debug__" : Str)) = false := by decide) : ME X E (.Name x pos) (sC (.ty n)) :=
  me_c (pe_bltn (v := .ty n) hg hm hv rfl hn hd) fun _ _ => .ty n
/-- a number of the module -/
theorem me_gint {x : Str} {i : Int} {t : Tok} {pos : Pos} (hg : Gl X x) (hm : X.mg x = some (.int i t)) (hd : (x == ("__debug__" : Str)) = false := by decide) : ME X E (.Name x pos) (sC (.int i)) :=
  me_c (pe_glob (v := .int i) hg hm ⟨t, rfl⟩ hd) fun _ _ => .int i
/-! ### operations -/
def s2 (g : D → D → Hd → R D) (fa fb : SE) : SE := fun τ h => (fa τ h).bind fun x h1 => (fb τ h1).bind fun y h2 => g x y h2
def s1 (g : D → Hd → R D) (fa : SE) : SE := fun τ h => (fa τ h).bind g
def Snd2 (K : PySem.W.Frag) (g : D → D → Hd → R D) (r : R2) : Prop := ∀ (E : XD) ι H h x y dx dy Q, Rep K ι H x dx → Rep K ι H y dy → HRep K ι H h → out K E (repD K) ι H (g dx dy h) Q → r x y H Q
def Snd1 (K : PySem.W.Frag) (g : D → Hd → R D) (r : V → Hp → VK → Prop) : Prop := ∀ (E : XD) ι H h x dx Q, Rep K ι H x dx → HRep K ι H h → out K E (repD K) ι H (g dx h) Q → r x H Q
def SndL (K : PySem.W.Frag) (g : List D → Hd → R D) (r : List V → Hp → VK → Prop) : Prop := ∀ (E : XD) ι H h xs ds Q, Reps K ι H xs ds → HRep K ι H h → out K E (repD K) ι H (g ds h) Q → r xs H Q
theorem bin2 {g : D → D → Hd → R D} {r : R2} {K : PySem.W.Frag} (hs : Snd2 K g r) {σ : St} {H : Hp} {Q : VK} (q : lift K E (repD K) (s2 g fa fb) σ H Q) : tOp r (lift K E (repD K) fa) (lift K E (repD K) fb) σ H Q := by
  obtain ⟨ι, τ, h, S, Rh, o⟩ := q
  refine ⟨ι, τ, h, S, Rh, out_bind o fun d h1 ι1 H1 v g1 r1 hr1 o1 => ?_⟩
  refine ⟨ι1, τ, h1, S.mono g1, hr1, out_bind o1 fun d2 h2 ι2 H2 u g2 r2 hr2 o2 => ?_⟩
  exact hs E ι2 H2 h2 v u d d2 Q (r1.mono g2) r2 hr2 o2
theorem me_op {op : Operator} {r : R2} {g : D → D → Hd → R D} (ho : OpR X (binaryOp op) r) (hs : Snd2 X.K g r) (ha : ME X E a fa) (hb : ME X E b fb) : ME X E (.BinOp a op b pos) (s2 g fa fb) :=
  PE.weak (pe_op ho ha hb) fun σ H Q q => bin2 hs q
theorem me_cmpO {op : CmpOp} {r : R2} {g : D → D → Hd → R D} (ho : OpR X (compareOp op) r) (hs : Snd2 X.K g r) (ha : ME X E a fa) (hb : ME X E b fb) (hm : behindInMarks op b = false) : ME X E (.Compare a [op] [b] pos) (s2 g fa fb) :=
  PE.weak (pe_cmpR ho ha hb hm) fun σ H Q q => bin2 hs q
theorem me_un {op : UnaryOp} {r : V → Hp → VK → Prop} {g : D → Hd → R D} (ho : UnR X (unaryOp op) r) (hs : Snd1 X.K g r) (ha : ME X E a fa) : ME X E (.UnaryOp op a pos) (s1 g fa) := by
  refine PE.weak (pe_un ho ha) fun σ H Q ⟨ι, τ, h, S, Rh, o⟩ => ?_
  exact ⟨ι, τ, h, S, Rh, out_bind o fun d h1 ι1 H1 v g1 r1 hr1 o1 => hs E ι1 H1 h1 v d Q r1 hr1 o1⟩
theorem me_ix {r : R2} {g : D → D → Hd → R D} (ho : IxR X r) (hs : Snd2 X.K g r) (ha : ME X E a fa) (hb : ME X E b fb) (hp : PlainIx b) : ME X E (.Subscript a b pos) (s2 g fa fb) :=
  PE.weak (pe_ix ho ha hb hp) fun σ H Q q => bin2 hs q
def asB (d : D) (h : Hd) : R Bool := match d with | .bl b => .ok b h | _ => .no
def sT (f : SE) : ST := fun τ h => (f τ h).bind asB
theorem test_of {K : PySem.W.Frag} {t : TE} {f : SE} (hi : ∀ σ H Q, lift K E (repD K) f σ H Q → t σ H Q) {σ : St} {H : Hp} {Q : Bool → Hp → Prop} (q : lift K E repB (sT f) σ H Q) : tTest t σ H Q := by
  refine hi σ H _ ?_
  obtain ⟨ι, τ, h, S, Rh, o⟩ := q
  refine ⟨ι, τ, h, S, Rh, out_bind o fun d h1 ι1 H1 v g1 r1 hr1 o1 => ?_⟩
  cases r1 with
  | bl b => exact ⟨b, rfl, o1 ι1 H1 b (.refl _ _) rfl hr1⟩
  | _ => exact o1.elim
theorem mt_cmpO {op : CmpOp} {r : R2} {g : D → D → Hd → R D} (ho : OpR X (compareOp op) r) (hs : Snd2 X.K g r) (ha : ME X E a fa) (hb : ME X E b fb) (hm : behindInMarks op b = false) : MT X E (.Compare a [op] [b] pos) (sT (s2 g fa fb)) :=
  PT.weak (pt_cmpR ho ha hb hm) fun σ H Q q => test_of (fun _ _ _ => bin2 hs) q
/-- a op b op' c -/
def sCh (g g' : D → D → Hd → R D) (fa fb fc : SE) : SE := fun τ h => (fa τ h).bind fun x h1 => (fb τ h1).bind fun y h2 => (g x y h2).bind fun z h3 => match z with
  | .bl true => (fc τ h3).bind fun w h4 => g' y w h4
  | .bl false => .ok (.bl false) h3
  | _ => .no
theorem chain2 {K : PySem.W.Frag} {g g' : D → D → Hd → R D} {r r' : R2} (hs : Snd2 K g r) (hs' : Snd2 K g' r') {σ : St} {H : Hp} {Q : VK} (q : lift K E (repD K) (sCh g g' fa fb fc) σ H Q) :
    tChain r r' (lift K E (repD K) fa) (lift K E (repD K) fb) (lift K E (repD K) fc) σ H Q := by
  obtain ⟨ι, τ, h, S, Rh, o⟩ := q
  refine ⟨ι, τ, h, S, Rh, out_bind o fun d h1 ι1 H1 v g1 r1 hr1 o1 => ?_⟩
  refine ⟨ι1, τ, h1, S.mono g1, hr1, out_bind o1 fun d2 h2 ι2 H2 u g2 r2 hr2 o2 => ?_⟩
  refine hs E ι2 H2 h2 v u d d2 _ (r1.mono g2) r2 hr2 (out_bind o2 fun d3 h3 ι3 H3 z g3 r3 hr3 o3 => ?_)
  cases r3 with
  | bl k =>
    refine ⟨k, rfl, ?_⟩
    cases k with
    | true =>
      rw [if_pos rfl]
      refine ⟨ι3, τ, h3, ((S.mono g1).mono g2).mono g3, hr3, out_bind o3 fun d4 h4 ι4 H4 w g4 r4 hr4 o4 => ?_⟩
      exact hs' E ι4 H4 h4 u w d2 d4 Q ((r2.mono g3).mono g4) r4 hr4 o4
    | false =>
      rw [if_neg Bool.false_ne_true]
      exact o3 ι3 H3 (.bl false) (.refl _ _) (.bl false) hr3
  | _ => exact o3.elim
theorem me_chain {op op' : CmpOp} {r r' : R2} {g g' : D → D → Hd → R D} (ho : OpR X (compareOp op) r) (ho' : OpR X (compareOp op') r') (hs : Snd2 X.K g r) (hs' : Snd2 X.K g' r') (ha : ME X E a fa) (hb : ME X E b fb) (hc : ME X E c fc)
    (hm : lastMarks [op, op'] [b, c] = false := by with_unfolding_all rfl) : ME X E (.Compare a [op, op'] [b, c] pos) (sCh g g' fa fb fc) :=
  PE.weak (pe_chain ho ho' ha hb hc hm) fun σ H Q q => chain2 hs hs' q
theorem mt_chain {op op' : CmpOp} {r r' : R2} {g g' : D → D → Hd → R D} (ho : OpR X (compareOp op) r) (ho' : OpR X (compareOp op') r') (hs : Snd2 X.K g r) (hs' : Snd2 X.K g' r') (ha : ME X E a fa) (hb : ME X E b fb) (hc : ME X E c fc)
    (hm : lastMarks [op, op'] [b, c] = false := by with_unfolding_all rfl) : MT X E (.Compare a [op, op'] [b, c] pos) (sT (sCh g g' fa fb fc)) :=
  PT.weak (pt_chain ho ho' ha hb hc hm) fun σ H Q q => test_of (fun _ _ _ => chain2 hs hs') q
/-! ### truth, and, or, not, if -/
def tru (d : D) (h : Hd) : R Bool := match d with
  | .non => .ok false h
  | .bl b => .ok b h
  | .int i => .ok (i != 0) h
  | .str x => if x.length ≤ LINE then .ok ((x.length : Int) != 0) h else .no
  | .tup xs => .ok (!xs.isEmpty) h
  | .rol xs => .ok (!xs.isEmpty) h
  | .ref i => match h[i]? with
    | some (.lst xs) => .ok (!xs.isEmpty) h
    | some (.dK kvs) => .ok (!kvs.isEmpty) h
    | none => .no
  | .ty _ => .no
theorem Reps.emp {K : PySem.W.Frag} {ι : List Addr} {H : Hp} {vs : List V} {ds : List D} (r : Reps K ι H vs ds) : vs.isEmpty = ds.isEmpty := by cases r <;> rfl
theorem KRep.emp {K : PySem.W.Frag} {ι : List Addr} {H : Hp} {us : List (Key × V)} {kvs : List (Key × D)} (r : KRep K ι H us kvs) : us.isEmpty = kvs.isEmpty := by
  have := congrArg List.length r.1
  cases us <;> cases kvs <;> simp at this ⊢
theorem tru_snd {K : PySem.W.Frag} {ι : List Addr} {H : Hp} {h : Hd} {x : V} {d : D} {Q : Bool → Hp → Prop} (r : Rep K ι H x d) (hr : HRep K ι H h) (o : out K E repB ι H (tru d h) Q) : ∃ k, TruV K x H k ∧ Q k H := by
  cases r with
  | non => exact ⟨false, rfl, o ι H _ (.refl _ _) rfl hr⟩
  | bl b => exact ⟨b, rfl, o ι H _ (.refl _ _) rfl hr⟩
  | int i => exact ⟨_, rfl, o ι H _ (.refl _ _) rfl hr⟩
  | str x =>
    by_cases hl : x.length ≤ LINE
    · simp only [tru, if_pos hl] at o
      exact ⟨_, ⟨ll hl, rfl⟩, o ι H _ (.refl _ _) rfl hr⟩
    · simp only [tru, if_neg hl] at o
      exact o.elim
  | ty n => exact o.elim
  | tup e rs => exact ⟨_, .inr (.inl ⟨_, SqT.of e, rfl⟩), by rw [rs.emp]; exact o ι H _ (.refl _ _) rfl hr⟩
  | rol e rs => exact ⟨_, .inl ⟨_, e.l, rfl⟩, by rw [rs.emp]; exact o ι H _ (.refl _ _) rfl hr⟩
  | @ref a i e =>
    obtain ⟨ob, h1, h2⟩ := hr.at e
    simp only [tru, h1] at o
    cases ob with
    | lst xs =>
      obtain ⟨vs, h3, h4⟩ := h2
      exact ⟨_, .inl ⟨_, SqL.of h3, rfl⟩, by rw [h4.emp]; exact o ι H _ (.refl _ _) rfl hr⟩
    | dK kvs =>
      obtain ⟨us, h3, h4⟩ := h2
      exact ⟨_, .inr (.inr ⟨_, h3, rfl⟩), by rw [h4.emp]; exact o ι H _ (.refl _ _) rfl hr⟩
def sTru (f : SE) : ST := fun τ h => (f τ h).bind tru
theorem mt_val (ha : ME X E a fa) (he : ∀ whole, isTrue a X.env whole = (do let v ← whole; standAt a.pos; holding [v] (truthy v)) := by intro _; rfl) : MT X E a (sTru fa) := by
  refine PT.weak (pt_truth ha he) fun σ H Q ⟨ι, τ, h, S, Rh, o⟩ => ?_
  exact ⟨ι, τ, h, S, Rh, out_bind o fun d h1 ι1 H1 v g1 r1 hr1 o1 => tru_snd r1 hr1 o1⟩
def sAnd (f g : ST) : ST := fun τ h => (f τ h).bind fun b h1 => if b = true then g τ h1 else .ok false h1
def sOr (f g : ST) : ST := fun τ h => (f τ h).bind fun b h1 => if b = true then .ok true h1 else g τ h1
def sNot (f : ST) : ST := fun τ h => (f τ h).bind fun b h1 => .ok (!b) h1
variable {ga gb : ST}
theorem mw_and1 (ha : MT X E a ga) : MW X E (.BoolOp .And [a] pos) ga := pw_and1 ha
theorem mw_or1 (ha : MT X E a ga) : MW X E (.BoolOp .Or [a] pos) ga := pw_or1 ha
theorem mw_and {rest : List Expr} (ha : MT X E a ga) (hb : MW X E (.BoolOp .And (b :: rest) pos) gb) : MW X E (.BoolOp .And (a :: b :: rest) pos) (sAnd ga gb) := by
  refine PW.weak (pw_and ha hb) fun σ H Q ⟨ι, τ, h, S, Rh, o⟩ => ?_
  refine ⟨ι, τ, h, S, Rh, out_bind o fun d h1 ι1 H1 v g1 r1 hr1 o1 => ?_⟩
  cases r1
  cases d with
  | true => exact ⟨ι1, τ, h1, S.mono g1, hr1, o1⟩
  | false => exact o1 ι1 H1 false (.refl _ _) rfl hr1
theorem mw_or {rest : List Expr} (ha : MT X E a ga) (hb : MW X E (.BoolOp .Or (b :: rest) pos) gb) : MW X E (.BoolOp .Or (a :: b :: rest) pos) (sOr ga gb) := by
  refine PW.weak (pw_or ha hb) fun σ H Q ⟨ι, τ, h, S, Rh, o⟩ => ?_
  refine ⟨ι, τ, h, S, Rh, out_bind o fun d h1 ι1 H1 v g1 r1 hr1 o1 => ?_⟩
  cases r1
  cases d with
  | true => exact o1 ι1 H1 true (.refl _ _) rfl hr1
  | false => exact ⟨ι1, τ, h1, S.mono g1, hr1, o1⟩
theorem mt_not (ha : MT X E a ga) : MT X E (.UnaryOp .Not a pos) (sNot ga) := by
  refine PT.weak (pt_not ha) fun σ H Q ⟨ι, τ, h, S, Rh, o⟩ => ?_
  refine ⟨ι, τ, h, S, Rh, out_bind o fun d h1 ι1 H1 v g1 r1 hr1 o1 => ?_⟩
  cases r1
  exact o1 ι1 H1 _ (.refl _ _) rfl hr1
def sAndV (f g : SE) : SE := fun τ h => (f τ h).bind fun d h1 => match d with | .bl true => g τ h1 | .bl false => .ok (.bl false) h1 | _ => .no
def sOrV (f g : SE) : SE := fun τ h => (f τ h).bind fun d h1 => match d with | .bl true => .ok (.bl true) h1 | .bl false => g τ h1 | _ => .no
def sNotV (f : SE) : SE := fun τ h => (f τ h).bind fun d h1 => match d with | .bl b => .ok (.bl (!b)) h1 | _ => .no
theorem me_one {op} (ha : ME X E a fa) : ME X E (.BoolOp op [a] pos) fa := pe_one ha
theorem me_and {rest : List Expr} (ha : ME X E a fa) (hb : ME X E (.BoolOp .And (b :: rest) pos) fb) : ME X E (.BoolOp .And (a :: b :: rest) pos) (sAndV fa fb) := by
  refine PE.weak (pe_and ha hb) fun σ H Q ⟨ι, τ, h, S, Rh, o⟩ => ?_
  refine ⟨ι, τ, h, S, Rh, out_bind o fun d h1 ι1 H1 v g1 r1 hr1 o1 => ?_⟩
  cases r1 with
  | bl k =>
    refine ⟨k, rfl, ?_⟩
    cases k with
    | true => exact ⟨ι1, τ, h1, S.mono g1, hr1, o1⟩
    | false => exact o1 ι1 H1 _ (.refl _ _) (.bl _) hr1
  | _ => exact o1.elim
theorem me_or {rest : List Expr} (ha : ME X E a fa) (hb : ME X E (.BoolOp .Or (b :: rest) pos) fb) : ME X E (.BoolOp .Or (a :: b :: rest) pos) (sOrV fa fb) := by
  refine PE.weak (pe_or ha hb) fun σ H Q ⟨ι, τ, h, S, Rh, o⟩ => ?_
  refine ⟨ι, τ, h, S, Rh, out_bind o fun d h1 ι1 H1 v g1 r1 hr1 o1 => ?_⟩
  cases r1 with
  | bl k =>
    refine ⟨k, rfl, ?_⟩
    cases k with
    | false => exact ⟨ι1, τ, h1, S.mono g1, hr1, o1⟩
    | true => exact o1 ι1 H1 _ (.refl _ _) (.bl _) hr1
  | _ => exact o1.elim
theorem me_not (ha : ME X E a fa) : ME X E (.UnaryOp .Not a pos) (sNotV fa) := by
  refine PE.weak (pe_not ha) fun σ H Q ⟨ι, τ, h, S, Rh, o⟩ => ?_
  refine ⟨ι, τ, h, S, Rh, out_bind o fun d h1 ι1 H1 v g1 r1 hr1 o1 => ?_⟩
  cases r1 with
  | bl k => exact ⟨k, rfl, o1 ι1 H1 _ (.refl _ _) (.bl _) hr1⟩
  | _ => exact o1.elim
def sIfE (c : ST) (f g : SE) : SE := fun τ h => (c τ h).bind fun b h1 => if b = true then f τ h1 else g τ h1
theorem me_ifE (hc : MT X E c ga) (ha : ME X E a fa) (hb : ME X E b fb) : ME X E (.IfExp c a b pos) (sIfE ga fa fb) := by
  refine PE.weak (pe_ifExp hc ha hb) fun σ H Q ⟨ι, τ, h, S, Rh, o⟩ => ?_
  refine ⟨ι, τ, h, S, Rh, out_bind o fun d h1 ι1 H1 v g1 r1 hr1 o1 => ?_⟩
  cases r1
  cases d with
  | true => exact ⟨ι1, τ, h1, S.mono g1, hr1, o1⟩
  | false => exact ⟨ι1, τ, h1, S.mono g1, hr1, o1⟩
/-! ### arguments, tuples, lists -/
def sNil : SA := fun _ h => .ok [] h
def sCons (f : SE) (g : SA) : SA := fun τ h => (f τ h).bind fun d h1 => (g τ h1).bind fun ds h2 => .ok (d :: ds) h2
variable {es : List Expr} {ka : SA}
theorem ma_nil : MA X E [] sNil := PA.weak pa_nil fun σ H Q ⟨ι, τ, h, S, Rh, o⟩ => o ι H [] (.refl _ _) .nil Rh
theorem ma_cons (ha : ME X E e fa) (hr : MA X E es ka) (hs : starEach (e :: es) X.env = (false, eval e X.env) :: starEach es X.env := by rfl) : MA X E (e :: es) (sCons fa ka) := by
  refine PA.weak (pa_cons ha hr hs) fun σ H Q ⟨ι, τ, h, S, Rh, o⟩ => ?_
  refine ⟨ι, τ, h, S, Rh, out_bind o fun d h1 ι1 H1 v g1 r1 hr1 o1 => ?_⟩
  refine ⟨ι1, τ, h1, S.mono g1, hr1, out_bind o1 fun d2 h2 ι2 H2 u g2 r2 hr2 o2 => ?_⟩
  exact o2 ι2 H2 _ (.refl _ _) (.cons (r1.mono g2) r2) hr2
def gTup (ds : List D) (h : Hd) : R D := if ds.length ≤ LINE then .ok (.tup ds) h else .no
def gLst (ds : List D) (h : Hd) : R D := if ds.length ≤ LINE then .ok (.ref h.length) (h ++ [.lst ds]) else .no
def sA (g : List D → Hd → R D) (k : SA) : SE := fun τ h => (k τ h).bind g
theorem new_tup {K : PySem.W.Frag} {ι : List Addr} {H : Hp} {h : Hd} {vs : List V} {ds : List D} {Q : VK} (r : Reps K ι H vs ds) (hr : HRep K ι H h) (o : out K E (repD K) ι H (.ok (.tup ds) h) Q) : ∀ p, H p = none → Q (.ref p) (upd H p (.tup vs)) := fun p hp =>
  o ι _ _ (gr_new hp _) (.tup upd_same (r.mono (gr_new hp _))) (hr.aside hp _)
theorem new_lst {K : PySem.W.Frag} {ι : List Addr} {H : Hp} {h : Hd} {vs : List V} {ds : List D} {Q : VK} (r : Reps K ι H vs ds) (hr : HRep K ι H h) (o : out K E (repD K) ι H (.ok (.ref h.length) (h ++ [.lst ds])) Q) : ∀ p, H p = none → Q (.ref p) (upd H p (.lst vs)) := fun p hp =>
  o (ι ++ [p]) _ _ (gr_add hp _) (.ref (by rw [List.getElem?_append_right (by rw [hr.len]; exact Nat.le_refl _), hr.len]; simp)) (hr.add hp ⟨_, upd_same, r.mono (gr_add hp _)⟩)
theorem put_lst {K : PySem.W.Frag} {ι : List Addr} {H : Hp} {h : Hd} {i : Nat} {a : Addr} {vs : List V} {ds : List D} {d : D} {v : V} {Q : VK} (r : Reps K ι H vs ds) (hr : HRep K ι H h) (hi : ι[i]? = some a) (rd : Rep K ι H v d) (o : out K E (repD K) ι H (.ok d (h.set i (.lst ds))) Q) : Q v (upd H a (.lst vs)) :=
  o ι _ _ (gr_put hr hi _) (rd.mono (gr_put hr hi _)) (hr.put hi ⟨_, upd_same, r.mono (gr_put hr hi _)⟩)
theorem me_tup {x1} (h : MA X E es ka) : ME X E (.Tuple es x1 pos) (sA gTup ka) := by
  refine PE.weak (pe_tup h) fun σ H Q ⟨ι, τ, h, S, Rh, o⟩ => ?_
  refine ⟨ι, τ, h, S, Rh, out_bind o fun d h1 ι1 H1 v g1 r1 hr1 o1 => ?_⟩
  unfold gTup at o1
  split at o1
  · rename_i hl
    exact ⟨ll (by rw [r1.len]; exact hl), new_tup r1 hr1 o1⟩
  · exact o1.elim
theorem me_lst (h : MA X E es ka) : ME X E (.List es pos) (sA gLst ka) := by
  refine PE.weak (pe_lst h) fun σ H Q ⟨ι, τ, h, S, Rh, o⟩ => ?_
  refine ⟨ι, τ, h, S, Rh, out_bind o fun d h1 ι1 H1 v g1 r1 hr1 o1 => ?_⟩
  unfold gLst at o1
  split at o1
  · rename_i hl
    exact ⟨ll (by rw [r1.len]; exact hl), new_lst r1 hr1 o1⟩
  · exact o1.elim
/-! ### calls of what Python brings -/
theorem me_fn {x : Str} {p : Pos} {id : String} {r : List V → Hp → VK → Prop} {g : List D → Hd → R D} (hc : CallR X (.builtin id) r) (hs : SndL X.K g r) (hg : Gl X x) (hm : X.mg x = none) (hv : bootBuiltins x = some (.builtin id)) (ha : MA X E (e :: es) ka) (hn : x ≠ "__name__" := by decide) (hdb : (x == ("__debug__" : Str)) = false := by decide)
    (he : starEach (e :: es) X.env = (false, eval e X.env) :: starEach es X.env := by rfl) (hpl : (backTo pos (starEach es X.env)).any (·.1) = false := by rfl) : ME X E (.Call (.Name x p) (e :: es) [] pos) (sA g ka) := by
  refine PE.weak (pe_callB hc hg hm hv ha hn hdb he hpl) fun σ H Q ⟨ι, τ, h, S, Rh, o⟩ => ?_
  exact ⟨ι, τ, h, S, Rh, out_bind o fun d h1 ι1 H1 v g1 r1 hr1 o1 => hs E ι1 H1 h1 v d Q r1 hr1 o1⟩
theorem me_fnTy {x : Str} {p : Pos} {id : String} {r : List V → Hp → VK → Prop} {g : List D → Hd → R D} (hc : CallR X (.type id) r) (hs : SndL X.K g r) (hg : Gl X x) (hm : X.mg x = none) (hv : bootBuiltins x = some (.type id)) (ha : MA X E (e :: es) ka) (hn : x ≠ "__name__" := by decide) (hdb : (x == ("__debug__" : Str)) = false := by decide)
    (he : starEach (e :: es) X.env = (false, eval e X.env) :: starEach es X.env := by rfl) (hpl : (backTo pos (starEach es X.env)).any (·.1) = false := by rfl) : ME X E (.Call (.Name x p) (e :: es) [] pos) (sA g ka) := by
  refine PE.weak (pe_callTy hc hg hm hv ha hn hdb he hpl) fun σ H Q ⟨ι, τ, h, S, Rh, o⟩ => ?_
  exact ⟨ι, τ, h, S, Rh, out_bind o fun d h1 ι1 H1 v g1 r1 hr1 o1 => hs E ι1 H1 h1 v d Q r1 hr1 o1⟩
/-- two rules for one expression: the first that gives an answer -/
def sAlt (f g : SE) : SE := fun τ h => match f τ h with | .no => g τ h | r => r
theorem me_alt (hf : ME X E e fa) (hg : ME X E e fb) : ME X E e (sAlt fa fb) := by
  intro pins s σ H Q I ⟨ι, τ, h, S, Rh, o⟩
  unfold sAlt at o
  split at o
  · exact hg pins s σ H Q I ⟨ι, τ, h, S, Rh, o⟩
  · exact hf pins s σ H Q I ⟨ι, τ, h, S, Rh, o⟩
end
end MI

set_option Elab.async false
set_option linter.all false
set_option maxRecDepth 100000
set_option maxHeartbeats 4000000
namespace MI
open PySem L2
/-! ### statements -/
def sSeq (f g : SS) : SS := fun τ h => match f τ h with | .nx τ1 h1 => g τ1 h1 | r => r
def sNx : SS := fun τ h => .nx τ h
def sBk : SS := fun τ h => .bk τ h
def sCt : SS := fun τ h => .ct τ h
def sRet (f : SE) : SS := fun τ h => (f τ h).fl fun d h1 => .rt d h1
def sRetN : SS := fun _ h => .rt .non h
def sDrop (f : SE) : SS := fun τ h => (f τ h).fl fun _ h1 => .nx τ h1
def sIf (c : ST) (f g : SS) : SS := fun τ h => (c τ h).fl fun b h1 => if b = true then f τ h1 else g τ h1
def sSet (i : Nat) (f : SE) : SS := fun τ h => (f τ h).fl fun d h1 => .nx (τ.set i (some d)) h1
def sAug (i : Nat) (g : D → D → Hd → R D) (f : SE) : SS := fun τ h => match τ[i]? with
  | some (some x) => (f τ h).fl fun y h1 => (g x y h1).fl fun z h2 => .nx (τ.set i (some z)) h2
  | _ => .no
section
variable {X : Cx} {E : XD} {e o : Expr} {es : List Expr} {fa fb fc : SE} {ga : ST} {st : Stmt} {sts a b : List Stmt} {f g : SS} {pos : Pos}
theorem mss_nil : MSs X E [] sNx := PSs.weak pss_nil fun N σ H ⟨ι, τ, h, S, Rh, o⟩ => o ι H σ (.refl _ _) S Rh
theorem seq_of {K : PySem.W.Frag} {N : Ends} {σ : St} {H : Hp} (q : liftS K E (sSeq f g) N σ H) : liftS K E f { N with nx := liftS K E g N } σ H := by
  obtain ⟨ι, τ, h, S, Rh, o⟩ := q
  refine ⟨ι, τ, h, S, Rh, ?_⟩
  unfold sSeq at o
  cases hf : f τ h with
  | nx τ1 h1 =>
    rw [hf] at o
    exact fun ι1 H1 σ1 g1 S1 R1 => ⟨ι1, τ1, h1, S1, R1, outS_mono o g1⟩
  | _ => rw [hf] at o; exact o
theorem mss_cons (h1 : MS X E st f) (h2 : MSs X E sts g) : MSs X E (st :: sts) (sSeq f g) := PSs.weak (pss_cons h1 h2) fun N σ H q => seq_of q
theorem mss_one (h1 : MS X E st f) : MSs X E [st] f := pss_one h1
theorem ms_pass : MS X E (.Pass pos) sNx := PS.weak ps_pass fun N σ H ⟨ι, τ, h, S, Rh, o⟩ => o ι H σ (.refl _ _) S Rh
theorem ms_break : MS X E (.Break pos) sBk := PS.weak ps_break fun N σ H ⟨ι, τ, h, S, Rh, o⟩ => o ι H σ (.refl _ _) S Rh
theorem ms_cont : MS X E (.Continue pos) sCt := PS.weak ps_continue fun N σ H ⟨ι, τ, h, S, Rh, o⟩ => o ι H σ (.refl _ _) S Rh
theorem ms_retN : MS X E (.Return none pos) sRetN := PS.weak ps_retN fun N σ H ⟨ι, τ, h, S, Rh, o⟩ => o ι H .non (.refl _ _) .non Rh
theorem ms_ret (he : ME X E e fa) : MS X E (.Return (some e) pos) (sRet fa) := by
  refine PS.weak (ps_ret he) fun N σ H ⟨ι, τ, h, S, Rh, o⟩ => ?_
  exact ⟨ι, τ, h, S, Rh, out_fl o fun d h1 ι1 H1 v g1 r1 hr1 o1 => o1 ι1 H1 v (.refl _ _) r1 hr1⟩
theorem ms_expr (he : ME X E e fa) (hs : swapsWith e none pos.line X.env = pure false := by rfl) : MS X E (.Expr e pos) (sDrop fa) := by
  refine PS.weak (ps_expr he hs) fun N σ H ⟨ι, τ, h, S, Rh, o⟩ => ?_
  exact ⟨ι, τ, h, S, Rh, out_fl o fun d h1 ι1 H1 v g1 r1 hr1 o1 => o1 ι1 H1 σ (.refl _ _) (S.mono g1) hr1⟩
theorem ms_if {c : Expr} (hc : MT X E c ga) (ha : MSs X E a f) (hb : MSs X E b g) : MS X E (.If c a b pos) (sIf ga f g) := by
  refine PS.weak (ps_if hc ha hb) fun N σ H ⟨ι, τ, h, S, Rh, o⟩ => ?_
  refine ⟨ι, τ, h, S, Rh, out_fl o fun d h1 ι1 H1 v g1 r1 hr1 o1 => ?_⟩
  cases r1
  cases d with
  | true => exact ⟨ι1, τ, h1, S.mono g1, hr1, o1⟩
  | false => exact ⟨ι1, τ, h1, S.mono g1, hr1, o1⟩
theorem ms_set {i : Nat} {x : Str} {pos' : Pos} (hN : X.N.Nodup) (hi : X.N[i]? = some x) (hx : Loc X.env.scope x) (he : ME X E e fa) (hs : swapsWith e (some (.Name x pos')) pos.line X.env = pure false := by rfl) (hf : X.fn x = true ∨ X.env.scope.names.lookup x = some .local := by first | exact .inl rfl | exact .inr rfl | assumption) :
    MS X E (.Assign [.Name x pos'] e pos) (sSet i fa) := by
  refine PS.weak (ps_set hN hi hx he hs hf) fun N σ H ⟨ι, τ, h, S, Rh, o⟩ => ?_
  exact ⟨ι, τ, h, S, Rh, out_fl o fun d h1 ι1 H1 v g1 r1 hr1 o1 => o1 ι1 H1 _ (.refl _ _) ((S.mono g1).set r1 i) hr1⟩
theorem ms_aug {i : Nat} {x : Str} {op : Operator} {r : R2} {gg : D → D → Hd → R D} {pos' : Pos} (hN : X.N.Nodup) (hi : X.N[i]? = some x) (hx : Loc X.env.scope x) (ho : OpR X (inplaceOp op) r) (hs : Snd2 X.K gg r) (he : ME X E e fa) (hf : X.fn x = true ∨ X.env.scope.names.lookup x = some .local := by first | exact .inl rfl | exact .inr rfl | assumption) :
    MS X E (.AugAssign (.Name x pos') op e pos) (sAug i gg fa) := by
  refine PS.weak (ps_aug hN hi hx he ho hf) fun N σ H ⟨ι, τ, h, S, Rh, o⟩ => ?_
  unfold sAug at o
  split at o
  · rename_i d ed
    obtain ⟨v, h1, h2⟩ := S.val i d ed
    refine ⟨v, h1, ι, τ, h, S, Rh, out_fl o fun d2 h3 ι1 H1 u g1 r1 hr1 o1 => ?_⟩
    refine hs E ι1 H1 h3 v u d d2 _ (h2.mono g1) r1 hr1 (out_fl o1 fun d3 h4 ι2 H2 z g2 r2 hr2 o2 => ?_)
    exact o2 ι2 H2 _ (.refl _ _) (((S.mono g1).mono g2).set r2 i) hr2
  · exact o.elim
/-- o[i] = e -/
def put (o k v : D) (h : Hd) : Option Hd := match o, k with
  | .ref i, .int j => match h[i]? with
    | some (.lst xs) => match ixN xs.length j with
      | some m => some (h.set i (.lst (xs.set m v)))
      | none => none
    | _ => none
  | _, _ => none
theorem put_snd {K : PySem.W.Frag} {ι : List Addr} {H : Hp} {h h' : Hd} {o k v : V} {od kd vd : D} {Q : Hp → Prop} (r1 : Rep K ι H o od) (r2 : Rep K ι H k kd) (r3 : Rep K ι H v vd) (hr : HRep K ι H h) (e : put od kd vd h = some h')
    (q : ∀ H', Gr ι H ι H' → HRep K ι H' h' → Q H') : rSetL o k v H Q := by
  cases r1 with
  | @ref a i ha =>
    cases r2 with
    | int j =>
      obtain ⟨ob, h1, h2⟩ := hr.at ha
      cases ob with
      | lst xs =>
        obtain ⟨vs, h3, h4⟩ := h2
        simp only [put, h1] at e
        cases hm : ixN xs.length j with
        | none => rw [hm] at e; cases e
        | some m =>
          rw [hm] at e
          cases e
          exact ⟨a, vs, j, m, rfl, rfl, h3, by rw [h4.len]; exact hm, q _ (gr_put hr ha _) (hr.put ha ⟨_, upd_same, (h4.set r3 m).mono (gr_put hr ha _)⟩)⟩
      | dK _ => simp only [put, h1] at e; cases e
    | _ => cases e
  | _ => cases e
def sPut (fe fo fi : SE) : SS := fun τ h => (fe τ h).fl fun v h1 => (fo τ h1).fl fun o h2 => (fi τ h2).fl fun k h3 => match put o k v h3 with | some h4 => .nx τ h4 | none => .no
theorem ms_put {i : Expr} {pos' : Pos} (he : ME X E e fa) (ho : ME X E o fb) (hi : ME X E i fc)
    (hs : swapsWithSole [.Subscript o i pos'] e pos.line X.env = pure false := by rfl) (hw : swappedStores [.Subscript o i pos'] e X.env = pure none := by rfl)
    (h1 : (assignEach [.Subscript o i pos'] X.env).map (·.2) = [assign (.Subscript o i pos') X.env] := by rfl)
    (ha : ∀ v, assign (.Subscript o i pos') X.env v = (do
      let ov ← holding [v] (eval o X.env)
      let iv ← holding [v, ov] (eval i X.env)
      standAt pos'
      holding [v, ov, iv] (setItem ov iv v)
      release [v, ov, iv] []) := by intro _; rfl) : MS X E (.Assign [.Subscript o i pos'] e pos) (sPut fa fb fc) := by
  refine PS.weak (ps_asg he (pg_sub ho hi set_list ha) hs hw h1) fun N σ H ⟨ι, τ, h, S, Rh, oo⟩ => ?_
  refine ⟨ι, τ, h, S, Rh, out_fl oo fun d h1 ι1 H1 v g1 r1 hr1 o1 => ?_⟩
  refine ⟨ι1, τ, h1, S.mono g1, hr1, out_fl o1 fun d2 h2 ι2 H2 u g2 r2 hr2 o2 => ?_⟩
  refine ⟨ι2, τ, h2, (S.mono g1).mono g2, hr2, out_fl o2 fun d3 h3 ι3 H3 w g3 r3 hr3 o3 => ?_⟩
  cases hp : put d2 d3 d h3 with
  | none => rw [hp] at o3; exact o3.elim
  | some h4 =>
    rw [hp] at o3
    exact put_snd (r2.mono g3) r3 ((r1.mono g2).mono g3) hr3 hp fun H' g4 hr4 => o3 ι3 H' σ g4 ((((S.mono g1).mono g2).mono g3).mono g4) hr4
/-- two rules for one statement -/
def sAltS (f g : SS) : SS := fun τ h => match f τ h with | .no => g τ h | r => r
theorem ms_alt (hf : MS X E st f) (hg : MS X E st g) : MS X E st (sAltS f g) := by
  intro pins s σ H Q I ⟨ι, τ, h, S, Rh, o⟩
  unfold sAltS at o
  split at o
  · exact hg pins s σ H Q I ⟨ι, τ, h, S, Rh, o⟩
  · exact hf pins s σ H Q I ⟨ι, τ, h, S, Rh, o⟩
/-! ### while, at most n turns -/
def sWh (c : ST) (f : SS) : Nat → SS
  | 0, _, _ => .no
  | n + 1, τ, h => (c τ h).fl fun b h1 => if b = true then (match f τ h1 with | .nx τ2 h2 => sWh c f n τ2 h2 | .ct τ2 h2 => sWh c f n τ2 h2 | .bk τ2 h2 => .nx τ2 h2 | r => r) else .nx τ h1
theorem ms_while (n : Nat) {c : Expr} (hp : PassesOwn (model X.prog X.w) X.A X.env X.xe) (hc : MT X E c ga) (hb : MSs X E a f) : MS X E (.While c a [] pos) (sWh ga f n) := by
  refine PS.weak (ps_while hp hc hb) fun N σ H q => ?_
  refine ⟨fun m σ H => liftS X.K E (sWh ga f m) N σ H, ⟨n, q⟩, ?_⟩
  rintro m σ1 H1 ⟨ι, τ, h, S, Rh, o⟩
  cases m with
  | zero => exact o.elim
  | succ m =>
    refine ⟨ι, τ, h, S, Rh, out_fl o fun d h1 ι1 H1 v g1 r1 hr1 o1 => ?_⟩
    cases r1
    cases d with
    | false => exact o1 ι1 H1 _ (.refl _ _) (S.mono g1) hr1
    | true =>
      refine ⟨fun σ' H' => liftS X.K E (sWh ga f m) N σ' H', fun σ' H' q => ⟨m, Nat.lt_succ_self m, q⟩, ι1, τ, h1, S.mono g1, hr1, ?_⟩
      rw [if_pos rfl] at o1
      cases hf : f τ h1 with
      | nx τ2 h2 => rw [hf] at o1; exact fun ι2 H2 σ2 g2 S2 R2 => ⟨ι2, τ2, h2, S2, R2, outS_mono o1 g2⟩
      | ct τ2 h2 => rw [hf] at o1; exact fun ι2 H2 σ2 g2 S2 R2 => ⟨ι2, τ2, h2, S2, R2, outS_mono o1 g2⟩
      | bk τ2 h2 => rw [hf] at o1; exact o1
      | rt d h2 => rw [hf] at o1; exact o1
      | ex c h2 => rw [hf] at o1; exact o1
      | no => rw [hf] at o1; exact o1.elim
end
/-! ### targets -/
abbrev SG := D → Sd → Hd → Fl
def liftG (K : PySem.W.Frag) (E : XD) (g : SG) : TG := fun v σ H Q => ∃ ι τ h d, Rep K ι H v d ∧ SRep K ι H σ τ ∧ HRep K ι H h ∧ outS K E ι H (g d τ h) { nx := Q, rt := fun _ _ => False }
abbrev MG (X : Cx) (E : XD) (tg : Expr) (g : SG) : Prop := PG X tg (liftG X.K E g)
abbrev SGs := List D → Sd → Hd → Fl
def liftGs (K : PySem.W.Frag) (E : XD) (g : SGs) : TGs := fun vs σ H Q => ∃ ι τ h ds, Reps K ι H vs ds ∧ SRep K ι H σ τ ∧ HRep K ι H h ∧ outS K E ι H (g ds τ h) { nx := Q, rt := fun _ _ => False }
abbrev MGs (X : Cx) (E : XD) (tg : List Expr) (g : SGs) : Prop := PGs X tg (liftGs X.K E g)
theorem PG.weak {X : Cx} {e : Expr} {t t' : TG} (h : PG X e t) (i : ∀ v σ H Q, t' v σ H Q → t v σ H Q) : PG X e t' := fun pins s σ H v u Q I r q => h pins s σ H v u Q I r (i _ _ _ _ q)
theorem PGs.weak {X : Cx} {e : List Expr} {t t' : TGs} (h : PGs X e t) (i : ∀ v σ H Q, t' v σ H Q → t v σ H Q) : PGs X e t' := fun pins s σ H v u Q I r q => h pins s σ H v u Q I r (i _ _ _ _ q)
def kN (i : Nat) : SG := fun d τ h => .nx (τ.set i (some d)) h
def kNil : SGs := fun ds τ h => match ds with | [] => .nx τ h | _ => .no
def kCons (g : SG) (k : SGs) : SGs := fun ds τ h => match ds with | d :: r => (match g d τ h with | .nx τ1 h1 => k r τ1 h1 | _ => .no) | [] => .no
def kTup (n : Nat) (k : SGs) : SG := fun d τ h => match d with | .tup ds => if ds.length = n then k ds τ h else .no | _ => .no
section
variable {X : Cx} {E : XD} {e : Expr} {es : List Expr} {fa : SE} {pos : Pos} {g : SG} {ks : SGs}
theorem mg_name {i : Nat} {x : Str} (hN : X.N.Nodup) (hi : X.N[i]? = some x) (hx : Loc X.env.scope x) (hf : X.fn x = true ∨ X.env.scope.names.lookup x = some .local := by first | exact .inl rfl | exact .inr rfl | assumption) : MG X E (.Name x pos) (kN i) :=
  PG.weak (pg_name hN hi hx hf) fun v σ H Q ⟨ι, τ, h, d, r, S, Rh, o⟩ => o ι H _ (.refl _ _) (S.set r i) Rh
theorem mgs_nil : MGs X E [] kNil := by
  refine PGs.weak pgs_nil fun vs σ H Q ⟨ι, τ, h, ds, r, S, Rh, o⟩ => ?_
  cases r with
  | nil => exact ⟨rfl, o ι H σ (.refl _ _) S Rh⟩
  | cons _ _ => exact o.elim
theorem gcons_of {K : PySem.W.Frag} {vs : List V} {σ : St} {H : Hp} {Q : St → Hp → Prop} (q : liftGs K E (kCons g ks) vs σ H Q) : gCons (liftG K E g) (liftGs K E ks) vs σ H Q := by
  obtain ⟨ι, τ, h, ds, r, S, Rh, o⟩ := q
  cases r with
  | nil => exact o.elim
  | @cons v d vs ds r rs =>
    refine ⟨v, vs, rfl, ι, τ, h, d, r, S, Rh, ?_⟩
    simp only [kCons] at o
    cases hg : g d τ h with
    | nx τ1 h1 =>
      rw [hg] at o
      exact fun ι1 H1 σ1 g1 S1 R1 => ⟨ι1, τ1, h1, ds, rs.mono g1, S1, R1, outS_mono o g1⟩
    | _ => rw [hg] at o; exact o.elim
theorem mg_tup {k n : Nat} (hc : X.calm = true) (h : MGs X E es ks) (hn : (assignEach es X.env).length = n := by rfl) (hst : (assignEach es X.env).findIdx? (·.1) = none := by rfl) : MG X E (.Tuple es k pos) (kTup n ks) := by
  refine PG.weak (pg_tup hc h hn hst) fun v σ H Q ⟨ι, τ, h, d, r, S, Rh, o⟩ => ?_
  cases r with
  | @tup a vs xs e rs =>
    simp only [kTup] at o
    by_cases hl : xs.length = n
    · rw [if_pos hl] at o
      exact ⟨a, vs, rfl, SqT.of e, by rw [rs.len]; exact hl, ι, τ, h, xs, rs, S, Rh, o⟩
    · rw [if_neg hl] at o; exact o.elim
  | _ => exact o.elim
def sAsg (f : SE) (g : SG) : SS := fun τ h => (f τ h).fl fun d h1 => match g d τ h1 with | .nx τ2 h2 => .nx τ2 h2 | _ => .no
theorem ms_asg {tg : Expr} (he : ME X E e fa) (hg : MG X E tg g) (hs : swapsWithSole [tg] e pos.line X.env = pure false := by rfl) (hw : swappedStores [tg] e X.env = pure none := by rfl)
    (h1 : (assignEach [tg] X.env).map (·.2) = [assign tg X.env] := by rfl) : MS X E (.Assign [tg] e pos) (sAsg fa g) := by
  refine PS.weak (ps_asg he hg hs hw h1) fun N σ H ⟨ι, τ, h, S, Rh, o⟩ => ?_
  refine ⟨ι, τ, h, S, Rh, out_fl o fun d h1 ι1 H1 v g1 r1 hr1 o1 => ⟨ι1, τ, h1, d, r1, S.mono g1, hr1, ?_⟩⟩
  cases hg : g d τ h1 with
  | nx τ1 h1 => rw [hg] at o1; exact o1
  | _ => rw [hg] at o1; exact o1.elim
end
/-! ### what a loop walks -/
structure Itm where
  xs : List D
  ck : Hd → Prop
def IRep (K : PySem.W.Frag) (ι0 : List Addr) (H0 : Hp) (J : It) (it : Itm) : Prop := ∀ ι H h, Gr ι0 H0 ι H → HRep K ι H h → it.ck h →
  (∀ (i : Nat) (d : D), it.xs[i]? = some d → J.go i H ∧ ∀ x H', J.yld i H x H' → Gr ι H ι H' ∧ Rep K ι H' x d ∧ HRep K ι H' h) ∧ J.stop it.xs.length H
abbrev repI (K : PySem.W.Frag) : List Addr → Hp → It → Itm → Prop := fun ι H J it => IRep K ι H J it
abbrev SI := Sd → Hd → R Itm
abbrev MI (X : Cx) (E : XD) (tg iter : Expr) (f : SI) : Prop := PI X tg iter (lift X.K E (repI X.K) f)
def signsD (x : Str) : List D := x.cps.toList.map fun c => D.str ⟨#[c]⟩
def itOf (d : D) (h : Hd) : R Itm := match d with
  | .tup xs => .ok ⟨xs, fun _ => True⟩ h
  | .rol xs => .ok ⟨xs, fun _ => True⟩ h
  | .str x => .ok ⟨signsD x, fun _ => True⟩ h
  | .ref i => match h[i]? with
    | some (.lst xs) => .ok ⟨xs, fun h => h[i]? = some (.lst xs)⟩ h
    | _ => .no
  | _ => .no
def sIt (f : SE) : SI := fun τ h => (f τ h).bind itOf
theorem irep_l {K : PySem.W.Frag} {ι0 : List Addr} {H0 : Hp} {a : Addr} {xs : List D} {ck : Hd → Prop} (hl : ∀ ι H h, Gr ι0 H0 ι H → HRep K ι H h → ck h → ∃ vs, SqL K H a vs ∧ Reps K ι H vs xs) : IRep K ι0 H0 (Itl K a) ⟨xs, ck⟩ := by
  intro ι H h g hr c
  obtain ⟨vs, h1, h2⟩ := hl ι H h g hr c
  refine ⟨fun i d e => ?_, ⟨vs, h1, by rw [h2.len]; exact Nat.le_refl _⟩⟩
  obtain ⟨v, e1, r⟩ := h2.get e
  refine ⟨⟨vs, v, h1, e1⟩, fun x H' y => ?_⟩
  obtain ⟨rfl, y⟩ := y
  have := y vs h1
  rw [e1] at this; cases this
  exact ⟨.refl _ _, r, hr⟩
theorem mi_seq {X : Cx} {E : XD} {tg l : Expr} {f : SE} (hl : ME X E l f) : MI X E tg l (sIt f) := by
  intro pins s σ H Rr I ⟨ι, τ, h, S, Rh, o⟩
  unfold sIt at o
  cases hf : f τ h with
  | no => rw [hf] at o; exact o.elim
  | ex c h1 =>
    rw [hf] at o
    exact pi_str hl pins s σ H Rr I ⟨ι, τ, h, S, Rh, by rw [hf]; exact o⟩
  | ok d h1 =>
    rw [hf] at o
    cases d with
    | tup xs =>
      refine pi_tup hl pins s σ H Rr I ⟨ι, τ, h, S, Rh, ?_⟩
      rw [hf]
      intro ι1 H1 v g1 r1 hr1
      cases r1 with
      | @tup a vs _ e rs =>
        refine ⟨a, rfl, ⟨vs, SqT.of e⟩, o ι1 H1 _ g1 ?_ hr1⟩
        intro ι2 H2 h2 g2 hr2 _
        have e2 := g2.tup _ _ e
        have rs2 := rs.mono g2
        refine ⟨fun i d ed => ?_, ⟨vs, SqT.of e2, by rw [rs2.len]; exact Nat.le_refl _⟩⟩
        obtain ⟨v, e1, r⟩ := rs2.get ed
        refine ⟨⟨vs, v, SqT.of e2, e1⟩, fun x H' y => ?_⟩
        obtain ⟨rfl, y⟩ := y
        have := y vs (SqT.of e2)
        rw [e1] at this; cases this
        exact ⟨.refl _ _, r, hr2⟩
    | rol xs =>
      refine pi_list hl pins s σ H Rr I ⟨ι, τ, h, S, Rh, ?_⟩
      rw [hf]
      intro ι1 H1 v g1 r1 hr1
      cases r1 with
      | @rol a vs _ e rs =>
        refine ⟨a, rfl, ⟨vs, e.l⟩, o ι1 H1 _ g1 ?_ hr1⟩
        exact irep_l (fun ι2 H2 h2 g2 hr2 _ => ⟨vs, (e.mono g2).l, rs.mono g2⟩) 
    | str x =>
      refine pi_str hl pins s σ H Rr I ⟨ι, τ, h, S, Rh, ?_⟩
      rw [hf]
      intro ι1 H1 v g1 r1 hr1
      cases r1
      refine ⟨x, rfl, o ι1 H1 _ g1 ?_ hr1⟩
      intro ι2 H2 h2 g2 hr2 _
      refine ⟨fun i d ed => ?_, by show (signsD x).length = _; simp [signsD]⟩
      simp only [signsD, List.getElem?_map, Option.map_eq_some_iff] at ed
      obtain ⟨c, ec, rfl⟩ := ed
      refine ⟨by show i < x.cps.size; have := (List.getElem?_eq_some_iff.mp ec).1; simpa using this, fun y H' q => ?_⟩
      obtain ⟨rfl, c', ec', rfl⟩ := q
      rw [ec] at ec'; cases ec'
      exact ⟨.refl _ _, .str _, hr2⟩
    | ref i =>
      simp only [R.bind, itOf] at o
      cases ho : h1[i]? with
      | none => rw [ho] at o; exact o.elim
      | some ob =>
        rw [ho] at o
        cases ob with
        | dK _ => exact o.elim
        | lst xs =>
          refine pi_list hl pins s σ H Rr I ⟨ι, τ, h, S, Rh, ?_⟩
          rw [hf]
          intro ι1 H1 v g1 r1 hr1
          cases r1 with
          | @ref a _ e =>
            obtain ⟨vs, e1, rs⟩ := hr1.obj i a _ e ho
            refine ⟨a, rfl, ⟨vs, SqL.of e1⟩, o ι1 H1 _ g1 ?_ hr1⟩
            refine irep_l (fun ι2 H2 h2 g2 hr2 c => ?_) 
            obtain ⟨us, e3, rs3⟩ := hr2.obj i a _ (g2.at e) c
            exact ⟨us, SqL.of e3, rs3⟩
    | _ => exact o.elim
def rng (lo : Int) (n : Nat) : List D := (List.range n).map fun i => D.int (lo + (i : Nat))
def B62 (j : Int) : Prop := -(2 ^ 62) ≤ j ∧ j < 2 ^ 62
instance (j : Int) : Decidable (B62 j) := by unfold B62; exact inferInstance
def gRng1 (ds : List D) (h : Hd) : R Itm := match ds with
  | [.int j] => if B62 j then .ok ⟨rng 0 j.toNat, fun _ => True⟩ h else .no
  | _ => .no
def gRng2 (ds : List D) (h : Hd) : R Itm := match ds with
  | [.int i, .int j] => if B62 i ∧ B62 j then .ok ⟨rng i (j - i).toNat, fun _ => True⟩ h else .no
  | _ => .no
def sRg (g : List D → Hd → R Itm) (k : SA) : SI := fun τ h => (k τ h).bind g
theorem irep_r {K : PySem.W.Frag} {ι0 : List Addr} {H0 : Hp} (lo : Int) (n : Nat) : IRep K ι0 H0 (Itr lo n) ⟨rng lo n, fun _ => True⟩ := by
  intro ι H h g hr _
  refine ⟨fun i d ed => ?_, by show n ≤ (rng lo n).length; simp [rng]⟩
  simp only [rng, List.getElem?_map, Option.map_eq_some_iff] at ed
  obtain ⟨j, ej, rfl⟩ := ed
  obtain ⟨hj, e⟩ := List.getElem?_eq_some_iff.mp ej
  simp at e hj
  subst e
  refine ⟨hj, fun y H' q => ?_⟩
  obtain ⟨rfl, rfl⟩ := q
  exact ⟨.refl _ _, .int _, hr⟩
theorem mi_rng1 {X : Cx} {E : XD} {tg a : Expr} {k : SA} {p pos : Pos} (hg : Gl X "range") (hm : X.mg "range" = none) (ha : MA X E [a] k) (hs : starEach [a] X.env = [(false, eval a X.env)] := by rfl) : MI X E tg (.Call (.Name "range" p) [a] [] pos) (sRg gRng1 k) := by
  intro pins s σ H Rr I ⟨ι, τ, h, S, Rh, o⟩
  refine pi_range1 hg hm ha hs pins s σ H Rr I ⟨ι, τ, h, S, Rh, out_bind o fun ds h1 ι1 H1 vs g1 r1 hr1 o1 => ?_⟩
  unfold gRng1 at o1
  split at o1
  · rename_i j
    cases r1 with
    | cons r rs =>
      cases r; cases rs
      by_cases hb : B62 j
      · rw [if_pos hb] at o1
        exact ⟨j, rfl, hb.1, hb.2, o1 ι1 H1 _ (.refl _ _) (irep_r 0 j.toNat) hr1⟩
      · rw [if_neg hb] at o1; exact o1.elim
  · exact o1.elim
theorem mi_rng2 {X : Cx} {E : XD} {tg a b : Expr} {k : SA} {p pos : Pos} (hg : Gl X "range") (hm : X.mg "range" = none) (ha : MA X E [a, b] k) (hs : starEach [a, b] X.env = [(false, eval a X.env), (false, eval b X.env)] := by rfl) (hs2 : starEach [b] X.env = [(false, eval b X.env)] := by rfl) : MI X E tg (.Call (.Name "range" p) [a, b] [] pos) (sRg gRng2 k) := by
  intro pins s σ H Rr I ⟨ι, τ, h, S, Rh, o⟩
  refine pi_range2 hg hm ha hs hs2 pins s σ H Rr I ⟨ι, τ, h, S, Rh, out_bind o fun ds h1 ι1 H1 vs g1 r1 hr1 o1 => ?_⟩
  unfold gRng2 at o1
  split at o1
  · rename_i i j
    cases r1 with
    | cons r rs =>
      cases r
      cases rs with
      | cons r rs =>
      cases r; cases rs
      by_cases hb : B62 i ∧ B62 j
      · rw [if_pos hb] at o1
        exact ⟨i, j, rfl, ⟨hb.1.1, hb.1.2, hb.2.1, hb.2.2⟩, o1 ι1 H1 _ (.refl _ _) (irep_r i _) hr1⟩
      · rw [if_neg hb] at o1; exact o1.elim
  · exact o1.elim
/-! ### for -/
open Classical in
noncomputable def forL (ck : Hd → Prop) (g : SG) (b : SS) : List D → Sd → Hd → Fl
  | [], τ, h => if ck h then .nx τ h else .no
  | x :: xs, τ, h => if ck h then (match g x τ h with
      | .nx τ1 h1 => (match b τ1 h1 with
        | .nx τ2 h2 => forL ck g b xs τ2 h2
        | .ct τ2 h2 => forL ck g b xs τ2 h2
        | .bk τ2 h2 => .nx τ2 h2
        | r => r)
      | _ => .no) else .no
noncomputable def sFor (f : SI) (g : SG) (b : SS) : SS := fun τ h => (f τ h).fl fun it h1 => forL it.ck g b it.xs τ h1
theorem for_snd {K : PySem.W.Frag} {E : XD} {ι0 : List Addr} {H0 : Hp} {J : It} {it : Itm} {g : SG} {b : SS} {N : Ends} {σ0 : St} {τ0 : Sd} {h0 : Hd} (ir : IRep K ι0 H0 J it) (S : SRep K ι0 H0 σ0 τ0) (Rh : HRep K ι0 H0 h0) (o : outS K E ι0 H0 (forL it.ck g b it.xs τ0 h0) N) :
    ∃ W : Nat → Nat → St → Hp → Prop, (∃ m, W 0 m σ0 H0) ∧ ∀ i m σ H, W i m σ H →
      (J.stop i H ∧ N.nx σ H) ∨ (J.go i H ∧ ∃ M : St → Hp → Prop, (∀ σ' H', M σ' H' → ∃ m', m' < m ∧ W (i + 1) m' σ' H') ∧ ∀ x H', J.yld i H x H' → liftG K E g x σ H' fun σ2 H2 => liftS K E b { N with nx := M, ct := M, bk := N.nx } σ2 H2) := by
  refine ⟨fun i m σ H => m = it.xs.length - i ∧ i ≤ it.xs.length ∧ ∃ ι τ h, Gr ι0 H0 ι H ∧ SRep K ι H σ τ ∧ HRep K ι H h ∧ outS K E ι H (forL it.ck g b (it.xs.drop i) τ h) N, ⟨_, rfl, Nat.zero_le _, ι0, τ0, h0, .refl _ _, S, Rh, o⟩, ?_⟩
  rintro i m σ H ⟨rfl, hi, ι, τ, h, g0, S, Rh, o⟩
  by_cases hlt : i < it.xs.length
  · rw [List.drop_eq_getElem_cons hlt, forL] at o
    by_cases hc : it.ck h
    · rw [if_pos hc] at o
      obtain ⟨go, yl⟩ := (ir ι H h g0 Rh hc).1 i _ (List.getElem?_eq_getElem hlt)
      refine .inr ⟨go, fun σ' H' => it.xs.length - (i + 1) < it.xs.length - i ∧ ∃ ι τ h, Gr ι0 H0 ι H' ∧ SRep K ι H' σ' τ ∧ HRep K ι H' h ∧ outS K E ι H' (forL it.ck g b (it.xs.drop (i + 1)) τ h) N, fun σ' H' q => ⟨_, q.1, rfl, hlt, q.2⟩, fun x H' y => ?_⟩
      obtain ⟨g1, r1, hr1⟩ := yl x H' y
      refine ⟨ι, τ, h, _, r1, S.mono g1, hr1, ?_⟩
      have o' := outS_mono o g1
      cases hg : g it.xs[i] τ h with
      | nx τ1 h1 =>
        rw [hg] at o'
        dsimp only at o'
        intro ι2 H2 σ2 g2 S2 R2
        refine ⟨ι2, τ1, h1, S2, R2, ?_⟩
        have o2 := outS_mono o' g2
        have gg := (g0.trans g1).trans g2
        cases hb : b τ1 h1 with
        | nx τ2 h2 => rw [hb] at o2; exact fun ι3 H3 σ3 g3 S3 R3 => ⟨by omega, ι3, τ2, h2, gg.trans g3, S3, R3, outS_mono o2 g3⟩
        | ct τ2 h2 => rw [hb] at o2; exact fun ι3 H3 σ3 g3 S3 R3 => ⟨by omega, ι3, τ2, h2, gg.trans g3, S3, R3, outS_mono o2 g3⟩
        | bk τ2 h2 => rw [hb] at o2; exact o2
        | rt d h2 => rw [hb] at o2; exact o2
        | ex c h2 => rw [hb] at o2; exact o2
        | no => rw [hb] at o2; exact o2.elim
      | _ => rw [hg] at o'; exact o'.elim
    · rw [if_neg hc] at o; exact o.elim
  · have e : i = it.xs.length := by omega
    subst e
    rw [List.drop_eq_nil_of_le (Nat.le_refl _), forL] at o
    by_cases hc : it.ck h
    · rw [if_pos hc] at o
      exact .inl ⟨(ir ι H h g0 Rh hc).2, o ι H σ (.refl _ _) S Rh⟩
    · rw [if_neg hc] at o; exact o.elim
theorem ms_for {X : Cx} {E : XD} {tg iter : Expr} {body : List Stmt} {f : SI} {g : SG} {b : SS} {pos : Pos} (hp : PassesOwn (model X.prog X.w) X.A X.env X.xe) (hc : X.calm = true) (hi : MI X E tg iter f) (hg : MG X E tg g) (hb : MSs X E body b) (hs : ∀ x, foldedSetIterable iter X.env x = pure x := by intro _; rfl) : MS X E (.For tg iter body [] pos) (sFor f g b) := by
  refine PS.weak (ps_for hp hc hi hg hb hs) fun N σ H ⟨ι, τ, h, S, Rh, o⟩ => ?_
  exact ⟨ι, τ, h, S, Rh, out_fl o fun it h1 ι1 H1 J g1 r1 hr1 o1 => for_snd r1 (S.mono g1) hr1 o1⟩
end MI

set_option Elab.async false
set_option linter.all false
set_option maxRecDepth 100000
set_option maxHeartbeats 4000000
namespace MI
open PySem PySem.Spec L2
theorem R.bind_assoc {α β γ : Type} (r : R α) (f : α → Hd → R β) (g : β → Hd → R γ) : (r.bind f).bind g = r.bind fun a h => (f a h).bind g := by cases r <;> rfl
/-! ### comprehensions -/
open Classical in
noncomputable def mapR (ck : Hd → Prop) (f : D → Hd → R D) : List D → Hd → R (List D)
  | [], h => if ck h then .ok [] h else .no
  | x :: xs, h => if ck h then (f x h).bind fun y h1 => (mapR ck f xs h1).bind fun ys h2 => .ok (y :: ys) h2 else .no
open Classical in
noncomputable def mapF (ck : Hd → Prop) (f : D → Hd → R (Option D)) : List D → Hd → R (List D)
  | [], h => if ck h then .ok [] h else .no
  | x :: xs, h => if ck h then (f x h).bind fun y h1 => (mapF ck f xs h1).bind fun ys h2 => .ok (y.toList ++ ys) h2 else .no
def frs' (ix : List Nat) (τ : Sd) : Sd := ix.map fun i => (τ[i]?).join
def t1 (d : D) : Option Sd := some [some d]
def tN (n : Nat) (d : D) : Option Sd := match d with | .tup ds => if ds.length = n then some (ds.map some) else none | _ => none
def bindT (t : D → Option Sd) (fe : SE) (rest : Sd) (x : D) (h : Hd) : R D := match t x with | some ts => fe (ts ++ rest) h | none => .no
def bindF (t : D → Option Sd) (c : ST) (fe : SE) (rest : Sd) (x : D) (h : Hd) : R (Option D) := match t x with
  | some ts => (c (ts ++ rest) h).bind fun b h1 => if b = true then (fe (ts ++ rest) h1).bind fun y h2 => .ok (some y) h2 else .ok none h1
  | none => .no
/-- the list that comes out -/
def kLst (yd zs : List D) (h : Hd) : R D := .ok (.ref h.length) (h ++ [.lst (yd ++ zs)])
theorem k_cons (r : R D) (m : Hd → R (List D)) (yd : List D) : (r.bind fun y h1 => (m h1).bind fun ys h2 => .ok (y :: ys) h2).bind (kLst yd) = r.bind fun y h1 => (m h1).bind (kLst (yd ++ [y])) := by
  cases r with
  | ok y h1 =>
    show ((m h1).bind _).bind _ = (m h1).bind _
    cases m h1 with
    | ok ys h2 => simp [R.bind, kLst]
    | _ => rfl
  | _ => rfl
theorem k_opt (r : R (Option D)) (m : Hd → R (List D)) (yd : List D) : (r.bind fun y h1 => (m h1).bind fun ys h2 => .ok (y.toList ++ ys) h2).bind (kLst yd) = r.bind fun y h1 => (m h1).bind (kLst (yd ++ y.toList)) := by
  cases r with
  | ok y h1 =>
    show ((m h1).bind _).bind _ = (m h1).bind _
    cases m h1 with
    | ok ys h2 => simp [R.bind, kLst]
    | _ => rfl
  | _ => rfl
noncomputable def sComp (fi : SI) (t : D → Option Sd) (fe : SE) (ix : List Nat) : SE := fun τ h => (fi τ h).bind fun it h1 => if it.xs.length ≤ LINE then (mapR it.ck (bindT t fe (frs' ix τ)) it.xs h1).bind (kLst []) else .no
noncomputable def sCompF (fi : SI) (t : D → Option Sd) (c : ST) (fe : SE) (ix : List Nat) : SE := fun τ h => (fi τ h).bind fun it h1 => if it.xs.length ≤ LINE then (mapF it.ck (bindF t c fe (frs' ix τ)) it.xs h1).bind (kLst []) else .no
def TgOk (K : PySem.W.Frag) (n : Nat) (g : TG) (t : D → Option Sd) : Prop := ∀ ι H v d ts (r : St) (Q : St → Hp → Prop), Rep K ι H v d → t d = some ts → (∀ us : St, us.length = n → SRep K ι H us ts → Q (us ++ r) H) → g v (List.replicate n none ++ r) H Q
theorem srep_nil {K : PySem.W.Frag} {ι : List Addr} {H : Hp} : SRep K ι H [] [] := ⟨rfl, fun i d e => by simp at e⟩
theorem srep_cons {K : PySem.W.Frag} {ι : List Addr} {H : Hp} {v : V} {d : D} {σ : St} {τ : Sd} (r : Rep K ι H v d) (s : SRep K ι H σ τ) : SRep K ι H (some v :: σ) (some d :: τ) := by
  refine ⟨by simp [s.len], fun i d' e => ?_⟩
  cases i with
  | zero => simp at e; subst e; exact ⟨v, rfl, r⟩
  | succ i => simpa using s.val i d' (by simpa using e)
theorem srep_app {K : PySem.W.Frag} {ι : List Addr} {H : Hp} {σ σ' : St} {τ τ' : Sd} (s : SRep K ι H σ τ) (s' : SRep K ι H σ' τ') : SRep K ι H (σ ++ σ') (τ ++ τ') := by
  refine ⟨by simp [s.len, s'.len], fun i d e => ?_⟩
  by_cases hi : i < τ.length
  · rw [List.getElem?_append_left hi] at e
    rw [List.getElem?_append_left (by rw [s.len]; exact hi)]
    exact s.val i d e
  · rw [List.getElem?_append_right (by omega)] at e
    rw [List.getElem?_append_right (by rw [s.len]; omega), s.len]
    exact s'.val _ d e
theorem srep_frs {K : PySem.W.Frag} {ι : List Addr} {H : Hp} {σ : St} {τ : Sd} (s : SRep K ι H σ τ) (ix : List Nat) : SRep K ι H (ix.map fun i => (σ[i]?).join) (frs' ix τ) := by
  refine ⟨by simp [frs'], fun j d e => ?_⟩
  simp only [frs', List.getElem?_map, Option.map_eq_some_iff] at e
  obtain ⟨i, hi, e⟩ := e
  have : τ[i]? = some (some d) := by
    cases q : τ[i]? with
    | none => rw [q] at e; cases e
    | some o => rw [q] at e; simp at e; rw [e]
  obtain ⟨v, h1, h2⟩ := s.val i d this
  exact ⟨v, by simp [hi, h1], h2⟩
theorem tg_one {K : PySem.W.Frag} : TgOk K 1 (gName 0) t1 := fun ι H v d ts r Q hr e q => by
  cases e
  exact q [some v] rfl (srep_cons hr srep_nil)
theorem tg_two {K : PySem.W.Frag} : TgOk K 2 (L2.gTup K 2 (gCons (gName 0) (gCons (gName 1) gNil))) (tN 2) := fun ι H v d ts r Q hr e q => by
  unfold tN at e
  cases hr with
  | @tup a vs xs h rs =>
    simp only at e
    split at e
    · rename_i hl
      cases e
      match xs, hl, rs with
      | [_, _], _, .cons r1 (.cons r2 .nil) => exact ⟨a, _, rfl, SqT.of h, rfl, _, _, rfl, _, _, rfl, rfl, q [some _, some _] rfl (srep_cons r1 (srep_cons r2 srep_nil))⟩
    · cases e
  | _ => cases e
theorem tg_three {K : PySem.W.Frag} : TgOk K 3 (L2.gTup K 3 (gCons (gName 0) (gCons (gName 1) (gCons (gName 2) gNil)))) (tN 3) := fun ι H v d ts r Q hr e q => by
  unfold tN at e
  cases hr with
  | @tup a vs xs h rs =>
    simp only at e
    split at e
    · rename_i hl
      cases e
      match xs, hl, rs with
      | [_, _, _], _, .cons r1 (.cons r2 (.cons r3 .nil)) => exact ⟨a, _, rfl, SqT.of h, rfl, _, _, rfl, _, _, rfl, _, _, rfl, rfl, q [some _, some _, some _] rfl (srep_cons r1 (srep_cons r2 (srep_cons r3 srep_nil)))⟩
    · cases e
  | _ => cases e
theorem ext_app {n : Nat} {us r : St} (h : us.length = n) : L2.Ext (List.replicate n none ++ r) (us ++ r) := by
  refine ⟨by simp [h], fun i v e => ?_⟩
  by_cases hi : i < n
  · rw [List.getElem?_append_left (by simpa using hi), List.getElem?_replicate, if_pos hi] at e
    cases e
  · rw [List.getElem?_append_right (by simpa using hi), List.length_replicate] at e
    rw [List.getElem?_append_right (by omega), h]
    exact e
theorem comp_snd {K : PySem.W.Frag} {E : XD} {ι0 : List Addr} {H0 : Hp} {J : It} {it : Itm} {g : TG} {t : D → Option Sd} {fe : SE} {n : Nat} {r : St} {rd : Sd} {h0 : Hd} {Q : VK} (ir : IRep K ι0 H0 J it) (tg : TgOk K n g t) (S : SRep K ι0 H0 r rd) (Rh : HRep K ι0 H0 h0) (hl : it.xs.length ≤ LINE)
    (o : out K E (repD K) ι0 H0 ((mapR it.ck (bindT t fe rd) it.xs h0).bind (kLst [])) Q) : compW J (List.replicate n none ++ r) g (lift K E (repD K) fe) Q H0 := by
  refine ⟨fun i m ys H => m = it.xs.length - i ∧ i ≤ it.xs.length ∧ ys.length ≤ i ∧ ∃ ι h yd, Gr ι0 H0 ι H ∧ HRep K ι H h ∧ Reps K ι H ys yd ∧ out K E (repD K) ι H ((mapR it.ck (bindT t fe rd) (it.xs.drop i) h).bind (kLst yd)) Q,
    ⟨_, rfl, Nat.zero_le _, Nat.zero_le _, ι0, h0, [], .refl _ _, Rh, .nil, o⟩, ?_⟩
  rintro i m ys H ⟨rfl, hi, hy, ι, h, yd, g0, Rh, ry, o⟩
  by_cases hlt : i < it.xs.length
  · rw [List.drop_eq_getElem_cons hlt, mapR] at o
    by_cases hc : it.ck h
    · rw [if_pos hc, k_cons] at o
      obtain ⟨go, yl⟩ := (ir ι H h g0 Rh hc).1 i _ (List.getElem?_eq_getElem hlt)
      refine .inr ⟨go, Nat.lt_of_le_of_lt hy (Nat.lt_of_lt_of_le hlt (ll hl)), fun x H' y => ?_⟩
      obtain ⟨g1, r1, hr1⟩ := yl x H' y
      have o' := out_mono o g1
      cases ht : t it.xs[i] with
      | none => simp only [bindT, ht] at o'; exact o'.elim
      | some ts =>
        simp only [bindT, ht] at o'
        refine tg ι H' x _ ts r _ r1 ht fun us hus su => ⟨ext_app hus, ι, ts ++ rd, h, srep_app su (S.mono (g0.trans g1)), hr1, out_bind o' fun d2 h2 ι2 H2 u g2 r2 hr2 o2 => ?_⟩
        refine ⟨it.xs.length - (i + 1), by omega, rfl, hlt, by simp; omega, ι2, h2, yd ++ [d2], (g0.trans g1).trans g2, hr2, ((ry.mono g1).mono g2).snoc r2, o2⟩
    · rw [if_neg hc] at o; exact o.elim
  · have e : i = it.xs.length := by omega
    subst e
    rw [List.drop_eq_nil_of_le (Nat.le_refl _), mapR] at o
    by_cases hc : it.ck h
    · rw [if_pos hc] at o
      refine .inl ⟨(ir ι H h g0 Rh hc).2, new_lst (E := E) ry Rh ?_⟩
      simpa [R.bind, kLst] using o
    · rw [if_neg hc] at o; exact o.elim
theorem compF_snd {K : PySem.W.Frag} {E : XD} {ι0 : List Addr} {H0 : Hp} {J : It} {it : Itm} {g : TG} {t : D → Option Sd} {c : ST} {fe : SE} {n : Nat} {r : St} {rd : Sd} {h0 : Hd} {Q : VK} (ir : IRep K ι0 H0 J it) (tg : TgOk K n g t) (S : SRep K ι0 H0 r rd) (Rh : HRep K ι0 H0 h0) (hl : it.xs.length ≤ LINE)
    (o : out K E (repD K) ι0 H0 ((mapF it.ck (bindF t c fe rd) it.xs h0).bind (kLst [])) Q) : compWIf J (List.replicate n none ++ r) g (lift K E repB c) (lift K E (repD K) fe) Q H0 := by
  refine ⟨fun i m ys H => m = it.xs.length - i ∧ i ≤ it.xs.length ∧ ys.length ≤ i ∧ ∃ ι h yd, Gr ι0 H0 ι H ∧ HRep K ι H h ∧ Reps K ι H ys yd ∧ out K E (repD K) ι H ((mapF it.ck (bindF t c fe rd) (it.xs.drop i) h).bind (kLst yd)) Q,
    ⟨_, rfl, Nat.zero_le _, Nat.zero_le _, ι0, h0, [], .refl _ _, Rh, .nil, o⟩, ?_⟩
  rintro i m ys H ⟨rfl, hi, hy, ι, h, yd, g0, Rh, ry, o⟩
  by_cases hlt : i < it.xs.length
  · rw [List.drop_eq_getElem_cons hlt, mapF] at o
    by_cases hc : it.ck h
    · rw [if_pos hc, k_opt] at o
      obtain ⟨go, yl⟩ := (ir ι H h g0 Rh hc).1 i _ (List.getElem?_eq_getElem hlt)
      refine .inr ⟨go, Nat.lt_of_le_of_lt hy (Nat.lt_of_lt_of_le hlt (ll hl)), fun x H' y => ?_⟩
      obtain ⟨g1, r1, hr1⟩ := yl x H' y
      have o' := out_mono o g1
      cases ht : t it.xs[i] with
      | none => simp only [bindF, ht] at o'; exact o'.elim
      | some ts =>
        simp only [bindF, ht] at o'
        rw [R.bind_assoc] at o'
        refine tg ι H' x _ ts r _ r1 ht fun us hus su => ⟨ext_app hus, ι, ts ++ rd, h, srep_app su (S.mono (g0.trans g1)), hr1, out_bind o' fun b h1 ι1 H1 b' g2 rb hrb ob => ?_⟩
        have su1 : SRep K ι1 H1 (us ++ r) (ts ++ rd) := (srep_app su (S.mono (g0.trans g1))).mono g2
        cases rb
        cases b with
        | true =>
          rw [if_pos rfl] at ob ⊢
          rw [R.bind_assoc] at ob
          refine ⟨ι1, ts ++ rd, h1, su1, hrb, out_bind ob fun d2 h2 ι2 H2 u g3 r2 hr2 o2 => ?_⟩
          refine ⟨it.xs.length - (i + 1), by omega, rfl, hlt, by simp; omega, ι2, h2, yd ++ [d2], ((g0.trans g1).trans g2).trans g3, hr2, (((ry.mono g1).mono g2).mono g3).snoc r2, ?_⟩
          simpa [R.bind] using o2
        | false =>
          rw [if_neg Bool.false_ne_true] at ob ⊢
          refine ⟨it.xs.length - (i + 1), by omega, rfl, hlt, by omega, ι1, h1, yd, (g0.trans g1).trans g2, hrb, (ry.mono g1).mono g2, ?_⟩
          simpa [R.bind] using ob
    · rw [if_neg hc] at o; exact o.elim
  · have e : i = it.xs.length := by omega
    subst e
    rw [List.drop_eq_nil_of_le (Nat.le_refl _), mapF] at o
    by_cases hc : it.ck h
    · rw [if_pos hc] at o
      refine .inl ⟨(ir ι H h g0 Rh hc).2, new_lst (E := E) ry Rh ?_⟩
      simpa [R.bind, kLst] using o
    · rw [if_neg hc] at o; exact o.elim
section
variable {X : Cx} {E : XD} {elt tg iter cnd : Expr} {scope : Scope} {pos : Pos} {cl : List (Str × Addr)} {ts fr : List Str} {ix : List Nat} {fi : SI} {g : TG} {t : D → Option Sd} {fe : SE} {fc : ST}
theorem me_comp (hc : X.calm = true) (S : CSc X scope cl ts fr ix) (hi : MI X E tg iter fi) (hg : ∀ C fp s H, PG (cxC X (ts ++ fr) scope cl C fp s H) tg g) (ht : TgOk X.K ts.length g t) (he : ∀ C fp s H, ME (cxC X (ts ++ fr) scope cl C fp s H) E elt fe)
    (hs : ∀ x, foldedSetIterable iter X.env x = pure x := by intro _; rfl) : ME X E (.ListComp elt [⟨tg, iter, [], 0⟩] scope pos) (sComp fi t fe ix) := by
  refine PE.weak (pe_lcomp (te := lift X.K E (repD X.K) fe) hc S hi hg he hs) fun σ H Q ⟨ι, τ, h, Sr, Rh, o⟩ => ?_
  refine ⟨ι, τ, h, Sr, Rh, out_bind o fun it h1 ι1 H1 J g1 r1 hr1 o1 => ?_⟩
  by_cases hl : it.xs.length ≤ LINE
  · rw [if_pos hl] at o1
    exact comp_snd r1 ht (srep_frs (Sr.mono g1) ix) hr1 hl o1
  · rw [if_neg hl] at o1; exact o1.elim
theorem me_compF (hc : X.calm = true) (S : CSc X scope cl ts fr ix) (hi : MI X E tg iter fi) (hg : ∀ C fp s H, PG (cxC X (ts ++ fr) scope cl C fp s H) tg g) (ht : TgOk X.K ts.length g t) (he : ∀ C fp s H, ME (cxC X (ts ++ fr) scope cl C fp s H) E elt fe)
    (hq : ∀ C fp s H, MT (cxC X (ts ++ fr) scope cl C fp s H) E cnd fc)
    (hs : ∀ x, foldedSetIterable iter X.env x = pure x := by intro _; rfl) : ME X E (.ListComp elt [⟨tg, iter, [cnd], 0⟩] scope pos) (sCompF fi t fc fe ix) := by
  refine PE.weak (pe_lcompIf (te := lift X.K E (repD X.K) fe) (tc := lift X.K E repB fc) hc S hi hg he hq hs) fun σ H Q ⟨ι, τ, h, Sr, Rh, o⟩ => ?_
  refine ⟨ι, τ, h, Sr, Rh, out_bind o fun it h1 ι1 H1 J g1 r1 hr1 o1 => ?_⟩
  by_cases hl : it.xs.length ≤ LINE
  · rw [if_pos hl] at o1
    exact compF_snd r1 ht (srep_frs (Sr.mono g1) ix) hr1 hl o1
  · rw [if_neg hl] at o1; exact o1.elim
end
/-! ### closed data -/
mutual
def clo (n : Nat) : D → Prop
  | .tup xs => clos n xs
  | .rol xs => clos n xs
  | .ref i => i < n
  | _ => True
def clos (n : Nat) : List D → Prop
  | [] => True
  | x :: xs => clo n x ∧ clos n xs
end
mutual
theorem Rep.clo {K : PySem.W.Frag} {ι : List Addr} {H : Hp} : ∀ {v : V} {d : D}, Rep K ι H v d → clo ι.length d
  | _, _, .non => by simp [MI.clo]
  | _, _, .bl b => by simp [MI.clo]
  | _, _, .int i => by simp [MI.clo]
  | _, _, .str x => by simp [MI.clo]
  | _, _, .ty n => by simp [MI.clo]
  | _, _, .tup h r => by simp only [MI.clo]; exact Reps.clo r
  | _, _, .rol h r => by simp only [MI.clo]; exact Reps.clo r
  | _, _, .ref h => by simp only [MI.clo]; exact (List.getElem?_eq_some_iff.mp h).1
theorem Reps.clo {K : PySem.W.Frag} {ι : List Addr} {H : Hp} : ∀ {vs : List V} {ds : List D}, Reps K ι H vs ds → clos ι.length ds
  | _, _, .nil => by simp [MI.clos]
  | _, _, .cons r rs => by simp only [MI.clos]; exact ⟨Rep.clo r, Reps.clo rs⟩
end
mutual
theorem Rep.cut {K : PySem.W.Frag} {ι : List Addr} {H : Hp} {n : Nat} : ∀ {v : V} {d : D}, Rep K ι H v d → clo n d → Rep K (ι.take n) H v d
  | _, _, .non, _ => .non
  | _, _, .bl b, _ => .bl b
  | _, _, .int i, _ => .int i
  | _, _, .str x, _ => .str x
  | _, _, .ty n, _ => .ty n
  | _, _, .tup h r, c => .tup h (Reps.cut r (by simpa only [MI.clo] using c))
  | _, _, .rol h r, c => .rol h (Reps.cut r (by simpa only [MI.clo] using c))
  | _, _, .ref h, c => .ref (by simp only [MI.clo] at c; rw [List.getElem?_take, if_pos c]; exact h)
theorem Reps.cut {K : PySem.W.Frag} {ι : List Addr} {H : Hp} {n : Nat} : ∀ {vs : List V} {ds : List D}, Reps K ι H vs ds → clos n ds → Reps K (ι.take n) H vs ds
  | _, _, .nil, _ => .nil
  | _, _, .cons r rs, c => by simp only [MI.clos] at c; exact .cons (Rep.cut r c.1) (Reps.cut rs c.2)
end
def cloO (n : Nat) : O → Prop
  | .lst xs => clos n xs
  | .dK kvs => clos n (kvs.map (·.2))
def cloH (n : Nat) (h : Hd) : Prop := ∀ o ∈ h, cloO n o
theorem ORep.clo {K : PySem.W.Frag} {ι : List Addr} {H : Hp} {a : Addr} {o : O} (r : ORep K ι H a o) : cloO ι.length o := by
  cases o with
  | lst xs => obtain ⟨vs, _, r⟩ := r; exact r.clo
  | dK kvs => obtain ⟨us, _, _, r⟩ := r; exact r.clo
theorem ORep.cut {K : PySem.W.Frag} {ι : List Addr} {H : Hp} {a : Addr} {o : O} {n : Nat} (r : ORep K ι H a o) (c : cloO n o) : ORep K (ι.take n) H a o := by
  cases o with
  | lst xs => obtain ⟨vs, h, r⟩ := r; exact ⟨vs, h, r.cut c⟩
  | dK kvs => obtain ⟨us, h, e, r⟩ := r; exact ⟨us, h, e, r.cut c⟩
theorem HRep.clo {K : PySem.W.Frag} {ι : List Addr} {H : Hp} {h : Hd} (r : HRep K ι H h) : cloH h.length h := fun o ho => by
  obtain ⟨i, hi⟩ := List.getElem?_of_mem ho
  obtain ⟨a, _, q⟩ := r.addr hi
  rw [← r.len]; exact q.clo
theorem HRep.cut {K : PySem.W.Frag} {ι : List Addr} {H : Hp} {h g : Hd} (r : HRep K ι H (h ++ g)) (c : cloH h.length h) : HRep K (ι.take h.length) H h := by
  refine ⟨r.nd.sublist (List.take_sublist _ _), ?_, fun i a o e1 e2 => ?_⟩
  · have := r.len
    rw [List.length_append] at this
    rw [List.length_take]; omega
  · have hi : i < h.length := (List.getElem?_eq_some_iff.mp e2).1
    rw [List.getElem?_take, if_pos hi] at e1
    exact (r.obj i a o e1 (by rw [List.getElem?_append_left hi]; exact e2)).cut (c o (List.mem_of_getElem? e2))
/-! ### defs -/
def X0 : XD := fun _ _ _ _ => False
abbrev SF := List D → Hd → R D
def spOf (K : PySem.W.Frag) (n : Nat) (F : SF) : Sp := fun vs H Q _ => vs.length = n ∧ ∃ ι ds h, Reps K ι H vs ds ∧ HRep K ι H h ∧ out K X0 (repD K) ι H (F ds h) Q
def startD (n : Nat) (ds : List D) : Sd := ds.map some ++ List.replicate (n - ds.length) none
def bodyR (b : SS) (n : Nat) (ds : List D) (h : Hd) : R D := match b (startD n ds) h with
  | .rt d h1 => .ok d h1
  | .nx _ h1 => .ok .non h1
  | .ex c h1 => .ex c h1
  | _ => .no
/-- what is told of a def, of what its body reckons: all but what nobody can reach any more -/
def Rf (n : Nat) (r' r : R D) : Prop := match r with
  | .no => True
  | .ok d h1 => ∃ g, r' = .ok d (h1 ++ g) ∧ (g = [] ∨ (n ≤ h1.length ∧ clo h1.length d ∧ cloH h1.length h1))
  | .ex c h1 => ∃ g, r' = .ex c (h1 ++ g) ∧ (g = [] ∨ (n ≤ h1.length ∧ cloH h1.length h1))
theorem Rf.same {n : Nat} {r' r : R D} (h : r' = r) : Rf n r' r := by
  subst h
  cases r' with
  | ok d h1 => exact ⟨[], by simp, .inl rfl⟩
  | ex c h1 => exact ⟨[], by simp, .inl rfl⟩
  | no => exact True.intro
theorem srep_start {K : PySem.W.Frag} {ι : List Addr} {H : Hp} {vs : List V} {ds : List D} {N : List Str} (r : Reps K ι H vs ds) : SRep K ι H (start N vs) (startD N.length ds) := by
  refine srep_app ?_ ?_
  · clear N
    induction r using Reps.rec (motive_1 := fun _ _ _ => True) with
    | nil => exact srep_nil
    | cons r rs _ ih => exact srep_cons r ih
    | _ => trivial
  · rw [r.len]
    exact ⟨by simp, fun i d e => by rw [List.getElem?_replicate] at e; split at e <;> cases e⟩
theorem gr_cut {ι ι' : List Addr} {H H' : Hp} {n : Nat} (g : Gr ι H ι' H') (hn : ι.length ≤ n) : Gr ι H (ι'.take n) H' := by
  obtain ⟨m, rfl⟩ := g.pre
  exact ⟨⟨m.take (n - ι.length), by rw [List.take_append, List.take_of_length_le hn]⟩, g.tup, g.frz⟩
section
variable {P : Program} {w : World} {K : PySem.W.Frag} {mg : Str → Option Value} {base : Heap}
theorem def_ok {x qual : Str} {st : Stmt} {f : Addr} {fd : FuncData} {N ps : List Str} {k : Nat} {b : SS} {F : SF} (Fu : Fun K x qual st f fd) (S : FnScope N ps (defScope st))
    (hb : ∀ (cdv : Value) (A : Around) (outer : List Env) (s : Shared) (H : Hp) (E : XK), Room k (A.deeper (PyProof.Rows.envOfC qual (defScope st) s.heap.objs.size f cdv)) → MSs (cxOf CX0 P w K mg base N qual (defScope st) f cdv A outer s H E).nox X0 (defBody st) b)
    (hF : ∀ ds h, ds.length = ps.length → clos h.length ds → cloH h.length h → Rf h.length (bodyR b N.length ds h) (F ds h)) : FnOk P w K mg base CX0 (k + 1) f fd ps (spOf K ps.length F) := by
  refine Fu.ok S (fun vs H Q E h => h.1) fun cdv A outer s H vs Q E hr h => ⟨_, hb cdv A outer s H E hr, ?_⟩
  obtain ⟨hl, ι, ds, h, r, hr', o⟩ := h
  refine ⟨ι, startD N.length ds, h, srep_start r, hr', ?_⟩
  have q := hF ds h (by rw [← r.len]; exact hl) (by rw [← hr'.len]; exact r.clo) hr'.clo
  unfold bodyR at q
  cases hFd : F ds h with
  | no => rw [hFd] at o; exact o.elim
  | ex c h1 =>
    rw [hFd] at q o
    obtain ⟨g, e, cl⟩ := q
    have fin : ∀ ι' H', Gr ι H ι' H' → HRep K ι' H' (h1 ++ g) → X0 c ι' H' (h1 ++ g) := fun ι' H' g1 hr1 => by
      rcases cl with rfl | ⟨hn, c2⟩
      · rw [List.append_nil] at hr1
        exact o ι' H' g1 hr1
      · exact o (ι'.take h1.length) H' (gr_cut g1 (by rw [hr'.len]; exact hn)) (hr1.cut c2)
    cases hbd : b (startD N.length ds) h with
    | ex c' h' =>
      rw [hbd] at e
      injection e with e1 e2
      subst e1 e2
      exact fin
    | _ => rw [hbd] at e; cases e
  | ok d h1 =>
    rw [hFd] at q o
    obtain ⟨g, e, cl⟩ := q
    have fin : ∀ ι' H' v, Gr ι H ι' H' → Rep K ι' H' v d → HRep K ι' H' (h1 ++ g) → Q v H' := fun ι' H' v g1 r1 hr1 => by
      rcases cl with rfl | ⟨hn, c1, c2⟩
      · rw [List.append_nil] at hr1
        exact o ι' H' v g1 r1 hr1
      · exact o (ι'.take h1.length) H' v (gr_cut g1 (by rw [hr'.len]; exact hn)) (r1.cut c1) (hr1.cut c2)
    cases hbd : b (startD N.length ds) h with
    | rt d' h' =>
      rw [hbd] at e
      injection e with e1 e2
      subst e1 e2
      exact fin
    | nx τ' h' =>
      rw [hbd] at e
      injection e with e1 e2
      subst e1 e2
      exact fun ι' H' σ' g1 S1 hr1 => fin ι' H' .non g1 .non hr1
    | _ => rw [hbd] at e; cases e
def sN (n : Nat) (F : SF) : SF := fun ds h => if ds.length = n then F ds h else .no
theorem sn_snd {n : Nat} {F : SF} {ι : List Addr} {H : Hp} {vs : List V} {ds : List D} {h : Hd} {Q : VK} (r : Reps K ι H vs ds) (hr : HRep K ι H h) (o : out K X0 (repD K) ι H (sN n F ds h) Q) (E : XK) : spOf K n F vs H Q E := by
  unfold sN at o
  split at o
  · rename_i hl
    exact ⟨by rw [r.len]; exact hl, ι, ds, h, r, hr, o⟩
  · exact o.elim
end
theorem me_call {X : Cx} {k n : Nat} {f : Addr} {fd : FuncData} {ps : List Str} {x : Str} {F : SF} {ka : SA} {e : Expr} {es : List Expr} {p pos : Pos} (G : Dn X.prog X.w X.K X.mg X.base k x ps (spOf X.K n F) f fd) (hr : Room k X.A) (hg : Gl X x) (ha : MA X X0 (e :: es) ka)
    (hdb : (x == ("__debug__" : Str)) = false := by decide) (he : starEach (e :: es) X.env = (false, eval e X.env) :: starEach es X.env := by rfl) (hpl : (backTo pos (starEach es X.env)).any (·.1) = false := by rfl) : ME X X0 (.Call (.Name x p) (e :: es) [] pos) (sA (sN n F) ka) := by
  refine PE.weak (pe_call G.ok hr hg G.m G.kp G.b .nil pass0 ha hdb he hpl) fun σ H Q ⟨ι, τ, h, S, Rh, o⟩ => ?_
  refine ⟨ι, τ, h, S, Rh, out_bind o fun ds h1 ι1 H1 vs g1 r1 hr1 o1 => ?_⟩
  rw [List.append_nil]
  exact sn_snd r1 hr1 o1 _
theorem me_call0 {X : Cx} {k n : Nat} {f : Addr} {fd : FuncData} {ps : List Str} {x : Str} {F : SF} {p pos : Pos} (G : Dn X.prog X.w X.K X.mg X.base k x ps (spOf X.K n F) f fd) (hr : Room k X.A) (hg : Gl X x) (hdb : (x == ("__debug__" : Str)) = false := by decide) :
    ME X X0 (.Call (.Name x p) [] [] pos) (sA (sN n F) sNil) := by
  refine PE.weak (pe_call0 G.ok hr hg G.m G.kp G.b .nil pass0 hdb) fun σ H Q ⟨ι, τ, h, S, Rh, o⟩ => ?_
  exact sn_snd (vs := []) .nil Rh o E0
end MI

set_option Elab.async false
set_option linter.all false
set_option maxRecDepth 100000
set_option maxHeartbeats 4000000
namespace MI
open PySem PySem.Spec L2
section
variable {K : PySem.W.Frag} {E : XD} {ι : List Addr} {H : Hp} {h : Hd} {Q : VK}
/-- an answer that leaves the heap -/
theorem ans {d : D} {v : V} (o : out K E (repD K) ι H (.ok d h) Q) (r : Rep K ι H v d) (hr : HRep K ι H h) : Q v H := o ι H v (.refl _ _) r hr
theorem HRep.lst (hr : HRep K ι H h) {i : Nat} {a : Addr} {xs : List D} (e : ι[i]? = some a) (hi : h[i]? = some (.lst xs)) : ∃ vs, H a = some (.lst vs) ∧ Reps K ι H vs xs := hr.obj i a _ e hi
end
/-! ### reckoning -/
def gAdd : D → D → Hd → R D
  | .int i, .int j, h => .ok (.int (i + j)) h
  | .str x, .str y, h => if x.length + y.length ≤ LINE then .ok (.str (x ++ y)) h else .no
  | .tup xs, .tup ys, h => if xs ≠ [] ∧ xs.length + ys.length ≤ LINE then .ok (.tup (xs ++ ys)) h else .no
  | .ref i, .ref j, h => match h[i]?, h[j]? with
    | some (.lst xs), some (.lst ys) => if xs.length + ys.length ≤ LINE then .ok (.ref h.length) (h ++ [.lst (xs ++ ys)]) else .no
    | _, _ => .no
  | _, _, _ => .no
def gSub : D → D → Hd → R D
  | .int i, .int j, h => .ok (.int (i - j)) h
  | _, _, _ => .no
open Classical in
noncomputable def gMul : D → D → Hd → R D
  | .int i, .int j, h => if CMul i j then .ok (.int (i * j)) h else .no
  | .ref i, .int k, h => match h[i]? with
    | some (.lst xs) => if (-(2 ^ 63) ≤ k ∧ k < 2 ^ 63) ∧ xs.length * k.toNat ≤ LINE then .ok (.ref h.length) (h ++ [.lst (List.replicate k.toNat xs).flatten]) else .no
    | _ => .no
  | _, _, _ => .no
def gMod : D → D → Hd → R D
  | .int i, .int j, h => if 0 < j then .ok (.int (i % j)) h else .no
  | _, _, _ => .no
def gDiv : D → D → Hd → R D
  | .int i, .int j, h => if 0 < j ∧ j < 1073741824 then .ok (.int (i / j)) h else .no
  | _, _, _ => .no
def gPow : D → D → Hd → R D
  | .int i, .int j, h => if 0 ≤ j ∧ j ≤ 1000000 ∧ i.natAbs < 2 ^ 64 then .ok (.int (i ^ j.toNat)) h else .no
  | _, _, _ => .no
section
variable {X : Cx} {K : PySem.W.Frag}
theorem int_snd {C : Int → Int → Prop} {f : Int → Int → V} {g : D → D → Hd → R D} (hg : ∀ dx dy h r, g dx dy h = r → r ≠ .no → ∃ i j d, dx = .int i ∧ dy = .int j ∧ C i j ∧ r = .ok d h ∧ ∀ ι H, Rep K ι H (f i j) d) : Snd2 K g (rI C f) := by
  intro E ι H h x y dx dy Q rx ry hr o
  cases hn : g dx dy h with
  | no => rw [hn] at o; exact o.elim
  | _ =>
    obtain ⟨i, j, d, rfl, rfl, c, e, r⟩ := hg dx dy h _ hn (by simp)
    cases rx; cases ry
    rw [hn, e] at o
    exact ⟨i, j, rfl, rfl, c, ans o (r _ _) hr⟩
theorem snd_sub : Snd2 K gSub (rI0 fun i j => .int (i - j)) := by
  intro E ι H h x y dx dy Q rx ry hr o
  cases rx with
  | int i =>
    cases ry with
    | int j => exact ⟨i, j, rfl, rfl, ans o (.int _) hr⟩
    | _ => exact o.elim
  | _ => exact o.elim
theorem snd_mod : Snd2 K gMod (rI (fun _ j => 0 < j) fun i j => .int (i % j)) := by
  intro E ι H h x y dx dy Q rx ry hr o
  cases rx with
  | int i =>
    cases ry with
    | int j =>
      by_cases hc : 0 < j
      · simp only [gMod, if_pos hc] at o; exact ⟨i, j, rfl, rfl, hc, ans o (.int _) hr⟩
      · simp only [gMod, if_neg hc] at o; exact o.elim
    | _ => exact o.elim
  | _ => exact o.elim
theorem snd_div : Snd2 K gDiv (rI CDiv fun i j => .int (i / j)) := by
  intro E ι H h x y dx dy Q rx ry hr o
  cases rx with
  | int i =>
    cases ry with
    | int j =>
      by_cases hc : 0 < j ∧ j < 1073741824
      · simp only [gDiv, if_pos hc] at o; exact ⟨i, j, rfl, rfl, hc, ans o (.int _) hr⟩
      · simp only [gDiv, if_neg hc] at o; exact o.elim
    | _ => exact o.elim
  | _ => exact o.elim
theorem snd_pow : Snd2 K gPow (rI CPow fun i j => .int (i ^ j.toNat)) := by
  intro E ι H h x y dx dy Q rx ry hr o
  cases rx with
  | int i =>
    cases ry with
    | int j =>
      by_cases hc : 0 ≤ j ∧ j ≤ 1000000 ∧ i.natAbs < 2 ^ 64
      · simp only [gPow, if_pos hc] at o; exact ⟨i, j, rfl, rfl, hc, ans o (.int _) hr⟩
      · simp only [gPow, if_neg hc] at o; exact o.elim
    | _ => exact o.elim
  | _ => exact o.elim
theorem snd_mul : Snd2 K gMul (fun x y H Q => rI CMul (fun i j => .int (i * j)) x y H Q ∨ rRep x y H Q) := by
  intro E ι H h x y dx dy Q rx ry hr o
  cases rx with
  | int i =>
    cases ry with
    | int j =>
      by_cases hc : CMul i j
      · simp only [gMul, if_pos hc] at o; exact .inl ⟨i, j, rfl, rfl, hc, ans o (.int _) hr⟩
      · simp only [gMul, if_neg hc] at o; exact o.elim
    | _ => exact o.elim
  | @ref a i ha =>
    cases ry with
    | int k =>
      simp only [gMul] at o
      split at o
      · rename_i xs hx
        obtain ⟨vs, h3, h4⟩ := hr.lst ha hx
        split at o
        · rename_i hc
          exact .inr ⟨a, k, vs, rfl, rfl, h3, hc.1.1, hc.1.2, ll (by rw [h4.len]; exact hc.2), new_lst (h4.flat _) hr o⟩
        · exact o.elim
      · exact o.elim
    | _ => exact o.elim
  | _ => exact o.elim
theorem snd_add : Snd2 K gAdd (fun x y H Q => rI0 (fun i j => .int (i + j)) x y H Q ∨ (∃ i j, x = .str i ∧ y = .str j ∧ i.length + j.length ≤ sizeLine ∧ Q (.str (i ++ j)) H) ∨ rCatT K x y H Q ∨ rCat x y H Q) := by
  intro E ι H h x y dx dy Q rx ry hr o
  cases rx with
  | int i =>
    cases ry with
    | int j => exact .inl ⟨i, j, rfl, rfl, ans o (.int _) hr⟩
    | _ => exact o.elim
  | str i =>
    cases ry with
    | str j =>
      by_cases hc : i.length + j.length ≤ LINE
      · simp only [gAdd, if_pos hc] at o; exact .inr (.inl ⟨i, j, rfl, rfl, ll hc, ans o (.str _) hr⟩)
      · simp only [gAdd, if_neg hc] at o; exact o.elim
    | _ => exact o.elim
  | @tup a vs xs ha r1 =>
    cases ry with
    | @tup b us ys hb r2 =>
      by_cases hc : xs ≠ [] ∧ xs.length + ys.length ≤ LINE
      · simp only [gAdd, if_pos hc] at o
        refine .inr (.inr (.inl ⟨a, b, vs, us, rfl, rfl, SqT.of ha, SqT.of hb, fun z => hc.1 ?_, ll (by rw [r1.len, r2.len]; exact hc.2), fun z => ?_, fun _ => ?_⟩))
        · subst z; cases r1; rfl
        · subst z; cases r2
          rw [List.append_nil] at o
          exact ans o (.tup ha r1) hr
        · exact new_tup (r1.app r2) hr o
      · simp only [gAdd, if_neg hc] at o; exact o.elim
    | _ => exact o.elim
  | @ref a i ha =>
    cases ry with
    | @ref b j hb =>
      simp only [gAdd] at o
      split at o
      · rename_i xs ys hx hy
        obtain ⟨vs, h3, h4⟩ := hr.lst ha hx
        obtain ⟨us, h5, h6⟩ := hr.lst hb hy
        split at o
        · rename_i hc
          exact .inr (.inr (.inr ⟨a, b, vs, us, rfl, rfl, h3, h5, ll (by rw [h4.len, h6.len]; exact hc), new_lst (h4.app h6) hr o⟩))
        · exact o.elim
      · exact o.elim
    | _ => exact o.elim
  | _ => exact o.elim
variable {E : XD} {a b e : Expr} {es : List Expr} {fa fb : SE} {ka : SA} {pos : Pos}
theorem me_add (ha : ME X E a fa) (hb : ME X E b fb) : ME X E (.BinOp a .Add b pos) (s2 gAdd fa fb) := me_op (op_add.or (op_add_str.or (op_catT.or op_cat))) snd_add ha hb
theorem me_sub (ha : ME X E a fa) (hb : ME X E b fb) : ME X E (.BinOp a .Sub b pos) (s2 gSub fa fb) := me_op op_sub snd_sub ha hb
theorem me_mul (ha : ME X E a fa) (hb : ME X E b fb) : ME X E (.BinOp a .Mult b pos) (s2 gMul fa fb) := me_op (op_mul.or op_rep) snd_mul ha hb
theorem me_mod (ha : ME X E a fa) (hb : ME X E b fb) : ME X E (.BinOp a .Mod b pos) (s2 gMod fa fb) := me_op op_mod snd_mod ha hb
theorem me_div (ha : ME X E a fa) (hb : ME X E b fb) : ME X E (.BinOp a .FloorDiv b pos) (s2 gDiv fa fb) := me_op op_fdiv snd_div ha hb
theorem me_pow (ha : ME X E a fa) (hb : ME X E b fb) : ME X E (.BinOp a .Pow b pos) (s2 gPow fa fb) := me_op op_pow snd_pow ha hb
def gNeg : D → Hd → R D
  | .int i, h => .ok (.int (-i)) h
  | _, _ => .no
theorem me_neg (ha : ME X E a fa) : ME X E (.UnaryOp .USub a pos) (s1 gNeg fa) := me_un un_neg (fun E ι H h x dx Q rx hr o => by
  cases rx with
  | int i => exact ⟨i, rfl, ans o (.int _) hr⟩
  | _ => exact o.elim) ha
/-! ### comparisons -/
def scD : D → D → Bool
  | .non, .non => true | .non, .int _ => true | .int _, .non => true | .non, .bl _ => true | .bl _, .non => true | .non, .str _ => true | .str _, .non => true
  | .int _, .int _ => true | .bl _, .bl _ => true | .str _, .str _ => true
  | .int _, .str _ => true | .str _, .int _ => true | .bl _, .str _ => true | .str _, .bl _ => true
  | _, _ => false
def eqS : D → D → Bool
  | .non, .non => true
  | .int i, .int j => decide (i = j)
  | .bl i, .bl j => decide (i = j)
  | .str i, .str j => decide (i = j)
  | _, _ => false
def gEq (x y : D) (h : Hd) : R D := if scD x y = true then .ok (.bl (eqS x y)) h else .no
def gNe (x y : D) (h : Hd) : R D := if scD x y = true then .ok (.bl (!eqS x y)) h else .no
theorem scal_of {ι : List Addr} {H : Hp} {x y : V} {dx dy : D} (rx : Rep K ι H x dx) (ry : Rep K ι H y dy) (e : scD dx dy = true) : scal x y = true ∧ decide (x = y) = eqS dx dy := by
  cases rx <;> cases ry <;> first | (cases e; done) | (refine ⟨rfl, ?_⟩; simp [eqS]) | exact ⟨rfl, rfl⟩
theorem snd_eq : Snd2 K gEq rEq := by
  intro E ι H h x y dx dy Q rx ry hr o
  by_cases hc : scD dx dy = true
  · simp only [gEq, if_pos hc] at o
    obtain ⟨h1, h2⟩ := scal_of rx ry hc
    exact ⟨h1, by rw [h2]; exact ans o (.bl _) hr⟩
  · simp only [gEq, if_neg hc] at o; exact o.elim
theorem snd_ne : Snd2 K gNe rNe := by
  intro E ι H h x y dx dy Q rx ry hr o
  by_cases hc : scD dx dy = true
  · simp only [gNe, if_pos hc] at o
    obtain ⟨h1, h2⟩ := scal_of rx ry hc
    exact ⟨h1, by rw [h2]; exact ans o (.bl _) hr⟩
  · simp only [gNe, if_neg hc] at o; exact o.elim
def gLt : D → D → Hd → R D
  | .int i, .int j, h => .ok (.bl (decide (i < j))) h
  | .str i, .str j, h => .ok (.bl (decide (i.cps.toList < j.cps.toList))) h
  | _, _, _ => .no
def gLe : D → D → Hd → R D
  | .int i, .int j, h => .ok (.bl (decide (i ≤ j))) h
  | .str i, .str j, h => .ok (.bl (!decide (j.cps.toList < i.cps.toList))) h
  | _, _, _ => .no
def gGt : D → D → Hd → R D
  | .int i, .int j, h => .ok (.bl (decide (j < i))) h
  | _, _, _ => .no
def gGe : D → D → Hd → R D
  | .int i, .int j, h => .ok (.bl (decide (j ≤ i))) h
  | _, _, _ => .no
theorem snd_lt : Snd2 K gLt (fun x y H Q => rI0 (fun i j => .bl (decide (i < j))) x y H Q ∨ ∃ i j, x = .str i ∧ y = .str j ∧ Q (.bl (decide (i.cps.toList < j.cps.toList))) H) := by
  intro E ι H h x y dx dy Q rx ry hr o
  cases rx with
  | int i =>
    cases ry with
    | int j => exact .inl ⟨i, j, rfl, rfl, ans o (.bl _) hr⟩
    | _ => exact o.elim
  | str i =>
    cases ry with
    | str j => exact .inr ⟨i, j, rfl, rfl, ans o (.bl _) hr⟩
    | _ => exact o.elim
  | _ => exact o.elim
theorem snd_le : Snd2 K gLe (fun x y H Q => rI0 (fun i j => .bl (decide (i ≤ j))) x y H Q ∨ ∃ i j, x = .str i ∧ y = .str j ∧ Q (.bl (!decide (j.cps.toList < i.cps.toList))) H) := by
  intro E ι H h x y dx dy Q rx ry hr o
  cases rx with
  | int i =>
    cases ry with
    | int j => exact .inl ⟨i, j, rfl, rfl, ans o (.bl _) hr⟩
    | _ => exact o.elim
  | str i =>
    cases ry with
    | str j => exact .inr ⟨i, j, rfl, rfl, ans o (.bl _) hr⟩
    | _ => exact o.elim
  | _ => exact o.elim
theorem snd_gt : Snd2 K gGt (rI0 fun i j => .bl (decide (j < i))) := by
  intro E ι H h x y dx dy Q rx ry hr o
  cases rx with
  | int i =>
    cases ry with
    | int j => exact ⟨i, j, rfl, rfl, ans o (.bl _) hr⟩
    | _ => exact o.elim
  | _ => exact o.elim
theorem snd_ge : Snd2 K gGe (rI0 fun i j => .bl (decide (j ≤ i))) := by
  intro E ι H h x y dx dy Q rx ry hr o
  cases rx with
  | int i =>
    cases ry with
    | int j => exact ⟨i, j, rfl, rfl, ans o (.bl _) hr⟩
    | _ => exact o.elim
  | _ => exact o.elim
def isNon : D → Bool
  | .non => true
  | _ => false
theorem isNon_of {ι : List Addr} {H : Hp} {x : V} {d : D} (r : Rep K ι H x d) : decide (x = .non) = isNon d := by cases r <;> simp [isNon]
def gIs : D → D → Hd → R D
  | x, .non, h => .ok (.bl (isNon x)) h
  | .bl i, .bl j, h => .ok (.bl (i == j)) h
  | _, _, _ => .no
def gIsNot : D → D → Hd → R D
  | x, .non, h => .ok (.bl (!isNon x)) h
  | .bl i, .bl j, h => .ok (.bl (i != j)) h
  | _, _, _ => .no
theorem snd_is : Snd2 K gIs (fun x y H Q => (y = .non ∧ Q (.bl (decide (x = .non))) H) ∨ ∃ i j, x = .bl i ∧ y = .bl j ∧ Q (.bl (i == j)) H) := by
  intro E ι H h x y dx dy Q rx ry hr o
  cases ry with
  | non => exact .inl ⟨rfl, by rw [isNon_of rx]; simp only [gIs] at o; exact ans o (.bl _) hr⟩
  | bl j =>
    cases rx with
    | bl i => exact .inr ⟨i, j, rfl, rfl, ans o (.bl _) hr⟩
    | _ => exact o.elim
  | _ => cases rx <;> exact o.elim
theorem snd_isNot : Snd2 K gIsNot (fun x y H Q => (y = .non ∧ Q (.bl (!decide (x = .non))) H) ∨ ∃ i j, x = .bl i ∧ y = .bl j ∧ Q (.bl (i != j)) H) := by
  intro E ι H h x y dx dy Q rx ry hr o
  cases ry with
  | non => exact .inl ⟨rfl, by rw [isNon_of rx]; simp only [gIsNot] at o; exact ans o (.bl _) hr⟩
  | bl j =>
    cases rx with
    | bl i => exact .inr ⟨i, j, rfl, rfl, ans o (.bl _) hr⟩
    | _ => exact o.elim
  | _ => cases rx <;> exact o.elim
/-- of a text's one sign; of flat things in a list or tuple -/
def flatD : D → Bool
  | .non => true | .bl _ => true | .int _ => true | .str _ => true
  | _ => false
def eqF : D → D → Bool
  | .non, .non => true
  | .bl i, .bl j => i == j
  | .int i, .int j => i == j
  | .str i, .str j => i == j
  | .int i, .bl j => i == (if j then 1 else 0)
  | .bl i, .int j => (if i then 1 else 0) == j
  | _, _ => false
end
end MI

set_option Elab.async false
set_option linter.all false
set_option maxRecDepth 100000
set_option maxHeartbeats 4000000
namespace MI
open PySem PySem.Spec L2
section
variable {X : Cx} {K : PySem.W.Frag} {E : XD} {a b e o : Expr} {es : List Expr} {fa fb : SE} {ka : SA} {pos : Pos}
/-! ### items, slices -/
def seqD (d : D) (h : Hd) : Option (List D) := match d with
  | .tup xs => some xs
  | .rol xs => some xs
  | .ref i => match h[i]? with | some (.lst xs) => some xs | _ => none
  | _ => none
def gIx (x y : D) (h : Hd) : R D := match y with
  | .int i => (match x with
    | .str z => if z.length ≤ LINE then (match atI z.cps.toList i with | some c => .ok (.str ⟨#[c]⟩) h | none => .no) else .no
    | x => match seqD x h with
      | some xs => (match atI xs i with | some d => .ok d h | none => .no)
      | none => .no)
  | _ => .no
theorem atI_reps {ι : List Addr} {H : Hp} {vs : List V} {xs : List D} {i : Int} {d : D} (r : Reps K ι H vs xs) (e : atI xs i = some d) : ∃ v, atI vs i = some v ∧ Rep K ι H v d := by
  unfold atI at e ⊢
  rw [r.len]
  cases hx : ixN xs.length i with
  | none => rw [hx] at e; cases e
  | some j => rw [hx] at e; exact r.get e
theorem snd_ix : Snd2 K gIx (rIx K) := by
  intro E ι H h x y dx dy Q rx ry hr o
  cases ry with
  | int i =>
    have go : ∀ {p : Addr} {vs : List V} {xs : List D}, Reps K ι H vs xs → out K E (repD K) ι H (match atI xs i with | some d => .ok d h | none => .no) Q → ∃ v, atI vs i = some v ∧ Q v H := fun {p vs xs} r o => by
      cases he : atI xs i with
      | none => rw [he] at o; exact o.elim
      | some d =>
        rw [he] at o
        obtain ⟨v, h1, h2⟩ := atI_reps r he
        exact ⟨v, h1, ans o h2 hr⟩
    cases rx with
    | str z =>
      by_cases hc : z.length ≤ LINE
      · simp only [gIx, if_pos hc] at o
        cases he : atI z.cps.toList i with
        | none => rw [he] at o; exact o.elim
        | some c => rw [he] at o; exact .inr (.inr ⟨z, i, c, rfl, rfl, ll hc, he, ans o (.str _) hr⟩)
      · simp only [gIx, if_neg hc] at o; exact o.elim
    | @tup p vs xs hp r =>
      simp only [gIx, seqD] at o
      obtain ⟨v, h1, h2⟩ := go (p := p) r o
      exact .inr (.inl ⟨p, vs, i, v, rfl, rfl, SqT.of hp, h1, h2⟩)
    | @rol p vs xs hp r =>
      simp only [gIx, seqD] at o
      obtain ⟨v, h1, h2⟩ := go (p := p) r o
      exact .inl ⟨p, vs, i, v, rfl, rfl, hp.l, h1, h2⟩
    | @ref p j hp =>
      obtain ⟨ob, e1, e2⟩ := hr.at hp
      cases ob with
      | lst xs =>
        simp only [gIx, seqD, e1] at o
        obtain ⟨vs, h3, h4⟩ := e2
        obtain ⟨v, h1, h2⟩ := go (p := p) h4 o
        exact .inl ⟨p, vs, i, v, rfl, rfl, SqL.of h3, h1, h2⟩
      | dK _ => simp only [gIx, seqD, e1] at o; exact o.elim
    | _ => exact o.elim
  | _ => exact o.elim
theorem me_item (ha : ME X E a fa) (hb : ME X E b fb) (hp : PlainIx b) : ME X E (.Subscript a b pos) (s2 gIx fa fb) := me_ix ix_seq snd_ix ha hb hp
abbrev SO := Sd → Hd → R (Option Int)
abbrev MO (X : Cx) (E : XD) (e : Option Expr) (f : SO) : Prop := PO X e (lift X.K E repO f)
def oN : SO := fun _ h => .ok none h
def oS (f : SE) : SO := fun τ h => (f τ h).bind fun d h1 => match d with | .int i => .ok (some i) h1 | _ => .no
theorem PO.weak {e : Option Expr} {t t' : St → Hp → (Option Int → Hp → Prop) → Prop} (h : PO X e t) (i : ∀ σ H Q, t' σ H Q → t σ H Q) : PO X e t' := fun pins s σ H Q I q => h pins s σ H Q I (i _ _ _ q)
theorem mo_none : MO X E none oN := PO.weak po_none fun σ H Q ⟨ι, τ, h, S, Rh, o⟩ => o ι H none (.refl _ _) rfl Rh
theorem mo_some (he : ME X E e fa) : MO X E (some e) (oS fa) := by
  refine PO.weak (po_some he) fun σ H Q ⟨ι, τ, h, S, Rh, o⟩ => ?_
  refine ⟨ι, τ, h, S, Rh, out_bind o fun d h1 ι1 H1 v g1 r1 hr1 o1 => ?_⟩
  cases r1 with
  | int i => exact ⟨i, rfl, o1 ι1 H1 _ (.refl _ _) rfl hr1⟩
  | _ => exact o1.elim
def whole (n : Nat) (lo hi : Option Int) : Prop := HT.sIx n 0 lo = 0 ∧ HT.sIx n n hi = n
instance (n : Nat) (lo hi : Option Int) : Decidable (whole n lo hi) := by unfold whole; exact inferInstance
def gSl (d : D) (lo hi : Option Int) (h : Hd) : R D := match d with
  | .str z => if z.length ≤ LINE then .ok (.str ⟨(cutL z.cps.toList lo hi).toArray⟩) h else .no
  | .tup xs => if ¬ whole xs.length lo hi then .ok (.tup (cutL xs lo hi)) h else .no
  | .rol xs => .ok (.ref h.length) (h ++ [.lst (cutL xs lo hi)])
  | .ref i => match h[i]? with | some (.lst xs) => .ok (.ref h.length) (h ++ [.lst (cutL xs lo hi)]) | _ => .no
  | _ => .no
theorem reps_cut {ι : List Addr} {H : Hp} {vs : List V} {xs : List D} (r : Reps K ι H vs xs) (lo hi : Option Int) : Reps K ι H (cutV vs lo hi) (cutL xs lo hi) := by
  unfold cutV cutL
  rw [r.len]
  exact (r.drop _).take _
theorem snd_sl {ι : List Addr} {H : Hp} {h : Hd} {x : V} {d : D} {lo hi : Option Int} {Q : VK} (rx : Rep K ι H x d) (hr : HRep K ι H h) (o : out K E (repD K) ι H (gSl d lo hi h) Q) : rSlS x lo hi H Q ∨ rSlT K x lo hi H Q ∨ rSlL K x lo hi H Q := by
  cases rx with
  | str z =>
    by_cases hc : z.length ≤ LINE
    · simp only [gSl, if_pos hc] at o; exact .inl ⟨z, rfl, ll hc, ans o (.str _) hr⟩
    · simp only [gSl, if_neg hc] at o; exact o.elim
  | @tup p vs xs hp r =>
    by_cases hc : ¬ whole xs.length lo hi
    · simp only [gSl, if_pos hc] at o
      exact .inr (.inl ⟨p, vs, rfl, SqT.of hp, by rw [r.len]; exact hc, new_tup (reps_cut r lo hi) hr o⟩)
    · simp only [gSl, if_neg hc] at o; exact o.elim
  | @rol p vs xs hp r => exact .inr (.inr ⟨p, vs, rfl, hp.l, new_lst (reps_cut r lo hi) hr o⟩)
  | @ref p j hp =>
    obtain ⟨ob, e1, e2⟩ := hr.at hp
    cases ob with
    | lst xs =>
      simp only [gSl, e1] at o
      obtain ⟨vs, h3, h4⟩ := e2
      exact .inr (.inr ⟨p, vs, rfl, SqL.of h3, new_lst (reps_cut h4 lo hi) hr o⟩)
    | dK _ => simp only [gSl, e1] at o; exact o.elim
  | _ => exact o.elim
def sSl (f : SE) (l u : SO) : SE := fun τ h => (f τ h).bind fun d h1 => (l τ h1).bind fun lo h2 => (u τ h2).bind fun hi h3 => gSl d lo hi h3
theorem me_slice {lo hi : Option Expr} {l u : SO} {p2 : Pos} (he : ME X E e fa) (hl : MO X E lo l) (hu : MO X E hi u) : ME X E (.Subscript e (.Slice lo hi none p2) pos) (sSl fa l u) := by
  refine PE.weak (pe_slice (sl_str.or (sl_tup.or sl_list)) he hl hu) fun σ H Q ⟨ι, τ, h, S, Rh, o⟩ => ?_
  refine ⟨ι, τ, h, S, Rh, out_bind o fun d h1 ι1 H1 v g1 r1 hr1 o1 => ?_⟩
  refine ⟨ι1, τ, h1, S.mono g1, hr1, out_bind o1 fun lo h2 ι2 H2 lv g2 r2 hr2 o2 => ?_⟩
  refine ⟨ι2, τ, h2, (S.mono g1).mono g2, hr2, out_bind o2 fun hi h3 ι3 H3 hv g3 r3 hr3 o3 => ?_⟩
  cases r2; cases r3
  exact snd_sl ((r1.mono g2).mono g3) hr3 o3
/-! ### in -/
theorem flat_of {ι : List Addr} {H : Hp} {x : V} {d : D} (r : Rep K ι H x d) (f : flatD d = true) : flatV x = true := by cases r <;> first | rfl | cases f
theorem eqF_of {ι : List Addr} {H : Hp} {x y : V} {d c : D} (r : Rep K ι H x d) (q : Rep K ι H y c) : flatD d = true → flatD c = true → eqV x y = eqF d c := fun f g => by
  cases r <;> cases q <;> first | rfl | (cases f; done) | (cases g; done)
def inD (x : D) (xs : List D) : Bool := xs.any fun y => eqF y x
theorem flats_of {ι : List Addr} {H : Hp} {vs : List V} {xs : List D} (r : Reps K ι H vs xs) (f : xs.all flatD = true) : vs.all flatV = true := by
  induction r using Reps.rec (motive_1 := fun _ _ _ => True) with
  | nil => rfl
  | cons r rs _ ih =>
    rw [List.all_cons, Bool.and_eq_true] at f ⊢
    exact ⟨flat_of r f.1, ih f.2⟩
  | _ => trivial
theorem inD_of {ι : List Addr} {H : Hp} {x : V} {d : D} {vs : List V} {xs : List D} (rx : Rep K ι H x d) (fx : flatD d = true) (r : Reps K ι H vs xs) (f : xs.all flatD = true) : inV x vs = inD d xs := by
  unfold inV inD
  induction r using Reps.rec (motive_1 := fun _ _ _ => True) with
  | nil => rfl
  | cons r rs _ ih =>
    rw [List.all_cons, Bool.and_eq_true] at f
    rw [List.any_cons, List.any_cons, ih f.2, eqF_of r rx f.1 fx]
  | _ => trivial
def gIn (neg : Bool) (x y : D) (h : Hd) : R D := match y with
  | .str T => (match x with
    | .str z => (match z.cps.toList with | [c] => .ok (.bl (if neg then !decide (c ∈ T.cps.toList) else decide (c ∈ T.cps.toList))) h | _ => .no)
    | _ => .no)
  | y => match seqD y h with
    | some xs => if flatD x = true ∧ xs.all flatD = true then .ok (.bl (if neg then !inD x xs else inD x xs)) h else .no
    | none => .no
theorem one_sign {z : Str} {c : Nat} (h : z.cps.toList = [c]) : z = ⟨#[c]⟩ := by
  obtain ⟨cps⟩ := z
  congr
  exact Array.ext' (by simpa using h)
theorem snd_in (neg : Bool) {r1 : R2} (h1 : ∀ c T H (Q : VK), Q (.bl (if neg then !decide (c ∈ T.cps.toList) else decide (c ∈ T.cps.toList))) H → r1 (.str ⟨#[c]⟩) (.str T) H Q) : Snd2 K (gIn neg) (fun x y H Q => r1 x y H Q ∨ rIn K neg x y H Q) := by
  intro E ι H h x y dx dy Q rx ry hr o
  have go : ∀ {p : Addr} {vs : List V} {xs : List D}, (SqL K H p vs ∨ SqT K H p vs) → Reps K ι H vs xs → out K E (repD K) ι H (if flatD dx = true ∧ xs.all flatD = true then .ok (.bl (if neg then !inD dx xs else inD dx xs)) h else .no) Q → rIn K neg x (.ref p) H Q := fun {p vs xs} sq r o => by
    split at o
    · rename_i hc
      exact ⟨p, vs, rfl, sq, flat_of rx hc.1, flats_of r hc.2, by rw [inD_of rx hc.1 r hc.2]; exact ans o (.bl _) hr⟩
    · exact o.elim
  cases ry with
  | str T =>
    cases rx with
    | str z =>
      simp only [gIn] at o
      split at o
      · rename_i c hz
        rw [one_sign hz]
        exact .inl (h1 c T H Q (ans o (.bl _) hr))
      · exact o.elim
    | _ => exact o.elim
  | @tup p vs xs hp r => simp only [gIn, seqD] at o; exact .inr (go (.inr (SqT.of hp)) r o)
  | @rol p vs xs hp r => simp only [gIn, seqD] at o; exact .inr (go (.inl hp.l) r o)
  | @ref p j hp =>
    obtain ⟨ob, e1, e2⟩ := hr.at hp
    cases ob with
    | lst xs =>
      simp only [gIn, seqD, e1] at o
      obtain ⟨vs, h3, h4⟩ := e2
      exact .inr (go (.inl (SqL.of h3)) h4 o)
    | dK _ => simp only [gIn, seqD, e1] at o; exact o.elim
  | _ => exact o.elim
theorem snd_in0 : Snd2 K (gIn false) (fun x y H Q => (∃ c T, x = .str ⟨#[c]⟩ ∧ y = .str T ∧ Q (.bl (decide (c ∈ T.cps.toList))) H) ∨ rIn K false x y H Q) := snd_in false fun c T H Q q => ⟨c, T, rfl, rfl, q⟩
theorem snd_in1 : Snd2 K (gIn true) (fun x y H Q => (∃ c T, x = .str ⟨#[c]⟩ ∧ y = .str T ∧ Q (.bl (!decide (c ∈ T.cps.toList))) H) ∨ rIn K true x y H Q) := snd_in true fun c T H Q q => ⟨c, T, rfl, rfl, q⟩
/-! ### what Python brings -/
def gLen : List D → Hd → R D
  | [.str z], h => if z.length ≤ LINE then .ok (.int z.length) h else .no
  | [x], h => (match seqD x h with | some xs => .ok (.int xs.length) h | none => .no)
  | _, _ => .no
theorem snd_len : SndL K gLen (fun xs H Q => (∃ p ys, xs = [.ref p] ∧ (SqL K H p ys ∨ SqT K H p ys) ∧ Q (.int ys.length) H) ∨ ∃ z, xs = [.str z] ∧ z.length ≤ sizeLine ∧ Q (.int z.length) H) := by
  intro E ι H h xs ds Q r hr o
  cases r with
  | nil => exact o.elim
  | cons r rs =>
    cases rs with
    | cons _ _ => exact (show False by cases r <;> exact o).elim
    | nil =>
      cases r with
      | str z =>
        by_cases hc : z.length ≤ LINE
        · simp only [gLen, if_pos hc] at o; exact .inr ⟨z, rfl, ll hc, ans o (.int _) hr⟩
        · simp only [gLen, if_neg hc] at o; exact o.elim
      | @tup p vs xs hp r => simp only [gLen, seqD] at o; exact .inl ⟨p, vs, rfl, .inr (SqT.of hp), by rw [r.len]; exact ans o (.int _) hr⟩
      | @rol p vs xs hp r => simp only [gLen, seqD] at o; exact .inl ⟨p, vs, rfl, .inl hp.l, by rw [r.len]; exact ans o (.int _) hr⟩
      | @ref p j hp =>
        obtain ⟨ob, e1, e2⟩ := hr.at hp
        cases ob with
        | lst xs =>
          simp only [gLen, seqD, e1] at o
          obtain ⟨vs, h3, h4⟩ := e2
          exact .inl ⟨p, vs, rfl, .inl (SqL.of h3), by rw [h4.len]; exact ans o (.int _) hr⟩
        | dK _ => simp only [gLen, seqD, e1] at o; exact o.elim
      | _ => exact o.elim
theorem CallR.or {f : Value} {r r' : List V → Hp → VK → Prop} (h : CallR X f r) (h' : CallR X f r') : CallR X f (fun xs H Q => r xs H Q ∨ r' xs H Q) := by
  intro pins s σ H xs us Q I rx q
  rcases q with q | q
  · exact h pins s σ H xs us Q I rx q
  · exact h' pins s σ H xs us Q I rx q
def gAbs : List D → Hd → R D
  | [.int i], h => .ok (.int (if i < 0 then -i else i)) h
  | _, _ => .no
theorem snd_abs : SndL K gAbs (fun xs H Q => ∃ i, xs = [.int i] ∧ Q (.int (if i < 0 then -i else i)) H) := by
  intro E ι H h xs ds Q r hr o
  unfold gAbs at o
  split at o
  · cases r with | cons r rs => cases r; cases rs; exact ⟨_, rfl, ans o (.int _) hr⟩
  · exact o.elim
def gMax2 : List D → Hd → R D
  | [.int i, .int j], h => .ok (.int (if j > i then j else i)) h
  | _, _ => .no
def gMin2 : List D → Hd → R D
  | [.int i, .int j], h => .ok (.int (if j < i then j else i)) h
  | _, _ => .no
theorem snd_max2 : SndL K gMax2 (fun xs H Q => ∃ i j, xs = [.int i, .int j] ∧ Q (.int (if j > i then j else i)) H) := by
  intro E ι H h xs ds Q r hr o
  unfold gMax2 at o
  split at o
  · cases r with | cons r rs => cases rs with | cons q rs => cases r; cases q; cases rs; exact ⟨_, _, rfl, ans o (.int _) hr⟩
  · exact o.elim
theorem snd_min2 : SndL K gMin2 (fun xs H Q => ∃ i j, xs = [.int i, .int j] ∧ Q (.int (if j < i then j else i)) H) := by
  intro E ι H h xs ds Q r hr o
  unfold gMin2 at o
  split at o
  · cases r with | cons r rs => cases rs with | cons q rs => cases r; cases q; cases rs; exact ⟨_, _, rfl, ans o (.int _) hr⟩
  · exact o.elim
def gInt : List D → Hd → R D
  | [.int i], h => .ok (.int i) h
  | [.bl k], h => .ok (.int (if k then 1 else 0)) h
  | _, _ => .no
theorem snd_int : SndL K gInt (fun xs H Q => (∃ i, xs = [.int i] ∧ Q (.int i) H) ∨ ∃ k, xs = [.bl k] ∧ Q (.int (if k then 1 else 0)) H) := by
  intro E ι H h xs ds Q r hr o
  unfold gInt at o
  split at o
  · cases r with | cons r rs => cases r; cases rs; exact .inl ⟨_, rfl, ans o (.int _) hr⟩
  · cases r with | cons r rs => cases r; cases rs; exact .inr ⟨_, rfl, ans o (.int _) hr⟩
  · exact o.elim
def gOrd : List D → Hd → R D
  | [.str x], h => if x.length = 1 then .ok (.int (x.cps.getD 0 0 : Nat)) h else .no
  | _, _ => .no
theorem snd_ord : SndL K gOrd (fun xs H Q => ∃ x, xs = [.str x] ∧ x.length = 1 ∧ Q (.int (x.cps.getD 0 0 : Nat)) H) := by
  intro E ι H h xs ds Q r hr o
  unfold gOrd at o
  split at o
  · split at o
    · rename_i hc
      cases r with | cons r rs => cases r; cases rs; exact ⟨_, rfl, hc, ans o (.int _) hr⟩
    · exact o.elim
  · exact o.elim
/-! ### isinstance -/
def tyD (d : D) (h : Hd) : Option String := match d with
  | .non => some "NoneType" | .bl _ => some "bool" | .int _ => some "int" | .str _ => some "str" | .tup _ => some "tuple"
  | .ref i => (match h[i]? with | some (.lst _) => some "list" | some (.dK _) => some "dict" | none => none)
  | _ => none
def subT (t T : String) : Option Bool :=
  if t ∈ ["NoneType", "bool", "int", "str", "tuple", "list", "dict"] ∧ T ∈ ["bool", "int", "str", "tuple", "list", "dict"] then some (t == T || (t == "bool" && T == "int")) else none
theorem subT_ok {t T : String} {b : Bool} (e : subT t T = some b) : PySem.W.kitOne K (.type t) (.type T) = some b := by
  unfold subT at e
  split at e
  · rename_i h
    obtain ⟨h1, h2⟩ := h
    simp only [List.mem_cons, List.not_mem_nil, or_false] at h1 h2
    rcases h1 with rfl | rfl | rfl | rfl | rfl | rfl | rfl <;> rcases h2 with rfl | rfl | rfl | rfl | rfl | rfl <;> (cases e; rfl)
  · cases e
def gIsi : List D → Hd → R D
  | [x, .ty T], h => (match tyD x h with | some t => (match subT t T with | some b => .ok (.bl b) h | none => .no) | none => .no)
  | _, _ => .no
theorem tyD_ok {ι : List Addr} {H : Hp} {h : Hd} {x : V} {d : D} {t : String} (r : Rep K ι H x d) (hr : HRep K ι H h) (e : tyD d h = some t) : TyOf K H x (.type t) := by
  cases r with
  | non => cases e; exact .non
  | bl b => cases e; exact .bl b
  | int b => cases e; exact .int b
  | str b => cases e; exact .str b
  | ty _ => cases e
  | tup hp r => cases e; exact .tup hp
  | rol _ _ => cases e
  | ref hp =>
    obtain ⟨ob, e1, e2⟩ := hr.at hp
    cases ob with
    | lst xs => simp only [tyD, e1] at e; cases e; obtain ⟨vs, h3, h4⟩ := e2; exact .lst h3
    | dK _ => simp only [tyD, e1] at e; cases e; obtain ⟨vs, h3, h4⟩ := e2; exact .dK h3
theorem snd_isi : SndL K gIsi (fun xs H Q => ∃ x T t b, xs = [x, .ty T] ∧ TyOf K H x t ∧ PySem.W.kitOne K t (.type T) = some b ∧ Q (.bl b) H) := by
  intro E ι H h xs ds Q r hr o
  unfold gIsi at o
  split at o
  · rename_i d T
    cases r with
    | cons r rs =>
      cases rs with
      | cons q rs =>
        cases q; cases rs
        cases ht : tyD d h with
        | none => rw [ht] at o; exact o.elim
        | some t =>
          rw [ht] at o
          cases hb : subT t T with
          | none => simp only [hb] at o; exact o.elim
          | some b =>
            simp only [hb] at o
            exact ⟨_, T, .type t, b, rfl, tyD_ok r hr ht, subT_ok hb, ans o (.bl _) hr⟩
  · exact o.elim
end
end MI

set_option Elab.async false
set_option linter.all false
set_option maxRecDepth 100000
set_option maxHeartbeats 4000000
namespace MI
open PySem PySem.Spec L2
section
variable {X : Cx} {K : PySem.W.Frag} {E : XD} {a b e o : Expr} {es : List Expr} {fa fb fo : SE} {ka : SA} {pos apos cpos : Pos} {name : Str} {idn : String}
def SndM (K : PySem.W.Frag) (g : D → List D → Hd → R D) (r : V → List V → Hp → VK → Prop) : Prop := ∀ (E : XD) ι H h x dx xs ds Q, Rep K ι H x dx → Reps K ι H xs ds → HRep K ι H h → out K E (repD K) ι H (g dx ds h) Q → r x xs H Q
/-! ### methods of lists -/
def isL (d : D) (h : Hd) : Bool := match d with | .ref i => (match h[i]? with | some (.lst _) => true | _ => false) | .rol _ => true | _ => false
def sML (g : D → List D → Hd → R D) (f : SE) (k : SA) : SE := fun τ h => (f τ h).bind fun d h1 => if isL d h1 = true then (k τ h1).bind fun ds h2 => g d ds h2 else .no
theorem isL_ok {ι : List Addr} {H : Hp} {h : Hd} {x : V} {d : D} (r : Rep K ι H x d) (hr : HRep K ι H h) (e : isL d h = true) : tyV K "list" x H := by
  cases r with
  | rol hp _ => exact .inl ⟨rfl, _, hp.l⟩
  | ref hp =>
    obtain ⟨ob, e1, e2⟩ := hr.at hp
    cases ob with
    | lst xs => obtain ⟨vs, h3, _⟩ := e2; exact .inl ⟨rfl, _, SqL.of h3⟩
    | dK _ => simp [isL, e1] at e
  | _ => cases e
theorem me_ml {r : V → List V → Hp → VK → Prop} {g : D → List D → Hd → R D} (slot : Slot "list" name idn) (hty : typeOf (.builtin idn) = pure (.type "method_descriptor")) (hm : MtR X idn r) (hs : SndM X.K g r) (ho : ME X E o fo) (ha : MA X E (e :: es) ka)
    (hbase : attributeBase o name X.env (eval o X.env) = eval o X.env := by rfl)
    (hfew : ((backTo cpos (starEach (e :: es) X.env)).all (fun x => !x.1) && (backToKw cpos (keywordEach [] X.env)).all (fun x => x.1.isSome)
      && decide ((e :: es).length + ([] : List Keyword).length + (if ([] : List Keyword).isEmpty then 0 else 1) < 30)) = true := by rfl)
    (hline : (apos.endLine == cpos.line) = true := by rfl) (hst : starEach (e :: es) X.env = (false, eval e X.env) :: starEach es X.env := by rfl) (hplain : (backTo cpos (starEach es X.env)).any (·.1) = false := by rfl) :
    ME X E (.Call (.Attribute o name apos) (e :: es) [] cpos) (sML g fo ka) := by
  refine PE.weak (pe_bm PySem.F.plainAttrs_list slot hty hm ho ha hbase hfew hline hst hplain) fun σ H Q ⟨ι, τ, h, S, Rh, o⟩ => ?_
  refine ⟨ι, τ, h, S, Rh, out_bind o fun d h1 ι1 H1 v g1 r1 hr1 o1 => ?_⟩
  by_cases hc : isL d h1 = true
  · rw [if_pos hc] at o1
    refine ⟨isL_ok r1 hr1 hc, ι1, τ, h1, S.mono g1, hr1, out_bind o1 fun ds h2 ι2 H2 vs g2 r2 hr2 o2 => ?_⟩
    exact hs E ι2 H2 h2 v d vs ds Q (r1.mono g2) r2 hr2 o2
  · rw [if_neg hc] at o1; exact o1.elim
theorem me_ml0 {r : V → List V → Hp → VK → Prop} {g : D → List D → Hd → R D} (slot : Slot "list" name idn) (hty : typeOf (.builtin idn) = pure (.type "method_descriptor")) (hm : MtR X idn r) (hs : SndM X.K g r) (ho : ME X E o fo)
    (hbase : attributeBase o name X.env (eval o X.env) = eval o X.env := by rfl) (hline : (apos.endLine == cpos.line) = true := by rfl) : ME X E (.Call (.Attribute o name apos) [] [] cpos) (sML g fo sNil) := by
  refine PE.weak (pe_bm0 PySem.F.plainAttrs_list slot hty hm ho hbase hline) fun σ H Q ⟨ι, τ, h, S, Rh, o⟩ => ?_
  refine ⟨ι, τ, h, S, Rh, out_bind o fun d h1 ι1 H1 v g1 r1 hr1 o1 => ?_⟩
  by_cases hc : isL d h1 = true
  · rw [if_pos hc] at o1
    exact ⟨isL_ok r1 hr1 hc, hs E ι1 H1 h1 v d [] [] Q r1 .nil hr1 o1⟩
  · rw [if_neg hc] at o1; exact o1.elim
def gApp : D → List D → Hd → R D
  | .ref i, [y], h => (match h[i]? with | some (.lst xs) => if xs.length < LINE then .ok .non (h.set i (.lst (xs ++ [y]))) else .no | _ => .no)
  | _, _, _ => .no
theorem snd_app : SndM K gApp rAppend := by
  intro E ι H h x dx xs ds Q rx r hr o
  unfold gApp at o
  split at o
  · rename_i i y
    cases rx with
    | @ref p _ hp =>
      cases r with
      | cons r1 rs =>
        cases rs
        split at o
        · rename_i xs hx
          obtain ⟨vs, h3, h4⟩ := hr.lst hp hx
          split at o
          · rename_i hc
            exact ⟨p, vs, _, rfl, rfl, h3, by rw [h4.len, sLine]; exact hc, put_lst (h4.snoc r1) hr hp .non o⟩
          · exact o.elim
        · exact o.elim
  · exact o.elim
def gExt : D → List D → Hd → R D
  | .ref i, [.tup ys], h => (match h[i]? with | some (.lst xs) => if xs.length + ys.length ≤ LINE then .ok .non (h.set i (.lst (xs ++ ys))) else .no | _ => .no)
  | .ref i, [.ref j], h => (match h[i]?, h[j]? with | some (.lst xs), some (.lst ys) => if xs.length + ys.length ≤ LINE then .ok .non (h.set i (.lst (xs ++ ys))) else .no | _, _ => .no)
  | _, _, _ => .no
theorem snd_ext : SndM K gExt (fun x vs H Q => rExtend x vs H Q ∨ rExtendT K x vs H Q) := by
  intro E ι H h x dx xs ds Q rx r hr o
  unfold gExt at o
  split at o
  · rename_i i ys
    cases rx with
    | @ref p _ hp =>
      cases r with
      | cons r1 rs =>
        cases rs
        cases r1 with
        | @tup b us zs hb rb =>
          split at o
          · rename_i xs hx
            obtain ⟨vs, h3, h4⟩ := hr.lst hp hx
            split at o
            · rename_i hc
              exact .inr ⟨p, b, vs, us, rfl, rfl, h3, SqT.of hb, ll (by rw [h4.len, rb.len]; exact hc), put_lst (h4.app rb) hr hp .non o⟩
            · exact o.elim
          · exact o.elim
  · rename_i i j
    cases rx with
    | @ref p _ hp =>
      cases r with
      | cons r1 rs =>
        cases rs
        cases r1 with
        | @ref b _ hb =>
          split at o
          · rename_i xs ys hx hy
            obtain ⟨vs, h3, h4⟩ := hr.lst hp hx
            obtain ⟨us, h5, h6⟩ := hr.lst hb hy
            split at o
            · rename_i hc
              exact .inl ⟨p, b, vs, us, rfl, rfl, h3, h5, ll (by rw [h4.len, h6.len]; exact hc), put_lst (h4.app h6) hr hp .non o⟩
            · exact o.elim
          · exact o.elim
  · exact o.elim
def gPop : D → List D → Hd → R D
  | .ref i, [], h => (match h[i]? with | some (.lst xs) => (match xs[xs.length - 1]? with | some y => .ok y (h.set i (.lst xs.dropLast)) | none => .no) | _ => .no)
  | _, _, _ => .no
theorem reps_dropLast {ι : List Addr} {H : Hp} {vs : List V} {xs : List D} (r : Reps K ι H vs xs) : Reps K ι H vs.dropLast xs.dropLast := by
  rw [List.dropLast_eq_take, List.dropLast_eq_take, r.len]; exact r.take _
theorem snd_pop : SndM K gPop rPop := by
  intro E ι H h x dx xs ds Q rx r hr o
  unfold gPop at o
  split at o
  · rename_i i
    cases rx with
    | @ref p _ hp =>
      cases r
      split at o
      · rename_i xs hx
        obtain ⟨vs, h3, h4⟩ := hr.lst hp hx
        split at o
        · rename_i y hy
          obtain ⟨v, h5, h6⟩ := h4.get hy
          exact ⟨p, vs, v, rfl, rfl, h3, by rw [h4.len]; exact h5, put_lst (reps_dropLast h4) hr hp h6 o⟩
        · exact o.elim
      · exact o.elim
  · exact o.elim
def gPopAt : D → List D → Hd → R D
  | .ref i, [.int j], h => (match h[i]? with | some (.lst xs) => (match ixN xs.length j with | some k => (match xs[k]? with | some y => if xs.length ≤ LINE then .ok y (h.set i (.lst (xs.eraseIdx k))) else .no | none => .no) | none => .no) | _ => .no)
  | _, _, _ => .no
theorem snd_popAt : SndM K gPopAt rPopAt := by
  intro E ι H h x dx xs ds Q rx r hr o
  unfold gPopAt at o
  split at o
  · rename_i i j
    cases rx with
    | @ref p _ hp =>
      cases r with
      | cons r1 rs =>
        cases r1; cases rs
        split at o
        · rename_i xs hx
          obtain ⟨vs, h3, h4⟩ := hr.lst hp hx
          split at o
          · rename_i k hk
            split at o
            · rename_i y hy
              split at o
              · rename_i hl
                obtain ⟨v, h5, h6⟩ := h4.get hy
                obtain ⟨q1, q2, q3, q4⟩ := ixN_seq hk
                have hl' : xs.length ≤ 16777216 := hl
                exact ⟨p, vs, j, k, v, rfl, rfl, h3, by omega, by omega, by rw [h4.len]; exact q1, h5, put_lst (h4.erase k) hr hp h6 o⟩
              · exact o.elim
            · exact o.elim
          · exact o.elim
        · exact o.elim
  · exact o.elim
/-! ### methods of texts -/
def sMS (g : D → List D → Hd → R D) (f : SE) (k : SA) : SE := fun τ h => (f τ h).bind fun d h1 => match d with | .str z => (k τ h1).bind fun ds h2 => g (.str z) ds h2 | _ => .no
theorem me_ms {r : V → List V → Hp → VK → Prop} {g : D → List D → Hd → R D} (slot : Slot "str" name idn) (hty : typeOf (.builtin idn) = pure (.type "method_descriptor")) (hm : MtR X idn r) (hs : SndM X.K g r) (ho : ME X E o fo) (ha : MA X E (e :: es) ka)
    (hbase : attributeBase o name X.env (eval o X.env) = eval o X.env := by rfl)
    (hfew : ((backTo cpos (starEach (e :: es) X.env)).all (fun x => !x.1) && (backToKw cpos (keywordEach [] X.env)).all (fun x => x.1.isSome)
      && decide ((e :: es).length + ([] : List Keyword).length + (if ([] : List Keyword).isEmpty then 0 else 1) < 30)) = true := by rfl)
    (hline : (apos.endLine == cpos.line) = true := by rfl) (hst : starEach (e :: es) X.env = (false, eval e X.env) :: starEach es X.env := by rfl) (hplain : (backTo cpos (starEach es X.env)).any (·.1) = false := by rfl) :
    ME X E (.Call (.Attribute o name apos) (e :: es) [] cpos) (sMS g fo ka) := by
  refine PE.weak (pe_sm slot hty hm ho ha hbase hfew hline hst hplain) fun σ H Q ⟨ι, τ, h, S, Rh, o⟩ => ?_
  refine ⟨ι, τ, h, S, Rh, out_bind o fun d h1 ι1 H1 v g1 r1 hr1 o1 => ?_⟩
  cases r1 with
  | str z => exact ⟨⟨z, rfl⟩, ι1, τ, h1, S.mono g1, hr1, out_bind o1 fun ds h2 ι2 H2 vs g2 r2 hr2 o2 => hs E ι2 H2 h2 _ _ vs ds Q (.str z) r2 hr2 o2⟩
  | _ => exact o1.elim
def gFind : D → List D → Hd → R D
  | .str T, [.str z], h => (match z.cps.toList with | [c] => .ok (.int (findC T c)) h | _ => .no)
  | _, _, _ => .no
theorem snd_find : SndM K gFind (fun x xs H Q => ∃ T c, x = .str T ∧ xs = [.str ⟨#[c]⟩] ∧ Q (.int (findC T c)) H) := by
  intro E ι H h x dx xs ds Q rx r hr o
  unfold gFind at o
  split at o
  · cases rx
    cases r with
    | cons r1 rs =>
      cases r1; cases rs
      split at o
      · rename_i c hz
        exact ⟨_, c, rfl, by rw [one_sign hz], ans o (.int _) hr⟩
      · exact o.elim
  · exact o.elim
def gIndex : D → List D → Hd → R D
  | .str T, [.str z], h => (match z.cps.toList with | [c] => if c ∈ T.cps.toList then .ok (.int (findC T c)) h else .no | _ => .no)
  | _, _, _ => .no
theorem snd_index : SndM K gIndex (fun x xs H Q => ∃ T c, x = .str T ∧ xs = [.str ⟨#[c]⟩] ∧ c ∈ T.cps.toList ∧ Q (.int (findC T c)) H) := by
  intro E ι H h x dx xs ds Q rx r hr o
  unfold gIndex at o
  split at o
  · cases rx
    cases r with
    | cons r1 rs =>
      cases r1; cases rs
      split at o
      · rename_i c hz
        split at o
        · rename_i hc
          exact ⟨_, c, rfl, by rw [one_sign hz], hc, ans o (.int _) hr⟩
        · exact o.elim
      · exact o.elim
  · exact o.elim
def strsD : List D → Option (List Str)
  | [] => some []
  | .str z :: r => (strsD r).map (z :: ·)
  | _ :: _ => none
theorem strsD_ok {ι : List Addr} {H : Hp} : ∀ {vs : List V} {xs : List D} {zs : List Str}, Reps K ι H vs xs → strsD xs = some zs → vs = zs.map V.str
  | _, _, _, .nil, e => by cases e; rfl
  | _, _, zs, .cons (d := d) r rs, e => by
    cases r with
    | str z =>
      simp only [strsD, Option.map_eq_some_iff] at e
      obtain ⟨ws, h1, rfl⟩ := e
      rw [strsD_ok rs h1]; rfl
    | _ => cases e
def gJoin : D → List D → Hd → R D
  | .str sep, [.ref i], h => (match h[i]? with | some (.lst xs) => (match strsD xs with | some zs => if (zs.map (·.length)).sum + zs.length * sep.length ≤ 16777216 then .ok (.str (Txt.join sep zs)) h else .no | none => .no) | _ => .no)
  | _, _, _ => .no
theorem snd_join : SndM K gJoin (fun x xs H Q => ∃ sep p zs, x = .str sep ∧ xs = [.ref p] ∧ SqL K H p (zs.map V.str) ∧ (zs.map (·.length)).sum + zs.length * sep.length ≤ 16777216 ∧ Q (.str (Txt.join sep zs)) H) := by
  intro E ι H h x dx xs ds Q rx r hr o
  unfold gJoin at o
  split at o
  · rename_i sep i
    cases rx
    cases r with
    | cons r1 rs =>
      cases rs
      cases r1 with
      | @ref p _ hp =>
        split at o
        · rename_i xs hx
          obtain ⟨vs, h3, h4⟩ := hr.lst hp hx
          split at o
          · rename_i zs hz
            split at o
            · rename_i hc
              exact ⟨sep, p, zs, rfl, rfl, SqL.of (by rw [h3, strsD_ok h4 hz]), hc, ans o (.str _) hr⟩
            · exact o.elim
          · exact o.elim
        · exact o.elim
  · exact o.elim
/-! ### list(), tuple(), all(), sum(), len(set()) -/
def gList : List D → Hd → R D
  | [.str z], h => if z.length ≤ LINE then .ok (.ref h.length) (h ++ [.lst (signsD z)]) else .no
  | [x], h => (match seqD x h with | some xs => .ok (.ref h.length) (h ++ [.lst xs]) | none => .no)
  | _, _ => .no
theorem reps_signs {ι : List Addr} {H : Hp} (z : Str) : Reps K ι H (signsV z) (signsD z) := by
  unfold signsV signsD
  induction z.cps.toList with
  | nil => exact .nil
  | cons c cs ih => exact .cons (.str _) ih
theorem snd_list : SndL K gList (fun xs H Q => (∃ p ys, xs = [.ref p] ∧ (SqL K H p ys ∨ SqT K H p ys) ∧ ∀ l, H l = none → Q (.ref l) (upd H l (.lst ys))) ∨ ∃ z, xs = [.str z] ∧ z.length ≤ sizeLine ∧ ∀ l, H l = none → Q (.ref l) (upd H l (.lst (signsV z)))) := by
  intro E ι H h xs ds Q r hr o
  cases r with
  | nil => exact o.elim
  | cons r rs =>
    cases rs with
    | cons _ _ => exact (show False by cases r <;> exact o).elim
    | nil =>
      cases r with
      | str z =>
        by_cases hc : z.length ≤ LINE
        · simp only [gList, if_pos hc] at o; exact .inr ⟨z, rfl, ll hc, new_lst (reps_signs z) hr o⟩
        · simp only [gList, if_neg hc] at o; exact o.elim
      | @tup p vs xs hp r => simp only [gList, seqD] at o; exact .inl ⟨p, vs, rfl, .inr (SqT.of hp), new_lst r hr o⟩
      | @rol p vs xs hp r => simp only [gList, seqD] at o; exact .inl ⟨p, vs, rfl, .inl hp.l, new_lst r hr o⟩
      | @ref p j hp =>
        obtain ⟨ob, e1, e2⟩ := hr.at hp
        cases ob with
        | lst xs =>
          simp only [gList, seqD, e1] at o
          obtain ⟨vs, h3, h4⟩ := e2
          exact .inl ⟨p, vs, rfl, .inl (SqL.of h3), new_lst h4 hr o⟩
        | dK _ => simp only [gList, seqD, e1] at o; exact o.elim
      | _ => exact o.elim
def gTuple : List D → Hd → R D
  | [.str z], h => if z.length ≤ LINE then .ok (.tup (signsD z)) h else .no
  | [x], h => (match seqD x h with | some xs => .ok (.tup xs) h | none => .no)
  | _, _ => .no
theorem snd_tuple : SndL K gTuple (fun xs H Q => (∃ p ys, xs = [.ref p] ∧ ((SqL K H p ys ∧ ∀ l, H l = none → Q (.ref l) (upd H l (.tup ys))) ∨ (SqT K H p ys ∧ Q (.ref p) H))) ∨ ∃ z, xs = [.str z] ∧ z.length ≤ sizeLine ∧ ∀ l, H l = none → Q (.ref l) (upd H l (.tup (signsV z)))) := by
  intro E ι H h xs ds Q r hr o
  cases r with
  | nil => exact o.elim
  | cons r rs =>
    cases rs with
    | cons _ _ => exact (show False by cases r <;> exact o).elim
    | nil =>
      cases r with
      | str z =>
        by_cases hc : z.length ≤ LINE
        · simp only [gTuple, if_pos hc] at o; exact .inr ⟨z, rfl, ll hc, new_tup (reps_signs z) hr o⟩
        · simp only [gTuple, if_neg hc] at o; exact o.elim
      | @tup p vs xs hp r => simp only [gTuple, seqD] at o; exact .inl ⟨p, vs, rfl, .inr ⟨SqT.of hp, ans o (.tup hp r) hr⟩⟩
      | @rol p vs xs hp r => simp only [gTuple, seqD] at o; exact .inl ⟨p, vs, rfl, .inl ⟨hp.l, new_tup r hr o⟩⟩
      | @ref p j hp =>
        obtain ⟨ob, e1, e2⟩ := hr.at hp
        cases ob with
        | lst xs =>
          simp only [gTuple, seqD, e1] at o
          obtain ⟨vs, h3, h4⟩ := e2
          exact .inl ⟨p, vs, rfl, .inl ⟨SqL.of h3, new_tup h4 hr o⟩⟩
        | dK _ => simp only [gTuple, seqD, e1] at o; exact o.elim
      | _ => exact o.elim
def blsD : List D → Option (List Bool)
  | [] => some []
  | .bl z :: r => (blsD r).map (z :: ·)
  | _ :: _ => none
def intsD : List D → Option (List Int)
  | [] => some []
  | .int z :: r => (intsD r).map (z :: ·)
  | _ :: _ => none
theorem blsD_ok {ι : List Addr} {H : Hp} : ∀ {vs : List V} {xs : List D} {zs : List Bool}, Reps K ι H vs xs → blsD xs = some zs → vs = zs.map V.bl
  | _, _, _, .nil, e => by cases e; rfl
  | _, _, zs, .cons (d := d) r rs, e => by
    cases r with
    | bl z =>
      simp only [blsD, Option.map_eq_some_iff] at e
      obtain ⟨ws, h1, rfl⟩ := e
      rw [blsD_ok rs h1]; rfl
    | _ => cases e
theorem intsD_ok {ι : List Addr} {H : Hp} : ∀ {vs : List V} {xs : List D} {zs : List Int}, Reps K ι H vs xs → intsD xs = some zs → vs = zs.map V.int
  | _, _, _, .nil, e => by cases e; rfl
  | _, _, zs, .cons (d := d) r rs, e => by
    cases r with
    | int z =>
      simp only [intsD, Option.map_eq_some_iff] at e
      obtain ⟨ws, h1, rfl⟩ := e
      rw [intsD_ok rs h1]; rfl
    | _ => cases e
theorem blsD_map (bs : List Bool) : blsD (bs.map D.bl) = some bs := by
  induction bs with
  | nil => rfl
  | cons b bs ih => simp [blsD, ih]
theorem intsD_map (bs : List Int) : intsD (bs.map D.int) = some bs := by
  induction bs with
  | nil => rfl
  | cons b bs ih => simp [intsD, ih]
theorem strsD_map (bs : List Str) : strsD (bs.map D.str) = some bs := by
  induction bs with
  | nil => rfl
  | cons b bs ih => simp [strsD, ih]
def gAll : List D → Hd → R D
  | [.ref i], h => (match h[i]? with | some (.lst xs) => (match blsD xs with | some bs => .ok (.bl (bs.all id)) h | none => .no) | _ => .no)
  | _, _ => .no
theorem snd_all : SndL K gAll (fun xs H Q => ∃ (p : Addr) (bs : List Bool), xs = [.ref p] ∧ SqL K H p (bs.map V.bl) ∧ Q (.bl (bs.all id)) H) := by
  intro E ι H h xs ds Q r hr o
  unfold gAll at o
  split at o
  · cases r with
    | cons r rs =>
      cases rs
      cases r with
      | @ref p _ hp =>
        split at o
        · rename_i xs hx
          obtain ⟨vs, h3, h4⟩ := hr.lst hp hx
          split at o
          · rename_i bs hb
            exact ⟨p, bs, rfl, SqL.of (by rw [h3, blsD_ok h4 hb]), ans o (.bl _) hr⟩
          · exact o.elim
        · exact o.elim
  · exact o.elim
def gSum : List D → Hd → R D
  | [.ref i], h => (match h[i]? with | some (.lst xs) => (match intsD xs with | some bs => .ok (.int bs.sum) h | none => .no) | _ => .no)
  | _, _ => .no
theorem snd_sum : SndL K gSum (fun xs H Q => ∃ (p : Addr) (ns : List Int), xs = [.ref p] ∧ SqL K H p (ns.map V.int) ∧ Q (.int ns.sum) H) := by
  intro E ι H h xs ds Q r hr o
  unfold gSum at o
  split at o
  · cases r with
    | cons r rs =>
      cases rs
      cases r with
      | @ref p _ hp =>
        split at o
        · rename_i xs hx
          obtain ⟨vs, h3, h4⟩ := hr.lst hp hx
          split at o
          · rename_i bs hb
            exact ⟨p, bs, rfl, SqL.of (by rw [h3, intsD_ok h4 hb]), ans o (.int _) hr⟩
          · exact o.elim
        · exact o.elim
  · exact o.elim
/-- len(set(x)), x a text -/
def gLenSet (d : D) (h : Hd) : R D := match d with | .str z => if z.length ≤ 1000 then .ok (.int ((dedup z.cps.toList).length : Nat)) h else .no | _ => .no
theorem me_lenset {e : Expr} {p1 p2 pos1 pos2 : Pos} (hc : X.calm = true) (hg1 : Gl X "len") (hm1 : X.mg "len" = none) (hg2 : Gl X "set") (hm2 : X.mg "set" = none) (ha : ME X E e fa)
    (h1 : starEach [e] X.env = [(false, eval e X.env)] := by rfl) (h2 : starEach [.Call (.Name "set" p2) [e] [] pos2] X.env = [(false, eval (.Call (.Name "set" p2) [e] [] pos2) X.env)] := by rfl) :
    ME X E (.Call (.Name "len" p1) [.Call (.Name "set" p2) [e] [] pos2] [] pos1) (s1 gLenSet fa) := by
  have q := pe_callB (pos := pos1) (p := p1) call_len_set hg1 hm1 bt_len (pa_cons (pe_callTy (pos := pos2) (p := p2) (call_set_s hc) hg2 hm2 bt_set (pa_cons ha pa_nil (by rw [h1]; rfl)) (by decide) (by decide) (by rw [h1]; rfl) rfl) pa_nil (by rw [h2]; rfl)) (by decide) (by decide) (by rw [h2]; rfl) rfl
  refine PE.weak q fun σ H Q ⟨ι, τ, h, S, Rh, o⟩ => ?_
  refine ⟨ι, τ, h, S, Rh, out_bind o fun d h1 ι1 H1 v g1 r1 hr1 o1 => ?_⟩
  cases r1 with
  | str z =>
    by_cases hz : z.length ≤ 1000
    · simp only [gLenSet, if_pos hz] at o1
      refine ⟨z, rfl, hz, fun l hl => ⟨l, _, rfl, upd_same, o1 ι1 _ _ (gr_new hl _) (.int _) (hr1.aside hl _)⟩⟩
    · simp only [gLenSet, if_neg hz] at o1; exact o1.elim
  | _ => exact o1.elim
end
end MI

set_option Elab.async false
set_option linter.all false
set_option maxRecDepth 100000
set_option maxHeartbeats 4000000
theorem L2.Room.u {k : Nat} {A : PySem.Around} (r : L2.Room k A) : A.units + 64 < PySem.cLine := r.units
namespace MI
open PySem PySem.Spec L2
/-! ### == of data that nobody changes -/
mutual
def eqD : D → D → Bool
  | .non, .non => true
  | .bl a, .bl b => a == b
  | .bl a, .int b => (if a then 1 else 0) == b
  | .int a, .bl b => a == (if b then 1 else 0)
  | .int a, .int b => a == b
  | .str a, .str b => a == b
  | .tup xs, .tup ys => eqDs xs ys
  | _, _ => false
def eqDs : List D → List D → Bool
  | [], [] => true
  | x :: xs, y :: ys => eqD x y && eqDs xs ys
  | _, _ => false
end
/-- no list, dict .. in it, tuples at most n within one another -/
def pur : Nat → D → Bool
  | _, .non => true
  | _, .bl _ => true
  | _, .int _ => true
  | _, .str _ => true
  | n + 1, .tup xs => xs.all (pur n)
  | _, _ => false
theorem pur_up {n : Nat} : ∀ {m : Nat} {d : D}, n ≤ m → pur n d = true → pur m d = true := by
  induction n with
  | zero => intro m d _ h; cases d <;> first | (cases m <;> rfl) | (cases h; done)
  | succ n ih =>
    intro m d hm h
    cases m with
    | zero => omega
    | succ m =>
      cases d with
      | tup xs =>
        simp only [pur, List.all_eq_true] at h ⊢
        exact fun x hx => ih (by omega) (h x hx)
      | _ => first | rfl | (cases h; done)
def pairE (xs ys : List D) (j : Nat) : Bool := match xs[j]?, ys[j]? with | some x, some y => eqD x y | _, _ => false
theorem eqDs_all : ∀ xs ys : List D, ((List.range (min xs.length ys.length)).all (pairE xs ys) && xs.length == ys.length) = eqDs xs ys
  | [], [] => by simp [eqDs]
  | [], _ :: _ => by simp [eqDs]
  | _ :: _, [] => by simp [eqDs]
  | x :: xs, y :: ys => by
    have ih := eqDs_all xs ys
    rw [show min (x :: xs).length (y :: ys).length = min xs.length ys.length + 1 by simp only [List.length_cons]; omega, List.range_succ_eq_map]
    rw [List.all_cons, List.all_map]
    have e : (pairE (x :: xs) (y :: ys) ∘ Nat.succ) = pairE xs ys := by funext j; simp [pairE]
    rw [e]
    simp only [eqDs]
    rw [← ih]
    have e2 : ((x :: xs).length == (y :: ys).length) = (xs.length == ys.length) := by simp
    rw [e2, Bool.and_assoc]
    rfl
section
variable {K : PySem.W.Frag} {ι : List Addr} {H : Hp}
theorem eqD_same : ∀ (n : Nat) {v : V} {d e : D}, Rep K ι H v d → Rep K ι H v e → pur n d = true → pur n e = true → eqD d e = true := by
  intro n
  induction n with
  | zero => intro v d e r q p1 p2; cases r <;> cases q <;> first | (simp [eqD]; done) | (cases p1; done) | (cases p2; done)
  | succ n ih =>
    intro v d e r q p1 p2
    cases r with
    | @tup a vs xs h rs =>
      cases q with
      | @tup _ us ys h' qs =>
        rw [h] at h'; cases h'
        simp only [eqD]
        simp only [pur, List.all_eq_true] at p1 p2
        clear h
        induction rs using Reps.rec (motive_1 := fun _ _ _ => True) generalizing ys with
        | nil => cases qs; rfl
        | cons r rs _ ih2 =>
          cases qs with
          | cons q qs =>
            simp only [eqDs, Bool.and_eq_true]
            exact ⟨ih r q (p1 _ (List.mem_cons_self ..)) (p2 _ (List.mem_cons_self ..)), ih2 qs (fun x hx => p1 x (List.mem_cons_of_mem _ hx)) (fun x hx => p2 x (List.mem_cons_of_mem _ hx))⟩
        | _ => trivial
      | _ => cases p2
    | _ => cases q <;> first | (simp [eqD]; done) | (cases p1; done) | (cases p2; done)
theorem flat_V {n : Nat} {v : V} {d : D} (r : Rep K ι H v d) (p : pur n d = true) : (∃ xs, d = .tup xs) ∨ (flatV v = true ∧ flatD d = true) := by
  cases r <;> first | exact .inr ⟨rfl, rfl⟩ | exact .inl ⟨_, rfl⟩ | (cases n <;> cases p)
theorem eqD_flat {x y : V} {d e : D} (r : Rep K ι H x d) (q : Rep K ι H y e) (f : flatD d = true) (g : flatD e = true) : eqV x y = eqD d e := by
  cases r <;> cases q <;> first | rfl | (simp [eqV, eqD]; done) | (cases f; done) | (cases g; done)
open SeqAt in
theorem eqAt_D {P : Program} {w : World} {s : Shared} (hok : HOk P w H s.heap) : ∀ (n : Nat) (A : Around) {x y : V} {u v : Value} {d e : D}, Rep K ι H x d → Rep K ι H y e → RelV x u → RelV y v → pur n d = true → pur n e = true → A.units + n < cLine → EqAt A s u v (eqD d e) := by
  intro n
  induction n with
  | zero =>
    intro A x y u v d e r q rx ry p1 p2 hu
    rcases flat_V r p1 with ⟨xs, rfl⟩ | ⟨f1, f2⟩
    · cases p1
    · rcases flat_V q p2 with ⟨xs, rfl⟩ | ⟨g1, g2⟩
      · cases p2
      · rw [← eqD_flat r q f2 g2]; exact eqAt_V rx ry f1 g1
  | succ n ih =>
    intro A x y u v d e r q rx ry p1 p2 hu
    rcases flat_V r p1 with ⟨xs, rfl⟩ | ⟨f1, f2⟩
    · cases r with
      | @tup a vs _ ha rs =>
        cases rx
        obtain ⟨_, its, r1, t1⟩ := (Rd.of ha).ok hok
        rcases flat_V q p2 with ⟨ys, rfl⟩ | ⟨g1, g2⟩
        · cases q with
          | @tup b us _ hb qs =>
            cases ry
            obtain ⟨_, its2, r2, t2⟩ := (Rd.of hb).ok hok
            by_cases hab : a = b
            · subst hab
              rw [eqD_same (n + 1) (.tup ha rs) (.tup hb qs) p1 p2]
              exact EqAt.same _
            · have l1 : its.toArray.size = xs.length := by rw [List.size_toArray, ← r1.length, rs.len]
              have l2 : its2.toArray.size = ys.length := by rw [List.size_toArray, ← r2.length, qs.len]
              have := RcAt.tuples (A := A) (s := s) (e := pairE xs ys) t1 t2 (by omega) (fun j h1 h2 => by
                have j1 : j < xs.length := by omega
                have j2 : j < ys.length := by omega
                obtain ⟨v1, e1, q1⟩ := rs.get (List.getElem?_eq_getElem j1)
                obtain ⟨v2, e2, q2⟩ := qs.get (List.getElem?_eq_getElem j2)
                obtain ⟨u1, e3, q3⟩ := r1.get e1
                obtain ⟨u2, e4, q4⟩ := r2.get e2
                have f1 : its.toArray[j] = u1 := by simpa using (List.getElem?_eq_some_iff.mp e3).2
                have f2 : its2.toArray[j] = u2 := by simpa using (List.getElem?_eq_some_iff.mp e4).2
                have pe : pairE xs ys j = eqD xs[j] ys[j] := by simp [pairE, List.getElem?_eq_getElem j1, List.getElem?_eq_getElem j2]
                rw [f1, f2, pe]
                simp only [pur, List.all_eq_true] at p1 p2
                exact ih A.in1 q1 q2 q3 q4 (p1 _ (List.getElem_mem j1)) (p2 _ (List.getElem_mem j2)) (by rw [Around.in1_units]; omega))
              rw [l1, l2, eqDs_all] at this
              exact EqAt.of_refs hab this
        · have e0 : eqD (.tup xs) e = false := by cases e <;> first | rfl | (cases g2; done)
          rw [e0]
          cases y with
          | non => cases ry; exact EqAt.tuple_none t1 (by omega)
          | bl b => cases ry; exact EqAt.tuple_bool b t1 (by omega)
          | int b => obtain ⟨t, rfl⟩ := ry; exact EqAt.tuple_int b t t1 (by omega)
          | str b => obtain ⟨t, rfl⟩ := ry; exact EqAt.tuple_str b t t1 (by omega)
          | _ => cases g1
    · rcases flat_V q p2 with ⟨ys, rfl⟩ | ⟨g1, g2⟩
      · cases q with
        | @tup b us _ hb qs =>
          cases ry
          obtain ⟨_, its2, r2, t2⟩ := (Rd.of hb).ok hok
          have e0 : eqD d (.tup ys) = false := by cases d <;> first | rfl | (cases f2; done)
          rw [e0]
          cases x with
          | non => cases rx; exact EqAt.none_tuple t2 (by omega)
          | bl b => cases rx; exact EqAt.bool_tuple b t2 (by omega)
          | int b => obtain ⟨t, rfl⟩ := rx; exact EqAt.int_tuple b t t2 (by omega)
          | str b => obtain ⟨t, rfl⟩ := rx; exact EqAt.str_tuple b t t2 (by omega)
          | _ => cases f1
      · rw [← eqD_flat r q f2 g2]; exact eqAt_V rx ry f1 g1
open SeqAt in
theorem rcAt_V {A : Around} {s : Shared} {y x : V} {u v : Value} (ry : RelV y u) (rx : RelV x v) (fy : flatV y = true) (fx : flatV x = true) : RcAt A s u v (eqV y x) := by
  cases y with
  | non =>
    cases ry
    cases x with
    | non => cases rx; exact RcAt.none_none
    | bl b => cases rx; exact RcAt.none_bool b
    | int b => obtain ⟨t, rfl⟩ := rx; exact RcAt.none_int b t
    | str b => obtain ⟨t, rfl⟩ := rx; exact RcAt.none_str b t
    | _ => cases fx
  | bl a =>
    cases ry
    cases x with
    | non => cases rx; exact RcAt.bool_none a
    | bl b => cases rx; exact RcAt.bool_bool a b
    | int b => obtain ⟨t, rfl⟩ := rx; exact RcAt.bool_int a b t
    | str b => obtain ⟨t, rfl⟩ := rx; exact RcAt.bool_str a b t
    | _ => cases fx
  | int a =>
    obtain ⟨t', rfl⟩ := ry
    cases x with
    | non => cases rx; exact RcAt.int_none a t'
    | bl b => cases rx; exact RcAt.int_bool a t' b
    | int b => obtain ⟨t, rfl⟩ := rx; exact RcAt.int_int a t' b t
    | str b => obtain ⟨t, rfl⟩ := rx; exact RcAt.int_str a t' b t
    | _ => cases fx
  | str a =>
    obtain ⟨t', rfl⟩ := ry
    cases x with
    | non => cases rx; exact RcAt.str_none a t'
    | bl b => cases rx; exact RcAt.str_bool a t' b
    | int b => obtain ⟨t, rfl⟩ := rx; exact RcAt.str_int a t' b t
    | str b => obtain ⟨t, rfl⟩ := rx; exact RcAt.str_str a t' b t
    | _ => cases fx
  | _ => cases fy
open SeqAt in
theorem rcNeAt_V {A : Around} {s : Shared} {y x : V} {u v : Value} (ry : RelV y u) (rx : RelV x v) (fy : flatV y = true) (fx : flatV x = true) : RcNeAt A s u v (!eqV y x) := by
  cases y with
  | non =>
    cases ry
    cases x with
    | non => cases rx; exact RcNeAt.none_none
    | bl b => cases rx; exact RcNeAt.none_bool b
    | int b => obtain ⟨t, rfl⟩ := rx; exact RcNeAt.none_int b t
    | str b => obtain ⟨t, rfl⟩ := rx; exact RcNeAt.none_str b t
    | _ => cases fx
  | bl a =>
    cases ry
    cases x with
    | non => cases rx; exact RcNeAt.bool_none a
    | bl b => cases rx; exact RcNeAt.bool_bool a b
    | int b => obtain ⟨t, rfl⟩ := rx; exact RcNeAt.bool_int a b t
    | str b => obtain ⟨t, rfl⟩ := rx; exact RcNeAt.bool_str a b t
    | _ => cases fx
  | int a =>
    obtain ⟨t', rfl⟩ := ry
    cases x with
    | non => cases rx; exact RcNeAt.int_none a t'
    | bl b => cases rx; exact RcNeAt.int_bool a t' b
    | int b => obtain ⟨t, rfl⟩ := rx; exact RcNeAt.int_int a t' b t
    | str b => obtain ⟨t, rfl⟩ := rx; exact RcNeAt.int_str a t' b t
    | _ => cases fx
  | str a =>
    obtain ⟨t', rfl⟩ := ry
    cases x with
    | non => cases rx; exact RcNeAt.str_none a t'
    | bl b => cases rx; exact RcNeAt.str_bool a t' b
    | int b => obtain ⟨t, rfl⟩ := rx; exact RcNeAt.str_int a t' b t
    | str b => obtain ⟨t, rfl⟩ := rx; exact RcNeAt.str_str a t' b t
    | _ => cases fx
  | _ => cases fy
open SeqAt in
theorem tops {P : Program} {w : World} {s : Shared} {A : Around} (hok : HOk P w H s.heap) {x y : V} {u v : Value} {d e : D} (r : Rep K ι H x d) (q : Rep K ι H y e) (rx : RelV x u) (ry : RelV y v) (p1 : pur 60 d = true) (p2 : pur 60 e = true) (hu : A.units + 64 < cLine) :
    RcAt A s u v (eqD d e) ∧ RcNeAt A s u v (!eqD d e) := by
  rcases flat_V r p1 with ⟨xs, rfl⟩ | ⟨f1, f2⟩
  · cases r with
    | @tup a vs _ ha rs =>
      cases rx
      obtain ⟨_, its, r1, t1⟩ := (Rd.of ha).ok hok
      rcases flat_V q p2 with ⟨ys, rfl⟩ | ⟨g1, g2⟩
      · cases q with
        | @tup b us _ hb qs =>
          cases ry
          obtain ⟨_, its2, r2, t2⟩ := (Rd.of hb).ok hok
          have l1 : its.toArray.size = xs.length := by rw [List.size_toArray, ← r1.length, rs.len]
          have l2 : its2.toArray.size = ys.length := by rw [List.size_toArray, ← r2.length, qs.len]
          have step : ∀ j (h1 : j < its.toArray.size) (h2 : j < its2.toArray.size), EqAt A.in1 s its.toArray[j] its2.toArray[j] (pairE xs ys j) := fun j h1 h2 => by
            have j1 : j < xs.length := by omega
            have j2 : j < ys.length := by omega
            obtain ⟨v1, e1, q1⟩ := rs.get (List.getElem?_eq_getElem j1)
            obtain ⟨v2, e2, q2⟩ := qs.get (List.getElem?_eq_getElem j2)
            obtain ⟨u1, e3, q3⟩ := r1.get e1
            obtain ⟨u2, e4, q4⟩ := r2.get e2
            have f1 : its.toArray[j] = u1 := by simpa using (List.getElem?_eq_some_iff.mp e3).2
            have f2 : its2.toArray[j] = u2 := by simpa using (List.getElem?_eq_some_iff.mp e4).2
            have pe : pairE xs ys j = eqD xs[j] ys[j] := by simp [pairE, List.getElem?_eq_getElem j1, List.getElem?_eq_getElem j2]
            rw [f1, f2, pe]
            simp only [pur, List.all_eq_true] at p1 p2
            exact eqAt_D hok 59 A.in1 q1 q2 q3 q4 (p1 _ (List.getElem_mem j1)) (p2 _ (List.getElem_mem j2)) (by rw [Around.in1_units]; omega)
          have c1 := RcAt.tuples (A := A) (s := s) (e := pairE xs ys) t1 t2 (by omega) step
          have c2 := RcNeAt.tuples (A := A) (s := s) (e := pairE xs ys) t1 t2 (by omega) step
          rw [l1, l2, eqDs_all] at c1 c2
          exact ⟨c1, c2⟩
      · have e0 : eqD (.tup xs) e = false := by cases e <;> first | rfl | (cases g2; done)
        rw [e0]
        cases y with
        | non => cases ry; exact ⟨RcAt.tuple_none t1 (by omega), RcNeAt.tuple_none t1 (by omega)⟩
        | bl b => cases ry; exact ⟨RcAt.tuple_bool b t1 (by omega), RcNeAt.tuple_bool b t1 (by omega)⟩
        | int b => obtain ⟨t, rfl⟩ := ry; exact ⟨RcAt.tuple_int b t t1 (by omega), RcNeAt.tuple_int b t t1 (by omega)⟩
        | str b => obtain ⟨t, rfl⟩ := ry; exact ⟨RcAt.tuple_str b t t1 (by omega), RcNeAt.tuple_str b t t1 (by omega)⟩
        | _ => cases g1
  · rcases flat_V q p2 with ⟨ys, rfl⟩ | ⟨g1, g2⟩
    · cases q with
      | @tup b us _ hb qs =>
        cases ry
        obtain ⟨_, its2, r2, t2⟩ := (Rd.of hb).ok hok
        have e0 : eqD d (.tup ys) = false := by cases d <;> first | rfl | (cases f2; done)
        rw [e0]
        cases x with
        | non => cases rx; exact ⟨RcAt.none_tuple t2 (by omega), RcNeAt.none_tuple t2 (by omega)⟩
        | bl b => cases rx; exact ⟨RcAt.bool_tuple b t2 (by omega), RcNeAt.bool_tuple b t2 (by omega)⟩
        | int b => obtain ⟨t, rfl⟩ := rx; exact ⟨RcAt.int_tuple b t t2 (by omega), RcNeAt.int_tuple b t t2 (by omega)⟩
        | str b => obtain ⟨t, rfl⟩ := rx; exact ⟨RcAt.str_tuple b t t2 (by omega), RcNeAt.str_tuple b t t2 (by omega)⟩
        | _ => cases f1
    · rw [← eqD_flat r q f2 g2]; exact ⟨rcAt_V rx ry f1 g1, rcNeAt_V rx ry f1 g1⟩
def rEqD (K : PySem.W.Frag) : R2 := fun x y H Q => ∃ ι d e, Rep K ι H x d ∧ Rep K ι H y e ∧ pur 60 d = true ∧ pur 60 e = true ∧ Q (.bl (eqD d e)) H
def rNeD (K : PySem.W.Frag) : R2 := fun x y H Q => ∃ ι d e, Rep K ι H x d ∧ Rep K ι H y e ∧ pur 60 d = true ∧ pur 60 e = true ∧ Q (.bl (!eqD d e)) H
theorem op_eqD {X : Cx} (hu : X.A.units + 64 < cLine) : OpR X (compareOp .Eq) (rEqD X.K) := by
  intro pins s σ H x y v u Q I rx ry h
  obtain ⟨ι, d, e, r, q, p1, p2, hq⟩ := h
  exact (tops (A := X.A) I.hok r q rx ry p1 p2 hu).1 X.prog X.w X.xe _ ⟨.bl _, H, I, rfl, hq⟩
theorem op_neD {X : Cx} (hu : X.A.units + 64 < cLine) : OpR X (compareOp .NotEq) (rNeD X.K) := by
  intro pins s σ H x y v u Q I rx ry h
  obtain ⟨ι, d, e, r, q, p1, p2, hq⟩ := h
  exact (tops (A := X.A) I.hok r q rx ry p1 p2 hu).2 X.prog X.w X.xe _ ⟨.bl _, H, I, rfl, hq⟩
def hEq (x y : D) (h : Hd) : R D := if pur 60 x = true ∧ pur 60 y = true then .ok (.bl (eqD x y)) h else .no
def hNe (x y : D) (h : Hd) : R D := if pur 60 x = true ∧ pur 60 y = true then .ok (.bl (!eqD x y)) h else .no
theorem snd_eqD : Snd2 K hEq (rEqD K) := by
  intro E ι H h x y dx dy Q rx ry hr o
  unfold hEq at o
  split at o
  · rename_i hc; exact ⟨ι, dx, dy, rx, ry, hc.1, hc.2, ans o (.bl _) hr⟩
  · exact o.elim
theorem snd_neD : Snd2 K hNe (rNeD K) := by
  intro E ι H h x y dx dy Q rx ry hr o
  unfold hNe at o
  split at o
  · rename_i hc; exact ⟨ι, dx, dy, rx, ry, hc.1, hc.2, ans o (.bl _) hr⟩
  · exact o.elim
end
/-! ### small things -/
section
variable {X : Cx} {E : XD} {K : PySem.W.Frag}
def sDNew : SE := fun _ h => .ok (.ref h.length) (h ++ [.dK []])
theorem me_dnew {pos : Pos} : ME X E (.Dict [] [] pos) sDNew := by
  refine PE.weak pe_dnewK fun σ H Q ⟨ι, τ, h, S, Rh, o⟩ => fun p hp => ?_
  exact o (ι ++ [p]) _ _ (gr_add hp _) (.ref (by rw [List.getElem?_append_right (by rw [Rh.len]; exact Nat.le_refl _), Rh.len]; simp)) (Rh.add hp ⟨[], upd_same, rfl, .nil⟩)
def gIAdd : D → D → Hd → R D
  | .int i, .int j, h => .ok (.int (i + j)) h
  | .str x, .str y, h => if x.length + y.length ≤ LINE then .ok (.str (x ++ y)) h else .no
  | _, _, _ => .no
theorem snd_iadd : Snd2 K gIAdd (fun x y H Q => rI0 (fun i j => .int (i + j)) x y H Q ∨ ∃ i j, x = .str i ∧ y = .str j ∧ i.length + j.length ≤ sizeLine ∧ Q (.str (i ++ j)) H) := by
  intro E ι H h x y dx dy Q rx ry hr o
  cases rx with
  | int i =>
    cases ry with
    | int j => exact .inl ⟨i, j, rfl, rfl, ans o (.int _) hr⟩
    | _ => exact o.elim
  | str i =>
    cases ry with
    | str j =>
      by_cases hc : i.length + j.length ≤ LINE
      · simp only [gIAdd, if_pos hc] at o; exact .inr ⟨i, j, rfl, rfl, ll hc, ans o (.str _) hr⟩
      · simp only [gIAdd, if_neg hc] at o; exact o.elim
    | _ => exact o.elim
  | _ => exact o.elim
theorem bt_max : bootBuiltins "max" = some (.builtin "max") := by first | exact PySem.boot_max | exact PyProof.Rows.boot_max
theorem bt_min : bootBuiltins "min" = some (.builtin "min") := by first | exact PySem.boot_min | exact PyProof.Rows.boot_min
theorem bt_bool : bootBuiltins "bool" = some (.type "bool") := by first | exact PySem.boot_bool | exact PyProof.Rows.boot_bool
theorem bt_sum : bootBuiltins "sum" = some (.builtin "sum") := by first | exact PySem.boot_sum | exact PyProof.Rows.boot_sum
theorem mgs_cons {e : Expr} {es : List Expr} {g : SG} {ks : SGs} (h1 : MG X E e g) (h2 : MGs X E es ks) (hs : (assignEach (e :: es) X.env).map (·.2) = assign e X.env :: (assignEach es X.env).map (·.2) := by rfl) : MGs X E (e :: es) (kCons g ks) :=
  PGs.weak (pgs_cons h1 h2 hs) fun vs σ H Q q => gcons_of q
end
end MI

set_option Elab.async false
set_option linter.all false
set_option maxRecDepth 100000
set_option maxHeartbeats 4000000
namespace ZP
open PySem PySem.Spec PySem.Builtin PySem.Builtin.SmallTypes
/-! ### one thing after the other out of two iterators -/
section
variable {prog : Program} {w : World} {A : Around} {E : Value → Shared → Prop} {s : Shared}
/-- the end is told by a new StopIteration -/
theorem stop_ok {α : Type} {Q : α → Shared → Prop} (hh : A.handled = none) (q : ∀ h' e, (∀ b o, s.heap.get? b = some o → h'.get? b = some o) → (∃ o, h'.get? e = some o ∧ o.cls = .type "StopIteration") → E (.ref e) { s with heap := h' }) :
    wpAny (model prog w) A (stopIteration : Sem α) Q E s := by
  have none_first : firstArgMember (.type "StopIteration") [] = pure Value.none := by first | rfl | (simp only [firstArgMember]; rfl)
  rw [stopIteration]
  apply wpAny_bind
  rw [newExc, newTuple]
  apply wpAny_bind
  apply wpAny_newObj_type _ (by size_fits)
  rw [none_first, pure_bind]
  apply wpAny_newObj_type _ (by size_fits)
  apply wpAny_raiseNew_none hh
  exact q _ _ (fun b o z => Heap.get?_push_of_some _ (Heap.get?_push_of_some _ z)) ⟨_, Heap.get?_push_size _ rfl, rfl⟩
/-- a tuple's iterator, asked as zip asks it -/
theorem tup_item {it t : Addr} {i : Nat} {items : Array Value} {x : Value} {Q : Value → Shared → Prop} (hi : s.heap.IsTupleIter it t i) (ht : s.heap.IsTuple t items) (hx : items[i]? = some x)
    (q : ∀ h', h'.IsTupleIter it t (i + 1) → Heap.SameBut it s.heap h' → Q x { s with heap := h' }) : wpAny (model prog w) A (nextOf (.ref it)) Q E s := by
  have ty := hi.typeIs
  obtain ⟨o, e1, e2, e3⟩ := id hi
  obtain ⟨p, f1, f2, n, f3⟩ := ht
  rw [nextOf]
  apply wpAny_bind
  apply wpAny_callSpecial?_slot (name := Str.ofString "__next__") ty F.slot_tuple_iterator_next
  apply wpAny_call_entry F.slot_tuple_iterator_next ty F.entry_tuple_iterator_next _ (F.args_tuple_iterator_next_1 _)
  change wpAny (model prog w) A.in1 (field (.ref it) 0 >>= _) _ _ _
  apply wpAny_bind; apply wpAny_field e1 e3 (x := .ref t) rfl
  change wpAny (model prog w) A.in1 (field (.ref it) 1 >>= _) _ _ _
  apply wpAny_bind; apply wpAny_field e1 e3 (x := .int i 0) rfl
  change wpAny (model prog w) A.in1 (seqItems? (.ref t) >>= _) _ _ _
  apply wpAny_bind; apply wpAny_seqItems f1 f3
  dsimp only
  rw [Int.toNat_natCast, hx]
  apply wpAny_bind
  obtain ⟨c, dd, dt, sl⟩ := o
  simp only at e2 e3
  subst e2 e3
  apply wpAny_setField e1 rfl (Nat.lt_succ_self 1)
  apply wpAny_pure
  exact ⟨x, rfl, wpAny_pure (q _ ⟨_, Heap.get?_update_self _ e1 rfl, rfl, rfl⟩ (Heap.SameBut.update ..))⟩
/-- .. and at its end -/
theorem tup_end {it t : Addr} {i : Nat} {items : Array Value} {Q : Value → Shared → Prop} (hh : A.handled = none) (hi : s.heap.IsTupleIter it t i) (ht : s.heap.IsTuple t items) (hx : items[i]? = none)
    (q : ∀ h' e, Heap.ExtBut it s.heap h' → (∃ o, h'.get? e = some o ∧ o.cls = .type "StopIteration") → E (.ref e) { s with heap := h' }) : wpAny (model prog w) A (nextOf (.ref it)) Q E s := by
  have ty := hi.typeIs
  obtain ⟨o, e1, e2, e3⟩ := id hi
  obtain ⟨p, f1, f2, n, f3⟩ := ht
  rw [nextOf]
  apply wpAny_bind
  apply wpAny_callSpecial?_slot (name := Str.ofString "__next__") ty F.slot_tuple_iterator_next
  apply wpAny_call_entry F.slot_tuple_iterator_next ty F.entry_tuple_iterator_next _ (F.args_tuple_iterator_next_1 _)
  change wpAny (model prog w) A.in1 (field (.ref it) 0 >>= _) _ _ _
  apply wpAny_bind; apply wpAny_field e1 e3 (x := .ref t) rfl
  change wpAny (model prog w) A.in1 (field (.ref it) 1 >>= _) _ _ _
  apply wpAny_bind; apply wpAny_field e1 e3 (x := .int i 0) rfl
  change wpAny (model prog w) A.in1 (seqItems? (.ref t) >>= _) _ _ _
  apply wpAny_bind; apply wpAny_seqItems f1 f3
  dsimp only
  rw [Int.toNat_natCast, hx]
  dsimp only
  obtain ⟨c, dd, dt, sl⟩ := o
  simp only at e2 e3
  subst e2 e3
  apply wpAny_bind; apply wpAny_rule
  apply wpAny_bind; apply wpAny_setField e1 rfl (Nat.succ_pos 1)
  apply stop_ok (show A.in1.handled = none from hh)
  exact fun h' e k z => q h' e (fun b o nb eb => k b o ((Heap.SameBut.update ..).extBut b o nb eb)) z
theorem draws_tup {prog : Program} {w : World} {A : Around} (hh : A.handled = none) (it t : Addr) (ne : t ≠ it) (items : Array Value) : Draws prog w A it [it, t] items.size (fun i v => items[i]? = some v) (fun i h => h.IsTupleIter it t i ∧ h.IsTuple t items) where
  live := fun _ _ st => let ⟨o, e, _⟩ := st.1; ⟨o, e⟩
  frame := fun _ _ _ st k => ⟨let ⟨o, e, r⟩ := st.1; ⟨o, k it (by simp) o e, r⟩, let ⟨o, e, r⟩ := st.2; ⟨o, k t (by simp) o e, r⟩⟩
  item := fun i s Q E hi st q => tup_item st.1 st.2 (Array.getElem?_eq_getElem hi) fun h' a b => q _ h' s.toks (Array.getElem?_eq_getElem hi) ⟨a, st.2.extBut b.extBut ne⟩ b
  done := fun s Q E st q => tup_end hh st.1 st.2 (by simp) q
end
end ZP

set_option Elab.async false
set_option linter.all false
set_option maxRecDepth 100000
set_option maxHeartbeats 4000000
namespace ZP
open PySem PySem.Spec PySem.Builtin PySem.Builtin.SmallTypes
structure Ap (z TI TO i1 i2 : Addr) (p q : List Addr) : Prop where
  m1 : i1 ∈ p
  m2 : i2 ∈ q
  z1 : z ∉ p
  z2 : z ∉ q
  o1 : TO ∉ p
  o2 : TO ∉ q
  oz : TO ≠ z
  x1 : i1 ∉ q
  x2 : i2 ∉ p
section
variable {prog : Program} {w : World} {A : Around} {E : Value → Shared → Prop} {s : Shared} {z TI TO i1 i2 : Addr} {p q : List Addr} {n1 n2 k : Nat} {P1 P2 : Nat → Value → Prop} {S1 S2 : Nat → Heap → Prop} {a b : Value}
/-- what stands far from one changed object stays -/
theorem far {D : Draws prog w A i1 p n1 P1 S1} {h h' : Heap} {c : Addr} (sb : Heap.SameBut c h h') (nc : c ∉ p) (st : S1 k h) : S1 k h' := D.frame _ _ _ st fun x hx o e => sb.extBut x o (fun y => nc (y ▸ hx)) e
/-- the way of a zip's turn up to its two draws -/
theorem zip_way {Q : Fin → Shared → Prop} (hz : IsZip s.heap z TI TO .none) (hi : IsPair s.heap TI (.ref i1) (.ref i2)) (ho : IsPair s.heap TO a b) (oz : TO ≠ z)
    (go : ∀ h1, IsZip h1 z TI TO .ellipsis → Heap.SameBut z s.heap h1 → wpAny (model prog w) A (nextOf (.ref i1))
      (fun x s2 => IsPair s2.heap TO a b ∧ ∀ h3, IsPair h3 TO x b → Heap.SameBut TO s2.heap h3 → wpAny (model prog w) A (nextOf (.ref i2))
        (fun y s4 => IsPair s4.heap TO x b ∧ ∀ h5, IsPair h5 TO x y → Heap.SameBut TO s4.heap h5 → IsZip h5 z TI TO .ellipsis ∧ ∀ h8, IsZip h8 z TI TO (rawInt h5.objs.size) → IsPair h8 h5.objs.size x y → h8.objs.size = h5.objs.size + 1 →
          (∀ c o, c ≠ z → h5.get? c = some o → h8.get? c = some o) → Q (.done (.ret (.ref h5.objs.size))) { s4 with heap := h8 })
        (fun e s4 => wpAny (model prog w) A (setField (.ref z) 0 .none) (fun _ s5 => E e s5) E s4) { s2 with heap := h3 })
      (fun e s2 => wpAny (model prog w) A (setField (.ref z) 0 .none) (fun _ s3 => E e s3) E s2) { s with heap := h1 }) :
    wpAny (model prog w) A (Builtin.«zip.__next__» ⟨[.ref z], []⟩) Q E s := by
  change wpAny (model prog w) A (field (.ref z) 2 >>= _) _ _ _
  apply wpAny_bind; apply wpAny_field hz rfl (x := .bool false) rfl
  change wpAny (model prog w) A (field (.ref z) 3 >>= _) _ _ _
  apply wpAny_bind; apply wpAny_field hz rfl (x := .ref TI) rfl
  apply wpAny_bind; apply wpAny_seqItems hi rfl
  change wpAny (model prog w) A (ownedTupleIsFree (.ref z) >>= _) _ _ _
  apply wpAny_bind
  rw [ownedTupleIsFree]
  apply wpAny_bind; apply wpAny_field hz rfl (x := .none) rfl
  apply wpAny_pure
  rw [if_pos rfl]
  apply wpAny_bind; apply wpAny_rule
  apply wpAny_bind; apply wpAny_field hz rfl (x := .ref TO) rfl
  apply wpAny_bind; apply wpAny_setField_rec hz (Nat.succ_pos _)
  intro h1 z1 b1
  apply wpAny_bind
  simp only [List.zipIdx_cons, List.zipIdx_nil, List.forIn_cons, List.forIn_nil]
  apply wpAny_bind; apply wpAny_bind; apply wpAny_onRaise
  change wpAny (model prog w) A (nextOf (.ref i1) >>= _) _ _ _
  apply wpAny_bind
  apply wpAny_mono (go h1 z1 b1) _ fun _ _ r => r
  rintro x s2 ⟨o2, g2⟩
  apply wpAny_pure
  apply wpAny_bind; apply wpAny_seqItems o2 rfl
  apply wpAny_bind; apply wpAny_updateSeq_pair o2
  intro h3 o3 b3
  apply wpAny_bind; apply wpAny_letGo; apply wpAny_pure
  apply wpAny_bind; apply wpAny_bind; apply wpAny_onRaise
  change wpAny (model prog w) A (nextOf (.ref i2) >>= _) _ _ _
  apply wpAny_bind
  apply wpAny_mono (g2 h3 o3 b3) _ fun _ _ r => r
  rintro y s4 ⟨o4, g4⟩
  apply wpAny_pure
  apply wpAny_bind; apply wpAny_seqItems o4 rfl
  apply wpAny_bind; apply wpAny_updateSeq_pair o4
  intro h5 o5 b5
  obtain ⟨z5, g5⟩ := g4 h5 o5 b5
  apply wpAny_bind; apply wpAny_letGo; apply wpAny_pure; apply wpAny_pure
  apply wpAny_bind; apply wpAny_seqItems o5 rfl
  apply wpAny_bind; refine wpAny_newTuple ?_ (by show 2 ≤ sizeLine; decide)
  change wpAny (model prog w) A (ownedTupleHandOut (.ref z) (.ref h5.objs.size) >>= _) _ _ _
  apply wpAny_bind
  rw [ownedTupleHandOut]
  have z6 : IsZip (h5.push { cls := .type "tuple", data := .seq #[x, y] }) z TI TO .ellipsis := Heap.get?_push_of_some _ z5
  have lt : z < h5.objs.size := Heap.lt_size z5
  apply wpAny_bind; apply wpAny_setField_rec z6 (Nat.succ_pos _)
  intro h7 z7 b7
  apply wpAny_setField_rec z7 (by show 1 < 5; decide)
  intro h8 z8 b8
  apply wpAny_pure
  refine g5 h8 z8 (b8.extBut _ _ (Nat.ne_of_gt lt) (b7.extBut _ _ (Nat.ne_of_gt lt) (Heap.get?_push_size _ rfl))) ?_ fun c o nc e => b8.extBut _ _ nc (b7.extBut _ _ nc (Heap.get?_push_of_some _ e))
  rw [b8.1, b7.1, Heap.size_push]
/-- both have one more -/
theorem zip_item {Q : Value → Shared → Prop} (D1 : Draws prog w A i1 p n1 P1 S1) (D2 : Draws prog w A i2 q n2 P2 S2) (ap : Ap z TI TO i1 i2 p q) (hz : IsZip s.heap z TI TO .none) (hi : IsPair s.heap TI (.ref i1) (.ref i2)) (ho : IsPair s.heap TO a b)
    (s1 : S1 k s.heap) (s2 : S2 k s.heap) (k1 : k < n1) (k2 : k < n2)
    (hQ : ∀ x y h' tk, P1 k x → P2 k y → IsZip h' z TI TO (rawInt s.heap.objs.size) → IsPair h' TO x y → S1 (k + 1) h' → S2 (k + 1) h' → IsPair h' s.heap.objs.size x y → h'.objs.size = s.heap.objs.size + 1 →
      (∀ c o, c ≠ z → c ≠ TO → c ≠ i1 → c ≠ i2 → s.heap.get? c = some o → h'.get? c = some o) → Q (.ref s.heap.objs.size) { s with heap := h', toks := tk }) :
    wpAny (model prog w) A (Builtin.«zip.__next__» ⟨[.ref z], []⟩) (fun fin s' => ∃ v, fin = .done (.ret v) ∧ Q v s') E s := by
  have ni1 : i1 ≠ z := fun e => ap.z1 (e ▸ ap.m1)
  have ni2 : i2 ≠ z := fun e => ap.z2 (e ▸ ap.m2)
  have no1 : TO ≠ i1 := fun e => ap.o1 (e ▸ ap.m1)
  have no2 : TO ≠ i2 := fun e => ap.o2 (e ▸ ap.m2)
  refine zip_way hz hi ho ap.oz fun h1 z1 b1 => ?_
  refine D1.item k _ _ _ k1 (far (D := D1) b1 ap.z1 s1) fun x h2 t2 px st2 b2 => ?_
  refine ⟨b2.extBut _ _ no1 (b1.extBut _ _ ap.oz ho), fun h3 o3 b3 => ?_⟩
  refine D2.item k _ _ _ k2 (far (D := D2) b3 ap.o2 (far (D := D2) b2 ap.x1 (far (D := D2) b1 ap.z2 s2))) fun y h4 t4 py st4 b4 => ?_
  refine ⟨b4.extBut _ _ no2 o3, fun h5 o5 b5 => ⟨b5.extBut _ _ ap.oz.symm (b4.extBut _ _ ni2.symm (b3.extBut _ _ ap.oz.symm (b2.extBut _ _ ni1.symm z1))), fun h8 z8 t8 l8 k8 => ⟨_, rfl, ?_⟩⟩⟩
  have sz : h5.objs.size = s.heap.objs.size := by rw [b5.1, b4.1, b3.1, b2.1, b1.1]
  have g1 : S1 (k + 1) h8 := D1.frame _ _ _ (far (D := D1) b5 ap.o1 (far (D := D1) b4 ap.x2 (far (D := D1) b3 ap.o1 st2))) fun c hc o e => k8 c o (fun y => ap.z1 (y ▸ hc)) e
  have g2 : S2 (k + 1) h8 := D2.frame _ _ _ (far (D := D2) b5 ap.o2 st4) fun c hc o e => k8 c o (fun y => ap.z2 (y ▸ hc)) e
  rw [sz] at z8 t8 l8 ⊢
  exact hQ x y h8 t4 px py z8 (k8 _ _ ap.oz o5) g1 g2 t8 l8 fun c o c1 c2 c3 c4 e => k8 c o c1 (b5.extBut _ _ c2 (b4.extBut _ _ c4 (b3.extBut _ _ c2 (b2.extBut _ _ c3 (b1.extBut _ _ c1 e)))))
/-- one of them has come to its end -/
theorem zip_end {Q : Fin → Shared → Prop} (D1 : Draws prog w A i1 p n1 P1 S1) (D2 : Draws prog w A i2 q n2 P2 S2) (ap : Ap z TI TO i1 i2 p q) (hz : IsZip s.heap z TI TO .none) (hi : IsPair s.heap TI (.ref i1) (.ref i2)) (ho : IsPair s.heap TO a b)
    (s1 : S1 k s.heap) (s2 : S2 k s.heap) (kk : k = n1 ∨ (k < n1 ∧ k = n2))
    (hE : ∀ h' tk e, (∀ c o, c ≠ z → c ≠ TO → c ≠ i1 → c ≠ i2 → s.heap.get? c = some o → h'.get? c = some o) → (∃ o, h'.get? e = some o ∧ o.cls = .type "StopIteration") → E (.ref e) { s with heap := h', toks := tk }) :
    wpAny (model prog w) A (Builtin.«zip.__next__» ⟨[.ref z], []⟩) Q E s := by
  have ni1 : i1 ≠ z := fun e => ap.z1 (e ▸ ap.m1)
  have ni2 : i2 ≠ z := fun e => ap.z2 (e ▸ ap.m2)
  have no1 : TO ≠ i1 := fun e => ap.o1 (e ▸ ap.m1)
  have stop : ∀ {h : Heap} {e : Addr}, (∃ o, h.get? e = some o ∧ o.cls = .type "StopIteration") → IsZip h z TI TO .ellipsis → e ≠ z := fun {h e} ⟨o, eo, ec⟩ zz y => by
    subst y; rw [zz] at eo; cases eo; simp at ec
  refine zip_way hz hi ho ap.oz fun h1 z1 b1 => ?_
  rcases kk with rfl | ⟨k1, rfl⟩
  · refine D1.done _ _ _ (far (D := D1) b1 ap.z1 s1) fun h2 e x2 st => ?_
    have z2 : IsZip h2 z TI TO .ellipsis := x2 _ _ ni1.symm z1
    have ne := stop st z2
    obtain ⟨oe, f1, f2⟩ := st
    refine wpAny_setField_rec z2 (Nat.succ_pos _) fun h3 _ b3 => ?_
    exact hE h3 _ e (fun c o c1 _ c3 _ y => b3.extBut _ _ c1 (x2 _ _ c3 (b1.extBut _ _ c1 y))) ⟨oe, b3.extBut _ _ ne f1, f2⟩
  · refine D1.item k _ _ _ k1 (far (D := D1) b1 ap.z1 s1) fun x h2 t2 px st2 b2 => ?_
    refine ⟨b2.extBut _ _ no1 (b1.extBut _ _ ap.oz ho), fun h3 o3 b3 => ?_⟩
    refine D2.done _ _ _ (far (D := D2) b3 ap.o2 (far (D := D2) b2 ap.x1 (far (D := D2) b1 ap.z2 s2))) fun h4 e x4 st => ?_
    have z4 : IsZip h4 z TI TO .ellipsis := x4 _ _ ni2.symm (b3.extBut _ _ ap.oz.symm (b2.extBut _ _ ni1.symm z1))
    have ne := stop st z4
    obtain ⟨oe, f1, f2⟩ := st
    refine wpAny_setField_rec z4 (Nat.succ_pos _) fun h5 _ b5 => ?_
    exact hE h5 _ e (fun c o c1 c2 c3 c4 y => b5.extBut _ _ c1 (x4 _ _ c4 (b3.extBut _ _ c2 (b2.extBut _ _ c3 (b1.extBut _ _ c1 y))))) ⟨oe, b5.extBut _ _ ne f1, f2⟩
/-- the same, asked by a loop -/
theorem next_item {Q : Option Value → Shared → Prop} (D1 : Draws prog w A.in1 i1 p n1 P1 S1) (D2 : Draws prog w A.in1 i2 q n2 P2 S2) (ap : Ap z TI TO i1 i2 p q) (hz : IsZip s.heap z TI TO .none) (hi : IsPair s.heap TI (.ref i1) (.ref i2)) (ho : IsPair s.heap TO a b)
    (s1 : S1 k s.heap) (s2 : S2 k s.heap) (k1 : k < n1) (k2 : k < n2)
    (hQ : ∀ x y h' tk, P1 k x → P2 k y → IsZip h' z TI TO (rawInt s.heap.objs.size) → IsPair h' TO x y → S1 (k + 1) h' → S2 (k + 1) h' → IsPair h' s.heap.objs.size x y → h'.objs.size = s.heap.objs.size + 1 →
      (∀ c o, c ≠ z → c ≠ TO → c ≠ i1 → c ≠ i2 → s.heap.get? c = some o → h'.get? c = some o) → Q (some (.ref s.heap.objs.size)) { s with heap := h', toks := tk }) : wpAny (model prog w) A (pyNext (.ref z)) Q E s := by
  have ty : s.TypeIs (.ref z) "zip" := ⟨_, hz, rfl⟩
  rw [pyNext]
  apply wpAny_bind; apply wpAny_attempt
  apply wpAny_callSpecial?_slot (name := Str.ofString "__next__") ty F.slot_zip_next
  apply wpAny_call_entry F.slot_zip_next ty F.entry_zip_next _ (F.args_zip_next_1 _)
  exact zip_item D1 D2 ap hz hi ho s1 s2 k1 k2 fun x y h' tk c1 c2 c3 c4 c5 c6 c7 c8 c9 => wpAny_pure (hQ x y h' tk c1 c2 c3 c4 c5 c6 c7 c8 c9)
theorem next_end {Q : Option Value → Shared → Prop} (D1 : Draws prog w A.in1 i1 p n1 P1 S1) (D2 : Draws prog w A.in1 i2 q n2 P2 S2) (ap : Ap z TI TO i1 i2 p q) (hz : IsZip s.heap z TI TO .none) (hi : IsPair s.heap TI (.ref i1) (.ref i2)) (ho : IsPair s.heap TO a b)
    (s1 : S1 k s.heap) (s2 : S2 k s.heap) (kk : k = n1 ∨ (k < n1 ∧ k = n2))
    (hQ : ∀ h' tk, (∀ c o, c ≠ z → c ≠ TO → c ≠ i1 → c ≠ i2 → s.heap.get? c = some o → h'.get? c = some o) → Q none { s with heap := h', toks := tk }) : wpAny (model prog w) A (pyNext (.ref z)) Q E s := by
  have ty : s.TypeIs (.ref z) "zip" := ⟨_, hz, rfl⟩
  rw [pyNext]
  apply wpAny_bind; apply wpAny_attempt
  apply wpAny_callSpecial?_slot (name := Str.ofString "__next__") ty F.slot_zip_next
  apply wpAny_call_entry F.slot_zip_next ty F.entry_zip_next _ (F.args_zip_next_1 _)
  refine zip_end D1 D2 ap hz hi ho s1 s2 kk fun h' tk e kp ⟨o, f1, f2⟩ => ?_
  refine wpAny_bind (wpAny_isInstance (b := true) (T := "StopIteration") ⟨o, f1, f2⟩ isSubtype_stop (wpAny_pure (hQ h' tk kp)))
end
end ZP

set_option Elab.async false
set_option linter.all false
set_option maxRecDepth 100000
set_option maxHeartbeats 4000000
namespace ZP
open PySem PySem.Spec PySem.Builtin PySem.Builtin.SmallTypes L2
/-- what zip is handed: a tuple, a list, a text -/
inductive Srk where
  | tup (a : Addr) | lst (a : Addr) | str (x : Str)
def Srk.v : Srk → V
  | .tup a => .ref a
  | .lst a => .ref a
  | .str x => .str x
def its (H : Hp) : Srk → Option (List V)
  | .tup a => match H a with | some (.tup vs) => some vs | _ => none
  | .lst a => match H a with | some (.lst vs) => some vs | _ => none
  | .str x => some (signsV x)
def own (it : Addr) (t : Tok) : Srk → Nat → Heap → Prop
  | .tup a, i, h => h.IsTupleIter it a i
  | .lst a, i, h => h.IsListIter it a i
  | .str x, i, h => h.IsStrIter it (strIterType x) x t i
def iob (t : Tok) : Srk → Obj
  | .tup a => { cls := .type "tuple_iterator", data := .fields #[.ref a, .int 0 0] }
  | .lst a => { cls := .type "list_iterator", data := .fields #[.ref a, .int 0 0] }
  | .str x => { cls := .type (strIterType x), data := .fields #[.str x t, .int 0 0] }
def val (t : Tok) : Srk → Value
  | .tup a => .ref a
  | .lst a => .ref a
  | .str x => .str x t
def cont (h : Heap) : Srk → List Value → Prop
  | .tup a, us => h.IsTuple a us.toArray
  | .lst a, us => h.IsList a us.toArray
  | .str x, us => True
theorem own0 {it : Addr} {t : Tok} {k : Srk} {h : Heap} (e : h.get? it = some (iob t k)) : own it t k 0 h := by
  cases k with
  | tup a => exact ⟨_, e, rfl, rfl⟩
  | lst a => exact ⟨_, e, rfl, rfl⟩
  | str x => exact ⟨_, e, rfl, rfl⟩
theorem own_obj {it : Addr} {t : Tok} {k : Srk} {i : Nat} {h : Heap} (o : own it t k i h) : ∃ ob, h.get? it = some ob ∧ ∀ v, ob.data ≠ .cell v := by
  cases k with
  | tup a => obtain ⟨ob, e, _, d⟩ := o; exact ⟨ob, e, fun v z => by rw [d] at z; cases z⟩
  | lst a => obtain ⟨ob, e, _, d⟩ := o; exact ⟨ob, e, fun v z => by rw [d] at z; cases z⟩
  | str x => obtain ⟨ob, e, _, d⟩ := o; exact ⟨ob, e, fun v z => by rw [d] at z; cases z⟩
theorem own_keep {it : Addr} {t : Tok} {k : Srk} {i : Nat} {h h' : Heap} (o : own it t k i h) (kk : ∀ ob, h.get? it = some ob → h'.get? it = some ob) : own it t k i h' := by
  cases k with
  | tup a => obtain ⟨ob, e, r⟩ := o; exact ⟨ob, kk _ e, r⟩
  | lst a => obtain ⟨ob, e, r⟩ := o; exact ⟨ob, kk _ e, r⟩
  | str x => obtain ⟨ob, e, r⟩ := o; exact ⟨ob, kk _ e, r⟩
section
variable {P : Program} {w : World} {H : Hp} {s : Shared}
/-- its values as they stand -/
theorem cont_of {X : Cx} {pins : List (Addr × Obj)} {σ : St} (I : Inv X pins σ H s) {k : Srk} {xs : List V} (e : its H k = some xs) : ∃ us, cont s.heap k us ∧ ((∀ x, k ≠ .str x) → Vals xs us) := by
  cases k with
  | tup a =>
    cases q : H a with
    | none => simp [its, q] at e
    | some o =>
      cases o with
      | tup vs =>
        simp [its, q] at e; subst e
        obtain ⟨us, r, t, _⟩ := I.tuple (SqT.of q)
        exact ⟨us, t, fun _ => r⟩
      | _ => simp [its, q] at e
  | lst a =>
    cases q : H a with
    | none => simp [its, q] at e
    | some o =>
      cases o with
      | lst vs =>
        simp [its, q] at e; subst e
        obtain ⟨us, r, t, _⟩ := I.list (SqL.of q)
        exact ⟨us, t.isList, fun _ => r⟩
      | _ => simp [its, q] at e
  | str x => exact ⟨[], True.intro, fun n => absurd rfl (n x)⟩
/-- one of the two, as zip draws from it -/
theorem draw_of {X : Cx} {pins : List (Addr × Obj)} {σ : St} (I : Inv X pins σ H s) {k : Srk} {xs : List V} {it : Addr} {t : Tok} (e : its H k = some xs) (hn : H it = none) :
    ∃ (cs : List Addr) (P1 : Nat → Value → Prop) (S1 : Nat → Heap → Prop), (∀ A : Around, A.handled = none → Draws X.prog X.w A it (it :: cs) xs.length P1 S1) ∧ (∀ i, own it t k i s.heap → S1 i s.heap) ∧ (∀ i h, S1 i h → own it t k i h) ∧ (∀ c ∈ cs, H c ≠ none) ∧
      ∀ i v, P1 i v → ∃ x, xs[i]? = some x ∧ RelV x v := by
  cases k with
  | tup a =>
    obtain ⟨us, c, r⟩ := cont_of I e
    have r := r (by intro x z; cases z)
    have ha : H a ≠ none := fun z => by simp [its, z] at e
    have l : us.toArray.size = xs.length := by rw [List.size_toArray, r.length]
    refine ⟨[a], fun i v => us.toArray[i]? = some v, fun i h => h.IsTupleIter it a i ∧ h.IsTuple a us.toArray, fun A hA => ?_, fun i o => ⟨o, c⟩, fun i h z => z.1, fun c hc => by rw [List.mem_singleton.mp hc]; exact ha, fun i v z => ?_⟩
    · have := draws_tup (prog := X.prog) (w := X.w) hA it a (fun y => ha (y ▸ hn)) us.toArray
      rw [l] at this; exact this
    · have z' : us[i]? = some v := by simpa using z
      have hi : i < xs.length := by rw [r.length]; exact (List.getElem?_eq_some_iff.mp z').1
      obtain ⟨u, e1, e2⟩ := r.get (List.getElem?_eq_getElem hi)
      rw [z'] at e1; cases e1
      exact ⟨_, List.getElem?_eq_getElem hi, e2⟩
  | lst a =>
    obtain ⟨us, c, r⟩ := cont_of I e
    have r := r (by intro x z; cases z)
    have ha : H a ≠ none := fun z => by simp [its, z] at e
    have l : us.toArray.size = xs.length := by rw [List.size_toArray, r.length]
    refine ⟨[a], fun i v => us.toArray[i]? = some v, fun i h => h.IsListIter it a i ∧ h.IsList a us.toArray, fun A hA => ?_, fun i o => ⟨o, c⟩, fun i h z => z.1, fun c hc => by rw [List.mem_singleton.mp hc]; exact ha, fun i v z => ?_⟩
    · have := Draws.list (prog := X.prog) (w := X.w) hA it a (fun y => ha (y ▸ hn)) us.toArray
      rw [l] at this; exact this
    · have z' : us[i]? = some v := by simpa using z
      have hi : i < xs.length := by rw [r.length]; exact (List.getElem?_eq_some_iff.mp z').1
      obtain ⟨u, e1, e2⟩ := r.get (List.getElem?_eq_getElem hi)
      rw [z'] at e1; cases e1
      exact ⟨_, List.getElem?_eq_getElem hi, e2⟩
  | str x =>
    cases e
    have l : (signsV x).length = x.cps.size := by simp [signsV]
    refine ⟨[], fun i v => ∃ c u, x.cps[i]? = some c ∧ v = .str ⟨#[c]⟩ u, fun i h => h.IsStrIter it (strIterType x) x t i, fun A hA => ?_, fun i o => o, fun i h z => z, fun c hc => (by cases hc), fun i v z => ?_⟩
    · rw [l]
      cases ha : x.cps.all (· < 128)
      · have := Draws.strWide (prog := X.prog) (w := X.w) hA it x t
        simpa [strIterType, ha] using this
      · have := Draws.strAscii (prog := X.prog) (w := X.w) hA it x t
        simpa [strIterType, ha] using this
    · obtain ⟨c, u, e1, rfl⟩ := z
      exact ⟨.str ⟨#[c]⟩, by simp [signsV, e1], ⟨_, rfl⟩⟩
end
def ItZ (k1 k2 : Srk) : It where
  go := fun i H => ∃ xs ys x y, its H k1 = some xs ∧ its H k2 = some ys ∧ xs[i]? = some x ∧ ys[i]? = some y
  yld := fun i H v H' => ∃ xs ys x y p, its H k1 = some xs ∧ its H k2 = some ys ∧ xs[i]? = some x ∧ ys[i]? = some y ∧ H p = none ∧ v = .ref p ∧ H' = upd H p (.tup [x, y])
  stop := fun i H => ∃ xs ys, its H k1 = some xs ∧ its H k2 = some ys ∧ (i = xs.length ∨ (i < xs.length ∧ i = ys.length))
def tnZ (z TI TO i1 i2 : Addr) (t1 t2 : Tok) (k1 k2 : Srk) (i : Nat) (h : Heap) : Prop :=
  IsZip h z TI TO .none ∧ IsPair h TI (.ref i1) (.ref i2) ∧ (∃ a b, IsPair h TO a b) ∧ own i1 t1 k1 i h ∧ own i2 t2 k2 i h
structure Far (z TI TO i1 i2 : Addr) : Prop where
  a : TI ≠ z
  b : TO ≠ z
  c : i1 ≠ z
  d : i2 ≠ z
  e : TI ≠ TO
  f : TI ≠ i1
  g : TI ≠ i2
  h : TO ≠ i1
  i : TO ≠ i2
  j : i1 ≠ i2
/-- several records of ours have turned -/
theorem turnedL {X : Cx} {pins : List (Addr × Obj)} {σ : St} {H : Hp} {s : Shared} {h' : Heap} {t' : Nat} {ch : List Addr} (I : Inv X pins σ H s) (hf : ∀ b ∈ ch, FpOk X pins H b) (k : ∀ b o, b ∉ ch → s.heap.get? b = some o → h'.get? b = some o) :
    Inv X pins σ H { s with heap := h', toks := t' } := by
  have nit : ∀ b u, H b = some u → b ∉ ch := fun b u e z => by rw [(hf b z).1] at e; cases e
  refine I.step (g' := s.gens) (d' := s.drawn) (ch := ch) (fun b hb => ?_) (fun b o _ _ hc e _ => k b o hc e) (fun b o _ _ hc e _ => ⟨o.slots, k b o hc e⟩) (fun _ _ _ _ n => n) (fun b o hc e => ⟨o, k b o hc e⟩) (fun _ _ e => e) (fun _ _ _ e => e)
    (fun b ps e => ⟨#[], by rw [e]; simp⟩) (fun m hm => ?_) (fun b u e => ?_) I.bare
  · obtain ⟨_, f1, _, f3, f4, f5⟩ := hf b hb
    exact ⟨f3, f1, f4, f5⟩
  · obtain ⟨o, es, ep, ho, r⟩ := hm
    exact ⟨o, es, ep, k _ o (fun z => (hf _ z).2.1 rfl) ho, r⟩
  · refine (I.hok b u e).stay (fun c v hc q => k c v ?_ q) (fun _ q => q) fun _ _ q => q
    rcases hc with z | z
    · rw [z]; exact nit b u e
    · exact nit c _ z
theorem turn_zip {P : Program} {w : World} {K : PySem.W.Frag} {elts : List Expr} {x1 : Nat} {pos : Pos} {z TI TO i1 i2 : Addr} {t1 t2 : Tok} {k1 k2 : Srk} (f : Far z TI TO i1 i2) : Turn P w K (.Tuple elts x1 pos) (ItZ k1 k2) [z, TI, TO, i1, i2] z (tnZ z TI TO i1 i2 t1 t2 k1 k2) where
  mem := by simp
  obj := fun i h st b hb => by
    obtain ⟨h1, h2, ⟨a, b', h3⟩, h4, h5⟩ := st
    simp only [List.mem_cons, List.not_mem_nil, or_false] at hb
    rcases hb with rfl | rfl | rfl | rfl | rfl
    · exact ⟨_, h1, fun v z => (by cases z)⟩
    · exact ⟨_, h2, fun v z => (by cases z)⟩
    · exact ⟨_, h3, fun v z => (by cases z)⟩
    · exact own_obj h4
    · exact own_obj h5
  keep := fun i h h' st k => by
    obtain ⟨h1, h2, ⟨a, b', h3⟩, h4, h5⟩ := st
    exact ⟨k z (by simp) _ h1, k TI (by simp) _ h2, ⟨a, b', k TO (by simp) _ h3⟩, own_keep h4 fun ob e => k i1 (by simp) ob e, own_keep h5 fun ob e => k i2 (by simp) ob e⟩
  item := by
    intro X hP hw hK hc i pins s σ H E I hf st hg
    subst hP hw hK
    obtain ⟨xs, ys, x, y, e1, e2, g1, g2⟩ := hg
    obtain ⟨h1, h2, ⟨a, b, h3⟩, h4, h5⟩ := st
    have n : ∀ c ∈ [z, TI, TO, i1, i2], H c = none := fun c hc => (hf c hc).1
    obtain ⟨cs, P1, S1, D1, a1, b1, c1, d1⟩ := draw_of I (t := t1) e1 (n i1 (by simp))
    obtain ⟨ds, P2, S2, D2, a2, b2, c2, d2⟩ := draw_of I (t := t2) e2 (n i2 (by simp))
    have hd := I.ok.hd hc
    have out1 : ∀ c, H c = none → c ∉ cs := fun c e z => c1 c z e
    have out2 : ∀ c, H c = none → c ∉ ds := fun c e z => c2 c z e
    have ap : Ap z TI TO i1 i2 (i1 :: cs) (i2 :: ds) := ⟨by simp, by simp, by simp [f.c.symm, out1 z (n z (by simp))], by simp [f.d.symm, out2 z (n z (by simp))], by simp [f.h, out1 TO (n TO (by simp))], by simp [f.i, out2 TO (n TO (by simp))], f.b, by simp [f.j, out2 i1 (n i1 (by simp))], by simp [f.j.symm, out1 i2 (n i2 (by simp))]⟩
    refine next_item (D1 X.A.in1 hd) (D2 X.A.in1 hd) ap h1 h2 h3 (a1 i h4) (a2 i h5) (List.getElem?_eq_some_iff.mp g1).1 (List.getElem?_eq_some_iff.mp g2).1 fun u v h' tk pu pv z' to' s1' s2' pr sz kp => ?_
    obtain ⟨x', q1, r1⟩ := d1 i u pu
    obtain ⟨y', q2, r2⟩ := d2 i v pv
    rw [g1] at q1; cases q1
    rw [g2] at q2; cases q2
    refine ⟨_, rfl, wpAny_letOwnedTupleGo_zip z' fun h2' z2' sb => ?_⟩
    have hp : H s.heap.objs.size = none := I.hok.fresh (Nat.le_refl _)
    have lt : ∀ c ∈ [z, TI, TO, i1, i2], c < s.heap.objs.size := fun c hc => by
      simp only [List.mem_cons, List.not_mem_nil, or_false] at hc
      rcases hc with rfl | rfl | rfl | rfl | rfl
      · exact Heap.lt_size h1
      · exact Heap.lt_size h2
      · exact Heap.lt_size h3
      · obtain ⟨_, e, _⟩ := own_obj h4; exact Heap.lt_size e
      · obtain ⟨_, e, _⟩ := own_obj h5; exact Heap.lt_size e
    have all : ∀ c o, c ∉ [z, TI, TO, i1, i2] → s.heap.get? c = some o → h2'.get? c = some o := fun c o nc e => by
      simp only [List.mem_cons, List.not_mem_nil, or_false, not_or] at nc
      exact (sb.2 c nc.1).trans (kp c o nc.1 nc.2.2.1 nc.2.2.2.1 nc.2.2.2.2 e)
    have nT : ∀ c ∈ [z, TI, TO, i1, i2], c ≠ s.heap.objs.size := fun c hc => Nat.ne_of_lt (lt c hc)
    have I0 : Inv X pins σ (upd H s.heap.objs.size (.tup [x, y])) { s with heap := s.heap.push { cls := .type "tuple", data := .seq #[u, v] } } :=
      I.laid (t' := s.toks) (o := .tup [x, y]) (fun b o e => Heap.get?_push_of_some _ e) (Nat.le_refl _) ⟨by show 2 ≤ sizeLine; decide, [u, v], .cons r1 (.cons r2 .nil), ⟨_, Heap.get?_push_size _ rfl, rfl, _, rfl⟩⟩
    have I1 : Inv X pins σ (upd H s.heap.objs.size (.tup [x, y])) { s with heap := h2', toks := tk } := by
      refine turnedL (s := { s with heap := s.heap.push { cls := .type "tuple", data := .seq #[u, v] } }) (ch := [z, TI, TO, i1, i2]) I0 (fun b hb => ?_) fun c o nc e => ?_
      · obtain ⟨f0, f1⟩ := hf b hb
        exact ⟨by rw [upd_ne (nT b hb)]; exact f0, f1⟩
      · rcases Heap.get?_push_cases e with ⟨rfl, rfl⟩ | e
        · exact (sb.2 _ (nT z (by simp)).symm).trans pr
        · exact all c o nc e
    refine ⟨.ref s.heap.objs.size, _, I1, rfl, ⟨xs, ys, x, y, _, e1, e2, g1, g2, hp, rfl, rfl⟩, ⟨z2', ?_, ⟨u, v, (sb.2 _ f.b).trans to'⟩, own_keep (b1 _ _ s1') fun ob e => (sb.2 _ f.c).trans e, own_keep (b2 _ _ s2') fun ob e => (sb.2 _ f.d).trans e⟩, fun b hb => ?_⟩
    · exact (sb.2 _ f.a).trans (kp TI _ f.a f.e f.f f.g h2)
    · rw [upd_ne (nT b hb)]; exact n b hb
  done := by
    intro X hP hw hK hc i pins s σ H E I hf st hg
    subst hP hw hK
    obtain ⟨xs, ys, e1, e2, g⟩ := hg
    obtain ⟨h1, h2, ⟨a, b, h3⟩, h4, h5⟩ := st
    have n : ∀ c ∈ [z, TI, TO, i1, i2], H c = none := fun c hc => (hf c hc).1
    obtain ⟨cs, P1, S1, D1, a1, b1, c1, d1⟩ := draw_of I (t := t1) e1 (n i1 (by simp))
    obtain ⟨ds, P2, S2, D2, a2, b2, c2, d2⟩ := draw_of I (t := t2) e2 (n i2 (by simp))
    have hd := I.ok.hd hc
    have out1 : ∀ c, H c = none → c ∉ cs := fun c e z => c1 c z e
    have out2 : ∀ c, H c = none → c ∉ ds := fun c e z => c2 c z e
    have ap : Ap z TI TO i1 i2 (i1 :: cs) (i2 :: ds) := ⟨by simp, by simp, by simp [f.c.symm, out1 z (n z (by simp))], by simp [f.d.symm, out2 z (n z (by simp))], by simp [f.h, out1 TO (n TO (by simp))], by simp [f.i, out2 TO (n TO (by simp))], f.b, by simp [f.j, out2 i1 (n i1 (by simp))], by simp [f.j.symm, out1 i2 (n i2 (by simp))]⟩
    refine next_end (D1 X.A.in1 hd) (D2 X.A.in1 hd) ap h1 h2 h3 (a1 i h4) (a2 i h5) g fun h' tk kp => ⟨rfl, turnedL I hf fun c o nc e => ?_⟩
    simp only [List.mem_cons, List.not_mem_nil, or_false, not_or] at nc
    exact kp c o nc.1 nc.2.2.1 nc.2.2.2.1 nc.2.2.2.2 e
  self := fun _ _ _ _ _ st h => wpAny_pyIter_zip st.1 h
end ZP

set_option Elab.async false
set_option linter.all false
set_option maxRecDepth 100000
set_option maxHeartbeats 4000000
namespace ZP
open PySem PySem.Spec PySem.Builtin PySem.Builtin.SmallTypes L2
theorem cont_push {h : Heap} {k : Srk} {us : List Value} (c : cont h k us) (o : Obj) : cont (h.push o) k us := by
  cases k with
  | tup a => obtain ⟨ob, e, r⟩ := c; exact ⟨ob, Heap.get?_push_of_some _ e, r⟩
  | lst a => obtain ⟨ob, e, r⟩ := c; exact ⟨ob, Heap.get?_push_of_some _ e, r⟩
  | str x => trivial
theorem iter_src {prog : Program} {w : World} {A : Around} {E : Value → Shared → Prop} {s : Shared} {k : Srk} {t : Tok} {us : List Value} {Q : Value → Shared → Prop} (c : cont s.heap k us) (q : Q (.ref s.heap.objs.size) { s with heap := s.heap.push (iob t k) }) :
    wpAny (model prog w) A (pyIter (val t k)) Q E s := by
  cases k with
  | tup a => exact wpAny_pyIter_tuple c q
  | lst a => exact wpAny_pyIter_list c q
  | str x => exact wpAny_pyIter_strU q
def mk2 (h : Heap) (t1 t2 : Tok) (k1 k2 : Srk) : Heap := (h.push (iob t1 k1)).push (iob t2 k2)
def mk5 (h : Heap) (t1 t2 : Tok) (k1 k2 : Srk) : Heap :=
  (((mk2 h t1 t2 k1 k2).push { cls := .type "tuple", data := .seq #[.ref h.objs.size, .ref (h.objs.size + 1)] }).push { cls := .type "tuple", data := .seq #[.none, .none] }).push
    { cls := .type "zip", data := .fields #[.none, .bool false, .bool false, .ref (h.objs.size + 2), .ref (h.objs.size + 3)] }
theorem zip_made (t1 t2 : Tok) (k1 k2 : Srk) (us1 us2 : List Value) : Meets (Builtin.«zip.__new__» ⟨[.type "zip", val t1 k1, val t2 k2], []⟩)
    (fun _ R s => cont s.heap k1 us1 ∧ cont s.heap k2 us2 ∧ R (.ok (.ret (.ref (s.heap.objs.size + 4)))) { s with heap := mk5 s.heap t1 t2 k1 k2 }) :=
  .of_wp fun prog w A R s h => by
    obtain ⟨hp, g, d, tk, os⟩ := s
    obtain ⟨c1, c2, h⟩ := h
    have sub := sub_zip
    have c1' : cont (Shared.heap ⟨hp, g, d, tk, os⟩) k1 us1 := c1
    have c2' : cont (Shared.heap ⟨hp.push (iob t1 k1), g, d, tk, os⟩) k2 us2 := cont_push c2 _
    wp_walk using iter_src (t := t1) c1', iter_src (t := t2) c2'
    refine ⟨_, rfl, ?_⟩
    simpa [mk5, mk2, Heap.size_push, ownedTupleFields, Nat.add_assoc] using h
theorem far_n (n : Nat) : Far (n + 4) (n + 2) (n + 3) n (n + 1) := by
  refine ⟨?_, ?_, ?_, ?_, ?_, ?_, ?_, ?_, ?_, ?_⟩ <;> (intro z; have z : (_ : Nat) = _ := z; omega)
theorem ge_n (n b : Nat) (h : b ∈ [n + 4, n + 2, n + 3, n, n + 1]) : n ≤ b := by
  simp only [List.mem_cons, List.not_mem_nil, or_false] at h
  omega
section
variable {X : Cx} {elts : List Expr} {x1 : Nat} {tpos : Pos}
/-- for .. in zip(a, b) -/
def iZip (ta : TA) : TI := fun σ H R => ta σ H fun vs H1 => ∃ k1 k2 xs ys, vs = [Srk.v k1, Srk.v k2] ∧ its H1 k1 = some xs ∧ its H1 k2 = some ys ∧ R (ItZ k1 k2) H1
theorem val_of {k : Srk} {u : Value} (r : RelV k.v u) : ∃ t, u = val t k := by
  cases k with
  | tup a => cases r; exact ⟨0, rfl⟩
  | lst a => cases r; exact ⟨0, rfl⟩
  | str x => obtain ⟨t, rfl⟩ := r; exact ⟨t, rfl⟩
theorem pi_zip {e1 e2 : Expr} {ta : TA} {p pos : Pos} (hg : Gl X "zip") (hm : X.mg "zip" = none) (hb : bootBuiltins "zip" = some (.type "zip")) (ha : PA X [e1, e2] ta)
    (h1 : starEach [e1, e2] X.env = [(false, eval e1 X.env), (false, eval e2 X.env)] := by rfl) (h2 : starEach [e2] X.env = [(false, eval e2 X.env)] := by rfl) : PI X (.Tuple elts x1 tpos) (.Call (.Name "zip" p) [e1, e2] [] pos) (iZip ta) := by
  intro pins s σ H R I h
  refine wpAny_Call_Name_kw (ld_blt I hg hm hb ?_ (by decide) (by decide))
  refine PyProof.Rows.callWith_type1 (thn (ha pos pins s σ H _ I h) fun us s1 ⟨vs, H1, I1, r1, q1⟩ => ?_) (by rw [h1, h2]) (by rw [h2]; rfl)
  obtain ⟨k1, k2, xs, ys, rfl, e1, e2, q⟩ := q1
  obtain ⟨v1, v2, rfl, rv1, rv2⟩ := vals2 r1
  obtain ⟨t1, rfl⟩ := val_of rv1
  obtain ⟨t2, rfl⟩ := val_of rv2
  obtain ⟨us1, c1, _⟩ := cont_of I1 e1
  obtain ⟨us2, c2, _⟩ := cont_of I1 e2
  refine callType_new F.called_zip (by decide) (F.typeCall_zip_2 _ _) (F.newCall_zip_2 _ _) (fun obj => F.args_object_init_3 obj _ _) F.entry_zip_new (zip_made t1 t2 k1 k2 us1 us2) ⟨c1, c2, ?_⟩
  have z2 : (mk2 s1.heap t1 t2 k1 k2).objs.size = s1.heap.objs.size + 2 := by simp [mk2, Heap.size_push]
  have at0 : (mk5 s1.heap t1 t2 k1 k2).get? s1.heap.objs.size = some (iob t1 k1) := by
    unfold mk5 mk2
    exact Heap.get?_push_of_some _ (Heap.get?_push_of_some _ (Heap.get?_push_of_some _ (Heap.get?_push_of_some _ (Heap.get?_push_size _ (by cases k1 <;> rfl)))))
  have at1 : (mk5 s1.heap t1 t2 k1 k2).get? (s1.heap.objs.size + 1) = some (iob t2 k2) := by
    unfold mk5 mk2
    have := Heap.get?_push_size (o := iob t2 k2) (s1.heap.push (iob t1 k1)) (by cases k2 <;> rfl)
    rw [Heap.size_push] at this
    exact Heap.get?_push_of_some _ (Heap.get?_push_of_some _ (Heap.get?_push_of_some _ this))
  have at2 : IsPair (mk5 s1.heap t1 t2 k1 k2) (s1.heap.objs.size + 2) (.ref s1.heap.objs.size) (.ref (s1.heap.objs.size + 1)) := by
    unfold mk5
    rw [← z2]
    exact Heap.get?_push_of_some _ (Heap.get?_push_of_some _ (Heap.get?_push_size _ rfl))
  have at3 : IsPair (mk5 s1.heap t1 t2 k1 k2) (s1.heap.objs.size + 3) .none .none := by
    unfold mk5
    have := Heap.get?_push_size (o := { cls := .type "tuple", data := .seq #[.none, .none] }) ((mk2 s1.heap t1 t2 k1 k2).push { cls := .type "tuple", data := .seq #[.ref s1.heap.objs.size, .ref (s1.heap.objs.size + 1)] }) rfl
    rw [Heap.size_push, z2] at this
    exact Heap.get?_push_of_some _ this
  have at4 : IsZip (mk5 s1.heap t1 t2 k1 k2) (s1.heap.objs.size + 4) (s1.heap.objs.size + 2) (s1.heap.objs.size + 3) .none := by
    unfold mk5
    have := Heap.get?_push_size (o := { cls := .type "zip", data := .fields #[.none, .bool false, .bool false, .ref (s1.heap.objs.size + 2), .ref (s1.heap.objs.size + 3)] }) (((mk2 s1.heap t1 t2 k1 k2).push { cls := .type "tuple", data := .seq #[.ref s1.heap.objs.size, .ref (s1.heap.objs.size + 1)] }).push { cls := .type "tuple", data := .seq #[.none, .none] }) rfl
    rw [Heap.size_push, Heap.size_push, z2] at this
    exact this
  have keepA : ∀ b o, s1.heap.get? b = some o → (mk5 s1.heap t1 t2 k1 k2).get? b = some o := fun b o e => by
    unfold mk5 mk2
    exact Heap.get?_push_of_some _ (Heap.get?_push_of_some _ (Heap.get?_push_of_some _ (Heap.get?_push_of_some _ (Heap.get?_push_of_some _ e))))
  have I2 : Inv X pins σ H1 { s1 with heap := mk5 s1.heap t1 t2 k1 k2 } := I1.kept (t' := s1.toks) keepA
  refine ⟨⟨_, at4, rfl⟩, ?_⟩
  refine wpAny_pyIter_zip (s := { s1 with heap := mk5 s1.heap t1 t2 k1 k2 }) at4 ?_
  refine ⟨s1.heap.objs.size + 4, [s1.heap.objs.size + 4, s1.heap.objs.size + 2, s1.heap.objs.size + 3, s1.heap.objs.size, s1.heap.objs.size + 1], tnZ _ _ _ _ _ t1 t2 k1 k2, ItZ k1 k2, H1, rfl, I2, turn_zip (far_n s1.heap.objs.size),
    ⟨at4, at2, ⟨_, _, at3⟩, own0 at0, own0 at1⟩, fun b hb => ?_, q⟩
  have : s1.heap.objs.size ≤ b := ge_n _ b hb
  exact I1.fpOk this (I1.hok.fresh this)
end
end ZP
/-! ### as data -/
namespace MI
open PySem PySem.Spec L2 ZP
def srcOf (d : D) (h : Hd) : Option (List D × (Hd → Prop)) := match d with
  | .tup xs => some (xs, fun _ => True)
  | .str x => some (signsD x, fun _ => True)
  | .ref i => (match h[i]? with | some (.lst xs) => some (xs, fun h => h[i]? = some (.lst xs)) | _ => none)
  | _ => none
def gZip (x y : D) (h : Hd) : R Itm := match srcOf x h, srcOf y h with
  | some (xs, c1), some (ys, c2) => .ok ⟨(xs.zip ys).map fun p => .tup [p.1, p.2], fun h => c1 h ∧ c2 h⟩ h
  | _, _ => .no
def sZip (f g : SE) : SI := fun τ h => (f τ h).bind fun x h1 => (g τ h1).bind fun y h2 => gZip x y h2
theorem src_ok {K : PySem.W.Frag} {ι : List Addr} {H : Hp} {h : Hd} {v : V} {d : D} {xs : List D} {ck : Hd → Prop} (r : Rep K ι H v d) (hr : HRep K ι H h) (e : srcOf d h = some (xs, ck)) :
    ∃ k : Srk, v = k.v ∧ ck h ∧ ∀ ι' H' h', Gr ι H ι' H' → HRep K ι' H' h' → ck h' → ∃ vs, its H' k = some vs ∧ Reps K ι' H' vs xs := by
  cases r with
  | @tup a vs ys ha rs =>
    cases e
    exact ⟨.tup a, rfl, True.intro, fun ι' H' h' g _ _ => ⟨vs, by simp [its, g.tup _ _ ha], rs.mono g⟩⟩
  | str x =>
    cases e
    exact ⟨.str x, rfl, True.intro, fun ι' H' h' g _ _ => ⟨_, rfl, reps_signs x⟩⟩
  | @ref a i ha =>
    obtain ⟨ob, e1, e2⟩ := hr.at ha
    cases ob with
    | lst zs =>
      simp only [srcOf, e1] at e
      cases e
      refine ⟨.lst a, rfl, e1, fun ι' H' h' g hr' c => ?_⟩
      obtain ⟨us, q1, q2⟩ := hr'.obj i a _ (g.at ha) c
      exact ⟨us, by simp [its, q1], q2⟩
    | dK _ => simp only [srcOf, e1] at e; cases e
  | _ => cases e
theorem mi_zip {X : Cx} {E : XD} {elts : List Expr} {x1 : Nat} {tpos : Pos} {e1 e2 : Expr} {f g : SE} {p pos : Pos} (hg : Gl X "zip") (hm : X.mg "zip" = none) (hb : bootBuiltins "zip" = some (.type "zip")) (ha : ME X E e1 f) (hb' : ME X E e2 g)
    (h1 : starEach [e1, e2] X.env = [(false, eval e1 X.env), (false, eval e2 X.env)] := by rfl) (h2 : starEach [e2] X.env = [(false, eval e2 X.env)] := by rfl) :
    MI X E (.Tuple elts x1 tpos) (.Call (.Name "zip" p) [e1, e2] [] pos) (sZip f g) := by
  intro pins s σ H Rr I ⟨ι, τ, h, S, Rh, o⟩
  refine pi_zip hg hm hb (pa_cons ha (pa_cons hb' pa_nil (by rw [h2]; rfl)) (by rw [h1, h2])) h1 h2 pins s σ H Rr I ?_
  refine ⟨ι, τ, h, S, Rh, out_bind o fun d h1 ι1 H1 v g1 r1 hr1 o1 => ?_⟩
  refine ⟨ι1, τ, h1, S.mono g1, hr1, out_bind o1 fun d2 h2 ι2 H2 u g2 r2 hr2 o2 => ?_⟩
  unfold gZip at o2
  split at o2
  · rename_i xs c1 ys c2 q1 q2
    obtain ⟨k1, rfl, k1c, k1f⟩ := src_ok (r1.mono g2) hr2 q1
    obtain ⟨k2, rfl, k2c, k2f⟩ := src_ok r2 hr2 q2
    obtain ⟨vs1, w1, w2⟩ := k1f ι2 H2 h2 (.refl _ _) hr2 k1c
    obtain ⟨vs2, w3, w4⟩ := k2f ι2 H2 h2 (.refl _ _) hr2 k2c
    refine ⟨k1, k2, vs1, vs2, rfl, w1, w3, o2 ι2 H2 _ (.refl _ _) ?_ hr2⟩
    intro ι3 H3 h3 g3 hr3 c
    obtain ⟨us1, a1, a2⟩ := k1f ι3 H3 h3 g3 hr3 c.1
    obtain ⟨us2, a3, a4⟩ := k2f ι3 H3 h3 g3 hr3 c.2
    refine ⟨fun i d ed => ?_, us1, us2, a1, a3, ?_⟩
    · simp only [List.getElem?_map, Option.map_eq_some_iff] at ed
      obtain ⟨⟨x, y⟩, ez, rfl⟩ := ed
      obtain ⟨ex, ey⟩ := List.getElem?_zip_eq_some.mp ez
      obtain ⟨v1, b1, b2⟩ := a2.get ex
      obtain ⟨v2, b3, b4⟩ := a4.get ey
      refine ⟨⟨us1, us2, v1, v2, a1, a3, b1, b3⟩, fun x H' yl => ?_⟩
      obtain ⟨xs', ys', x', y', p, c1, c2, c3, c4, c5, rfl, rfl⟩ := yl
      rw [a1] at c1; cases c1
      rw [a3] at c2; cases c2
      rw [b1] at c3; cases c3
      rw [b3] at c4; cases c4
      exact ⟨gr_new c5 _, .tup upd_same (.cons (b2.mono (gr_new c5 _)) (.cons (b4.mono (gr_new c5 _)) .nil)), hr3.aside c5 _⟩
    · rw [List.length_map, List.length_zip, a2.len, a4.len]
      omega
  · exact o2.elim
theorem bt_zip : bootBuiltins "zip" = some (.type "zip") := by first | exact PySem.boot_zip | exact PyProof.Rows.boot_zip | rfl
end MI

set_option Elab.async false
set_option linter.all false
set_option maxRecDepth 100000
set_option maxHeartbeats 4000000
namespace MI
open PySem PySem.Spec L2
/-! ### what a def tells, without what nobody reaches any more -/
open Classical in
noncomputable def gcF (F : SF) : SF := fun ds h => match F ds h with
  | .ok d h1 => if h.length ≤ h1.length ∧ (clo h.length d ∨ d ∈ ds) ∧ ∀ (i : Nat) (o : O), i < h.length → h1[i]? = some o → h[i]? = some o ∨ cloO h.length o then .ok d (h1.take h.length) else .ok d h1
  | r => r
theorem clos_mem {n : Nat} : ∀ {ds : List D} {d : D}, clos n ds → d ∈ ds → clo n d
  | [], _, _, h => by cases h
  | x :: xs, d, c, h => by
    simp only [clos] at c
    rcases List.mem_cons.mp h with rfl | h
    · exact c.1
    · exact clos_mem c.2 h
theorem gc_rf {b : SS} {n : Nat} (ds : List D) (h : Hd) (c1 : clos h.length ds) (c2 : cloH h.length h) : Rf h.length (bodyR b n ds h) (gcF (bodyR b n) ds h) := by
  unfold gcF
  cases e : bodyR b n ds h with
  | no => exact True.intro
  | ex c h1 => exact Rf.same rfl
  | ok d h1 =>
    dsimp only
    split
    · rename_i hc
      obtain ⟨l, cd, co⟩ := hc
      refine ⟨h1.drop h.length, by rw [List.take_append_drop], .inr ⟨by rw [List.length_take]; omega, ?_, fun o ho => ?_⟩⟩
      · rw [List.length_take, Nat.min_eq_left l]
        rcases cd with cd | cd
        · exact cd
        · exact clos_mem c1 cd
      · rw [List.length_take, Nat.min_eq_left l]
        obtain ⟨i, hi⟩ := List.getElem?_of_mem ho
        have hl : i < h.length := by
          have := (List.getElem?_eq_some_iff.mp hi).1
          rw [List.length_take] at this; omega
        rw [List.getElem?_take, if_pos hl] at hi
        rcases co i o hl hi with z | z
        · exact c2 o (List.mem_of_getElem? z)
        · exact z
    · exact Rf.same rfl
theorem gc_eq {F : SF} {ds : List D} {h h' g : Hd} {d : D} (e : F ds h = .ok d (h' ++ g)) (l : h'.length = h.length) (cd : clo h.length d ∨ d ∈ ds) (co : ∀ (i : Nat) (o : O), h'[i]? = some o → h[i]? = some o ∨ cloO h.length o) : gcF F ds h = .ok d h' := by
  unfold gcF
  rw [e]
  dsimp only
  rw [if_pos, ← l, List.take_left]
  refine ⟨by rw [List.length_append]; omega, cd, fun i o hi ho => co i o ?_⟩
  rwa [List.getElem?_append_left (by omega)] at ho
/-- one that changes nothing -/
theorem gc_pure {F : SF} {ds : List D} {h g : Hd} {d : D} (e : F ds h = .ok d (h ++ g)) (cd : clo h.length d ∨ d ∈ ds) : gcF F ds h = .ok d h := gc_eq e rfl cd fun _ _ z => .inl z
theorem gc_same {F : SF} {ds : List D} {h : Hd} {d : D} (e : F ds h = .ok d h) : gcF F ds h = .ok d h := by
  unfold gcF
  rw [e]
  dsimp only
  split
  · rw [List.take_length]
  · rfl
section
variable {P : Program} {w : World} {K : PySem.W.Frag} {mg : Str → Option Value} {base : Heap}
theorem def_gc {x qual : Str} {st : Stmt} {f : Addr} {fd : FuncData} {N ps : List Str} {k : Nat} {b : SS} (Fu : Fun K x qual st f fd) (S : FnScope N ps (defScope st))
    (hb : ∀ (cdv : Value) (A : Around) (outer : List Env) (s : Shared) (H : Hp) (E : XK), Room k (A.deeper (PyProof.Rows.envOfC qual (defScope st) s.heap.objs.size f cdv)) → MSs (cxOf CX0 P w K mg base N qual (defScope st) f cdv A outer s H E).nox X0 (defBody st) b) :
    FnOk P w K mg base CX0 (k + 1) f fd ps (spOf K ps.length (gcF (bodyR b N.length))) := def_ok Fu S hb fun ds h _ c1 c2 => gc_rf ds h c1 c2
/-- a promise of nothing -/
theorem fn_no {k : Nat} {f : Addr} {fd : FuncData} {ps : List Str} : FnOk P w K mg base CX0 k f fd ps (spOf K ps.length fun _ _ => .no) :=
  ⟨fun vs H Q E h => h.1, fun A outer s H args us vs Q E hr he hb hv hs => by obtain ⟨_, ι, ds, h, _, _, o⟩ := hs; exact o.elim⟩
end
/-! ### loops -/
/-- a loop that goes on by an invariant; it may end by a return that the invariant's end knows -/
theorem forL_inv {ck : Hd → Prop} {g : SG} {b : SS} (I : List D → Sd → Hd → Prop) : ∀ {xs pre : List D} {τ : Sd} {h : Hd}, I pre τ h → (∀ pre τ h, I pre τ h → ck h) →
    (∀ pre x τ h, (∃ post, pre ++ x :: post = pre ++ x :: post ∧ x ∈ xs) → I pre τ h → ∃ τ1 h1, g x τ h = .nx τ1 h1 ∧ ∃ τ2 h2, b τ1 h1 = .nx τ2 h2 ∧ I (pre ++ [x]) τ2 h2) → ∃ τ' h', forL ck g b xs τ h = .nx τ' h' ∧ I (pre ++ xs) τ' h'
  | [], pre, τ, h, i0, c, _ => ⟨τ, h, by rw [forL, if_pos (c _ _ _ i0)], by simpa using i0⟩
  | x :: xs, pre, τ, h, i0, c, st => by
    obtain ⟨τ1, h1, e1, τ2, h2, e2, i2⟩ := st pre x τ h ⟨[], rfl, List.mem_cons_self ..⟩ i0
    obtain ⟨τ', h', e3, i3⟩ := forL_inv I (xs := xs) i2 c (fun pre y τ h m i => st pre y τ h ⟨[], rfl, List.mem_cons_of_mem _ m.choose_spec.2⟩ i)
    refine ⟨τ', h', ?_, by simpa using i3⟩
    rw [forL, if_pos (c _ _ _ i0), e1]
    dsimp only
    rw [e2]
    exact e3
theorem mapR_ok {ck : Hd → Prop} {f : D → Hd → R D} (I : List D → Hd → Prop) : ∀ {xs ys : List D} {h : Hd}, I ys h → (∀ ys h, I ys h → ck h) → (∀ x ∈ xs, ∀ ys h, I ys h → ∃ y h', f x h = .ok y h' ∧ I (ys ++ [y]) h') → ∃ zs h', mapR ck f xs h = .ok zs h' ∧ I (ys ++ zs) h' ∧ zs.length = xs.length
  | [], ys, h, i0, c, _ => ⟨[], h, by rw [mapR, if_pos (c _ _ i0)], by simpa using i0, rfl⟩
  | x :: xs, ys, h, i0, c, st => by
    obtain ⟨y, h1, e1, i1⟩ := st x (List.mem_cons_self ..) ys h i0
    obtain ⟨zs, h', e2, i2, l⟩ := mapR_ok I (xs := xs) i1 c fun z hz => st z (List.mem_cons_of_mem _ hz)
    refine ⟨y :: zs, h', ?_, by simpa using i2, by simp [l]⟩
    rw [mapR, if_pos (c _ _ i0), e1]
    show (mapR ck f xs h1).bind _ = _
    rw [e2]; rfl
/-- .. elements that a function tells, and that leave the heap -/
theorem mapR_map {ck : Hd → Prop} {f : D → Hd → R D} (F : D → D) {h : Hd} (c : ck h) : ∀ {xs : List D}, (∀ x ∈ xs, f x h = .ok (F x) h) → mapR ck f xs h = .ok (xs.map F) h
  | [], _ => by rw [mapR, if_pos c]; rfl
  | x :: xs, st => by
    rw [mapR, if_pos c, st x (List.mem_cons_self ..)]
    show (mapR ck f xs h).bind _ = _
    rw [mapR_map F c fun z hz => st z (List.mem_cons_of_mem _ hz)]; rfl
end MI

set_option Elab.async false
set_option linter.all false
set_option maxRecDepth 100000
set_option maxHeartbeats 4000000
namespace MI
open PySem PySem.Spec L2 HT
/-- t[lo:hi] that is all of t: t itself -/
theorem item_whole {prog : Program} {w : World} {A : Around} {E : Value → Shared → Prop} {s : Shared} {t sl : Addr} {items : Array Value} {vl vu : Value} {lo hi : Option Int} {Q : Value → Shared → Prop} (ht : PyProof.Rows.IsTup s.heap t items) (hs : s.heap.IsSliceOf sl vl vu .none) (pl : IsPart vl lo) (pu : IsPart vu hi)
    (hw : HT.sIx items.size 0 lo = 0 ∧ HT.sIx items.size items.size hi = items.size) (h : Q (.ref t) s) : wpAny (model prog w) A (getItem (.ref t) (.ref sl)) Q E s := by
  obtain ⟨os, f1, f2, f3⟩ := id hs
  have ty : s.TypeIs (.ref sl) "slice" := ⟨os, f1, f2⟩
  have tt : s.TypeIs (.ref t) "tuple" := ht.typeIs
  rw [getItem]
  try apply wpAny_holding
  first | (apply wpAny_bind; apply wpAny_pure) | skip
  apply wpAny_bind; apply wpAny_sequenceKey tt (by decide)
  apply wpAny_bind
  apply wpAny_callSpecial?_slot (name := Str.ofString "__getitem__") tt PyProof.Rows.slot_tuple_getitem
  apply wpAny_call_entry PyProof.Rows.slot_tuple_getitem tt PyProof.Rows.entry_tuple_getitem _ (PyProof.Rows.args_tuple_getitem _ _)
  change wpAny (model prog w) A.in1 (Builtin.Tuple.tupleItemsOf (.ref t) >>= _) _ _ s
  apply wpAny_bind; apply PyProof.Rows.tupleItemsOf_ ht
  apply wpAny_bind; apply wpAny_typeOf ty
  rw [if_pos (by decide)]
  apply wpAny_bind; apply HT.sliceApplied_gen hs pl pu
  rw [hw.1, hw.2]
  dsimp only
  rw [if_pos (by simp)]
  apply wpAny_bind
  rw [Builtin.Tuple.tupleIsExact]
  apply wpAny_bind; apply wpAny_typeOf tt
  apply wpAny_pure
  rw [if_pos (by decide)]
  apply wpAny_bind; apply wpAny_rule
  apply wpAny_pure
  exact ⟨_, rfl, wpAny_pure h⟩
def rSlW (K : PySem.W.Frag) : V → Option Int → Option Int → Hp → VK → Prop := fun x lo hi H Q => ∃ a xs, x = .ref a ∧ SqT K H a xs ∧ whole xs.length lo hi ∧ Q (.ref a) H
theorem sl_whole {X : Cx} : SlR X (rSlW X.K) := by
  intro pins s σ H x v vl vu lo hi sl Q I rx hs pl pu h
  obtain ⟨a, xs, rfl, hx, hw, q⟩ := h
  cases rx
  obtain ⟨its, r, ht, hz⟩ := I.tuple hx
  have hlen : its.toArray.size = xs.length := by rw [List.size_toArray]; exact r.length.symm
  exact ⟨"tuple", _, PyProof.Rows.slot_tuple_getitem.lookup, ht.typeIs, item_whole ht hs pl pu (by rw [hlen]; exact hw) ⟨.ref a, H, I, rfl, q⟩⟩
def gSl2 (d : D) (lo hi : Option Int) (h : Hd) : R D := match d with
  | .tup xs => if whole xs.length lo hi then .ok (.tup xs) h else .ok (.tup (cutL xs lo hi)) h
  | d => gSl d lo hi h
def sSl2 (f : SE) (l u : SO) : SE := fun τ h => (f τ h).bind fun d h1 => (l τ h1).bind fun lo h2 => (u τ h2).bind fun hi h3 => gSl2 d lo hi h3
theorem snd_sl2 {K : PySem.W.Frag} {E : XD} {ι : List Addr} {H : Hp} {h : Hd} {x : V} {d : D} {lo hi : Option Int} {Q : VK} (rx : Rep K ι H x d) (hr : HRep K ι H h) (o : out K E (repD K) ι H (gSl2 d lo hi h) Q) : (rSlS x lo hi H Q ∨ rSlT K x lo hi H Q ∨ rSlL K x lo hi H Q) ∨ rSlW K x lo hi H Q := by
  cases rx with
  | @tup p vs xs hp r =>
    by_cases hc : whole xs.length lo hi
    · simp only [gSl2, if_pos hc] at o
      exact .inr ⟨p, vs, rfl, SqT.of hp, by rw [r.len]; exact hc, ans o (.tup hp r) hr⟩
    · simp only [gSl2, if_neg hc] at o
      exact .inl (.inr (.inl ⟨p, vs, rfl, SqT.of hp, by rw [r.len]; exact hc, new_tup (reps_cut r lo hi) hr o⟩))
  | non => exact o.elim
  | bl _ => exact o.elim
  | int _ => exact o.elim
  | ty _ => exact o.elim
  | str z => exact .inl (snd_sl (.str z) hr o)
  | rol a b => exact .inl (snd_sl (.rol a b) hr o)
  | ref a => exact .inl (snd_sl (.ref a) hr o)
theorem me_slice2 {X : Cx} {E : XD} {e : Expr} {fa : SE} {lo hi : Option Expr} {l u : SO} {p2 pos : Pos} (he : ME X E e fa) (hl : MO X E lo l) (hu : MO X E hi u) : ME X E (.Subscript e (.Slice lo hi none p2) pos) (sSl2 fa l u) := by
  refine PE.weak (pe_slice ((sl_str.or (sl_tup.or sl_list)).or sl_whole) he hl hu) fun σ H Q ⟨ι, τ, h, S, Rh, o⟩ => ?_
  refine ⟨ι, τ, h, S, Rh, out_bind o fun d h1 ι1 H1 v g1 r1 hr1 o1 => ?_⟩
  refine ⟨ι1, τ, h1, S.mono g1, hr1, out_bind o1 fun lo h2 ι2 H2 lv g2 r2 hr2 o2 => ?_⟩
  refine ⟨ι2, τ, h2, (S.mono g1).mono g2, hr2, out_bind o2 fun hi h3 ι3 H3 hv g3 r3 hr3 o3 => ?_⟩
  cases r2; cases r3
  exact snd_sl2 ((r1.mono g2).mono g3) hr3 o3
/-- all of it is cut out as it is -/
theorem cut_whole {α : Type} (xs : List α) (lo hi : Option Int) (h : whole xs.length lo hi) : cutL xs lo hi = xs := by
  unfold cutL
  rw [h.1, h.2]
  simp
theorem gSl2_tup (xs : List D) (lo hi : Option Int) (h : Hd) : gSl2 (.tup xs) lo hi h = .ok (.tup (cutL xs lo hi)) h := by
  by_cases hc : whole xs.length lo hi
  · simp only [gSl2, if_pos hc, cut_whole xs lo hi hc]
  · simp only [gSl2, if_neg hc]
end MI

set_option Elab.async false
set_option linter.all false
set_option maxRecDepth 100000
set_option maxHeartbeats 4000000
namespace K05
open PySem PySem.Spec L2 MI
def top (i : Nat) : Stmt := PySem.Challenge.pw_nearreach_k05_weights_and_parts.main.body.getD i (.Pass ⟨0, 0, 0, 0⟩)
structure Nm (mg : Str → Option Value) : Prop where
  abs : mg "abs" = none
  bool : mg "bool" = none
  int : mg "int" = none
  isinstance : mg "isinstance" = none
  len : mg "len" = none
  min : mg "min" = none
  range : mg "range" = none
  str : mg "str" = none
  sum : mg "sum" = none
  tuple : mg "tuple" = none
  zip : mg "zip" = none
noncomputable def b_inner : SS :=
 (sSeq (sIf (sT (s2 hEq (s2 gIx (sV 0) (sC (.int 0))) (sC (.str "one"))))
  (sRet (sA gTup sNil))
  sNx)
 (sSeq (sIf (sOr (sT (s2 hEq (s2 gIx (sV 0) (sC (.int 0))) (sC (.str "row")))) (sT (s2 hEq (s2 gIx (sV 0) (sC (.int 0))) (sC (.str "either")))))
  (sRet (s2 gIx (sV 0) (sC (.int 1))))
  sNx)
 (sRet (sA gTup (sCons (s2 gIx (sV 0) (sC (.int 1))) sNil)))))
noncomputable def b_weight (F_inner : SF) (F_weight : SF) : SS :=
 (sSeq (sIf (sT (s2 hEq (s2 gIx (sV 0) (sC (.int 0))) (sC (.str "one"))))
  (sRet (sC (.int 1)))
  sNx)
 (sSeq (sSet 1 (sA gSum (sCons (sComp (sIt (sA (sN 1 F_inner) (sCons (sV 0) sNil))) t1 (sA (sN 1 F_weight) (sCons (sV 0) sNil)) []) sNil)))
 (sSeq (sIf (sT (s2 hEq (s2 gIx (sV 0) (sC (.int 0))) (sC (.str "times"))))
  (sRet (s2 gMul (s2 gIx (sV 0) (sC (.int 3))) (sV 1)))
  sNx)
 (sRet (sV 1)))))
noncomputable def b_parts_of (F_inner : SF) (F_parts_of : SF) : SS :=
 (sSeq (sSet 1 (sA gLst (sCons (sV 0) sNil)))
 (sSeq (sFor (sIt (sA (sN 1 F_inner) (sCons (sV 0) sNil))) (kN 2) (sDrop (sML gExt (sV 1) (sCons (sA (sN 1 F_parts_of) (sCons (sV 2) sNil)) sNil))))
 (sRet (sA gTuple (sCons (sV 1) sNil)))))
noncomputable def b_law_pen : SS :=
 (sRet (sA gLst (sCons (sSl2 (sV 0) oN (oS (sC (.int 63)))) (sCons (sC (.int 0)) (sCons (sC (.int 0)) sNil)))))
noncomputable def b_law_take : SS :=
 (sSeq (sIf (sT (s2 gGt (s2 gIx (sV 0) (sC (.int 2))) (sC (.int 0))))
  (sSeq (sSet 2 (s2 gMod (s2 gIx (sV 0) (sC (.int 2))) (sV 1)))
 (sSeq (sPut (s2 gDiv (s2 gIx (sV 0) (sC (.int 2))) (sV 1)) (sV 0) (sC (.int 2)))
 (sRet (sV 2))))
  sNx)
 (sSeq (sSet 3 (s2 gIx (sV 0) (sC (.int 1))))
 (sSeq (sPut (s2 gAdd (sV 3) (sC (.int 1))) (sV 0) (sC (.int 1)))
 (sSeq (sSet 4 (sC (.int 5)))
 (sSeq (sIf (sT (s2 gGt (sA gLen (sCons (s2 gIx (sV 0) (sC (.int 0))) sNil)) (sC (.int 0))))
  (sSet 4 (s2 gIx (s2 gIx (sV 0) (sC (.int 0))) (s2 gMod (sV 3) (sA gLen (sCons (s2 gIx (sV 0) (sC (.int 0))) sNil)))))
  sNx)
 (sSeq (sIf (sAnd (sT (s2 gLt (sV 3) (sA gLen (sCons (s2 gIx (sV 0) (sC (.int 0))) sNil)))) (sT (s2 gGe (sA gAbs (sCons (sV 4) sNil)) (s2 gPow (sC (.int 10)) (sC (.int 18))))))
  (sSeq (sSet 5 (s2 gAdd (s2 gMul (sC (.int 2)) (sA gAbs (sCons (sV 4) sNil))) (sA gInt (sCons (s2 gLt (sV 4) (sC (.int 0))) sNil))))
 (sSeq (sPut (s2 gDiv (sV 5) (sV 1)) (sV 0) (sC (.int 2)))
 (sRet (s2 gMod (sV 5) (sV 1)))))
  sNx)
 (sSeq (sSet 6 (s2 gMod (s2 gPow (s2 gAdd (s2 gAdd (s2 gMod (sV 4) (sC (.int 2147483587))) (s2 gMul (sC (.int 40709)) (sV 3))) (sC (.int 31))) (sC (.int 3))) (sC (.int 2147483647))))
 (sSeq (sSet 6 (s2 gMod (s2 gAdd (s2 gAdd (s2 gMul (sV 6) (sV 6)) (s2 gMul (sC (.int 48271)) (sV 6))) (sV 3)) (sC (.int 2147483629))))
 (sRet (s2 gMod (s2 gDiv (sV 6) (sC (.int 64))) (sV 1)))))))))))
noncomputable def b_law_signs : SS :=
 (sSeq (sSet 0 (sC (.str " !\"#$&'()*+,-./0123456789:;<=>?@ABCDEFGHIJKLMNOPQRSTUVWXYZ[\\]^_`")))
 (sRet (s2 gAdd (sV 0) (sC (.str "abcdefghijklmnopqrstuvwxyz{|}~\n")))))
noncomputable def b_law_some (F_law_take : SF) : SS :=
 (sSeq (sSet 3 (sC (.str "")))
 (sSeq (sFor (sRg gRng1 (sCons (s2 gAdd (sC (.int 1)) (sA (sN 2 F_law_take) (sCons (sV 0) (sCons (sV 2) sNil)))) sNil)) (kN 4) (sSeq (sSet 5 (sA (sN 2 F_law_take) (sCons (sV 0) (sCons (sA gLen (sCons (sV 1) sNil)) sNil))))
 (sSeq (sSet 3 (s2 gAdd (sV 3) (s2 gIx (sV 1) (sV 5))))
 (sSet 1 (s2 gAdd (sSl2 (sV 1) oN (oS (sV 5))) (sSl2 (sV 1) (oS (s2 gAdd (sV 5) (sC (.int 1)))) oN))))))
 (sRet (sV 3))))
noncomputable def b_law_shape (F_law_shape : SF) (F_law_some : SF) (F_law_take : SF) : SS :=
 (sSeq (sSet 4 (sA (sN 2 F_law_take) (sCons (sV 0) (sCons (sC (.int 10)) sNil))))
 (sSeq (sIf (sAnd (sT (s2 hEq (sV 2) (sC (.int 5)))) (sT (s2 gLt (sV 4) (sC (.int 2)))))
  (sSet 4 (s2 gAdd (sV 4) (sC (.int 4))))
  sNx)
 (sSeq (sIf (sAnd (sT (s2 hEq (sV 4) (sC (.int 9)))) (sT (s2 hEq (sA (sN 2 F_law_take) (sCons (sV 0) (sCons (sC (.int 2)) sNil))) (sC (.int 0)))))
  (sRet (sA gTup (sCons (sC (.str "row")) (sCons (sA gTup sNil) sNil))))
  sNx)
 (sSeq (sIf (sOr (sT (s2 hEq (sV 2) (sC (.int 1)))) (sOr (sT (s2 gLt (s2 gIx (sV 1) (sC (.int 0))) (sC (.int 1)))) (sT (s2 gLt (sV 4) (sC (.int 2))))))
  (sRet (sA gTup (sCons (sC (.str "one")) (sCons (sA (sN 3 F_law_some) (sCons (sV 0) (sCons (sV 3) (sCons (sA gLen (sCons (sV 3) sNil)) sNil)))) sNil))))
  sNx)
 (sSeq (sIf (sT (s2 gLt (sV 4) (sC (.int 4))))
  (sSeq (sPut (s2 gSub (s2 gIx (sV 1) (sC (.int 0))) (sC (.int 1))) (sV 1) (sC (.int 0)))
 (sSeq (sSet 5 (sA (sN 4 F_law_shape) (sCons (sV 0) (sCons (sV 1) (sCons (s2 gSub (sV 2) (sC (.int 1))) (sCons (sV 3) sNil))))))
 (sSeq (sIf (sT (s2 hEq (sV 4) (sC (.int 2))))
  (sRet (sA gTup (sCons (sC (.str "many")) (sCons (sV 5) sNil))))
  sNx)
 (sSeq (sSet 6 (sA (sN 2 F_law_take) (sCons (sV 0) (sCons (sC (.int 5)) sNil))))
 (sRet (sA gTup (sCons (sC (.str "times")) (sCons (sV 5) (sCons (sV 6) (sCons (s2 gAdd (sV 6) (sA (sN 2 F_law_take) (sCons (sV 0) (sCons (s2 gSub (sC (.int 5)) (sV 6)) sNil)))) sNil))))))))))
  sNx)
 (sSeq (sSet 7 (sA gMin2 (sCons (s2 gIx (sV 1) (sC (.int 0))) (sCons (s2 gAdd (sC (.int 1)) (sA (sN 2 F_law_take) (sCons (sV 0) (sCons (s2 gIx (sA gLst (sCons (sC (.int 2)) (sCons (sC (.int 3)) (sCons (sC (.int 6)) sNil)))) (sA (sN 2 F_law_take) (sCons (sV 0) (sCons (sC (.int 3)) sNil)))) sNil)))) sNil))))
 (sSeq (sPut (s2 gSub (s2 gIx (sV 1) (sC (.int 0))) (sV 7)) (sV 1) (sC (.int 0)))
 (sSeq (sSet 8 (sA gTuple (sCons (sComp (sRg gRng1 (sCons (sV 7) sNil)) t1 (sA (sN 4 F_law_shape) (sCons (sV 1) (sCons (sV 2) (sCons (s2 gSub (sV 3) (sC (.int 1))) (sCons (sV 4) sNil))))) [0, 1, 2, 3]) sNil)))
 (sRet (sA gTup (sCons (s2 gIx (sA gLst (sCons (sC (.str "row")) (sCons (sC (.str "either")) sNil))) (sA gInt (sCons (s2 gGt (sV 4) (sC (.int 6))) sNil))) (sCons (sV 8) sNil))))))))))))
noncomputable def b_law_inner : SS :=
 (sSeq (sIf (sT (s2 hEq (s2 gIx (sV 0) (sC (.int 0))) (sC (.str "one"))))
  (sRet (sA gTup sNil))
  sNx)
 (sSeq (sIf (sOr (sT (s2 hEq (s2 gIx (sV 0) (sC (.int 0))) (sC (.str "row")))) (sT (s2 hEq (s2 gIx (sV 0) (sC (.int 0))) (sC (.str "either")))))
  (sRet (s2 gIx (sV 0) (sC (.int 1))))
  sNx)
 (sRet (sA gTup (sCons (s2 gIx (sV 0) (sC (.int 1))) sNil)))))
noncomputable def b_law_parts (F_law_inner : SF) (F_law_parts : SF) : SS :=
 (sSeq (sSet 1 (sA gLst (sCons (sV 0) sNil)))
 (sSeq (sFor (sIt (sA (sN 1 F_law_inner) (sCons (sV 0) sNil))) (kN 2) (sSet 1 (s2 gAdd (sV 1) (sA (sN 1 F_law_parts) (sCons (sV 2) sNil)))))
 (sRet (sV 1))))
noncomputable def b_law_same (F_law_same : SF) : SS :=
 (sSeq (sIf (sTru (sA gIsi (sCons (sV 1) (sCons (sC (.ty "tuple")) sNil))))
  (sSeq (sIf (sOr (sNot (sTru (sA gIsi (sCons (sV 0) (sCons (sC (.ty "tuple")) sNil))))) (sT (s2 hNe (sA gLen (sCons (sV 0) sNil)) (sA gLen (sCons (sV 1) sNil)))))
  (sRet (sC (.bl false)))
  sNx)
 (sSeq (sFor (sZip (sV 0) (sV 1)) (kTup 2 (kCons (kN 2) (kCons (kN 3) kNil))) (sIf (sNot (sTru (sA (sN 2 F_law_same) (sCons (sV 2) (sCons (sV 3) sNil)))))
  (sRet (sC (.bl false)))
  sNx))
 (sRet (sC (.bl true)))))
  sNx)
 (sSeq (sIf (sTru (sA gIsi (sCons (sV 1) (sCons (sC (.ty "str")) sNil))))
  (sRet (sAndV (sA gIsi (sCons (sV 0) (sCons (sC (.ty "str")) sNil))) (s2 hEq (sV 0) (sV 1))))
  sNx)
 (sRet (sAndV (sA gIsi (sCons (sV 0) (sCons (sC (.ty "int")) sNil))) (sAndV (sNotV (sA gIsi (sCons (sV 0) (sCons (sC (.ty "bool")) sNil)))) (s2 hEq (sV 0) (sV 1)))))))
noncomputable def b_law_weights (F_law_inner : SF) (F_law_weights : SF) : SS :=
 (sSeq (sIf (sT (s2 hEq (s2 gIx (sV 0) (sC (.int 0))) (sC (.str "one"))))
  (sRet (sA gLst (sCons (sV 1) sNil)))
  sNx)
 (sSeq (sIf (sT (s2 hEq (s2 gIx (sV 0) (sC (.int 0))) (sC (.str "times"))))
  (sSet 1 (s2 gMul (sV 1) (s2 gIx (sV 0) (sC (.int 3)))))
  sNx)
 (sSeq (sSet 2 (sA gLst sNil))
 (sSeq (sFor (sIt (sA (sN 1 F_law_inner) (sCons (sV 0) sNil))) (kN 3) (sSet 2 (s2 gAdd (sV 2) (sA (sN 2 F_law_weights) (sCons (sV 3) (sCons (sV 1) sNil))))))
 (sRet (sV 2))))))
noncomputable def b_law_right (F_law_parts : SF) (F_law_same : SF) (F_law_weights : SF) (F_parts_of : SF) (F_weight : SF) : SS :=
 (sSeq (sSet 1 (sA (sN 1 F_law_parts) (sCons (sV 0) sNil)))
 (sSeq (sIf (sNot (sTru (sA (sN 2 F_law_same) (sCons (sA (sN 1 F_weight) (sCons (sV 0) sNil)) (sCons (sA gSum (sCons (sA (sN 2 F_law_weights) (sCons (sV 0) (sCons (sC (.int 1)) sNil))) sNil)) sNil)))))
  (sRet (sC (.bl false)))
  sNx)
 (sSeq (sSet 2 (sA (sN 1 F_parts_of) (sCons (sV 0) sNil)))
 (sSeq (sIf (sNot (sTru (sA (sN 2 F_law_same) (sCons (sV 2) (sCons (sA gTuple (sCons (sV 1) sNil)) sNil)))))
  (sRet (sC (.bl false)))
  sNx)
 (sSeq (sFor (sRg gRng1 (sCons (sA gLen (sCons (sV 1) sNil)) sNil)) (kN 3) (sSeq (sSet 4 (sA gLen (sCons (sA (sN 1 F_law_parts) (sCons (s2 gIx (sV 1) (sV 3)) sNil)) sNil)))
 (sIf (sT (s2 hNe (sA (sN 1 F_parts_of) (sCons (s2 gIx (sV 2) (sV 3)) sNil)) (sSl2 (sV 2) (oS (sV 3)) (oS (s2 gAdd (sV 3) (sV 4))))))
  (sRet (sC (.bl false)))
  sNx)))
 (sRet (sA (sN 2 F_law_same) (sCons (sA (sN 1 F_weight) (sCons (sV 0) sNil)) (sCons (sA gSum (sCons (sA (sN 2 F_law_weights) (sCons (sV 0) (sCons (sC (.int 1)) sNil))) sNil)) sNil)))))))))
noncomputable def b_law (F_law_parts : SF) (F_law_pen : SF) (F_law_right : SF) (F_law_same : SF) (F_law_shape : SF) (F_law_signs : SF) (F_law_some : SF) (F_law_take : SF) (F_parts_of : SF) (F_weight : SF) : SS :=
 (sSeq (sSet 1 (sA (sN 1 F_law_pen) (sCons (sV 0) sNil)))
 (sSeq (sSet 2 (sA (sN 3 F_law_some) (sCons (sV 1) (sCons (sA (sN 0 F_law_signs) sNil) (sCons (sC (.int 6)) sNil)))))
 (sSeq (sSet 3 (sA gLst (sCons (sA (sN 4 F_law_shape) (sCons (sV 1) (sCons (sA gLst (sCons (sC (.int 23)) sNil)) (sCons (sC (.int 5)) (sCons (sV 2) sNil))))) sNil)))
 (sSeq (sSet 3 (s2 gAdd (sV 3) (sComp (sRg gRng1 (sCons (sC (.int 2)) sNil)) t1 (sA (sN 4 F_law_shape) (sCons (sV 1) (sCons (sA gLst (sCons (sC (.int 7)) sNil)) (sCons (sC (.int 3)) (sCons (sV 2) sNil))))) [1, 2])))
 (sSeq (sSet 4 (sA (sN 2 F_law_take) (sCons (sV 1) (sCons (sC (.int 5)) sNil))))
 (sSeq (sSet 5 (s2 gAdd (sV 4) (sA (sN 2 F_law_take) (sCons (sV 1) (sCons (s2 gSub (sC (.int 5)) (sV 4)) sNil)))))
 (sSeq (sSet 6 (s2 gIx (sV 3) (s2 gAdd (sC (.int 1)) (sA (sN 2 F_law_take) (sCons (sV 1) (sCons (sC (.int 2)) sNil))))))
 (sSeq (sSet 3 (s2 gAdd (sV 3) (sA gLst (sCons (sA gTup (sCons (sC (.str "many")) (sCons (sV 6) sNil))) (sCons (sA gTup (sCons (sC (.str "times")) (sCons (sV 6) (sCons (sV 4) (sCons (sV 5) sNil))))) (sCons (sA gTup (sCons (sC (.str "times")) (sCons (sA gTup (sCons (sC (.str "times")) (sCons (sV 6) (sCons (sC (.int 0)) (sCons (sV 5) sNil))))) (sCons (sV 4) (sCons (sV 5) sNil))))) sNil))))))
 (sSeq (sSet 3 (s2 gAdd (sV 3) (sA gLst (sCons (sA gTup (sCons (sC (.str "row")) (sCons (sA gTuple (sCons (sSl2 (sV 3) (oS (sC (.int 1))) (oS (sC (.int 3)))) sNil)) sNil))) (sCons (sA gTup (sCons (sC (.str "either")) (sCons (sSl2 (sA gTup (sCons (s2 gIx (sV 3) (sC (.int 2))) (sCons (s2 gIx (sV 3) (sC (.int 1))) (sCons (sV 6) sNil)))) oN (oS (s2 gAdd (sC (.int 2)) (sA (sN 2 F_law_take) (sCons (sV 1) (sCons (sC (.int 2)) sNil)))))) sNil))) sNil)))))
 (sSeq (sFor (sIt (sV 3)) (kN 7) (sIf (sAnd (sT (s2 gLt (sA gLen (sCons (sA (sN 1 F_law_parts) (sCons (sV 7) sNil)) sNil)) (sC (.int 25)))) (sNot (sTru (sA (sN 1 F_law_right) (sCons (sV 7) sNil)))))
  (sRet (sC (.bl false)))
  sNx))
 (sRet (sAndV (sA (sN 1 F_law_right) (sCons (s2 gIx (sV 3) (sC (.int 0))) sNil)) (sAndV (s2 hEq (sA (sN 1 F_weight) (sCons (sA gTup (sCons (sC (.str "row")) (sCons (sA gTup sNil) sNil))) sNil)) (sC (.int 0))) (sA (sN 2 F_law_same) (sCons (sA (sN 1 F_parts_of) (sCons (sA gTup (sCons (sC (.str "row")) (sCons (sA gTup sNil) sNil))) sNil)) (sCons (sA gTup (sCons (sA gTup (sCons (sC (.str "row")) (sCons (sA gTup sNil) sNil))) sNil)) sNil))))))))))))))))
section
variable {P : Program} {w : World} {K : PySem.W.Frag} {mg : Str → Option Value} {base : Heap} {f : Addr}
theorem sc_inner : FnScope ["shape"] ["shape"] (defScope (top 1)) := ⟨rfl, rfl, rfl, by decide +kernel, rfl, by decide +kernel, by decide +kernel⟩
theorem m_inner {k : Nat} (cdv : Value) (A : Around) (outer : List Env) (s : Shared) (H : Hp) (E : XK) (hr : Room k (A.deeper (PyProof.Rows.envOfC "inner" (defScope (top 1)) s.heap.objs.size f cdv))) : MSs (cxOf CX0 P w K mg base ["shape"] "inner" (defScope (top 1)) f cdv A outer s H E).nox X0 (defBody (top 1)) (b_inner) :=
 have SC := sc_inner
 (mss_cons (ms_if (mt_cmpO (op_eqD hr.u) snd_eqD (me_item (me_v 0) me_int (fun _ _ => rfl)) me_str (nomark _))
  (mss_one (ms_ret (me_tup ma_nil)))
  mss_nil)
 (mss_cons (ms_if (PW.pt (mw_or (mt_cmpO (op_eqD hr.u) snd_eqD (me_item (me_v 0) me_int (fun _ _ => rfl)) me_str (nomark _)) (mw_or1 (mt_cmpO (op_eqD hr.u) snd_eqD (me_item (me_v 0) me_int (fun _ _ => rfl)) me_str (nomark _)))))
  (mss_one (ms_ret (me_item (me_v 0) me_int (fun _ _ => rfl))))
  mss_nil)
 (mss_one (ms_ret (me_tup (ma_cons (me_item (me_v 0) me_int (fun _ _ => rfl)) ma_nil))))))
theorem sc_weight : FnScope ["shape", "parts"] ["shape"] (defScope (top 2)) := ⟨rfl, rfl, rfl, by decide +kernel, rfl, by decide +kernel, by decide +kernel⟩
theorem m_weight {k : Nat} (M : Nm mg) {a_inner : Addr} {d_inner : FuncData} {k_inner : Nat} {F_inner : SF} (D_inner : Dn P w K mg base k_inner "inner" ["shape"] (spOf K 1 F_inner) a_inner d_inner) (h_inner : k_inner ≤ k) {a_weight : Addr} {d_weight : FuncData} {k_weight : Nat} {F_weight : SF} (D_weight : Dn P w K mg base k_weight "weight" ["shape"] (spOf K 1 F_weight) a_weight d_weight) (h_weight : k_weight ≤ k) (cdv : Value) (A : Around) (outer : List Env) (s : Shared) (H : Hp) (E : XK) (hr : Room k (A.deeper (PyProof.Rows.envOfC "weight" (defScope (top 2)) s.heap.objs.size f cdv))) : MSs (cxOf CX0 P w K mg base ["shape", "parts"] "weight" (defScope (top 2)) f cdv A outer s H E).nox X0 (defBody (top 2)) (b_weight F_inner F_weight) :=
 have SC := sc_weight
 (mss_cons (ms_if (mt_cmpO (op_eqD hr.u) snd_eqD (me_item (me_v 0) me_int (fun _ _ => rfl)) me_str (nomark _))
  (mss_one (ms_ret me_int))
  mss_nil)
 (mss_cons (ms_set (i := 1) SC.nd rfl (Or.inl rfl) (me_fn (call_sum_l rfl) snd_sum rfl M.sum bt_sum (ma_cons (me_comp rfl (CSc.noFree (ts := ["part"]) rfl (by decide +kernel) (by decide +kernel) (by decide +kernel)) (mi_seq (me_call D_inner (hr.mono h_inner) rfl (ma_cons (me_v 0) ma_nil))) (fun _ _ _ _ => (pg_name (i := 0) (show (["part"] : List Str).Nodup by decide +kernel) rfl (Or.inl rfl) (.inr rfl))) tg_one (fun _ _ _ _ => (me_call D_weight (hr.mono h_weight) rfl (ma_cons (me_v 0) ma_nil)))) ma_nil)))
 (mss_cons (ms_if (mt_cmpO (op_eqD hr.u) snd_eqD (me_item (me_v 0) me_int (fun _ _ => rfl)) me_str (nomark _))
  (mss_one (ms_ret (me_mul (me_item (me_v 0) me_int (fun _ _ => rfl)) (me_v 1))))
  mss_nil)
 (mss_one (ms_ret (me_v 1))))))
theorem sc_parts_of : FnScope ["shape", "found", "part"] ["shape"] (defScope (top 3)) := ⟨rfl, rfl, rfl, by decide +kernel, rfl, by decide +kernel, by decide +kernel⟩
theorem m_parts_of {k : Nat} (M : Nm mg) {a_inner : Addr} {d_inner : FuncData} {k_inner : Nat} {F_inner : SF} (D_inner : Dn P w K mg base k_inner "inner" ["shape"] (spOf K 1 F_inner) a_inner d_inner) (h_inner : k_inner ≤ k) {a_parts_of : Addr} {d_parts_of : FuncData} {k_parts_of : Nat} {F_parts_of : SF} (D_parts_of : Dn P w K mg base k_parts_of "parts_of" ["shape"] (spOf K 1 F_parts_of) a_parts_of d_parts_of) (h_parts_of : k_parts_of ≤ k) (cdv : Value) (A : Around) (outer : List Env) (s : Shared) (H : Hp) (E : XK) (hr : Room k (A.deeper (PyProof.Rows.envOfC "parts_of" (defScope (top 3)) s.heap.objs.size f cdv))) : MSs (cxOf CX0 P w K mg base ["shape", "found", "part"] "parts_of" (defScope (top 3)) f cdv A outer s H E).nox X0 (defBody (top 3)) (b_parts_of F_inner F_parts_of) :=
 have SC := sc_parts_of
 (mss_cons (ms_set (i := 1) SC.nd rfl (Or.inl rfl) (me_lst (ma_cons (me_v 0) ma_nil)))
 (mss_cons (ms_for PassesOwn.never rfl (mi_seq (me_call D_inner (hr.mono h_inner) rfl (ma_cons (me_v 0) ma_nil))) (mg_name (i := 2) SC.nd rfl (Or.inl rfl)) (mss_one (ms_expr (me_ml PySem.F.slot_list_extend PySem.F.type_list_extend (MtR.or mt_extend mt_extendT) snd_ext (me_v 1) (ma_cons (me_call D_parts_of (hr.mono h_parts_of) rfl (ma_cons (me_v 2) ma_nil)) ma_nil)))))
 (mss_one (ms_ret (me_fnTy (L2.CallR.or call_tuple_of (call_tuple_s rfl)) snd_tuple rfl M.tuple bt_tuple (ma_cons (me_v 1) ma_nil))))))
theorem sc_law_pen : FnScope ["_law_script"] ["_law_script"] (defScope (top 5)) := ⟨rfl, rfl, rfl, by decide +kernel, rfl, by decide +kernel, by decide +kernel⟩
theorem m_law_pen {k : Nat} (cdv : Value) (A : Around) (outer : List Env) (s : Shared) (H : Hp) (E : XK) (hr : Room k (A.deeper (PyProof.Rows.envOfC "_law_pen" (defScope (top 5)) s.heap.objs.size f cdv))) : MSs (cxOf CX0 P w K mg base ["_law_script"] "_law_pen" (defScope (top 5)) f cdv A outer s H E).nox X0 (defBody (top 5)) (b_law_pen) :=
 have SC := sc_law_pen
 (mss_one (ms_ret (me_lst (ma_cons (me_slice2 (me_v 0) mo_none (mo_some me_int)) (ma_cons me_int (ma_cons me_int ma_nil))))))
theorem sc_law_take : FnScope ["_law_pen_here", "_law_many", "_law_found", "_law_at", "_law_cell", "_law_great", "_law_number"] ["_law_pen_here", "_law_many"] (defScope (top 6)) := ⟨rfl, rfl, rfl, by decide +kernel, rfl, by decide +kernel, by decide +kernel⟩
theorem m_law_take {k : Nat} (M : Nm mg) (cdv : Value) (A : Around) (outer : List Env) (s : Shared) (H : Hp) (E : XK) (hr : Room k (A.deeper (PyProof.Rows.envOfC "_law_take" (defScope (top 6)) s.heap.objs.size f cdv))) : MSs (cxOf CX0 P w K mg base ["_law_pen_here", "_law_many", "_law_found", "_law_at", "_law_cell", "_law_great", "_law_number"] "_law_take" (defScope (top 6)) f cdv A outer s H E).nox X0 (defBody (top 6)) (b_law_take) :=
 have SC := sc_law_take
 (mss_cons (ms_if (mt_cmpO op_gt snd_gt (me_item (me_v 0) me_int (fun _ _ => rfl)) me_int (nomark _))
  (mss_cons (ms_set (i := 2) SC.nd rfl (Or.inl rfl) (me_mod (me_item (me_v 0) me_int (fun _ _ => rfl)) (me_v 1)))
 (mss_cons (ms_put (me_div (me_item (me_v 0) me_int (fun _ _ => rfl)) (me_v 1)) (me_v 0) me_int)
 (mss_one (ms_ret (me_v 2)))))
  mss_nil)
 (mss_cons (ms_set (i := 3) SC.nd rfl (Or.inl rfl) (me_item (me_v 0) me_int (fun _ _ => rfl)))
 (mss_cons (ms_put (me_add (me_v 3) me_int) (me_v 0) me_int)
 (mss_cons (ms_set (i := 4) SC.nd rfl (Or.inl rfl) me_int)
 (mss_cons (ms_if (mt_cmpO op_gt snd_gt (me_fn (L2.CallR.or call_len_seq call_len_str) snd_len rfl M.len bt_len (ma_cons (me_item (me_v 0) me_int (fun _ _ => rfl)) ma_nil)) me_int (nomark _))
  (mss_one (ms_set (i := 4) SC.nd rfl (Or.inl rfl) (me_item (me_item (me_v 0) me_int (fun _ _ => rfl)) (me_mod (me_v 3) (me_fn (L2.CallR.or call_len_seq call_len_str) snd_len rfl M.len bt_len (ma_cons (me_item (me_v 0) me_int (fun _ _ => rfl)) ma_nil))) (fun _ _ => rfl))))
  mss_nil)
 (mss_cons (ms_if (PW.pt (mw_and (mt_cmpO (op_lt.or op_lt_str) snd_lt (me_v 3) (me_fn (L2.CallR.or call_len_seq call_len_str) snd_len rfl M.len bt_len (ma_cons (me_item (me_v 0) me_int (fun _ _ => rfl)) ma_nil)) (nomark _)) (mw_and1 (mt_cmpO op_ge snd_ge (me_fn call_abs snd_abs rfl M.abs bt_abs (ma_cons (me_v 4) ma_nil)) (me_pow me_int me_int) (nomark _)))))
  (mss_cons (ms_set (i := 5) SC.nd rfl (Or.inl rfl) (me_add (me_mul me_int (me_fn call_abs snd_abs rfl M.abs bt_abs (ma_cons (me_v 4) ma_nil))) (me_fnTy call_int1 snd_int rfl M.int bt_int (ma_cons (me_cmpO (op_lt.or op_lt_str) snd_lt (me_v 4) me_int (nomark _)) ma_nil))))
 (mss_cons (ms_put (me_div (me_v 5) (me_v 1)) (me_v 0) me_int)
 (mss_one (ms_ret (me_mod (me_v 5) (me_v 1))))))
  mss_nil)
 (mss_cons (ms_set (i := 6) SC.nd rfl (Or.inl rfl) (me_mod (me_pow (me_add (me_add (me_mod (me_v 4) me_int) (me_mul me_int (me_v 3))) me_int) me_int) me_int))
 (mss_cons (ms_set (i := 6) SC.nd rfl (Or.inl rfl) (me_mod (me_add (me_add (me_mul (me_v 6) (me_v 6)) (me_mul me_int (me_v 6))) (me_v 3)) me_int))
 (mss_one (ms_ret (me_mod (me_div (me_v 6) me_int) (me_v 1))))))))))))
theorem sc_law_signs : FnScope ["_law_some_here"] [] (defScope (top 7)) := ⟨rfl, rfl, rfl, by decide +kernel, rfl, by decide +kernel, by decide +kernel⟩
theorem m_law_signs {k : Nat} (cdv : Value) (A : Around) (outer : List Env) (s : Shared) (H : Hp) (E : XK) (hr : Room k (A.deeper (PyProof.Rows.envOfC "_law_signs" (defScope (top 7)) s.heap.objs.size f cdv))) : MSs (cxOf CX0 P w K mg base ["_law_some_here"] "_law_signs" (defScope (top 7)) f cdv A outer s H E).nox X0 (defBody (top 7)) (b_law_signs) :=
 have SC := sc_law_signs
 (mss_cons (ms_set (i := 0) SC.nd rfl (Or.inl rfl) me_str)
 (mss_one (ms_ret (me_add (me_v 0) me_str))))
theorem sc_law_some : FnScope ["_law_pen_here", "_law_rest", "_law_most", "_law_found", "_law_k", "_law_at"] ["_law_pen_here", "_law_rest", "_law_most"] (defScope (top 8)) := ⟨rfl, rfl, rfl, by decide +kernel, rfl, by decide +kernel, by decide +kernel⟩
theorem m_law_some {k : Nat} (M : Nm mg) {a_law_take : Addr} {d_law_take : FuncData} {k_law_take : Nat} {F_law_take : SF} (D_law_take : Dn P w K mg base k_law_take "_law_take" ["_law_pen_here", "_law_many"] (spOf K 2 F_law_take) a_law_take d_law_take) (h_law_take : k_law_take ≤ k) (cdv : Value) (A : Around) (outer : List Env) (s : Shared) (H : Hp) (E : XK) (hr : Room k (A.deeper (PyProof.Rows.envOfC "_law_some" (defScope (top 8)) s.heap.objs.size f cdv))) : MSs (cxOf CX0 P w K mg base ["_law_pen_here", "_law_rest", "_law_most", "_law_found", "_law_k", "_law_at"] "_law_some" (defScope (top 8)) f cdv A outer s H E).nox X0 (defBody (top 8)) (b_law_some F_law_take) :=
 have SC := sc_law_some
 (mss_cons (ms_set (i := 3) SC.nd rfl (Or.inl rfl) me_str)
 (mss_cons (ms_for PassesOwn.never rfl (mi_rng1 rfl M.range (ma_cons (me_add me_int (me_call D_law_take (hr.mono h_law_take) rfl (ma_cons (me_v 0) (ma_cons (me_v 2) ma_nil)))) ma_nil)) (mg_name (i := 4) SC.nd rfl (Or.inl rfl)) (mss_cons (ms_set (i := 5) SC.nd rfl (Or.inl rfl) (me_call D_law_take (hr.mono h_law_take) rfl (ma_cons (me_v 0) (ma_cons (me_fn (L2.CallR.or call_len_seq call_len_str) snd_len rfl M.len bt_len (ma_cons (me_v 1) ma_nil)) ma_nil))))
 (mss_cons (ms_set (i := 3) SC.nd rfl (Or.inl rfl) (me_add (me_v 3) (me_item (me_v 1) (me_v 5) (fun _ _ => rfl))))
 (mss_one (ms_set (i := 1) SC.nd rfl (Or.inl rfl) (me_add (me_slice2 (me_v 1) mo_none (mo_some (me_v 5))) (me_slice2 (me_v 1) (mo_some (me_add (me_v 5) me_int)) mo_none)))))))
 (mss_one (ms_ret (me_v 3)))))
theorem sc_law_shape : FnScope ["_law_pen_here", "_law_purse", "_law_deep", "_law_tongue", "_law_road", "_law_part", "_law_low", "_law_size", "_law_parts_here"] ["_law_pen_here", "_law_purse", "_law_deep", "_law_tongue"] (defScope (top 9)) := ⟨rfl, rfl, rfl, by decide +kernel, rfl, by decide +kernel, by decide +kernel⟩
theorem m_law_shape {k : Nat} (M : Nm mg) {a_law_shape : Addr} {d_law_shape : FuncData} {k_law_shape : Nat} {F_law_shape : SF} (D_law_shape : Dn P w K mg base k_law_shape "_law_shape" ["_law_pen_here", "_law_purse", "_law_deep", "_law_tongue"] (spOf K 4 F_law_shape) a_law_shape d_law_shape) (h_law_shape : k_law_shape ≤ k) {a_law_some : Addr} {d_law_some : FuncData} {k_law_some : Nat} {F_law_some : SF} (D_law_some : Dn P w K mg base k_law_some "_law_some" ["_law_pen_here", "_law_rest", "_law_most"] (spOf K 3 F_law_some) a_law_some d_law_some) (h_law_some : k_law_some ≤ k) {a_law_take : Addr} {d_law_take : FuncData} {k_law_take : Nat} {F_law_take : SF} (D_law_take : Dn P w K mg base k_law_take "_law_take" ["_law_pen_here", "_law_many"] (spOf K 2 F_law_take) a_law_take d_law_take) (h_law_take : k_law_take ≤ k) (cdv : Value) (A : Around) (outer : List Env) (s : Shared) (H : Hp) (E : XK) (hr : Room k (A.deeper (PyProof.Rows.envOfC "_law_shape" (defScope (top 9)) s.heap.objs.size f cdv))) : MSs (cxOf CX0 P w K mg base ["_law_pen_here", "_law_purse", "_law_deep", "_law_tongue", "_law_road", "_law_part", "_law_low", "_law_size", "_law_parts_here"] "_law_shape" (defScope (top 9)) f cdv A outer s H E).nox X0 (defBody (top 9)) (b_law_shape F_law_shape F_law_some F_law_take) :=
 have SC := sc_law_shape
 (mss_cons (ms_set (i := 4) SC.nd rfl (Or.inl rfl) (me_call D_law_take (hr.mono h_law_take) rfl (ma_cons (me_v 0) (ma_cons me_int ma_nil))))
 (mss_cons (ms_if (PW.pt (mw_and (mt_cmpO (op_eqD hr.u) snd_eqD (me_v 2) me_int (nomark _)) (mw_and1 (mt_cmpO (op_lt.or op_lt_str) snd_lt (me_v 4) me_int (nomark _)))))
  (mss_one (ms_set (i := 4) SC.nd rfl (Or.inl rfl) (me_add (me_v 4) me_int)))
  mss_nil)
 (mss_cons (ms_if (PW.pt (mw_and (mt_cmpO (op_eqD hr.u) snd_eqD (me_v 4) me_int (nomark _)) (mw_and1 (mt_cmpO (op_eqD hr.u) snd_eqD (me_call D_law_take (hr.mono h_law_take) rfl (ma_cons (me_v 0) (ma_cons me_int ma_nil))) me_int (nomark _)))))
  (mss_one (ms_ret (me_tup (ma_cons me_str (ma_cons (me_tup ma_nil) ma_nil)))))
  mss_nil)
 (mss_cons (ms_if (PW.pt (mw_or (mt_cmpO (op_eqD hr.u) snd_eqD (me_v 2) me_int (nomark _)) (mw_or (mt_cmpO (op_lt.or op_lt_str) snd_lt (me_item (me_v 1) me_int (fun _ _ => rfl)) me_int (nomark _)) (mw_or1 (mt_cmpO (op_lt.or op_lt_str) snd_lt (me_v 4) me_int (nomark _))))))
  (mss_one (ms_ret (me_tup (ma_cons me_str (ma_cons (me_call D_law_some (hr.mono h_law_some) rfl (ma_cons (me_v 0) (ma_cons (me_v 3) (ma_cons (me_fn (L2.CallR.or call_len_seq call_len_str) snd_len rfl M.len bt_len (ma_cons (me_v 3) ma_nil)) ma_nil)))) ma_nil)))))
  mss_nil)
 (mss_cons (ms_if (mt_cmpO (op_lt.or op_lt_str) snd_lt (me_v 4) me_int (nomark _))
  (mss_cons (ms_put (me_sub (me_item (me_v 1) me_int (fun _ _ => rfl)) me_int) (me_v 1) me_int)
 (mss_cons (ms_set (i := 5) SC.nd rfl (Or.inl rfl) (me_call D_law_shape (hr.mono h_law_shape) rfl (ma_cons (me_v 0) (ma_cons (me_v 1) (ma_cons (me_sub (me_v 2) me_int) (ma_cons (me_v 3) ma_nil))))))
 (mss_cons (ms_if (mt_cmpO (op_eqD hr.u) snd_eqD (me_v 4) me_int (nomark _))
  (mss_one (ms_ret (me_tup (ma_cons me_str (ma_cons (me_v 5) ma_nil)))))
  mss_nil)
 (mss_cons (ms_set (i := 6) SC.nd rfl (Or.inl rfl) (me_call D_law_take (hr.mono h_law_take) rfl (ma_cons (me_v 0) (ma_cons me_int ma_nil))))
 (mss_one (ms_ret (me_tup (ma_cons me_str (ma_cons (me_v 5) (ma_cons (me_v 6) (ma_cons (me_add (me_v 6) (me_call D_law_take (hr.mono h_law_take) rfl (ma_cons (me_v 0) (ma_cons (me_sub me_int (me_v 6)) ma_nil)))) ma_nil)))))))))))
  mss_nil)
 (mss_cons (ms_set (i := 7) SC.nd rfl (Or.inl rfl) (me_fn (call_min2 rfl) snd_min2 rfl M.min bt_min (ma_cons (me_item (me_v 1) me_int (fun _ _ => rfl)) (ma_cons (me_add me_int (me_call D_law_take (hr.mono h_law_take) rfl (ma_cons (me_v 0) (ma_cons (me_item (me_lst (ma_cons me_int (ma_cons me_int (ma_cons me_int ma_nil)))) (me_call D_law_take (hr.mono h_law_take) rfl (ma_cons (me_v 0) (ma_cons me_int ma_nil))) (fun _ _ => rfl)) ma_nil)))) ma_nil))))
 (mss_cons (ms_put (me_sub (me_item (me_v 1) me_int (fun _ _ => rfl)) (me_v 7)) (me_v 1) me_int)
 (mss_cons (ms_set (i := 8) SC.nd rfl (Or.inl rfl) (me_fnTy (L2.CallR.or call_tuple_of (call_tuple_s rfl)) snd_tuple rfl M.tuple bt_tuple (ma_cons (me_comp rfl (CSc.of (ts := ["_law_k"]) (fr := ["_law_pen_here", "_law_purse", "_law_deep", "_law_tongue"]) (ix := [0, 1, 2, 3]) rfl rfl rfl rfl (by intro p hp; simp only [List.mem_cons, List.not_mem_nil, or_false] at hp; rcases hp with rfl | rfl | rfl | rfl <;> rfl) rfl rfl rfl rfl) (mi_rng1 rfl M.range (ma_cons (me_v 7) ma_nil)) (fun _ _ _ _ => (pg_name (i := 0) (show (["_law_k", "_law_pen_here", "_law_purse", "_law_deep", "_law_tongue"] : List Str).Nodup by decide +kernel) rfl (Or.inl rfl) (.inr rfl))) tg_one (fun _ _ _ _ => (me_call D_law_shape (hr.mono h_law_shape) rfl (ma_cons (me_v 1) (ma_cons (me_v 2) (ma_cons (me_sub (me_v 3) me_int) (ma_cons (me_v 4) ma_nil))))))) ma_nil)))
 (mss_one (ms_ret (me_tup (ma_cons (me_item (me_lst (ma_cons me_str (ma_cons me_str ma_nil))) (me_fnTy call_int1 snd_int rfl M.int bt_int (ma_cons (me_cmpO op_gt snd_gt (me_v 4) me_int (nomark _)) ma_nil)) (fun _ _ => rfl)) (ma_cons (me_v 8) ma_nil)))))))))))))
theorem sc_law_inner : FnScope ["_law_shape_here"] ["_law_shape_here"] (defScope (top 10)) := ⟨rfl, rfl, rfl, by decide +kernel, rfl, by decide +kernel, by decide +kernel⟩
theorem m_law_inner {k : Nat} (cdv : Value) (A : Around) (outer : List Env) (s : Shared) (H : Hp) (E : XK) (hr : Room k (A.deeper (PyProof.Rows.envOfC "_law_inner" (defScope (top 10)) s.heap.objs.size f cdv))) : MSs (cxOf CX0 P w K mg base ["_law_shape_here"] "_law_inner" (defScope (top 10)) f cdv A outer s H E).nox X0 (defBody (top 10)) (b_law_inner) :=
 have SC := sc_law_inner
 (mss_cons (ms_if (mt_cmpO (op_eqD hr.u) snd_eqD (me_item (me_v 0) me_int (fun _ _ => rfl)) me_str (nomark _))
  (mss_one (ms_ret (me_tup ma_nil)))
  mss_nil)
 (mss_cons (ms_if (PW.pt (mw_or (mt_cmpO (op_eqD hr.u) snd_eqD (me_item (me_v 0) me_int (fun _ _ => rfl)) me_str (nomark _)) (mw_or1 (mt_cmpO (op_eqD hr.u) snd_eqD (me_item (me_v 0) me_int (fun _ _ => rfl)) me_str (nomark _)))))
  (mss_one (ms_ret (me_item (me_v 0) me_int (fun _ _ => rfl))))
  mss_nil)
 (mss_one (ms_ret (me_tup (ma_cons (me_item (me_v 0) me_int (fun _ _ => rfl)) ma_nil))))))
theorem sc_law_parts : FnScope ["_law_shape_here", "_law_found", "_law_part"] ["_law_shape_here"] (defScope (top 11)) := ⟨rfl, rfl, rfl, by decide +kernel, rfl, by decide +kernel, by decide +kernel⟩
theorem m_law_parts {k : Nat} {a_law_inner : Addr} {d_law_inner : FuncData} {k_law_inner : Nat} {F_law_inner : SF} (D_law_inner : Dn P w K mg base k_law_inner "_law_inner" ["_law_shape_here"] (spOf K 1 F_law_inner) a_law_inner d_law_inner) (h_law_inner : k_law_inner ≤ k) {a_law_parts : Addr} {d_law_parts : FuncData} {k_law_parts : Nat} {F_law_parts : SF} (D_law_parts : Dn P w K mg base k_law_parts "_law_parts" ["_law_shape_here"] (spOf K 1 F_law_parts) a_law_parts d_law_parts) (h_law_parts : k_law_parts ≤ k) (cdv : Value) (A : Around) (outer : List Env) (s : Shared) (H : Hp) (E : XK) (hr : Room k (A.deeper (PyProof.Rows.envOfC "_law_parts" (defScope (top 11)) s.heap.objs.size f cdv))) : MSs (cxOf CX0 P w K mg base ["_law_shape_here", "_law_found", "_law_part"] "_law_parts" (defScope (top 11)) f cdv A outer s H E).nox X0 (defBody (top 11)) (b_law_parts F_law_inner F_law_parts) :=
 have SC := sc_law_parts
 (mss_cons (ms_set (i := 1) SC.nd rfl (Or.inl rfl) (me_lst (ma_cons (me_v 0) ma_nil)))
 (mss_cons (ms_for PassesOwn.never rfl (mi_seq (me_call D_law_inner (hr.mono h_law_inner) rfl (ma_cons (me_v 0) ma_nil))) (mg_name (i := 2) SC.nd rfl (Or.inl rfl)) (mss_one (ms_set (i := 1) SC.nd rfl (Or.inl rfl) (me_add (me_v 1) (me_call D_law_parts (hr.mono h_law_parts) rfl (ma_cons (me_v 2) ma_nil))))))
 (mss_one (ms_ret (me_v 1)))))
theorem sc_law_same : FnScope ["_law_found", "_law_due", "_law_one", "_law_other"] ["_law_found", "_law_due"] (defScope (top 12)) := ⟨rfl, rfl, rfl, by decide +kernel, rfl, by decide +kernel, by decide +kernel⟩
theorem m_law_same {k : Nat} (M : Nm mg) {a_law_same : Addr} {d_law_same : FuncData} {k_law_same : Nat} {F_law_same : SF} (D_law_same : Dn P w K mg base k_law_same "_law_same" ["_law_found", "_law_due"] (spOf K 2 F_law_same) a_law_same d_law_same) (h_law_same : k_law_same ≤ k) (cdv : Value) (A : Around) (outer : List Env) (s : Shared) (H : Hp) (E : XK) (hr : Room k (A.deeper (PyProof.Rows.envOfC "_law_same" (defScope (top 12)) s.heap.objs.size f cdv))) : MSs (cxOf CX0 P w K mg base ["_law_found", "_law_due", "_law_one", "_law_other"] "_law_same" (defScope (top 12)) f cdv A outer s H E).nox X0 (defBody (top 12)) (b_law_same F_law_same) :=
 have SC := sc_law_same
 (mss_cons (ms_if (mt_val (me_fn call_isinst snd_isi rfl M.isinstance bt_isinstance (ma_cons (me_v 1) (ma_cons (me_ty rfl M.tuple bt_tuple) ma_nil))))
  (mss_cons (ms_if (PW.pt (mw_or (mt_not (mt_val (me_fn call_isinst snd_isi rfl M.isinstance bt_isinstance (ma_cons (me_v 0) (ma_cons (me_ty rfl M.tuple bt_tuple) ma_nil))))) (mw_or1 (mt_cmpO (op_neD hr.u) snd_neD (me_fn (L2.CallR.or call_len_seq call_len_str) snd_len rfl M.len bt_len (ma_cons (me_v 0) ma_nil)) (me_fn (L2.CallR.or call_len_seq call_len_str) snd_len rfl M.len bt_len (ma_cons (me_v 1) ma_nil)) (nomark _)))))
  (mss_one (ms_ret me_bl))
  mss_nil)
 (mss_cons (ms_for PassesOwn.never rfl (mi_zip rfl M.zip bt_zip (me_v 0) (me_v 1)) (mg_tup rfl (mgs_cons (mg_name (i := 2) SC.nd rfl (Or.inl rfl)) (mgs_cons (mg_name (i := 3) SC.nd rfl (Or.inl rfl)) mgs_nil))) (mss_one (ms_if (mt_not (mt_val (me_call D_law_same (hr.mono h_law_same) rfl (ma_cons (me_v 2) (ma_cons (me_v 3) ma_nil)))))
  (mss_one (ms_ret me_bl))
  mss_nil)))
 (mss_one (ms_ret me_bl))))
  mss_nil)
 (mss_cons (ms_if (mt_val (me_fn call_isinst snd_isi rfl M.isinstance bt_isinstance (ma_cons (me_v 1) (ma_cons (me_ty rfl M.str bt_str) ma_nil))))
  (mss_one (ms_ret (me_and (me_fn call_isinst snd_isi rfl M.isinstance bt_isinstance (ma_cons (me_v 0) (ma_cons (me_ty rfl M.str bt_str) ma_nil))) (me_one (me_cmpO (op_eqD hr.u) snd_eqD (me_v 0) (me_v 1) (nomark _))))))
  mss_nil)
 (mss_one (ms_ret (me_and (me_fn call_isinst snd_isi rfl M.isinstance bt_isinstance (ma_cons (me_v 0) (ma_cons (me_ty rfl M.int bt_int) ma_nil))) (me_and (me_not (me_fn call_isinst snd_isi rfl M.isinstance bt_isinstance (ma_cons (me_v 0) (ma_cons (me_ty rfl M.bool bt_bool) ma_nil)))) (me_one (me_cmpO (op_eqD hr.u) snd_eqD (me_v 0) (me_v 1) (nomark _)))))))))
theorem sc_law_weights : FnScope ["_law_shape_here", "_law_often", "_law_found", "_law_part"] ["_law_shape_here", "_law_often"] (defScope (top 13)) := ⟨rfl, rfl, rfl, by decide +kernel, rfl, by decide +kernel, by decide +kernel⟩
theorem m_law_weights {k : Nat} {a_law_inner : Addr} {d_law_inner : FuncData} {k_law_inner : Nat} {F_law_inner : SF} (D_law_inner : Dn P w K mg base k_law_inner "_law_inner" ["_law_shape_here"] (spOf K 1 F_law_inner) a_law_inner d_law_inner) (h_law_inner : k_law_inner ≤ k) {a_law_weights : Addr} {d_law_weights : FuncData} {k_law_weights : Nat} {F_law_weights : SF} (D_law_weights : Dn P w K mg base k_law_weights "_law_weights" ["_law_shape_here", "_law_often"] (spOf K 2 F_law_weights) a_law_weights d_law_weights) (h_law_weights : k_law_weights ≤ k) (cdv : Value) (A : Around) (outer : List Env) (s : Shared) (H : Hp) (E : XK) (hr : Room k (A.deeper (PyProof.Rows.envOfC "_law_weights" (defScope (top 13)) s.heap.objs.size f cdv))) : MSs (cxOf CX0 P w K mg base ["_law_shape_here", "_law_often", "_law_found", "_law_part"] "_law_weights" (defScope (top 13)) f cdv A outer s H E).nox X0 (defBody (top 13)) (b_law_weights F_law_inner F_law_weights) :=
 have SC := sc_law_weights
 (mss_cons (ms_if (mt_cmpO (op_eqD hr.u) snd_eqD (me_item (me_v 0) me_int (fun _ _ => rfl)) me_str (nomark _))
  (mss_one (ms_ret (me_lst (ma_cons (me_v 1) ma_nil))))
  mss_nil)
 (mss_cons (ms_if (mt_cmpO (op_eqD hr.u) snd_eqD (me_item (me_v 0) me_int (fun _ _ => rfl)) me_str (nomark _))
  (mss_one (ms_set (i := 1) SC.nd rfl (Or.inl rfl) (me_mul (me_v 1) (me_item (me_v 0) me_int (fun _ _ => rfl)))))
  mss_nil)
 (mss_cons (ms_set (i := 2) SC.nd rfl (Or.inl rfl) (me_lst ma_nil))
 (mss_cons (ms_for PassesOwn.never rfl (mi_seq (me_call D_law_inner (hr.mono h_law_inner) rfl (ma_cons (me_v 0) ma_nil))) (mg_name (i := 3) SC.nd rfl (Or.inl rfl)) (mss_one (ms_set (i := 2) SC.nd rfl (Or.inl rfl) (me_add (me_v 2) (me_call D_law_weights (hr.mono h_law_weights) rfl (ma_cons (me_v 3) (ma_cons (me_v 1) ma_nil)))))))
 (mss_one (ms_ret (me_v 2)))))))
theorem sc_law_right : FnScope ["_law_shape_here", "_law_due", "_law_found", "_law_at", "_law_size"] ["_law_shape_here"] (defScope (top 14)) := ⟨rfl, rfl, rfl, by decide +kernel, rfl, by decide +kernel, by decide +kernel⟩
theorem m_law_right {k : Nat} (M : Nm mg) {a_law_parts : Addr} {d_law_parts : FuncData} {k_law_parts : Nat} {F_law_parts : SF} (D_law_parts : Dn P w K mg base k_law_parts "_law_parts" ["_law_shape_here"] (spOf K 1 F_law_parts) a_law_parts d_law_parts) (h_law_parts : k_law_parts ≤ k) {a_law_same : Addr} {d_law_same : FuncData} {k_law_same : Nat} {F_law_same : SF} (D_law_same : Dn P w K mg base k_law_same "_law_same" ["_law_found", "_law_due"] (spOf K 2 F_law_same) a_law_same d_law_same) (h_law_same : k_law_same ≤ k) {a_law_weights : Addr} {d_law_weights : FuncData} {k_law_weights : Nat} {F_law_weights : SF} (D_law_weights : Dn P w K mg base k_law_weights "_law_weights" ["_law_shape_here", "_law_often"] (spOf K 2 F_law_weights) a_law_weights d_law_weights) (h_law_weights : k_law_weights ≤ k) {a_parts_of : Addr} {d_parts_of : FuncData} {k_parts_of : Nat} {F_parts_of : SF} (D_parts_of : Dn P w K mg base k_parts_of "parts_of" ["shape"] (spOf K 1 F_parts_of) a_parts_of d_parts_of) (h_parts_of : k_parts_of ≤ k) {a_weight : Addr} {d_weight : FuncData} {k_weight : Nat} {F_weight : SF} (D_weight : Dn P w K mg base k_weight "weight" ["shape"] (spOf K 1 F_weight) a_weight d_weight) (h_weight : k_weight ≤ k) (cdv : Value) (A : Around) (outer : List Env) (s : Shared) (H : Hp) (E : XK) (hr : Room k (A.deeper (PyProof.Rows.envOfC "_law_right" (defScope (top 14)) s.heap.objs.size f cdv))) : MSs (cxOf CX0 P w K mg base ["_law_shape_here", "_law_due", "_law_found", "_law_at", "_law_size"] "_law_right" (defScope (top 14)) f cdv A outer s H E).nox X0 (defBody (top 14)) (b_law_right F_law_parts F_law_same F_law_weights F_parts_of F_weight) :=
 have SC := sc_law_right
 (mss_cons (ms_set (i := 1) SC.nd rfl (Or.inl rfl) (me_call D_law_parts (hr.mono h_law_parts) rfl (ma_cons (me_v 0) ma_nil)))
 (mss_cons (ms_if (mt_not (mt_val (me_call D_law_same (hr.mono h_law_same) rfl (ma_cons (me_call D_weight (hr.mono h_weight) rfl (ma_cons (me_v 0) ma_nil)) (ma_cons (me_fn (call_sum_l rfl) snd_sum rfl M.sum bt_sum (ma_cons (me_call D_law_weights (hr.mono h_law_weights) rfl (ma_cons (me_v 0) (ma_cons me_int ma_nil))) ma_nil)) ma_nil)))))
  (mss_one (ms_ret me_bl))
  mss_nil)
 (mss_cons (ms_set (i := 2) SC.nd rfl (Or.inl rfl) (me_call D_parts_of (hr.mono h_parts_of) rfl (ma_cons (me_v 0) ma_nil)))
 (mss_cons (ms_if (mt_not (mt_val (me_call D_law_same (hr.mono h_law_same) rfl (ma_cons (me_v 2) (ma_cons (me_fnTy (L2.CallR.or call_tuple_of (call_tuple_s rfl)) snd_tuple rfl M.tuple bt_tuple (ma_cons (me_v 1) ma_nil)) ma_nil)))))
  (mss_one (ms_ret me_bl))
  mss_nil)
 (mss_cons (ms_for PassesOwn.never rfl (mi_rng1 rfl M.range (ma_cons (me_fn (L2.CallR.or call_len_seq call_len_str) snd_len rfl M.len bt_len (ma_cons (me_v 1) ma_nil)) ma_nil)) (mg_name (i := 3) SC.nd rfl (Or.inl rfl)) (mss_cons (ms_set (i := 4) SC.nd rfl (Or.inl rfl) (me_fn (L2.CallR.or call_len_seq call_len_str) snd_len rfl M.len bt_len (ma_cons (me_call D_law_parts (hr.mono h_law_parts) rfl (ma_cons (me_item (me_v 1) (me_v 3) (fun _ _ => rfl)) ma_nil)) ma_nil)))
 (mss_one (ms_if (mt_cmpO (op_neD hr.u) snd_neD (me_call D_parts_of (hr.mono h_parts_of) rfl (ma_cons (me_item (me_v 2) (me_v 3) (fun _ _ => rfl)) ma_nil)) (me_slice2 (me_v 2) (mo_some (me_v 3)) (mo_some (me_add (me_v 3) (me_v 4)))) (nomark _))
  (mss_one (ms_ret me_bl))
  mss_nil))))
 (mss_one (ms_ret (me_call D_law_same (hr.mono h_law_same) rfl (ma_cons (me_call D_weight (hr.mono h_weight) rfl (ma_cons (me_v 0) ma_nil)) (ma_cons (me_fn (call_sum_l rfl) snd_sum rfl M.sum bt_sum (ma_cons (me_call D_law_weights (hr.mono h_law_weights) rfl (ma_cons (me_v 0) (ma_cons me_int ma_nil))) ma_nil)) ma_nil))))))))))
theorem sc_law : FnScope ["_law_script", "_law_pen_here", "_law_tongue", "_law_shapes", "_law_low", "_law_high", "_law_one", "_law_shape_here"] ["_law_script"] (defScope (top 15)) := ⟨rfl, rfl, rfl, by decide +kernel, rfl, by decide +kernel, by decide +kernel⟩
theorem m_law {k : Nat} (M : Nm mg) {a_law_parts : Addr} {d_law_parts : FuncData} {k_law_parts : Nat} {F_law_parts : SF} (D_law_parts : Dn P w K mg base k_law_parts "_law_parts" ["_law_shape_here"] (spOf K 1 F_law_parts) a_law_parts d_law_parts) (h_law_parts : k_law_parts ≤ k) {a_law_pen : Addr} {d_law_pen : FuncData} {k_law_pen : Nat} {F_law_pen : SF} (D_law_pen : Dn P w K mg base k_law_pen "_law_pen" ["_law_script"] (spOf K 1 F_law_pen) a_law_pen d_law_pen) (h_law_pen : k_law_pen ≤ k) {a_law_right : Addr} {d_law_right : FuncData} {k_law_right : Nat} {F_law_right : SF} (D_law_right : Dn P w K mg base k_law_right "_law_right" ["_law_shape_here"] (spOf K 1 F_law_right) a_law_right d_law_right) (h_law_right : k_law_right ≤ k) {a_law_same : Addr} {d_law_same : FuncData} {k_law_same : Nat} {F_law_same : SF} (D_law_same : Dn P w K mg base k_law_same "_law_same" ["_law_found", "_law_due"] (spOf K 2 F_law_same) a_law_same d_law_same) (h_law_same : k_law_same ≤ k) {a_law_shape : Addr} {d_law_shape : FuncData} {k_law_shape : Nat} {F_law_shape : SF} (D_law_shape : Dn P w K mg base k_law_shape "_law_shape" ["_law_pen_here", "_law_purse", "_law_deep", "_law_tongue"] (spOf K 4 F_law_shape) a_law_shape d_law_shape) (h_law_shape : k_law_shape ≤ k) {a_law_signs : Addr} {d_law_signs : FuncData} {k_law_signs : Nat} {F_law_signs : SF} (D_law_signs : Dn P w K mg base k_law_signs "_law_signs" [] (spOf K 0 F_law_signs) a_law_signs d_law_signs) (h_law_signs : k_law_signs ≤ k) {a_law_some : Addr} {d_law_some : FuncData} {k_law_some : Nat} {F_law_some : SF} (D_law_some : Dn P w K mg base k_law_some "_law_some" ["_law_pen_here", "_law_rest", "_law_most"] (spOf K 3 F_law_some) a_law_some d_law_some) (h_law_some : k_law_some ≤ k) {a_law_take : Addr} {d_law_take : FuncData} {k_law_take : Nat} {F_law_take : SF} (D_law_take : Dn P w K mg base k_law_take "_law_take" ["_law_pen_here", "_law_many"] (spOf K 2 F_law_take) a_law_take d_law_take) (h_law_take : k_law_take ≤ k) {a_parts_of : Addr} {d_parts_of : FuncData} {k_parts_of : Nat} {F_parts_of : SF} (D_parts_of : Dn P w K mg base k_parts_of "parts_of" ["shape"] (spOf K 1 F_parts_of) a_parts_of d_parts_of) (h_parts_of : k_parts_of ≤ k) {a_weight : Addr} {d_weight : FuncData} {k_weight : Nat} {F_weight : SF} (D_weight : Dn P w K mg base k_weight "weight" ["shape"] (spOf K 1 F_weight) a_weight d_weight) (h_weight : k_weight ≤ k) (cdv : Value) (A : Around) (outer : List Env) (s : Shared) (H : Hp) (E : XK) (hr : Room k (A.deeper (PyProof.Rows.envOfC "law" (defScope (top 15)) s.heap.objs.size f cdv))) : MSs (cxOf CX0 P w K mg base ["_law_script", "_law_pen_here", "_law_tongue", "_law_shapes", "_law_low", "_law_high", "_law_one", "_law_shape_here"] "law" (defScope (top 15)) f cdv A outer s H E).nox X0 (defBody (top 15)) (b_law F_law_parts F_law_pen F_law_right F_law_same F_law_shape F_law_signs F_law_some F_law_take F_parts_of F_weight) :=
 have SC := sc_law
 (mss_cons (ms_set (i := 1) SC.nd rfl (Or.inr rfl) (me_call D_law_pen (hr.mono h_law_pen) rfl (ma_cons (me_v 0) ma_nil)))
 (mss_cons (ms_set (i := 2) SC.nd rfl (Or.inr rfl) (me_call D_law_some (hr.mono h_law_some) rfl (ma_cons (me_v 1) (ma_cons (me_call0 D_law_signs (hr.mono h_law_signs) rfl) (ma_cons me_int ma_nil)))))
 (mss_cons (ms_set (i := 3) SC.nd rfl (Or.inl rfl) (me_lst (ma_cons (me_call D_law_shape (hr.mono h_law_shape) rfl (ma_cons (me_v 1) (ma_cons (me_lst (ma_cons me_int ma_nil)) (ma_cons me_int (ma_cons (me_v 2) ma_nil))))) ma_nil)))
 (mss_cons (ms_set (i := 3) SC.nd rfl (Or.inl rfl) (me_add (me_v 3) (me_comp rfl (CSc.of (ts := ["_law_k"]) (fr := ["_law_pen_here", "_law_tongue"]) (ix := [1, 2]) rfl rfl rfl rfl (by intro p hp; simp only [List.mem_cons, List.not_mem_nil, or_false] at hp; rcases hp with rfl | rfl <;> rfl) rfl rfl rfl rfl) (mi_rng1 rfl M.range (ma_cons me_int ma_nil)) (fun _ _ _ _ => (pg_name (i := 0) (show (["_law_k", "_law_pen_here", "_law_tongue"] : List Str).Nodup by decide +kernel) rfl (Or.inl rfl) (.inr rfl))) tg_one (fun _ _ _ _ => (me_call D_law_shape (hr.mono h_law_shape) rfl (ma_cons (me_v 1) (ma_cons (me_lst (ma_cons me_int ma_nil)) (ma_cons me_int (ma_cons (me_v 2) ma_nil)))))))))
 (mss_cons (ms_set (i := 4) SC.nd rfl (Or.inl rfl) (me_call D_law_take (hr.mono h_law_take) rfl (ma_cons (me_v 1) (ma_cons me_int ma_nil))))
 (mss_cons (ms_set (i := 5) SC.nd rfl (Or.inl rfl) (me_add (me_v 4) (me_call D_law_take (hr.mono h_law_take) rfl (ma_cons (me_v 1) (ma_cons (me_sub me_int (me_v 4)) ma_nil)))))
 (mss_cons (ms_set (i := 6) SC.nd rfl (Or.inl rfl) (me_item (me_v 3) (me_add me_int (me_call D_law_take (hr.mono h_law_take) rfl (ma_cons (me_v 1) (ma_cons me_int ma_nil)))) (fun _ _ => rfl)))
 (mss_cons (ms_set (i := 3) SC.nd rfl (Or.inl rfl) (me_add (me_v 3) (me_lst (ma_cons (me_tup (ma_cons me_str (ma_cons (me_v 6) ma_nil))) (ma_cons (me_tup (ma_cons me_str (ma_cons (me_v 6) (ma_cons (me_v 4) (ma_cons (me_v 5) ma_nil))))) (ma_cons (me_tup (ma_cons me_str (ma_cons (me_tup (ma_cons me_str (ma_cons (me_v 6) (ma_cons me_int (ma_cons (me_v 5) ma_nil))))) (ma_cons (me_v 4) (ma_cons (me_v 5) ma_nil))))) ma_nil))))))
 (mss_cons (ms_set (i := 3) SC.nd rfl (Or.inl rfl) (me_add (me_v 3) (me_lst (ma_cons (me_tup (ma_cons me_str (ma_cons (me_fnTy (L2.CallR.or call_tuple_of (call_tuple_s rfl)) snd_tuple rfl M.tuple bt_tuple (ma_cons (me_slice2 (me_v 3) (mo_some me_int) (mo_some me_int)) ma_nil)) ma_nil))) (ma_cons (me_tup (ma_cons me_str (ma_cons (me_slice2 (me_tup (ma_cons (me_item (me_v 3) me_int (fun _ _ => rfl)) (ma_cons (me_item (me_v 3) me_int (fun _ _ => rfl)) (ma_cons (me_v 6) ma_nil)))) mo_none (mo_some (me_add me_int (me_call D_law_take (hr.mono h_law_take) rfl (ma_cons (me_v 1) (ma_cons me_int ma_nil)))))) ma_nil))) ma_nil)))))
 (mss_cons (ms_for PassesOwn.never rfl (mi_seq (me_v 3)) (mg_name (i := 7) SC.nd rfl (Or.inl rfl)) (mss_one (ms_if (PW.pt (mw_and (mt_cmpO (op_lt.or op_lt_str) snd_lt (me_fn (L2.CallR.or call_len_seq call_len_str) snd_len rfl M.len bt_len (ma_cons (me_call D_law_parts (hr.mono h_law_parts) rfl (ma_cons (me_v 7) ma_nil)) ma_nil)) me_int (nomark _)) (mw_and1 (mt_not (mt_val (me_call D_law_right (hr.mono h_law_right) rfl (ma_cons (me_v 7) ma_nil)))))))
  (mss_one (ms_ret me_bl))
  mss_nil)))
 (mss_one (ms_ret (me_and (me_call D_law_right (hr.mono h_law_right) rfl (ma_cons (me_item (me_v 3) me_int (fun _ _ => rfl)) ma_nil)) (me_and (me_cmpO (op_eqD hr.u) snd_eqD (me_call D_weight (hr.mono h_weight) rfl (ma_cons (me_tup (ma_cons me_str (ma_cons (me_tup ma_nil) ma_nil))) ma_nil)) me_int (nomark _)) (me_one (me_call D_law_same (hr.mono h_law_same) rfl (ma_cons (me_call D_parts_of (hr.mono h_parts_of) rfl (ma_cons (me_tup (ma_cons me_str (ma_cons (me_tup ma_nil) ma_nil))) ma_nil)) (ma_cons (me_tup (ma_cons (me_tup (ma_cons me_str (ma_cons (me_tup ma_nil) ma_nil))) ma_nil)) ma_nil))))))))))))))))))
end
end K05

set_option Elab.async false
set_option linter.all false
set_option maxRecDepth 100000
set_option maxHeartbeats 4000000
/-! Reckoning step by step: each rule tells a term's worth from its parts' worth. -/
namespace MI
open PySem PySem.Spec L2
section
variable {τ τ1 τ2 : Sd} {h h1 h2 h3 h4 : Hd} {d d1 d2 d3 x y z : D} {ds : List D} {r : R D} {q : Fl} {f f' f1 f2 f3 : SE} {g : D → D → Hd → R D} {g1 : D → Hd → R D} {ga : List D → Hd → R D} {k : SA} {c c' : ST} {b b' : Bool} {s s' : SS} {i n : Nat} {rb : R Bool}
theorem e_v (e : τ[i]? = some (some d)) : sV i τ h = .ok d h := by rw [sV, e]
theorem e_c : sC d τ h = .ok d h := rfl
theorem e_2 (e1 : f1 τ h = .ok x h1) (e2 : f2 τ h1 = .ok y h2) (e3 : g x y h2 = r) : s2 g f1 f2 τ h = r := by rw [s2, e1]; show (f2 τ h1).bind _ = r; rw [e2]; exact e3
theorem e_1 (e1 : f1 τ h = .ok x h1) (e3 : g1 x h1 = r) : s1 g1 f1 τ h = r := by rw [s1, e1]; exact e3
theorem e_a (e1 : k τ h = .ok ds h1) (e3 : ga ds h1 = r) : sA ga k τ h = r := by rw [sA, e1]; exact e3
theorem e_nil : sNil τ h = .ok [] h := rfl
theorem e_cons (e1 : f τ h = .ok x h1) (e2 : k τ h1 = .ok ds h2) : sCons f k τ h = .ok (x :: ds) h2 := by rw [sCons, e1]; show (k τ h1).bind _ = _; rw [e2]; rfl
theorem e_call {F : SF} (e : ds.length = n) (e2 : F ds h = r) : sN n F ds h = r := by rw [sN, if_pos e]; exact e2
theorem e_T (e1 : f τ h = .ok (.bl b) h1) : sT f τ h = .ok b h1 := by rw [sT, e1]; rfl
theorem e_tru (e1 : f τ h = .ok x h1) (e2 : tru x h1 = rb) : sTru f τ h = rb := by rw [sTru, e1]; exact e2
theorem e_not (e1 : c τ h = .ok b h1) : sNot c τ h = .ok (!b) h1 := by rw [sNot, e1]; rfl
theorem e_andT (e1 : c τ h = .ok true h1) (e2 : c' τ h1 = rb) : sAnd c c' τ h = rb := by rw [sAnd, e1]; exact e2
theorem e_andF (e1 : c τ h = .ok false h1) : sAnd c c' τ h = .ok false h1 := by rw [sAnd, e1]; rfl
theorem e_orT (e1 : c τ h = .ok true h1) : sOr c c' τ h = .ok true h1 := by rw [sOr, e1]; rfl
theorem e_orF (e1 : c τ h = .ok false h1) (e2 : c' τ h1 = rb) : sOr c c' τ h = rb := by rw [sOr, e1]; exact e2
theorem e_and (e1 : c τ h = .ok b h1) (e2 : c' τ h1 = .ok b' h1) : sAnd c c' τ h = .ok (b && b') h1 := by cases b; exact e_andF e1; exact (e_andT e1 e2)
theorem e_or (e1 : c τ h = .ok b h1) (e2 : c' τ h1 = .ok b' h1) : sOr c c' τ h = .ok (b || b') h1 := by cases b; exact e_orF e1 e2; exact (e_orT e1)
theorem e_andVT (e1 : f τ h = .ok (.bl true) h1) (e2 : f' τ h1 = r) : sAndV f f' τ h = r := by rw [sAndV, e1]; exact e2
theorem e_andVF (e1 : f τ h = .ok (.bl false) h1) : sAndV f f' τ h = .ok (.bl false) h1 := by rw [sAndV, e1]; rfl
theorem e_orVT (e1 : f τ h = .ok (.bl true) h1) : sOrV f f' τ h = .ok (.bl true) h1 := by rw [sOrV, e1]; rfl
theorem e_orVF (e1 : f τ h = .ok (.bl false) h1) (e2 : f' τ h1 = r) : sOrV f f' τ h = r := by rw [sOrV, e1]; exact e2
theorem e_notV (e1 : f τ h = .ok (.bl b) h1) : sNotV f τ h = .ok (.bl (!b)) h1 := by rw [sNotV, e1]; rfl
theorem e_ifT (e1 : c τ h = .ok true h1) (e2 : f τ h1 = r) : sIfE c f f' τ h = r := by rw [sIfE, e1]; exact e2
theorem e_ifF (e1 : c τ h = .ok false h1) (e2 : f' τ h1 = r) : sIfE c f f' τ h = r := by rw [sIfE, e1]; exact e2
theorem e_oN : oN τ h = .ok none h := rfl
theorem e_oS {j : Int} (e : f τ h = .ok (.int j) h1) : oS f τ h = .ok (some j) h1 := by rw [oS, e]; rfl
theorem e_sl {l u : SO} {lo hi : Option Int} (e1 : f τ h = .ok x h1) (e2 : l τ h1 = .ok lo h2) (e3 : u τ h2 = .ok hi h3) (e4 : gSl2 x lo hi h3 = r) : sSl2 f l u τ h = r := by
  rw [sSl2, e1]; show (l τ h1).bind _ = r; rw [e2]; show (u τ h2).bind _ = r; rw [e3]; exact e4
/-! statements -/
theorem t_seq (e : s τ h = .nx τ1 h1) (e2 : s' τ1 h1 = q) : sSeq s s' τ h = q := by rw [sSeq, e]; exact e2
theorem t_seqR (e : s τ h = .rt d h1) : sSeq s s' τ h = .rt d h1 := by rw [sSeq, e]
theorem t_nx : sNx τ h = .nx τ h := rfl
theorem t_set (e : f τ h = .ok d h1) : sSet i f τ h = .nx (τ.set i (some d)) h1 := by rw [sSet, e]; rfl
theorem t_ret (e : f τ h = .ok d h1) : sRet f τ h = .rt d h1 := by rw [sRet, e]; rfl
theorem t_ret2 {d' : D} {h1' : Hd} (e : f τ h = .ok d h1) (e1 : d = d') (e2 : h1 = h1') : sRet f τ h = .rt d' h1' := by rw [sRet, e, ← e1, ← e2]; rfl
theorem t_set2 {τ' : Sd} {h1' : Hd} (e : f τ h = .ok d h1) (e1 : τ.set i (some d) = τ') (e2 : h1 = h1') : sSet i f τ h = .nx τ' h1' := by rw [sSet, e, ← e1, ← e2]; rfl
theorem t_drop (e : f τ h = .ok d h1) : sDrop f τ h = .nx τ h1 := by rw [sDrop, e]; rfl
theorem t_ifT (e : c τ h = .ok true h1) (e2 : s τ h1 = q) : sIf c s s' τ h = q := by rw [sIf, e]; exact e2
theorem t_ifF (e : c τ h = .ok false h1) (e2 : s' τ h1 = q) : sIf c s s' τ h = q := by rw [sIf, e]; exact e2
theorem t_put (e1 : f1 τ h = .ok x h1) (e2 : f2 τ h1 = .ok y h2) (e3 : f3 τ h2 = .ok z h3) (e4 : put y z x h3 = some h4) : sPut f1 f2 f3 τ h = .nx τ h4 := by
  rw [sPut, e1]; show (f2 τ h1).fl _ = _; rw [e2]; show (f3 τ h2).fl _ = _; rw [e3]; show (match put y z x h3 with | some h4 => Fl.nx τ h4 | none => .no) = _; rw [e4]
theorem t_for {fi : SI} {g : SG} {it : Itm} (e : fi τ h = .ok it h1) (e2 : forL it.ck g s it.xs τ h1 = q) : sFor fi g s τ h = q := by rw [sFor, e]; exact e2
theorem body_rt {a : List D} (e : s (startD n a) h = .rt d h1) : bodyR s n a h = .ok d h1 := by rw [bodyR, e]
end
theorem gc_len {F : SF} {ds : List D} {h h1 : Hd} {d : D} (e : F ds h = .ok d h1) (l : h1.length = h.length) : gcF F ds h = .ok d h1 := by
  unfold gcF
  rw [e]
  dsimp only
  split
  · rw [← l, List.take_length]
  · rfl
theorem forL_all {ck : Hd → Prop} {g : SG} {b : SS} (all : List D) (I : List D → Sd → Hd → Prop) (c : ∀ pre τ h, I pre τ h → ck h)
    (st : ∀ pre x post τ h, all = pre ++ x :: post → I pre τ h → ∃ τ1 h1, g x τ h = .nx τ1 h1 ∧ ∃ τ2 h2, b τ1 h1 = .nx τ2 h2 ∧ I (pre ++ [x]) τ2 h2) :
    ∀ (xs pre : List D) (τ : Sd) (h : Hd), all = pre ++ xs → I pre τ h → ∃ τ' h', forL ck g b xs τ h = .nx τ' h' ∧ I all τ' h'
  | [], pre, τ, h, e, i0 => ⟨τ, h, by rw [forL, if_pos (c _ _ _ i0)], by rw [e, List.append_nil]; exact i0⟩
  | x :: xs, pre, τ, h, e, i0 => by
    obtain ⟨τ1, h1, e1, τ2, h2, e2, i2⟩ := st pre x xs τ h e i0
    obtain ⟨τ', h', e3, i3⟩ := forL_all all I c st xs (pre ++ [x]) τ2 h2 (by rw [e]; simp) i2
    refine ⟨τ', h', ?_, i3⟩
    rw [forL, if_pos (c _ _ _ i0), e1]
    dsimp only
    rw [e2]
    exact e3
theorem mapR_all {ck : Hd → Prop} {f : D → Hd → R D} (all : List D) (I : List D → List D → Hd → Prop) (c : ∀ pre ys h, I pre ys h → ck h)
    (st : ∀ pre x post ys h, all = pre ++ x :: post → I pre ys h → ∃ y h', f x h = .ok y h' ∧ I (pre ++ [x]) (ys ++ [y]) h') :
    ∀ (xs pre ys : List D) (h : Hd), all = pre ++ xs → I pre ys h → ∃ zs h', mapR ck f xs h = .ok zs h' ∧ I all (ys ++ zs) h'
  | [], pre, ys, h, e, i0 => ⟨[], h, by rw [mapR, if_pos (c _ _ _ i0)], by rw [e, List.append_nil, List.append_nil]; exact i0⟩
  | x :: xs, pre, ys, h, e, i0 => by
    obtain ⟨y, h1, e1, i1⟩ := st pre x xs ys h e i0
    obtain ⟨zs, h', e2, i2⟩ := mapR_all all I c st xs (pre ++ [x]) (ys ++ [y]) h1 (by rw [e]; simp) i1
    refine ⟨y :: zs, h', ?_, by simpa using i2⟩
    rw [mapR, if_pos (c _ _ _ i0), e1]
    show (mapR ck f xs h1).bind _ = _
    rw [e2]; rfl
theorem e_comp {fi : SI} {t : D → Option Sd} {fe : SE} {ix : List Nat} {τ : Sd} {h h1 h2 : Hd} {it : Itm} {ys : List D} (e : fi τ h = .ok it h1) (l : it.xs.length ≤ LINE) (e2 : mapR it.ck (bindT t fe (frs' ix τ)) it.xs h1 = .ok ys h2) : sComp fi t fe ix τ h = .ok (.ref h2.length) (h2 ++ [.lst ys]) := by
  rw [sComp, e]
  show (if it.xs.length ≤ LINE then _ else _) = _
  rw [if_pos l, e2]; rfl
theorem e_rg1 {k : SA} {τ : Sd} {h h1 : Hd} {j : Int} (e : k τ h = .ok [.int j] h1) (b : B62 j) : sRg gRng1 k τ h = .ok ⟨rng 0 j.toNat, fun _ => True⟩ h1 := by
  rw [sRg, e]
  show gRng1 [.int j] h1 = _
  rw [gRng1, if_pos b]
theorem e_it {f : SE} {τ : Sd} {h h1 : Hd} {d : D} {r : R Itm} (e : f τ h = .ok d h1) (e2 : itOf d h1 = r) : sIt f τ h = r := by rw [sIt, e]; exact e2
end MI

set_option Elab.async false
set_option linter.all false
set_option maxRecDepth 100000
set_option maxHeartbeats 4000000
/-! The pen of the laws of shapes: what it draws, as plain functions. -/
namespace PEN
open PySem PySem.Spec L2 MI
noncomputable def b_pen : SS :=
 (sRet (sA gLst (sCons (sSl2 (sV 0) oN (oS (sC (.int 63)))) (sCons (sC (.int 0)) (sCons (sC (.int 0)) sNil)))))
noncomputable def b_take : SS :=
 (sSeq (sIf (sT (s2 gGt (s2 gIx (sV 0) (sC (.int 2))) (sC (.int 0))))
  (sSeq (sSet 2 (s2 gMod (s2 gIx (sV 0) (sC (.int 2))) (sV 1)))
 (sSeq (sPut (s2 gDiv (s2 gIx (sV 0) (sC (.int 2))) (sV 1)) (sV 0) (sC (.int 2)))
 (sRet (sV 2))))
  sNx)
 (sSeq (sSet 3 (s2 gIx (sV 0) (sC (.int 1))))
 (sSeq (sPut (s2 gAdd (sV 3) (sC (.int 1))) (sV 0) (sC (.int 1)))
 (sSeq (sSet 4 (sC (.int 5)))
 (sSeq (sIf (sT (s2 gGt (sA gLen (sCons (s2 gIx (sV 0) (sC (.int 0))) sNil)) (sC (.int 0))))
  (sSet 4 (s2 gIx (s2 gIx (sV 0) (sC (.int 0))) (s2 gMod (sV 3) (sA gLen (sCons (s2 gIx (sV 0) (sC (.int 0))) sNil)))))
  sNx)
 (sSeq (sIf (sAnd (sT (s2 gLt (sV 3) (sA gLen (sCons (s2 gIx (sV 0) (sC (.int 0))) sNil)))) (sT (s2 gGe (sA gAbs (sCons (sV 4) sNil)) (s2 gPow (sC (.int 10)) (sC (.int 18))))))
  (sSeq (sSet 5 (s2 gAdd (s2 gMul (sC (.int 2)) (sA gAbs (sCons (sV 4) sNil))) (sA gInt (sCons (s2 gLt (sV 4) (sC (.int 0))) sNil))))
 (sSeq (sPut (s2 gDiv (sV 5) (sV 1)) (sV 0) (sC (.int 2)))
 (sRet (s2 gMod (sV 5) (sV 1)))))
  sNx)
 (sSeq (sSet 6 (s2 gMod (s2 gPow (s2 gAdd (s2 gAdd (s2 gMod (sV 4) (sC (.int 2147483587))) (s2 gMul (sC (.int 40709)) (sV 3))) (sC (.int 31))) (sC (.int 3))) (sC (.int 2147483647))))
 (sSeq (sSet 6 (s2 gMod (s2 gAdd (s2 gAdd (s2 gMul (sV 6) (sV 6)) (s2 gMul (sC (.int 48271)) (sV 6))) (sV 3)) (sC (.int 2147483629))))
 (sRet (s2 gMod (s2 gDiv (sV 6) (sC (.int 64))) (sV 1)))))))))))
noncomputable def b_signs : SS :=
 (sSeq (sSet 0 (sC (.str " !\"#$&'()*+,-./0123456789:;<=>?@ABCDEFGHIJKLMNOPQRSTUVWXYZ[\\]^_`")))
 (sRet (s2 gAdd (sV 0) (sC (.str "abcdefghijklmnopqrstuvwxyz{|}~\n")))))
noncomputable def b_some (F_law_take : SF) : SS :=
 (sSeq (sSet 3 (sC (.str "")))
 (sSeq (sFor (sRg gRng1 (sCons (s2 gAdd (sC (.int 1)) (sA (sN 2 F_law_take) (sCons (sV 0) (sCons (sV 2) sNil)))) sNil)) (kN 4) (sSeq (sSet 5 (sA (sN 2 F_law_take) (sCons (sV 0) (sCons (sA gLen (sCons (sV 1) sNil)) sNil))))
 (sSeq (sSet 3 (s2 gAdd (sV 3) (s2 gIx (sV 1) (sV 5))))
 (sSet 1 (s2 gAdd (sSl2 (sV 1) oN (oS (sV 5))) (sSl2 (sV 1) (oS (s2 gAdd (sV 5) (sC (.int 1)))) oN))))))
 (sRet (sV 3))))
abbrev gSubD := MI.gSub
theorem atI_0 {α : Type} (x : α) (xs : List α) : atI (x :: xs) 0 = some x := atI_nat (j := 0) rfl
theorem atI_1 {α : Type} (x y : α) (xs : List α) : atI (x :: y :: xs) 1 = some y := atI_nat (j := 1) rfl
theorem atI_2 {α : Type} (x y z : α) (xs : List α) : atI (x :: y :: z :: xs) 2 = some z := atI_nat (j := 2) rfl
theorem atI_3 {α : Type} (x y z w : α) (xs : List α) : atI (x :: y :: z :: w :: xs) 3 = some w := atI_nat (j := 3) rfl
theorem ix31 : ixN 3 1 = some 1 := rfl
theorem ix32 : ixN 3 2 = some 2 := rfl
theorem ix30 : ixN 3 0 = some 0 := rfl
theorem ix10 : ixN 1 0 = some 0 := rfl
local macro_rules | `(tactic| walk_at "eq") => `(tactic| first | exact rfl | (simp only [List.set_cons_zero, List.set_cons_succ, List.set_set, *] <;> exact rfl))
local macro_rules | `(tactic| walk_at "g") => `(tactic| first | exact rfl | (simp only [gIx, seqD, atI_0, atI_1, atI_2, atI_3, gGt, gGe, gLt, gLe, gAdd, MI.gSub, gMod, gDiv, gPow, gAbs, gInt, gLen, gMax2, gMin2, MI.gTup, MI.gLst, tru, hEq, hNe, pur, eqD, gIs, gIsNot, isNon, gNeg, gIAdd, gMul, List.length_map, *, ite_true, ite_false, if_true, if_false, reduceIte, decide_true, decide_false, and_self, and_true, true_and, Bool.true_eq_false, Nat.reduceLeDiff, List.length_cons, List.length_nil, Nat.reduceAdd, Int.reduceLE, Int.reduceLT, ne_eq, not_false_eq_true, not_true_eq_false] <;> exact rfl) | assumption)
local macro_rules | `(tactic| walk_at "p") => `(tactic| first | exact rfl | (simp only [put, *, List.length_cons, List.length_nil, Nat.reduceAdd, ix31, ix32, ix30, ix10] <;> exact rfl))
local macro_rules | `(tactic| walk_at "ev") => `(tactic| first
  | (with_reducible exact e_c)
  | ((with_reducible apply e_v); exact rfl)
  | (with_reducible exact e_nil)
  | (with_reducible exact e_oN)
  | ((with_reducible apply e_2); walk_at "ev"; walk_at "ev"; walk_at "g")
  | ((with_reducible apply e_1); walk_at "ev"; walk_at "g")
  | ((with_reducible apply e_a); walk_at "ev"; first | ((with_reducible apply e_call); exact rfl; first | assumption | walk_at "g") | walk_at "g")
  | ((with_reducible apply e_cons); walk_at "ev"; walk_at "ev")
  | ((with_reducible apply e_T); walk_at "ev")
  | ((with_reducible apply e_not); walk_at "ev")
  | ((with_reducible apply e_tru); walk_at "ev"; walk_at "g")
  | ((with_reducible apply e_oS); walk_at "ev")
  | ((with_reducible apply e_sl); walk_at "ev"; walk_at "ev"; walk_at "ev"; walk_at "g")
  | ((with_reducible apply e_notV); walk_at "ev")
  | ((with_reducible apply e_andF); walk_at "ev")
  | ((with_reducible apply e_andT); walk_at "ev"; walk_at "ev")
  | ((with_reducible apply e_orT); walk_at "ev")
  | ((with_reducible apply e_orF); walk_at "ev"; walk_at "ev")
  | ((with_reducible apply e_andVF); walk_at "ev")
  | ((with_reducible apply e_andVT); walk_at "ev"; walk_at "ev")
  | ((with_reducible apply e_orVT); walk_at "ev")
  | ((with_reducible apply e_orVF); walk_at "ev"; walk_at "ev")
  | ((with_reducible apply e_ifT); walk_at "ev"; walk_at "ev")
  | ((with_reducible apply e_ifF); walk_at "ev"; walk_at "ev"))
local macro_rules | `(tactic| walk_at "st") => `(tactic| first
  | (with_reducible exact t_nx)
  | ((with_reducible apply t_set2); walk_at "ev"; walk_at "eq"; walk_at "eq")
  | ((with_reducible apply t_ret2); walk_at "ev"; walk_at "eq"; walk_at "eq")
  | ((with_reducible apply t_drop); walk_at "ev")
  | ((with_reducible apply t_put); walk_at "ev"; walk_at "ev"; walk_at "ev"; walk_at "p")
  | ((with_reducible apply t_ifF); walk_at "ev"; walk_at "st")
  | ((with_reducible apply t_ifT); walk_at "ev"; walk_at "st")
  | ((with_reducible apply t_seq); walk_at "st"; walk_at "st")
  | ((with_reducible apply t_seqR); walk_at "st"))
/-- the pen at p: its cells, how far it is (at most n) -/
structure Pen (h : Hd) (p n : Nat) : Prop where
  ex : ∃ (q : Nat) (cells : List Int) (a l : Int), h[p]? = some (.lst [.ref q, .int a, .int l]) ∧ h[q]? = some (.lst (cells.map D.int)) ∧ q < p ∧ 0 ≤ a ∧ a ≤ n ∧ 0 ≤ l ∧ cells.length ≤ 63
theorem take_body {h : Hd} {p n : Nat} {m : Int} (P : Pen h p n) (hn : n ≤ 1000000000000) (m0 : 0 < m) (m1 : m < 1073741824) : ∃ r o, bodyR b_take 7 [.ref p, .int m] h = .ok (.int r) (h.set p o) ∧ 0 ≤ r ∧ r < m ∧ Pen (h.set p o) p (n + 1) := by
  obtain ⟨q, cells, a, l, hp, hq, lt, a0, a1, l0, c63⟩ := P.ex
  have ne : q ≠ p := Nat.ne_of_lt lt
  have lp : p < h.length := (List.getElem?_eq_some_iff.mp hp).1
  have sp : ∀ o, (h.set p o)[p]? = some o := fun o => List.getElem?_set_self lp
  have sq : ∀ o, (h.set p o)[q]? = some (.lst (cells.map D.int)) := fun o => by rw [List.getElem?_set_ne (Ne.symm ne)]; exact hq
  by_cases hl : 0 < l
  · refine ⟨l % m, .lst [.ref q, .int a, .int (l / m)], ?_, Int.emod_nonneg _ (by omega), Int.emod_lt_of_pos _ m0, ⟨q, cells, a, l / m, sp _, sq _, lt, a0, by omega, Int.ediv_nonneg l0 (by omega), c63⟩⟩
    apply body_rt
    unfold b_take
    walk_at "st"
  · have l00 : l = 0 := by omega
    subst l00
    have key : ∃ c : Int, ∀ (τ : Sd) (h' : Hd), h' = h.set p (.lst [.ref q, .int (a + 1), .int 0]) → τ = [some (.ref p), some (.int m), none, some (.int a), some (.int 5), none, none] →
        (sIf (sT (s2 gGt (sA gLen (sCons (s2 gIx (sV 0) (sC (.int 0))) sNil)) (sC (.int 0)))) (sSet 4 (s2 gIx (s2 gIx (sV 0) (sC (.int 0))) (s2 gMod (sV 3) (sA gLen (sCons (s2 gIx (sV 0) (sC (.int 0))) sNil))))) sNx) τ h'
          = .nx [some (.ref p), some (.int m), none, some (.int a), some (.int c), none, none] h' := by
      by_cases hc : cells = []
      · subst hc
        refine ⟨5, fun τ h' e1 e2 => ?_⟩
        subst e1 e2
        have z : decide ((0 : Int) < ((0 : Nat) : Int)) = false := by decide
        walk_at "st"
      · have lc : (0 : Int) < (cells.length : Int) := by
          have := List.length_pos_iff.mpr hc
          omega
        have hm0 := Int.emod_nonneg a (show (cells.length : Int) ≠ 0 by omega)
        have hm1 := Int.emod_lt_of_pos a lc
        obtain ⟨j, ej⟩ := Int.eq_ofNat_of_zero_le hm0
        have hj : j < cells.length := by omega
        have hat : atI (cells.map D.int) (a % (cells.length : Int)) = some (.int cells[j]) := by
          rw [ej]; exact atI_nat (by simp [hj])
        clear ej hm0 hm1
        refine ⟨cells[j], fun τ h' e1 e2 => ?_⟩
        subst e1 e2
        have z : decide ((0 : Int) < (cells.length : Int)) = true := decide_eq_true lc
        walk_at "st"
    obtain ⟨c, key⟩ := key
    have p1 : (0 : Int) ≤ 3 ∧ (3 : Int) ≤ 1000000 ∧ (c % 2147483587 + 40709 * a + 31).natAbs < 2 ^ 64 := ⟨by decide, by decide, by
      have := Int.emod_nonneg c (show (2147483587 : Int) ≠ 0 by decide)
      have := Int.emod_lt_of_pos c (show (0 : Int) < 2147483587 by decide)
      omega⟩
    have p2 : (0 : Int) ≤ 18 ∧ (18 : Int) ≤ 1000000 ∧ (10 : Int).natAbs < 2 ^ 64 := by decide
    have k1 : (0 : Int) < 2147483587 := by decide
    have k2 : (0 : Int) < 2147483647 := by decide
    have k3 : (0 : Int) < 2147483629 := by decide
    have k4 : (0 : Int) < 64 ∧ (64 : Int) < 1073741824 := by decide
    have k5 : 0 < m ∧ m < 1073741824 := ⟨m0, m1⟩
    generalize hN : (c % 2147483587 + 40709 * a + 31) ^ (3 : Int).toNat % 2147483647 = N
    have N0 : 0 ≤ N := by rw [← hN]; exact Int.emod_nonneg _ (by decide)
    have N1 : N < 2147483647 := by rw [← hN]; exact Int.emod_lt_of_pos _ (by decide)
    have c1 : CMul 40709 a := .inl ⟨by decide, by decide⟩
    have c2 : CMul N N := .inl ⟨by omega, by omega⟩
    have c3 : CMul 48271 N := .inl ⟨by decide, by decide⟩
    have c4 : CMul 2 (if c < 0 then -c else c) := .inl ⟨by decide, by decide⟩
    have t0 : ∀ τ : Sd, τ = [some (.ref p), some (.int m), none, some (.int a), some (.int c), none, none] → ∀ h' : Hd, h' = h.set p (.lst [.ref q, .int (a + 1), .int 0]) →
        (sSeq (sSet 6 (s2 gMod (s2 gPow (s2 gAdd (s2 gAdd (s2 gMod (sV 4) (sC (.int 2147483587))) (s2 gMul (sC (.int 40709)) (sV 3))) (sC (.int 31))) (sC (.int 3))) (sC (.int 2147483647))))
         (sSeq (sSet 6 (s2 gMod (s2 gAdd (s2 gAdd (s2 gMul (sV 6) (sV 6)) (s2 gMul (sC (.int 48271)) (sV 6))) (sV 3)) (sC (.int 2147483629))))
         (sRet (s2 gMod (s2 gDiv (sV 6) (sC (.int 64))) (sV 1))))) τ h' = .rt (.int ((N * N + 48271 * N + a) % 2147483629 / 64 % m)) h' := fun τ e1 h' e2 => by
      subst e1 e2
      walk_at "st"
    have fin : ∀ o, o = O.lst [.ref q, .int (a + 1), .int 0] → Pen (h.set p o) p (n + 1) := fun o eo => by subst eo; exact ⟨q, cells, a + 1, 0, sp _, sq _, lt, by omega, by omega, Int.le_refl _, c63⟩
    have dl : decide ((0 : Int) < 0) = false := by decide
    by_cases hb : a < (cells.length : Int) ∧ (10 : Int) ^ (18 : Int).toNat ≤ (if c < 0 then -c else c)
    · obtain ⟨b1, b2⟩ := hb
      have d1 : decide (a < (cells.length : Int)) = true := decide_eq_true b1
      have d2 : decide ((10 : Int) ^ (18 : Int).toNat ≤ (if c < 0 then -c else c)) = true := decide_eq_true b2
      generalize hg : 2 * (if c < 0 then -c else c) + (if decide (c < 0) = true then 1 else 0) = G
      have G0 : 0 ≤ G := by rw [← hg]; split <;> split <;> omega
      refine ⟨G % m, .lst [.ref q, .int (a + 1), .int (G / m)], ?_, Int.emod_nonneg _ (by omega), Int.emod_lt_of_pos _ m0, ⟨q, cells, a + 1, G / m, sp _, sq _, lt, by omega, by omega, Int.ediv_nonneg G0 (by omega), c63⟩⟩
      apply body_rt
      unfold b_take
      with_reducible apply t_seq
      walk_at "st"
      with_reducible apply t_seq
      walk_at "st"
      with_reducible apply t_seq
      walk_at "st"
      with_reducible apply t_seq
      walk_at "st"
      with_reducible apply t_seq
      exact key _ _ rfl rfl
      with_reducible apply t_seqR
      walk_at "st"
    · refine ⟨(N * N + 48271 * N + a) % 2147483629 / 64 % m, _, ?_, Int.emod_nonneg _ (by omega), Int.emod_lt_of_pos _ m0, fin _ rfl⟩
      apply body_rt
      unfold b_take
      with_reducible apply t_seq
      walk_at "st"
      with_reducible apply t_seq
      walk_at "st"
      with_reducible apply t_seq
      walk_at "st"
      with_reducible apply t_seq
      walk_at "st"
      with_reducible apply t_seq
      exact key _ _ rfl rfl
      with_reducible apply t_seq
      · by_cases b1 : a < (cells.length : Int)
        · have b2 : ¬ (10 : Int) ^ (18 : Int).toNat ≤ (if c < 0 then -c else c) := fun z => hb ⟨b1, z⟩
          have d1 : decide (a < (cells.length : Int)) = true := decide_eq_true b1
          have d2 : decide ((10 : Int) ^ (18 : Int).toNat ≤ (if c < 0 then -c else c)) = false := decide_eq_false b2
          walk_at "st"
        · have d1 : decide (a < (cells.length : Int)) = false := decide_eq_false b1
          walk_at "st"
      exact t0 _ rfl _ rfl
def TakeOk (F : SF) : Prop := ∀ (h : Hd) (p n : Nat) (m : Int), Pen h p n → n ≤ 1000000000000 → 0 < m → m < 1073741824 → ∃ r o, F [.ref p, .int m] h = .ok (.int r) (h.set p o) ∧ 0 ≤ r ∧ r < m ∧ Pen (h.set p o) p (n + 1)
theorem take_ok : TakeOk (gcF (bodyR b_take 7)) := fun h p n m P hn m0 m1 => by
  obtain ⟨r, o, e, r0, r1, P'⟩ := take_body P hn m0 m1
  exact ⟨r, o, gc_len e (by rw [List.length_set]), r0, r1, P'⟩
theorem Pen.up {h : Hd} {p n m : Nat} (P : Pen h p n) (l : n ≤ m) : Pen h p m := by
  obtain ⟨q, cells, a, l', h1, h2, h3, h4, h5, h6⟩ := P.ex
  exact ⟨q, cells, a, l', h1, h2, h3, h4, by omega, h6⟩
/-- the pen made of the script -/
theorem pen_ok (ns : List Int) (h : Hd) : ∃ p g, gcF (bodyR b_pen 1) [.rol (ns.map D.int)] h = .ok (.ref p) (h ++ g) ∧ h.length ≤ p ∧ Pen (h ++ g) p 0 := by
  have hc : cutL (ns.map D.int) none (some 63) = (ns.take 63).map D.int := by
    have := cutL_to (ns.map D.int) 63
    rw [show ((63 : Nat) : Int) = 63 from rfl] at this
    rw [this, List.map_take]
  have e : bodyR b_pen 1 [.rol (ns.map D.int)] h = .ok (.ref (h ++ [O.lst ((ns.take 63).map D.int)]).length) (h ++ [O.lst ((ns.take 63).map D.int)] ++ [.lst [.ref h.length, .int 0, .int 0]]) := by
    apply body_rt
    unfold b_pen
    apply t_ret2
    · apply e_a
      · apply e_cons
        · apply e_sl
          · apply e_v; exact rfl
          · exact e_oN
          · apply e_oS; exact e_c
          · show R.ok _ _ = _
            rw [hc]
        · apply e_cons
          · exact e_c
          · apply e_cons
            · exact e_c
            · exact e_nil
      · exact rfl
    · rfl
    · rfl
  refine ⟨h.length + 1, [.lst ((ns.take 63).map D.int), .lst [.ref h.length, .int 0, .int 0]], ?_, by omega, ?_⟩
  · unfold gcF
    rw [e]
    dsimp only
    rw [if_neg]
    · simp
    · rintro ⟨_, z | z, _⟩
      · simp [clo] at z; omega
      · simp at z
  · refine ⟨h.length, ns.take 63, 0, 0, ?_, ?_, by omega, by decide, by decide, by decide, by rw [List.length_take]; omega⟩
    · rw [List.getElem?_append_right (by omega)]; simp
    · rw [List.getElem?_append_right (by omega)]; simp
def s1 : Str := " !\"#$&'()*+,-./0123456789:;<=>?@ABCDEFGHIJKLMNOPQRSTUVWXYZ[\\]^_`"
def s2' : Str := "abcdefghijklmnopqrstuvwxyz{|}~\n"
theorem signs_ok (h : Hd) : gcF (bodyR b_signs 1) [] h = .ok (.str (s1 ++ s2')) h := by
  apply gc_same
  apply body_rt
  unfold b_signs
  apply t_seq
  · apply t_set; exact e_c
  · apply t_ret
    apply e_2
    · apply e_v; exact rfl
    · exact e_c
    · show (if s1.length + s2'.length ≤ LINE then R.ok (D.str (s1 ++ s2')) h else .no) = _
      rw [if_pos (by decide +kernel)]
theorem signs_len : (s1 ++ s2').length = 95 := by decide +kernel
/-- some signs of a text, each once -/
def SomeOk (F : SF) : Prop := ∀ (h : Hd) (p n : Nat) (T : Str) (m : Int), Pen h p n → n ≤ 900000000000 → 1 ≤ m → m ≤ T.length → T.length ≤ 1000 →
  ∃ x o, F [.ref p, .str T, .int m] h = .ok (.str x) (h.set p o) ∧ 1 ≤ x.length ∧ (x.length : Int) ≤ m ∧ Pen (h.set p o) p (n + 1 + m.toNat) ∧ ∃ rest : List Nat, (x.cps.toList ++ rest).Perm T.cps.toList
theorem some_body {F : SF} (hF : TakeOk F) {h : Hd} {p n : Nat} {T : Str} {m : Int} (P : Pen h p n) (hn : n ≤ 900000000000) (m1 : 1 ≤ m) (mT : m ≤ T.length) (hT : T.length ≤ 1000) :
    ∃ x o, bodyR (b_some F) 6 [.ref p, .str T, .int m] h = .ok (.str x) (h.set p o) ∧ 1 ≤ x.length ∧ (x.length : Int) ≤ m ∧ Pen (h.set p o) p (n + 1 + m.toNat) ∧ ∃ rest : List Nat, (x.cps.toList ++ rest).Perm T.cps.toList := by
  obtain ⟨r, o, e, r0, r1, P1⟩ := hF h p n m P (by omega) (by omega) (by omega)
  obtain ⟨k, rfl⟩ := Int.eq_ofNat_of_zero_le r0
  have lo := forL_all (ck := fun _ => True) (g := kN 4) (b := sSeq (sSet 5 (sA (sN 2 F) (sCons (sV 0) (sCons (sA gLen (sCons (sV 1) sNil)) sNil))))
     (sSeq (sSet 3 (s2 gAdd (sV 3) (s2 gIx (sV 1) (sV 5)))) (sSet 1 (s2 gAdd (sSl2 (sV 1) oN (oS (sV 5))) (sSl2 (sV 1) (oS (s2 gAdd (sV 5) (sC (.int 1)))) oN))))) (rng 0 (1 + (k : Int)).toNat)
    (fun pre τ h' => ∃ (x rs : Str) (o : O) (t4 t5 : Option D), τ = [some (.ref p), some (.str rs), some (.int m), some (.str x), t4, t5] ∧ h' = h.set p o ∧ Pen h' p (n + 1 + pre.length) ∧ x.length = pre.length ∧ (x.cps.toList ++ rs.cps.toList).Perm T.cps.toList)
    (fun _ _ _ _ => True.intro) ?_ (rng 0 (1 + (k : Int)).toNat) [] [some (.ref p), some (.str T), some (.int m), some (.str ""), none, none] (h.set p o) rfl ⟨"", T, o, none, none, rfl, rfl, P1, rfl, by rw [show (PySem.Str.ofString "").cps.toList = [] from rfl]; exact List.Perm.refl _⟩
  · obtain ⟨τ', h', e2, x, rs, o', t4, t5, rfl, rfl, P2, lx, pm⟩ := lo
    have lr : (rng 0 (1 + (k : Int)).toNat).length = k + 1 := by simp [rng]; omega
    rw [lr] at P2 lx
    refine ⟨x, o', ?_, by omega, by omega, P2.up (by omega), rs.cps.toList, pm⟩
    apply body_rt
    unfold b_some
    apply t_seq
    · apply t_set; exact e_c
    · apply t_seq
      · apply t_for
        · apply e_rg1
          · walk_at "ev"
          · constructor <;> omega
        · exact e2
      · walk_at "st"
  · rintro pre x post τ h' all ⟨y, rs, o', t4, t5, rfl, rfl, P2, ly, pm⟩
    refine ⟨_, _, rfl, ?_⟩
    have la : pre.length < k + 1 := by
      have := congrArg List.length all
      simp [rng] at this; omega
    have lrs : y.length + rs.length = T.length := by
      have := pm.length_eq
      rw [List.length_append, len_l, len_l, len_l] at this
      exact this
    have rs0 : (0 : Int) < (rs.length : Int) := by omega
    obtain ⟨r', o2, e3, q0, q1, P3⟩ := hF _ p _ (rs.length : Int) P2 (by omega) rs0 (by omega)
    obtain ⟨j, rfl⟩ := Int.eq_ofNat_of_zero_le q0
    have hj : j < rs.cps.toList.length := by rw [len_l]; omega
    have hat : atI rs.cps.toList (j : Int) = some rs.cps.toList[j] := atI_nat (List.getElem?_eq_getElem hj)
    have hl1 : rs.length ≤ LINE := by show rs.length ≤ 16777216; omega
    have c1 : (⟨(cutL rs.cps.toList none (some ((j : Nat) : Int))).toArray⟩ : Str).cps.toList = rs.cps.toList.take j := by rw [mk_l, cutL_to]
    have c2 : (⟨(cutL rs.cps.toList (some (((j : Nat) : Int) + 1)) none).toArray⟩ : Str).cps.toList = rs.cps.toList.drop (j + 1) := by
      have := cutL_from rs.cps.toList (j + 1)
      rw [show (((j + 1 : Nat)) : Int) = ((j : Nat) : Int) + 1 by omega] at this
      rw [mk_l, this]
    have l1 : (⟨(cutL rs.cps.toList none (some ((j : Nat) : Int))).toArray⟩ : Str).length ≤ rs.length := by rw [← len_l, c1, List.length_take, len_l]; omega
    have l2 : (⟨(cutL rs.cps.toList (some (((j : Nat) : Int) + 1)) none).toArray⟩ : Str).length ≤ rs.length := by rw [← len_l, c2, List.length_drop, len_l]; omega
    have lc : (⟨#[rs.cps.toList[j]]⟩ : Str).length = 1 := rfl
    refine ⟨[some (.ref p), some (.str (⟨(cutL rs.cps.toList none (some ((j : Nat) : Int))).toArray⟩ ++ ⟨(cutL rs.cps.toList (some (((j : Nat) : Int) + 1)) none).toArray⟩)), some (.int m), some (.str (y ++ ⟨#[rs.cps.toList[j]]⟩)), some x, some (.int j)], (h.set p o').set p o2, ?_, _, _, o2, _, _, rfl, by rw [List.set_set], by rw [List.length_append]; exact P3.up (by simp; omega), ?_, ?_⟩
    · apply t_seq
      · apply t_set
        apply e_a
        · apply e_cons
          · apply e_v; exact rfl
          · apply e_cons
            · apply e_a
              · apply e_cons
                · apply e_v; exact rfl
                · exact e_nil
              · show (if rs.length ≤ LINE then R.ok (D.int rs.length) _ else .no) = _
                rw [if_pos hl1]
            · exact e_nil
        · apply e_call rfl; exact e3
      · apply t_seq
        · apply t_set
          apply e_2
          · apply e_v; exact rfl
          · apply e_2
            · apply e_v; exact rfl
            · apply e_v; exact rfl
            · simp only [gIx, if_pos hl1, hat]
              exact rfl
          · show (if y.length + (⟨#[rs.cps.toList[j]]⟩ : Str).length ≤ LINE then R.ok (D.str (y ++ ⟨#[rs.cps.toList[j]]⟩)) _ else .no) = _
            rw [if_pos (by show _ ≤ 16777216; omega)]
        · apply t_set2
          · apply e_2
            · apply e_sl
              · apply e_v; exact rfl
              · exact e_oN
              · apply e_oS; apply e_v; exact rfl
              · show (if rs.length ≤ LINE then R.ok (D.str ⟨(cutL rs.cps.toList none (some ((j : Nat) : Int))).toArray⟩) _ else .no) = _
                rw [if_pos hl1]
            · apply e_sl
              · apply e_v; exact rfl
              · apply e_oS
                apply e_2
                · apply e_v; exact rfl
                · exact e_c
                · exact rfl
              · exact e_oN
              · show (if rs.length ≤ LINE then R.ok (D.str ⟨(cutL rs.cps.toList (some (((j : Nat) : Int) + 1)) none).toArray⟩) _ else .no) = _
                rw [if_pos hl1]
            · show (if _ ≤ LINE then R.ok (D.str _) _ else .no) = _
              rw [if_pos (by show _ ≤ 16777216; omega)]
          · rfl
          · rfl
    · rw [app_len, lc, List.length_append]; simp; omega
    · rw [app_l, app_l, c1, c2]
      refine List.Perm.trans ?_ pm
      rw [List.append_assoc]
      refine List.Perm.append_left _ ?_
      show ([rs.cps.toList[j]] ++ _).Perm _
      have e0 : rs.cps.toList = rs.cps.toList.take j ++ rs.cps.toList[j] :: rs.cps.toList.drop (j + 1) := by rw [← List.drop_eq_getElem_cons hj, List.take_append_drop]
      conv => rhs; rw [e0]
      rw [List.singleton_append]
      exact List.perm_middle.symm
theorem some_ok {F : SF} (hF : TakeOk F) : SomeOk (gcF (bodyR (b_some F) 6)) := fun h p n T m P hn m1 mT hT => by
  obtain ⟨x, o, e, r⟩ := some_body hF P hn m1 mT hT
  exact ⟨x, o, gc_len e (by rw [List.length_set]), r⟩
end PEN

set_option Elab.async false
set_option linter.all false
set_option maxRecDepth 100000
set_option maxHeartbeats 4000000
/-! Shapes as data, and what the defs of shapes reckon of them. -/
namespace SHF
open PySem PySem.Spec L2 MI PEN
open SHP (Sh)
noncomputable def b_inner : SS :=
 (sSeq (sIf (sT (s2 hEq (s2 gIx (sV 0) (sC (.int 0))) (sC (.str "one"))))
  (sRet (sA gTup sNil))
  sNx)
 (sSeq (sIf (sOr (sT (s2 hEq (s2 gIx (sV 0) (sC (.int 0))) (sC (.str "row")))) (sT (s2 hEq (s2 gIx (sV 0) (sC (.int 0))) (sC (.str "either")))))
  (sRet (s2 gIx (sV 0) (sC (.int 1))))
  sNx)
 (sRet (sA gTup (sCons (s2 gIx (sV 0) (sC (.int 1))) sNil)))))
noncomputable def b_weight (F_inner : SF) (F_weight : SF) : SS :=
 (sSeq (sIf (sT (s2 hEq (s2 gIx (sV 0) (sC (.int 0))) (sC (.str "one"))))
  (sRet (sC (.int 1)))
  sNx)
 (sSeq (sSet 1 (sA gSum (sCons (sComp (sIt (sA (sN 1 F_inner) (sCons (sV 0) sNil))) t1 (sA (sN 1 F_weight) (sCons (sV 0) sNil)) []) sNil)))
 (sSeq (sIf (sT (s2 hEq (s2 gIx (sV 0) (sC (.int 0))) (sC (.str "times"))))
  (sRet (s2 gMul (s2 gIx (sV 0) (sC (.int 3))) (sV 1)))
  sNx)
 (sRet (sV 1)))))
noncomputable def b_parts_of (F_inner : SF) (F_parts_of : SF) : SS :=
 (sSeq (sSet 1 (sA gLst (sCons (sV 0) sNil)))
 (sSeq (sFor (sIt (sA (sN 1 F_inner) (sCons (sV 0) sNil))) (kN 2) (sDrop (sML gExt (sV 1) (sCons (sA (sN 1 F_parts_of) (sCons (sV 2) sNil)) sNil))))
 (sRet (sA gTuple (sCons (sV 1) sNil)))))
noncomputable def b_law_shape (F_law_shape : SF) (F_law_some : SF) (F_law_take : SF) : SS :=
 (sSeq (sSet 4 (sA (sN 2 F_law_take) (sCons (sV 0) (sCons (sC (.int 10)) sNil))))
 (sSeq (sIf (sAnd (sT (s2 hEq (sV 2) (sC (.int 5)))) (sT (s2 gLt (sV 4) (sC (.int 2)))))
  (sSet 4 (s2 gAdd (sV 4) (sC (.int 4))))
  sNx)
 (sSeq (sIf (sAnd (sT (s2 hEq (sV 4) (sC (.int 9)))) (sT (s2 hEq (sA (sN 2 F_law_take) (sCons (sV 0) (sCons (sC (.int 2)) sNil))) (sC (.int 0)))))
  (sRet (sA gTup (sCons (sC (.str "row")) (sCons (sA gTup sNil) sNil))))
  sNx)
 (sSeq (sIf (sOr (sT (s2 hEq (sV 2) (sC (.int 1)))) (sOr (sT (s2 gLt (s2 gIx (sV 1) (sC (.int 0))) (sC (.int 1)))) (sT (s2 gLt (sV 4) (sC (.int 2))))))
  (sRet (sA gTup (sCons (sC (.str "one")) (sCons (sA (sN 3 F_law_some) (sCons (sV 0) (sCons (sV 3) (sCons (sA gLen (sCons (sV 3) sNil)) sNil)))) sNil))))
  sNx)
 (sSeq (sIf (sT (s2 gLt (sV 4) (sC (.int 4))))
  (sSeq (sPut (s2 gSub (s2 gIx (sV 1) (sC (.int 0))) (sC (.int 1))) (sV 1) (sC (.int 0)))
 (sSeq (sSet 5 (sA (sN 4 F_law_shape) (sCons (sV 0) (sCons (sV 1) (sCons (s2 gSub (sV 2) (sC (.int 1))) (sCons (sV 3) sNil))))))
 (sSeq (sIf (sT (s2 hEq (sV 4) (sC (.int 2))))
  (sRet (sA gTup (sCons (sC (.str "many")) (sCons (sV 5) sNil))))
  sNx)
 (sSeq (sSet 6 (sA (sN 2 F_law_take) (sCons (sV 0) (sCons (sC (.int 5)) sNil))))
 (sRet (sA gTup (sCons (sC (.str "times")) (sCons (sV 5) (sCons (sV 6) (sCons (s2 gAdd (sV 6) (sA (sN 2 F_law_take) (sCons (sV 0) (sCons (s2 gSub (sC (.int 5)) (sV 6)) sNil)))) sNil))))))))))
  sNx)
 (sSeq (sSet 7 (sA gMin2 (sCons (s2 gIx (sV 1) (sC (.int 0))) (sCons (s2 gAdd (sC (.int 1)) (sA (sN 2 F_law_take) (sCons (sV 0) (sCons (s2 gIx (sA gLst (sCons (sC (.int 2)) (sCons (sC (.int 3)) (sCons (sC (.int 6)) sNil)))) (sA (sN 2 F_law_take) (sCons (sV 0) (sCons (sC (.int 3)) sNil)))) sNil)))) sNil))))
 (sSeq (sPut (s2 gSub (s2 gIx (sV 1) (sC (.int 0))) (sV 7)) (sV 1) (sC (.int 0)))
 (sSeq (sSet 8 (sA gTuple (sCons (sComp (sRg gRng1 (sCons (sV 7) sNil)) t1 (sA (sN 4 F_law_shape) (sCons (sV 1) (sCons (sV 2) (sCons (s2 gSub (sV 3) (sC (.int 1))) (sCons (sV 4) sNil))))) [0, 1, 2, 3]) sNil)))
 (sRet (sA gTup (sCons (s2 gIx (sA gLst (sCons (sC (.str "row")) (sCons (sC (.str "either")) sNil))) (sA gInt (sCons (s2 gGt (sV 4) (sC (.int 6))) sNil))) (sCons (sV 8) sNil))))))))))))
noncomputable def b_law_parts (F_law_inner : SF) (F_law_parts : SF) : SS :=
 (sSeq (sSet 1 (sA gLst (sCons (sV 0) sNil)))
 (sSeq (sFor (sIt (sA (sN 1 F_law_inner) (sCons (sV 0) sNil))) (kN 2) (sSet 1 (s2 gAdd (sV 1) (sA (sN 1 F_law_parts) (sCons (sV 2) sNil)))))
 (sRet (sV 1))))
noncomputable def b_law_same (F_law_same : SF) : SS :=
 (sSeq (sIf (sTru (sA gIsi (sCons (sV 1) (sCons (sC (.ty "tuple")) sNil))))
  (sSeq (sIf (sOr (sNot (sTru (sA gIsi (sCons (sV 0) (sCons (sC (.ty "tuple")) sNil))))) (sT (s2 hNe (sA gLen (sCons (sV 0) sNil)) (sA gLen (sCons (sV 1) sNil)))))
  (sRet (sC (.bl false)))
  sNx)
 (sSeq (sFor (sZip (sV 0) (sV 1)) (kTup 2 (kCons (kN 2) (kCons (kN 3) kNil))) (sIf (sNot (sTru (sA (sN 2 F_law_same) (sCons (sV 2) (sCons (sV 3) sNil)))))
  (sRet (sC (.bl false)))
  sNx))
 (sRet (sC (.bl true)))))
  sNx)
 (sSeq (sIf (sTru (sA gIsi (sCons (sV 1) (sCons (sC (.ty "str")) sNil))))
  (sRet (sAndV (sA gIsi (sCons (sV 0) (sCons (sC (.ty "str")) sNil))) (s2 hEq (sV 0) (sV 1))))
  sNx)
 (sRet (sAndV (sA gIsi (sCons (sV 0) (sCons (sC (.ty "int")) sNil))) (sAndV (sNotV (sA gIsi (sCons (sV 0) (sCons (sC (.ty "bool")) sNil)))) (s2 hEq (sV 0) (sV 1)))))))
noncomputable def b_law_weights (F_law_inner : SF) (F_law_weights : SF) : SS :=
 (sSeq (sIf (sT (s2 hEq (s2 gIx (sV 0) (sC (.int 0))) (sC (.str "one"))))
  (sRet (sA gLst (sCons (sV 1) sNil)))
  sNx)
 (sSeq (sIf (sT (s2 hEq (s2 gIx (sV 0) (sC (.int 0))) (sC (.str "times"))))
  (sSet 1 (s2 gMul (sV 1) (s2 gIx (sV 0) (sC (.int 3)))))
  sNx)
 (sSeq (sSet 2 (sA gLst sNil))
 (sSeq (sFor (sIt (sA (sN 1 F_law_inner) (sCons (sV 0) sNil))) (kN 3) (sSet 2 (s2 gAdd (sV 2) (sA (sN 2 F_law_weights) (sCons (sV 3) (sCons (sV 1) sNil))))))
 (sRet (sV 2))))))
noncomputable def b_law_right (F_law_parts : SF) (F_law_same : SF) (F_law_weights : SF) (F_parts_of : SF) (F_weight : SF) : SS :=
 (sSeq (sSet 1 (sA (sN 1 F_law_parts) (sCons (sV 0) sNil)))
 (sSeq (sIf (sNot (sTru (sA (sN 2 F_law_same) (sCons (sA (sN 1 F_weight) (sCons (sV 0) sNil)) (sCons (sA gSum (sCons (sA (sN 2 F_law_weights) (sCons (sV 0) (sCons (sC (.int 1)) sNil))) sNil)) sNil)))))
  (sRet (sC (.bl false)))
  sNx)
 (sSeq (sSet 2 (sA (sN 1 F_parts_of) (sCons (sV 0) sNil)))
 (sSeq (sIf (sNot (sTru (sA (sN 2 F_law_same) (sCons (sV 2) (sCons (sA gTuple (sCons (sV 1) sNil)) sNil)))))
  (sRet (sC (.bl false)))
  sNx)
 (sSeq (sFor (sRg gRng1 (sCons (sA gLen (sCons (sV 1) sNil)) sNil)) (kN 3) (sSeq (sSet 4 (sA gLen (sCons (sA (sN 1 F_law_parts) (sCons (s2 gIx (sV 1) (sV 3)) sNil)) sNil)))
 (sIf (sT (s2 hNe (sA (sN 1 F_parts_of) (sCons (s2 gIx (sV 2) (sV 3)) sNil)) (sSl2 (sV 2) (oS (sV 3)) (oS (s2 gAdd (sV 3) (sV 4))))))
  (sRet (sC (.bl false)))
  sNx)))
 (sRet (sA (sN 2 F_law_same) (sCons (sA (sN 1 F_weight) (sCons (sV 0) sNil)) (sCons (sA gSum (sCons (sA (sN 2 F_law_weights) (sCons (sV 0) (sCons (sC (.int 1)) sNil))) sNil)) sNil)))))))))
local macro_rules | `(tactic| walk_at "eq") => `(tactic| first | exact rfl | (simp only [List.set_cons_zero, List.set_cons_succ, List.set_set, *] <;> exact rfl))
local macro_rules | `(tactic| walk_at "g") => `(tactic| first | exact rfl | (simp only [gIx, seqD, atI_0, atI_1, atI_2, atI_3, gGt, gGe, gLt, gLe, gAdd, MI.gSub, gMod, gDiv, gPow, gAbs, gInt, gLen, gMax2, gMin2, MI.gTup, MI.gLst, tru, hEq, hNe, pur, eqD, gIs, gIsNot, isNon, gNeg, gIAdd, gMul, List.length_map, *, ite_true, ite_false, if_true, if_false, reduceIte, decide_true, decide_false, and_self, and_true, true_and, Bool.true_eq_false, Nat.reduceLeDiff, List.length_cons, List.length_nil, Nat.reduceAdd, Int.reduceLE, Int.reduceLT, ne_eq, not_false_eq_true, not_true_eq_false] <;> exact rfl) | assumption)
local macro_rules | `(tactic| walk_at "p") => `(tactic| first | exact rfl | (simp only [put, *, List.length_cons, List.length_nil, Nat.reduceAdd, ix31, ix32, ix30, ix10] <;> exact rfl))
local macro_rules | `(tactic| walk_at "ev") => `(tactic| first
  | (with_reducible exact e_c)
  | ((with_reducible apply e_v); exact rfl)
  | (with_reducible exact e_nil)
  | (with_reducible exact e_oN)
  | ((with_reducible apply e_2); walk_at "ev"; walk_at "ev"; walk_at "g")
  | ((with_reducible apply e_1); walk_at "ev"; walk_at "g")
  | ((with_reducible apply e_a); walk_at "ev"; first | ((with_reducible apply e_call); exact rfl; first | assumption | walk_at "g") | walk_at "g")
  | ((with_reducible apply e_cons); walk_at "ev"; walk_at "ev")
  | ((with_reducible apply e_T); walk_at "ev")
  | ((with_reducible apply e_not); walk_at "ev")
  | ((with_reducible apply e_tru); walk_at "ev"; walk_at "g")
  | ((with_reducible apply e_oS); walk_at "ev")
  | ((with_reducible apply e_sl); walk_at "ev"; walk_at "ev"; walk_at "ev"; walk_at "g")
  | ((with_reducible apply e_notV); walk_at "ev")
  | ((with_reducible apply e_andF); walk_at "ev")
  | ((with_reducible apply e_andT); walk_at "ev"; walk_at "ev")
  | ((with_reducible apply e_orT); walk_at "ev")
  | ((with_reducible apply e_orF); walk_at "ev"; walk_at "ev")
  | ((with_reducible apply e_andVF); walk_at "ev")
  | ((with_reducible apply e_andVT); walk_at "ev"; walk_at "ev")
  | ((with_reducible apply e_orVT); walk_at "ev")
  | ((with_reducible apply e_orVF); walk_at "ev"; walk_at "ev")
  | ((with_reducible apply e_ifT); walk_at "ev"; walk_at "ev")
  | ((with_reducible apply e_ifF); walk_at "ev"; walk_at "ev"))
local macro_rules | `(tactic| walk_at "st") => `(tactic| first
  | (with_reducible exact t_nx)
  | ((with_reducible apply t_set2); walk_at "ev"; walk_at "eq"; walk_at "eq")
  | ((with_reducible apply t_ret2); walk_at "ev"; walk_at "eq"; walk_at "eq")
  | ((with_reducible apply t_drop); walk_at "ev")
  | ((with_reducible apply t_put); walk_at "ev"; walk_at "ev"; walk_at "ev"; walk_at "p")
  | ((with_reducible apply t_ifF); walk_at "ev"; walk_at "st")
  | ((with_reducible apply t_ifT); walk_at "ev"; walk_at "st")
  | ((with_reducible apply t_seq); walk_at "st"; walk_at "st")
  | ((with_reducible apply t_seqR); walk_at "st"))
mutual
def toD : Sh → D
  | .one s => .tup [.str "one", .str s]
  | .row ps => .tup [.str "row", .tup (toDs ps)]
  | .either ps => .tup [.str "either", .tup (toDs ps)]
  | .many p => .tup [.str "many", toD p]
  | .times p lo hi => .tup [.str "times", toD p, .int lo, .int hi]
def toDs : List Sh → List D
  | [] => []
  | p :: ps => toD p :: toDs ps
end
theorem toDs_map (ps : List Sh) : toDs ps = ps.map toD := by
  induction ps with
  | nil => rfl
  | cons p ps ih => rw [toDs, ih]; rfl
def kids : Sh → List Sh
  | .one _ => []
  | .row ps => ps
  | .either ps => ps
  | .many p => [p]
  | .times p _ _ => [p]
def good : Nat → Sh → Prop
  | 0, _ => False
  | _ + 1, .one _ => True
  | n + 1, .row ps => ps.length ≤ 6 ∧ ∀ p ∈ ps, good n p
  | n + 1, .either ps => ps.length ≤ 6 ∧ ∀ p ∈ ps, good n p
  | n + 1, .many p => good n p
  | n + 1, .times p lo hi => (0 ≤ lo ∧ lo ≤ hi ∧ hi ≤ 4) ∧ good n p
theorem good_kids {n : Nat} : ∀ {sh : Sh}, good (n + 1) sh → (kids sh).length ≤ 6 ∧ ∀ p ∈ kids sh, good n p
  | .one _, _ => ⟨by simp [kids], by simp [kids]⟩
  | .row ps, h => h
  | .either ps, h => h
  | .many p, h => ⟨by simp [kids], fun q hq => by rw [List.mem_singleton.mp hq]; exact h⟩
  | .times p lo hi, h => ⟨by simp [kids], fun q hq => by rw [List.mem_singleton.mp hq]; exact h.2⟩
theorem good_up : ∀ {n : Nat} {sh : Sh}, good n sh → good (n + 1) sh
  | 0, _, h => h.elim
  | n + 1, .one _, _ => True.intro
  | n + 1, .row ps, h => ⟨h.1, fun p hp => good_up (h.2 p hp)⟩
  | n + 1, .either ps, h => ⟨h.1, fun p hp => good_up (h.2 p hp)⟩
  | n + 1, .many p, h => good_up (n := n) h
  | n + 1, .times p lo hi, h => ⟨h.1, good_up h.2⟩
theorem good_le {n m : Nat} {sh : Sh} (h : good n sh) (l : n ≤ m) : good m sh := by
  induction l with
  | refl => exact h
  | step _ ih => exact good_up ih
/-! closed, pure -/
theorem clos_of {n : Nat} : ∀ {ds : List D}, (∀ d ∈ ds, clo n d) → clos n ds
  | [], _ => by simp [clos]
  | x :: xs, h => by simp only [clos]; exact ⟨h x (List.mem_cons_self ..), clos_of fun d hd => h d (List.mem_cons_of_mem _ hd)⟩
theorem clo_toD (k : Nat) : ∀ {n : Nat} {sh : Sh}, good n sh → clo k (toD sh)
  | 0, _, h => h.elim
  | n + 1, .one s, _ => by simp [toD, clo, clos]
  | n + 1, .row ps, h => by
    simp only [toD, clo, clos, toDs_map, true_and, and_true]
    exact clos_of fun d hd => by obtain ⟨p, hp, rfl⟩ := List.mem_map.mp hd; exact clo_toD k (h.2 p hp)
  | n + 1, .either ps, h => by
    simp only [toD, clo, clos, toDs_map, true_and, and_true]
    exact clos_of fun d hd => by obtain ⟨p, hp, rfl⟩ := List.mem_map.mp hd; exact clo_toD k (h.2 p hp)
  | n + 1, .many p, h => by
    simp only [toD, clo, clos, true_and, and_true]
    exact clo_toD k (n := n) h
  | n + 1, .times p lo hi, h => by
    simp only [toD, clo, clos, true_and, and_true]
    exact clo_toD k h.2
theorem clos_toD (k : Nat) {n : Nat} {ps : List Sh} (h : ∀ p ∈ ps, good n p) : clos k (ps.map toD) := clos_of fun d hd => by obtain ⟨p, hp, rfl⟩ := List.mem_map.mp hd; exact clo_toD k (h p hp)
theorem pur_toD : ∀ {n : Nat} {sh : Sh}, good n sh → pur (2 * n) (toD sh) = true
  | 0, _, h => h.elim
  | n + 1, .one s, _ => by
    simp only [toD]
    show (([D.str "one", D.str s] : List D).all (pur (2 * n + 1))) = true
    simp [pur]
  | n + 1, .row ps, h => by
    simp only [toD, toDs_map]
    show (([D.str "row", D.tup (ps.map toD)] : List D).all (pur (2 * n + 1))) = true
    simp only [List.all_cons, List.all_nil, pur, Bool.and_true, Bool.true_and, List.all_eq_true]
    intro d hd
    obtain ⟨p, hp, rfl⟩ := List.mem_map.mp hd
    exact pur_toD (h.2 p hp)
  | n + 1, .either ps, h => by
    simp only [toD, toDs_map]
    show (([D.str "either", D.tup (ps.map toD)] : List D).all (pur (2 * n + 1))) = true
    simp only [List.all_cons, List.all_nil, pur, Bool.and_true, Bool.true_and, List.all_eq_true]
    intro d hd
    obtain ⟨p, hp, rfl⟩ := List.mem_map.mp hd
    exact pur_toD (h.2 p hp)
  | n + 1, .many p, h => by
    simp only [toD]
    show (([D.str "many", toD p] : List D).all (pur (2 * n + 1))) = true
    simp only [List.all_cons, List.all_nil, Bool.and_true]
    rw [pur_up (Nat.le_succ _) (pur_toD (n := n) h)]; simp [pur]
  | n + 1, .times p lo hi, h => by
    simp only [toD]
    show (([D.str "times", toD p, .int lo, .int hi] : List D).all (pur (2 * n + 1))) = true
    simp only [List.all_cons, List.all_nil, Bool.and_true]
    rw [pur_up (Nat.le_succ _) (pur_toD h.2)]; simp [pur]
theorem eqD_refl : ∀ (n : Nat) (d : D), pur n d = true → eqD d d = true := by
  intro n
  induction n with
  | zero => intro d h; cases d <;> first | (simp [eqD]; done) | (cases h; done)
  | succ n ih =>
    intro d h
    cases d with
    | tup xs =>
      simp only [pur, List.all_eq_true] at h
      simp only [eqD]
      induction xs with
      | nil => rfl
      | cons x xs ih2 =>
        simp only [eqDs, Bool.and_eq_true]
        exact ⟨ih x (h x (List.mem_cons_self ..)), ih2 fun y hy => h y (List.mem_cons_of_mem _ hy)⟩
    | _ => first | (simp [eqD]; done) | (cases h; done)
/-! ### inner -/
theorem inner_ok (sh : Sh) (h : Hd) {n : Nat} (g : good n sh) : gcF (bodyR b_inner 1) [toD sh] h = .ok (.tup ((kids sh).map toD)) h := by
  apply gc_same
  apply body_rt
  unfold b_inner
  cases sh with
  | one s => simp only [toD, kids]; walk_at "st"
  | row ps => simp only [toD, kids, toDs_map]; walk_at "st"
  | either ps => simp only [toD, kids, toDs_map]; walk_at "st"
  | many p => simp only [toD, kids]; walk_at "st"
  | times p lo hi => simp only [toD, kids]; walk_at "st"
/-! ### weight -/
mutual
def wt : Sh → Int
  | .one _ => 1
  | .row ps => wts ps
  | .either ps => wts ps
  | .many p => wt p
  | .times p _ hi => hi * wt p
def wts : List Sh → Int
  | [] => 0
  | p :: ps => wt p + wts ps
end
theorem wts_sum (ps : List Sh) : wts ps = (ps.map wt).sum := by
  induction ps with
  | nil => rfl
  | cons p ps ih => rw [wts, ih]; rfl
theorem sum_one (x : Int) : [x].sum = x := by simp
noncomputable def F_inner : SF := gcF (bodyR b_inner 1)
noncomputable def F_weight : Nat → SF
  | 0 => fun _ _ => .no
  | n + 1 => gcF (bodyR (b_weight F_inner (F_weight n)) 2)
theorem bind_t1 {fe : SE} {rest : Sd} {x : D} {h : Hd} {r : R D} (e : fe (some x :: rest) h = r) : bindT t1 fe rest x h = r := e
theorem weight_ok : ∀ (n : Nat) (sh : Sh) (h : Hd), good n sh → F_weight n [toD sh] h = .ok (.int (wt sh)) h
  | 0, _, _, g => g.elim
  | n + 1, sh, h, g => by
    obtain ⟨k6, gk⟩ := good_kids g
    have ei : ∀ h', F_inner [toD sh] h' = .ok (.tup ((kids sh).map toD)) h' := fun h' => inner_ok sh h' g
    have mp : mapR (fun _ => True) (bindT t1 (sA (sN 1 (F_weight n)) (sCons (sV 0) sNil)) (frs' [] (startD 2 [toD sh]))) ((kids sh).map toD) h = .ok ((kids sh).map fun p => D.int (wt p)) h := by
      have go : ∀ ps : List Sh, (∀ p ∈ ps, good n p) → mapR (fun _ => True) (bindT t1 (sA (sN 1 (F_weight n)) (sCons (sV 0) sNil)) (frs' [] (startD 2 [toD sh]))) (ps.map toD) h = .ok (ps.map fun p => D.int (wt p)) h := by
        intro ps hp
        induction ps with
        | nil => simp [mapR]
        | cons p ps ih =>
          rw [List.map_cons, mapR, if_pos True.intro]
          rw [show bindT t1 (sA (sN 1 (F_weight n)) (sCons (sV 0) sNil)) (frs' [] (startD 2 [toD sh])) (toD p) h = .ok (.int (wt p)) h from ?_]
          · show (mapR _ _ _ _).bind _ = _
            rw [ih fun q hq => hp q (List.mem_cons_of_mem _ hq)]; rfl
          · apply bind_t1
            have := weight_ok n p h (hp p (List.mem_cons_self ..))
            walk_at "ev"
      exact go _ gk
    have e1 : ∀ τ, τ = startD 2 [toD sh] → sA gSum (sCons (sComp (sIt (sA (sN 1 F_inner) (sCons (sV 0) sNil))) t1 (sA (sN 1 (F_weight n)) (sCons (sV 0) sNil)) []) sNil) τ h = .ok (.int (((kids sh).map wt).sum)) (h ++ [.lst ((kids sh).map fun p => D.int (wt p))]) := fun τ eτ => by
      subst eτ
      apply e_a
      · apply e_cons
        · apply e_comp
          · apply e_it
            · apply e_a
              · walk_at "ev"
              · exact e_call rfl (ei h)
            · exact rfl
          · show ((kids sh).map toD).length ≤ 16777216
            rw [List.length_map]; omega
          · exact mp
        · exact e_nil
      · have : (h ++ [O.lst ((kids sh).map fun p => D.int (wt p))])[h.length]? = some (.lst ((kids sh).map fun p => D.int (wt p))) := by simp
        have i2 : intsD ((kids sh).map fun p => D.int (wt p)) = some ((kids sh).map wt) := by
          have := intsD_map ((kids sh).map wt)
          rwa [List.map_map] at this
        simp only [gSum, this, i2]
    cases sh with
    | one s =>
      apply gc_same
      apply body_rt
      unfold b_weight
      simp only [toD, wt]
      walk_at "st"
    | row ps =>
      refine gc_pure (g := [.lst ((kids (.row ps)).map fun p => D.int (wt p))]) ?_ (.inl (by simp [clo]))
      apply body_rt
      unfold b_weight
      have e1 := e1 _ rfl
      rw [show wt (.row ps) = ((kids (.row ps)).map wt).sum by simp only [wt, kids, wts_sum]]
      simp only [toD] at e1 ⊢
      apply t_seq
      · walk_at "st"
      · apply t_seq
        · apply t_set; exact e1
        · walk_at "st"
    | either ps =>
      refine gc_pure (g := [.lst ((kids (.either ps)).map fun p => D.int (wt p))]) ?_ (.inl (by simp [clo]))
      apply body_rt
      unfold b_weight
      have e1 := e1 _ rfl
      rw [show wt (.either ps) = ((kids (.either ps)).map wt).sum by simp only [wt, kids, wts_sum]]
      simp only [toD] at e1 ⊢
      apply t_seq
      · walk_at "st"
      · apply t_seq
        · apply t_set; exact e1
        · walk_at "st"
    | many p =>
      refine gc_pure (g := [.lst ((kids (.many p)).map fun p => D.int (wt p))]) ?_ (.inl (by simp [clo]))
      apply body_rt
      unfold b_weight
      have e1 := e1 _ rfl
      rw [show wt (.many p) = ((kids (.many p)).map wt).sum by simp [wt, kids]]
      simp only [toD] at e1 ⊢
      apply t_seq
      · walk_at "st"
      · apply t_seq
        · apply t_set; exact e1
        · walk_at "st"
    | times p lo hi =>
      refine gc_pure (g := [.lst ((kids (.times p lo hi)).map fun p => D.int (wt p))]) ?_ (.inl (by simp [clo]))
      apply body_rt
      unfold b_weight
      have e1 := e1 _ rfl
      rw [show wt (.times p lo hi) = hi * ((kids (.times p lo hi)).map wt).sum by simp [wt, kids]]
      simp only [toD] at e1 ⊢
      have cm : ∀ z, CMul hi z := fun z => .inl ⟨by have := g.1; omega, by have := g.1; omega⟩
      apply t_seq
      · walk_at "st"
      · apply t_seq
        · apply t_set; exact e1
        · walk_at "st"
/-! ### parts -/
mutual
def parts : Sh → List Sh
  | .one s => [.one s]
  | .row ps => .row ps :: partsL ps
  | .either ps => .either ps :: partsL ps
  | .many p => .many p :: (parts p ++ [])
  | .times p lo hi => .times p lo hi :: (parts p ++ [])
def partsL : List Sh → List Sh
  | [] => []
  | p :: ps => parts p ++ partsL ps
end
theorem parts_eq (sh : Sh) : parts sh = sh :: partsL (kids sh) := by
  cases sh <;> simp [parts, partsL, kids]
theorem partsL_app (xs ys : List Sh) : partsL (xs ++ ys) = partsL xs ++ partsL ys := by
  induction xs with
  | nil => rfl
  | cons x xs ih => simp [partsL, ih]
theorem partsL_len {B : Nat} : ∀ {ps : List Sh}, (∀ p ∈ ps, (parts p).length ≤ B) → (partsL ps).length ≤ ps.length * B
  | [], _ => by simp [partsL]
  | p :: ps, h => by
    have := partsL_len (ps := ps) fun q hq => h q (List.mem_cons_of_mem _ hq)
    have := h p (List.mem_cons_self ..)
    rw [partsL, List.length_append, List.length_cons, Nat.add_mul]
    omega
theorem parts_len : ∀ {n : Nat} {sh : Sh}, good n sh → (parts sh).length ≤ 7 ^ n
  | 0, _, g => g.elim
  | n + 1, sh, g => by
    obtain ⟨k6, gk⟩ := good_kids g
    have := partsL_len (B := 7 ^ n) fun p hp => parts_len (gk p hp)
    have h6 : (kids sh).length * 7 ^ n ≤ 6 * 7 ^ n := Nat.mul_le_mul_right _ k6
    have h1 : 1 ≤ 7 ^ n := Nat.one_le_pow _ _ (by decide)
    rw [parts_eq, List.length_cons, Nat.pow_succ]
    omega
theorem pow_line {n : Nat} (h : n ≤ 8) : 7 ^ n ≤ 5764801 := Nat.le_trans (Nat.pow_le_pow_right (by decide) h) (by decide)
theorem parts_good : ∀ {n : Nat} {sh : Sh}, good n sh → ∀ p ∈ parts sh, good n p
  | 0, _, g => g.elim
  | n + 1, sh, g => fun p hp => by
    obtain ⟨k6, gk⟩ := good_kids g
    rw [parts_eq] at hp
    rcases List.mem_cons.mp hp with rfl | hp
    · exact g
    · have : ∀ ps : List Sh, (∀ q ∈ ps, good n q) → p ∈ partsL ps → good (n + 1) p := by
        intro ps
        induction ps with
        | nil => intro _ h; simp [partsL] at h
        | cons q qs ih =>
          intro hq h
          rw [partsL] at h
          rcases List.mem_append.mp h with h | h
          · exact good_up (parts_good (hq q (List.mem_cons_self ..)) p h)
          · exact ih (fun r hr => hq r (List.mem_cons_of_mem _ hr)) h
      exact this _ gk hp
/-- a part's parts are the stretch that begins with it -/
theorem parts_cut : ∀ {n : Nat} {sh : Sh}, good n sh → ∀ (i : Nat) (p : Sh), (parts sh)[i]? = some p → ((parts sh).drop i).take (parts p).length = parts p
  | 0, _, g => g.elim
  | n + 1, sh, g => fun i p hp => by
    obtain ⟨k6, gk⟩ := good_kids g
    have L : ∀ ps : List Sh, (∀ q ∈ ps, good n q) → ∀ (i : Nat), (partsL ps)[i]? = some p → ((partsL ps).drop i).take (parts p).length = parts p := by
      intro ps
      induction ps with
      | nil => intro _ i h; simp [partsL] at h
      | cons q qs ih =>
        intro hq i h
        rw [partsL] at h ⊢
        by_cases hi : i < (parts q).length
        · rw [List.getElem?_append_left hi] at h
          have e := parts_cut (hq q (List.mem_cons_self ..)) i p h
          have l : (parts p).length ≤ ((parts q).drop i).length := by
            have := congrArg List.length e
            rw [List.length_take] at this; omega
          rw [List.drop_append_of_le_length (by omega), List.take_append_of_le_length l]
          exact e
        · rw [List.getElem?_append_right (by omega)] at h
          rw [List.drop_append, List.drop_eq_nil_of_le (by omega), List.nil_append]
          exact ih (fun r hr => hq r (List.mem_cons_of_mem _ hr)) _ h
    cases i with
    | zero =>
      rw [parts_eq] at hp
      simp at hp
      subst hp
      simp
    | succ i =>
      rw [parts_eq sh] at hp ⊢
      rw [List.getElem?_cons_succ] at hp
      rw [List.drop_succ_cons]
      exact L _ gk i hp
noncomputable def F_parts_of : Nat → SF
  | 0 => fun _ _ => .no
  | n + 1 => gcF (bodyR (b_parts_of F_inner (F_parts_of n)) 3)
theorem forS {ck : Hd → Prop} {g : SG} {b : SS} {ps : List Sh} (I : List Sh → Sd → Hd → Prop) (c : ∀ pre τ h, I pre τ h → ck h)
    (st : ∀ pre p post τ h, ps = pre ++ p :: post → I pre τ h → ∃ τ1 h1, g (toD p) τ h = .nx τ1 h1 ∧ ∃ τ2 h2, b τ1 h1 = .nx τ2 h2 ∧ I (pre ++ [p]) τ2 h2) {τ : Sd} {h : Hd} (i0 : I [] τ h) : ∃ τ' h', forL ck g b (ps.map toD) τ h = .nx τ' h' ∧ I ps τ' h' := by
  have := forL_all (ck := ck) (g := g) (b := b) (ps.map toD) (fun pre τ h => ∃ q post, pre = q.map toD ∧ ps = q ++ post ∧ I q τ h) (fun pre τ h ⟨q, _, _, _, i⟩ => c q τ h i) (fun pre x post τ h e ⟨q, r, e1, e2, i⟩ => by
    subst e1 e2
    rw [List.map_append, List.append_cancel_left_eq] at e
    cases r with
    | nil => cases e
    | cons p r =>
      rw [List.map_cons] at e
      injection e with e3 e4
      subst e3
      obtain ⟨τ1, h1, a1, τ2, h2, a2, a3⟩ := st q p r τ h rfl i
      exact ⟨τ1, h1, a1, τ2, h2, a2, q ++ [p], r, by simp, by simp, a3⟩) (ps.map toD) [] τ h rfl ⟨[], ps, rfl, rfl, i0⟩
  obtain ⟨τ', h', e, q, r, e1, e2, i⟩ := this
  refine ⟨τ', h', e, ?_⟩
  have : r = [] := by
    have l := congrArg List.length e1
    rw [List.length_map, List.length_map, e2, List.length_append] at l
    exact List.eq_nil_of_length_eq_zero (by omega)
  subst this
  rw [List.append_nil] at e2
  rw [e2]; exact i
theorem parts_of_ok : ∀ (n : Nat) (sh : Sh) (h : Hd), n ≤ 8 → good n sh → F_parts_of n [toD sh] h = .ok (.tup ((parts sh).map toD)) h
  | 0, _, _, _, g => g.elim
  | n + 1, sh, h, n8, g => by
    obtain ⟨k6, gk⟩ := good_kids g
    have ei : ∀ h', F_inner [toD sh] h' = .ok (.tup ((kids sh).map toD)) h' := fun h' => inner_ok sh h' g
    have pl := parts_len g
    have pw := pow_line n8
    have lo := forS (ck := fun _ => True) (g := kN 2) (b := sDrop (sML gExt (sV 1) (sCons (sA (sN 1 (F_parts_of n)) (sCons (sV 2) sNil)) sNil))) (ps := kids sh)
      (fun pre τ h' => ∃ t2, τ = [some (toD sh), some (.ref h.length), t2] ∧ h' = h ++ [.lst (toD sh :: (partsL pre).map toD)]) (fun _ _ _ _ => True.intro) ?_ (τ := [some (toD sh), some (.ref h.length), none]) (h := h ++ [.lst [toD sh]]) ⟨none, rfl, rfl⟩
    · obtain ⟨τ', h', e, t2, rfl, rfl⟩ := lo
      refine gc_pure (g := [.lst (toD sh :: (partsL (kids sh)).map toD)]) ?_ (.inl ?_)
      · apply body_rt
        unfold b_parts_of
        apply t_seq
        · apply t_set; walk_at "ev"
        · apply t_seq
          · apply t_for
            · apply e_it
              · apply e_a
                · walk_at "ev"
                · exact e_call rfl (ei _)
              · exact rfl
            · exact e
          · apply t_ret2
            · apply e_a
              · walk_at "ev"
              · have : (h ++ [O.lst (toD sh :: (partsL (kids sh)).map toD)])[h.length]? = some (.lst (toD sh :: (partsL (kids sh)).map toD)) := by simp
                simp only [gTuple, seqD, this]
                exact rfl
            · rw [parts_eq, List.map_cons]
            · rfl
      · simp only [clo]; exact clos_toD _ (parts_good g)
    · rintro pre p post τ h' e ⟨t2, rfl, rfl⟩
      have gp : good n p := gk p (by rw [e]; simp)
      have ih := parts_of_ok n p (h ++ [.lst (toD sh :: (partsL pre).map toD)]) (by omega) gp
      refine ⟨_, _, rfl, [some (toD sh), some (.ref h.length), some (toD p)], h ++ [.lst (toD sh :: (partsL (pre ++ [p])).map toD)], ?_, _, rfl, rfl⟩
      have hx : (h ++ [O.lst (toD sh :: (partsL pre).map toD)])[h.length]? = some (.lst (toD sh :: (partsL pre).map toD)) := by simp
      have hl : (toD sh :: (partsL pre).map toD).length + ((parts p).map toD).length ≤ LINE := by
        have l1 := congrArg (fun l => (partsL l).length) e
        simp only [partsL_app, partsL, List.length_append] at l1
        rw [parts_eq, List.length_cons] at pl
        simp only [List.length_cons, List.length_map]
        show _ ≤ 16777216
        omega
      rw [sDrop, sML]
      rw [show sV 1 ([some (toD sh), some (.ref h.length), t2].set 2 (some (toD p))) (h ++ [O.lst (toD sh :: (partsL pre).map toD)]) = .ok (.ref h.length) (h ++ [O.lst (toD sh :: (partsL pre).map toD)]) from rfl]
      show R.fl (if isL (.ref h.length) (h ++ [O.lst (toD sh :: (partsL pre).map toD)]) = true then _ else _) _ = _
      rw [if_pos (by simp only [isL, hx])]
      rw [show sCons (sA (sN 1 (F_parts_of n)) (sCons (sV 2) sNil)) sNil ([some (toD sh), some (.ref h.length), t2].set 2 (some (toD p))) (h ++ [O.lst (toD sh :: (partsL pre).map toD)]) = .ok [.tup ((parts p).map toD)] (h ++ [O.lst (toD sh :: (partsL pre).map toD)]) from by
        apply e_cons
        · apply e_a
          · walk_at "ev"
          · exact e_call rfl ih
        · exact e_nil]
      show R.fl (gExt (.ref h.length) [.tup ((parts p).map toD)] _) _ = _
      simp only [gExt, hx, if_pos hl]
      show Fl.nx _ _ = _
      rw [List.set_append_right _ _ (Nat.le_refl _)]
      simp [partsL_app, partsL]
end SHF

set_option Elab.async false
set_option linter.all false
set_option maxRecDepth 100000
set_option maxHeartbeats 4000000
namespace SHF
open PySem PySem.Spec L2 MI PEN
open SHP (Sh)
local macro_rules | `(tactic| walk_at "eq") => `(tactic| first | exact rfl | (simp only [List.set_cons_zero, List.set_cons_succ, List.set_set, *] <;> exact rfl))
local macro_rules | `(tactic| walk_at "g") => `(tactic| first | exact rfl | (simp only [gIx, seqD, atI_0, atI_1, atI_2, atI_3, gGt, gGe, gLt, gLe, gAdd, MI.gSub, gMod, gDiv, gPow, gAbs, gInt, gLen, gMax2, gMin2, MI.gTup, MI.gLst, tru, hEq, hNe, pur, eqD, gIs, gIsNot, isNon, gNeg, gIAdd, gMul, List.length_map, *, ite_true, ite_false, if_true, if_false, reduceIte, decide_true, decide_false, and_self, and_true, true_and, Bool.true_eq_false, Nat.reduceLeDiff, List.length_cons, List.length_nil, Nat.reduceAdd, Int.reduceLE, Int.reduceLT, ne_eq, not_false_eq_true, not_true_eq_false] <;> exact rfl) | assumption)
local macro_rules | `(tactic| walk_at "p") => `(tactic| first | exact rfl | (simp only [put, *, List.length_cons, List.length_nil, Nat.reduceAdd, ix31, ix32, ix30, ix10] <;> exact rfl))
local macro_rules | `(tactic| walk_at "ev") => `(tactic| first
  | (with_reducible exact e_c)
  | ((with_reducible apply e_v); exact rfl)
  | (with_reducible exact e_nil)
  | (with_reducible exact e_oN)
  | ((with_reducible apply e_2); walk_at "ev"; walk_at "ev"; walk_at "g")
  | ((with_reducible apply e_1); walk_at "ev"; walk_at "g")
  | ((with_reducible apply e_a); walk_at "ev"; first | ((with_reducible apply e_call); exact rfl; first | assumption | walk_at "g") | walk_at "g")
  | ((with_reducible apply e_cons); walk_at "ev"; walk_at "ev")
  | ((with_reducible apply e_T); walk_at "ev")
  | ((with_reducible apply e_not); walk_at "ev")
  | ((with_reducible apply e_tru); walk_at "ev"; walk_at "g")
  | ((with_reducible apply e_oS); walk_at "ev")
  | ((with_reducible apply e_sl); walk_at "ev"; walk_at "ev"; walk_at "ev"; walk_at "g")
  | ((with_reducible apply e_notV); walk_at "ev")
  | ((with_reducible apply e_andF); walk_at "ev")
  | ((with_reducible apply e_andT); walk_at "ev"; walk_at "ev")
  | ((with_reducible apply e_orT); walk_at "ev")
  | ((with_reducible apply e_orF); walk_at "ev"; walk_at "ev")
  | ((with_reducible apply e_andVF); walk_at "ev")
  | ((with_reducible apply e_andVT); walk_at "ev"; walk_at "ev")
  | ((with_reducible apply e_orVT); walk_at "ev")
  | ((with_reducible apply e_orVF); walk_at "ev"; walk_at "ev")
  | ((with_reducible apply e_ifT); walk_at "ev"; walk_at "ev")
  | ((with_reducible apply e_ifF); walk_at "ev"; walk_at "ev"))
local macro_rules | `(tactic| walk_at "st") => `(tactic| first
  | (with_reducible exact t_nx)
  | ((with_reducible apply t_set2); walk_at "ev"; walk_at "eq"; walk_at "eq")
  | ((with_reducible apply t_ret2); walk_at "ev"; walk_at "eq"; walk_at "eq")
  | ((with_reducible apply t_drop); walk_at "ev")
  | ((with_reducible apply t_put); walk_at "ev"; walk_at "ev"; walk_at "ev"; walk_at "p")
  | ((with_reducible apply t_ifF); walk_at "ev"; walk_at "st")
  | ((with_reducible apply t_ifT); walk_at "ev"; walk_at "st")
  | ((with_reducible apply t_seq); walk_at "st"; walk_at "st")
  | ((with_reducible apply t_seqR); walk_at "st"))
theorem gc_keep {F : SF} {ds : List D} {h h1 : Hd} {r : Nat} (e : F ds h = .ok (.ref r) h1) (l : h.length ≤ r) (m : D.ref r ∉ ds) : gcF F ds h = .ok (.ref r) h1 := by
  unfold gcF
  rw [e]
  dsimp only
  rw [if_neg]
  rintro ⟨_, z | z, _⟩
  · simp only [clo] at z; omega
  · exact m z
theorem toD_tup (sh : Sh) : ∃ xs, toD sh = .tup xs := by cases sh <;> exact ⟨_, rfl⟩
theorem ref_toD (r : Nat) (sh : Sh) : D.ref r ≠ toD sh := by
  obtain ⟨xs, e⟩ := toD_tup sh
  rw [e]; intro z; cases z
theorem add_lists {r j : Nat} {h : Hd} {xs ys : List D} (e1 : h[r]? = some (.lst xs)) (e2 : h[j]? = some (.lst ys)) (l : xs.length + ys.length ≤ LINE) : gAdd (.ref r) (.ref j) h = .ok (.ref h.length) (h ++ [.lst (xs ++ ys)]) := by
  simp only [gAdd, e1, e2, if_pos l]
theorem get_left {h g : Hd} {i : Nat} {o : O} (e : h[i]? = some o) : (h ++ g)[i]? = some o := by
  have : i < h.length := (List.getElem?_eq_some_iff.mp e).1
  rw [List.getElem?_append_left this]; exact e
theorem get_last {h : Hd} {o : O} : (h ++ [o])[h.length]? = some o := by simp
/-- a new list -/
def NewL (h : Hd) (r : R D) (xs : List D) : Prop := ∃ (a : Nat) (g : Hd), r = .ok (.ref a) (h ++ g) ∧ h.length ≤ a ∧ (h ++ g)[a]? = some (.lst xs)
noncomputable def F_law_parts : Nat → SF
  | 0 => fun _ _ => .no
  | n + 1 => gcF (bodyR (b_law_parts F_inner (F_law_parts n)) 3)
theorem law_parts_ok : ∀ (n : Nat) (sh : Sh) (h : Hd), n ≤ 8 → good n sh → NewL h (F_law_parts n [toD sh] h) ((parts sh).map toD)
  | 0, _, _, _, g => g.elim
  | n + 1, sh, h, n8, g => by
    obtain ⟨k6, gk⟩ := good_kids g
    have ei : ∀ h', F_inner [toD sh] h' = .ok (.tup ((kids sh).map toD)) h' := fun h' => inner_ok sh h' g
    have pl := parts_len g
    have pw := pow_line n8
    have lo := forS (ck := fun _ => True) (g := kN 2) (b := sSet 1 (s2 gAdd (sV 1) (sA (sN 1 (F_law_parts n)) (sCons (sV 2) sNil)))) (ps := kids sh)
      (fun pre τ h' => ∃ t2 a g, τ = [some (toD sh), some (.ref a), t2] ∧ h' = h ++ g ∧ h.length ≤ a ∧ h'[a]? = some (.lst (toD sh :: (partsL pre).map toD))) (fun _ _ _ _ => True.intro) ?_ (τ := [some (toD sh), some (.ref h.length), none]) (h := h ++ [.lst [toD sh]]) ⟨none, h.length, _, rfl, rfl, Nat.le_refl _, get_last⟩
    · obtain ⟨τ', h', e, t2, a, g, rfl, rfl, la, ea⟩ := lo
      refine ⟨a, g, ?_, la, by rw [parts_eq, List.map_cons]; exact ea⟩
      refine gc_keep ?_ la (by simp [ref_toD])
      apply body_rt
      unfold b_law_parts
      apply t_seq
      · apply t_set; walk_at "ev"
      · apply t_seq
        · apply t_for
          · apply e_it
            · apply e_a
              · walk_at "ev"
              · exact e_call rfl (ei _)
            · exact rfl
          · exact e
        · walk_at "st"
    · rintro pre p post τ h' e ⟨t2, a, g, rfl, rfl, la, ea⟩
      have gp : good n p := gk p (by rw [e]; simp)
      obtain ⟨a2, g2, ih, la2, ea2⟩ := law_parts_ok n p (h ++ g) (by omega) gp
      have hl : (toD sh :: (partsL pre).map toD).length + ((parts p).map toD).length ≤ LINE := by
        have l1 := congrArg (fun l => (partsL l).length) e
        simp only [partsL_app, partsL, List.length_append] at l1
        rw [parts_eq, List.length_cons] at pl
        simp only [List.length_cons, List.length_map]
        show _ ≤ 16777216
        omega
      refine ⟨_, _, rfl, [some (toD sh), some (.ref (h ++ g ++ g2).length), some (toD p)], h ++ g ++ g2 ++ [.lst ((toD sh :: (partsL pre).map toD) ++ (parts p).map toD)], ?_, _, _, g ++ g2 ++ [.lst ((toD sh :: (partsL pre).map toD) ++ (parts p).map toD)], rfl, by simp, by simp, by rw [get_last]; simp [partsL_app, partsL]⟩
      apply t_set2
      · apply e_2
        · apply e_v; exact rfl
        · apply e_a
          · walk_at "ev"
          · exact e_call rfl ih
        · exact add_lists (get_left ea) ea2 hl
      · exact rfl
      · exact rfl
/-! ### weights one by one -/
mutual
def lw : Sh → Int → List Int
  | .one _, o => [o]
  | .row ps, o => lws ps o
  | .either ps, o => lws ps o
  | .many p, o => lw p o ++ []
  | .times p _ hi, o => lw p (o * hi) ++ []
def lws : List Sh → Int → List Int
  | [], _ => []
  | p :: ps, o => lw p o ++ lws ps o
end
def lo1 : Sh → Int → Int
  | .times _ _ hi, o => o * hi
  | _, o => o
def isOne : Sh → Bool
  | .one _ => true
  | _ => false
theorem lw_eq (sh : Sh) (o : Int) (h : isOne sh = false) : lw sh o = lws (kids sh) (lo1 sh o) := by
  cases sh with
  | one s => cases h
  | _ => simp only [lw, lws, kids, lo1]
theorem lws_app (xs ys : List Sh) (o : Int) : lws (xs ++ ys) o = lws xs o ++ lws ys o := by
  induction xs with
  | nil => rfl
  | cons x xs ih => simp [lws, ih]
theorem lws_sum {o : Int} : ∀ {ps : List Sh}, (∀ p ∈ ps, (lw p o).sum = o * wt p) → (lws ps o).sum = o * wts ps
  | [], _ => by simp [lws, wts]
  | p :: ps, h => by
    rw [lws, wts, List.sum_append_int, h p (List.mem_cons_self ..), lws_sum fun q hq => h q (List.mem_cons_of_mem _ hq), Int.mul_add]
theorem lw_sum : ∀ {n : Nat} {sh : Sh} (o : Int), good n sh → (lw sh o).sum = o * wt sh
  | 0, _, _, g => g.elim
  | n + 1, .one s, o, g => by simp [lw, wt]
  | n + 1, .row ps, o, g => by rw [lw, wt]; exact lws_sum fun p hp => lw_sum o (g.2 p hp)
  | n + 1, .either ps, o, g => by rw [lw, wt]; exact lws_sum fun p hp => lw_sum o (g.2 p hp)
  | n + 1, .many p, o, g => by
    rw [lw, wt, List.append_nil]; exact lw_sum o (n := n) g
  | n + 1, .times p l hi, o, g => by
    rw [lw, wt, List.append_nil, lw_sum _ g.2, Int.mul_assoc]
theorem lws_len {B : Nat} {o : Int} : ∀ {ps : List Sh}, (∀ p ∈ ps, (lw p o).length ≤ B) → (lws ps o).length ≤ ps.length * B
  | [], _ => by simp [lws]
  | p :: ps, h => by
    have := lws_len (ps := ps) fun q hq => h q (List.mem_cons_of_mem _ hq)
    have := h p (List.mem_cons_self ..)
    rw [lws, List.length_append, List.length_cons, Nat.add_mul]
    omega
theorem lw_len : ∀ {n : Nat} {sh : Sh} (o : Int), good n sh → (lw sh o).length ≤ 7 ^ n
  | 0, _, _, g => g.elim
  | n + 1, sh, o, g => by
    obtain ⟨k6, gk⟩ := good_kids g
    have h1 : 1 ≤ 7 ^ n := Nat.one_le_pow _ _ (by decide)
    cases hb : isOne sh with
    | true =>
      cases sh with
      | one s => simp only [lw, List.length_cons, List.length_nil, Nat.pow_succ]; omega
      | _ => cases hb
    | false =>
      have := lws_len (B := 7 ^ n) (o := lo1 sh o) fun p hp => lw_len _ (gk p hp)
      have h6 : (kids sh).length * 7 ^ n ≤ 6 * 7 ^ n := Nat.mul_le_mul_right _ k6
      rw [lw_eq sh o hb, Nat.pow_succ]
      omega
noncomputable def F_law_weights : Nat → SF
  | 0 => fun _ _ => .no
  | n + 1 => gcF (bodyR (b_law_weights F_inner (F_law_weights n)) 4)
theorem law_weights_ok : ∀ (n : Nat) (sh : Sh) (o : Int) (h : Hd), n ≤ 8 → good n sh → NewL h (F_law_weights n [toD sh, .int o] h) ((lw sh o).map D.int)
  | 0, _, _, _, _, g => g.elim
  | n + 1, sh, o, h, n8, g => by
    obtain ⟨k6, gk⟩ := good_kids g
    have ei : ∀ h', F_inner [toD sh] h' = .ok (.tup ((kids sh).map toD)) h' := fun h' => inner_ok sh h' g
    have pl := lw_len o g
    have pw := pow_line n8
    cases hb : isOne sh with
    | true =>
      cases sh with
      | one s =>
        refine ⟨h.length, [.lst [.int o]], ?_, Nat.le_refl _, get_last⟩
        refine gc_keep ?_ (Nat.le_refl _) (by simp [ref_toD])
        apply body_rt
        unfold b_law_weights
        simp only [toD]
        walk_at "st"
      | _ => cases hb
    | false =>
      have f1 : (sIf (sT (s2 hEq (s2 gIx (sV 0) (sC (.int 0))) (sC (.str "one")))) (sRet (sA gLst (sCons (sV 1) sNil))) sNx) [some (toD sh), some (.int o), none, none] h = .nx [some (toD sh), some (.int o), none, none] h := by
        cases sh with
        | one s => cases hb
        | row ps => simp only [toD]; walk_at "st"
        | either ps => simp only [toD]; walk_at "st"
        | many p => simp only [toD]; walk_at "st"
        | times p l hi => simp only [toD]; walk_at "st"
      have f2 : (sIf (sT (s2 hEq (s2 gIx (sV 0) (sC (.int 0))) (sC (.str "times")))) (sSet 1 (s2 gMul (sV 1) (s2 gIx (sV 0) (sC (.int 3))))) sNx) [some (toD sh), some (.int o), none, none] h = .nx [some (toD sh), some (.int (lo1 sh o)), none, none] h := by
        cases sh with
        | one s => cases hb
        | row ps => simp only [toD, lo1]; walk_at "st"
        | either ps => simp only [toD, lo1]; walk_at "st"
        | many p => simp only [toD, lo1]; walk_at "st"
        | times p l hi =>
          have cm : CMul o hi := .inr ⟨by have := g.1; omega, by have := g.1; omega⟩
          simp only [toD, lo1]; walk_at "st"
      have lo := forS (ck := fun _ => True) (g := kN 3) (b := sSet 2 (s2 gAdd (sV 2) (sA (sN 2 (F_law_weights n)) (sCons (sV 3) (sCons (sV 1) sNil))))) (ps := kids sh)
        (fun pre τ h' => ∃ t3 a g, τ = [some (toD sh), some (.int (lo1 sh o)), some (.ref a), t3] ∧ h' = h ++ g ∧ h.length ≤ a ∧ h'[a]? = some (.lst ((lws pre (lo1 sh o)).map D.int))) (fun _ _ _ _ => True.intro) ?_ (τ := [some (toD sh), some (.int (lo1 sh o)), some (.ref h.length), none]) (h := h ++ [.lst []]) ⟨none, h.length, _, rfl, rfl, Nat.le_refl _, get_last⟩
      · obtain ⟨τ', h', e, t2, a, g, rfl, rfl, la, ea⟩ := lo
        refine ⟨a, g, ?_, la, by rw [lw_eq sh o hb]; exact ea⟩
        refine gc_keep ?_ la (by simp [ref_toD])
        apply body_rt
        unfold b_law_weights
        apply t_seq
        · exact f1
        · apply t_seq
          · exact f2
          · apply t_seq
            · apply t_set; walk_at "ev"
            · apply t_seq
              · apply t_for
                · apply e_it
                  · apply e_a
                    · walk_at "ev"
                    · exact e_call rfl (ei _)
                  · exact rfl
                · exact e
              · walk_at "st"
      · rintro pre p post τ h' e ⟨t2, a, g, rfl, rfl, la, ea⟩
        have gp : good n p := gk p (by rw [e]; simp)
        obtain ⟨a2, g2, ih, la2, ea2⟩ := law_weights_ok n p (lo1 sh o) (h ++ g) (by omega) gp
        have hl : ((lws pre (lo1 sh o)).map D.int).length + ((lw p (lo1 sh o)).map D.int).length ≤ LINE := by
          have l1 := congrArg (fun l => (lws l (lo1 sh o)).length) e
          simp only [lws_app, lws, List.length_append] at l1
          rw [lw_eq sh o hb] at pl
          simp only [List.length_map]
          show _ ≤ 16777216
          omega
        refine ⟨_, _, rfl, [some (toD sh), some (.int (lo1 sh o)), some (.ref (h ++ g ++ g2).length), some (toD p)], h ++ g ++ g2 ++ [.lst ((lws pre (lo1 sh o)).map D.int ++ (lw p (lo1 sh o)).map D.int)], ?_, _, _, g ++ g2 ++ [.lst ((lws pre (lo1 sh o)).map D.int ++ (lw p (lo1 sh o)).map D.int)], rfl, by simp, by simp, by rw [get_last]; simp [lws_app, lws]⟩
        apply t_set2
        · apply e_2
          · apply e_v; exact rfl
          · apply e_a
            · walk_at "ev"
            · exact e_call rfl ih
          · exact add_lists (get_left ea) ea2 hl
        · exact rfl
        · exact rfl
end SHF

set_option Elab.async false
set_option linter.all false
set_option maxRecDepth 100000
set_option maxHeartbeats 4000000
namespace SHF
open PySem PySem.Spec L2 MI PEN
open SHP (Sh)
local macro_rules | `(tactic| walk_at "eq") => `(tactic| first | exact rfl | (simp only [List.set_cons_zero, List.set_cons_succ, List.set_set, *] <;> exact rfl))
local macro_rules | `(tactic| walk_at "g") => `(tactic| first | exact rfl | (simp only [gIx, seqD, atI_0, atI_1, atI_2, atI_3, gGt, gGe, gLt, gLe, gAdd, MI.gSub, gMod, gDiv, gPow, gAbs, gInt, gLen, gMax2, gMin2, MI.gTup, MI.gLst, tru, hEq, hNe, pur, eqD, gIs, gIsNot, isNon, gNeg, gIAdd, gMul, List.length_map, *, ite_true, ite_false, if_true, if_false, reduceIte, decide_true, decide_false, and_self, and_true, true_and, Bool.true_eq_false, Nat.reduceLeDiff, List.length_cons, List.length_nil, Nat.reduceAdd, Int.reduceLE, Int.reduceLT, ne_eq, not_false_eq_true, not_true_eq_false] <;> exact rfl) | assumption)
local macro_rules | `(tactic| walk_at "p") => `(tactic| first | exact rfl | (simp only [put, *, List.length_cons, List.length_nil, Nat.reduceAdd, ix31, ix32, ix30, ix10] <;> exact rfl))
local macro_rules | `(tactic| walk_at "ev") => `(tactic| first
  | (with_reducible exact e_c)
  | ((with_reducible apply e_v); exact rfl)
  | (with_reducible exact e_nil)
  | (with_reducible exact e_oN)
  | ((with_reducible apply e_2); walk_at "ev"; walk_at "ev"; walk_at "g")
  | ((with_reducible apply e_1); walk_at "ev"; walk_at "g")
  | ((with_reducible apply e_a); walk_at "ev"; first | ((with_reducible apply e_call); exact rfl; first | assumption | walk_at "g") | walk_at "g")
  | ((with_reducible apply e_cons); walk_at "ev"; walk_at "ev")
  | ((with_reducible apply e_T); walk_at "ev")
  | ((with_reducible apply e_not); walk_at "ev")
  | ((with_reducible apply e_tru); walk_at "ev"; walk_at "g")
  | ((with_reducible apply e_oS); walk_at "ev")
  | ((with_reducible apply e_sl); walk_at "ev"; walk_at "ev"; walk_at "ev"; walk_at "g")
  | ((with_reducible apply e_notV); walk_at "ev")
  | ((with_reducible apply e_andF); walk_at "ev")
  | ((with_reducible apply e_andT); walk_at "ev"; walk_at "ev")
  | ((with_reducible apply e_orT); walk_at "ev")
  | ((with_reducible apply e_orF); walk_at "ev"; walk_at "ev")
  | ((with_reducible apply e_andVF); walk_at "ev")
  | ((with_reducible apply e_andVT); walk_at "ev"; walk_at "ev")
  | ((with_reducible apply e_orVT); walk_at "ev")
  | ((with_reducible apply e_orVF); walk_at "ev"; walk_at "ev")
  | ((with_reducible apply e_ifT); walk_at "ev"; walk_at "ev")
  | ((with_reducible apply e_ifF); walk_at "ev"; walk_at "ev"))
local macro_rules | `(tactic| walk_at "st") => `(tactic| first
  | (with_reducible exact t_nx)
  | ((with_reducible apply t_set2); walk_at "ev"; walk_at "eq"; walk_at "eq")
  | ((with_reducible apply t_ret2); walk_at "ev"; walk_at "eq"; walk_at "eq")
  | ((with_reducible apply t_drop); walk_at "ev")
  | ((with_reducible apply t_put); walk_at "ev"; walk_at "ev"; walk_at "ev"; walk_at "p")
  | ((with_reducible apply t_ifF); walk_at "ev"; walk_at "st")
  | ((with_reducible apply t_ifT); walk_at "ev"; walk_at "st")
  | ((with_reducible apply t_seq); walk_at "st"; walk_at "st")
  | ((with_reducible apply t_seqR); walk_at "st"))
/-! ### the same -/
def nice : Nat → D → Prop
  | 0, _ => False
  | _ + 1, .int _ => True
  | _ + 1, .str _ => True
  | n + 1, .tup xs => ∀ d ∈ xs, nice n d
  | _ + 1, _ => False
theorem nice_up : ∀ {n : Nat} {d : D}, nice n d → nice (n + 1) d
  | 0, _, h => h.elim
  | n + 1, .int _, _ => True.intro
  | n + 1, .str _, _ => True.intro
  | n + 1, .tup xs, h => fun d hd => nice_up (h d hd)
  | n + 1, .non, h => h.elim
  | n + 1, .bl _, h => h.elim
  | n + 1, .ty _, h => h.elim
  | n + 1, .rol _, h => h.elim
  | n + 1, .ref _, h => h.elim
theorem nice_le {n m : Nat} {d : D} (h : nice n d) (l : n ≤ m) : nice m d := by
  induction l with
  | refl => exact h
  | step _ ih => exact nice_up ih
theorem nice_toD : ∀ {n : Nat} {sh : Sh}, good n sh → nice (2 * n) (toD sh)
  | 0, _, h => h.elim
  | n + 1, .one s, _ => by
    intro d hd
    simp only [List.mem_cons, List.not_mem_nil, or_false] at hd
    rcases hd with rfl | rfl <;> exact True.intro
  | n + 1, .row ps, h => by
    intro d hd
    simp only [List.mem_cons, List.not_mem_nil, or_false] at hd
    rcases hd with rfl | rfl
    · exact True.intro
    · intro d hd
      rw [toDs_map] at hd
      obtain ⟨p, hp, rfl⟩ := List.mem_map.mp hd
      exact nice_toD (h.2 p hp)
  | n + 1, .either ps, h => by
    intro d hd
    simp only [List.mem_cons, List.not_mem_nil, or_false] at hd
    rcases hd with rfl | rfl
    · exact True.intro
    · intro d hd
      rw [toDs_map] at hd
      obtain ⟨p, hp, rfl⟩ := List.mem_map.mp hd
      exact nice_toD (h.2 p hp)
  | n + 1, .many p, h => by
    intro d hd
    simp only [List.mem_cons, List.not_mem_nil, or_false] at hd
    rcases hd with rfl | rfl
    · exact True.intro
    · exact nice_up (nice_toD (n := n) h)
  | n + 1, .times p lo hi, h => by
    intro d hd
    simp only [List.mem_cons, List.not_mem_nil, or_false] at hd
    rcases hd with rfl | rfl | rfl | rfl
    · exact True.intro
    · exact nice_up (nice_toD h.2)
    · exact True.intro
    · exact True.intro
noncomputable def F_law_same : Nat → SF
  | 0 => fun _ _ => .no
  | n + 1 => gcF (bodyR (b_law_same (F_law_same n)) 4)
theorem same_ok : ∀ (n : Nat) (d : D) (h : Hd), nice n d → F_law_same n [d, d] h = .ok (.bl true) h
  | 0, _, _, g => g.elim
  | n + 1, .int i, h, _ => by
    apply gc_same
    apply body_rt
    unfold b_law_same
    have q1 : gIsi [.int i, .ty "tuple"] h = .ok (.bl false) h := by rfl
    have q2 : gIsi [.int i, .ty "str"] h = .ok (.bl false) h := by rfl
    have q3 : gIsi [.int i, .ty "int"] h = .ok (.bl true) h := by rfl
    have q4 : gIsi [.int i, .ty "bool"] h = .ok (.bl false) h := by rfl
    have q5 : hEq (.int i) (.int i) h = .ok (.bl true) h := by simp [hEq, pur, eqD]
    apply t_seq
    · walk_at "st"
    · apply t_seq
      · walk_at "st"
      · apply t_ret
        exact e_andVT (e_a (e_cons (e_v rfl) (e_cons e_c e_nil)) q3) (e_andVT (e_notV (b := false) (e_a (e_cons (e_v rfl) (e_cons e_c e_nil)) q4)) (e_2 (e_v rfl) (e_v rfl) q5))
  | n + 1, .str i, h, _ => by
    apply gc_same
    apply body_rt
    unfold b_law_same
    have q1 : gIsi [.str i, .ty "tuple"] h = .ok (.bl false) h := by rfl
    have q2 : gIsi [.str i, .ty "str"] h = .ok (.bl true) h := by rfl
    have q5 : hEq (.str i) (.str i) h = .ok (.bl true) h := by simp [hEq, pur, eqD]
    apply t_seq
    · walk_at "st"
    · apply t_seqR
      apply t_ifT
      · walk_at "ev"
      · apply t_ret
        walk_at "ev"
  | n + 1, .tup xs, h, g => by
    apply gc_same
    apply body_rt
    unfold b_law_same
    have q1 : gIsi [.tup xs, .ty "tuple"] h = .ok (.bl true) h := by rfl
    have q5 : hNe (.int xs.length) (.int xs.length) h = .ok (.bl false) h := by simp [hNe, pur, eqD]
    have all : ∀ y ∈ ((xs.zip xs).map fun p => D.tup [p.1, p.2]), ∃ x, y = .tup [x, x] ∧ nice n x := by
      intro y hy
      obtain ⟨⟨a, b⟩, hp, rfl⟩ := List.mem_map.mp hy
      have zz : ∀ l : List D, (a, b) ∈ l.zip l → a = b ∧ a ∈ l := by
        intro l
        induction l with
        | nil => intro z; simp at z
        | cons c l ih =>
          intro z
          rw [List.zip_cons_cons, List.mem_cons] at z
          rcases z with z | z
          · injection z with z1 z2; subst z1 z2; exact ⟨rfl, List.mem_cons_self ..⟩
          · exact ⟨(ih z).1, List.mem_cons_of_mem _ (ih z).2⟩
      obtain ⟨rfl, ha⟩ := zz xs hp
      exact ⟨a, rfl, g a ha⟩
    have lo := forL_all (ck := fun _ => True ∧ True) (g := kTup 2 (kCons (kN 2) (kCons (kN 3) kNil))) (b := sIf (sNot (sTru (sA (sN 2 (F_law_same n)) (sCons (sV 2) (sCons (sV 3) sNil))))) (sRet (sC (.bl false))) sNx) ((xs.zip xs).map fun p => D.tup [p.1, p.2])
      (fun pre τ h' => ∃ t2 t3, τ = [some (.tup xs), some (.tup xs), t2, t3] ∧ h' = h) (fun _ _ _ _ => ⟨True.intro, True.intro⟩) ?_ _ [] [some (.tup xs), some (.tup xs), none, none] h rfl ⟨none, none, rfl, rfl⟩
    · obtain ⟨τ', h', e, t2, t3, rfl, rfl⟩ := lo
      apply t_seqR
      apply t_ifT
      · walk_at "ev"
      · apply t_seq
        · apply t_ifF
          · exact e_orF (e_not (b := true) (e_tru (e_a (e_cons (e_v rfl) (e_cons e_c e_nil)) q1) rfl)) (e_T (e_2 (e_a (e_cons (e_v rfl) e_nil) rfl) (e_a (e_cons (e_v rfl) e_nil) rfl) q5))
          · exact t_nx
        · apply t_seq
          · apply t_for
            · exact rfl
            · exact e
          · walk_at "st"
    · rintro pre y post τ h' e ⟨t2, t3, rfl, rfl⟩
      obtain ⟨x, rfl, nx⟩ := all y (by rw [e]; simp)
      refine ⟨[some (.tup xs), some (.tup xs), some x, some x], h', rfl, [some (.tup xs), some (.tup xs), some x, some x], h', ?_, _, _, rfl, rfl⟩
      have ih := same_ok n x h' nx
      apply t_ifF
      · exact e_not (b := true) (e_tru (e_a (e_cons (e_v rfl) (e_cons (e_v rfl) e_nil)) (e_call rfl ih)) rfl)
      · exact t_nx
  | n + 1, .non, _, h => h.elim
  | n + 1, .bl _, _, h => h.elim
  | n + 1, .ty _, _, h => h.elim
  | n + 1, .rol _, _, h => h.elim
  | n + 1, .ref _, _, h => h.elim
/-! ### right -/
noncomputable def F_law_right : SF := gcF (bodyR (b_law_right (F_law_parts 6) (F_law_same 13) (F_law_weights 6) (F_parts_of 6) (F_weight 6)) 5)
theorem right_ok (sh : Sh) (h : Hd) (g : good 6 sh) : F_law_right [toD sh] h = .ok (.bl true) h := by
  obtain ⟨a, g1, e1, la, ea⟩ := law_parts_ok 6 sh h (by decide) g
  have pl := parts_len g
  have pw : 7 ^ 6 = 117649 := by decide
  have wt_ok : ∀ (τ : Sd) (h' : Hd), τ[0]? = some (some (toD sh)) → ∃ g2, sA (sN 2 (F_law_same 13)) (sCons (sA (sN 1 (F_weight 6)) (sCons (sV 0) sNil)) (sCons (sA gSum (sCons (sA (sN 2 (F_law_weights 6)) (sCons (sV 0) (sCons (sC (.int 1)) sNil))) sNil)) sNil)) τ h' = .ok (.bl true) (h' ++ g2) := by
    intro τ h' e0
    obtain ⟨a2, g2, e2, la2, ea2⟩ := law_weights_ok 6 sh 1 h' (by decide) g
    refine ⟨g2, ?_⟩
    have sm : gSum [.ref a2] (h' ++ g2) = .ok (.int (wt sh)) (h' ++ g2) := by
      simp only [gSum, ea2, intsD_map, lw_sum 1 g, Int.one_mul]
    exact e_a (e_cons (e_a (e_cons (e_v e0) e_nil) (e_call rfl (weight_ok 6 sh h' g))) (e_cons (e_a (e_cons (e_a (e_cons (e_v e0) (e_cons e_c e_nil)) (e_call rfl e2)) e_nil) sm) e_nil)) (e_call rfl (same_ok 13 (.int (wt sh)) _ True.intro))
  obtain ⟨g2, w1⟩ := wt_ok [some (toD sh), some (.ref a), none, none, none] (h ++ g1) rfl
  have po := fun h' => parts_of_ok 6 sh h' (by decide) g
  have sp : ∀ h', F_law_same 13 [.tup ((parts sh).map toD), .tup ((parts sh).map toD)] h' = .ok (.bl true) h' := fun h' => same_ok 13 _ h' (by
    intro d hd
    obtain ⟨p, hp, rfl⟩ := List.mem_map.mp hd
    exact nice_toD (parts_good g p hp))
  have tp : gTuple [.ref a] (h ++ g1 ++ g2) = .ok (.tup ((parts sh).map toD)) (h ++ g1 ++ g2) := by
    simp only [gTuple, seqD, get_left (g := g2) ea]
  have lo := forL_all (ck := fun _ => True) (g := kN 3) (b := (sSeq (sSet 4 (sA gLen (sCons (sA (sN 1 (F_law_parts 6)) (sCons (s2 gIx (sV 1) (sV 3)) sNil)) sNil)))
   (sIf (sT (s2 hNe (sA (sN 1 (F_parts_of 6)) (sCons (s2 gIx (sV 2) (sV 3)) sNil)) (sSl2 (sV 2) (oS (sV 3)) (oS (s2 gAdd (sV 3) (sV 4)))))) (sRet (sC (.bl false))) sNx))) (rng 0 ((parts sh).length : Int).toNat)
    (fun pre τ h' => ∃ t3 t4 g', τ = [some (toD sh), some (.ref a), some (.tup ((parts sh).map toD)), t3, t4] ∧ h' = h ++ g1 ++ g') (fun _ _ _ _ => True.intro) ?_ _ [] [some (toD sh), some (.ref a), some (.tup ((parts sh).map toD)), none, none] (h ++ g1 ++ g2) rfl ⟨none, none, g2, rfl, rfl⟩
  · obtain ⟨τ', h', e, t3, t4, g3, rfl, rfl⟩ := lo
    obtain ⟨g4, w2⟩ := wt_ok [some (toD sh), some (.ref a), some (.tup ((parts sh).map toD)), t3, t4] (h ++ g1 ++ g3) rfl
    refine gc_pure (g := g1 ++ g3 ++ g4) ?_ (.inl (by simp [clo]))
    apply body_rt
    unfold b_law_right
    apply t_seq
    · apply t_set
      exact e_a (e_cons (e_v rfl) e_nil) (e_call rfl e1)
    · apply t_seq
      · apply t_ifF
        · exact e_not (b := true) (e_tru w1 rfl)
        · exact t_nx
      · apply t_seq
        · apply t_set
          exact e_a (e_cons (e_v rfl) e_nil) (e_call rfl (po _))
        · apply t_seq
          · apply t_ifF
            · exact e_not (b := true) (e_tru (e_a (e_cons (e_v rfl) (e_cons (e_a (e_cons (e_v rfl) e_nil) tp) e_nil)) (e_call rfl (sp _))) rfl)
            · exact t_nx
          · apply t_seq
            · apply t_for
              · apply e_rg1
                · apply e_cons
                  · apply e_a
                    · exact e_cons (e_v rfl) e_nil
                    · simp only [gLen, seqD, get_left (g := g2) ea, List.length_map]; exact rfl
                  · exact e_nil
                · constructor <;> omega
              · exact e
            · apply t_ret2
              · exact w2
              · rfl
              · simp
  · rintro pre x post τ h' e ⟨t3, t4, g3, rfl, rfl⟩
    obtain ⟨i, hi, rfl⟩ : ∃ i, i < (parts sh).length ∧ x = D.int (i : Nat) := by
      have : x ∈ rng 0 ((parts sh).length : Int).toNat := by rw [e]; simp
      simp only [rng, List.mem_map, List.mem_range] at this
      obtain ⟨i, hi, rfl⟩ := this
      exact ⟨i, by omega, by simp⟩
    have hg : (parts sh)[i]? = some (parts sh)[i] := List.getElem?_eq_getElem hi
    generalize (parts sh)[i] = p at hg
    have gp : good 6 p := parts_good g p (List.mem_of_getElem? hg)
    obtain ⟨a5, g5, e5, la5, ea5⟩ := law_parts_ok 6 p (h ++ g1 ++ g3) (by decide) gp
    have at1 : atI ((parts sh).map toD) (i : Nat) = some (toD p) := atI_nat (by rw [List.getElem?_map, hg]; rfl)
    have cut := parts_cut g i p hg
    have cl : cutL ((parts sh).map toD) (some ((i : Nat) : Int)) (some (((i : Nat) : Int) + ((parts p).length : Int))) = (parts p).map toD := by
      have := cutL_ft ((parts sh).map toD) i (i + (parts p).length)
      rw [show (((i + (parts p).length : Nat)) : Int) = ((i : Nat) : Int) + ((parts p).length : Int) by omega] at this
      rw [this, Nat.add_sub_cancel_left, ← List.map_drop, ← List.map_take, cut]
    have pr : pur 60 (.tup ((parts p).map toD)) = true := by
      show (((parts p).map toD).all (pur 59)) = true
      rw [List.all_eq_true]
      intro d hd
      obtain ⟨q, hq, rfl⟩ := List.mem_map.mp hd
      exact pur_up (by decide) (pur_toD (parts_good gp q hq))
    have ne : ∀ h', hNe (.tup ((parts p).map toD)) (.tup ((parts p).map toD)) h' = .ok (.bl false) h' := fun h' => by
      simp only [hNe, pr, eqD_refl _ _ pr, and_self, if_true, Bool.not_true]
    refine ⟨_, _, rfl, [some (toD sh), some (.ref a), some (.tup ((parts sh).map toD)), some (.int (i : Nat)), some (.int ((parts p).length : Nat))], h ++ g1 ++ g3 ++ g5, ?_, _, _, g3 ++ g5, rfl, by simp⟩
    apply t_seq
    · apply t_set
      apply e_a
      · apply e_cons
        · apply e_a
          · apply e_cons
            · apply e_2
              · apply e_v; exact rfl
              · apply e_v; exact rfl
              · simp only [gIx, seqD, get_left (g := g3) ea, at1]; exact rfl
            · exact e_nil
          · exact e_call rfl e5
        · exact e_nil
      · simp only [gLen, seqD, ea5, List.length_map]; exact rfl
    · apply t_ifF
      · apply e_T
        apply e_2
        · apply e_a
          · apply e_cons
            · apply e_2
              · apply e_v; exact rfl
              · apply e_v; exact rfl
              · simp only [gIx, seqD, at1]; exact rfl
            · exact e_nil
          · exact e_call rfl (parts_of_ok 6 p _ (by decide) gp)
        · apply e_sl
          · apply e_v; exact rfl
          · apply e_oS; apply e_v; exact rfl
          · apply e_oS
            apply e_2
            · apply e_v; exact rfl
            · apply e_v; exact rfl
            · exact rfl
          · rw [gSl2_tup, cl]
        · exact ne _
      · exact t_nx
end SHF

set_option Elab.async false
set_option linter.all false
set_option maxRecDepth 100000
set_option maxHeartbeats 4000000
namespace SHF
open PySem PySem.Spec L2 MI PEN
open SHP (Sh)
local macro_rules | `(tactic| walk_at "eq") => `(tactic| first | exact rfl | (simp only [List.set_cons_zero, List.set_cons_succ, List.set_set, *] <;> exact rfl))
local macro_rules | `(tactic| walk_at "g") => `(tactic| first | exact rfl | (simp only [gIx, seqD, atI_0, atI_1, atI_2, atI_3, gGt, gGe, gLt, gLe, gAdd, MI.gSub, gMod, gDiv, gPow, gAbs, gInt, gLen, gMax2, gMin2, MI.gTup, MI.gLst, tru, hEq, hNe, pur, eqD, gIs, gIsNot, isNon, gNeg, gIAdd, gMul, List.length_map, *, ite_true, ite_false, if_true, if_false, reduceIte, decide_true, decide_false, and_self, and_true, true_and, Bool.true_eq_false, Nat.reduceLeDiff, List.length_cons, List.length_nil, Nat.reduceAdd, Int.reduceLE, Int.reduceLT, ne_eq, not_false_eq_true, not_true_eq_false] <;> exact rfl) | assumption)
local macro_rules | `(tactic| walk_at "p") => `(tactic| first | exact rfl | (simp only [put, *, List.length_cons, List.length_nil, Nat.reduceAdd, ix31, ix32, ix30, ix10] <;> exact rfl))
local macro_rules | `(tactic| walk_at "ev") => `(tactic| first
  | (with_reducible exact e_c)
  | ((with_reducible apply e_v); exact rfl)
  | (with_reducible exact e_nil)
  | (with_reducible exact e_oN)
  | ((with_reducible apply e_2); walk_at "ev"; walk_at "ev"; walk_at "g")
  | ((with_reducible apply e_1); walk_at "ev"; walk_at "g")
  | ((with_reducible apply e_a); walk_at "ev"; first | ((with_reducible apply e_call); exact rfl; first | assumption | walk_at "g") | walk_at "g")
  | ((with_reducible apply e_cons); walk_at "ev"; walk_at "ev")
  | ((with_reducible apply e_T); walk_at "ev")
  | ((with_reducible apply e_not); walk_at "ev")
  | ((with_reducible apply e_tru); walk_at "ev"; walk_at "g")
  | ((with_reducible apply e_oS); walk_at "ev")
  | ((with_reducible apply e_sl); walk_at "ev"; walk_at "ev"; walk_at "ev"; walk_at "g")
  | ((with_reducible apply e_notV); walk_at "ev")
  | ((with_reducible apply e_andF); walk_at "ev")
  | ((with_reducible apply e_andT); walk_at "ev"; walk_at "ev")
  | ((with_reducible apply e_orT); walk_at "ev")
  | ((with_reducible apply e_orF); walk_at "ev"; walk_at "ev")
  | ((with_reducible apply e_andVF); walk_at "ev")
  | ((with_reducible apply e_andVT); walk_at "ev"; walk_at "ev")
  | ((with_reducible apply e_orVT); walk_at "ev")
  | ((with_reducible apply e_orVF); walk_at "ev"; walk_at "ev")
  | ((with_reducible apply e_ifT); walk_at "ev"; walk_at "ev")
  | ((with_reducible apply e_ifF); walk_at "ev"; walk_at "ev"))
local macro_rules | `(tactic| walk_at "st") => `(tactic| first
  | (with_reducible exact t_nx)
  | ((with_reducible apply t_set2); walk_at "ev"; walk_at "eq"; walk_at "eq")
  | ((with_reducible apply t_ret2); walk_at "ev"; walk_at "eq"; walk_at "eq")
  | ((with_reducible apply t_drop); walk_at "ev")
  | ((with_reducible apply t_put); walk_at "ev"; walk_at "ev"; walk_at "ev"; walk_at "p")
  | ((with_reducible apply t_ifF); walk_at "ev"; walk_at "st")
  | ((with_reducible apply t_ifT); walk_at "ev"; walk_at "st")
  | ((with_reducible apply t_seq); walk_at "st"; walk_at "st")
  | ((with_reducible apply t_seqR); walk_at "st"))
/-! ### shapes drawn -/
def Ext (p q : Nat) (h h' : Hd) : Prop := h.length ≤ h'.length ∧ ∀ i, i < h.length → i ≠ p → i ≠ q → h'[i]? = h[i]?
theorem Ext.refl (p q : Nat) (h : Hd) : Ext p q h h := ⟨Nat.le_refl _, fun _ _ _ _ => rfl⟩
theorem Ext.trans {p q : Nat} {h h1 h2 : Hd} (a : Ext p q h h1) (b : Ext p q h1 h2) : Ext p q h h2 := ⟨Nat.le_trans a.1 b.1, fun i l x y => by rw [b.2 i (by have := a.1; omega) x y, a.2 i l x y]⟩
theorem Ext.app (p q : Nat) (h g : Hd) : Ext p q h (h ++ g) := ⟨by simp, fun i l _ _ => List.getElem?_append_left l⟩
theorem Ext.setP {p q : Nat} {h : Hd} {o : O} : Ext p q h (h.set p o) := ⟨by simp, fun i l x y => List.getElem?_set_ne (Ne.symm x)⟩
theorem Ext.setQ {p q : Nat} {h : Hd} {o : O} : Ext p q h (h.set q o) := ⟨by simp, fun i l x y => List.getElem?_set_ne (Ne.symm y)⟩
theorem Pen.app {h g : Hd} {p n : Nat} (P : Pen h p n) : Pen (h ++ g) p n := by
  obtain ⟨q, cells, a, l', h1, h2, r⟩ := P.ex
  exact ⟨q, cells, a, l', get_left h1, get_left h2, r⟩
theorem Pen.setQ {h : Hd} {p q n : Nat} {o : O} (P : Pen h p n) (l : p < q) : Pen (h.set q o) p n := by
  obtain ⟨q', cells, a, l', h1, h2, h3, r⟩ := P.ex
  exact ⟨q', cells, a, l', by rw [List.getElem?_set_ne (by omega)]; exact h1, by rw [List.getElem?_set_ne (by omega)]; exact h2, h3, r⟩
theorem Pen.lt {h : Hd} {p n : Nat} (P : Pen h p n) : p < h.length := by
  obtain ⟨q', cells, a, l', h1, _⟩ := P.ex
  exact (List.getElem?_eq_some_iff.mp h1).1
theorem Pen.take {h : Hd} {p n m : Nat} (P : Pen h p n) (l : p < m) : Pen (h.take m) p n := by
  obtain ⟨q', cells, a, l', h1, h2, h3, r⟩ := P.ex
  exact ⟨q', cells, a, l', by rw [List.getElem?_take, if_pos l]; exact h1, by rw [List.getElem?_take, if_pos (by omega)]; exact h2, h3, r⟩
/-- pen at p, purse at q -/
structure PQ (h : Hd) (p q N : Nat) (k : Int) : Prop where
  pen : Pen h p N
  pu : h[q]? = some (.lst [.int k])
  lt : p < q
theorem PQ.take {F : SF} (hF : TakeOk F) {h : Hd} {p q N : Nat} {k m : Int} (w : PQ h p q N k) (hn : N ≤ 1000000000000) (m0 : 0 < m) (m1 : m < 1073741824) :
    ∃ r h', F [.ref p, .int m] h = .ok (.int r) h' ∧ 0 ≤ r ∧ r < m ∧ PQ h' p q (N + 1) k ∧ Ext p q h h' := by
  obtain ⟨r, o, e, r0, r1, P⟩ := hF h p N m w.pen hn m0 m1
  exact ⟨r, _, e, r0, r1, ⟨P, by rw [List.getElem?_set_ne (by have := w.lt; omega)]; exact w.pu, w.lt⟩, Ext.setP⟩
theorem PQ.some {F : SF} (hF : SomeOk F) {h : Hd} {p q N : Nat} {k : Int} {T : Str} (w : PQ h p q N k) (hn : N ≤ 900000000000) (t1 : 1 ≤ T.length) (t2 : T.length ≤ 1000) :
    ∃ x h', F [.ref p, .str T, .int T.length] h = .ok (.str x) h' ∧ PQ h' p q (N + 1 + T.length) k ∧ Ext p q h h' := by
  obtain ⟨x, o, e, x1, x2, P, _⟩ := hF h p N T (T.length : Int) w.pen hn (by omega) (Int.le_refl _) t2
  exact ⟨x, _, e, ⟨P, by rw [List.getElem?_set_ne (by have := w.lt; omega)]; exact w.pu, w.lt⟩, Ext.setP⟩
theorem PQ.app {h g : Hd} {p q N : Nat} {k : Int} (w : PQ h p q N k) : PQ (h ++ g) p q N k := ⟨Pen.app w.pen, get_left w.pu, w.lt⟩
theorem PQ.put {h : Hd} {p q N : Nat} {k k' : Int} (w : PQ h p q N k) : PQ (h.set q (.lst [.int k'])) p q N k' := ⟨Pen.setQ w.pen w.lt, List.getElem?_set_self (List.getElem?_eq_some_iff.mp w.pu).1, w.lt⟩
theorem PQ.up {h : Hd} {p q N M : Nat} {k : Int} (w : PQ h p q N k) (l : N ≤ M) : PQ h p q M k := ⟨w.pen.up l, w.pu, w.lt⟩
theorem PQ.gc {F : SF} {ds : List D} {h h1 : Hd} {d : D} {p q N : Nat} {k : Int} (e : F ds h = .ok d h1) (w : PQ h1 p q N k) (x : Ext p q h h1) (lq : q < h.length) (c : clo h.length d) : ∃ h', gcF F ds h = .ok d h' ∧ h'.length = h.length ∧ PQ h' p q N k ∧ Ext p q h h' := by
  have lp : p < h.length := by have := w.lt; omega
  refine ⟨h1.take h.length, ?_, by rw [List.length_take]; exact Nat.min_eq_left x.1, ⟨Pen.take w.pen lp, by rw [List.getElem?_take, if_pos lq]; exact w.pu, w.lt⟩, ⟨by rw [List.length_take]; exact Nat.le_of_eq (Nat.min_eq_left x.1).symm, fun i l a b => by rw [List.getElem?_take, if_pos l]; exact x.2 i l a b⟩⟩
  unfold gcF
  rw [e]
  dsimp only
  rw [if_pos]
  refine ⟨x.1, .inl c, fun i o hi ho => ?_⟩
  by_cases ip : i = p
  · subst ip
    obtain ⟨q', cells, a, l', h1, h2, h3, r⟩ := w.pen.ex
    rw [h1] at ho; injection ho with ho; subst ho
    right
    simp only [cloO, clos, clo]
    exact ⟨by omega, True.intro, True.intro, True.intro⟩
  · by_cases iq : i = q
    · subst iq
      rw [w.pu] at ho; injection ho with ho; subst ho
      right
      simp only [cloO, clos, clo, and_self]
    · left; rw [← x.2 i hi ip iq]; exact ho
def cost (n : Nat) : Nat := 1000 * 7 ^ n
def ShapeOk (n : Nat) (F : SF) : Prop := ∀ (h : Hd) (p q N : Nat) (k : Int) (T : Str), PQ h p q N k → 0 ≤ k → N + cost n ≤ 800000000000 → 1 ≤ T.length → T.length ≤ 900 →
  ∃ sh h' k', F [.ref p, .ref q, .int n, .str T] h = .ok (toD sh) h' ∧ h'.length = h.length ∧ good n sh ∧ PQ h' p q (N + cost n) k' ∧ 0 ≤ k' ∧ Ext p q h h'
def Post (h0 : Hd) (p q n N : Nat) (r : Fl) : Prop := ∃ sh h1 k', r = .rt (toD sh) h1 ∧ good n sh ∧ PQ h1 p q N k' ∧ 0 ≤ k' ∧ Ext p q h0 h1
theorem post_seq {h0 : Hd} {p q n N : Nat} {s s' : SS} {τ τ1 : Sd} {h h1 : Hd} (e : s τ h = .nx τ1 h1) (o : Post h0 p q n N (s' τ1 h1)) : Post h0 p q n N (sSeq s s' τ h) := by
  rw [t_seq e rfl]; exact o
theorem post_seqR {h0 : Hd} {p q n N : Nat} {s s' : SS} {τ : Sd} {h : Hd} (o : Post h0 p q n N (s τ h)) : Post h0 p q n N (sSeq s s' τ h) := by
  obtain ⟨sh, h1, k', e, r⟩ := o
  exact ⟨sh, h1, k', t_seqR e, r⟩
theorem post_ifT {h0 : Hd} {p q n N : Nat} {c : ST} {s s' : SS} {τ : Sd} {h h1 : Hd} (e : c τ h = .ok true h1) (o : Post h0 p q n N (s τ h1)) : Post h0 p q n N (sIf c s s' τ h) := by
  rw [t_ifT e rfl]; exact o
theorem eq_int (i j : Int) (h : Hd) : hEq (.int i) (.int j) h = .ok (.bl (i == j)) h := by simp [hEq, pur, eqD]
theorem lt_yes {i j : Int} {h : Hd} (z : i < j) : gLt (.int i) (.int j) h = .ok (.bl true) h := by simp only [gLt, decide_eq_true z]
theorem lt_no {i j : Int} {h : Hd} (z : ¬ i < j) : gLt (.int i) (.int j) h = .ok (.bl false) h := by simp only [gLt, decide_eq_false z]
theorem gt_yes {i j : Int} {h : Hd} (z : j < i) : gGt (.int i) (.int j) h = .ok (.bl true) h := by simp only [gGt, decide_eq_true z]
theorem gt_no {i j : Int} {h : Hd} (z : ¬ j < i) : gGt (.int i) (.int j) h = .ok (.bl false) h := by simp only [gGt, decide_eq_false z]
noncomputable def F_law_take : SF := gcF (bodyR b_take 7)
noncomputable def F_law_some : SF := gcF (bodyR (b_some F_law_take) 6)
noncomputable def F_law_shape : Nat → SF
  | 0 => fun _ _ => .no
  | m + 1 => gcF (bodyR (b_law_shape (F_law_shape m) F_law_some F_law_take) 9)
theorem shape_body {n : Nat} {G : SF} (hG : n = 0 ∨ ShapeOk n G) {h : Hd} {p q N : Nat} {k : Int} {T : Str} (w : PQ h p q N k) (k0 : 0 ≤ k) (hN : N + cost (n + 1) ≤ 800000000000) (t1' : 1 ≤ T.length) (t2' : T.length ≤ 900) :
    Post h p q (n + 1) (N + cost (n + 1)) (b_law_shape G F_law_some F_law_take [some (.ref p), some (.ref q), some (.int ((n + 1 : Nat) : Int)), some (.str T), none, none, none, none, none] h) := by
  have hT : TakeOk F_law_take := take_ok
  have hS : SomeOk F_law_some := some_ok take_ok
  have c1 : 7000 * 7 ^ n = cost (n + 1) := by rw [cost, Nat.pow_succ]; omega
  have c2 : 1000 * 7 ^ n = cost n := rfl
  have c3 : 1 ≤ 7 ^ n := Nat.one_le_pow _ _ (by decide)
  unfold b_law_shape
  obtain ⟨r, h1, e1, r0, r1, w1, x1⟩ := w.take hT (m := 10) (by omega) (by decide) (by decide)
  refine post_seq (t_set (e_a (e_cons (e_v rfl) (e_cons e_c e_nil)) (e_call rfl e1))) ?_
  -- the road
  have road : ∃ r' : Int, 0 ≤ r' ∧ r' < 10 ∧ (sIf (sAnd (sT (s2 hEq (sV 2) (sC (.int 5)))) (sT (s2 gLt (sV 4) (sC (.int 2))))) (sSet 4 (s2 gAdd (sV 4) (sC (.int 4)))) sNx) [some (.ref p), some (.ref q), some (.int ((n + 1 : Nat) : Int)), some (.str T), some (.int r), none, none, none, none] h1 = .nx [some (.ref p), some (.ref q), some (.int ((n + 1 : Nat) : Int)), some (.str T), some (.int r'), none, none, none, none] h1 := by
    cases d5 : (((n + 1 : Nat) : Int) == 5) with
    | false => exact ⟨r, r0, r1, t_ifF (e_andF (e_T (e_2 (e_v rfl) e_c (by rw [eq_int, d5])))) t_nx⟩
    | true =>
      by_cases d2 : r < 2
      · exact ⟨r + 4, by omega, by omega, t_ifT (e_andT (e_T (e_2 (e_v rfl) e_c (by rw [eq_int, d5]))) (e_T (e_2 (e_v rfl) e_c (lt_yes d2)))) (t_set (e_2 (e_v rfl) e_c rfl))⟩
      · exact ⟨r, r0, r1, t_ifF (e_andT (e_T (e_2 (e_v rfl) e_c (by rw [eq_int, d5]))) (e_T (e_2 (e_v rfl) e_c (lt_no d2)))) t_nx⟩
  obtain ⟨r', r0', r1', er⟩ := road
  refine post_seq er ?_
  clear er e1
  -- an empty row
  have hand : ∃ b h2, (sAnd (sT (s2 hEq (sV 4) (sC (.int 9)))) (sT (s2 hEq (sA (sN 2 F_law_take) (sCons (sV 0) (sCons (sC (.int 2)) sNil))) (sC (.int 0))))) [some (.ref p), some (.ref q), some (.int ((n + 1 : Nat) : Int)), some (.str T), some (.int r'), none, none, none, none] h1 = .ok b h2 ∧ PQ h2 p q (N + 2) k ∧ Ext p q h h2 := by
    cases d9 : (r' == 9) with
    | false => exact ⟨false, h1, e_andF (e_T (e_2 (e_v rfl) e_c (by rw [eq_int, d9]))), w1.up (by omega), x1⟩
    | true =>
      obtain ⟨s, h2, e2, s0, s1, w2, x2⟩ := w1.take hT (m := 2) (by omega) (by decide) (by decide)
      exact ⟨s == 0, h2, e_andT (e_T (e_2 (e_v rfl) e_c (by rw [eq_int, d9]))) (e_T (e_2 (e_a (e_cons (e_v rfl) (e_cons e_c e_nil)) (e_call rfl e2)) e_c (eq_int _ _ _))), w2, x1.trans x2⟩
  obtain ⟨b, h2, eb, w2, x2⟩ := hand
  cases b with
  | true =>
    refine post_seqR (post_ifT eb ?_)
    exact ⟨.row [], h2, k, t_ret (e_a (e_cons e_c (e_cons (e_a e_nil rfl) e_nil)) rfl), ⟨by simp, by simp⟩, w2.up (by omega), k0, x2⟩
  | false =>
  refine post_seq (t_ifF eb t_nx) ?_
  clear eb
  -- one
  have ix : ∀ {h' : Hd} {N' : Nat} {k' : Int}, PQ h' p q N' k' → gIx (.ref q) (.int 0) h' = .ok (.int k') h' := fun w => by simp only [gIx, seqD, w.pu, atI_0]
  have pd : ∀ {h' : Hd} {N' : Nat} {k' k2 : Int}, PQ h' p q N' k' → put (.ref q) (.int 0) (.int k2) h' = some (h'.set q (.lst [.int k2])) := fun w => by
    simp only [put, w.pu, List.length_cons, List.length_nil, Nat.reduceAdd, ix10]; rfl
  by_cases h1e : n = 0 ∨ k < 1 ∨ r' < 2
  · obtain ⟨x, h3, e3, w3, x3⟩ := w2.some hS (T := T) (by omega) t1' (by omega)
    refine post_seqR (post_ifT (h1 := h2) ?_ ?_)
    · by_cases z : n = 0
      · subst z; exact e_orT (e_T (e_2 (e_v rfl) e_c (eq_int _ _ _)))
      · have d1 : (((n + 1 : Nat) : Int) == 1) = false := by simp; omega
        refine e_orF (e_T (e_2 (e_v rfl) e_c (by rw [eq_int, d1]))) ?_
        by_cases y : k < 1
        · exact e_orT (e_T (e_2 (e_2 (e_v rfl) e_c (ix w2)) e_c (lt_yes y)))
        · have z2 : r' < 2 := by omega
          exact e_orF (e_T (e_2 (e_2 (e_v rfl) e_c (ix w2)) e_c (lt_no y))) (e_T (e_2 (e_v rfl) e_c (lt_yes z2)))
    · refine ⟨.one x, h3, k, ?_, True.intro, w3.up (by omega), k0, x2.trans x3⟩
      have tl : gLen [.str T] h2 = .ok (.int T.length) h2 := by simp only [gLen]; rw [if_pos (by show _ ≤ 16777216; omega)]
      exact t_ret (e_a (e_cons e_c (e_cons (e_a (e_cons (e_v rfl) (e_cons (e_v rfl) (e_cons (e_a (e_cons (e_v rfl) e_nil) tl) e_nil))) (e_call rfl e3)) e_nil)) rfl)
  have n0 : n ≠ 0 := fun z => h1e (.inl z)
  have k1 : 1 ≤ k := by omega
  have r2 : 2 ≤ r' := by omega
  have hG : ShapeOk n G := by rcases hG with z | z; exact (n0 z).elim; exact z
  have d1 : (((n + 1 : Nat) : Int) == 1) = false := by simp; omega
  have sub1 : ((n + 1 : Nat) : Int) - 1 = (n : Int) := by omega
  refine post_seq (t_ifF (e_orF (e_T (e_2 (e_v rfl) e_c (by rw [eq_int, d1]))) (e_orF (e_T (e_2 (e_2 (e_v rfl) e_c (ix w2)) e_c (lt_no (show ¬ k < 1 by omega)))) (e_T (e_2 (e_v rfl) e_c (lt_no (show ¬ r' < 2 by omega)))))) t_nx) ?_
  by_cases r4 : r' < 4
  · refine post_seqR (post_ifT (e_T (e_2 (e_v rfl) e_c (lt_yes r4))) ?_)
    refine post_seq (t_put (e_2 (e_2 (e_v rfl) e_c (ix w2)) e_c rfl) (e_v rfl) e_c (pd w2)) ?_
    have w3 : PQ (h2.set q (.lst [.int (k - 1)])) p q (N + 2) (k - 1) := w2.put
    obtain ⟨sh, h4, k4, e4, l4, g4, w4, k40, x4⟩ := hG _ p q (N + 2) (k - 1) T w3 (by omega) (by omega) t1' t2'
    have x4' : Ext p q h h4 := (x2.trans Ext.setQ).trans x4
    refine post_seq (t_set (e_a (e_cons (e_v rfl) (e_cons (e_v rfl) (e_cons (e_2 (e_v rfl) e_c rfl) (e_cons (e_v rfl) e_nil)))) (e_call rfl (by rw [sub1]; exact e4)))) ?_
    cases d2 : (r' == 2) with
    | true =>
      refine post_seqR (post_ifT (e_T (e_2 (e_v rfl) e_c (by rw [eq_int, d2]))) ?_)
      exact ⟨.many sh, h4, k4, t_ret (e_a (e_cons e_c (e_cons (e_v rfl) e_nil)) rfl), g4, w4.up (by omega), k40, x4'⟩
    | false =>
      refine post_seq (t_ifF (e_T (e_2 (e_v rfl) e_c (by rw [eq_int, d2]))) t_nx) ?_
      obtain ⟨lo, h5, e5, lo0, lo1, w5, x5⟩ := w4.take hT (m := 5) (by omega) (by decide) (by decide)
      obtain ⟨up, h6, e6, up0, up1, w6, x6⟩ := w5.take hT (m := 5 - lo) (by omega) (by omega) (by omega)
      refine post_seq (t_set (e_a (e_cons (e_v rfl) (e_cons e_c e_nil)) (e_call rfl e5))) ?_
      refine ⟨.times sh lo (lo + up), h6, k4, t_ret (e_a (e_cons e_c (e_cons (e_v rfl) (e_cons (e_v rfl) (e_cons (e_2 (e_v rfl) (e_a (e_cons (e_v rfl) (e_cons (e_2 e_c (e_v rfl) rfl) e_nil)) (e_call rfl e6)) rfl) e_nil)))) rfl), ⟨⟨lo0, by omega, by omega⟩, g4⟩, w6.up (by omega), k40, (x4'.trans x5).trans x6⟩
  · refine post_seq (t_ifF (e_T (e_2 (e_v rfl) e_c (lt_no r4))) t_nx) ?_
    -- the size
    have size : ∃ (z : Int) (h3 : Hd), 1 ≤ z ∧ z ≤ 6 ∧ z ≤ k ∧ (sA gMin2 (sCons (s2 gIx (sV 1) (sC (.int 0))) (sCons (s2 gAdd (sC (.int 1)) (sA (sN 2 F_law_take) (sCons (sV 0) (sCons (s2 gIx (sA gLst (sCons (sC (.int 2)) (sCons (sC (.int 3)) (sCons (sC (.int 6)) sNil)))) (sA (sN 2 F_law_take) (sCons (sV 0) (sCons (sC (.int 3)) sNil)))) sNil)))) sNil)))
        [some (.ref p), some (.ref q), some (.int ((n + 1 : Nat) : Int)), some (.str T), some (.int r'), none, none, none, none] h2 = .ok (.int z) h3 ∧ PQ h3 p q (N + 4) k ∧ Ext p q h h3 := by
      have wa : PQ (h2 ++ [.lst [.int 2, .int 3, .int 6]]) p q (N + 2) k := w2.app
      obtain ⟨j, h3, e3, j0, j1, w3, x3⟩ := wa.take hT (m := 3) (by omega) (by decide) (by decide)
      have xa : Ext p q h2 h3 := (Ext.app p q h2 _).trans x3
      have lq : q < h2.length := (List.getElem?_eq_some_iff.mp w2.pu).1
      have at3 : h3[h2.length]? = some (.lst [.int 2, .int 3, .int 6]) := by
        rw [x3.2 h2.length (by simp) (by have := w2.lt; omega) (by omega)]; exact get_last
      have mm : ∃ m : Int, 0 < m ∧ m ≤ 6 ∧ gIx (.ref h2.length) (.int j) h3 = .ok (.int m) h3 := by
        have : j = 0 ∨ j = 1 ∨ j = 2 := by omega
        rcases this with rfl | rfl | rfl
        · exact ⟨2, by decide, by decide, by simp only [gIx, seqD, at3, atI_0]⟩
        · exact ⟨3, by decide, by decide, by simp only [gIx, seqD, at3, atI_1]⟩
        · exact ⟨6, by decide, by decide, by simp only [gIx, seqD, at3, atI_2]⟩
      obtain ⟨m, m0, m6, em⟩ := mm
      obtain ⟨s, h4, e4, s0, s1, w4, x4⟩ := w3.take hT (m := m) (by omega) m0 (by omega)
      refine ⟨if 1 + s < k then 1 + s else k, h4, by split <;> omega, by split <;> omega, by split <;> omega, ?_, w4, (x2.trans xa).trans x4⟩
      exact e_a (e_cons (e_2 (e_v rfl) e_c (ix w2)) (e_cons (e_2 e_c (e_a (e_cons (e_v rfl) (e_cons (e_2 (e_a (e_cons e_c (e_cons e_c (e_cons e_c e_nil))) rfl) (e_a (e_cons (e_v rfl) (e_cons e_c e_nil)) (e_call rfl e3)) em) e_nil)) (e_call rfl e4)) rfl) e_nil)) rfl
    obtain ⟨z, h3, z1, z6, zk, ez, w3, x3⟩ := size
    refine post_seq (t_set ez) ?_
    refine post_seq (t_put (e_2 (e_2 (e_v rfl) e_c (ix w3)) (e_v rfl) rfl) (e_v rfl) e_c (pd w3)) ?_
    have w4 : PQ (h3.set q (.lst [.int (k - z)])) p q (N + 4) (k - z) := w3.put
    have x4 : Ext p q h (h3.set q (.lst [.int (k - z)])) := x3.trans Ext.setQ
    generalize h3.set q (.lst [.int (k - z)]) = h4 at w4 x4
    have mp := mapR_all (ck := fun _ => True) (f := bindT t1 (sA (sN 4 G) (sCons (sV 1) (sCons (sV 2) (sCons (s2 gSub (sV 3) (sC (.int 1))) (sCons (sV 4) sNil))))) [some (.ref p), some (.ref q), some (.int ((n + 1 : Nat) : Int)), some (.str T)]) (rng 0 z.toNat)
      (fun pre ys h' => ∃ (shs : List Sh) (k' : Int), ys = shs.map toD ∧ (∀ s ∈ shs, good n s) ∧ shs.length = pre.length ∧ PQ h' p q (N + 4 + pre.length * cost n) k' ∧ 0 ≤ k' ∧ Ext p q h h') (fun _ _ _ _ => True.intro) ?_ (rng 0 z.toNat) [] [] h4 rfl ⟨[], k - z, rfl, by simp, rfl, by simpa using w4, by omega, x4⟩
    · obtain ⟨zs, h5, e5, shs, k5, eq5, g5, l5, w5, k50, x5⟩ := mp
      rw [List.nil_append] at eq5
      subst eq5
      have lr : (rng 0 z.toNat).length = z.toNat := by simp [rng]
      rw [lr] at l5 w5
      have zc : z.toNat * cost n ≤ 6 * cost n := Nat.mul_le_mul_right _ (by omega)
      refine post_seq (t_set (e_a (e_cons (e_comp (e_rg1 (e_cons (e_v rfl) e_nil) (by constructor <;> omega)) (by show (rng 0 z.toNat).length ≤ 16777216; rw [lr]; omega) e5) e_nil) (r := .ok (.tup (shs.map toD)) (h5 ++ [.lst (shs.map toD)])) (by simp only [gTuple, seqD, get_last]))) ?_
      by_cases r6 : 6 < r'
      · refine ⟨.either shs, h5 ++ [.lst (shs.map toD)] ++ [.lst [.str "row", .str "either"]], k5, ?_, ⟨by omega, g5⟩, (w5.app.app).up (by omega), k50, (x5.trans (Ext.app ..)).trans (Ext.app ..)⟩
        refine t_ret2 (e_a (e_cons (e_2 (e_a (e_cons e_c (e_cons e_c e_nil)) rfl) (e_a (e_cons (e_2 (e_v rfl) e_c (gt_yes r6)) e_nil) rfl) (r := .ok (.str "either") (h5 ++ [.lst (shs.map toD)] ++ [.lst [.str "row", .str "either"]])) (by simp only [gIx, seqD, get_last]; exact rfl)) (e_cons (e_v rfl) e_nil)) rfl) (by rw [toD, toDs_map]) rfl
      · refine ⟨.row shs, h5 ++ [.lst (shs.map toD)] ++ [.lst [.str "row", .str "either"]], k5, ?_, ⟨by omega, g5⟩, (w5.app.app).up (by omega), k50, (x5.trans (Ext.app ..)).trans (Ext.app ..)⟩
        refine t_ret2 (e_a (e_cons (e_2 (e_a (e_cons e_c (e_cons e_c e_nil)) rfl) (e_a (e_cons (e_2 (e_v rfl) e_c (gt_no r6)) e_nil) rfl) (r := .ok (.str "row") (h5 ++ [.lst (shs.map toD)] ++ [.lst [.str "row", .str "either"]])) (by simp only [gIx, seqD, get_last]; exact rfl)) (e_cons (e_v rfl) e_nil)) rfl) (by rw [toD, toDs_map]) rfl
    · rintro pre x post ys h' all ⟨shs, k', rfl, gs, ls, w', k0', x'⟩
      have la : pre.length < 6 := by
        have := congrArg List.length all
        simp [rng] at this; omega
      have zc : pre.length * cost n ≤ 5 * cost n := Nat.mul_le_mul_right _ (by omega)
      obtain ⟨sh, h6, k6, e6, l6, g6, w6, k60, x6⟩ := hG _ p q _ k' T w' k0' (by omega) t1' t2'
      refine ⟨toD sh, h6, ?_, shs ++ [sh], k6, by simp, ?_, by simp [ls], ?_, k60, x'.trans x6⟩
      · apply bind_t1
        exact e_a (e_cons (e_v rfl) (e_cons (e_v rfl) (e_cons (e_2 (e_v rfl) e_c rfl) (e_cons (e_v rfl) e_nil)))) (e_call rfl (by rw [sub1]; exact e6))
      · intro s hs
        rcases List.mem_append.mp hs with hs | hs
        · exact gs s hs
        · rw [List.mem_singleton.mp hs]; exact g6
      · rw [List.length_append, List.length_singleton, Nat.add_mul, Nat.one_mul, ← Nat.add_assoc]; exact w6
theorem shape_ok : ∀ (m n : Nat), n ≤ m → 1 ≤ n → ShapeOk n (F_law_shape m)
  | 0, n, l, n1 => by omega
  | m + 1, 0, _, n1 => by omega
  | m + 1, n + 1, l, _ => by
    intro h p q N k T w k0 hN t1' t2'
    have hG : n = 0 ∨ ShapeOk n (F_law_shape m) := by
      by_cases z : n = 0
      · exact .inl z
      · exact .inr (shape_ok m n (by omega) (by omega))
    obtain ⟨sh, h1, k', e, g, w1, k1, x⟩ := shape_body hG w k0 hN t1' t2'
    obtain ⟨h', e', l', w', x'⟩ := PQ.gc (F := bodyR (b_law_shape (F_law_shape m) F_law_some F_law_take) 9) (ds := [.ref p, .ref q, .int ((n + 1 : Nat) : Int), .str T]) (body_rt e) w1 x (List.getElem?_eq_some_iff.mp w.pu).1 (clo_toD _ g)
    exact ⟨sh, h', k', e', l', g, w', k1, x'⟩
end SHF

set_option Elab.async false
set_option linter.all false
set_option maxRecDepth 100000
set_option maxHeartbeats 4000000
namespace SHF
open PySem PySem.Spec L2 MI PEN
open SHP (Sh)
local macro_rules | `(tactic| walk_at "eq") => `(tactic| first | exact rfl | (simp only [List.set_cons_zero, List.set_cons_succ, List.set_set, *] <;> exact rfl))
local macro_rules | `(tactic| walk_at "g") => `(tactic| first | exact rfl | (simp only [gIx, seqD, atI_0, atI_1, atI_2, atI_3, gGt, gGe, gLt, gLe, gAdd, MI.gSub, gMod, gDiv, gPow, gAbs, gInt, gLen, gMax2, gMin2, MI.gTup, MI.gLst, tru, hEq, hNe, pur, eqD, gIs, gIsNot, isNon, gNeg, gIAdd, gMul, List.length_map, *, ite_true, ite_false, if_true, if_false, reduceIte, decide_true, decide_false, and_self, and_true, true_and, Bool.true_eq_false, Nat.reduceLeDiff, List.length_cons, List.length_nil, Nat.reduceAdd, Int.reduceLE, Int.reduceLT, ne_eq, not_false_eq_true, not_true_eq_false] <;> exact rfl) | assumption)
local macro_rules | `(tactic| walk_at "p") => `(tactic| first | exact rfl | (simp only [put, *, List.length_cons, List.length_nil, Nat.reduceAdd, ix31, ix32, ix30, ix10] <;> exact rfl))
local macro_rules | `(tactic| walk_at "ev") => `(tactic| first
  | (with_reducible exact e_c)
  | ((with_reducible apply e_v); exact rfl)
  | (with_reducible exact e_nil)
  | (with_reducible exact e_oN)
  | ((with_reducible apply e_2); walk_at "ev"; walk_at "ev"; walk_at "g")
  | ((with_reducible apply e_1); walk_at "ev"; walk_at "g")
  | ((with_reducible apply e_a); walk_at "ev"; first | ((with_reducible apply e_call); exact rfl; first | assumption | walk_at "g") | walk_at "g")
  | ((with_reducible apply e_cons); walk_at "ev"; walk_at "ev")
  | ((with_reducible apply e_T); walk_at "ev")
  | ((with_reducible apply e_not); walk_at "ev")
  | ((with_reducible apply e_tru); walk_at "ev"; walk_at "g")
  | ((with_reducible apply e_oS); walk_at "ev")
  | ((with_reducible apply e_sl); walk_at "ev"; walk_at "ev"; walk_at "ev"; walk_at "g")
  | ((with_reducible apply e_notV); walk_at "ev")
  | ((with_reducible apply e_andF); walk_at "ev")
  | ((with_reducible apply e_andT); walk_at "ev"; walk_at "ev")
  | ((with_reducible apply e_orT); walk_at "ev")
  | ((with_reducible apply e_orF); walk_at "ev"; walk_at "ev")
  | ((with_reducible apply e_andVF); walk_at "ev")
  | ((with_reducible apply e_andVT); walk_at "ev"; walk_at "ev")
  | ((with_reducible apply e_orVT); walk_at "ev")
  | ((with_reducible apply e_orVF); walk_at "ev"; walk_at "ev")
  | ((with_reducible apply e_ifT); walk_at "ev"; walk_at "ev")
  | ((with_reducible apply e_ifF); walk_at "ev"; walk_at "ev"))
local macro_rules | `(tactic| walk_at "st") => `(tactic| first
  | (with_reducible exact t_nx)
  | ((with_reducible apply t_set2); walk_at "ev"; walk_at "eq"; walk_at "eq")
  | ((with_reducible apply t_ret2); walk_at "ev"; walk_at "eq"; walk_at "eq")
  | ((with_reducible apply t_drop); walk_at "ev")
  | ((with_reducible apply t_put); walk_at "ev"; walk_at "ev"; walk_at "ev"; walk_at "p")
  | ((with_reducible apply t_ifF); walk_at "ev"; walk_at "st")
  | ((with_reducible apply t_ifT); walk_at "ev"; walk_at "st")
  | ((with_reducible apply t_seq); walk_at "st"; walk_at "st")
  | ((with_reducible apply t_seqR); walk_at "st"))
noncomputable def b_law (F_law_parts : SF) (F_law_pen : SF) (F_law_right : SF) (F_law_same : SF) (F_law_shape : SF) (F_law_signs : SF) (F_law_some : SF) (F_law_take : SF) (F_parts_of : SF) (F_weight : SF) : SS :=
 (sSeq (sSet 1 (sA (sN 1 F_law_pen) (sCons (sV 0) sNil)))
 (sSeq (sSet 2 (sA (sN 3 F_law_some) (sCons (sV 1) (sCons (sA (sN 0 F_law_signs) sNil) (sCons (sC (.int 6)) sNil)))))
 (sSeq (sSet 3 (sA gLst (sCons (sA (sN 4 F_law_shape) (sCons (sV 1) (sCons (sA gLst (sCons (sC (.int 23)) sNil)) (sCons (sC (.int 5)) (sCons (sV 2) sNil))))) sNil)))
 (sSeq (sSet 3 (s2 gAdd (sV 3) (sComp (sRg gRng1 (sCons (sC (.int 2)) sNil)) t1 (sA (sN 4 F_law_shape) (sCons (sV 1) (sCons (sA gLst (sCons (sC (.int 7)) sNil)) (sCons (sC (.int 3)) (sCons (sV 2) sNil))))) [1, 2])))
 (sSeq (sSet 4 (sA (sN 2 F_law_take) (sCons (sV 1) (sCons (sC (.int 5)) sNil))))
 (sSeq (sSet 5 (s2 gAdd (sV 4) (sA (sN 2 F_law_take) (sCons (sV 1) (sCons (s2 gSub (sC (.int 5)) (sV 4)) sNil)))))
 (sSeq (sSet 6 (s2 gIx (sV 3) (s2 gAdd (sC (.int 1)) (sA (sN 2 F_law_take) (sCons (sV 1) (sCons (sC (.int 2)) sNil))))))
 (sSeq (sSet 3 (s2 gAdd (sV 3) (sA gLst (sCons (sA gTup (sCons (sC (.str "many")) (sCons (sV 6) sNil))) (sCons (sA gTup (sCons (sC (.str "times")) (sCons (sV 6) (sCons (sV 4) (sCons (sV 5) sNil))))) (sCons (sA gTup (sCons (sC (.str "times")) (sCons (sA gTup (sCons (sC (.str "times")) (sCons (sV 6) (sCons (sC (.int 0)) (sCons (sV 5) sNil))))) (sCons (sV 4) (sCons (sV 5) sNil))))) sNil))))))
 (sSeq (sSet 3 (s2 gAdd (sV 3) (sA gLst (sCons (sA gTup (sCons (sC (.str "row")) (sCons (sA gTuple (sCons (sSl2 (sV 3) (oS (sC (.int 1))) (oS (sC (.int 3)))) sNil)) sNil))) (sCons (sA gTup (sCons (sC (.str "either")) (sCons (sSl2 (sA gTup (sCons (s2 gIx (sV 3) (sC (.int 2))) (sCons (s2 gIx (sV 3) (sC (.int 1))) (sCons (sV 6) sNil)))) oN (oS (s2 gAdd (sC (.int 2)) (sA (sN 2 F_law_take) (sCons (sV 1) (sCons (sC (.int 2)) sNil)))))) sNil))) sNil)))))
 (sSeq (sFor (sIt (sV 3)) (kN 7) (sIf (sAnd (sT (s2 gLt (sA gLen (sCons (sA (sN 1 F_law_parts) (sCons (sV 7) sNil)) sNil)) (sC (.int 25)))) (sNot (sTru (sA (sN 1 F_law_right) (sCons (sV 7) sNil)))))
  (sRet (sC (.bl false)))
  sNx))
 (sRet (sAndV (sA (sN 1 F_law_right) (sCons (s2 gIx (sV 3) (sC (.int 0))) sNil)) (sAndV (s2 hEq (sA (sN 1 F_weight) (sCons (sA gTup (sCons (sC (.str "row")) (sCons (sA gTup sNil) sNil))) sNil)) (sC (.int 0))) (sA (sN 2 F_law_same) (sCons (sA (sN 1 F_parts_of) (sCons (sA gTup (sCons (sC (.str "row")) (sCons (sA gTup sNil) sNil))) sNil)) (sCons (sA gTup (sCons (sA gTup (sCons (sC (.str "row")) (sCons (sA gTup sNil) sNil))) sNil)) sNil))))))))))))))))
def Keep (p : Nat) (h h' : Hd) : Prop := h.length ≤ h'.length ∧ ∀ i, i < h.length → i ≠ p → h'[i]? = h[i]?
theorem Keep.refl (p : Nat) (h : Hd) : Keep p h h := ⟨Nat.le_refl _, fun _ _ _ => rfl⟩
theorem Keep.trans {p : Nat} {h h1 h2 : Hd} (a : Keep p h h1) (b : Keep p h1 h2) : Keep p h h2 := ⟨Nat.le_trans a.1 b.1, fun i l x => by rw [b.2 i (by have := a.1; omega) x, a.2 i l x]⟩
theorem Keep.get {p i : Nat} {h h' : Hd} {o : O} (K : Keep p h h') (e : h[i]? = some o) (ne : i ≠ p) : h'[i]? = some o := by
  rw [K.2 i (List.getElem?_eq_some_iff.mp e).1 ne]; exact e
theorem shape_call {m n : Nat} (l : n ≤ m) (n1 : 1 ≤ n) {h : Hd} {p N : Nat} {k : Int} {T : Str} (P : Pen h p N) (k0 : 0 ≤ k) (hN : N + cost n ≤ 800000000000) (t1 : 1 ≤ T.length) (t2 : T.length ≤ 900) :
    ∃ sh h', F_law_shape m [.ref p, .ref h.length, .int n, .str T] (h ++ [.lst [.int k]]) = .ok (toD sh) h' ∧ good n sh ∧ Pen h' p (N + cost n) ∧ Keep p h h' := by
  obtain ⟨sh, h', k', e, l', g, w, _, x⟩ := shape_ok m n l n1 (h ++ [.lst [.int k]]) p h.length N k T ⟨Pen.app P, get_last, Pen.lt P⟩ k0 hN t1 t2
  exact ⟨sh, h', e, g, w.pen, by rw [l']; simp, fun i hi ne => by rw [x.2 i (by simp; omega) ne (by omega), List.getElem?_append_left hi]⟩
theorem take_call {h : Hd} {p N : Nat} {m : Int} (P : Pen h p N) (hn : N ≤ 1000000000000) (m0 : 0 < m) (m1 : m < 1073741824) : ∃ r h', F_law_take [.ref p, .int m] h = .ok (.int r) h' ∧ 0 ≤ r ∧ r < m ∧ Pen h' p (N + 1) ∧ Keep p h h' := by
  obtain ⟨r, o, e, r0, r1, P'⟩ := take_ok h p N m P hn m0 m1
  exact ⟨r, _, e, r0, r1, P', by simp, fun i hi ne => List.getElem?_set_ne (Ne.symm ne)⟩
theorem Keep.app (p : Nat) (h g : Hd) : Keep p h (h ++ g) := ⟨by simp, fun i l _ => List.getElem?_append_left l⟩
def Done (r : Fl) : Prop := ∃ h1, r = .rt (.bl true) h1
theorem done_seq {s s' : SS} {τ τ1 : Sd} {h h1 : Hd} (e : s τ h = .nx τ1 h1) (o : Done (s' τ1 h1)) : Done (sSeq s s' τ h) := by
  rw [t_seq e rfl]; exact o
theorem gc_some {F : SF} {ds : List D} {h h1 : Hd} {d : D} (e : F ds h = .ok d h1) : ∃ h', gcF F ds h = .ok d h' := by
  unfold gcF
  rw [e]
  dsimp only
  split
  · exact ⟨_, rfl⟩
  · exact ⟨_, rfl⟩
noncomputable def F_law_pen : SF := gcF (bodyR b_pen 1)
noncomputable def F_law_signs : SF := gcF (bodyR b_signs 1)
noncomputable def F_law : SF := gcF (bodyR (b_law (F_law_parts 6) F_law_pen F_law_right (F_law_same 13) (F_law_shape 5) F_law_signs F_law_some F_law_take (F_parts_of 6) (F_weight 6)) 8)
theorem law_ok (ns : List Int) : ∃ h', F_law [.rol (ns.map D.int)] [] = .ok (.bl true) h' := by
  suffices h : Done (b_law (F_law_parts 6) F_law_pen F_law_right (F_law_same 13) (F_law_shape 5) F_law_signs F_law_some F_law_take (F_parts_of 6) (F_weight 6) [some (.rol (ns.map D.int)), none, none, none, none, none, none, none] []) by
    obtain ⟨h1, e⟩ := h
    exact gc_some (body_rt e)
  have cc : cost 5 = 16807000 := by decide
  have cd : cost 3 = 343000 := by decide
  unfold b_law
  obtain ⟨p, g, e0, _, P0⟩ := pen_ok ns []
  have e0 : F_law_pen [.rol (ns.map D.int)] [] = .ok (.ref p) ([] ++ g) := e0
  refine done_seq (t_set (e_a (e_cons (e_v rfl) e_nil) (e_call rfl e0))) ?_
  clear e0
  generalize ([] ++ g : Hd) = h0 at P0
  obtain ⟨T, o1, e1, T1, T6, P1, _⟩ := some_ok take_ok h0 p 0 (PEN.s1 ++ s2') 6 P0 (by decide) (by decide) (by rw [signs_len]; decide) (by rw [signs_len]; decide)
  have e1' : F_law_some [.ref p, .str (PEN.s1 ++ s2'), .int 6] h0 = .ok (.str T) (h0.set p o1) := e1
  have es' : F_law_signs [] h0 = .ok (.str (PEN.s1 ++ s2')) h0 := signs_ok h0
  generalize PEN.s1 ++ s2' = SG at e1' es'
  refine done_seq (t_set (e_a (e_cons (e_v rfl) (e_cons (e_a e_nil (e_call rfl es')) (e_cons e_c e_nil))) (e_call rfl e1'))) ?_
  clear e1' es' e1
  generalize h0.set p o1 = h1 at P1
  have T7 : T.length ≤ 900 := by omega
  obtain ⟨sh0, h2, e2, g0, P2, _⟩ := shape_call (m := 5) (n := 5) (by decide) (by decide) (k := 23) P1 (by decide) (by omega) T1 T7
  refine done_seq (t_set (e_a (e_cons (e_a (e_cons (e_v rfl) (e_cons (e_a (e_cons e_c e_nil) rfl) (e_cons e_c (e_cons (e_v rfl) e_nil)))) (e_call rfl e2)) e_nil) rfl)) ?_
  have P3 : Pen (h2 ++ [.lst [toD sh0]]) p _ := Pen.app P2
  have q3 : (h2 ++ [.lst [toD sh0]])[h2.length]? = some (.lst [toD sh0]) := get_last
  have n3 : h2.length ≠ p := by have := Pen.lt P2; omega
  generalize (h2 ++ [.lst [toD sh0]] : Hd) = h3 at P3 q3
  generalize h2.length = L3 at q3 n3
  -- two small ones
  have mp := mapR_all (ck := fun _ => True) (f := bindT t1 (sA (sN 4 (F_law_shape 5)) (sCons (sV 1) (sCons (sA gLst (sCons (sC (.int 7)) sNil)) (sCons (sC (.int 3)) (sCons (sV 2) sNil))))) [some (.ref p), some (.str T)]) (rng 0 (2 : Int).toNat)
    (fun pre ys h' => ∃ shs : List Sh, ys = shs.map toD ∧ (∀ s ∈ shs, good 3 s) ∧ shs.length = pre.length ∧ Pen h' p (0 + 1 + (6 : Int).toNat + cost 5 + pre.length * cost 3) ∧ Keep p h3 h') (fun _ _ _ _ => True.intro) ?_ (rng 0 (2 : Int).toNat) [] [] h3 rfl ⟨[], rfl, by simp, rfl, P3, Keep.refl _ _⟩
  rotate_left
  · rintro pre x post ys h' all ⟨shs, rfl, gs, ls, P', K'⟩
    have la : pre.length < 2 := by
      have := congrArg List.length all
      simp [rng] at this; omega
    have zc : pre.length * cost 3 ≤ 1 * cost 3 := Nat.mul_le_mul_right _ (by omega)
    obtain ⟨sh, h6, e6, g6, P6, K6⟩ := shape_call (m := 5) (n := 3) (by decide) (by decide) (k := 7) P' (by decide) (by omega) T1 T7
    refine ⟨toD sh, h6, ?_, shs ++ [sh], by simp, ?_, by simp [ls], ?_, K'.trans K6⟩
    · apply bind_t1
      exact e_a (e_cons (e_v rfl) (e_cons (e_a (e_cons e_c e_nil) rfl) (e_cons e_c (e_cons (e_v rfl) e_nil)))) (e_call rfl e6)
    · intro s hs
      rcases List.mem_append.mp hs with hs | hs
      · exact gs s hs
      · rw [List.mem_singleton.mp hs]; exact g6
    · rw [List.length_append, List.length_singleton, Nat.add_mul, Nat.one_mul, ← Nat.add_assoc]; exact P6
  obtain ⟨zs, h4, e4, shs, eq4, g4, l4, P4, K4⟩ := mp
  rw [List.nil_append] at eq4
  subst eq4
  have lr : (rng 0 (2 : Int).toNat).length = 2 := by simp [rng]
  rw [lr] at l4 P4
  obtain ⟨sa, sb, rfl⟩ : ∃ sa sb, shs = [sa, sb] := by
    match shs, l4 with
    | [a, b], _ => exact ⟨a, b, rfl⟩
  have ga : good 3 sa := g4 sa (by simp)
  have gb : good 3 sb := g4 sb (by simp)
  clear g4 l4
  refine done_seq (t_set (e_2 (e_v rfl) (e_comp (e_rg1 (e_cons e_c e_nil) (by constructor <;> decide)) (by show (rng 0 (2 : Int).toNat).length ≤ 16777216; rw [lr]; decide) e4) (add_lists (get_left (K4.get q3 n3)) get_last (by show _ ≤ 16777216; simp)))) ?_
  have P5 : Pen (h4 ++ [.lst ([sa, sb].map toD)] ++ [.lst ([toD sh0] ++ [sa, sb].map toD)]) p _ := Pen.app (Pen.app P4)
  have q5 : (h4 ++ [.lst ([sa, sb].map toD)] ++ [.lst ([toD sh0] ++ [sa, sb].map toD)])[(h4 ++ [O.lst ([sa, sb].map toD)]).length]? = some (.lst ([toD sh0] ++ [sa, sb].map toD)) := get_last
  have n5 : (h4 ++ [O.lst ([sa, sb].map toD)]).length ≠ p := by have := Pen.lt P4; rw [List.length_append]; simp; omega
  generalize (h4 ++ [.lst ([sa, sb].map toD)] ++ [.lst ([toD sh0] ++ [sa, sb].map toD)] : Hd) = h5 at P5 q5
  generalize (h4 ++ [O.lst ([sa, sb].map toD)]).length = L5 at q5 n5
  have q5 : h5[L5]? = some (.lst [toD sh0, toD sa, toD sb]) := q5
  -- how often
  obtain ⟨lo, h6, e6, lo0, lo1, P6, K6⟩ := take_call (m := 5) P5 (by omega) (by decide) (by decide)
  refine done_seq (t_set (e_a (e_cons (e_v rfl) (e_cons e_c e_nil)) (e_call rfl e6))) ?_
  obtain ⟨up, h7, e7, up0, up1, P7, K7⟩ := take_call (m := 5 - lo) P6 (by omega) (by omega) (by omega)
  refine done_seq (t_set (e_2 (e_v rfl) (e_a (e_cons (e_v rfl) (e_cons (e_2 e_c (e_v rfl) rfl) e_nil)) (e_call rfl e7)) rfl)) ?_
  obtain ⟨r, h8, e8, r0, r1, P8, K8⟩ := take_call (m := 2) P7 (by omega) (by decide) (by decide)
  have q8 : h8[L5]? = some (.lst [toD sh0, toD sa, toD sb]) := ((K6.trans K7).trans K8).get q5 n5
  have one : ∃ s1, good 3 s1 ∧ gIx (.ref L5) (.int (1 + r)) h8 = .ok (toD s1) h8 := by
    have : r = 0 ∨ r = 1 := by omega
    rcases this with rfl | rfl
    · exact ⟨sa, ga, by simp only [gIx, seqD, q8, show (1 : Int) + 0 = 1 from rfl, atI_1]⟩
    · exact ⟨sb, gb, by simp only [gIx, seqD, q8, show (1 : Int) + 1 = 2 from rfl, atI_2]⟩
  obtain ⟨s1, gs1, eo⟩ := one
  refine done_seq (t_set (e_2 (e_v rfl) (e_2 e_c (e_a (e_cons (e_v rfl) (e_cons e_c e_nil)) (e_call rfl e8)) rfl) eo)) ?_
  generalize hhi : lo + up = hi
  have b1 : 0 ≤ lo ∧ lo ≤ hi ∧ hi ≤ 4 := ⟨lo0, by omega, by omega⟩
  have b2 : (0 : Int) ≤ 0 ∧ 0 ≤ hi ∧ hi ≤ 4 := ⟨by decide, by omega, by omega⟩
  have w1 : toD (.many s1) = .tup [.str "many", toD s1] := by rw [toD]
  have w2 : toD (.times s1 lo hi) = .tup [.str "times", toD s1, .int lo, .int hi] := by rw [toD]
  have w3 : toD (.times (.times s1 0 hi) lo hi) = .tup [.str "times", .tup [.str "times", toD s1, .int 0, .int hi], .int lo, .int hi] := by rw [toD, toD]
  refine done_seq (t_set (e_2 (e_v rfl) (e_a (e_cons (e_a (e_cons e_c (e_cons (e_v rfl) e_nil)) rfl) (e_cons (e_a (e_cons e_c (e_cons (e_v rfl) (e_cons (e_v rfl) (e_cons (e_v rfl) e_nil)))) rfl) (e_cons (e_a (e_cons e_c (e_cons (e_a (e_cons e_c (e_cons (e_v rfl) (e_cons e_c (e_cons (e_v rfl) e_nil)))) rfl) (e_cons (e_v rfl) (e_cons (e_v rfl) e_nil)))) rfl) e_nil))) rfl) (add_lists (get_left q8) get_last (by show _ ≤ 16777216; simp)))) ?_
  rw [← w3, ← w2, ← w1]
  generalize hh9 : (h8 ++ [O.lst [toD (.many s1), toD (.times s1 lo hi), toD (.times (.times s1 0 hi) lo hi)]] : Hd) = h9
  have P9 : Pen h9 p 100000000 := by rw [← hh9]; exact (Pen.app P8).up (by omega)
  have q9 : (h9 ++ [.lst ([toD sh0, toD sa, toD sb] ++ [toD (.many s1), toD (.times s1 lo hi), toD (.times (.times s1 0 hi) lo hi)])])[h9.length]? = some (.lst ([toD sh0, toD sa, toD sb] ++ [toD (.many s1), toD (.times s1 lo hi), toD (.times (.times s1 0 hi) lo hi)])) := get_last
  have n9 : h9.length ≠ p := by have := Pen.lt P9; omega
  have P10 : Pen (h9 ++ [.lst ([toD sh0, toD sa, toD sb] ++ [toD (.many s1), toD (.times s1 lo hi), toD (.times (.times s1 0 hi) lo hi)])]) p _ := Pen.app P9
  generalize (h9 ++ [.lst ([toD sh0, toD sa, toD sb] ++ [toD (.many s1), toD (.times s1 lo hi), toD (.times (.times s1 0 hi) lo hi)])] : Hd) = h10 at q9 P10
  generalize h9.length = L9 at q9 n9
  have q9 : h10[L9]? = some (.lst [toD sh0, toD sa, toD sb, toD (.many s1), toD (.times s1 lo hi), toD (.times (.times s1 0 hi) lo hi)]) := q9
  clear P9
  -- rows and either
  have sl : ∃ h11 : Hd, h11 = h10 ++ [.lst [toD sa, toD sb]] := ⟨_, rfl⟩
  obtain ⟨h11, eh11⟩ := sl
  have cut3 : cutL [toD sh0, toD sa, toD sb, toD (.many s1), toD (.times s1 lo hi), toD (.times (.times s1 0 hi) lo hi)] (some 1) (some 3) = [toD sa, toD sb] := rfl
  have es : gSl2 (.ref L9) (some 1) (some 3) h10 = .ok (.ref h10.length) h11 := by
    show gSl (.ref L9) (some 1) (some 3) h10 = _
    simp only [gSl, q9, cut3, eh11]
  have et : gTuple [.ref h10.length] h11 = .ok (.tup [toD sa, toD sb]) h11 := by
    have : h11[h10.length]? = some (.lst [toD sa, toD sb]) := by rw [eh11]; exact get_last
    simp only [gTuple, seqD, this]
  have P11 : Pen h11 p 100000000 := by rw [eh11]; exact Pen.app P10
  have q11 : h11[L9]? = some (.lst [toD sh0, toD sa, toD sb, toD (.many s1), toD (.times s1 lo hi), toD (.times (.times s1 0 hi) lo hi)]) := by rw [eh11]; exact get_left q9
  obtain ⟨u, h12, e12, u0, u1, P12, K12⟩ := take_call (m := 2) P11 (by omega) (by decide) (by decide)
  have q12 := K12.get q11 n9
  have i2 : gIx (.ref L9) (.int 2) h11 = .ok (toD sb) h11 := by simp only [gIx, seqD, q11, atI_2]
  have i1 : gIx (.ref L9) (.int 1) h11 = .ok (toD sa) h11 := by simp only [gIx, seqD, q11, atI_1]
  have ei : ∃ es : List Sh, es.length ≤ 6 ∧ (∀ s ∈ es, good 3 s) ∧ gSl2 (.tup [toD sb, toD sa, toD s1]) none (some (2 + u)) h12 = .ok (.tup (es.map toD)) h12 := by
    have : u = 0 ∨ u = 1 := by omega
    rcases this with rfl | rfl
    · exact ⟨[sb, sa], by simp, by simp [ga, gb], by rw [gSl2_tup]; rfl⟩
    · exact ⟨[sb, sa, s1], by simp, by simp [ga, gb, gs1], by rw [gSl2_tup]; rfl⟩
  obtain ⟨eis, el, eg, ee⟩ := ei
  have w4 : toD (.row [sa, sb]) = .tup [.str "row", .tup [toD sa, toD sb]] := by rw [toD, toDs_map]; rfl
  have w5 : toD (.either eis) = .tup [.str "either", .tup (eis.map toD)] := by rw [toD, toDs_map]
  refine done_seq (t_set (e_2 (e_v rfl) (e_a (e_cons (e_a (e_cons e_c (e_cons (e_a (e_cons (e_sl (e_v rfl) (e_oS e_c) (e_oS e_c) es) e_nil) et) e_nil)) rfl) (e_cons (e_a (e_cons e_c (e_cons (e_sl (e_a (e_cons (e_2 (e_v rfl) e_c i2) (e_cons (e_2 (e_v rfl) e_c i1) (e_cons (e_v rfl) e_nil))) rfl) e_oN (e_oS (e_2 e_c (e_a (e_cons (e_v rfl) (e_cons e_c e_nil)) (e_call rfl e12)) rfl)) ee) e_nil)) rfl) e_nil)) rfl) (add_lists (get_left q12) get_last (by show _ ≤ 16777216; simp)))) ?_
  rw [← w4, ← w5]
  -- all of them
  have all : ∃ as : List Sh, as = [sh0, sa, sb, .many s1, .times s1 lo hi, .times (.times s1 0 hi) lo hi, .row [sa, sb], .either eis] := ⟨_, rfl⟩
  obtain ⟨as, eas⟩ := all
  have gall : ∀ s ∈ as, good 6 s := by
    subst eas
    have ga' := good_le ga (show 3 ≤ 5 by decide)
    have gb' := good_le gb (show 3 ≤ 5 by decide)
    have gs' := good_le gs1 (show 3 ≤ 5 by decide)
    intro s hs
    simp only [List.mem_cons, List.not_mem_nil, or_false] at hs
    rcases hs with rfl | rfl | rfl | rfl | rfl | rfl | rfl | rfl
    · exact good_le g0 (by decide)
    · exact good_le ga (by decide)
    · exact good_le gb (by decide)
    · exact gs'
    · exact ⟨b1, gs'⟩
    · exact ⟨b1, b2, good_le gs1 (by decide)⟩
    · exact ⟨by simp, by simp [ga', gb']⟩
    · exact ⟨el, fun s hs => good_le (eg s hs) (by decide)⟩
  have em : [toD sh0, toD sa, toD sb, toD (.many s1), toD (.times s1 lo hi), toD (.times (.times s1 0 hi) lo hi)] ++ [toD (.row [sa, sb]), toD (.either eis)] = as.map toD := by rw [eas]; rfl
  rw [em]
  generalize (h12 ++ [O.lst [toD (.row [sa, sb]), toD (.either eis)]] : Hd) = h13
  have q13 : (h13 ++ [.lst (as.map toD)])[h13.length]? = some (.lst (as.map toD)) := get_last
  generalize (h13 ++ [.lst (as.map toD)] : Hd) = h14 at q13
  generalize h13.length = L at q13
  have lo' := forS (ck := fun h => h[L]? = some (.lst (as.map toD))) (g := kN 7) (b := (sIf (sAnd (sT (s2 gLt (sA gLen (sCons (sA (sN 1 (F_law_parts 6)) (sCons (sV 7) sNil)) sNil)) (sC (.int 25)))) (sNot (sTru (sA (sN 1 F_law_right) (sCons (sV 7) sNil))))) (sRet (sC (.bl false))) sNx)) (ps := as)
    (fun _ τ h' => ∃ t7, τ = [some (.rol (ns.map D.int)), some (.ref p), some (.str T), some (.ref L), some (.int lo), some (.int hi), some (toD s1), t7] ∧ h'[L]? = some (.lst (as.map toD))) (fun _ _ _ ⟨_, _, e⟩ => e) ?_ (τ := [some (.rol (ns.map D.int)), some (.ref p), some (.str T), some (.ref L), some (.int lo), some (.int hi), some (toD s1), none]) (h := h14) ⟨none, rfl, q13⟩
  rotate_left
  · rintro pre s post τ h' e ⟨t7, rfl, eh⟩
    have gs : good 6 s := gall s (by rw [e]; simp)
    obtain ⟨a, g, ep, la, ea⟩ := law_parts_ok 6 s h' (by decide) gs
    refine ⟨_, _, rfl, [some (.rol (ns.map D.int)), some (.ref p), some (.str T), some (.ref L), some (.int lo), some (.int hi), some (toD s1), some (toD s)], h' ++ g, ?_, _, rfl, get_left eh⟩
    have el2 : gLen [.ref a] (h' ++ g) = .ok (.int (parts s).length) (h' ++ g) := by simp only [gLen, seqD, ea, List.length_map]
    by_cases z : ((parts s).length : Int) < 25
    · exact t_ifF (e_andT (e_T (e_2 (e_a (e_cons (e_a (e_cons (e_v rfl) e_nil) (e_call rfl ep)) e_nil) el2) e_c (lt_yes z))) (e_not (b := true) (e_tru (e_a (e_cons (e_v rfl) e_nil) (e_call rfl (right_ok s _ gs))) rfl))) t_nx
    · exact t_ifF (e_andF (e_T (e_2 (e_a (e_cons (e_a (e_cons (e_v rfl) e_nil) (e_call rfl ep)) e_nil) el2) e_c (lt_no z)))) t_nx
  obtain ⟨τ', h', e, t7, rfl, eh⟩ := lo'
  have itq : itOf (.ref L) h14 = .ok ⟨as.map toD, fun h => h[L]? = some (.lst (as.map toD))⟩ h14 := by simp only [itOf, q13]
  refine done_seq (t_for (e_it (e_v rfl) itq) e) ?_
  have gr : good 6 (.row []) := ⟨by decide, by simp⟩
  have tr : toD (.row []) = .tup [.str "row", .tup []] := by rw [toD, toDs]
  have i0 : gIx (.ref L) (.int 0) h' = .ok (toD sh0) h' := by
    have : as.map toD = toD sh0 :: ([sa, sb, .many s1, .times s1 lo hi, .times (.times s1 0 hi) lo hi, .row [sa, sb], .either eis] : List Sh).map toD := by rw [eas]; rfl
    simp only [gIx, seqD, eh, this, atI_0]
  have x1 := right_ok sh0 h' (good_le g0 (by decide))
  have x2 : F_weight 6 [.tup [.str "row", .tup []]] h' = .ok (.int 0) h' := by
    have := weight_ok 6 (.row []) h' gr
    rwa [tr] at this
  have x3 : F_parts_of 6 [.tup [.str "row", .tup []]] h' = .ok (.tup [.tup [.str "row", .tup []]]) h' := by
    have := parts_of_ok 6 (.row []) h' (by decide) gr
    rw [tr] at this
    rw [this]
    simp [parts, partsL, tr]
  have x4 : F_law_same 13 [.tup [.tup [.str "row", .tup []]], .tup [.tup [.str "row", .tup []]]] h' = .ok (.bl true) h' := same_ok 13 _ h' (by
    intro d hd
    rw [List.mem_singleton.mp hd, ← tr]
    exact nice_toD gr)
  exact ⟨h', t_ret (e_andVT (e_a (e_cons (e_2 (e_v rfl) e_c i0) e_nil) (e_call rfl x1)) (e_andVT (e_2 (e_a (e_cons (e_a (e_cons e_c (e_cons (e_a e_nil rfl) e_nil)) rfl) e_nil) (e_call rfl x2)) e_c (eq_int _ _ _)) (e_a (e_cons (e_a (e_cons (e_a (e_cons e_c (e_cons (e_a e_nil rfl) e_nil)) rfl) e_nil) (e_call rfl x3)) (e_cons (e_a (e_cons (e_a (e_cons e_c (e_cons (e_a e_nil rfl) e_nil)) rfl) e_nil) rfl) e_nil)) (e_call rfl x4))))⟩

noncomputable def F_law_inner : SF := F_inner
end SHF

set_option Elab.async false
set_option linter.all false
set_option maxRecDepth 100000
set_option maxHeartbeats 4000000
namespace K05
open PySem PySem.Spec L2 MI
section
variable {P : Program} {w : World} {K : PySem.W.Frag} {mg : Str → Option Value} {base : Heap} {f : Addr} {fd : FuncData}
theorem d_inner (Fu : Fun K "inner" "inner" (top 1) f fd) (mk : mg "inner" = some (.ref f)) (kp : PySem.W.keepIn K (.ref f) = true) (bd : Binds K fd ["shape"] [])  : Dn P w K mg base 1 "inner" ["shape"] (spOf K 1 (SHF.F_inner)) f fd :=
  ⟨def_gc Fu sc_inner (m_inner ), mk, kp, bd⟩
theorem d_weight (Fu : Fun K "weight" "weight" (top 2) f fd) (mk : mg "weight" = some (.ref f)) (kp : PySem.W.keepIn K (.ref f) = true) (bd : Binds K fd ["shape"] []) (M : Nm mg) {a_inner : Addr} {d_inner : FuncData} (D_inner : Dn P w K mg base 1 "inner" ["shape"] (spOf K 1 (SHF.F_inner)) a_inner d_inner) : ∀ n : Nat, Dn P w K mg base (n + 1) "weight" ["shape"] (spOf K 1 (SHF.F_weight n)) f fd := by
  intro n
  induction n with
  | zero => exact ⟨fn_no (ps := ["shape"]), mk, kp, bd⟩
  | succ n self0 =>
    have self : ∀ _ : Nat, Dn P w K mg base (n + 1) "weight" ["shape"] (spOf K 1 (SHF.F_weight n)) f fd := fun _ => self0
    have e : n + 1 + 1 = n + 1 + 1 := by omega
    rw [e]
    exact ⟨def_gc Fu sc_weight (m_weight M D_inner (by omega) (self n) (by omega)), mk, kp, bd⟩
theorem d_parts_of (Fu : Fun K "parts_of" "parts_of" (top 3) f fd) (mk : mg "parts_of" = some (.ref f)) (kp : PySem.W.keepIn K (.ref f) = true) (bd : Binds K fd ["shape"] []) (M : Nm mg) {a_inner : Addr} {d_inner : FuncData} (D_inner : Dn P w K mg base 1 "inner" ["shape"] (spOf K 1 (SHF.F_inner)) a_inner d_inner) : ∀ n : Nat, Dn P w K mg base (n + 1) "parts_of" ["shape"] (spOf K 1 (SHF.F_parts_of n)) f fd := by
  intro n
  induction n with
  | zero => exact ⟨fn_no (ps := ["shape"]), mk, kp, bd⟩
  | succ n self0 =>
    have self : ∀ _ : Nat, Dn P w K mg base (n + 1) "parts_of" ["shape"] (spOf K 1 (SHF.F_parts_of n)) f fd := fun _ => self0
    have e : n + 1 + 1 = n + 1 + 1 := by omega
    rw [e]
    exact ⟨def_gc Fu sc_parts_of (m_parts_of M D_inner (by omega) (self n) (by omega)), mk, kp, bd⟩
theorem d_law_pen (Fu : Fun K "_law_pen" "_law_pen" (top 5) f fd) (mk : mg "_law_pen" = some (.ref f)) (kp : PySem.W.keepIn K (.ref f) = true) (bd : Binds K fd ["_law_script"] [])  : Dn P w K mg base 1 "_law_pen" ["_law_script"] (spOf K 1 (SHF.F_law_pen)) f fd :=
  ⟨def_gc Fu sc_law_pen (m_law_pen ), mk, kp, bd⟩
theorem d_law_take (Fu : Fun K "_law_take" "_law_take" (top 6) f fd) (mk : mg "_law_take" = some (.ref f)) (kp : PySem.W.keepIn K (.ref f) = true) (bd : Binds K fd ["_law_pen_here", "_law_many"] []) (M : Nm mg) : Dn P w K mg base 1 "_law_take" ["_law_pen_here", "_law_many"] (spOf K 2 (SHF.F_law_take)) f fd :=
  ⟨def_gc Fu sc_law_take (m_law_take M), mk, kp, bd⟩
theorem d_law_signs (Fu : Fun K "_law_signs" "_law_signs" (top 7) f fd) (mk : mg "_law_signs" = some (.ref f)) (kp : PySem.W.keepIn K (.ref f) = true) (bd : Binds K fd [] [])  : Dn P w K mg base 1 "_law_signs" [] (spOf K 0 (SHF.F_law_signs)) f fd :=
  ⟨def_gc Fu sc_law_signs (m_law_signs ), mk, kp, bd⟩
theorem d_law_some (Fu : Fun K "_law_some" "_law_some" (top 8) f fd) (mk : mg "_law_some" = some (.ref f)) (kp : PySem.W.keepIn K (.ref f) = true) (bd : Binds K fd ["_law_pen_here", "_law_rest", "_law_most"] []) (M : Nm mg) {a_law_take : Addr} {d_law_take : FuncData} (D_law_take : Dn P w K mg base 1 "_law_take" ["_law_pen_here", "_law_many"] (spOf K 2 (SHF.F_law_take)) a_law_take d_law_take) : Dn P w K mg base 2 "_law_some" ["_law_pen_here", "_law_rest", "_law_most"] (spOf K 3 (SHF.F_law_some)) f fd :=
  ⟨def_gc Fu sc_law_some (m_law_some M D_law_take (by decide)), mk, kp, bd⟩
theorem d_law_shape (Fu : Fun K "_law_shape" "_law_shape" (top 9) f fd) (mk : mg "_law_shape" = some (.ref f)) (kp : PySem.W.keepIn K (.ref f) = true) (bd : Binds K fd ["_law_pen_here", "_law_purse", "_law_deep", "_law_tongue"] []) (M : Nm mg) {a_law_some : Addr} {d_law_some : FuncData} (D_law_some : Dn P w K mg base 2 "_law_some" ["_law_pen_here", "_law_rest", "_law_most"] (spOf K 3 (SHF.F_law_some)) a_law_some d_law_some) {a_law_take : Addr} {d_law_take : FuncData} (D_law_take : Dn P w K mg base 1 "_law_take" ["_law_pen_here", "_law_many"] (spOf K 2 (SHF.F_law_take)) a_law_take d_law_take) : ∀ n : Nat, Dn P w K mg base (n + 2) "_law_shape" ["_law_pen_here", "_law_purse", "_law_deep", "_law_tongue"] (spOf K 4 (SHF.F_law_shape n)) f fd := by
  intro n
  induction n with
  | zero => exact ⟨fn_no (ps := ["_law_pen_here", "_law_purse", "_law_deep", "_law_tongue"]), mk, kp, bd⟩
  | succ n self0 =>
    have self : ∀ _ : Nat, Dn P w K mg base (n + 2) "_law_shape" ["_law_pen_here", "_law_purse", "_law_deep", "_law_tongue"] (spOf K 4 (SHF.F_law_shape n)) f fd := fun _ => self0
    have e : n + 1 + 2 = n + 2 + 1 := by omega
    rw [e]
    exact ⟨def_gc Fu sc_law_shape (m_law_shape M (self n) (by omega) D_law_some (by omega) D_law_take (by omega)), mk, kp, bd⟩
theorem d_law_inner (Fu : Fun K "_law_inner" "_law_inner" (top 10) f fd) (mk : mg "_law_inner" = some (.ref f)) (kp : PySem.W.keepIn K (.ref f) = true) (bd : Binds K fd ["_law_shape_here"] [])  : Dn P w K mg base 1 "_law_inner" ["_law_shape_here"] (spOf K 1 (SHF.F_law_inner)) f fd :=
  ⟨def_gc Fu sc_law_inner (m_law_inner ), mk, kp, bd⟩
theorem d_law_parts (Fu : Fun K "_law_parts" "_law_parts" (top 11) f fd) (mk : mg "_law_parts" = some (.ref f)) (kp : PySem.W.keepIn K (.ref f) = true) (bd : Binds K fd ["_law_shape_here"] []) {a_law_inner : Addr} {d_law_inner : FuncData} (D_law_inner : Dn P w K mg base 1 "_law_inner" ["_law_shape_here"] (spOf K 1 (SHF.F_law_inner)) a_law_inner d_law_inner) : ∀ n : Nat, Dn P w K mg base (n + 1) "_law_parts" ["_law_shape_here"] (spOf K 1 (SHF.F_law_parts n)) f fd := by
  intro n
  induction n with
  | zero => exact ⟨fn_no (ps := ["_law_shape_here"]), mk, kp, bd⟩
  | succ n self0 =>
    have self : ∀ _ : Nat, Dn P w K mg base (n + 1) "_law_parts" ["_law_shape_here"] (spOf K 1 (SHF.F_law_parts n)) f fd := fun _ => self0
    have e : n + 1 + 1 = n + 1 + 1 := by omega
    rw [e]
    exact ⟨def_gc Fu sc_law_parts (m_law_parts D_law_inner (by omega) (self n) (by omega)), mk, kp, bd⟩
theorem d_law_same (Fu : Fun K "_law_same" "_law_same" (top 12) f fd) (mk : mg "_law_same" = some (.ref f)) (kp : PySem.W.keepIn K (.ref f) = true) (bd : Binds K fd ["_law_found", "_law_due"] []) (M : Nm mg) : ∀ n : Nat, Dn P w K mg base (n + 0) "_law_same" ["_law_found", "_law_due"] (spOf K 2 (SHF.F_law_same n)) f fd := by
  intro n
  induction n with
  | zero => exact ⟨fn_no (ps := ["_law_found", "_law_due"]), mk, kp, bd⟩
  | succ n self0 =>
    have self : ∀ _ : Nat, Dn P w K mg base (n + 0) "_law_same" ["_law_found", "_law_due"] (spOf K 2 (SHF.F_law_same n)) f fd := fun _ => self0
    have e : n + 1 + 0 = n + 0 + 1 := by omega
    rw [e]
    exact ⟨def_gc Fu sc_law_same (m_law_same M (self n) (by omega)), mk, kp, bd⟩
theorem d_law_weights (Fu : Fun K "_law_weights" "_law_weights" (top 13) f fd) (mk : mg "_law_weights" = some (.ref f)) (kp : PySem.W.keepIn K (.ref f) = true) (bd : Binds K fd ["_law_shape_here", "_law_often"] []) {a_law_inner : Addr} {d_law_inner : FuncData} (D_law_inner : Dn P w K mg base 1 "_law_inner" ["_law_shape_here"] (spOf K 1 (SHF.F_law_inner)) a_law_inner d_law_inner) : ∀ n : Nat, Dn P w K mg base (n + 1) "_law_weights" ["_law_shape_here", "_law_often"] (spOf K 2 (SHF.F_law_weights n)) f fd := by
  intro n
  induction n with
  | zero => exact ⟨fn_no (ps := ["_law_shape_here", "_law_often"]), mk, kp, bd⟩
  | succ n self0 =>
    have self : ∀ _ : Nat, Dn P w K mg base (n + 1) "_law_weights" ["_law_shape_here", "_law_often"] (spOf K 2 (SHF.F_law_weights n)) f fd := fun _ => self0
    have e : n + 1 + 1 = n + 1 + 1 := by omega
    rw [e]
    exact ⟨def_gc Fu sc_law_weights (m_law_weights D_law_inner (by omega) (self n) (by omega)), mk, kp, bd⟩
theorem d_law_right (Fu : Fun K "_law_right" "_law_right" (top 14) f fd) (mk : mg "_law_right" = some (.ref f)) (kp : PySem.W.keepIn K (.ref f) = true) (bd : Binds K fd ["_law_shape_here"] []) (M : Nm mg) {a_law_parts : Addr} {d_law_parts : FuncData} (D_law_parts : Dn P w K mg base 7 "_law_parts" ["_law_shape_here"] (spOf K 1 (SHF.F_law_parts 6)) a_law_parts d_law_parts) {a_law_same : Addr} {d_law_same : FuncData} (D_law_same : Dn P w K mg base 13 "_law_same" ["_law_found", "_law_due"] (spOf K 2 (SHF.F_law_same 13)) a_law_same d_law_same) {a_law_weights : Addr} {d_law_weights : FuncData} (D_law_weights : Dn P w K mg base 7 "_law_weights" ["_law_shape_here", "_law_often"] (spOf K 2 (SHF.F_law_weights 6)) a_law_weights d_law_weights) {a_parts_of : Addr} {d_parts_of : FuncData} (D_parts_of : Dn P w K mg base 7 "parts_of" ["shape"] (spOf K 1 (SHF.F_parts_of 6)) a_parts_of d_parts_of) {a_weight : Addr} {d_weight : FuncData} (D_weight : Dn P w K mg base 7 "weight" ["shape"] (spOf K 1 (SHF.F_weight 6)) a_weight d_weight) : Dn P w K mg base 14 "_law_right" ["_law_shape_here"] (spOf K 1 (SHF.F_law_right)) f fd :=
  ⟨def_gc Fu sc_law_right (m_law_right M D_law_parts (by decide) D_law_same (by decide) D_law_weights (by decide) D_parts_of (by decide) D_weight (by decide)), mk, kp, bd⟩
theorem d_law (Fu : Fun K "law" "law" (top 15) f fd) (mk : mg "law" = some (.ref f)) (kp : PySem.W.keepIn K (.ref f) = true) (bd : Binds K fd ["_law_script"] []) (M : Nm mg) {a_law_parts : Addr} {d_law_parts : FuncData} (D_law_parts : Dn P w K mg base 7 "_law_parts" ["_law_shape_here"] (spOf K 1 (SHF.F_law_parts 6)) a_law_parts d_law_parts) {a_law_pen : Addr} {d_law_pen : FuncData} (D_law_pen : Dn P w K mg base 1 "_law_pen" ["_law_script"] (spOf K 1 (SHF.F_law_pen)) a_law_pen d_law_pen) {a_law_right : Addr} {d_law_right : FuncData} (D_law_right : Dn P w K mg base 14 "_law_right" ["_law_shape_here"] (spOf K 1 (SHF.F_law_right)) a_law_right d_law_right) {a_law_same : Addr} {d_law_same : FuncData} (D_law_same : Dn P w K mg base 13 "_law_same" ["_law_found", "_law_due"] (spOf K 2 (SHF.F_law_same 13)) a_law_same d_law_same) {a_law_shape : Addr} {d_law_shape : FuncData} (D_law_shape : Dn P w K mg base 7 "_law_shape" ["_law_pen_here", "_law_purse", "_law_deep", "_law_tongue"] (spOf K 4 (SHF.F_law_shape 5)) a_law_shape d_law_shape) {a_law_signs : Addr} {d_law_signs : FuncData} (D_law_signs : Dn P w K mg base 1 "_law_signs" [] (spOf K 0 (SHF.F_law_signs)) a_law_signs d_law_signs) {a_law_some : Addr} {d_law_some : FuncData} (D_law_some : Dn P w K mg base 2 "_law_some" ["_law_pen_here", "_law_rest", "_law_most"] (spOf K 3 (SHF.F_law_some)) a_law_some d_law_some) {a_law_take : Addr} {d_law_take : FuncData} (D_law_take : Dn P w K mg base 1 "_law_take" ["_law_pen_here", "_law_many"] (spOf K 2 (SHF.F_law_take)) a_law_take d_law_take) {a_parts_of : Addr} {d_parts_of : FuncData} (D_parts_of : Dn P w K mg base 7 "parts_of" ["shape"] (spOf K 1 (SHF.F_parts_of 6)) a_parts_of d_parts_of) {a_weight : Addr} {d_weight : FuncData} (D_weight : Dn P w K mg base 7 "weight" ["shape"] (spOf K 1 (SHF.F_weight 6)) a_weight d_weight) : Dn P w K mg base 15 "law" ["_law_script"] (spOf K 1 (SHF.F_law)) f fd :=
  ⟨def_gc Fu sc_law (m_law M D_law_parts (by decide) D_law_pen (by decide) D_law_right (by decide) D_law_same (by decide) D_law_shape (by decide) D_law_signs (by decide) D_law_some (by decide) D_law_take (by decide) D_parts_of (by decide) D_weight (by decide)), mk, kp, bd⟩
end
def spLaw (K : PySem.W.Frag) : Sp := fun vs H Q _ => ∃ (a : Addr) (ns : List Int), vs = [.ref a] ∧ SqF K H a (ns.map V.int) ∧ ns.length ≤ 63 ∧ ∀ H', Q (.bl true) H'
theorem reps_ints {K : PySem.W.Frag} {ι : List Addr} {H : Hp} : ∀ ns : List Int, Reps K ι H (ns.map V.int) (ns.map D.int)
  | [] => .nil
  | n :: ns => .cons (.int n) (reps_ints ns)
theorem law_to {K : PySem.W.Frag} (vs : List V) (H : Hp) (Q : VK) (E : XK) (h : spLaw K vs H Q E) : spOf K 1 SHF.F_law vs H Q E := by
  obtain ⟨a, ns, rfl, hS, hl, q⟩ := h
  obtain ⟨h', e⟩ := SHF.law_ok ns
  refine ⟨rfl, [], [.rol (ns.map D.int)], [], .cons (.rol hS (reps_ints ns)) .nil, ⟨List.nodup_nil, rfl, fun i a o z => by simp at z⟩, ?_⟩
  rw [e]
  intro ι' H' b g r hr
  cases r
  exact q H'
theorem sqf_of {K : PySem.W.Frag} {H : Hp} {a : Addr} {vs : List V} (hO : Only H) (hS : SqL K H a vs) : SqF K H a vs := by
  rcases hS with r | r
  · rcases r with r | ⟨o, r⟩
    · rcases hO a with z | ⟨o, xs, z⟩ <;> rw [z] at r <;> cases r
    · exact .inl ⟨o, r⟩
  · exact .inr (.inr r)
theorem all_mk {l : PySem.W.OpenLaw} {w : World} {K : PySem.W.Frag} {h : Heap} {mg : Str → Option Value} {fa f1 f2 f3 f4 f5 f6 f7 f8 f9 f10 f11 f12 f13 f14 : Addr} (X : K.In h) (G : h.Ns mainGlobals mg) (hfa : mg "law" = some (.ref fa))
    {od1 an1 od2 an2 od3 an3 od4 an4 od5 an5 od6 an6 od7 an7 od8 an8 od9 an9 od10 an10 od11 an11 od12 an12 od13 an13 od14 an14 : Option Addr} {sl1 sl2 sl3 sl4 sl5 sl6 sl7 sl8 sl9 sl10 sl11 sl12 sl13 sl14 : Array (Option Value)} {oc1 kV1 dc1 pm1 cd1 ct1 oc2 kV2 dc2 pm2 cd2 ct2 oc3 kV3 dc3 pm3 cd3 ct3 oc4 kV4 dc4 pm4 cd4 ct4 oc5 kV5 dc5 pm5 cd5 ct5 oc6 kV6 dc6 pm6 cd6 ct6 oc7 kV7 dc7 pm7 cd7 ct7 oc8 kV8 dc8 pm8 cd8 ct8 oc9 kV9 dc9 pm9 cd9 ct9 oc10 kV10 dc10 pm10 cd10 ct10 oc11 kV11 dc11 pm11 cd11 ct11 oc12 kV12 dc12 pm12 cd12 ct12 oc13 kV13 dc13 pm13 cd13 ct13 oc14 kV14 dc14 pm14 cd14 ct14 : Value}
    (a1 : PySem.W.nsIn K mainGlobals "inner" = some (some (.ref f1))) (l1 : K.lookup f1 = some ⟨oc1, od1, .func (PySem.W.fnOf "inner" "inner" (defArgs (top 1)) (defBody (top 1)) (defScope (top 1)) .none kV1 dc1 pm1 an1 cd1 ct1), sl1⟩) (c1 : PySem.W.codeIn K cd1 "inner" = true) (k1 : PySem.W.keepIn K (.ref f1) = true)
    (a2 : PySem.W.nsIn K mainGlobals "weight" = some (some (.ref f2))) (l2 : K.lookup f2 = some ⟨oc2, od2, .func (PySem.W.fnOf "weight" "weight" (defArgs (top 2)) (defBody (top 2)) (defScope (top 2)) .none kV2 dc2 pm2 an2 cd2 ct2), sl2⟩) (c2 : PySem.W.codeIn K cd2 "weight" = true) (k2 : PySem.W.keepIn K (.ref f2) = true)
    (a3 : PySem.W.nsIn K mainGlobals "parts_of" = some (some (.ref f3))) (l3 : K.lookup f3 = some ⟨oc3, od3, .func (PySem.W.fnOf "parts_of" "parts_of" (defArgs (top 3)) (defBody (top 3)) (defScope (top 3)) .none kV3 dc3 pm3 an3 cd3 ct3), sl3⟩) (c3 : PySem.W.codeIn K cd3 "parts_of" = true) (k3 : PySem.W.keepIn K (.ref f3) = true)
    (a4 : PySem.W.nsIn K mainGlobals "_law_pen" = some (some (.ref f4))) (l4 : K.lookup f4 = some ⟨oc4, od4, .func (PySem.W.fnOf "_law_pen" "_law_pen" (defArgs (top 5)) (defBody (top 5)) (defScope (top 5)) .none kV4 dc4 pm4 an4 cd4 ct4), sl4⟩) (c4 : PySem.W.codeIn K cd4 "_law_pen" = true) (k4 : PySem.W.keepIn K (.ref f4) = true)
    (a5 : PySem.W.nsIn K mainGlobals "_law_take" = some (some (.ref f5))) (l5 : K.lookup f5 = some ⟨oc5, od5, .func (PySem.W.fnOf "_law_take" "_law_take" (defArgs (top 6)) (defBody (top 6)) (defScope (top 6)) .none kV5 dc5 pm5 an5 cd5 ct5), sl5⟩) (c5 : PySem.W.codeIn K cd5 "_law_take" = true) (k5 : PySem.W.keepIn K (.ref f5) = true)
    (a6 : PySem.W.nsIn K mainGlobals "_law_signs" = some (some (.ref f6))) (l6 : K.lookup f6 = some ⟨oc6, od6, .func (PySem.W.fnOf "_law_signs" "_law_signs" (defArgs (top 7)) (defBody (top 7)) (defScope (top 7)) .none kV6 dc6 pm6 an6 cd6 ct6), sl6⟩) (c6 : PySem.W.codeIn K cd6 "_law_signs" = true) (k6 : PySem.W.keepIn K (.ref f6) = true)
    (a7 : PySem.W.nsIn K mainGlobals "_law_some" = some (some (.ref f7))) (l7 : K.lookup f7 = some ⟨oc7, od7, .func (PySem.W.fnOf "_law_some" "_law_some" (defArgs (top 8)) (defBody (top 8)) (defScope (top 8)) .none kV7 dc7 pm7 an7 cd7 ct7), sl7⟩) (c7 : PySem.W.codeIn K cd7 "_law_some" = true) (k7 : PySem.W.keepIn K (.ref f7) = true)
    (a8 : PySem.W.nsIn K mainGlobals "_law_shape" = some (some (.ref f8))) (l8 : K.lookup f8 = some ⟨oc8, od8, .func (PySem.W.fnOf "_law_shape" "_law_shape" (defArgs (top 9)) (defBody (top 9)) (defScope (top 9)) .none kV8 dc8 pm8 an8 cd8 ct8), sl8⟩) (c8 : PySem.W.codeIn K cd8 "_law_shape" = true) (k8 : PySem.W.keepIn K (.ref f8) = true)
    (a9 : PySem.W.nsIn K mainGlobals "_law_inner" = some (some (.ref f9))) (l9 : K.lookup f9 = some ⟨oc9, od9, .func (PySem.W.fnOf "_law_inner" "_law_inner" (defArgs (top 10)) (defBody (top 10)) (defScope (top 10)) .none kV9 dc9 pm9 an9 cd9 ct9), sl9⟩) (c9 : PySem.W.codeIn K cd9 "_law_inner" = true) (k9 : PySem.W.keepIn K (.ref f9) = true)
    (a10 : PySem.W.nsIn K mainGlobals "_law_parts" = some (some (.ref f10))) (l10 : K.lookup f10 = some ⟨oc10, od10, .func (PySem.W.fnOf "_law_parts" "_law_parts" (defArgs (top 11)) (defBody (top 11)) (defScope (top 11)) .none kV10 dc10 pm10 an10 cd10 ct10), sl10⟩) (c10 : PySem.W.codeIn K cd10 "_law_parts" = true) (k10 : PySem.W.keepIn K (.ref f10) = true)
    (a11 : PySem.W.nsIn K mainGlobals "_law_same" = some (some (.ref f11))) (l11 : K.lookup f11 = some ⟨oc11, od11, .func (PySem.W.fnOf "_law_same" "_law_same" (defArgs (top 12)) (defBody (top 12)) (defScope (top 12)) .none kV11 dc11 pm11 an11 cd11 ct11), sl11⟩) (c11 : PySem.W.codeIn K cd11 "_law_same" = true) (k11 : PySem.W.keepIn K (.ref f11) = true)
    (a12 : PySem.W.nsIn K mainGlobals "_law_weights" = some (some (.ref f12))) (l12 : K.lookup f12 = some ⟨oc12, od12, .func (PySem.W.fnOf "_law_weights" "_law_weights" (defArgs (top 13)) (defBody (top 13)) (defScope (top 13)) .none kV12 dc12 pm12 an12 cd12 ct12), sl12⟩) (c12 : PySem.W.codeIn K cd12 "_law_weights" = true) (k12 : PySem.W.keepIn K (.ref f12) = true)
    (a13 : PySem.W.nsIn K mainGlobals "_law_right" = some (some (.ref f13))) (l13 : K.lookup f13 = some ⟨oc13, od13, .func (PySem.W.fnOf "_law_right" "_law_right" (defArgs (top 14)) (defBody (top 14)) (defScope (top 14)) .none kV13 dc13 pm13 an13 cd13 ct13), sl13⟩) (c13 : PySem.W.codeIn K cd13 "_law_right" = true) (k13 : PySem.W.keepIn K (.ref f13) = true)
    (a14 : PySem.W.nsIn K mainGlobals "law" = some (some (.ref f14))) (l14 : K.lookup f14 = some ⟨oc14, od14, .func (PySem.W.fnOf "law" "law" (defArgs (top 15)) (defBody (top 15)) (defScope (top 15)) .none kV14 dc14 pm14 an14 cd14 ct14), sl14⟩) (c14 : PySem.W.codeIn K cd14 "law" = true) (k14 : PySem.W.keepIn K (.ref f14) = true)
    (z1 : PySem.W.nsIn K mainGlobals "abs" = some none) (z2 : PySem.W.nsIn K mainGlobals "bool" = some none) (z3 : PySem.W.nsIn K mainGlobals "int" = some none) (z4 : PySem.W.nsIn K mainGlobals "isinstance" = some none) (z5 : PySem.W.nsIn K mainGlobals "len" = some none) (z6 : PySem.W.nsIn K mainGlobals "min" = some none) (z7 : PySem.W.nsIn K mainGlobals "range" = some none) (z8 : PySem.W.nsIn K mainGlobals "str" = some none) (z9 : PySem.W.nsIn K mainGlobals "sum" = some none) (z10 : PySem.W.nsIn K mainGlobals "tuple" = some none) (z11 : PySem.W.nsIn K mainGlobals "zip" = some none)  :
    ∃ fd : FuncData, (∀ (s : Shared) (v : Value), BindsTo s fd ⟨[v], []⟩ [("_law_script", v)]) ∧ ∀ base : Heap, K.In base → base.Ns mainGlobals mg → FnOk l.prog w K mg base CX0 15 fa fd ["_law_script"] (spLaw K) := by
  have e := hfa.symm.trans (PySem.W.mg_of X G a14)
  cases e
  have F1 := fun_mk (st := top 1) l1 c1 k1
  have b1 := F1.binds (ps := ["shape"]) fun _ _ _ _ _ _ us hl => match us, hl with | [_], _ => rfl
  have F2 := fun_mk (st := top 2) l2 c2 k2
  have b2 := F2.binds (ps := ["shape"]) fun _ _ _ _ _ _ us hl => match us, hl with | [_], _ => rfl
  have F3 := fun_mk (st := top 3) l3 c3 k3
  have b3 := F3.binds (ps := ["shape"]) fun _ _ _ _ _ _ us hl => match us, hl with | [_], _ => rfl
  have F4 := fun_mk (st := top 5) l4 c4 k4
  have b4 := F4.binds (ps := ["_law_script"]) fun _ _ _ _ _ _ us hl => match us, hl with | [_], _ => rfl
  have F5 := fun_mk (st := top 6) l5 c5 k5
  have b5 := F5.binds (ps := ["_law_pen_here", "_law_many"]) fun _ _ _ _ _ _ us hl => match us, hl with | [_, _], _ => rfl
  have F6 := fun_mk (st := top 7) l6 c6 k6
  have b6 := F6.binds (ps := []) fun _ _ _ _ _ _ us hl => match us, hl with | [], _ => rfl
  have F7 := fun_mk (st := top 8) l7 c7 k7
  have b7 := F7.binds (ps := ["_law_pen_here", "_law_rest", "_law_most"]) fun _ _ _ _ _ _ us hl => match us, hl with | [_, _, _], _ => rfl
  have F8 := fun_mk (st := top 9) l8 c8 k8
  have b8 := F8.binds (ps := ["_law_pen_here", "_law_purse", "_law_deep", "_law_tongue"]) fun _ _ _ _ _ _ us hl => match us, hl with | [_, _, _, _], _ => rfl
  have F9 := fun_mk (st := top 10) l9 c9 k9
  have b9 := F9.binds (ps := ["_law_shape_here"]) fun _ _ _ _ _ _ us hl => match us, hl with | [_], _ => rfl
  have F10 := fun_mk (st := top 11) l10 c10 k10
  have b10 := F10.binds (ps := ["_law_shape_here"]) fun _ _ _ _ _ _ us hl => match us, hl with | [_], _ => rfl
  have F11 := fun_mk (st := top 12) l11 c11 k11
  have b11 := F11.binds (ps := ["_law_found", "_law_due"]) fun _ _ _ _ _ _ us hl => match us, hl with | [_, _], _ => rfl
  have F12 := fun_mk (st := top 13) l12 c12 k12
  have b12 := F12.binds (ps := ["_law_shape_here", "_law_often"]) fun _ _ _ _ _ _ us hl => match us, hl with | [_, _], _ => rfl
  have F13 := fun_mk (st := top 14) l13 c13 k13
  have b13 := F13.binds (ps := ["_law_shape_here"]) fun _ _ _ _ _ _ us hl => match us, hl with | [_], _ => rfl
  have F14 := fun_mk (st := top 15) l14 c14 k14
  have b14 := F14.binds (ps := ["_law_script"]) fun _ _ _ _ _ _ us hl => match us, hl with | [_], _ => rfl
  have M : Nm mg := ⟨PySem.W.mg_none_of X G z1, PySem.W.mg_none_of X G z2, PySem.W.mg_none_of X G z3, PySem.W.mg_none_of X G z4, PySem.W.mg_none_of X G z5, PySem.W.mg_none_of X G z6, PySem.W.mg_none_of X G z7, PySem.W.mg_none_of X G z8, PySem.W.mg_none_of X G z9, PySem.W.mg_none_of X G z10, PySem.W.mg_none_of X G z11⟩
  refine ⟨PySem.W.fnOf "law" "law" (defArgs (top 15)) (defBody (top 15)) (defScope (top 15)) .none kV14 dc14 pm14 an14 cd14 ct14, fun s v => .of_eq rfl, fun base _ _ => ?_⟩
  have D_inner := d_inner (P := l.prog) (w := w) (base := base) F1 (PySem.W.mg_of X G a1) k1 b1 
  have D_weight := d_weight (P := l.prog) (w := w) (base := base) F2 (PySem.W.mg_of X G a2) k2 b2 M D_inner 6
  have D_parts_of := d_parts_of (P := l.prog) (w := w) (base := base) F3 (PySem.W.mg_of X G a3) k3 b3 M D_inner 6
  have D_law_pen := d_law_pen (P := l.prog) (w := w) (base := base) F4 (PySem.W.mg_of X G a4) k4 b4 
  have D_law_take := d_law_take (P := l.prog) (w := w) (base := base) F5 (PySem.W.mg_of X G a5) k5 b5 M
  have D_law_signs := d_law_signs (P := l.prog) (w := w) (base := base) F6 (PySem.W.mg_of X G a6) k6 b6 
  have D_law_some := d_law_some (P := l.prog) (w := w) (base := base) F7 (PySem.W.mg_of X G a7) k7 b7 M D_law_take
  have D_law_shape := d_law_shape (P := l.prog) (w := w) (base := base) F8 (PySem.W.mg_of X G a8) k8 b8 M D_law_some D_law_take 5
  have D_law_inner := d_law_inner (P := l.prog) (w := w) (base := base) F9 (PySem.W.mg_of X G a9) k9 b9 
  have D_law_parts := d_law_parts (P := l.prog) (w := w) (base := base) F10 (PySem.W.mg_of X G a10) k10 b10 D_law_inner 6
  have D_law_same := d_law_same (P := l.prog) (w := w) (base := base) F11 (PySem.W.mg_of X G a11) k11 b11 M 13
  have D_law_weights := d_law_weights (P := l.prog) (w := w) (base := base) F12 (PySem.W.mg_of X G a12) k12 b12 D_law_inner 6
  have D_law_right := d_law_right (P := l.prog) (w := w) (base := base) F13 (PySem.W.mg_of X G a13) k13 b13 M D_law_parts D_law_same D_law_weights D_parts_of D_weight
  have D_law := d_law (P := l.prog) (w := w) (base := base) F14 (PySem.W.mg_of X G a14) k14 b14 M D_law_parts D_law_pen D_law_right D_law_same D_law_shape D_law_signs D_law_some D_law_take D_parts_of D_weight
  exact D_law.ok.imp law_to
theorem walk {l : PySem.W.OpenLaw} {q : Program} {loose : List Str} {XP : (Str → Option Value) → Heap → Prop} {YP : World → Heap → Prop} {d : DefRec} {K : Params → PySem.W.Frag} (hn : l.most = some 63) (hdf : d.params.defaults = [])
    (hY : ∀ (w : World) (h : Heap), YP w h → (K w.params).In h)
    (F : ∀ (w : World) (mg : Str → Option Value) (fa : Addr) (h : Heap), (K w.params).In h → h.Ns mainGlobals mg → mg d.name = some (.ref fa) →
      ∃ fd : FuncData, (∀ (s : Shared) (u : Value), BindsTo s fd ⟨[u], []⟩ [("_law_script", u)]) ∧ ∀ base : Heap, (K w.params).In base → base.Ns mainGlobals mg → FnOk l.prog w (K w.params) mg base CX0 15 fa fd ["_law_script"] (spLaw (K w.params))) :
    PySem.W.WalkO q loose XP YP l.row.toRowW d [] (fun f vs => PySem.call f vs) :=
  L2.walk_of (n := 63) (k := 15) (x := "_law_script") (CX := fun _ => CX0) (sp := fun w => spLaw (K w.params)) hn (by decide) hdf ⟨rfl, by decide, by decide⟩ hY F (fun _ _ a ns hl hO hS => ⟨a, ns, rfl, sqf_of hO hS, hl, fun _ => rfl⟩) fun _ _ _ _ _ z => z
end K05
open PySem PySem.W PyProof.Rows
set_option maxRecDepth 100000 in
set_option maxHeartbeats 0 in
theorem PySem.Challenge.cw_nearreach_k05_weights_and_parts_holds : PySem.Challenge.rw_nearreach_k05_weights_and_parts.Holds := by
  w_on; o_law; k_head; (case hw => w_witness2)
  k_fill
  refine K05.walk (l := PySem.Challenge.rw_nearreach_k05_weights_and_parts) rfl rfl (fun w h Y => PySem.W.kIn_of Y) ?F
  case F =>
    intro w mg fa h KX G hmg
    refine' K05.all_mk KX G hmg ?a1 ?l1 ?c1 ?k1 ?a2 ?l2 ?c2 ?k2 ?a3 ?l3 ?c3 ?k3 ?a4 ?l4 ?c4 ?k4 ?a5 ?l5 ?c5 ?k5 ?a6 ?l6 ?c6 ?k6 ?a7 ?l7 ?c7 ?k7 ?a8 ?l8 ?c8 ?k8 ?a9 ?l9 ?c9 ?k9 ?a10 ?l10 ?c10 ?k10 ?a11 ?l11 ?c11 ?k11 ?a12 ?l12 ?c12 ?k12 ?a13 ?l13 ?c13 ?k13 ?a14 ?l14 ?c14 ?k14 ?z1 ?z2 ?z3 ?z4 ?z5 ?z6 ?z7 ?z8 ?z9 ?z10 ?z11 
    (case a1 => k_is); (case l1 => k_is); (case c1 => k_is); (case k1 => k_is)
    (case a2 => k_is); (case l2 => k_is); (case c2 => k_is); (case k2 => k_is)
    (case a3 => k_is); (case l3 => k_is); (case c3 => k_is); (case k3 => k_is)
    (case a4 => k_is); (case l4 => k_is); (case c4 => k_is); (case k4 => k_is)
    (case a5 => k_is); (case l5 => k_is); (case c5 => k_is); (case k5 => k_is)
    (case a6 => k_is); (case l6 => k_is); (case c6 => k_is); (case k6 => k_is)
    (case a7 => k_is); (case l7 => k_is); (case c7 => k_is); (case k7 => k_is)
    (case a8 => k_is); (case l8 => k_is); (case c8 => k_is); (case k8 => k_is)
    (case a9 => k_is); (case l9 => k_is); (case c9 => k_is); (case k9 => k_is)
    (case a10 => k_is); (case l10 => k_is); (case c10 => k_is); (case k10 => k_is)
    (case a11 => k_is); (case l11 => k_is); (case c11 => k_is); (case k11 => k_is)
    (case a12 => k_is); (case l12 => k_is); (case c12 => k_is); (case k12 => k_is)
    (case a13 => k_is); (case l13 => k_is); (case c13 => k_is); (case k13 => k_is)
    (case a14 => k_is); (case l14 => k_is); (case c14 => k_is); (case k14 => k_is)
    (case z1 => k_is)
    (case z2 => k_is)
    (case z3 => k_is)
    (case z4 => k_is)
    (case z5 => k_is)
    (case z6 => k_is)
    (case z7 => k_is)
    (case z8 => k_is)
    (case z9 => k_is)
    (case z10 => k_is)
    (case z11 => k_is)

