import PyProof.Rows.All
import Wide.All
import OpenK.AllK
import Wide.FinOn
import Lean
import PyProof.EqAt
import PyProof.EqKinds
import PyProof.TupleCall
import PyProof.SetKind
import PyProof.TupleKey
import PyProof.IsRules
import PyProof.SetRoads
import PyProof.WalkInts
import PyProof.SeqI3
import PySem.Challenge.RW_farhail_k31_rings_known_at_once
set_option Elab.async false
set_option linter.all false
set_option maxRecDepth 100000
/-! THE HAND LAYER, for ints, bools, texts, own classes, LISTS and tuples (index, slices, in, append, pop ..), calls, loops. Paste it whole ahead of your own text; what your proof does not reach may be deleted. -/
namespace L2
open PySem PySem.Spec PyProof.Rows

/-- a key: an int or a str -/
abbrev Key := Sum Int Str
def keyIs : Key → Value → Bool
  | .inl k, v => Value.isInt k v
  | .inr x, v => Value.isStrOf x v
def keyH (w : World) : Key → Int
  | .inl k => hashInt k
  | .inr x => hashStr w x
theorem keyIs_shape : ∀ {k : Key} {v : Value}, keyIs k v = true → (∃ i t, k = Sum.inl i ∧ v = Value.int i t) ∨ (∃ x t, k = Sum.inr x ∧ v = Value.str x t)
  | .inl i, v, h => by
    obtain ⟨t, e⟩ := Value.isInt_shape (k := i) (v := v) h
    exact .inl ⟨i, t, rfl, e⟩
  | .inr x, v, h => by
    obtain ⟨t, e⟩ := Value.isStrOf_shape (x := x) (v := v) h
    exact .inr ⟨x, t, rfl, e⟩
theorem keyIs_int (i : Int) (t : Tok) : keyIs (.inl i) (.int i t) = true := by simp [keyIs, Value.isInt]
theorem keyIs_str (x : Str) (t : Tok) : keyIs (.inr x) (.str x t) = true := by simp [keyIs, Value.isStrOf]
theorem key_ll (a b : Int) : decide ((Sum.inl a : Key) = Sum.inl b) = (a == b) := by
  by_cases e : a = b
  · subst e; simp
  · have h : ¬ (Sum.inl a : Key) = Sum.inl b := fun q => e (Sum.inl.inj q)
    rw [decide_eq_false h]
    exact (beq_eq_false_iff_ne.mpr e).symm
theorem key_rr (a b : Str) : decide ((Sum.inr a : Key) = Sum.inr b) = decide (a = b) := by
  by_cases e : a = b
  · subst e; simp
  · have h : ¬ (Sum.inr a : Key) = Sum.inr b := fun q => e (Sum.inr.inj q)
    rw [decide_eq_false h, decide_eq_false e]
theorem key_lr (a : Int) (b : Str) : decide ((Sum.inl a : Key) = Sum.inr b) = false := decide_eq_false (fun q => nomatch q)
theorem key_rl (a : Str) (b : Int) : decide ((Sum.inr a : Key) = Sum.inl b) = false := decide_eq_false (fun q => nomatch q)

def mixKind (prog : Program) (w : World) : PySem.KeyKind prog w Key where
  is := keyIs
  hash := keyH w
  inj := fun v a b ha hb => by
    rcases keyIs_shape ha with ⟨i, t, rfl, rfl⟩ | ⟨x, t, rfl, rfl⟩
    · rcases keyIs_shape hb with ⟨j, u, rfl, e⟩ | ⟨y, u, rfl, e⟩
      · injection e with e1 _; rw [e1]
      · exact nomatch e
    · rcases keyIs_shape hb with ⟨j, u, rfl, e⟩ | ⟨y, u, rfl, e⟩
      · exact nomatch e
      · injection e with e1 _; rw [e1]
  byValue := fun k v h => by
    rcases keyIs_shape h with ⟨i, t, rfl, rfl⟩ | ⟨x, t, rfl, rfl⟩ <;> rfl
  pyHash := fun hv h => by
    rcases keyIs_shape hv with ⟨i, t, rfl, rfl⟩ | ⟨x, t, rfl, rfl⟩
    · exact wpAny_pyHash_int h
    · exact wpAny_pyHash_str h
  eqBool := fun hu hv h => by
    rcases keyIs_shape hu with ⟨i, t, rfl, rfl⟩ | ⟨x, t, rfl, rfl⟩
    · rcases keyIs_shape hv with ⟨j, u, rfl, rfl⟩ | ⟨y, u, rfl, rfl⟩
      · rw [key_ll] at h; exact wpAny_eqBool_int h
      · rw [key_lr] at h; exact SeqAt.EqAt.int_str i t y u _ _ _ _ h
    · rcases keyIs_shape hv with ⟨j, u, rfl, rfl⟩ | ⟨y, u, rfl, rfl⟩
      · rw [key_rl] at h; exact SeqAt.EqAt.str_int x t j u _ _ _ _ h
      · rw [key_rr] at h; exact wpAny_eqBool_str h
  «strs» := fun k x t v h => by
    rcases keyIs_shape h with ⟨i, u, rfl, e⟩ | ⟨y, u, rfl, e⟩
    · exact nomatch e
    · injection e with e1 _
      subst e1
      cases v <;> rfl

theorem mixKind_is (prog : Program) (w : World) (k : Key) (v : Value) : (mixKind prog w).is k v = keyIs k v := rfl
theorem mixKind_int (prog : Program) (w : World) (i : Int) (t : Tok) : (mixKind prog w).is (.inl i) (.int i t) = true := keyIs_int i t
theorem mixKind_str (prog : Program) (w : World) (x : Str) (t : Tok) : (mixKind prog w).is (.inr x) (.str x t) = true := keyIs_str x t
end L2

namespace L2
open PySem PySem.Spec PyProof.Rows

/-- a value, without the heap -/
inductive V where
  | non | bl (b : Bool) | int (i : Int) | str (x : Str) | byt (b : Array UInt8) | flt (b : UInt64) | ref (a : Addr) | ty (n : String)
  deriving DecidableEq

def RelV : V → Value → Prop
  | .non, u => u = Value.none
  | .bl b, u => u = Value.bool b
  | .int i, u => ∃ t, u = Value.int i t
  | .str x, u => ∃ t, u = Value.str x t
  | .byt b, u => ∃ t, u = Value.bytes b t
  | .flt b, u => ∃ t, u = Value.float b t
  | .ref a, u => u = Value.ref a
  | .ty n, u => u = Value.type n

abbrev Vals : List V → List Value → Prop := Paired RelV
theorem Vals.length {xs : List V} {us : List Value} (r : Vals xs us) : xs.length = us.length := Paired.length r
theorem Vals.get : ∀ {xs : List V} {us : List Value} {i : Nat} {x : V}, Vals xs us → xs[i]? = some x → ∃ u, us[i]? = some u ∧ RelV x u
  | _, _, _, _, .nil, e => by simp at e
  | _, _, 0, _, .cons r _, e => by simp at e; subst e; exact ⟨_, rfl, r⟩
  | _, _, i + 1, x, .cons _ t, e => by
    obtain ⟨u, h1, h2⟩ := Vals.get (i := i) (x := x) t (by simpa using e)
    exact ⟨u, by simpa using h1, h2⟩
theorem Vals.set {x : V} {u : Value} (r : RelV x u) : ∀ {xs : List V} {us : List Value} (i : Nat), Vals xs us → Vals (xs.set i x) (us.set i u)
  | _, _, _, .nil => .nil
  | _, _, 0, .cons _ t => .cons r t
  | _, _, i + 1, .cons q t => .cons q (Vals.set r i t)
theorem Vals.append : ∀ {xs ys : List V} {us ws : List Value}, Vals xs us → Vals ys ws → Vals (xs ++ ys) (us ++ ws)
  | _, _, _, _, .nil, s => s
  | _, _, _, _, .cons r t, s => .cons r (Vals.append t s)
theorem Vals.take : ∀ {xs : List V} {us : List Value} (n : Nat), Vals xs us → Vals (xs.take n) (us.take n)
  | _, _, 0, _ => .nil
  | _, _, _ + 1, .nil => .nil
  | _, _, n + 1, .cons r t => .cons r (Vals.take n t)
theorem Vals.drop : ∀ {xs : List V} {us : List Value} (n : Nat), Vals xs us → Vals (xs.drop n) (us.drop n)
  | _, _, 0, r => r
  | _, _, _ + 1, .nil => .nil
  | _, _, n + 1, .cons _ t => Vals.drop n t
theorem Vals.none_of : ∀ {xs : List V} {us : List Value} {i : Nat}, Vals xs us → xs[i]? = none → us[i]? = none := fun {xs us i} r e => by
  have h1 := r.length
  have h2 : xs.length ≤ i := List.getElem?_eq_none_iff.mp e
  exact List.getElem?_eq_none_iff.mpr (by omega)

def RelO : Option V → Option Value → Prop
  | some v, some u => RelV v u
  | none, none => True
  | _, _ => False
def KV {κ : Type} : List (κ × V) → List (κ × Value) → Prop := Paired fun (p : κ × V) (q : κ × Value) => p.1 = q.1 ∧ RelV p.2 q.2

/-- a key of a dict (00_mix): an int or a text -/
def kV : Key → V
  | .inl i => .int i
  | .inr x => .str x

/-- what stands at a tracked address -/
inductive HO where
  /-- a list -/
  | lst (xs : List V)
  /-- a tuple (never changes) -/
  | tup (xs : List V)
  /-- a dict whose keys are ints and texts; one whose keys are tuples of ints and texts (the empty one is both) -/
  | dK (kvs : List (Key × V)) | dT (kvs : List (List Key × V))
  /-- a set of ints: its members, its size -/
  | set (S : Int → Bool) (n : Nat)
  /-- an instance of the class at C, its dict at dx, its attributes -/
  | ins (C dx : Addr) (fs : List (Str × V))
  /-- the dict of the instance at x -/
  | own (x : Addr)
  /-- the dict of an exception -/
  | xd (fs : List (Str × V))
  /-- a bound method, f of x -/
  | met (f x : Addr)
  /-- a range object lo, lo + 1, .. below hi -/
  | rng (lo hi : Int)
  /-- a thing that is known to the object (the script; a dict while a loop walks it): read, never written while it is so -/
  | frz (o : Obj) (u : HO)
  /-- a code object's table -/
  | tbl (ps : Array Value)
  /-- any other thing, by what is true of its one object (a def of one's own: SetO a S n := HO.ext fun h => ..) -/
  | ext (φ : Heap → Prop)

abbrev Hp := Addr → Option HO
def upd (H : Hp) (a : Addr) (o : HO) : Hp := fun b => if b = a then some o else H b
theorem upd_same {H : Hp} {a : Addr} {o : HO} : upd H a o a = some o := by unfold upd; rw [if_pos rfl]
theorem upd_ne {H : Hp} {a b : Addr} {o : HO} (h : b ≠ a) : upd H a o b = H b := by unfold upd; rw [if_neg h]
theorem upd_upd {H : Hp} {a : Addr} {o u : HO} : upd (upd H a o) a u = upd H a u := by
  funext b; unfold upd; split <;> rfl
/-- two objects of different content stand apart -/
theorem ne_of {H : Hp} {a b : Addr} {o u : HO} (h : H a = some o) (h' : H b = some u) (d : o ≠ u) : a ≠ b := by
  intro e; subst e; rw [h] at h'; exact d (Option.some.inj h')
theorem ne_of_none {H : Hp} {a b : Addr} {o : HO} (h : H a = some o) (h' : H b = none) : a ≠ b := by
  intro e; subst e; rw [h] at h'; cases h'

section
variable (P : Program) (w : World)
def ObjOk (H : Hp) (h : Heap) (a : Addr) : HO → Prop
  | .lst xs => xs.length ≤ sizeLine ∧ ∃ (its : List Value) (n : Nat), Vals xs its ∧ h.get? a = some { cls := .type "list", data := .seq its.toArray n }
  | .tup xs => xs.length ≤ sizeLine ∧ ∃ its : List Value, Vals xs its ∧ IsTup h a its.toArray
  | .dK kvs => kvs.length ≤ sizeLine ∧ (a == sysModules) = false ∧ ∃ vs, KV kvs vs ∧ h.DictOf (mixKind P w) a vs
  | .dT kvs => kvs.length ≤ sizeLine ∧ (a == sysModules) = false ∧ ∃ xs : List (List Key × Addr × Value),
      Paired (fun (p : List Key × V) (q : List Key × Addr × Value) => p.1 = q.1 ∧ H q.2.1 = some (.tup (p.1.map kV)) ∧ RelV p.2 q.2.2) kvs xs ∧
      ∃ o es ep, h.get? a = some o ∧ o.ExactDict ∧ o.data = .dict es ep ∧ es.toList = xs.map (entryOfKey (tupleKind (mixKind P w))) ∧ (xs.map (·.1)).Nodup
  | .set S n => h.SetOf (intKind P w) a S n
  | .ins C dx fs => H dx = some (.own a) ∧ fs.length ≤ 1000 ∧ dx ≠ a ∧ h.get? a = some (PySem.W.instObj C dx) ∧
      ∃ mA, h.Ns1 dx mA ∧ (∀ f, RelO (fs.lookup f) (mA f)) ∧ PySem.Within mA (fs.map (·.1))
  | .own _ => ∃ o, h.get? a = some o
  | .xd fs => ∃ mA, h.Ns1 a mA ∧ ∀ f, RelO (fs.lookup f) (mA f)
  | .rng lo hi => ∃ t u v, h.get? a = some { cls := .type "range", data := .fields #[.int lo t, .int hi u, .int 1 v] }
  | .frz o u => h.get? a = some o ∧ ObjOk H h a u
  | .tbl ps => h.get? a = some { cls := .none, data := .fields ps }
  | .met f x => h.get? a = some (PySem.W.methodObj (.ref f) (.ref x))
  | .ext φ => φ h ∧ (∃ o, h.get? a = some o) ∧ ∀ h1 h2 : Heap, φ h1 → (∀ o, h1.get? a = some o → h2.get? a = some o) → φ h2
/-- the abstract heap is held -/
def HOk (H : Hp) (h : Heap) : Prop := ∀ a o, H a = some o → ObjOk P w H h a o
end

section
variable {P : Program} {w : World} {H H' : Hp} {h h' : Heap} {a : Addr} {o : HO}
theorem ObjOk.lt (x : ObjOk P w H h a o) : a < h.objs.size := by
  cases o with
  | lst xs => obtain ⟨_, _, _, _, e⟩ := x; exact Heap.lt_size e
  | tup xs => obtain ⟨_, _, _, p⟩ := x; exact p.lt
  | dK kvs => obtain ⟨_, _, _, _, o, _, _, e, _⟩ := x; exact Heap.lt_size e
  | dT kvs => obtain ⟨_, _, _, _, o, _, _, e, _⟩ := x; exact Heap.lt_size e
  | set S n => obtain ⟨o, _, _, _, e, _⟩ := x; exact Heap.lt_size e
  | ins C dx fs => obtain ⟨_, _, _, e, _⟩ := x; exact Heap.lt_size e
  | own y => obtain ⟨_, e⟩ := x; exact Heap.lt_size e
  | xd fs => obtain ⟨_, ⟨_, _, _, e, _⟩, _⟩ := x; exact Heap.lt_size e
  | rng lo hi => obtain ⟨_, _, _, e⟩ := x; exact Heap.lt_size e
  | frz ob u => obtain ⟨e, _⟩ := x; exact Heap.lt_size e
  | tbl ps => exact Heap.lt_size (show h.get? a = some _ from x)
  | met f y => exact Heap.lt_size (show h.get? a = some _ from x)
  | ext φ => obtain ⟨_, ⟨_, e⟩, _⟩ := x; exact Heap.lt_size e
theorem Paired.mapP {α β : Type} {F G : α → β → Prop} : ∀ {l₁ : List α} {l₂ : List β}, Paired F l₁ l₂ → (∀ a b, F a b → G a b) → Paired G l₁ l₂
  | _, _, .nil, _ => .nil
  | _, _, .cons r t, f => .cons (f _ _ r) (Paired.mapP t f)
theorem Paired.imp' {α β : Type} {F G : α → β → Prop} (f : ∀ a b, F a b → G a b) {l₁ : List α} {l₂ : List β} (r : Paired F l₁ l₂) : Paired G l₁ l₂ := Paired.mapP r f
/-- what an object's description leans on: its own object, its own dict, the tuples -/
theorem ObjOk.stay (x : ObjOk P w H h a o) (k : ∀ b u, (b = a ∨ H b = some (.own a)) → h.get? b = some u → h'.get? b = some u)
    (ho : ∀ b, H b = some (.own a) → H' b = some (.own a)) (ht : ∀ b xs, H b = some (.tup xs) → H' b = some (.tup xs)) : ObjOk P w H' h' a o := by
  induction o with
  | lst xs => obtain ⟨z, its, n, r, e⟩ := x; exact ⟨z, its, n, r, k _ _ (.inl rfl) e⟩
  | tup xs => obtain ⟨z, its, r, ob, e, c⟩ := x; exact ⟨z, its, r, ob, k _ _ (.inl rfl) e, c⟩
  | dK kvs => obtain ⟨z, y, vs, r, ob, es, ep, e, c⟩ := x; exact ⟨z, y, vs, r, ob, es, ep, k _ _ (.inl rfl) e, c⟩
  | dT kvs =>
    obtain ⟨z, y, xs, r, ob, es, ep, e, c⟩ := x
    exact ⟨z, y, xs, Paired.mapP r fun p q z => ⟨z.1, ht _ _ z.2.1, z.2.2⟩, ob, es, ep, k _ _ (.inl rfl) e, c⟩
  | set S n => obtain ⟨ob, es, ep, t, e, c⟩ := x; exact ⟨ob, es, ep, t, k _ _ (.inl rfl) e, c⟩
  | ins C dx fs =>
    obtain ⟨d, z, ne, e, mA, ⟨od, es, ep, e2, c⟩, r⟩ := x
    exact ⟨ho _ d, z, ne, k _ _ (.inl rfl) e, mA, ⟨od, es, ep, k _ _ (.inr d) e2, c⟩, r⟩
  | own y => obtain ⟨ob, e⟩ := x; exact ⟨ob, k _ _ (.inl rfl) e⟩
  | xd fs => obtain ⟨mA, ⟨od, es, ep, e, c⟩, r⟩ := x; exact ⟨mA, ⟨od, es, ep, k _ _ (.inl rfl) e, c⟩, r⟩
  | rng lo hi => obtain ⟨t, u, v, e⟩ := x; exact ⟨t, u, v, k _ _ (.inl rfl) e⟩
  | frz ob u ih => obtain ⟨e, q⟩ := x; exact ⟨k _ _ (.inl rfl) e, ih q⟩
  | tbl ps =>
    have e : h.get? a = some { cls := .none, data := .fields ps } := x
    show h'.get? a = some { cls := .none, data := .fields ps }
    exact k a _ (.inl rfl) e
  | met f y =>
    have e : h.get? a = some (PySem.W.methodObj (.ref f) (.ref y)) := x
    show h'.get? a = some (PySem.W.methodObj (.ref f) (.ref y))
    exact k a _ (.inl rfl) e
  | ext φ => obtain ⟨p, ⟨o, e⟩, st⟩ := x; exact ⟨st _ _ p fun o q => k _ _ (.inl rfl) q, ⟨o, k _ _ (.inl rfl) e⟩, st⟩
theorem HOk.lt (x : HOk P w H h) (e : H a = some o) : a < h.objs.size := (x a o e).lt
theorem HOk.fresh (x : HOk P w H h) (e : h.objs.size ≤ a) : H a = none := by
  cases q : H a with
  | none => rfl
  | some u => exact absurd (Nat.lt_of_lt_of_le (x.lt q) e) (Nat.lt_irrefl _)
/-- every object of the heap is kept -/
theorem HOk.kept (x : HOk P w H h) (k : ∀ b u, h.get? b = some u → h'.get? b = some u) : HOk P w H h' := fun a o e =>
  (x a o e).stay (fun b u _ q => k b u q) (fun _ q => q) fun _ _ q => q
/-- a new object is laid and tracked -/
theorem HOk.laid (x : HOk P w H h) (k : ∀ b u, h.get? b = some u → h'.get? b = some u) (hp : h.objs.size ≤ a) (new : ObjOk P w (upd H a o) h' a o) : HOk P w (upd H a o) h' := fun b u e => by
  have hn := x.fresh hp
  by_cases hb : b = a
  · subst hb; rw [upd_same] at e; cases e; exact new
  · rw [upd_ne hb] at e
    exact (x b u e).stay (fun c v _ q => k c v q) (fun c q => by rw [upd_ne (ne_of_none q hn)]; exact q) fun c xs q => by rw [upd_ne (ne_of_none q hn)]; exact q
end

/-- what may be read as u: it is u, or a known u -/
def Rd (H : Hp) (a : Addr) (u : HO) : Prop := H a = some u ∨ ∃ o, H a = some (.frz o u)
theorem Rd.of {H : Hp} {a : Addr} {u : HO} (h : H a = some u) : Rd H a u := .inl h
theorem Rd.ok {P : Program} {w : World} {H : Hp} {h : Heap} {a : Addr} {u : HO} (r : Rd H a u) (x : HOk P w H h) : ObjOk P w H h a u := by
  rcases r with r | ⟨o, r⟩
  · exact x a u r
  · obtain ⟨_, q⟩ := x a _ r
    exact q
/-- what may be written -/
def Mut : Option HO → Prop
  | some (.lst _) => True
  | some (.dK _) => True
  | some (.dT _) => True
  | some (.set _ _) => True
  | some (.ins _ _ _) => True
  | some (.ext _) => True
  | _ => False
section
variable {P : Program} {w : World} {H : Hp} {h h' : Heap} {x e : Addr} {o' : HO}
/-- the object at e is changed: x itself, or the dict of the instance x -/
theorem HOk.write (ok : HOk P w H h) (mu : Mut (H x)) (he : e = x ∨ H e = some (.own x)) (k : ∀ b u, b ≠ e → h.get? b = some u → h'.get? b = some u) (heo : ∃ u, h'.get? e = some u)
    (new : ObjOk P w (upd H x o') h' x o') : HOk P w (upd H x o') h' := fun b u q => by
  have nown : ∀ c y, H c = some (.own y) → c ≠ x := fun c y r z => by subst z; rw [r] at mu; exact mu
  have ntup : ∀ c xs, H c = some (.tup xs) → c ≠ x := fun c xs r z => by subst z; rw [r] at mu; exact mu
  by_cases hb : b = x
  · subst hb; rw [upd_same] at q; cases q; exact new
  · rw [upd_ne hb] at q
    by_cases hbe : b = e
    · have q' : H b = some (.own x) := by
        rcases he with z | z
        · exact absurd (hbe.trans z) hb
        · rw [hbe]; exact z
      rw [q] at q'; cases q'
      obtain ⟨v, hv⟩ := heo
      exact ⟨v, by rw [hbe]; exact hv⟩
    · refine (ok b u q).stay (fun c v hc r => k c v ?_ r) (fun c r => by rw [upd_ne (nown c b r)]; exact r) fun c xs r => by rw [upd_ne (ntup c xs r)]; exact r
      rcases hc with rfl | hc
      · exact hbe
      · rintro rfl
        rcases he with z | z
        · exact nown c b hc z
        · rw [hc] at z; cases z; exact hb rfl
end

/-! ### kept unless tracked; of the frames at fs (the callers') the slots may change (an exception that passes writes there); of the records at ex (iterators) nothing is said -/
structure Un (fs ex : List Addr) (H H' : Hp) (h h' : Heap) : Prop where
  keep : ∀ b o, h.get? b = some o → H b = none → b ∉ fs → b ∉ ex → h'.get? b = some o
  slot : ∀ b o, h.get? b = some o → H b = none → b ∈ fs → b ∉ ex → ∃ sl, h'.get? b = some { o with slots := sl }
  free : ∀ b o, h.get? b = some o → H b = none → b ∉ ex → H' b = none
  there : ∀ b o, h.get? b = some o → b ∉ ex → ∃ o', h'.get? b = some o'
  tups : ∀ b xs, H b = some (.tup xs) → H' b = some (.tup xs)
  frzs : ∀ b o u, H b = some (.frz o u) → H' b = some (.frz o u)
  tbls : ∀ b ps, H b = some (.tbl ps) → ∃ more, H' b = some (.tbl (ps ++ more))
section
variable {fs fs' ex ex' : List Addr} {H H1 H2 : Hp} {h h1 h2 h' : Heap} {a x e : Addr} {o : HO}
theorem Un.any (u : Un fs ex H H1 h h1) {b : Addr} {ob : Obj} (q : h.get? b = some ob) (n : H b = none) (hx : b ∉ ex) : ∃ sl, h1.get? b = some { ob with slots := sl } := by
  by_cases hb : b ∈ fs
  · exact u.slot b ob q n hb hx
  · exact ⟨ob.slots, u.keep b ob q n hb hx⟩
theorem Un.trans (a : Un fs ex H H1 h h1) (b : Un fs ex H1 H2 h1 h2) : Un fs ex H H2 h h2 where
  keep := fun c ob q n hc hx => b.keep c ob (a.keep c ob q n hc hx) (a.free c ob q n hx) hc hx
  slot := fun c ob q n hc hx => by
    obtain ⟨sl, e1⟩ := a.slot c ob q n hc hx
    obtain ⟨sl', e2⟩ := b.slot c _ e1 (a.free c ob q n hx) hc hx
    exact ⟨sl', e2⟩
  free := fun c ob q n hx => by
    obtain ⟨o', e1⟩ := a.there c ob q hx
    exact b.free c o' e1 (a.free c ob q n hx) hx
  there := fun c ob q hx => by
    obtain ⟨o', e1⟩ := a.there c ob q hx
    exact b.there c o' e1 hx
  tups := fun c xs q => b.tups c xs (a.tups c xs q)
  frzs := fun c ob xs q => b.frzs c ob xs (a.frzs c ob xs q)
  tbls := fun c ps q => by
    obtain ⟨m1, e1⟩ := a.tbls c ps q
    obtain ⟨m2, e2⟩ := b.tbls c _ e1
    exact ⟨m1 ++ m2, by rw [e2, Array.append_assoc]⟩
theorem Un.kept (k : ∀ b u, h.get? b = some u → h'.get? b = some u) : Un fs ex H H h h' :=
  ⟨fun b ob q _ _ _ => k b ob q, fun b ob q _ _ _ => ⟨ob.slots, k b ob q⟩, fun _ _ _ n _ => n, fun b ob q _ => ⟨ob, k b ob q⟩, fun _ _ q => q, fun _ _ _ q => q, fun _ ps q => ⟨#[], by rw [q]; simp⟩⟩
theorem Un.refl : Un fs ex H H h h := Un.kept fun _ _ q => q
theorem Un.laid (k : ∀ b u, h.get? b = some u → h'.get? b = some u) (hp : h.objs.size ≤ a) (hn : H a = none) : Un fs ex H (upd H a o) h h' where
  keep := fun b u q _ _ _ => k b u q
  slot := fun b u q _ _ _ => ⟨u.slots, k b u q⟩
  free := fun b u q n _ => by rw [upd_ne (Nat.ne_of_lt (Nat.lt_of_lt_of_le (Heap.lt_size q) hp))]; exact n
  there := fun b u q _ => ⟨u, k b u q⟩
  tups := fun b xs q => by rw [upd_ne (ne_of_none q hn)]; exact q
  frzs := fun b u xs q => by rw [upd_ne (ne_of_none q hn)]; exact q
  tbls := fun b ps q => ⟨#[], by rw [upd_ne (ne_of_none q hn), q]; simp⟩
theorem Un.write (mu : Mut (H x)) (he : e = x ∨ H e = some (.own x)) (k : ∀ b u, b ≠ e → h.get? b = some u → h'.get? b = some u) (heo : ∃ u, h'.get? e = some u) : Un fs ex H (upd H x o) h h' := by
  have hx : ∀ b, H b = none → b ≠ x := fun b n z => by subst z; rw [n] at mu; exact mu
  have hb : ∀ b, H b = none → b ≠ e := fun b n z => by
    subst z
    rcases he with r | r
    · exact hx b n r
    · rw [n] at r; cases r
  have hm : ∀ b u, H b = some u → ¬ Mut (some u) → b ≠ x := fun b u q nm z => by subst z; rw [q] at mu; exact nm mu
  refine ⟨fun b u q n _ _ => k b u (hb b n) q, fun b u q n _ _ => ⟨u.slots, k b u (hb b n) q⟩, fun b u q n _ => by rw [upd_ne (hx b n)]; exact n, fun b u q _ => ?_,
    fun b xs q => by rw [upd_ne (hm b _ q fun z => z)]; exact q, fun b u xs q => by rw [upd_ne (hm b _ q fun z => z)]; exact q, fun b ps q => ⟨#[], by rw [upd_ne (hm b _ q fun z => z), q]; simp⟩⟩
  by_cases hbe : b = e
  · subst hbe; exact heo
  · exact ⟨u, k b u hbe q⟩
theorem Un.mono (u : Un fs ex H H1 h h1) (hs : ∀ b ∈ fs, b ∈ fs') (hx : ∀ b ∈ ex, b ∈ ex') : Un fs' ex' H H1 h h1 :=
  ⟨fun b ob q n hb he => u.keep b ob q n (fun z => hb (hs b z)) fun z => he (hx b z), fun _ _ q n _ he => u.any q n fun z => he (hx _ z), fun b ob q n he => u.free b ob q n fun z => he (hx b z), fun b ob q he => u.there b ob q fun z => he (hx b z), u.tups, u.frzs, u.tbls⟩
end

/-! ### the heap without what is tracked -/
def trk (h : Heap) (H : Hp) : List Addr := (List.range h.objs.size).filter fun a => (H a).isSome
def hidT (h : Heap) (H : Hp) : Heap := PySem.W.hideAll h (trk h H)
theorem hidT_size (h : Heap) (H : Hp) : (hidT h H).objs.size = h.objs.size := PySem.W.hideAll_size _ _
theorem hidT_get {h : Heap} {H : Hp} {b : Addr} {o : Obj} (e : h.get? b = some o) (n : H b = none) : (hidT h H).get? b = some o :=
  PySem.W.hideAll_get _ e fun hm => by
    have q : (H b).isSome = true := (List.mem_filter.mp hm).2
    rw [n] at q; simp at q
theorem of_hidT {h : Heap} {H : Hp} {b : Addr} {o : Obj} (e : (hidT h H).get? b = some o) : h.get? b = some o ∧ H b = none := by
  have e' : h.get? b = some o := PySem.W.of_hideAll (trk h H) e
  refine ⟨e', ?_⟩
  cases q : H b with
  | none => rfl
  | some x =>
    have hm : b ∈ trk h H := List.mem_filter.mpr ⟨List.mem_range.mpr (Heap.lt_size e'), by simp [q]⟩
    have z : (hidT h H).get? b = none := PySem.W.hideAll_none (trk h H) hm
    rw [z] at e; cases e

/-! ### OpenK's ledger, filled with every new object but one -/
def allNews (g h : Heap) (L : Addr) : List (Addr × Obj) := (List.range h.objs.size).filterMap fun a => if a = L ∨ (g.get? a).isSome = true then none else (h.get? a).map fun o => (a, o)
theorem mem_allNews {g h : Heap} {L a : Addr} {o : Obj} (h1 : a ≠ L) (h2 : g.get? a = none) (h3 : h.get? a = some o) : (a, o) ∈ allNews g h L :=
  List.mem_filterMap.mpr ⟨a, List.mem_range.mpr (Heap.lt_size h3), by simp [h1, h2, h3]⟩
theorem of_mem_allNews {g h : Heap} {L : Addr} {p : Addr × Obj} (hp : p ∈ allNews g h L) : p.1 ≠ L ∧ g.get? p.1 = none ∧ h.get? p.1 = some p.2 := by
  obtain ⟨b, _, e⟩ := List.mem_filterMap.mp hp
  split at e
  · cases e
  · rename_i hn
    cases q : h.get? b with
    | none => rw [q] at e; simp at e
    | some u =>
      rw [q] at e
      simp only [Option.map_some, Option.some.injEq] at e
      subst e
      refine ⟨fun z => hn (.inl z), ?_, q⟩
      show g.get? b = none
      cases r : g.get? b with
      | none => rfl
      | some v => exact (hn (.inr (by simp [r]))).elim
def rest (g h : Heap) (L d : Addr) : List (Addr × Obj) := (allNews g h L).filter fun p => decide (p.1 ≠ d)
theorem rest_ne {g h : Heap} {L d : Addr} : ∀ p ∈ rest g h L d, p.1 ≠ d := fun p hp => of_decide_eq_true (List.mem_filter.mp hp).2
theorem mem_rest {g h : Heap} {L d a : Addr} {o : Obj} (h1 : a ≠ L) (h2 : g.get? a = none) (h3 : h.get? a = some o) (h4 : a ≠ d) : (a, o) ∈ rest g h L d :=
  List.mem_filter.mpr ⟨mem_allNews h1 h2 h3, decide_eq_true h4⟩
theorem news_all {g h : Heap} {L : Addr} : News g L h (allNews g h L) := fun p hp => let ⟨a, b, c⟩ := of_mem_allNews hp; ⟨c, a, b⟩
theorem news_at {g h : Heap} {L d : Addr} {o : Obj} (h1 : d ≠ L) (h2 : g.get? d = none) (h3 : h.get? d = some o) : News g L h ((d, o) :: rest g h L d) := fun p hp => by
  rcases List.mem_cons.mp hp with rfl | hp
  · exact ⟨h3, h1, h2⟩
  · exact news_all p (List.mem_filter.mp hp).1
/-- behind a rule that changed d alone: all else but the frame is kept -/
theorem kept_of_news {g h h' : Heap} {L d : Addr} {m : Str → Option Value} (k : ∀ b o, g.get? b = some o → h.get? b = some o) (F : Fr g L h' m) (N : News g L h' (rest g h L d)) :
    ∀ b o, b ≠ L → b ≠ d → h.get? b = some o → h'.get? b = some o := fun b o h1 h2 e => by
  cases q : g.get? b with
  | some u =>
    have := k b u q
    rw [e] at this; cases this
    exact F.keep b _ q
  | none => exact (N (b, o) (mem_rest h1 q e h2)).1
end L2

namespace L2
open PySem PySem.Spec PyProof.Rows

/-- the module's facts, over the base: the heap at the law's entry without what is tracked there -/
structure Mod (K : PySem.W.Frag) (mg : Str → Option Value) (base : Heap) : Prop where
  kin : K.In base
  glob : base.Ns mainGlobals mg
  blt : ∃ mb, base.Ns builtinsNs mb ∧ ∀ x : Str, x ≠ "__name__" → mb x = bootBuiltins x
  nolimit : base.NoLimit

/-- the context: a def's body (or a comprehension's block) running. base: fixed through the whole law; s₀, H₀: the entry; outer: the frames whose slots others may change (a def's callers); stack: all frames that run;
   ex: iterators that were made ahead of the entry and are walked here (a comprehension's); fn: the names whose cells were made at the entry (a def: all; a comprehension's block: its own); calm: not within an except suite; pn: pins that every state bears; xe: what is wanted of an exception that leaves the code -/
structure Cx where
  prog : Program
  w : World
  K : PySem.W.Frag
  mg : Str → Option Value
  base : Heap
  A : Around
  N : List Str
  s₀ : Shared
  H₀ : Hp
  env : Env
  outer : List Env
  stack : List Env
  ex : List Addr
  fn : Str → Bool
  calm : Bool
  pn : List (Addr × Obj)
  xe : Value → Shared → Prop
/-- the callers' frames -/
def frs (l : List Env) : List Addr := l.filterMap (·.frame)
abbrev Cx.fs (X : Cx) : List Addr := frs X.outer

def Vis (sc : Scope) (x : Str) : Prop := sc.names.lookup x = some .local ∨ sc.names.lookup x = some .cell ∨ sc.names.lookup x = some .free
def Loc (sc : Scope) (x : Str) : Prop := sc.names.lookup x = some .local ∨ sc.names.lookup x = some .cell
def Look (env : Env) (h : Heap) (m : Str → Option Value) (x : Str) (u : Value) : Prop :=
  (env.kindOf x = some .local ∧ m x = some u) ∨ ((env.kindOf x = some .cell ∨ env.kindOf x = some .free) ∧ ∃ c, env.cells.lookup x = some c ∧ h.IsCell c (some u))

structure Cx.Ok (X : Cx) : Prop where
  mod : Mod X.K X.mg X.base
  kind : X.env.scope.kind = .function
  glob : X.env.globals = mainGlobals
  blt : X.env.builtins = builtinsNs
  above : X.s₀.heap.objs.size ≤ X.env.locals
  inj : ∀ x y c, X.env.cells.lookup x = some c → X.env.cells.lookup y = some c → x = y
  has : ∀ x, (X.env.kindOf x = some .cell ∨ X.env.kindOf x = some .free) → ∃ c, X.env.cells.lookup x = some c
  cab : ∀ x c, X.fn x = true → X.env.cells.lookup x = some c → X.s₀.heap.objs.size ≤ c
  hd : X.calm = true → X.A.handled = none
  frames : X.A.frames = some X.stack
  stk : X.stack = X.outer ∨ (X.stack = X.env :: X.outer ∧ X.env.frame = some X.env.locals)
  exf : ∀ b ∈ X.ex, b ≠ X.env.locals ∧ ∀ x c, X.env.cells.lookup x = some c → c ≠ b
  bs : ∀ b o, X.base.get? b = some o → X.s₀.heap.get? b = some o ∧ X.H₀ b = none
  bsz : X.base.objs.size ≤ X.s₀.heap.objs.size
  noex : ∀ b o, X.base.get? b = some o → b ∉ X.ex
  exfs : ∀ b ∈ X.ex, b ∉ X.fs
  funs : X.s₀.heap.FunFrames X.base X.outer
  frf : ∀ b ∈ X.fs, X.H₀ b = none

structure Inv (X : Cx) (pins : List (Addr × Obj)) (σ : List (Option V)) (H : Hp) (s : Shared) : Prop where
  ok : X.Ok
  os : s.os = X.s₀.os
  bare : AllBare s.gens
  base : Un X.fs X.ex X.H₀ H X.s₀.heap s.heap
  loc : ∃ m, s.heap.Ns X.env.locals m ∧ ∀ (i : Nat) (x : Str) (v : V), X.N[i]? = some x → σ[i]? = some (some v) → Vis X.env.scope x → ∃ u, RelV v u ∧ Look X.env s.heap m x u
  cell : ∀ x c, X.env.cells.lookup x = some c → ∃ v, s.heap.IsCell c v
  free : H X.env.locals = none
  freeC : ∀ x c, X.env.cells.lookup x = some c → H c = none
  pin : ∀ p ∈ X.pn ++ pins, s.heap.get? p.1 = some p.2 ∧ H p.1 = none ∧ p.1 ≠ X.env.locals ∧ p.1 ∉ X.fs ∧ ∀ v, p.2.data ≠ .cell v
  hok : HOk X.prog X.w H s.heap
  len : σ.length = X.N.length

section
variable {X : Cx} {pins : List (Addr × Obj)} {σ : List (Option V)} {H H' : Hp} {s : Shared} {h' : Heap}

theorem Cx.Ok.nofr (ok : X.Ok) {b : Addr} {o : Obj} (e : X.base.get? b = some o) : b ∉ X.fs := fun hb => by
  have := (ok.funs.mem hb).1
  rw [e] at this; cases this
theorem Inv.bs (I : Inv X pins σ H s) : ∀ b o, X.base.get? b = some o → s.heap.get? b = some o ∧ H b = none := fun b o e =>
  ⟨I.base.keep b o (I.ok.bs b o e).1 (I.ok.bs b o e).2 (I.ok.nofr e) (I.ok.noex b o e), I.base.free b o (I.ok.bs b o e).1 (I.ok.bs b o e).2 (I.ok.noex b o e)⟩
theorem Inv.bk (I : Inv X pins σ H s) : ∀ b o, X.base.get? b = some o → s.heap.get? b = some o := fun b o e => (I.bs b o e).1
theorem Inv.mod (I : Inv X pins σ H s) : Mod X.K X.mg X.base := I.ok.mod
theorem Inv.kIn (I : Inv X pins σ H s) : X.K.In s.heap := I.ok.mod.kin.keeps I.bk
theorem Inv.nolimit (I : Inv X pins σ H s) : s.heap.NoLimit := I.ok.mod.nolimit.keeps I.bk
/-- the frame over the base: for OpenK's rules (K.In X.base is I.mod.kin) -/
theorem Inv.fr (I : Inv X pins σ H s) : ∃ m, Fr X.base X.env.locals s.heap m :=
  let ⟨m, hn, _⟩ := I.loc
  ⟨m, hn, I.bk, Nat.le_trans I.ok.bsz I.ok.above⟩
theorem Inv.lt (I : Inv X pins σ H s) : X.env.locals < s.heap.objs.size := let ⟨_, hn, _⟩ := I.loc; hn.lt
theorem Inv.sz (I : Inv X pins σ H s) : X.s₀.heap.objs.size ≤ s.heap.objs.size := Nat.le_trans I.ok.above (Nat.le_of_lt I.lt)
theorem Inv.nofs (I : Inv X pins σ H s) {a : Addr} (h : s.heap.objs.size ≤ a) : a ∉ X.fs := fun hb => by
  obtain ⟨_, o, ho, _⟩ := I.ok.funs.mem hb
  exact absurd (Nat.lt_of_lt_of_le (Heap.lt_size ho) (Nat.le_trans I.sz h)) (Nat.lt_irrefl _)
theorem Inv.cne (I : Inv X pins σ H s) : ∀ x c, X.env.cells.lookup x = some c → c ≠ X.env.locals := fun x c e z => by
  obtain ⟨v, o, ho, hd⟩ := I.cell x c e
  obtain ⟨m, ⟨o', es, ep, ho', hd', _⟩, _⟩ := I.loc
  rw [z, ho'] at ho; cases ho; rw [hd'] at hd; cases hd
theorem Inv.funs (I : Inv X pins σ H s) : s.heap.FunFrames X.base X.outer := by
  have all : ∀ (l : List Env), (∀ b ∈ frs l, b ∈ X.fs) → X.s₀.heap.FunFrames X.base l → s.heap.FunFrames X.base l := by
    intro l
    induction l with
    | nil => intro _ _; trivial
    | cons env r ih =>
      intro hs hl
      obtain ⟨hk, ⟨L, o, hf, hn, ho, hd⟩, hr⟩ := hl
      have hL : L ∈ X.fs := hs L (by unfold frs; rw [List.filterMap_cons, hf]; exact List.mem_cons_self)
      obtain ⟨sl, e⟩ := I.base.slot L o ho (I.ok.frf L hL) hL fun z => I.ok.exfs L z hL
      exact ⟨hk, ⟨L, _, hf, hn, e, hd⟩, ih (fun b hb => hs b (by unfold frs; rw [List.filterMap_cons, hf]; exact List.mem_cons_of_mem _ hb)) hr⟩
  exact all X.outer (fun _ hb => hb) I.ok.funs

/-- the frames that run, for a call -/
theorem Inv.stack (I : Inv X pins σ H s) : s.heap.FunFrames X.base X.stack := by
  rcases I.ok.stk with e | ⟨e, hf⟩
  · rw [e]; exact I.funs
  · rw [e]
    obtain ⟨m, hn, _⟩ := I.loc
    refine .cons (by rw [I.ok.kind]; decide) hf hn ?_ I.funs
    exact Heap.get?_none_of_le (Nat.le_trans I.ok.bsz I.ok.above)
theorem Inv.stkSub (I : Inv X pins σ H s) : ∀ b ∈ frs X.stack, b ∈ X.env.locals :: X.fs := fun b hb => by
  rcases I.ok.stk with e | ⟨e, hf⟩
  · rw [e] at hb; exact List.mem_cons_of_mem _ hb
  · rw [e] at hb
    unfold frs at hb
    rw [List.filterMap_cons, hf] at hb
    exact hb
theorem Inv.stkFree (I : Inv X pins σ H s) : ∀ b ∈ frs X.stack, H b = none := fun b hb => by
  rcases List.mem_cons.mp (I.stkSub b hb) with e | hb
  · rw [e]; exact I.free
  · obtain ⟨_, o, ho, _⟩ := I.ok.funs.mem hb
    exact I.base.free b o ho (I.ok.frf b hb) fun z => I.ok.exfs b z hb

/-- THE STEP: the untracked objects but the frame and the records at ch are kept (the callers' frames up to slots), the frame's map is kept, the new abstract heap is held -/
theorem Inv.step {g' : Array GenState} {t' : Nat} {d' : Drawn} {ch : List Addr} (I : Inv X pins σ H s)
    (hch : ∀ b ∈ ch, (b ∈ X.ex ∨ X.s₀.heap.objs.size ≤ b) ∧ b ≠ X.env.locals ∧ (∀ x c, X.env.cells.lookup x = some c → c ≠ b) ∧ ∀ p ∈ X.pn ++ pins, p.1 ≠ b)
    (keep : ∀ b o, b ≠ X.env.locals → b ∉ X.fs → b ∉ ch → s.heap.get? b = some o → H b = none → h'.get? b = some o)
    (slot : ∀ b o, b ≠ X.env.locals → b ∈ X.fs → b ∉ ch → s.heap.get? b = some o → H b = none → ∃ sl, h'.get? b = some { o with slots := sl }) (free : ∀ b o, b ∉ ch → s.heap.get? b = some o → H b = none → H' b = none)
    (there : ∀ b o, b ∉ ch → s.heap.get? b = some o → ∃ o', h'.get? b = some o')
    (tups : ∀ b xs, H b = some (.tup xs) → H' b = some (.tup xs)) (frzs : ∀ b o u, H b = some (.frz o u) → H' b = some (.frz o u)) (tbls : ∀ b ps, H b = some (.tbl ps) → ∃ more, H' b = some (.tbl (ps ++ more)))
    (ns : ∀ m, s.heap.Ns X.env.locals m → h'.Ns X.env.locals m) (hok : HOk X.prog X.w H' h') (hg : AllBare g') :
    Inv X pins σ H' { s with heap := h', gens := g', drawn := d', toks := t' } := by
  have neL : ∀ b o, X.s₀.heap.get? b = some o → b ≠ X.env.locals := fun b o e => Nat.ne_of_lt (Nat.lt_of_lt_of_le (Heap.lt_size e) I.ok.above)
  have neC : ∀ b o, X.s₀.heap.get? b = some o → b ∉ X.ex → b ∉ ch := fun b o e hx hb => by
    rcases (hch b hb).1 with z | z
    · exact hx z
    · exact absurd (Nat.lt_of_lt_of_le (Heap.lt_size e) z) (Nat.lt_irrefl _)
  have cellK : ∀ x c, X.env.cells.lookup x = some c → ∀ v, s.heap.IsCell c v → h'.IsCell c v := fun x c e v ⟨o, ho, hd⟩ => by
    have nch : c ∉ ch := fun z => (hch c z).2.2.1 x c e rfl
    by_cases hc : c ∈ X.fs
    · obtain ⟨sl, q⟩ := slot c o (I.cne x c e) hc nch ho (I.freeC x c e)
      exact ⟨_, q, hd⟩
    · exact ⟨o, keep c o (I.cne x c e) hc nch ho (I.freeC x c e), hd⟩
  refine ⟨I.ok, I.os, hg, ⟨fun b o e n hb hx => ?_, fun b o e n hb hx => ?_, fun b o e n hx => ?_, fun b o e hx => ?_, fun b xs e => tups b xs (I.base.tups b xs e), fun b o xs e => frzs b o xs (I.base.frzs b o xs e), fun b ps e => ?_⟩, ?_, fun x c e => ?_, ?_, fun x c e => ?_, fun p hp => ?_, hok, I.len⟩
  · exact keep b o (neL b o e) hb (neC b o e hx) (I.base.keep b o e n hb hx) (I.base.free b o e n hx)
  · obtain ⟨sl, e1⟩ := I.base.slot b o e n hb hx
    obtain ⟨sl', e2⟩ := slot b _ (neL b o e) hb (neC b o e hx) e1 (I.base.free b o e n hx)
    exact ⟨sl', e2⟩
  · obtain ⟨o', e1⟩ := I.base.there b o e hx
    exact free b o' (neC b o e hx) e1 (I.base.free b o e n hx)
  · obtain ⟨o', e1⟩ := I.base.there b o e hx
    exact there b o' (neC b o e hx) e1
  · obtain ⟨m1, e1⟩ := I.base.tbls b ps e
    obtain ⟨m2, e2⟩ := tbls b _ e1
    exact ⟨m1 ++ m2, by rw [e2, Array.append_assoc]⟩
  · obtain ⟨m, hn, hl⟩ := I.loc
    refine ⟨m, ns m hn, fun i x v e1 e2 e3 => ?_⟩
    obtain ⟨u, r, l⟩ := hl i x v e1 e2 e3
    refine ⟨u, r, ?_⟩
    rcases l with l | ⟨k, c, e, z⟩
    · exact .inl l
    · exact .inr ⟨k, c, e, cellK x c e _ z⟩
  · obtain ⟨v, z⟩ := I.cell x c e
    exact ⟨v, cellK x c e v z⟩
  · obtain ⟨m, ⟨o, _, _, ho, _⟩, _⟩ := I.loc
    exact free _ o (fun z => (hch _ z).2.1 rfl) ho I.free
  · obtain ⟨v, o, ho, hd⟩ := I.cell x c e
    exact free c o (fun z => (hch c z).2.2.1 x c e rfl) ho (I.freeC x c e)
  · obtain ⟨e, n, ne, nf, d⟩ := I.pin p hp
    have nch : p.1 ∉ ch := fun z => (hch p.1 z).2.2.2 p hp rfl
    exact ⟨keep p.1 p.2 ne nf nch e n, free p.1 p.2 nch e n, ne, nf, d⟩
/-- .. where the frame's own object is kept too -/
theorem Inv.un {t' : Nat} (I : Inv X pins σ H s) (u : Un X.fs [] H H' s.heap h') (hok : HOk X.prog X.w H' h') : Inv X pins σ H' { s with heap := h', toks := t' } := by
  obtain ⟨m, ⟨o, es, ep, ho, r⟩, _⟩ := id I.loc
  obtain ⟨sl, hL⟩ := u.any ho I.free (by simp)
  exact I.step (g' := s.gens) (d' := s.drawn) (ch := []) (fun _ z => nomatch z) (fun b o _ hb _ e n => u.keep b o e n hb (by simp)) (fun b o _ hb _ e n => u.slot b o e n hb (by simp)) (fun b o _ e n => u.free b o e n (by simp)) (fun b o _ e => u.there b o e (by simp)) u.tups u.frzs u.tbls (fun m' hm => by
    obtain ⟨o', es', ep', ho', r'⟩ := hm
    rw [ho] at ho'; cases ho'
    exact ⟨_, es', ep', hL, r'⟩) hok I.bare
/-- behind a call (or a comprehension's block): the slots of this frame may have changed too, the records at ch may have turned -/
theorem Inv.call {g' : Array GenState} {t' : Nat} {d' : Drawn} {ch : List Addr} (I : Inv X pins σ H s) (u : Un (frs X.stack) ch H H' s.heap h') (hok : HOk X.prog X.w H' h') (hg : AllBare g')
    (hch : ∀ b ∈ ch, (b ∈ X.ex ∨ X.s₀.heap.objs.size ≤ b) ∧ b ≠ X.env.locals ∧ (∀ x c, X.env.cells.lookup x = some c → c ≠ b) ∧ ∀ p ∈ X.pn ++ pins, p.1 ≠ b) :
    Inv X pins σ H' { s with heap := h', gens := g', drawn := d', toks := t' } := by
  obtain ⟨m, ⟨o, es, ep, ho, r⟩, _⟩ := id I.loc
  obtain ⟨sl, hL⟩ := u.any ho I.free fun z => (hch _ z).2.1 rfl
  exact I.step (ch := ch) hch (fun b o hL hb hc e n => u.keep b o e n (fun z => (List.mem_cons.mp (I.stkSub b z)).elim hL hb) hc) (fun b o _ _ hc e n => u.any e n hc) (fun b o hc e n => u.free b o e n hc) (fun b o hc e => u.there b o e hc) u.tups u.frzs u.tbls (fun m' hm => by
    obtain ⟨o', es', ep', ho', r'⟩ := hm
    rw [ho] at ho'; cases ho'
    exact ⟨_, es', ep', hL, r'⟩) hok hg
/-- an untracked record of ours (an iterator) has turned -/
theorem Inv.turned {t' : Nat} {it : Addr} (I : Inv X pins σ H s) (k : ∀ b o, b ≠ it → s.heap.get? b = some o → h'.get? b = some o) (hn : H it = none) (hL : it ≠ X.env.locals)
    (h1 : it ∈ X.ex ∨ X.s₀.heap.objs.size ≤ it) (h2 : ∀ x c, X.env.cells.lookup x = some c → c ≠ it) (h3 : ∀ p ∈ X.pn ++ pins, p.1 ≠ it) : Inv X pins σ H { s with heap := h', toks := t' } := by
  have nit : ∀ b u, H b = some u → b ≠ it := fun b u e z => by rw [z, hn] at e; cases e
  refine I.step (g' := s.gens) (d' := s.drawn) (ch := [it]) (fun b hb => ?_) (fun b o _ _ hc e _ => k b o (fun z => hc (by simp [z])) e) (fun b o _ _ hc e _ => ⟨o.slots, k b o (fun z => hc (by simp [z])) e⟩) (fun _ _ _ _ n => n)
    (fun b o hc e => ⟨o, k b o (fun z => hc (by simp [z])) e⟩) (fun _ _ e => e) (fun _ _ _ e => e) (fun b ps e => ⟨#[], by rw [e]; simp⟩) (fun m hm => ?_) (fun b u e => ?_) I.bare
  · have e : b = it := by simpa using hb
    subst e
    exact ⟨h1, hL, h2, h3⟩
  · obtain ⟨o, es, ep, ho, r⟩ := hm
    exact ⟨o, es, ep, k _ o (Ne.symm hL) ho, r⟩
  · refine (I.hok b u e).stay (fun c v hc q => k c v ?_ q) (fun _ q => q) fun _ _ q => q
    rcases hc with z | z
    · rw [z]; exact nit b u e
    · exact nit c _ z
theorem Inv.tok (I : Inv X pins σ H s) (t : Nat) : Inv X pins σ H { s with toks := t } := I.un (h' := s.heap) (t' := t) Un.refl I.hok
/-- all objects kept -/
theorem Inv.kept {t' : Nat} (I : Inv X pins σ H s) (k : ∀ b u, s.heap.get? b = some u → h'.get? b = some u) : Inv X pins σ H { s with heap := h', toks := t' } := I.un (Un.kept k) (I.hok.kept k)
/-- a new object laid and tracked -/
theorem Inv.laid {a : Addr} {o : HO} {t' : Nat} (I : Inv X pins σ H s) (k : ∀ b u, s.heap.get? b = some u → h'.get? b = some u) (hp : s.heap.objs.size ≤ a) (new : ObjOk X.prog X.w (upd H a o) h' a o) :
    Inv X pins σ (upd H a o) { s with heap := h', toks := t' } := I.un (Un.laid k hp (I.hok.fresh hp)) (I.hok.laid k hp new)
/-- an object written -/
theorem Inv.write {x e : Addr} {o : HO} {t' : Nat} (I : Inv X pins σ H s) (mu : Mut (H x)) (he : e = x ∨ H e = some (.own x)) (k : ∀ b u, b ≠ e → s.heap.get? b = some u → h'.get? b = some u) (heo : ∃ u, h'.get? e = some u)
    (new : ObjOk X.prog X.w (upd H x o) h' x o) : Inv X pins σ (upd H x o) { s with heap := h', toks := t' } := I.un (Un.write mu he k heo) (I.hok.write mu he k heo new)
/-- forgetting slots, pins -/
theorem Inv.weak {σ' : List (Option V)} (I : Inv X pins σ H s) (hl : σ'.length = σ.length) (w : ∀ (i : Nat) v, σ'[i]? = some (some v) → σ[i]? = some (some v)) : Inv X pins σ' H s :=
  ⟨I.ok, I.os, I.bare, I.base, let ⟨m, hn, hl'⟩ := I.loc; ⟨m, hn, fun i x v e1 e2 e3 => hl' i x v e1 (w i v e2) e3⟩, I.cell, I.free, I.freeC, I.pin, I.hok, hl.trans I.len⟩
theorem Inv.pins_of {pins' : List (Addr × Obj)} (I : Inv X pins σ H s) (h : ∀ p ∈ pins', s.heap.get? p.1 = some p.2 ∧ H p.1 = none ∧ p.1 ≠ X.env.locals ∧ p.1 ∉ X.fs ∧ ∀ v, p.2.data ≠ .cell v) : Inv X pins' σ H s :=
  ⟨I.ok, I.os, I.bare, I.base, I.loc, I.cell, I.free, I.freeC, fun p hp => (List.mem_append.mp hp).elim (fun z => I.pin p (List.mem_append_left _ z)) (h p), I.hok, I.len⟩

theorem nodup_ix {N : List Str} (hN : N.Nodup) {i j : Nat} {x : Str} (a : N[i]? = some x) (b : N[j]? = some x) : i = j := by
  obtain ⟨h1, e1⟩ := List.getElem?_eq_some_iff.mp a
  obtain ⟨h2, e2⟩ := List.getElem?_eq_some_iff.mp b
  exact (List.getElem_inj hN).mp (e1.trans e2.symm)

/-- a name is stored; what changed -/
theorem store_ok2 {M : Model} {A : Around} {E : Value → Shared → Prop} {i : Nat} {x : Str} {v : V} {u : Value} {Q : Unit → Shared → Prop} (I : Inv X pins σ H s) (hN : X.N.Nodup) (hi : X.N[i]? = some x) (hx : Loc X.env.scope x) (r : RelV v u)
    (h : ∀ s', Inv X pins (σ.set i (some v)) H s' → (∃ a, Heap.SameBut a s.heap s'.heap ∧ (a = X.env.locals ∨ X.env.cells.lookup x = some a)) → Q () s') (hf : X.fn x = true ∨ X.env.scope.names.lookup x = some .local := by first | exact .inl rfl | exact .inr rfl | assumption) : wpAny M A (storeName X.env x u) Q E s := by
  obtain ⟨m, hn, hl⟩ := id I.loc
  have hcls : (X.env.scope.kind == .class || (X.env.scope.kind == .module && X.env.locals != X.env.globals)) = false := by rw [I.ok.kind]; rfl
  have hiσ : i < σ.length := by rw [I.len]; exact (List.getElem?_eq_some_iff.mp hi).1
  have cne := I.cne
  have tracked : ∀ {a : Addr} {h' : Heap}, (∃ o, s.heap.get? a = some o ∧ H a = none) → Heap.SameBut a s.heap h' → HOk X.prog X.w H h' := fun {a h'} ha hs b ob e => by
    obtain ⟨_, _, hfree⟩ := ha
    refine (I.hok b ob e).stay (fun c w' hc q => (hs.2 c ?_).trans q) (fun _ q => q) fun _ _ q => q
    rintro rfl
    rcases hc with rfl | hc
    · rw [hfree] at e; cases e
    · rw [hfree] at hc; cases hc
  rcases hx with hk | hk
  · refine wpAny_storeName_local hk hn (fun h' hn' hs => ?_) hcls
    obtain ⟨oL, _, _, hoL, _⟩ := id hn
    refine h _ ⟨I.ok, I.os, I.bare, ⟨fun b o e n hb hx => ?_, fun b o e n hb hx => ?_, I.base.free, fun b o e hx => ?_, I.base.tups, I.base.frzs, I.base.tbls⟩, ⟨_, hn', fun j y v' e1 e2 e3 => ?_⟩, fun y c e => ?_, I.free, I.freeC, fun p hp => ?_, tracked ⟨oL, hoL, I.free⟩ hs, by simpa using I.len⟩ ⟨_, hs, .inl rfl⟩
    · exact (hs.2 b (Nat.ne_of_lt (Nat.lt_of_lt_of_le (Heap.lt_size e) I.ok.above))).trans (I.base.keep b o e n hb hx)
    · obtain ⟨sl, e1⟩ := I.base.slot b o e n hb hx
      exact ⟨sl, (hs.2 b (Nat.ne_of_lt (Nat.lt_of_lt_of_le (Heap.lt_size e) I.ok.above))).trans e1⟩
    · obtain ⟨o', e1⟩ := I.base.there b o e hx
      exact ⟨o', (hs.2 b (Nat.ne_of_lt (Nat.lt_of_lt_of_le (Heap.lt_size e) I.ok.above))).trans e1⟩
    · by_cases hj : j = i
      · subst hj
        rw [hi] at e1; cases e1
        rw [List.getElem?_set_self hiσ] at e2
        cases e2
        exact ⟨u, r, .inl ⟨hk, by simp⟩⟩
      · rw [List.getElem?_set_ne (Ne.symm hj)] at e2
        obtain ⟨u', r', q⟩ := hl j y v' e1 e2 e3
        refine ⟨u', r', ?_⟩
        rcases q with ⟨k, e⟩ | ⟨k, c, e, z⟩
        · refine .inl ⟨k, ?_⟩
          have : y ≠ x := fun e => hj (nodup_ix hN e1 (e ▸ hi))
          simp [this, e]
        · exact .inr ⟨k, c, e, z.sameBut hs (cne y c e)⟩
    · obtain ⟨w', z⟩ := I.cell y c e
      exact ⟨w', z.sameBut hs (cne y c e)⟩
    · obtain ⟨e, n, ne, nf, d⟩ := I.pin p hp
      exact ⟨(hs.2 p.1 ne).trans e, n, ne, nf, d⟩
  · have hfn : X.fn x = true := by
      rcases hf with z | z
      · exact z
      · rw [z] at hk; cases hk
    obtain ⟨c, hc⟩ := I.ok.has x (.inl hk)
    obtain ⟨w', z⟩ := I.cell x c hc
    refine wpAny_storeName_cell I.ok.kind hk hc z (fun h' hc' hs => ?_)
    obtain ⟨oc, hoc, hocd⟩ := id z
    refine h { s with heap := h' } ⟨I.ok, I.os, I.bare, ⟨fun b o e n hb hx => ?_, fun b o e n hb hx => ?_, I.base.free, fun b o e hx => ?_, I.base.tups, I.base.frzs, I.base.tbls⟩, ⟨m, hn.sameBut hs (Ne.symm (cne x c hc)), fun j y v' e1 e2 e3 => ?_⟩, fun y c' e => ?_, I.free, I.freeC, fun p hp => ?_, tracked ⟨oc, hoc, I.freeC x c hc⟩ hs, by simpa using I.len⟩ ⟨c, hs, .inr hc⟩
    · exact (hs.2 b (Nat.ne_of_lt (Nat.lt_of_lt_of_le (Heap.lt_size e) (I.ok.cab x c hfn hc)))).trans (I.base.keep b o e n hb hx)
    · obtain ⟨sl, e1⟩ := I.base.slot b o e n hb hx
      exact ⟨sl, (hs.2 b (Nat.ne_of_lt (Nat.lt_of_lt_of_le (Heap.lt_size e) (I.ok.cab x c hfn hc)))).trans e1⟩
    · obtain ⟨o', e1⟩ := I.base.there b o e hx
      exact ⟨o', (hs.2 b (Nat.ne_of_lt (Nat.lt_of_lt_of_le (Heap.lt_size e) (I.ok.cab x c hfn hc)))).trans e1⟩
    · by_cases hj : j = i
      · subst hj
        rw [hi] at e1; cases e1
        rw [List.getElem?_set_self hiσ] at e2
        cases e2
        exact ⟨u, r, .inr ⟨.inl hk, c, hc, hc'⟩⟩
      · rw [List.getElem?_set_ne (Ne.symm hj)] at e2
        obtain ⟨u', r', q⟩ := hl j y v' e1 e2 e3
        refine ⟨u', r', ?_⟩
        rcases q with q | ⟨k, c', e, z'⟩
        · exact .inl q
        · refine .inr ⟨k, c', e, z'.sameBut hs ?_⟩
          rintro rfl
          exact hj (nodup_ix hN e1 (I.ok.inj _ _ _ e hc ▸ hi))
    · by_cases hcc : c' = c
      · subst hcc; exact ⟨_, hc'⟩
      · obtain ⟨w2, z2⟩ := I.cell y c' e
        exact ⟨w2, z2.sameBut hs hcc⟩
    · obtain ⟨e, n, ne, nf, d⟩ := I.pin p hp
      refine ⟨(hs.2 p.1 ?_).trans e, n, ne, nf, d⟩
      intro q
      rw [q, hoc] at e
      have q' : oc = p.2 := Option.some.inj e
      exact d w' (by rw [← q']; exact hocd)
theorem store_ok {M : Model} {A : Around} {E : Value → Shared → Prop} {i : Nat} {x : Str} {v : V} {u : Value} {Q : Unit → Shared → Prop} (I : Inv X pins σ H s) (hN : X.N.Nodup) (hi : X.N[i]? = some x) (hx : Loc X.env.scope x) (r : RelV v u)
    (h : ∀ s', Inv X pins (σ.set i (some v)) H s' → Q () s') (hf : X.fn x = true ∨ X.env.scope.names.lookup x = some .local := by first | exact .inl rfl | exact .inr rfl | assumption) : wpAny M A (storeName X.env x u) Q E s :=
  store_ok2 I hN hi hx r (fun s' I' _ => h s' I') hf
/-- behind a call or a block, the state as it is -/
theorem Inv.call' {s' : Shared} {ch : List Addr} (I : Inv X pins σ H s) (ho : s'.os = s.os) (u : Un (frs X.stack) ch H H' s.heap s'.heap) (hok : HOk X.prog X.w H' s'.heap) (hg : AllBare s'.gens)
    (hch : ∀ b ∈ ch, (b ∈ X.ex ∨ X.s₀.heap.objs.size ≤ b) ∧ b ≠ X.env.locals ∧ (∀ x c, X.env.cells.lookup x = some c → c ≠ b) ∧ ∀ p ∈ X.pn ++ pins, p.1 ≠ b) : Inv X pins σ H' s' := by
  obtain ⟨h', g', d', t', o'⟩ := s'
  have e : o' = s.os := ho
  subst e
  exact I.call (g' := g') (t' := t') (d' := d') u hok hg hch
end

/-! ### the judgements -/
/-- an exception: its class, its own dict's address (where it has one), the abstract heap behind it -/
abbrev XK := Value → Option Addr → Hp → Prop
abbrev St := List (Option V)
abbrev VK := V → Hp → Prop
/-- an expression's reading; a test's; an argument list's -/
abbrev TE := St → Hp → VK → Prop
abbrev TT := St → Hp → (Bool → Hp → Prop) → Prop
abbrev TA := St → Hp → (List V → Hp → Prop) → Prop
/-- what is wanted behind a statement -/
structure Ends where
  nx : St → Hp → Prop
  rt : VK
  bk : St → Hp → Prop := fun _ _ => False
  ct : St → Hp → Prop := fun _ _ => False
abbrev TS := Ends → St → Hp → Prop

def EP (X : Cx) (pins : List (Addr × Obj)) (σ : St) (Q : VK) (u : Value) (s' : Shared) : Prop := ∃ v H', Inv X pins σ H' s' ∧ RelV v u ∧ Q v H'
def TP (X : Cx) (pins : List (Addr × Obj)) (σ : St) (Q : Bool → Hp → Prop) (b : Bool) (s' : Shared) : Prop := ∃ H', Inv X pins σ H' s' ∧ Q b H'
def AP (X : Cx) (pins : List (Addr × Obj)) (σ : St) (Q : List V → Hp → Prop) (us : List Value) (s' : Shared) : Prop := ∃ vs H', Inv X pins σ H' s' ∧ Vals vs us ∧ Q vs H'
def SP (X : Cx) (pins : List (Addr × Obj)) (D : Ends) (f : Flow) (s' : Shared) : Prop :=
  match f with
  | .next => ∃ σ' H', Inv X pins σ' H' s' ∧ D.nx σ' H'
  | .brk => ∃ σ' H', Inv X pins σ' H' s' ∧ D.bk σ' H'
  | .cont => ∃ σ' H', Inv X pins σ' H' s' ∧ D.ct σ' H'
  | .ret u => ∃ v σ' H', Inv X pins σ' H' s' ∧ RelV v u ∧ D.rt v H'

def PE (X : Cx) (e : Expr) (t : TE) : Prop :=
  ∀ (pins : List (Addr × Obj)) (s : Shared) (σ : St) (H : Hp) (Q : VK), Inv X pins σ H s → t σ H Q → wpAny (model X.prog X.w) X.A (eval e X.env) (EP X pins σ Q) X.xe s
def PT (X : Cx) (e : Expr) (t : TT) : Prop :=
  ∀ (pins : List (Addr × Obj)) (s : Shared) (σ : St) (H : Hp) (Q : Bool → Hp → Prop), Inv X pins σ H s → t σ H Q → wpAny (model X.prog X.w) X.A (isTrue e X.env (eval e X.env)) (TP X pins σ Q) X.xe s
/-- a test whatever its 'whole' is (and, or) -/
def PW (X : Cx) (e : Expr) (t : TT) : Prop :=
  ∀ (whole : Sem Value) (pins : List (Addr × Obj)) (s : Shared) (σ : St) (H : Hp) (Q : Bool → Hp → Prop), Inv X pins σ H s → t σ H Q → wpAny (model X.prog X.w) X.A (isTrue e X.env whole) (TP X pins σ Q) X.xe s
theorem PW.pt {X : Cx} {e : Expr} {t : TT} (h : PW X e t) : PT X e t := h _
/-- an argument list (no star), from the left -/
def PA (X : Cx) (es : List Expr) (t : TA) : Prop :=
  ∀ (pos : Pos) (pins : List (Addr × Obj)) (s : Shared) (σ : St) (H : Hp) (Q : List V → Hp → Prop), Inv X pins σ H s → t σ H Q → wpAny (model X.prog X.w) X.A (spliced (backTo pos (starEach es X.env))) (AP X pins σ Q) X.xe s
def PS (X : Cx) (st : Stmt) (t : TS) : Prop :=
  ∀ (pins : List (Addr × Obj)) (s : Shared) (σ : St) (H : Hp) (D : Ends), Inv X pins σ H s → t D σ H → wpAny (model X.prog X.w) X.A (exec st X.env) (SP X pins D) X.xe s
def PSs (X : Cx) (st : List Stmt) (t : TS) : Prop :=
  ∀ (pins : List (Addr × Obj)) (s : Shared) (σ : St) (H : Hp) (D : Ends), Inv X pins σ H s → t D σ H → wpAny (model X.prog X.w) X.A (execs st X.env) (SP X pins D) X.xe s
/-- weaken the end -/
theorem thn {α : Type} {t : Sem α} {Q Q' : α → Shared → Prop} {M : Model} {A : Around} {E : Value → Shared → Prop} {s : Shared} (h : wpAny M A t Q E s) (hQ : ∀ a s, Q a s → Q' a s) : wpAny M A t Q' E s := wpAny_mono h hQ fun _ _ x => x
end L2

namespace L2
open PySem PySem.Spec PyProof.Rows
section
variable {X : Cx}

/-- two expressions in a row -/
theorem bin {a b : Expr} {ta tb : TE} (ha : PE X a ta) (hb : PE X b tb) {pins : List (Addr × Obj)} {s : Shared} {σ : St} {H : Hp} {R : V → V → Hp → Prop} (I : Inv X pins σ H s) (h : ta σ H fun x H1 => tb σ H1 fun y H2 => R x y H2)
    {α : Type} {Q : α → Shared → Prop} {f : Value → Value → Sem α}
    (hf : ∀ v u s2 x y H2, Inv X pins σ H2 s2 → RelV x v → RelV y u → R x y H2 → wpAny (model X.prog X.w) X.A (f v u) Q X.xe s2) :
    wpAny (model X.prog X.w) X.A (eval a X.env) (fun v s₁ => wpAny (model X.prog X.w) X.A (eval b X.env) (fun u s₂ => wpAny (model X.prog X.w) X.A (f v u) Q X.xe s₂) X.xe s₁) X.xe s := by
  refine thn (ha pins s σ H _ I h) fun v s1 ⟨x, H1, I1, r1, q1⟩ => ?_
  refine thn (hb pins s1 σ H1 _ I1 q1) fun u s2 ⟨y, H2, I2, r2, q2⟩ => ?_
  exact hf v u s2 x y H2 I2 r1 r2 q2

/-! ### names and constants -/
def tVar (i : Nat) : TE := fun σ H Q => ∃ v, σ[i]? = some (some v) ∧ Q v H
def tC (v : V) : TE := fun _ H Q => Q v H
theorem pe_var {i : Nat} {x : Str} {pos : Pos} (hN : X.N[i]? = some x) (hv : Vis X.env.scope x) (hd : (x == ("__debug__" : Str)) = false := by decide) (hcd : (x == ("__classdict__" : Str)) = false := by decide) : PE X (.Name x pos) (tVar i) := by
  intro pins s σ H Q I h
  obtain ⟨v, e, h⟩ := h
  obtain ⟨m, hn, hl⟩ := I.loc
  obtain ⟨u, r, l⟩ := hl i x v hN e hv
  have fin : EP X pins σ Q u s := ⟨v, H, I, r, h⟩
  rcases l with ⟨hk, hm⟩ | ⟨hk, c, hc, hcell⟩
  · exact wpAny_Name (wpAny_loadName_local I.ok.kind hk hn hm fin) hd
  · rcases hk with hk | hk
    · exact wpAny_Name (wpAny_loadName_cell I.ok.kind hk hc hcell fin) hd
    · exact wpAny_Name (wpAny_loadName_free I.ok.kind hk hc hcell fin hcd) hd
theorem pe_int {i j pos} : PE X (.Constant (.int i) j pos) (tC (.int i)) := fun _ _ _ H _ I h => wpAny_Constant_int ⟨.int i, H, I.tok _, ⟨_, rfl⟩, h⟩
theorem pe_bl {b j pos} : PE X (.Constant (.bool b) j pos) (tC (.bl b)) := fun _ _ _ H _ I h => Constant_bool ⟨.bl b, H, I, rfl, h⟩
theorem pe_non {j pos} : PE X (.Constant .none j pos) (tC .non) := fun _ _ _ H _ I h => Constant_none ⟨.non, H, I, rfl, h⟩
theorem pe_str {x j pos} : PE X (.Constant (.str x) j pos) (tC (.str x)) := fun _ _ _ H _ I h => Calls.Constant_str ⟨.str x, H, I.tok _, ⟨_, rfl⟩, h⟩

/-- a global name of the def -/
def Gl (X : Cx) (x : Str) : Prop := X.env.kindOf x = some .globalImplicit
theorem ld_glob {E : Value → Shared → Prop} {pins : List (Addr × Obj)} {s : Shared} {σ : St} {H : Hp} {x : Str} {u : Value} {pos : Pos} {Q : Value → Shared → Prop} (I : Inv X pins σ H s) (hg : Gl X x) (hm : X.mg x = some u) (h : Q u s)
    (hd : (x == ("__debug__" : Str)) = false := by decide) : wpAny (model X.prog X.w) X.A (eval (.Name x pos) X.env) Q E s :=
  Calls.Name_function_global I.ok.kind hg (Calls.loadGlobal_global (by rw [I.ok.glob]; exact I.mod.glob.keeps I.bk) hm h) hd
theorem ld_blt {E : Value → Shared → Prop} {pins : List (Addr × Obj)} {s : Shared} {σ : St} {H : Hp} {x : Str} {u : Value} {pos : Pos} {Q : Value → Shared → Prop} (I : Inv X pins σ H s) (hg : Gl X x) (hm : X.mg x = none) (hv : bootBuiltins x = some u) (h : Q u s)
    (hn : x ≠ "__name__" := by decide) (hd : (x == ("__debug__" : Str)) = false := by decide) : wpAny (model X.prog X.w) X.A (eval (.Name x pos) X.env) Q E s := by
  obtain ⟨mb, h1, h2⟩ := I.mod.blt
  exact Calls.Name_function_global I.ok.kind hg (Calls.loadGlobal_builtin (by rw [I.ok.glob]; exact I.mod.glob.keeps I.bk) hm (by rw [I.ok.blt]; exact h1.keeps I.bk) ((h2 x hn).trans hv) h) hd
/-- a module's constant, a class, a function, as a value -/
theorem pe_glob {x : Str} {v : V} {u : Value} {pos : Pos} (hg : Gl X x) (hm : X.mg x = some u) (r : RelV v u) (hd : (x == ("__debug__" : Str)) = false := by decide) : PE X (.Name x pos) (tC v) :=
  fun _ _ _ H _ I h => ld_glob I hg hm ⟨v, H, I, r, h⟩ hd
theorem pe_bltn {x : Str} {v : V} {u : Value} {pos : Pos} (hg : Gl X x) (hm : X.mg x = none) (hv : bootBuiltins x = some u) (r : RelV v u) (hn : x ≠ "__name__" := by decide) (hd : (x == ("__debug__" : Str)) = false := by decide) : PE X (.Name x pos) (tC v) :=
  fun _ _ _ H _ I h => ld_blt I hg hm hv ⟨v, H, I, r, h⟩ hn hd

/-! ### arithmetic -/
/-- two ints -/
def t2I (ta tb : TE) (k : Int → Int → Hp → Prop) : St → Hp → Prop := fun σ H => ta σ H fun x H1 => tb σ H1 fun y H2 => ∃ i j, x = .int i ∧ y = .int j ∧ k i j H2
def tAdd (ta tb : TE) : TE := fun σ H Q => t2I ta tb (fun i j H2 => Q (.int (i + j)) H2) σ H
def tSub (ta tb : TE) : TE := fun σ H Q => t2I ta tb (fun i j H2 => Q (.int (i - j)) H2) σ H
/-- the left factor below 2^64 -/
def tMul (ta tb : TE) : TE := fun σ H Q => t2I ta tb (fun i j H2 => (-(2 ^ 64) < i ∧ i < 2 ^ 64) ∧ Q (.int (i * j)) H2) σ H
variable {a b : Expr} {ta tb : TE} {pos : Pos}
theorem pe_add (ha : PE X a ta) (hb : PE X b tb) : PE X (.BinOp a .Add b pos) (tAdd ta tb) := by
  intro pins s σ H Q I h
  refine wpAny_BinOp (bin ha hb I h fun v u s2 x y H2 I2 rx ry q => ?_)
  obtain ⟨i, j, rfl, rfl, q⟩ := q
  obtain ⟨t, rfl⟩ := rx
  obtain ⟨t', rfl⟩ := ry
  exact add_int ⟨.int _, H2, I2.tok _, ⟨_, rfl⟩, q⟩
theorem pe_sub (ha : PE X a ta) (hb : PE X b tb) : PE X (.BinOp a .Sub b pos) (tSub ta tb) := by
  intro pins s σ H Q I h
  refine wpAny_BinOp (bin ha hb I h fun v u s2 x y H2 I2 rx ry q => ?_)
  obtain ⟨i, j, rfl, rfl, q⟩ := q
  obtain ⟨t, rfl⟩ := rx
  obtain ⟨t', rfl⟩ := ry
  exact sub_int ⟨.int _, H2, I2.tok _, ⟨_, rfl⟩, q⟩
theorem pe_mul (ha : PE X a ta) (hb : PE X b tb) : PE X (.BinOp a .Mult b pos) (tMul ta tb) := by
  intro pins s σ H Q I h
  refine wpAny_BinOp (bin ha hb I h fun v u s2 x y H2 I2 rx ry q => ?_)
  obtain ⟨i, j, rfl, rfl, ⟨q1, q2⟩, q⟩ := q
  obtain ⟨t, rfl⟩ := rx
  obtain ⟨t', rfl⟩ := ry
  exact mul_int ⟨.int _, H2, I2.tok _, ⟨_, rfl⟩, q⟩ (.of_left (intBits_le_64 q1 q2))

/-! ### comparisons -/
def PC (X : Cx) (op : CmpOp) (a b : Expr) (t : TE) : Prop :=
  ∀ (pins : List (Addr × Obj)) (s : Shared) (σ : St) (H : Hp) (Q : VK), Inv X pins σ H s → t σ H Q →
    wpAny (model X.prog X.w) X.A (eval a X.env) (fun v s₁ => wpAny (model X.prog X.w) X.A (eval b X.env) (fun u s₂ => wpAny (model X.prog X.w) X.A (compareOp op v u) (EP X pins σ Q) X.xe s₂) X.xe s₁) X.xe s
theorem nobehind (b : Expr) {op : CmpOp} (h : op ≠ .In) (h2 : op ≠ .NotIn) : behindInMarks op b = false := by
  have e1 : (op == CmpOp.In) = false := by cases op <;> first | rfl | exact absurd rfl h
  have e2 : (op == CmpOp.NotIn) = false := by cases op <;> first | rfl | exact absurd rfl h2
  cases b <;> simp [behindInMarks, e1, e2]
def tCmp (p : Int → Int → Bool) (ta tb : TE) : TE := fun σ H Q => t2I ta tb (fun i j H2 => Q (.bl (p i j)) H2) σ H
abbrev tLt : TE → TE → TE := tCmp fun i j => decide (i < j)
abbrev tLe : TE → TE → TE := tCmp fun i j => decide (i ≤ j)
abbrev tGt : TE → TE → TE := tCmp fun i j => decide (j < i)
abbrev tGe : TE → TE → TE := tCmp fun i j => decide (j ≤ i)
abbrev tEqI : TE → TE → TE := tCmp fun i j => decide (i = j)
abbrev tNeI : TE → TE → TE := tCmp fun i j => !decide (i = j)
/-- a comparison of two ints, by its rule -/
theorem pc_int {op : CmpOp} {p : Int → Int → Bool} (ha : PE X a ta) (hb : PE X b tb)
    (rule : ∀ (i j : Int) (t u : Tok) (Q : Value → Shared → Prop) (s : Shared), Q (.bool (p i j)) s → wpAny (model X.prog X.w) X.A (compareOp op (.int i t) (.int j u)) Q X.xe s) : PC X op a b (tCmp p ta tb) := by
  intro pins s σ H Q I h
  refine bin ha hb I h fun v u s2 x y H2 I2 rx ry q => ?_
  obtain ⟨i, j, rfl, rfl, q⟩ := q
  obtain ⟨t, rfl⟩ := rx
  obtain ⟨t', rfl⟩ := ry
  exact rule i j t t' _ s2 ⟨.bl _, H2, I2, rfl, q⟩
theorem pc_lt (ha : PE X a ta) (hb : PE X b tb) : PC X .Lt a b (tLt ta tb) := pc_int ha hb fun _ _ _ _ _ _ h => lt_int h
theorem pc_le (ha : PE X a ta) (hb : PE X b tb) : PC X .LtE a b (tLe ta tb) := pc_int ha hb fun _ _ _ _ _ _ h => le_int h
theorem pc_gt (ha : PE X a ta) (hb : PE X b tb) : PC X .Gt a b (tGt ta tb) := pc_int ha hb fun _ _ _ _ _ _ h => gt_int h
theorem pc_ge (ha : PE X a ta) (hb : PE X b tb) : PC X .GtE a b (tGe ta tb) := pc_int ha hb fun _ _ _ _ _ _ h => ge_int h
theorem pc_eqI (ha : PE X a ta) (hb : PE X b tb) : PC X .Eq a b (tEqI ta tb) := pc_int ha hb fun _ _ _ _ _ _ h => eq_int (by rw [Bool.beq_eq_decide_eq]; exact h)
theorem pc_neI (ha : PE X a ta) (hb : PE X b tb) : PC X .NotEq a b (tNeI ta tb) := pc_int ha hb fun _ _ _ _ _ _ h => ne_int (by rw [bne, Bool.beq_eq_decide_eq]; exact h)
/-- is None -/
def tIsN (ta : TE) : TE := fun σ H Q => ta σ H fun x H1 => Q (.bl (decide (x = .non))) H1
def tNotN (ta : TE) : TE := fun σ H Q => ta σ H fun x H1 => Q (.bl (!decide (x = .non))) H1
theorem RelV.none_iff {x : V} {v : Value} (r : RelV x v) : (v == Value.none) = decide (x = .non) := by
  cases x with
  | non => cases r; rfl
  | bl _ => cases r; rfl
  | int _ => obtain ⟨t, rfl⟩ := r; rfl
  | str _ => obtain ⟨t, rfl⟩ := r; rfl
  | byt _ => obtain ⟨t, rfl⟩ := r; rfl
  | flt _ => obtain ⟨t, rfl⟩ := r; rfl
  | ref _ => cases r; rfl
  | ty _ => cases r; rfl
theorem pc_isN {j pos'} (ha : PE X a ta) : PC X .Is a (.Constant .none j pos') (tIsN ta) := by
  intro pins s σ H Q I h
  refine thn (ha pins s σ H _ I h) fun v s1 ⟨x, H1, I1, r1, q1⟩ => ?_
  exact Constant_none (is_none_gen ⟨.bl _, H1, I1, by rw [r1.none_iff]; rfl, q1⟩)
theorem pc_notN {j pos'} (ha : PE X a ta) : PC X .IsNot a (.Constant .none j pos') (tNotN ta) := by
  intro pins s σ H Q I h
  refine thn (ha pins s σ H _ I h) fun v s1 ⟨x, H1, I1, r1, q1⟩ => ?_
  exact Constant_none (isnot_none_gen ⟨.bl _, H1, I1, by rw [r1.none_iff]; rfl, q1⟩)
/-- a comparison as a value, as a test -/
def tB (t : TE) : TT := fun σ H Q => t σ H fun x H1 => ∃ c, x = .bl c ∧ Q c H1
theorem pe_cmp {op : CmpOp} {t : TE} (h : PC X op a b t) (h1 : behindInMarks op b = false := by first | exact nobehind _ (by decide) (by decide) | rfl) : PE X (.Compare a [op] [b] pos) t := fun pins s σ H Q I hw => wpAny_Compare1 (h pins s σ H Q I hw) h1
theorem pt_cmp {op : CmpOp} {t : TE} (h : PC X op a b t) (h1 : behindInMarks op b = false := by first | exact nobehind _ (by decide) (by decide) | rfl) : PT X (.Compare a [op] [b] pos) (tB t) := by
  intro pins s σ H Q I hw
  refine wpAny_isTrue_Compare1 (thn (h pins s σ H _ I hw) fun v s1 h1 => thn h1 fun u s2 h2 => thn h2 fun c s3 ⟨x, H1, I1, r1, q1⟩ => ?_) h1
  obtain ⟨d, rfl, q⟩ := q1
  cases r1
  exact wpAny_truthy_bool ⟨H1, I1, q⟩
/-- an expression whose value is a bool, as a test -/
theorem pt_val {e : Expr} {t : TE} (h : PE X e t) (he : ∀ whole, isTrue e X.env whole = (do let v ← whole; standAt e.pos; holding [v] (truthy v)) := by intro _; rfl) : PT X e (tB t) := by
  intro pins s σ H Q I hw
  refine isTrue_plain (thn (h pins s σ H _ I hw) fun v s1 ⟨x, H1, I1, r1, q1⟩ => ?_) (he _)
  obtain ⟨d, rfl, q⟩ := q1
  cases r1
  exact wpAny_truthy_bool ⟨H1, I1, q⟩

/-! ### and, or, not -/
variable {tA tB' : TT} {rest : List Expr}
def tAnd (t u : TT) : TT := fun σ H Q => t σ H fun c H1 => if c = true then u σ H1 Q else Q false H1
def tOr (t u : TT) : TT := fun σ H Q => t σ H fun c H1 => if c = true then Q true H1 else u σ H1 Q
def tNot (t : TT) : TT := fun σ H Q => t σ H fun c H1 => Q (!c) H1
theorem pw_and1 (ha : PT X a tA) : PW X (.BoolOp .And [a] pos) tA := by
  intro wh pins s σ H Q I h
  refine isTrue_and (thn (ha pins s σ H Q I h) fun c s1 e => ?_)
  cases c with
  | true => exact isTrue_and_nil e
  | false => exact e
theorem pw_or1 (ha : PT X a tA) : PW X (.BoolOp .Or [a] pos) tA := by
  intro wh pins s σ H Q I h
  refine isTrue_or (thn (ha pins s σ H Q I h) fun c s1 e => ?_)
  cases c with
  | false => exact isTrue_or_nil e
  | true => exact e
theorem pw_and (ha : PT X a tA) (hb : PW X (.BoolOp .And (b :: rest) pos) tB') : PW X (.BoolOp .And (a :: b :: rest) pos) (tAnd tA tB') := by
  intro wh pins s σ H Q I h
  refine isTrue_and (thn (ha pins s σ H _ I h) fun c s1 ⟨H1, I1, q1⟩ => ?_)
  cases c with
  | true => exact hb wh pins s1 σ H1 Q I1 q1
  | false => exact ⟨H1, I1, q1⟩
theorem pw_or (ha : PT X a tA) (hb : PW X (.BoolOp .Or (b :: rest) pos) tB') : PW X (.BoolOp .Or (a :: b :: rest) pos) (tOr tA tB') := by
  intro wh pins s σ H Q I h
  refine isTrue_or (thn (ha pins s σ H _ I h) fun c s1 ⟨H1, I1, q1⟩ => ?_)
  cases c with
  | true => exact ⟨H1, I1, q1⟩
  | false => exact hb wh pins s1 σ H1 Q I1 q1
theorem pt_not (ha : PT X a tA) : PT X (.UnaryOp .Not a pos) (tNot tA) := by
  intro pins s σ H Q I h
  exact isTrue_not (ha pins s σ H (fun c H1 => Q (!c) H1) I h)
/-- .. as values (bools) -/
def tAndV (ta tb : TE) : TE := fun σ H Q => ta σ H fun x H1 => ∃ c, x = .bl c ∧ if c = true then tb σ H1 Q else Q (.bl false) H1
def tOrV (ta tb : TE) : TE := fun σ H Q => ta σ H fun x H1 => ∃ c, x = .bl c ∧ if c = true then Q (.bl true) H1 else tb σ H1 Q
def tNotV (ta : TE) : TE := fun σ H Q => ta σ H fun x H1 => ∃ c, x = .bl c ∧ Q (.bl (!c)) H1
theorem pe_one {op} {t : TE} (h : PE X a t) : PE X (.BoolOp op [a] pos) t := fun pins s σ H Q I hw => BoolOp_one (h pins s σ H Q I hw)
theorem pe_and (ha : PE X a ta) (hb : PE X (.BoolOp .And (b :: rest) pos) tb) : PE X (.BoolOp .And (a :: b :: rest) pos) (tAndV ta tb) := by
  intro pins s σ H Q I h
  refine BoolOp_and (thn (ha pins s σ H _ I h) fun v s1 ⟨x, H1, I1, r1, q1⟩ => ?_)
  obtain ⟨c, rfl, q1⟩ := q1
  cases r1
  refine wpAny_truthy_bool ?_
  cases c with
  | true => exact hb pins s1 σ H1 Q I1 q1
  | false => exact ⟨.bl false, H1, I1, rfl, q1⟩
theorem pe_or (ha : PE X a ta) (hb : PE X (.BoolOp .Or (b :: rest) pos) tb) : PE X (.BoolOp .Or (a :: b :: rest) pos) (tOrV ta tb) := by
  intro pins s σ H Q I h
  refine BoolOp_or (thn (ha pins s σ H _ I h) fun v s1 ⟨x, H1, I1, r1, q1⟩ => ?_)
  obtain ⟨c, rfl, q1⟩ := q1
  cases r1
  refine wpAny_truthy_bool ?_
  cases c with
  | false => exact hb pins s1 σ H1 Q I1 q1
  | true => exact ⟨.bl true, H1, I1, rfl, q1⟩
theorem pe_not (ha : PE X a ta) : PE X (.UnaryOp .Not a pos) (tNotV ta) := by
  intro pins s σ H Q I h
  refine UnaryOp_ (thn (ha pins s σ H _ I h) fun v s1 ⟨x, H1, I1, r1, q1⟩ => ?_)
  obtain ⟨c, rfl, q1⟩ := q1
  cases r1
  exact not_of (wpAny_truthy_bool ⟨.bl (!c), H1, I1, rfl, q1⟩)
/-- a if t else b -/
def tIf (t : TT) (ta tb : TE) : TE := fun σ H Q => t σ H fun c H1 => if c = true then ta σ H1 Q else tb σ H1 Q
theorem pe_ifExp {c : Expr} (hc : PT X c tA) (ha : PE X a ta) (hb : PE X b tb) : PE X (.IfExp c a b pos) (tIf tA ta tb) := by
  intro pins s σ H Q I h
  refine wpAny_IfExp (thn (hc pins s σ H _ I h) fun d s1 ⟨H1, I1, q1⟩ => ?_)
  cases d with
  | true => exact ha pins s1 σ H1 Q I1 q1
  | false => exact hb pins s1 σ H1 Q I1 q1
end
end L2

namespace L2
open PySem PySem.Spec PyProof.Rows

/-! ### a list, a tuple that is read: tracked, frozen, or an object of the module -/
def SqL (K : PySem.W.Frag) (H : Hp) (a : Addr) (xs : List V) : Prop :=
  Rd H a (.lst xs) ∨
    ∃ (o : Obj) (its : Array Value) (n : Nat), K.lookup a = some o ∧ o.cls = .type "list" ∧ o.dict = none ∧ o.data = .seq its n ∧ its.size ≤ sizeLine ∧ Vals xs its.toList
def SqT (K : PySem.W.Frag) (H : Hp) (a : Addr) (xs : List V) : Prop :=
  Rd H a (.tup xs) ∨
    ∃ (o : Obj) (its : Array Value) (n : Nat), K.lookup a = some o ∧ o.cls = .type "tuple" ∧ o.data = .seq its n ∧ its.size ≤ sizeLine ∧ Vals xs its.toList
def absV : Value → Option V
  | .none => some .non
  | .bool b => some (.bl b)
  | .int i _ => some (.int i)
  | .str x _ => some (.str x)
  | .bytes b _ => some (.byt b)
  | .float b _ => some (.flt b)
  | .ref a => some (.ref a)
  | .type n => some (.ty n)
  | _ => none
theorem RelV.abs {x : V} {u : Value} (r : RelV x u) : absV u = some x := by
  cases x with
  | non => cases r; rfl
  | bl _ => cases r; rfl
  | int _ => obtain ⟨t, rfl⟩ := r; rfl
  | str _ => obtain ⟨t, rfl⟩ := r; rfl
  | byt _ => obtain ⟨t, rfl⟩ := r; rfl
  | flt _ => obtain ⟨t, rfl⟩ := r; rfl
  | ref _ => cases r; rfl
  | ty _ => cases r; rfl
theorem RelV.inj {x y : V} {u : Value} (r : RelV x u) (q : RelV y u) : x = y := Option.some.inj (r.abs.symm.trans q.abs)
theorem Vals.inj : ∀ {xs ys : List V} {us : List Value}, Vals xs us → Vals ys us → xs = ys
  | _, _, _, .nil, .nil => rfl
  | _, _, _, .cons r t, .cons r' t' => by rw [r.inj r', Vals.inj t t']
section
variable {X : Cx} {pins : List (Addr × Obj)} {σ : St} {H : Hp} {s : Shared} {a : Addr} {xs ys : List V}
theorem SqL.of {K : PySem.W.Frag} (h : H a = some (.lst xs)) : SqL K H a xs := .inl (.inl h)
theorem SqT.of {K : PySem.W.Frag} (h : H a = some (.tup xs)) : SqT K H a xs := .inl (.inl h)
theorem Inv.list (I : Inv X pins σ H s) (h : SqL X.K H a xs) : ∃ its : List Value, Vals xs its ∧ PlainL s.heap a its.toArray ∧ xs.length ≤ sizeLine := by
  rcases h with h | ⟨o, its, n, hk, hc, hd, hs, hz, r⟩
  · obtain ⟨z, its, n, r, e⟩ := h.ok I.hok
    exact ⟨its, r, ⟨_, n, e, rfl, rfl, rfl⟩, z⟩
  · refine ⟨its.toList, r, ⟨o, n, I.kIn a o hk, hc, hd, by simpa using hs⟩, ?_⟩
    have e := r.length
    simp only [Array.length_toList] at e
    omega
theorem Inv.tuple (I : Inv X pins σ H s) (h : SqT X.K H a xs) : ∃ its : List Value, Vals xs its ∧ IsTup s.heap a its.toArray ∧ xs.length ≤ sizeLine := by
  rcases h with h | ⟨o, its, n, hk, hc, hs, hz, r⟩
  · obtain ⟨z, its, r, p⟩ := h.ok I.hok
    exact ⟨its, r, p, z⟩
  · refine ⟨its.toList, r, ⟨o, I.kIn a o hk, hc, n, by simpa using hs⟩, ?_⟩
    have e := r.length
    simp only [Array.length_toList] at e
    omega
theorem Inv.list_inj (I : Inv X pins σ H s) (h : SqL X.K H a xs) (h' : SqL X.K H a ys) : xs = ys := by
  obtain ⟨its, r, ⟨o, n, e, _, _, d⟩, _⟩ := I.list h
  obtain ⟨its', r', ⟨o', n', e', _, _, d'⟩, _⟩ := I.list h'
  rw [e] at e'; cases e'
  rw [d] at d'
  injection d' with d1 _
  have : its = its' := by simpa using congrArg Array.toList d1
  subst this
  exact r.inj r'
theorem Inv.tuple_inj (I : Inv X pins σ H s) (h : SqT X.K H a xs) (h' : SqT X.K H a ys) : xs = ys := by
  obtain ⟨its, r, ⟨o, e, _, n, d⟩, _⟩ := I.tuple h
  obtain ⟨its', r', ⟨o', e', _, n', d'⟩, _⟩ := I.tuple h'
  rw [e] at e'; cases e'
  rw [d] at d'
  injection d' with d1 _
  have : its = its' := by simpa using congrArg Array.toList d1
  subst this
  exact r.inj r'
end

/-! ### another wish about exceptions -/
abbrev Cx.wish (X : Cx) (E : Value → Shared → Prop) : Cx := { X with xe := E }
/-- no exception leaves -/
abbrev Cx.nox (X : Cx) : Cx := X.wish fun _ _ => False
theorem Cx.Ok.wish {X : Cx} (ok : X.Ok) (E : Value → Shared → Prop) : (X.wish E).Ok :=
  ⟨ok.mod, ok.kind, ok.glob, ok.blt, ok.above, ok.inj, ok.has, ok.cab, ok.hd, ok.frames, ok.stk, ok.exf, ok.bs, ok.bsz, ok.noex, ok.exfs, ok.funs, ok.frf⟩
theorem Cx.Ok.unwish {X : Cx} {E : Value → Shared → Prop} (ok : (X.wish E).Ok) : X.Ok :=
  ⟨ok.mod, ok.kind, ok.glob, ok.blt, ok.above, ok.inj, ok.has, ok.cab, ok.hd, ok.frames, ok.stk, ok.exf, ok.bs, ok.bsz, ok.noex, ok.exfs, ok.funs, ok.frf⟩
section
variable {X : Cx} {pins : List (Addr × Obj)} {σ : St} {H : Hp} {s : Shared} {E : Value → Shared → Prop}
theorem Inv.wish (I : Inv X pins σ H s) (E : Value → Shared → Prop) : Inv (X.wish E) pins σ H s := ⟨I.ok.wish E, I.os, I.bare, I.base, I.loc, I.cell, I.free, I.freeC, I.pin, I.hok, I.len⟩
theorem Inv.unwish (I : Inv (X.wish E) pins σ H s) : Inv X pins σ H s := ⟨I.ok.unwish, I.os, I.bare, I.base, I.loc, I.cell, I.free, I.freeC, I.pin, I.hok, I.len⟩
theorem SP.unwish {D : Ends} {f : Flow} {s' : Shared} (h : SP (X.wish E) pins D f s') : SP X pins D f s' := by
  cases f with
  | next => obtain ⟨σ', H', I, q⟩ := h; exact ⟨σ', H', I.unwish, q⟩
  | brk => obtain ⟨σ', H', I, q⟩ := h; exact ⟨σ', H', I.unwish, q⟩
  | cont => obtain ⟨σ', H', I, q⟩ := h; exact ⟨σ', H', I.unwish, q⟩
  | ret u => obtain ⟨v, σ', H', I, r, q⟩ := h; exact ⟨v, σ', H', I.unwish, r, q⟩
theorem PE.nox {e : Expr} {t : TE} (h : PE X.nox e t) : PE X e t := fun pins s σ H Q I hw =>
  wpAny_mono (h pins s σ H Q (I.wish _) hw) (fun _ _ ⟨v, H', I', r, q⟩ => ⟨v, H', I'.unwish, r, q⟩) fun _ _ z => False.elim z
theorem PT.nox {e : Expr} {t : TT} (h : PT X.nox e t) : PT X e t := fun pins s σ H Q I hw =>
  wpAny_mono (h pins s σ H Q (I.wish _) hw) (fun _ _ ⟨H', I', q⟩ => ⟨H', I'.unwish, q⟩) fun _ _ z => False.elim z
theorem PSs.nox {st : List Stmt} {t : TS} (h : PSs X.nox st t) : PSs X st t := fun pins s σ H D I hw =>
  wpAny_mono (h pins s σ H D (I.wish _) hw) (fun _ _ q => q.unwish) fun _ _ z => False.elim z
end

/-! ### blocks and small statements -/
section
variable {X : Cx} {st : Stmt} {rest : List Stmt} {t u : TS} {e : Expr} {te : TE} {pos : Pos}
def tNext : TS := fun D σ H => D.nx σ H
def tSeq (t u : TS) : TS := fun D σ H => t { D with nx := u D } σ H
theorem pss_nil : PSs X [] tNext := fun _ _ σ H _ I h => wpAny_execs_nil ⟨σ, H, I, h⟩
theorem pss_cons (h1 : PS X st t) (h2 : PSs X rest u) : PSs X (st :: rest) (tSeq t u) := by
  intro pins s σ H D I h
  refine wpAny_execs_cons (thn (h1 pins s σ H { D with nx := u D } I h) fun f s1 q => ?_)
  cases f with
  | next =>
    obtain ⟨σ', H', I', q⟩ := q
    exact h2 pins s1 σ' H' D I' q
  | ret v => exact q
  | brk => exact q
  | cont => exact q
theorem pss_one (h1 : PS X st t) : PSs X [st] t := by
  intro pins s σ H D I h
  refine wpAny_execs_cons (thn (h1 pins s σ H D I h) fun f s1 q => ?_)
  cases f with
  | next => exact wpAny_execs_nil q
  | ret v => exact q
  | brk => exact q
  | cont => exact q
def tBreak : TS := fun D σ H => D.bk σ H
def tCont : TS := fun D σ H => D.ct σ H
theorem ps_pass : PS X (.Pass pos) tNext := fun _ _ σ H _ I h => wpAny_Pass ⟨σ, H, I, h⟩
theorem ps_break : PS X (.Break pos) tBreak := fun _ _ σ H _ I h => wpAny_Break ⟨σ, H, I, h⟩
theorem ps_continue : PS X (.Continue pos) tCont := fun _ _ σ H _ I h => wpAny_Continue ⟨σ, H, I, h⟩
/-- in a def's body nothing is shown -/
theorem Inv.quiet {pins : List (Addr × Obj)} {σ : St} {H : Hp} {s : Shared} (I : Inv X pins σ H s) : interactive X.env = false := by simp [interactive, I.ok.kind]
/-- a docstring -/
theorem ps_doc {x j pos pos'} : PS X (.Expr (.Constant (.str x) j pos) pos') tNext := fun _ s σ H _ I h => wpAny_Expr (Calls.Constant_str (show SP X _ _ .next { s with toks := s.toks + 1 } from ⟨σ, H, I.tok _, h⟩)) I.quiet
/-- an expression whose value is dropped -/
def tDrop (te : TE) : TS := fun D σ H => te σ H fun _ H1 => D.nx σ H1
theorem ps_expr (he : PE X e te) (hs : swapsWith e none pos.line X.env = pure false := by rfl) : PS X (.Expr e pos) (tDrop te) := by
  intro pins s σ H D I h
  exact wpAny_Expr_any (thn (he pins s σ H _ I h) fun v s1 ⟨x, H1, I1, r1, q1⟩ => ⟨σ, H1, I1, q1⟩) I.quiet hs
def tRet (te : TE) : TS := fun D σ H => te σ H D.rt
theorem ps_ret (he : PE X e te) : PS X (.Return (some e) pos) (tRet te) := by
  intro pins s σ H D I h
  exact wpAny_Return_some (thn (he pins s σ H _ I h) fun v s1 ⟨x, H1, I1, r1, q1⟩ => ⟨x, σ, H1, I1, r1, q1⟩)
def tRetN : TS := fun D _ H => D.rt .non H
theorem ps_retN : PS X (.Return none pos) tRetN := fun _ _ σ H _ I h => wpAny_Return_none ⟨.non, σ, H, I, rfl, h⟩
def tIfS (c : TT) (t u : TS) : TS := fun D σ H => c σ H fun b H1 => if b = true then t D σ H1 else u D σ H1
theorem ps_if {c : Expr} {a b : List Stmt} {tc : TT} (hc : PT X c tc) (ha : PSs X a t) (hb : PSs X b u) : PS X (.If c a b pos) (tIfS tc t u) := by
  intro pins s σ H D I h
  refine wpAny_If (thn (hc pins s σ H _ I h) fun d s1 ⟨H1, I1, q1⟩ => ?_)
  cases d with
  | true => exact ha pins s1 σ H1 D I1 q1
  | false => exact hb pins s1 σ H1 D I1 q1
/-- code that the proof never comes to -/
def tNever : TS := fun _ _ _ => False
theorem ps_never : PS X st tNever := fun _ _ _ _ _ _ h => h.elim
theorem pss_never {sts : List Stmt} : PSs X sts tNever := fun _ _ _ _ _ _ h => h.elim
end

/-! ### targets -/
abbrev TG := V → St → Hp → (St → Hp → Prop) → Prop
abbrev TGs := List V → St → Hp → (St → Hp → Prop) → Prop
def PG (X : Cx) (target : Expr) (t : TG) : Prop :=
  ∀ (pins : List (Addr × Obj)) (s : Shared) (σ : St) (H : Hp) (v : V) (u : Value) (Q : St → Hp → Prop), Inv X pins σ H s → RelV v u → t v σ H Q →
    wpAny (model X.prog X.w) X.A (assign target X.env u) (fun _ s' => ∃ σ' H', Inv X pins σ' H' s' ∧ Q σ' H') X.xe s
/-- several targets, one after another -/
def PGs (X : Cx) (ts : List Expr) (t : TGs) : Prop :=
  ∀ (pins : List (Addr × Obj)) (s : Shared) (σ : St) (H : Hp) (vs : List V) (us : List Value) (Q : St → Hp → Prop), Inv X pins σ H s → Vals vs us → t vs σ H Q →
    wpAny (model X.prog X.w) X.A (assignInOrder ((assignEach ts X.env).map (·.2)) us) (fun _ s' => ∃ σ' H', Inv X pins σ' H' s' ∧ Q σ' H') X.xe s
/-- o[i] = v, by values -/
abbrev TSet := V → V → V → Hp → (Hp → Prop) → Prop
def PSet (X : Cx) (t : TSet) : Prop :=
  ∀ (pins : List (Addr × Obj)) (s : Shared) (σ : St) (H : Hp) (o i v : V) (ov iv u : Value) (Q : Hp → Prop), Inv X pins σ H s → RelV o ov → RelV i iv → RelV v u → t o i v H Q →
    wpAny (model X.prog X.w) X.A (setItem ov iv u) (fun _ s' => ∃ H', Inv X pins σ H' s' ∧ Q H') X.xe s
/-- a op= b, by values -/
abbrev TIp := V → V → Hp → VK → Prop
def PIp (X : Cx) (op : Operator) (t : TIp) : Prop :=
  ∀ (pins : List (Addr × Obj)) (s : Shared) (σ : St) (H : Hp) (x y : V) (v u : Value) (Q : VK), Inv X pins σ H s → RelV x v → RelV y u → t x y H Q →
    wpAny (model X.prog X.w) X.A (inplaceOp op v u) (EP X pins σ Q) X.xe s
section
variable {X : Cx} {pos : Pos}
def gName (i : Nat) : TG := fun v σ H Q => Q (σ.set i (some v)) H
theorem pg_name {i : Nat} {x : Str} (hN : X.N.Nodup) (hi : X.N[i]? = some x) (hx : Loc X.env.scope x) (hf : X.fn x = true ∨ X.env.scope.names.lookup x = some .local := by first | exact .inl rfl | exact .inr rfl | assumption) : PG X (.Name x pos) (gName i) := by
  intro pins s σ H v u Q I r h
  exact wpAny_assign_Name (store_ok I hN hi hx r (fun s' I' => ⟨_, H, I', h⟩) hf)
def gNil : TGs := fun vs σ H Q => vs = [] ∧ Q σ H
def gCons (t : TG) (u : TGs) : TGs := fun vs σ H Q => ∃ v r, vs = v :: r ∧ t v σ H fun σ' H' => u r σ' H' Q
theorem pgs_nil : PGs X [] gNil := by
  intro pins s σ H vs us Q I r h
  obtain ⟨e, h⟩ := h
  subst e
  cases r
  exact assignInOrder_nil ⟨σ, H, I, h⟩
theorem pgs_cons {e : Expr} {es : List Expr} {t : TG} {u : TGs} (h1 : PG X e t) (h2 : PGs X es u)
    (hs : (assignEach (e :: es) X.env).map (·.2) = assign e X.env :: (assignEach es X.env).map (·.2) := by rfl) : PGs X (e :: es) (gCons t u) := by
  intro pins s σ H vs us Q I r h
  obtain ⟨v, vr, e1, h⟩ := h
  subst e1
  cases r with
  | cons r rr =>
    rw [hs]
    refine assignInOrder_cons (thn (h1 pins s σ H _ _ _ I r h) fun _ s1 ⟨σ1, H1, I1, q1⟩ => ?_)
    exact h2 pins s1 σ1 H1 _ _ Q I1 rr q1
/-- (a, b, ..) = a tuple of that length -/
def gTup (K : PySem.W.Frag) (n : Nat) (t : TGs) : TG := fun v σ H Q => ∃ a xs, v = .ref a ∧ SqT K H a xs ∧ xs.length = n ∧ t xs σ H Q
theorem pg_tup {es : List Expr} {k : Nat} {t : TGs} {n : Nat} (hc : X.calm = true) (h : PGs X es t)
    (hn : (assignEach es X.env).length = n := by rfl) (hst : (assignEach es X.env).findIdx? (·.1) = none := by rfl) : PG X (.Tuple es k pos) (gTup X.K n t) := by
  intro pins s σ H v u Q I r hw
  obtain ⟨a, xs, e1, hq, hl, hw⟩ := hw
  subst e1
  cases r
  obtain ⟨its, rv, ht, hz⟩ := I.tuple hq
  refine assign_Tuple_tuple (I.ok.hd hc) ht (by simp [hn, ← hl, rv.length]) hst fun h' hx => ?_
  have I1 : Inv X pins σ H { s with heap := h' } := I.kept (t' := s.toks) fun b o e => hx b o (Nat.ne_of_lt (Heap.lt_size e)) e
  exact h pins _ σ H xs _ Q I1 (by simpa using rv) hw
/-- o[i] = .. -/
def gSub (to ti : TE) (t : TSet) : TG := fun v σ H Q => to σ H fun o H1 => ti σ H1 fun i H2 => t o i v H2 fun H3 => Q σ H3
theorem pg_sub {o i : Expr} {to ti : TE} {t : TSet} (ho : PE X o to) (hi : PE X i ti) (hs : PSet X t)
    (ha : ∀ v, assign (.Subscript o i pos) X.env v = (do
      let ov ← holding [v] (eval o X.env)
      let iv ← holding [v, ov] (eval i X.env)
      standAt pos
      holding [v, ov, iv] (setItem ov iv v)
      release [v, ov, iv] []) := by intro _; rfl) : PG X (.Subscript o i pos) (gSub to ti t) := by
  intro pins s σ H v u Q I r h
  rw [ha]
  refine wpAny_bind (wpAny_holding (thn (ho pins s σ H _ I h) fun ov s1 ⟨x, H1, I1, r1, q1⟩ => ?_))
  refine wpAny_bind (wpAny_holding (thn (hi pins s1 σ H1 _ I1 q1) fun iv s2 ⟨y, H2, I2, r2, q2⟩ => ?_))
  refine wpAny_bind (wpAny_standAt (wpAny_bind (wpAny_holding (thn (hs pins s2 σ H2 x y v ov iv u _ I2 r1 r2 r q2) fun _ s3 ⟨H3, I3, q3⟩ => ?_))))
  exact wpAny_release ⟨σ, H3, I3, q3⟩
/-- target = value -/
def tAsg (te : TE) (g : TG) : TS := fun D σ H => te σ H fun x H1 => g x σ H1 D.nx
theorem ps_asg {tg e : Expr} {te : TE} {g : TG} (he : PE X e te) (hg : PG X tg g) (hs : swapsWithSole [tg] e pos.line X.env = pure false := by rfl) (hw : swappedStores [tg] e X.env = pure none := by rfl)
    (h1 : (assignEach [tg] X.env).map (·.2) = [assign tg X.env] := by rfl) : PS X (.Assign [tg] e pos) (tAsg te g) := by
  intro pins s σ H D I h
  refine wpAny_Assign_stores (thn (he pins s σ H _ I h) fun v s1 ⟨x, H1, I1, r1, q1⟩ => ?_) hs hw
  rw [h1]
  exact thn (hg pins s1 σ H1 x v _ I1 r1 q1) fun _ s2 q => q
/-- name = value -/
theorem ps_set {i : Nat} {x : Str} {e : Expr} {te : TE} {pos' : Pos} (hN : X.N.Nodup) (hi : X.N[i]? = some x) (hx : Loc X.env.scope x) (he : PE X e te) (hs : swapsWith e (some (.Name x pos')) pos.line X.env = pure false := by rfl) (hf : X.fn x = true ∨ X.env.scope.names.lookup x = some .local := by first | exact .inl rfl | exact .inr rfl | assumption) :
    PS X (.Assign [.Name x pos'] e pos) (tAsg te (gName i)) := by
  intro pins s σ H D I h
  refine wpAny_Assign_Name (thn (he pins s σ H _ I h) fun v s1 ⟨y, H1, I1, r1, q1⟩ => ?_) hs
  exact store_ok I1 hN hi hx r1 (fun s2 I2 => ⟨_, H1, I2, q1⟩) hf
/-- a, b = x, y with plain local names: stored from the right; the pair itself is not tracked (the opening rows as in PyProof/Rows/TupAssign.lean:23) -/
def tPar (i j : Nat) (ta : TA) : TS := fun D σ H => ta σ H fun vs H1 => ∃ v w, vs = [v, w] ∧ D.nx ((σ.set i (some v)).set j (some w)) H1
theorem ps_par {i j : Nat} {x y : Str} {a b : Expr} {ta : TA} {px py pt : Pos} {kt k2 pt2} (hc : X.calm = true) (hN : X.N.Nodup) (hi : X.N[i]? = some x) (hj : X.N[j]? = some y) (hij : i ≠ j)
    (hx : X.env.scope.names.lookup x = some .local) (hy : X.env.scope.names.lookup y = some .local) (ha : PA X [a, b] ta)
    (hw : swappedStores [.Tuple [.Name x px, .Name y py] kt pt] (.Tuple [a, b] k2 pt2) X.env = pure (some [x, y]))
    (hs : swapsWithSole [.Tuple [.Name x px, .Name y py] kt pt] (.Tuple [a, b] k2 pt2) pos.line X.env = pure false := by rfl) :
    PS X (.Assign [.Tuple [.Name x px, .Name y py] kt pt] (.Tuple [a, b] k2 pt2) pos) (tPar i j ta) := by
  intro pins s σ H D I h
  rw [exec_Assign_arm]
  refine wpAny_bind (wpAny_standAt ?_)
  rw [hs]
  refine wpAny_bind (wpAny_pure ?_)
  rw [if_neg (by decide)]
  refine wpAny_bind (Tuple_ (thn (ha _ pins s σ H _ I h) fun us s1 ⟨vs, H1, I1, r1, q1⟩ => ?_))
  obtain ⟨v, w, e1, q1⟩ := q1
  subst e1
  obtain ⟨u1, u2, rfl, rv, rw'⟩ : ∃ u1 u2, us = [u1, u2] ∧ RelV v u1 ∧ RelV w u2 := by
    cases r1 with
    | cons p q =>
      cases q with
      | cons p' q' =>
        cases q'
        exact ⟨_, _, rfl, p, p'⟩
  refine wpAny_newObj_type ?_ (by show 2 ≤ sizeLine; decide)
  have I2 : Inv X pins σ H1 { s1 with heap := s1.heap.push { cls := .type "tuple", data := .seq [u1, u2].toArray } } := I1.kept (t' := s1.toks) fun b o e => Heap.get?_push_of_some _ e
  rw [hw]
  refine wpAny_bind (wpAny_pure ?_)
  show wpAny (model X.prog X.w) X.A (do rule "assign.swapped-stores"; let items ← unpackItems (.ref s1.heap.objs.size) 2 none; assignInOrder [fun v => bindName X.env y v, fun v => bindName X.env x v] items.reverse; pure Flow.next) _ _ _
  refine wpAny_bind (wpAny_rule (wpAny_bind (unpackItems_tuple (items := #[u1, u2]) (I.ok.hd hc) (IsTup.new s1.heap _) fun h' hx' => ?_)))
  have I3 := I2.kept (h' := h') (t' := s1.toks) fun b o e => hx' b o (Nat.ne_of_lt (Heap.lt_size e)) e
  show wpAny _ _ (assignInOrder [fun v => bindName X.env y v, fun v => bindName X.env x v] [u2, u1] >>= fun _ => pure Flow.next) _ _ _
  refine wpAny_bind (assignInOrder_cons (wpAny_bindName (store_ok I3 hN hj (.inl hy) rw' (fun s2 I4 => ?_) (.inr hy))))
  refine assignInOrder_cons (wpAny_bindName (store_ok I4 hN hi (.inl hx) rv (fun s3 I5 => assignInOrder_nil (wpAny_pure ?_)) (.inr hx)))
  rw [List.set_comm _ _ (Ne.symm hij)] at I5
  exact ⟨_, H1, I5, q1⟩
/-- name op= e -/
def tAug (i : Nat) (te : TE) (ti : TIp) : TS := fun D σ H => ∃ x, σ[i]? = some (some x) ∧ te σ H fun y H1 => ti x y H1 fun z H2 => D.nx (σ.set i (some z)) H2
theorem ps_aug {i : Nat} {x : Str} {e : Expr} {te : TE} {op : Operator} {ti : TIp} {pos' : Pos} (hN : X.N.Nodup) (hi : X.N[i]? = some x) (hx : Loc X.env.scope x) (he : PE X e te) (ho : PIp X op ti) (hf : X.fn x = true ∨ X.env.scope.names.lookup x = some .local := by first | exact .inl rfl | exact .inr rfl | assumption) :
    PS X (.AugAssign (.Name x pos') op e pos) (tAug i te ti) := by
  intro pins s σ H D I h
  obtain ⟨v, e1, h⟩ := h
  obtain ⟨m, hn, hl⟩ := I.loc
  have vis : Vis X.env.scope x := by rcases hx with k | k; exact .inl k; exact .inr (.inl k)
  obtain ⟨u, r, l⟩ := hl i x v hi e1 vis
  refine wpAny_AugAssign_Name ?_
  have go : wpAny (model X.prog X.w) X.A (eval e X.env) (fun w s₂ => wpAny (model X.prog X.w) X.A (inplaceOp op u w) (fun r s₃ => wpAny (model X.prog X.w) X.A (storeName X.env x r) (fun _ => SP X pins D .next) X.xe s₃) X.xe s₂) X.xe s := by
    refine thn (he pins s σ H _ I h) fun w s1 ⟨y, H1, I1, r1, q1⟩ => ?_
    refine thn (ho pins s1 σ H1 v y u w _ I1 r r1 q1) fun z s2 ⟨zv, H2, I2, r2, q2⟩ => ?_
    exact store_ok I2 hN hi hx r2 (fun s3 I3 => ⟨_, H2, I3, q2⟩) hf
  rcases l with ⟨hk, hm⟩ | ⟨hk, c, hc, hcell⟩
  · exact wpAny_loadName_local I.ok.kind hk hn hm go
  · rcases hk with hk | hk
    · exact wpAny_loadName_cell I.ok.kind hk hc hcell go
    · rcases hx with k | k
      · have : X.env.scope.names.lookup x = some .free := hk
        rw [k] at this; cases this
      · have : X.env.scope.names.lookup x = some .free := hk
        rw [k] at this; cases this
/-- o[i] op= e -/
def tAugS (to ti te : TE) (tget : V → V → Hp → VK → Prop) (tip : TIp) (tset : TSet) : TS := fun D σ H => to σ H fun o H1 => ti σ H1 fun i H2 => tget o i H2 fun x H3 => te σ H3 fun y H4 => tip x y H4 fun z H5 => tset o i z H5 fun H6 => D.nx σ H6
/-- o[i], by values -/
def PGet (X : Cx) (t : V → V → Hp → VK → Prop) : Prop :=
  ∀ (pins : List (Addr × Obj)) (s : Shared) (σ : St) (H : Hp) (o i : V) (ov iv : Value) (Q : VK), Inv X pins σ H s → RelV o ov → RelV i iv → t o i H Q →
    wpAny (model X.prog X.w) X.A (getItem ov iv) (EP X pins σ Q) X.xe s
theorem ps_augS {o i e : Expr} {to ti te : TE} {tget : V → V → Hp → VK → Prop} {tip : TIp} {tset : TSet} {op : Operator} {tpos : Pos} (ho : PE X o to) (hi : PE X i ti) (hg : PGet X tget) (he : PE X e te) (hp : PIp X op tip) (hs : PSet X tset)
    (ha : ∀ ov iv new, augStore i ov iv new = (do holding [new, ov, iv] (setItem ov iv new); release [new, ov, iv] []; pure .next) := by intros; rfl) : PS X (.AugAssign (.Subscript o i tpos) op e pos) (tAugS to ti te tget tip tset) := by
  intro pins s σ H D I h
  refine wpAny_AugAssign_SubscriptAny (thn (ho pins s σ H _ I h) fun ov s1 ⟨x1, H1, I1, r1, q1⟩ => ?_) ha
  refine thn (hi pins s1 σ H1 _ I1 q1) fun iv s2 ⟨x2, H2, I2, r2, q2⟩ => ?_
  refine thn (hg pins s2 σ H2 x1 x2 ov iv _ I2 r1 r2 q2) fun old s3 ⟨x3, H3, I3, r3, q3⟩ => ?_
  refine thn (he pins s3 σ H3 _ I3 q3) fun v s4 ⟨x4, H4, I4, r4, q4⟩ => ?_
  refine thn (hp pins s4 σ H4 x3 x4 old v _ I4 r3 r4 q4) fun new s5 ⟨x5, H5, I5, r5, q5⟩ => ?_
  exact thn (hs pins s5 σ H5 x1 x2 x5 ov iv new _ I5 r1 r2 r5 q5) fun _ s6 ⟨H6, I6, q6⟩ => ⟨σ, H6, I6, q6⟩
/-- ints -/
def ipI (f : Int → Int → Int) : TIp := fun x y H Q => ∃ i j, x = .int i ∧ y = .int j ∧ Q (.int (f i j)) H
theorem ip_add : PIp X .Add (ipI fun i j => i + j) := by
  intro pins s σ H x y v u Q I r1 r2 h
  obtain ⟨i, j, e1, e2, q⟩ := h
  subst e1; subst e2
  obtain ⟨t, rfl⟩ := r1
  obtain ⟨t', rfl⟩ := r2
  exact iadd_int ⟨.int _, H, I.tok _, ⟨_, rfl⟩, q⟩
theorem ip_sub : PIp X .Sub (ipI fun i j => i - j) := by
  intro pins s σ H x y v u Q I r1 r2 h
  obtain ⟨i, j, e1, e2, q⟩ := h
  subst e1; subst e2
  obtain ⟨t, rfl⟩ := r1
  obtain ⟨t', rfl⟩ := r2
  exact isub_int ⟨.int _, H, I.tok _, ⟨_, rfl⟩, q⟩
end

/-! ### while -/
section
variable {X : Cx} {pos : Pos}
/-- the invariant W with its measure -/
def tWhile (c : TT) (tb : TS) : TS := fun D σ H => ∃ W : Nat → St → Hp → Prop, (∃ m, W m σ H) ∧ ∀ m σ H, W m σ H →
  c σ H fun b H1 => if b = true then ∃ N : St → Hp → Prop, (∀ σ' H', N σ' H' → ∃ m', m' < m ∧ W m' σ' H') ∧ tb { D with nx := N, ct := N, bk := D.nx } σ H1 else D.nx σ H1
theorem ps_while {c : Expr} {body : List Stmt} {tc : TT} {tb : TS} (hp : PassesOwn (model X.prog X.w) X.A X.env X.xe) (hc : PT X c tc) (hb : PSs X body tb) : PS X (.While c body [] pos) (tWhile tc tb) := by
  intro pins s σ H D I h
  obtain ⟨W, ⟨m0, w0⟩, turn⟩ := h
  refine wpAny_While (codeAny_whileLoop (fun n s' => ∃ σ' H', Inv X pins σ' H' s' ∧ W n σ' H') ?_ m0 ⟨σ, H, I, w0⟩)
  rintro n s1 ⟨σ1, H1, I1, w1⟩
  refine wpAny_passesOwn hp (thn (hc pins s1 σ1 H1 _ I1 (turn n σ1 H1 w1)) fun b s2 ⟨H2, I2, q2⟩ => ?_)
  cases b with
  | true =>
    obtain ⟨N, hN, q2⟩ := q2
    rw [if_pos rfl]
    refine wpAny_passesOwn hp (thn (hb pins s2 σ1 H2 _ I2 q2) fun f s3 q3 => ?_)
    cases f with
    | next =>
      obtain ⟨σ3, H3, I3, n3⟩ := q3
      obtain ⟨m', hm, w3⟩ := hN σ3 H3 n3
      exact ⟨m', hm, σ3, H3, I3, w3⟩
    | cont =>
      obtain ⟨σ3, H3, I3, n3⟩ := q3
      obtain ⟨m', hm, w3⟩ := hN σ3 H3 n3
      exact ⟨m', hm, σ3, H3, I3, w3⟩
    | brk => exact q3
    | ret v => exact q3
  | false =>
    rw [if_neg Bool.false_ne_true]
    exact wpAny_execs_nil ⟨σ1, H2, I2, q2⟩
end

/-! ### what a loop or a comprehension walks -/
/-- at turn i: it yields x (the heap may grow), or it stops -/
structure It where
  go : Nat → Hp → Prop
  yld : Nat → Hp → V → Hp → Prop
  stop : Nat → Hp → Prop
/-- the iterator's own objects may turn: they are not the frame's, not pinned, younger than the entry (or a comprehension's own) -/
def FpOk (X : Cx) (pins : List (Addr × Obj)) (H : Hp) (b : Addr) : Prop :=
  H b = none ∧ b ≠ X.env.locals ∧ b ∉ X.fs ∧ (b ∈ X.ex ∨ X.s₀.heap.objs.size ≤ b) ∧ (∀ x c, X.env.cells.lookup x = some c → c ≠ b) ∧ ∀ p ∈ X.pn ++ pins, p.1 ≠ b
theorem Inv.fpOk {X : Cx} {pins : List (Addr × Obj)} {σ : St} {H H' : Hp} {s : Shared} {b : Addr} (I : Inv X pins σ H s) (hb : s.heap.objs.size ≤ b) (hn : H' b = none) : FpOk X pins H' b := by
  refine ⟨hn, Nat.ne_of_gt (Nat.lt_of_lt_of_le I.lt hb), I.nofs hb, .inr (Nat.le_trans I.sz hb), fun x c e z => ?_, fun p hp z => ?_⟩
  · obtain ⟨v, q⟩ := I.cell x c e
    exact absurd (Nat.lt_of_lt_of_le q.lt (by rw [z]; exact hb)) (Nat.lt_irrefl _)
  · exact absurd (Nat.lt_of_lt_of_le (Heap.lt_size (I.pin p hp).1) (by rw [z]; exact hb)) (Nat.lt_irrefl _)
structure Turn (P : Program) (w : World) (K : PySem.W.Frag) (tg : Expr) (J : It) (fp : List Addr) (it : Addr) (tn : Nat → Heap → Prop) : Prop where
  mem : it ∈ fp
  obj : ∀ i h, tn i h → ∀ b ∈ fp, ∃ o, h.get? b = some o ∧ ∀ v, o.data ≠ .cell v
  keep : ∀ i h h', tn i h → (∀ b ∈ fp, ∀ o, h.get? b = some o → h'.get? b = some o) → tn i h'
  item : ∀ (X : Cx), X.prog = P → X.w = w → X.K = K → X.calm = true → ∀ (i : Nat) (pins : List (Addr × Obj)) (s : Shared) (σ : St) (H : Hp) (E : Value → Shared → Prop), Inv X pins σ H s → (∀ b ∈ fp, FpOk X pins H b) → tn i s.heap → J.go i H →
    wpAny (model P w) X.A (pyNext (.ref it)) (fun r s1 => ∃ u, r = some u ∧
      wpAny (model P w) X.A (letOwnedTupleGo tg (.ref it) u) (fun _ s2 => ∃ x H', Inv X pins σ H' s2 ∧ RelV x u ∧ J.yld i H x H' ∧ tn (i + 1) s2.heap ∧ ∀ b ∈ fp, H' b = none) E s1) E s
  done : ∀ (X : Cx), X.prog = P → X.w = w → X.K = K → X.calm = true → ∀ (i : Nat) (pins : List (Addr × Obj)) (s : Shared) (σ : St) (H : Hp) (E : Value → Shared → Prop), Inv X pins σ H s → (∀ b ∈ fp, FpOk X pins H b) → tn i s.heap → J.stop i H →
    wpAny (model P w) X.A (pyNext (.ref it)) (fun r s1 => r = none ∧ Inv X pins σ H s1) E s
  self : ∀ (A : Around) (i : Nat) (s : Shared) (Q : Value → Shared → Prop) (E : Value → Shared → Prop), tn i s.heap → Q (.ref it) s → wpAny (model P w) A (pyIter (.ref it)) Q E s
abbrev TI := St → Hp → (It → Hp → Prop) → Prop
/-- an iterator has come -/
def PIE (X : Cx) (pins : List (Addr × Obj)) (σ : St) (tg : Expr) (R : It → Hp → Prop) (itv : Value) (s2 : Shared) : Prop :=
  ∃ (it : Addr) (fp : List Addr) (tn : Nat → Heap → Prop) (J : It) (H' : Hp), itv = .ref it ∧ Inv X pins σ H' s2 ∧ Turn X.prog X.w X.K tg J fp it tn ∧ tn 0 s2.heap ∧ (∀ b ∈ fp, FpOk X pins H' b) ∧ R J H'
def PI (X : Cx) (tg iter : Expr) (wi : TI) : Prop :=
  ∀ (pins : List (Addr × Obj)) (s : Shared) (σ : St) (H : Hp) (R : It → Hp → Prop), Inv X pins σ H s → wi σ H R →
    wpAny (model X.prog X.w) X.A (eval iter X.env) (fun v s1 => wpAny (model X.prog X.w) X.A (pyIter v) (PIE X pins σ tg R) X.xe s1) X.xe s

/-- the step ahead of the store is nothing for an iterator that keeps no tuple -/
theorem go_of {M : Model} {A : Around} {E : Value → Shared → Prop} {s : Shared} {tg : Expr} {it : Addr} {u : Value} {o : Obj} {n : String} {vs : Array Value} {Q : Unit → Shared → Prop} (ho : s.heap.get? it = some o) (hc : o.cls = .type n) (hd : o.data = .fields vs)
    (hn : ["enumerate", "zip", "dict_itemiterator", "dict_reverseitemiterator", "odict_iterator", "itertools.zip_longest", "itertools.pairwise"].contains n = false) (hQ : Q () s) : wpAny M A (letOwnedTupleGo tg (.ref it) u) Q E s := by
  unfold letOwnedTupleGo
  cases tg <;> first
    | exact wpAny_pure hQ
    | (cases u <;> first
        | exact wpAny_pure hQ
        | (refine wpAny_bind (wpAny_load ho ?_)
           rw [hc, hd]
           show wpAny M A (if (["enumerate", "zip", "dict_itemiterator", "dict_reverseitemiterator", "odict_iterator", "itertools.zip_longest", "itertools.pairwise"].contains n && vs[0]? == some (rawInt _)) = true then _ else _) Q E s
           rw [if_neg (by intro h; rw [hn, Bool.false_and] at h; cases h)]
           exact wpAny_pure hQ))

/-- the list at a, as it stands at each turn (a loop may append to it) -/
def Itl (K : PySem.W.Frag) (a : Addr) : It :=
  ⟨fun i H => ∃ xs x, SqL K H a xs ∧ xs[i]? = some x, fun i H x H' => H' = H ∧ ∀ xs, SqL K H a xs → xs[i]? = some x, fun i H => ∃ xs, SqL K H a xs ∧ xs.length ≤ i⟩
def Itt (K : PySem.W.Frag) (a : Addr) : It :=
  ⟨fun i H => ∃ xs x, SqT K H a xs ∧ xs[i]? = some x, fun i H x H' => H' = H ∧ ∀ xs, SqT K H a xs → xs[i]? = some x, fun i H => ∃ xs, SqT K H a xs ∧ xs.length ≤ i⟩
/-- lo, lo + 1, .. (n of them) -/
def Itr (lo : Int) (n : Nat) : It := ⟨fun i _ => i < n, fun i H x H' => H' = H ∧ x = .int (lo + i), fun i _ => n ≤ i⟩
theorem turn_list {P : Program} {w : World} {K : PySem.W.Frag} {tg : Expr} (a it : Addr) : Turn P w K tg (Itl K a) [it] it (fun i h => h.IsListIter it a i) where
  mem := by simp
  obj := fun i h st b hb => by
    have e : b = it := by simpa using hb
    subst e
    obtain ⟨o, e, c, d⟩ := st
    exact ⟨o, e, fun v z => by rw [d] at z; cases z⟩
  keep := fun i h h' st k => st.at fun o e => k it (by simp) o e
  item := by
    intro X hP hw hK hc i pins s σ H E I hf st hg
    subst hP hw hK
    obtain ⟨xs, x, hq, hx⟩ := hg
    obtain ⟨its, rv, p, hz⟩ := I.list hq
    obtain ⟨u, hu, ru⟩ := rv.get hx
    obtain ⟨f0, f1, f2, f3, f4, f5⟩ := hf it (by simp)
    refine wpAny_pyNext_list_item st p.isList (x := u) (by simpa using hu) fun h' st' sb => ?_
    have I1 : Inv X pins σ H { s with heap := h' } := I.turned (t' := s.toks) (fun b o hb e => (sb.2 b hb).trans e) f0 f1 f3 f4 f5
    obtain ⟨o, e, c, d⟩ := id st'
    exact ⟨u, rfl, go_of (s := { s with heap := h' }) e c d (by decide) ⟨x, H, I1, ru, ⟨rfl, fun ys hy => by rw [I.list_inj hy hq]; exact hx⟩, st', fun b hb => (hf b hb).1⟩⟩
  done := by
    intro X hP hw hK hc i pins s σ H E I hf st hg
    subst hP hw hK
    obtain ⟨xs, hq, hx⟩ := hg
    obtain ⟨its, rv, p, hz⟩ := I.list hq
    obtain ⟨f0, f1, f2, f3, f4, f5⟩ := hf it (by simp)
    have hl := rv.length
    exact wpAny_pyNext_list_end (I.ok.hd hc) st p.isList (by simp; omega) fun h' eb => ⟨rfl, I.turned (t' := s.toks) (fun b o hb e => eb b o hb e) f0 f1 f3 f4 f5⟩
  self := fun _ _ _ _ _ st h => wpAny_pyIter_listiter st h
theorem turn_tuple {P : Program} {w : World} {K : PySem.W.Frag} {tg : Expr} (a it : Addr) : Turn P w K tg (Itt K a) [it] it (fun i h => h.IsTupleIter it a i) where
  mem := by simp
  obj := fun i h st b hb => by
    have e : b = it := by simpa using hb
    subst e
    obtain ⟨o, e, c, d⟩ := st
    exact ⟨o, e, fun v z => by rw [d] at z; cases z⟩
  keep := fun i h h' st k => st.at fun o e => k it (by simp) o e
  item := by
    intro X hP hw hK hc i pins s σ H E I hf st hg
    subst hP hw hK
    obtain ⟨xs, x, hq, hx⟩ := hg
    obtain ⟨its, rv, p, hz⟩ := I.tuple hq
    obtain ⟨u, hu, ru⟩ := rv.get hx
    obtain ⟨f0, f1, f2, f3, f4, f5⟩ := hf it (by simp)
    refine wpAny_pyNext_tuple_item st (show s.heap.IsTuple a its.toArray from p) (x := u) (by simpa using hu) fun h' st' sb => ?_
    have I1 : Inv X pins σ H { s with heap := h' } := I.turned (t' := s.toks) (fun b o hb e => (sb.2 b hb).trans e) f0 f1 f3 f4 f5
    obtain ⟨o, e, c, d⟩ := id st'
    exact ⟨u, rfl, go_of (s := { s with heap := h' }) e c d (by decide) ⟨x, H, I1, ru, ⟨rfl, fun ys hy => by rw [I.tuple_inj hy hq]; exact hx⟩, st', fun b hb => (hf b hb).1⟩⟩
  done := by
    intro X hP hw hK hc i pins s σ H E I hf st hg
    subst hP hw hK
    obtain ⟨xs, hq, hx⟩ := hg
    obtain ⟨its, rv, p, hz⟩ := I.tuple hq
    obtain ⟨f0, f1, f2, f3, f4, f5⟩ := hf it (by simp)
    have hl := rv.length
    exact wpAny_pyNext_tuple_end (I.ok.hd hc) st (show s.heap.IsTuple a its.toArray from p) (by simp; omega) fun h' eb => ⟨rfl, I.turned (t' := s.toks) (fun b o hb e => eb b o hb e) f0 f1 f3 f4 f5⟩
  self := fun _ _ _ _ _ st h => wpAny_pyIter_tupleiter st h
theorem turn_range {P : Program} {w : World} {K : PySem.W.Frag} {tg : Expr} (it : Addr) (lo : Int) (n : Nat) : Turn P w K tg (Itr lo n) [it] it (fun i h => IsRangeIter h it (lo + (i : Nat) * 1) ((n : Int) - (i : Nat)) 1) where
  mem := by simp
  obj := fun i h st b hb => by
    have e : b = it := by simpa using hb
    subst e
    exact ⟨_, st, fun v z => by
      have z' : Data.fields _ = Data.cell v := z
      cases z'⟩
  keep := fun i h h' st k => k it (by simp) _ st
  item := by
    intro X hP hw hK hc i pins s σ H E I hf st hg
    subst hP hw hK
    obtain ⟨f0, f1, f2, f3, f4, f5⟩ := hf it (by simp)
    have W := Walks.range (prog := X.prog) (w := X.w) (I.ok.hd hc) it lo 1 n
    refine W.item i s _ _ hg st fun v h' tk hv st' kk => ?_
    obtain ⟨t, rfl⟩ := hv
    have I1 : Inv X pins σ H { s with heap := h', toks := tk } := I.turned (fun b o hb e => kk b o (by simpa using hb) e) f0 f1 f3 f4 f5
    refine ⟨_, rfl, go_of (s := { s with heap := h', toks := tk }) (n := "range_iterator") st' rfl rfl (by decide) ⟨.int (lo + i), H, I1, ⟨t, ?_⟩, ⟨rfl, rfl⟩, st', fun b hb => (hf b hb).1⟩⟩
    rw [Int.mul_one]
  done := by
    intro X hP hw hK hc i pins s σ H E I hf st hg
    subst hP hw hK
    obtain ⟨f0, f1, f2, f3, f4, f5⟩ := hf it (by simp)
    exact wpAny_pyNext_range_end (I.ok.hd hc) st (by have : n ≤ i := hg; omega) fun h' eb => ⟨rfl, I.turned (t' := s.toks) (fun b o hb e => eb b o hb e) f0 f1 f3 f4 f5⟩
  self := fun _ _ _ _ _ st h => wpAny_pyIter_rangeiter st h
end L2

namespace L2
open PySem PySem.Spec PyProof.Rows
section
variable {X : Cx} {tg : Expr}
def iList (K : PySem.W.Frag) (tl : TE) : TI := fun σ H R => tl σ H fun x H1 => ∃ a, x = .ref a ∧ (∃ xs, SqL K H1 a xs) ∧ R (Itl K a) H1
def iTup (K : PySem.W.Frag) (tl : TE) : TI := fun σ H R => tl σ H fun x H1 => ∃ a, x = .ref a ∧ (∃ xs, SqT K H1 a xs) ∧ R (Itt K a) H1
theorem pi_list {l : Expr} {tl : TE} (hl : PE X l tl) : PI X tg l (iList X.K tl) := by
  intro pins s σ H R I h
  refine thn (hl pins s σ H _ I h) fun v s1 ⟨x, H1, I1, r1, q1⟩ => ?_
  obtain ⟨a, e, ⟨xs, hq⟩, q⟩ := q1
  subst e
  cases r1
  obtain ⟨its, rv, p, hz⟩ := I1.list hq
  refine wpAny_pyIter_list p.isList ?_
  refine ⟨s1.heap.objs.size, [s1.heap.objs.size], _, _, H1, rfl, I1.kept (t' := s1.toks) fun b o e => Heap.get?_push_of_some _ e, turn_list a _, ⟨_, Heap.get?_push_size _ rfl, rfl, rfl⟩, fun b hb => ?_, q⟩
  have e : b = s1.heap.objs.size := by simpa using hb
  subst e
  exact I1.fpOk (Nat.le_refl _) (I1.hok.fresh (Nat.le_refl _))
theorem pi_tup {l : Expr} {tl : TE} (hl : PE X l tl) : PI X tg l (iTup X.K tl) := by
  intro pins s σ H R I h
  refine thn (hl pins s σ H _ I h) fun v s1 ⟨x, H1, I1, r1, q1⟩ => ?_
  obtain ⟨a, e, ⟨xs, hq⟩, q⟩ := q1
  subst e
  cases r1
  obtain ⟨its, rv, p, hz⟩ := I1.tuple hq
  refine wpAny_pyIter_tuple (show s1.heap.IsTuple a its.toArray from p) ?_
  refine ⟨s1.heap.objs.size, [s1.heap.objs.size], _, _, H1, rfl, I1.kept (t' := s1.toks) fun b o e => Heap.get?_push_of_some _ e, turn_tuple a _, ⟨_, Heap.get?_push_size _ rfl, rfl, rfl⟩, fun b hb => ?_, q⟩
  have e : b = s1.heap.objs.size := by simpa using hb
  subst e
  exact I1.fpOk (Nat.le_refl _) (I1.hok.fresh (Nat.le_refl _))
/-- a range object just made, walked -/
theorem range_it {pins : List (Addr × Obj)} {σ : St} {H : Hp} {s : Shared} {R : It → Hp → Prop} {E : Value → Shared → Prop} {lo hi : Int} {t u v : Tok} {tk : Nat} (I : Inv X pins σ H s) (h1 : -(2 ^ 62) ≤ lo) (h2 : lo < 2 ^ 62) (h3 : -(2 ^ 62) ≤ hi) (h4 : hi < 2 ^ 62)
    (q : R (Itr lo (hi - lo).toNat) H) : wpAny (model X.prog X.w) X.A (pyIter (.ref s.heap.objs.size)) (PIE X pins σ tg R) E { s with heap := s.heap.push { cls := .type "range", data := .fields #[.int lo t, .int hi u, .int 1 v] }, toks := tk } := by
  refine wpAny_pyIter_range (IsRange.new ..) (small_one h1 h2 h3 h4) ?_
  have I1 : Inv X pins σ H { s with heap := s.heap.push { cls := .type "range", data := .fields #[.int lo t, .int hi u, .int 1 v] }, toks := tk } := I.kept fun b o e => Heap.get?_push_of_some _ e
  refine ⟨(s.heap.push { cls := .type "range", data := .fields #[.int lo t, .int hi u, .int 1 v] }).objs.size, [(s.heap.push { cls := .type "range", data := .fields #[.int lo t, .int hi u, .int 1 v] }).objs.size], _, _, H, rfl,
    I1.kept (t' := tk) fun b o e => Heap.get?_push_of_some _ e, turn_range _ lo (hi - lo).toNat, ?_, fun b hb => ?_, q⟩
  · have e1 : lo + ((0 : Nat) : Int) * 1 = lo := by simp
    have e2 : (((hi - lo).toNat : Nat) : Int) - ((0 : Nat) : Int) = Builtin.Range.rangeSize lo hi 1 := by rw [rangeSize_one]; split <;> omega
    show IsRangeIter _ _ (lo + ((0 : Nat) : Int) * 1) ((((hi - lo).toNat : Nat) : Int) - ((0 : Nat) : Int)) 1
    rw [e1, e2]
    exact Heap.get?_push_size _ rfl
  · have e : b = (s.heap.push { cls := .type "range", data := .fields #[.int lo t, .int hi u, .int 1 v] }).objs.size := by simpa using hb
    subst e
    exact I1.fpOk (Nat.le_refl _) (I1.hok.fresh (Nat.le_refl _))
def iRng1 (ta : TA) : TI := fun σ H R => ta σ H fun vs H1 => ∃ j : Int, vs = [.int j] ∧ -(2 ^ 62) ≤ j ∧ j < 2 ^ 62 ∧ R (Itr 0 j.toNat) H1
def iRng2 (ta : TA) : TI := fun σ H R => ta σ H fun vs H1 => ∃ i j : Int, vs = [.int i, .int j] ∧ (-(2 ^ 62) ≤ i ∧ i < 2 ^ 62 ∧ -(2 ^ 62) ≤ j ∧ j < 2 ^ 62) ∧ R (Itr i (j - i).toNat) H1
theorem pi_range1 {a : Expr} {ta : TA} {p pos : Pos} (hg : Gl X "range") (hm : X.mg "range" = none) (ha : PA X [a] ta) (hs : starEach [a] X.env = [(false, eval a X.env)] := by rfl) : PI X tg (.Call (.Name "range" p) [a] [] pos) (iRng1 ta) := by
  intro pins s σ H R I h
  refine Call_ (ld_blt I hg hm boot_range (PyProof.Rows.callWith_type1 (thn (ha pos pins s σ H _ I h) fun us s1 ⟨vs, H1, I1, r1, q1⟩ => ?_) hs rfl))
  obtain ⟨j, e, q1, q2, q⟩ := q1
  subst e
  cases r1 with
  | cons r rr =>
    cases rr
    obtain ⟨t, rfl⟩ := r
    exact call_range_1 (range_it I1 (by omega) (by omega) q1 q2 (by simpa using q))
theorem pi_range2 {a b : Expr} {ta : TA} {p pos : Pos} (hg : Gl X "range") (hm : X.mg "range" = none) (ha : PA X [a, b] ta) (hs : starEach [a, b] X.env = [(false, eval a X.env), (false, eval b X.env)] := by rfl) (hs2 : starEach [b] X.env = [(false, eval b X.env)] := by rfl) :
    PI X tg (.Call (.Name "range" p) [a, b] [] pos) (iRng2 ta) := by
  intro pins s σ H R I h
  refine Call_ (ld_blt I hg hm boot_range (PyProof.Rows.callWith_type1 (thn (ha pos pins s σ H _ I h) fun us s1 ⟨vs, H1, I1, r1, q1⟩ => ?_) (by rw [hs, hs2]) (by rw [hs2]; rfl)))
  obtain ⟨i, j, e, ⟨q1, q2, q3, q4⟩, q⟩ := q1
  subst e
  cases r1 with
  | cons r rr =>
    cases rr with
    | cons r' rr =>
      cases rr
      obtain ⟨t, rfl⟩ := r
      obtain ⟨t', rfl⟩ := r'
      exact call_range_2 (range_it I1 q1 q2 q3 q4 q)

/-! ### for -/
/-- W: the invariant by the turn and a measure; N: what the body is to reach -/
def tFor (wi : TI) (g : TG) (tb : TS) : TS := fun D σ H => wi σ H fun J H1 => ∃ W : Nat → Nat → St → Hp → Prop, (∃ m, W 0 m σ H1) ∧ ∀ i m σ H, W i m σ H →
  (J.stop i H ∧ D.nx σ H) ∨ (J.go i H ∧ ∃ N : St → Hp → Prop, (∀ σ' H', N σ' H' → ∃ m', m' < m ∧ W (i + 1) m' σ' H') ∧ ∀ x H', J.yld i H x H' → g x σ H' fun σ2 H2 => tb { D with nx := N, ct := N, bk := D.nx } σ2 H2)
/-- the records at fp as they stand -/
def pinsAt (fp : List Addr) (h : Heap) : List (Addr × Obj) := fp.filterMap fun b => (h.get? b).map fun o => (b, o)
theorem mem_pinsAt {fp : List Addr} {h : Heap} {b : Addr} {o : Obj} (hb : b ∈ fp) (e : h.get? b = some o) : (b, o) ∈ pinsAt fp h := List.mem_filterMap.mpr ⟨b, hb, by rw [e]; rfl⟩
theorem of_pinsAt {fp : List Addr} {h : Heap} {p : Addr × Obj} (hp : p ∈ pinsAt fp h) : p.1 ∈ fp ∧ h.get? p.1 = some p.2 := by
  obtain ⟨b, hb, e⟩ := List.mem_filterMap.mp hp
  cases q : h.get? b with
  | none => rw [q] at e; cases e
  | some o =>
    rw [q] at e
    have e' : (b, o) = p := Option.some.inj e
    subst e'
    exact ⟨hb, q⟩
theorem Inv.pinned {pins : List (Addr × Obj)} {σ : St} {H : Hp} {s : Shared} {fp : List Addr} (I : Inv X pins σ H s) (hf : ∀ b ∈ fp, FpOk X pins H b) (ho : ∀ b ∈ fp, ∃ o, s.heap.get? b = some o ∧ ∀ v, o.data ≠ .cell v) : Inv X (pins ++ pinsAt fp s.heap) σ H s :=
  I.pins_of fun p hp => (List.mem_append.mp hp).elim (fun z => I.pin p (List.mem_append_right _ z)) fun z => by
    obtain ⟨hb, e⟩ := of_pinsAt z
    obtain ⟨f0, f1, f2, _⟩ := hf p.1 hb
    obtain ⟨o, e', d⟩ := ho p.1 hb
    rw [e] at e'; cases e'
    exact ⟨e, f0, f1, f2, d⟩
theorem Inv.unpinned {pins pl : List (Addr × Obj)} {σ : St} {H : Hp} {s : Shared} (I : Inv X (pins ++ pl) σ H s) : Inv X pins σ H s := I.pins_of fun p hp => I.pin p (List.mem_append_right _ (List.mem_append_left _ hp))
theorem ps_for {iter : Expr} {body : List Stmt} {wi : TI} {g : TG} {tb : TS} {pos : Pos} (hp : PassesOwn (model X.prog X.w) X.A X.env X.xe) (hc : X.calm = true) (hi : PI X tg iter wi) (hg : PG X tg g) (hb : PSs X body tb)
    (hs : ∀ x, foldedSetIterable iter X.env x = pure x := by intro _; rfl) : PS X (.For tg iter body [] pos) (tFor wi g tb) := by
  intro pins s σ H D I h
  refine wpAny_For (thn (hi pins s σ H _ I h) fun v s1 h1 => thn h1 fun itv s2 h2 => ?_) hs
  obtain ⟨it, fp, tn, J, H2, e, I2, T, st2, f2, W, ⟨m0, w0⟩, turn⟩ := h2
  subst e
  -- what stays true of the iterator's objects through the loop
  have stat : ∀ {H' : Hp}, (∀ b ∈ fp, H' b = none) → ∀ b ∈ fp, FpOk X pins H' b := fun hn b hb => ⟨hn b hb, (f2 b hb).2⟩
  refine codeAny_forLoop_any (fun n s' => ∃ i σ' H', Inv X pins σ' H' s' ∧ tn i s'.heap ∧ (∀ b ∈ fp, H' b = none) ∧ W i n σ' H') ?_ m0 ⟨0, σ, H2, I2, st2, fun b hb => (f2 b hb).1, w0⟩
  rintro n s3 ⟨i, σ3, H3, I3, st3, fr3, w3⟩
  rcases turn i n σ3 H3 w3 with ⟨stop, qn⟩ | ⟨go, N, hN, step⟩
  · refine wpAny_passesOwn hp (thn (T.done X rfl rfl rfl hc i pins s3 σ3 H3 X.xe I3 (stat fr3) st3 stop) fun r s4 ⟨hr, I4⟩ => ?_)
    subst hr
    exact wpAny_execs_nil ⟨σ3, H3, I4, qn⟩
  · refine wpAny_passesOwn hp (thn (T.item X rfl rfl rfl hc i pins s3 σ3 H3 X.xe I3 (stat fr3) st3 go) fun r s4 ⟨u, hr, h4⟩ => ?_)
    subst hr
    refine wpAny_passesOwn hp (thn h4 fun _ s5 ⟨x, H5, I5, r5, y5, st5, fr5⟩ => ?_)
    have I5' := I5.pinned (stat fr5) (T.obj _ _ st5)
    refine wpAny_passesOwn hp (thn (hg _ s5 σ3 H5 x u _ I5' r5 (step x H5 y5)) fun _ s6 ⟨σ6, H6, I6, q6⟩ => ?_)
    refine wpAny_passesOwn hp (thn (hb _ s6 σ6 H6 _ I6 q6) fun f s7 q7 => ?_)
    have again : ∀ {σ7 : St} {H7 : Hp}, Inv X (pins ++ pinsAt fp s5.heap) σ7 H7 s7 → N σ7 H7 → ∃ m, m < n ∧ ∃ i σ' H', Inv X pins σ' H' s7 ∧ tn i s7.heap ∧ (∀ b ∈ fp, H' b = none) ∧ W i m σ' H' := fun {σ7 H7} I7 n7 => by
      obtain ⟨m', hm, w7⟩ := hN σ7 H7 n7
      refine ⟨m', hm, i + 1, σ7, H7, I7.unpinned, T.keep _ _ _ st5 fun b hb o e => (I7.pin (b, o) (List.mem_append_right _ (List.mem_append_right _ (mem_pinsAt hb e)))).1, fun b hb => ?_, w7⟩
      obtain ⟨o, e, d⟩ := T.obj _ _ st5 b hb
      exact (I7.pin (b, o) (List.mem_append_right _ (List.mem_append_right _ (mem_pinsAt hb e)))).2.1
    cases f with
    | next => obtain ⟨σ7, H7, I7, n7⟩ := q7; exact again I7 n7
    | cont => obtain ⟨σ7, H7, I7, n7⟩ := q7; exact again I7 n7
    | brk => obtain ⟨σ7, H7, I7, q7⟩ := q7; exact ⟨σ7, H7, I7.unpinned, q7⟩
    | ret v => obtain ⟨x7, σ7, H7, I7, r7, q7⟩ := q7; exact ⟨x7, σ7, H7, I7.unpinned, r7, q7⟩
end

/-! ### the forms one uses -/
/-- over a list that the body leaves as it is -/
theorem for_list {K : PySem.W.Frag} {a : Addr} {xs : List V} {g : TG} {tb : TS} {D : Ends} {σ : St} {H : Hp} (Pv : Nat → St → Hp → Prop) (h0 : Pv 0 σ H) (hl : ∀ i σ H, i ≤ xs.length → Pv i σ H → SqL K H a xs)
    (hs : ∀ i x σ H, xs[i]? = some x → Pv i σ H → g x σ H fun σ2 H2 => tb { D with nx := Pv (i + 1), ct := Pv (i + 1), bk := D.nx } σ2 H2) (hd : ∀ σ H, Pv xs.length σ H → D.nx σ H) :
    ∃ W : Nat → Nat → St → Hp → Prop, (∃ m, W 0 m σ H) ∧ ∀ i m σ H, W i m σ H →
      ((Itl K a).stop i H ∧ D.nx σ H) ∨ ((Itl K a).go i H ∧ ∃ N : St → Hp → Prop, (∀ σ' H', N σ' H' → ∃ m', m' < m ∧ W (i + 1) m' σ' H') ∧ ∀ x H', (Itl K a).yld i H x H' → g x σ H' fun σ2 H2 => tb { D with nx := N, ct := N, bk := D.nx } σ2 H2) := by
  refine ⟨fun i m σ H => m = xs.length - i ∧ i ≤ xs.length ∧ Pv i σ H, ⟨xs.length, by simp, Nat.zero_le _, h0⟩, ?_⟩
  rintro i m σ H ⟨rfl, hi, p⟩
  have q := hl i σ H hi p
  by_cases hlt : i < xs.length
  · refine .inr ⟨⟨xs, xs[i], q, by simp [hlt]⟩, Pv (i + 1), fun σ' H' p' => ⟨xs.length - (i + 1), by omega, rfl, hlt, p'⟩, fun x H' y => ?_⟩
    obtain ⟨e, y⟩ := y
    subst e
    exact hs i x σ _ (y xs q) p
  · have e : i = xs.length := by omega
    subst e
    exact .inl ⟨⟨xs, q, Nat.le_refl _⟩, hd σ H p⟩
theorem for_tup {K : PySem.W.Frag} {a : Addr} {xs : List V} {g : TG} {tb : TS} {D : Ends} {σ : St} {H : Hp} (Pv : Nat → St → Hp → Prop) (h0 : Pv 0 σ H) (hl : ∀ i σ H, i ≤ xs.length → Pv i σ H → SqT K H a xs)
    (hs : ∀ i x σ H, xs[i]? = some x → Pv i σ H → g x σ H fun σ2 H2 => tb { D with nx := Pv (i + 1), ct := Pv (i + 1), bk := D.nx } σ2 H2) (hd : ∀ σ H, Pv xs.length σ H → D.nx σ H) :
    ∃ W : Nat → Nat → St → Hp → Prop, (∃ m, W 0 m σ H) ∧ ∀ i m σ H, W i m σ H →
      ((Itt K a).stop i H ∧ D.nx σ H) ∨ ((Itt K a).go i H ∧ ∃ N : St → Hp → Prop, (∀ σ' H', N σ' H' → ∃ m', m' < m ∧ W (i + 1) m' σ' H') ∧ ∀ x H', (Itt K a).yld i H x H' → g x σ H' fun σ2 H2 => tb { D with nx := N, ct := N, bk := D.nx } σ2 H2) := by
  refine ⟨fun i m σ H => m = xs.length - i ∧ i ≤ xs.length ∧ Pv i σ H, ⟨xs.length, by simp, Nat.zero_le _, h0⟩, ?_⟩
  rintro i m σ H ⟨rfl, hi, p⟩
  have q := hl i σ H hi p
  by_cases hlt : i < xs.length
  · refine .inr ⟨⟨xs, xs[i], q, by simp [hlt]⟩, Pv (i + 1), fun σ' H' p' => ⟨xs.length - (i + 1), by omega, rfl, hlt, p'⟩, fun x H' y => ?_⟩
    obtain ⟨e, y⟩ := y
    subst e
    exact hs i x σ _ (y xs q) p
  · have e : i = xs.length := by omega
    subst e
    exact .inl ⟨⟨xs, q, Nat.le_refl _⟩, hd σ H p⟩
theorem for_range {lo : Int} {n : Nat} {g : TG} {tb : TS} {D : Ends} {σ : St} {H : Hp} (Pv : Nat → St → Hp → Prop) (h0 : Pv 0 σ H)
    (hs : ∀ i σ H, i < n → Pv i σ H → g (.int (lo + i)) σ H fun σ2 H2 => tb { D with nx := Pv (i + 1), ct := Pv (i + 1), bk := D.nx } σ2 H2) (hd : ∀ σ H, Pv n σ H → D.nx σ H) :
    ∃ W : Nat → Nat → St → Hp → Prop, (∃ m, W 0 m σ H) ∧ ∀ i m σ H, W i m σ H →
      ((Itr lo n).stop i H ∧ D.nx σ H) ∨ ((Itr lo n).go i H ∧ ∃ N : St → Hp → Prop, (∀ σ' H', N σ' H' → ∃ m', m' < m ∧ W (i + 1) m' σ' H') ∧ ∀ x H', (Itr lo n).yld i H x H' → g x σ H' fun σ2 H2 => tb { D with nx := N, ct := N, bk := D.nx } σ2 H2) := by
  refine ⟨fun i m σ H => m = n - i ∧ i ≤ n ∧ Pv i σ H, ⟨n, by simp, Nat.zero_le _, h0⟩, ?_⟩
  rintro i m σ H ⟨rfl, hi, p⟩
  by_cases hlt : i < n
  · refine .inr ⟨hlt, Pv (i + 1), fun σ' H' p' => ⟨n - (i + 1), by omega, rfl, hlt, p'⟩, fun x H' y => ?_⟩
    obtain ⟨e, y⟩ := y
    subst e y
    exact hs i σ _ hlt p
  · have e : i = n := by omega
    subst e
    exact .inl ⟨Nat.le_refl _, hd σ H p⟩
/-- while, by a word and a measure of the state -/
theorem while_by {c : TT} {tb : TS} {D : Ends} {σ : St} {H : Hp} (Pv : St → Hp → Prop) (μ : St → Hp → Nat) (h0 : Pv σ H)
    (hs : ∀ σ H, Pv σ H → c σ H fun b H1 => if b = true then tb { D with nx := fun σ' H' => Pv σ' H' ∧ μ σ' H' < μ σ H, ct := fun σ' H' => Pv σ' H' ∧ μ σ' H' < μ σ H, bk := D.nx } σ H1 else D.nx σ H1)
    (mono : ∀ σ H Q Q', (∀ b H1, Q b H1 → Q' b H1) → c σ H Q → c σ H Q') : tWhile c tb D σ H := by
  refine ⟨fun m σ H => m = μ σ H ∧ Pv σ H, ⟨_, rfl, h0⟩, ?_⟩
  rintro m σ H ⟨rfl, p⟩
  refine mono σ H _ _ (fun b H1 q => ?_) (hs σ H p)
  cases b with
  | true => exact ⟨_, fun σ' H' ⟨p', l⟩ => ⟨_, l, rfl, p'⟩, q⟩
  | false => exact q
end L2

namespace L2
open PySem PySem.Spec PyProof.Rows

abbrev R2 := V → V → Hp → VK → Prop
/-- a two-place operation on values: f is binaryOp op, inplaceOp op or compareOp op -/
def OpR (X : Cx) (f : Value → Value → Sem Value) (r : R2) : Prop :=
  ∀ (pins : List (Addr × Obj)) (s : Shared) (σ : St) (H : Hp) (x y : V) (v u : Value) (Q : VK), Inv X pins σ H s → RelV x v → RelV y u → r x y H Q →
    wpAny (model X.prog X.w) X.A (f v u) (EP X pins σ Q) X.xe s
/-- a one-place operation -/
def UnR (X : Cx) (f : Value → Sem Value) (r : V → Hp → VK → Prop) : Prop :=
  ∀ (pins : List (Addr × Obj)) (s : Shared) (σ : St) (H : Hp) (x : V) (v : Value) (Q : VK), Inv X pins σ H s → RelV x v → r x H Q →
    wpAny (model X.prog X.w) X.A (f v) (EP X pins σ Q) X.xe s
/-- a call of a value that is known (a builtin, a type) with values -/
def CallR (X : Cx) (f : Value) (r : List V → Hp → VK → Prop) : Prop :=
  ∀ (pins : List (Addr × Obj)) (s : Shared) (σ : St) (H : Hp) (xs : List V) (us : List Value) (Q : VK), Inv X pins σ H s → Vals xs us → r xs H Q →
    wpAny (model X.prog X.w) X.A (call f us) (EP X pins σ Q) X.xe s
/-- a value's truth -/
def TruR (X : Cx) (r : V → Hp → (Bool → Hp → Prop) → Prop) : Prop :=
  ∀ (pins : List (Addr × Obj)) (s : Shared) (σ : St) (H : Hp) (x : V) (v : Value) (Q : Bool → Hp → Prop), Inv X pins σ H s → RelV x v → r x H Q →
    wpAny (model X.prog X.w) X.A (truthy v) (TP X pins σ Q) X.xe s

def tOp (r : R2) (ta tb : TE) : TE := fun σ H Q => ta σ H fun x H1 => tb σ H1 fun y H2 => r x y H2 Q
def tUn (r : V → Hp → VK → Prop) (ta : TE) : TE := fun σ H Q => ta σ H fun x H1 => r x H1 Q
/-- ints in, under C, and a value out -/
def rI (C : Int → Int → Prop) (g : Int → Int → V) : R2 := fun x y H Q => ∃ i j, x = .int i ∧ y = .int j ∧ C i j ∧ Q (g i j) H
def rI0 (g : Int → Int → V) : R2 := fun x y H Q => ∃ i j, x = .int i ∧ y = .int j ∧ Q (g i j) H
def rU (g : Int → V) : V → Hp → VK → Prop := fun x H Q => ∃ i, x = .int i ∧ Q (g i) H

section
variable {X : Cx} {a b c : Expr} {ta tb tc : TE} {pos : Pos}

theorem binT (ha : PE X a ta) (hb : PE X b tb) {pins : List (Addr × Obj)} {s : Shared} {σ : St} {H : Hp} {R : V → V → Hp → Prop} (I : Inv X pins σ H s)
    (h : ta σ H fun x H1 => tb σ H1 fun y H2 => R x y H2) {Q : Value → Shared → Prop} {f : Value → Value → Sem Value}
    (hf : ∀ v u s2 x y H2, Inv X pins σ H2 s2 → RelV x v → RelV y u → R x y H2 → wpAny (model X.prog X.w) X.A (f v u) Q X.xe s2) :
    wpAny (model X.prog X.w) X.A (eval a X.env) (fun v s₁ => wpAny (model X.prog X.w) X.A (eval b X.env) (fun u s₂ => wpAny (model X.prog X.w) X.A (f v u) Q X.xe s₂) X.xe s₁) X.xe s := by
  refine thn (ha pins s σ H _ I h) fun v s1 ⟨x, H1, I1, r1, q1⟩ => ?_
  refine thn (hb pins s1 σ H1 _ I1 q1) fun u s2 ⟨y, H2, I2, r2, q2⟩ => ?_
  exact hf v u s2 x y H2 I2 r1 r2 q2

theorem pe_op {op : Operator} {r : R2} (ho : OpR X (binaryOp op) r) (ha : PE X a ta) (hb : PE X b tb) : PE X (.BinOp a op b pos) (tOp r ta tb) := by
  intro pins s σ H Q I h
  exact wpAny_BinOp (binT ha hb I h fun v u s2 x y H2 I2 rx ry q => ho pins s2 σ H2 x y v u Q I2 rx ry q)
theorem pe_un {op : UnaryOp} {r : V → Hp → VK → Prop} (ho : UnR X (unaryOp op) r) (ha : PE X a ta) : PE X (.UnaryOp op a pos) (tUn r ta) := by
  intro pins s σ H Q I h
  exact UnaryOp_ (thn (ha pins s σ H _ I h) fun v s1 ⟨x, H1, I1, r1, q1⟩ => ho pins s1 σ H1 x v Q I1 r1 q1)
/-- a op= e at a name: the name's slot i -/
theorem augR {op : Operator} {r : R2} (ho : OpR X (inplaceOp op) r) {pins : List (Addr × Obj)} {s : Shared} {σ : St} {H : Hp} {x y : V} {v u : Value} {Q : VK} (I : Inv X pins σ H s)
    (rx : RelV x v) (ry : RelV y u) (q : r x y H Q) : wpAny (model X.prog X.w) X.A (inplaceOp op v u) (EP X pins σ Q) X.xe s := ho pins s σ H x y v u Q I rx ry q

/-! ### ints -/
theorem opI {f : Value → Value → Sem Value} {C : Int → Int → Prop} {g : Int → Int → Int}
    (rule : ∀ (i j : Int) (t u : Tok) (s : Shared) (Q : Value → Shared → Prop) (E : Value → Shared → Prop), C i j → Q (.int (g i j) s.toks) { s with toks := s.toks + 1 } → wpAny (model X.prog X.w) X.A (f (.int i t) (.int j u)) Q E s) :
    OpR X f (rI C fun i j => .int (g i j)) := by
  intro pins s σ H x y v u Q I rx ry h
  obtain ⟨i, j, rfl, rfl, hc, q⟩ := h
  obtain ⟨t, rfl⟩ := rx
  obtain ⟨t', rfl⟩ := ry
  exact rule i j t t' s _ _ hc ⟨.int (g i j), H, I.tok _, ⟨_, rfl⟩, q⟩
theorem opI0 {f : Value → Value → Sem Value} {g : Int → Int → Int}
    (rule : ∀ (i j : Int) (t u : Tok) (s : Shared) (Q : Value → Shared → Prop) (E : Value → Shared → Prop), Q (.int (g i j) s.toks) { s with toks := s.toks + 1 } → wpAny (model X.prog X.w) X.A (f (.int i t) (.int j u)) Q E s) :
    OpR X f (rI0 fun i j => .int (g i j)) := by
  intro pins s σ H x y v u Q I rx ry h
  obtain ⟨i, j, rfl, rfl, q⟩ := h
  obtain ⟨t, rfl⟩ := rx
  obtain ⟨t', rfl⟩ := ry
  exact rule i j t t' s _ _ ⟨.int (g i j), H, I.tok _, ⟨_, rfl⟩, q⟩
theorem opB0 {f : Value → Value → Sem Value} {g : Int → Int → Bool}
    (rule : ∀ (i j : Int) (t u : Tok) (s : Shared) (Q : Value → Shared → Prop) (E : Value → Shared → Prop), Q (.bool (g i j)) s → wpAny (model X.prog X.w) X.A (f (.int i t) (.int j u)) Q E s) :
    OpR X f (rI0 fun i j => .bl (g i j)) := by
  intro pins s σ H x y v u Q I rx ry h
  obtain ⟨i, j, rfl, rfl, q⟩ := h
  obtain ⟨t, rfl⟩ := rx
  obtain ⟨t', rfl⟩ := ry
  exact rule i j t t' s _ _ ⟨.bl (g i j), H, I, rfl, q⟩

def CDiv (i j : Int) : Prop := 0 < j ∧ j < 1073741824
def CDivN (i j : Int) : Prop := j ≠ 0 ∧ j.natAbs < 1073741824
def CPow (i j : Int) : Prop := 0 ≤ j ∧ j ≤ 1000000 ∧ i.natAbs < 2 ^ 64
def CMul (i j : Int) : Prop := (-(2 ^ 64) < i ∧ i < 2 ^ 64) ∨ (-(2 ^ 64) < j ∧ j < 2 ^ 64)
theorem CMul.ok {i j : Int} (h : CMul i j) : IntMulOk i j := by
  rcases h with ⟨h1, h2⟩ | ⟨h1, h2⟩
  · exact .of_left (intBits_le_64 h1 h2)
  · exact .of_right (intBits_le_64 h1 h2)
theorem two_pow_nn (k : Nat) : (0 : Int) ≤ 2 ^ k := by
  rw [two_pow_cast]
  exact Int.natCast_nonneg _

theorem op_add : OpR X (binaryOp .Add) (rI0 fun i j => .int (i + j)) := opI0 fun _ _ _ _ _ _ _ q => add_int q
theorem op_sub : OpR X (binaryOp .Sub) (rI0 fun i j => .int (i - j)) := opI0 fun _ _ _ _ _ _ _ q => sub_int q
theorem op_mul : OpR X (binaryOp .Mult) (rI CMul fun i j => .int (i * j)) := opI fun _ _ _ _ _ _ _ hc q => mul_int q hc.ok
/-- // by a positive divisor -/
theorem op_fdiv : OpR X (binaryOp .FloorDiv) (rI CDiv fun i j => .int (i / j)) := opI fun i j _ _ _ _ _ hc q => by
  have h1 : (0 : Int) < j := hc.1
  have h2 : j < 1073741824 := hc.2
  exact floordiv_int (by omega) (by rw [Int.fdiv_eq_ediv_of_nonneg i (by omega)]; exact q) (.inl (PyProof.noPylong_small (by omega)))
theorem op_fdivN : OpR X (binaryOp .FloorDiv) (rI CDivN fun i j => .int (i.fdiv j)) := opI fun _ _ _ _ _ _ _ hc q => floordiv_int hc.1 q (.inl (PyProof.noPylong_small hc.2))
/-- % by a positive divisor of any size -/
theorem op_mod : OpR X (binaryOp .Mod) (rI (fun _ j => 0 < j) fun i j => .int (i % j)) := opI fun i j _ _ _ _ _ hc q => by
  have h1 : (0 : Int) < j := hc
  exact mod_int' (by omega) (by rw [Int.fmod_eq_emod_of_nonneg i (by omega)]; exact q)
theorem op_modN : OpR X (binaryOp .Mod) (rI (fun _ j => j ≠ 0) fun i j => .int (i.fmod j)) := opI fun _ _ _ _ _ _ _ hc q => mod_int' hc q
theorem op_pow : OpR X (binaryOp .Pow) (rI CPow fun i j => .int (i ^ j.toNat)) := opI fun _ _ _ _ _ _ _ hc q => pow_int_small hc.1 hc.2.1 hc.2.2 q
theorem op_shl : OpR X (binaryOp .LShift) (rI CPow fun i j => .int (i * 2 ^ j.toNat)) := opI fun _ _ _ _ _ _ _ hc q => lshift_int_small hc.1 hc.2.1 hc.2.2 q
theorem op_shr : OpR X (binaryOp .RShift) (rI (fun _ j => 0 ≤ j) fun i j => .int (i / 2 ^ j.toNat)) := opI fun i j _ _ _ _ _ hc q =>
  rshift_int hc (by rw [Int.fdiv_eq_ediv_of_nonneg i (two_pow_nn _)]; exact q)
theorem op_and : OpR X (binaryOp .BitAnd) (rI0 fun i j => .int (Builtin.bitAnd i j)) := opI0 fun _ _ _ _ _ _ _ q => and_int q
theorem op_or : OpR X (binaryOp .BitOr) (rI0 fun i j => .int (Builtin.bitOr i j)) := opI0 fun _ _ _ _ _ _ _ q => or_int q
theorem op_xor : OpR X (binaryOp .BitXor) (rI0 fun i j => .int (Builtin.bitXor i j)) := opI0 fun _ _ _ _ _ _ _ q => xor_int q

theorem iop_add : OpR X (inplaceOp .Add) (rI0 fun i j => .int (i + j)) := opI0 fun _ _ _ _ _ _ _ q => iadd_int q
theorem iop_sub : OpR X (inplaceOp .Sub) (rI0 fun i j => .int (i - j)) := opI0 fun _ _ _ _ _ _ _ q => isub_int q
theorem iop_mul : OpR X (inplaceOp .Mult) (rI CMul fun i j => .int (i * j)) := opI fun _ _ _ _ _ _ _ hc q => imul_int q hc.ok
theorem iop_fdiv : OpR X (inplaceOp .FloorDiv) (rI CDiv fun i j => .int (i / j)) := opI fun i j _ _ _ _ _ hc q => by
  have h1 : (0 : Int) < j := hc.1
  have h2 : j < 1073741824 := hc.2
  exact ifloordiv_int (by omega) (by rw [Int.fdiv_eq_ediv_of_nonneg i (by omega)]; exact q) (.inl (PyProof.noPylong_small (by omega)))
theorem iop_mod : OpR X (inplaceOp .Mod) (rI (fun _ j => 0 < j) fun i j => .int (i % j)) := opI fun i j _ _ _ _ _ hc q => by
  have h1 : (0 : Int) < j := hc
  exact imod_int (by omega) (by rw [Int.fmod_eq_emod_of_nonneg i (by omega)]; exact q)
theorem iop_shl : OpR X (inplaceOp .LShift) (rI CPow fun i j => .int (i * 2 ^ j.toNat)) := opI fun _ _ _ _ _ _ _ hc q => ilshift_int_small hc.1 hc.2.1 hc.2.2 q
theorem iop_shr : OpR X (inplaceOp .RShift) (rI (fun _ j => 0 ≤ j) fun i j => .int (i / 2 ^ j.toNat)) := opI fun i j _ _ _ _ _ hc q =>
  irshift_int hc (by rw [Int.fdiv_eq_ediv_of_nonneg i (two_pow_nn _)]; exact q)
theorem iop_and : OpR X (inplaceOp .BitAnd) (rI0 fun i j => .int (Builtin.bitAnd i j)) := opI0 fun _ _ _ _ _ _ _ q => iand_int q
theorem iop_or : OpR X (inplaceOp .BitOr) (rI0 fun i j => .int (Builtin.bitOr i j)) := opI0 fun _ _ _ _ _ _ _ q => ior_int q
theorem iop_xor : OpR X (inplaceOp .BitXor) (rI0 fun i j => .int (Builtin.bitXor i j)) := opI0 fun _ _ _ _ _ _ _ q => ixor_int q

theorem unI {f : Value → Sem Value} {g : Int → Int}
    (rule : ∀ (i : Int) (t : Tok) (s : Shared) (Q : Value → Shared → Prop) (E : Value → Shared → Prop), Q (.int (g i) s.toks) { s with toks := s.toks + 1 } → wpAny (model X.prog X.w) X.A (f (.int i t)) Q E s) :
    UnR X f (rU fun i => .int (g i)) := by
  intro pins s σ H x v Q I rx h
  obtain ⟨i, rfl, q⟩ := h
  obtain ⟨t, rfl⟩ := rx
  exact rule i t s _ _ ⟨.int (g i), H, I.tok _, ⟨_, rfl⟩, q⟩
theorem un_neg : UnR X (unaryOp .USub) (rU fun i => .int (-i)) := unI fun _ _ _ _ _ q => neg_int q
theorem un_inv : UnR X (unaryOp .Invert) (rU fun i => .int (Builtin.bitNot i)) := unI fun _ _ _ _ _ q => invert_int q

/-! ### bools among ints: n += (a < b) -/
theorem op_add_ib : OpR X (binaryOp .Add) (fun x y H Q => ∃ i k, x = .int i ∧ y = .bl k ∧ Q (.int (i + b2i k)) H) := by
  intro pins s σ H x y v u Q I rx ry h
  obtain ⟨i, k, rfl, rfl, q⟩ := h
  obtain ⟨t, rfl⟩ := rx
  cases ry
  exact add_int_bool ⟨.int (i + b2i k), H, I.tok _, ⟨_, rfl⟩, q⟩
end

/-! ### comparisons -/
/-- the scalars that == tells apart as data does -/
def scal : V → V → Bool
  | .non, .non => true | .non, .int _ => true | .int _, .non => true | .non, .bl _ => true | .bl _, .non => true | .non, .str _ => true | .str _, .non => true
  | .int _, .int _ => true | .bl _, .bl _ => true | .str _, .str _ => true | .byt _, .byt _ => true
  | .int _, .str _ => true | .str _, .int _ => true | .bl _, .str _ => true | .str _, .bl _ => true
  | _, _ => false
def rEq : R2 := fun x y H Q => scal x y = true ∧ Q (.bl (decide (x = y))) H
def rNe : R2 := fun x y H Q => scal x y = true ∧ Q (.bl (!decide (x = y))) H

theorem dec_int {i j : Int} : decide (V.int i = V.int j) = (i == j) := by
  rw [Bool.eq_iff_iff]
  simp
theorem dec_bl {i j : Bool} : decide (V.bl i = V.bl j) = (i == j) := by
  rw [Bool.eq_iff_iff]
  simp
theorem dec_str {i j : Str} : decide (V.str i = V.str j) = (i == j) := by
  rw [Bool.eq_iff_iff]
  simp
theorem dec_byt {i j : Array UInt8} : decide (V.byt i = V.byt j) = (i.toList == j.toList) := by
  rw [Bool.eq_iff_iff]
  cases i
  cases j
  simp

section
variable {X : Cx} {a b c : Expr} {ta tb tc : TE} {pos : Pos}
theorem fin_bl {pins : List (Addr × Obj)} {σ : St} {H : Hp} {s : Shared} {Q : VK} {k k' : Bool} (I : Inv X pins σ H s) (q : Q (.bl k) H) (e : k = k') : EP X pins σ Q (.bool k') s := by
  subst e
  exact ⟨.bl k, H, I, rfl, q⟩
theorem op_eq : OpR X (compareOp .Eq) rEq := by
  intro pins s σ H x y v u Q I rx ry h
  obtain ⟨hs, q⟩ := h
  cases x with
  | non =>
    cases rx
    cases y with
    | non => cases ry; exact PySem.EqNone.eq_none_none (fin_bl I q (by simp))
    | bl j => cases ry; exact PySem.EqNone.eq_none_bool (fin_bl I q (by simp))
    | int j => obtain ⟨t', rfl⟩ := ry; exact PySem.EqNone.eq_none_int (fin_bl I q (by simp))
    | str j => obtain ⟨t', rfl⟩ := ry; exact PySem.EqNone.eq_none_str (fin_bl I q (by simp))
    | _ => exact absurd (show false = true from hs) Bool.false_ne_true
  | bl i =>
    cases rx
    cases y with
    | non => cases ry; exact PySem.EqNone.eq_bool_none (fin_bl I q (by simp))
    | bl j => cases ry; exact eq_bool (fin_bl I q dec_bl)
    | str j => obtain ⟨t', rfl⟩ := ry; exact PySem.EqMixed.eq_bool_str (fin_bl I q (by simp))
    | _ => exact absurd (show false = true from hs) Bool.false_ne_true
  | int i =>
    obtain ⟨t, rfl⟩ := rx
    cases y with
    | non => cases ry; exact PySem.EqNone.eq_int_none (fin_bl I q (by simp))
    | int j => obtain ⟨t', rfl⟩ := ry; exact eq_int (fin_bl I q dec_int)
    | str j => obtain ⟨t', rfl⟩ := ry; exact PySem.EqMixed.eq_int_str (fin_bl I q (by simp))
    | _ => exact absurd (show false = true from hs) Bool.false_ne_true
  | str i =>
    obtain ⟨t, rfl⟩ := rx
    cases y with
    | non => cases ry; exact PySem.EqNone.eq_str_none (fin_bl I q (by simp))
    | bl j => cases ry; exact PySem.EqMixed.eq_str_bool (fin_bl I q (by simp))
    | int j => obtain ⟨t', rfl⟩ := ry; exact PySem.EqMixed.eq_str_int (fin_bl I q (by simp))
    | str j => obtain ⟨t', rfl⟩ := ry; exact eq_str (fin_bl I q dec_str)
    | _ => exact absurd (show false = true from hs) Bool.false_ne_true
  | byt i =>
    obtain ⟨t, rfl⟩ := rx
    cases y with
    | byt j => obtain ⟨t', rfl⟩ := ry; exact PySem.W.eq_bytes (fin_bl I q dec_byt)
    | _ => exact absurd (show false = true from hs) Bool.false_ne_true
  | _ => cases y <;> exact absurd (show false = true from hs) Bool.false_ne_true
theorem op_ne : OpR X (compareOp .NotEq) rNe := by
  intro pins s σ H x y v u Q I rx ry h
  obtain ⟨hs, q⟩ := h
  cases x with
  | non =>
    cases rx
    cases y with
    | non => cases ry; exact PySem.EqNone.ne_none_none (fin_bl I q (by simp))
    | bl j => cases ry; exact PySem.EqNone.ne_none_bool (fin_bl I q (by simp))
    | int j => obtain ⟨t', rfl⟩ := ry; exact PySem.EqNone.ne_none_int (fin_bl I q (by simp))
    | str j => obtain ⟨t', rfl⟩ := ry; exact PySem.EqNone.ne_none_str (fin_bl I q (by simp))
    | _ => exact absurd (show false = true from hs) Bool.false_ne_true
  | bl i =>
    cases rx
    cases y with
    | non => cases ry; exact PySem.EqNone.ne_bool_none (fin_bl I q (by simp))
    | bl j => cases ry; exact ne_bool (fin_bl I q (congrArg not dec_bl))
    | str j => obtain ⟨t', rfl⟩ := ry; exact PySem.EqMixed.ne_bool_str (fin_bl I q (by simp))
    | _ => exact absurd (show false = true from hs) Bool.false_ne_true
  | int i =>
    obtain ⟨t, rfl⟩ := rx
    cases y with
    | non => cases ry; exact PySem.EqNone.ne_int_none (fin_bl I q (by simp))
    | int j => obtain ⟨t', rfl⟩ := ry; exact ne_int (fin_bl I q (congrArg not dec_int))
    | str j => obtain ⟨t', rfl⟩ := ry; exact PySem.EqMixed.ne_int_str (fin_bl I q (by simp))
    | _ => exact absurd (show false = true from hs) Bool.false_ne_true
  | str i =>
    obtain ⟨t, rfl⟩ := rx
    cases y with
    | non => cases ry; exact PySem.EqNone.ne_str_none (fin_bl I q (by simp))
    | bl j => cases ry; exact PySem.EqMixed.ne_str_bool (fin_bl I q (by simp))
    | int j => obtain ⟨t', rfl⟩ := ry; exact PySem.EqMixed.ne_str_int (fin_bl I q (by simp))
    | str j => obtain ⟨t', rfl⟩ := ry; exact ne_str (fin_bl I q (congrArg not dec_str))
    | _ => exact absurd (show false = true from hs) Bool.false_ne_true
  | byt i =>
    obtain ⟨t, rfl⟩ := rx
    cases y with
    | byt j => obtain ⟨t', rfl⟩ := ry; exact PySem.W.ne_bytes (fin_bl I q (congrArg not dec_byt))
    | _ => exact absurd (show false = true from hs) Bool.false_ne_true
  | _ => cases y <;> exact absurd (show false = true from hs) Bool.false_ne_true

theorem op_lt : OpR X (compareOp .Lt) (rI0 fun i j => .bl (decide (i < j))) := opB0 fun _ _ _ _ _ _ _ q => lt_int q
theorem op_le : OpR X (compareOp .LtE) (rI0 fun i j => .bl (decide (i ≤ j))) := opB0 fun _ _ _ _ _ _ _ q => le_int q
theorem op_gt : OpR X (compareOp .Gt) (rI0 fun i j => .bl (decide (j < i))) := opB0 fun _ _ _ _ _ _ _ q => gt_int q
theorem op_ge : OpR X (compareOp .GtE) (rI0 fun i j => .bl (decide (j ≤ i))) := opB0 fun _ _ _ _ _ _ _ q => ge_int q
theorem op_lt_str : OpR X (compareOp .Lt) (fun x y H Q => ∃ i j, x = .str i ∧ y = .str j ∧ Q (.bl (decide (i.cps.toList < j.cps.toList))) H) := by
  intro pins s σ H x y v u Q I rx ry h
  obtain ⟨i, j, rfl, rfl, q⟩ := h
  obtain ⟨t, rfl⟩ := rx
  obtain ⟨t', rfl⟩ := ry
  exact lt_str (fin_bl I q rfl)
/-- the one string within the other -/
theorem op_in_str : OpR X (compareOp .In) (fun x y H Q => ∃ i j, x = .str i ∧ y = .str j ∧ Q (.bl (!(Builtin.Str.occurrences j i 0 j.length 1).isEmpty)) H) := by
  intro pins s σ H x y v u Q I rx ry h
  obtain ⟨i, j, rfl, rfl, q⟩ := h
  obtain ⟨t, rfl⟩ := rx
  obtain ⟨t', rfl⟩ := ry
  exact in_str (fin_bl I q rfl)

/-- is None, is not None: the right side a value none -/
theorem op_isN : OpR X (compareOp .Is) (fun x y H Q => y = .non ∧ Q (.bl (decide (x = .non))) H) := by
  intro pins s σ H x y v u Q I rx ry h
  obtain ⟨rfl, q⟩ := h
  cases ry
  refine is_none_gen (fin_bl I q ?_)
  cases x <;> first
    | (cases rx; rfl)
    | (obtain ⟨t, rfl⟩ := rx; rfl)
theorem op_notN : OpR X (compareOp .IsNot) (fun x y H Q => y = .non ∧ Q (.bl (!decide (x = .non))) H) := by
  intro pins s σ H x y v u Q I rx ry h
  obtain ⟨rfl, q⟩ := h
  cases ry
  refine isnot_none_gen (fin_bl I q ?_)
  cases x <;> first
    | (cases rx; rfl)
    | (obtain ⟨t, rfl⟩ := rx; rfl)

theorem op_notin_str : OpR X (compareOp .NotIn) (fun x y H Q => ∃ i j, x = .str i ∧ y = .str j ∧ Q (.bl (!(!(Builtin.Str.occurrences j i 0 j.length 1).isEmpty))) H) := by
  intro pins s σ H x y v u Q I rx ry h
  obtain ⟨i, j, rfl, rfl, q⟩ := h
  obtain ⟨t, rfl⟩ := rx
  obtain ⟨t', rfl⟩ := ry
  exact notIn_str (fin_bl I q rfl)
/-- is, is not of two objects that are tracked lists or instances -/
def isObj : HO → Bool
  | .lst _ => true
  | .ins _ _ _ => true
  | _ => false
theorem obj_there {pins : List (Addr × Obj)} {s : Shared} {σ : St} {H : Hp} {a : Addr} {o : HO} (I : Inv X pins σ H s) (h : H a = some o) (p : isObj o = true) : ∃ ob, s.heap.get? a = some ob ∧ ob.cls ≠ .type "tuple" := by
  cases o with
  | lst xs =>
    obtain ⟨_, its, n, _, e⟩ : xs.length ≤ sizeLine ∧ ∃ (its : List Value) (n : Nat), Vals xs its ∧ s.heap.get? a = some { cls := .type "list", data := .seq its.toArray n } := I.hok a _ h
    exact ⟨_, e, (by show Value.type "list" ≠ .type "tuple"; decide +kernel)⟩
  | ins C dx fs =>
    have x := I.hok a _ h
    obtain ⟨_, _, _, e, _⟩ := x
    exact ⟨_, e, (by show Value.ref C ≠ .type "tuple"; exact fun z => by cases z)⟩
  | _ => exact absurd (show false = true from p) Bool.false_ne_true
theorem op_is_ref : OpR X (compareOp .Is) (fun x y H Q => ∃ a b oa ob, x = .ref a ∧ y = .ref b ∧ H a = some oa ∧ isObj oa = true ∧ H b = some ob ∧ isObj ob = true ∧ Q (.bl (decide (a = b))) H) := by
  intro pins s σ H x y v u Q I rx ry h
  obtain ⟨a, b, oa, ob, rfl, rfl, ha, pa, hb, pb, q⟩ := h
  cases rx
  cases ry
  obtain ⟨o1, e1, n1⟩ := obj_there I ha pa
  obtain ⟨o2, e2, _⟩ := obj_there I hb pb
  by_cases z : a = b
  · subst z
    exact wpAny_is_ref_self (fin_bl I q (by simp))
  · exact wpAny_is_ref_other z e1 e2 n1 (fin_bl I q (by simp [z]))
theorem op_isnot_ref : OpR X (compareOp .IsNot) (fun x y H Q => ∃ a b oa ob, x = .ref a ∧ y = .ref b ∧ H a = some oa ∧ isObj oa = true ∧ H b = some ob ∧ isObj ob = true ∧ Q (.bl (!decide (a = b))) H) := by
  intro pins s σ H x y v u Q I rx ry h
  obtain ⟨a, b, oa, ob, rfl, rfl, ha, pa, hb, pb, q⟩ := h
  cases rx
  cases ry
  obtain ⟨o1, e1, n1⟩ := obj_there I ha pa
  obtain ⟨o2, e2, _⟩ := obj_there I hb pb
  by_cases z : a = b
  · subst z
    exact wpAny_isNot_ref_self (fin_bl I q (by simp))
  · exact wpAny_isNot_ref_other z e1 e2 n1 (fin_bl I q (by simp [z]))

/-- two rules for one operation: by cases -/
theorem OpR.or {f : Value → Value → Sem Value} {r r' : R2} (h : OpR X f r) (h' : OpR X f r') : OpR X f (fun x y H Q => r x y H Q ∨ r' x y H Q) := by
  intro pins s σ H x y v u Q I rx ry q
  rcases q with q | q
  · exact h pins s σ H x y v u Q I rx ry q
  · exact h' pins s σ H x y v u Q I rx ry q

theorem nomark (b : Expr) {op : CmpOp} (h : op ≠ .In := by decide) (h2 : op ≠ .NotIn := by decide) : behindInMarks op b = false := by
  have e1 : (op == CmpOp.In) = false := by cases op <;> first | rfl | exact absurd rfl h
  have e2 : (op == CmpOp.NotIn) = false := by cases op <;> first | rfl | exact absurd rfl h2
  cases b <;> simp [behindInMarks, e1, e2]
/-- a comparison as a value; hm: nomark b, or (for in, not in) by with_unfolding_all rfl -/
theorem pe_cmpR {op : CmpOp} {r : R2} (ho : OpR X (compareOp op) r) (ha : PE X a ta) (hb : PE X b tb) (hm : behindInMarks op b = false) : PE X (.Compare a [op] [b] pos) (tOp r ta tb) := by
  intro pins s σ H Q I h
  exact wpAny_Compare1 (binT ha hb I h fun v u s2 x y H2 I2 rx ry q => ho pins s2 σ H2 x y v u Q I2 rx ry q) hm
/-- a reading of a value as a test -/
def tTest (t : TE) : TT := fun σ H Q => t σ H fun x H' => ∃ k, x = .bl k ∧ Q k H'
theorem pt_cmpR {op : CmpOp} {r : R2} (ho : OpR X (compareOp op) r) (ha : PE X a ta) (hb : PE X b tb) (hm : behindInMarks op b = false) : PT X (.Compare a [op] [b] pos) (tTest (tOp r ta tb)) := by
  intro pins s σ H Q I h
  refine wpAny_isTrue_Compare1 (thn (ha pins s σ H _ I h) fun v s1 ⟨x, H1, I1, r1, q1⟩ => thn (hb pins s1 σ H1 _ I1 q1) fun u s2 ⟨y, H2, I2, r2, q2⟩ =>
    thn (ho pins s2 σ H2 x y v u _ I2 r1 r2 q2) fun c s3 ⟨z, H3, I3, r3, k, e, q3⟩ => ?_) hm
  subst e
  cases r3
  exact wpAny_truthy_bool ⟨H3, I3, q3⟩
/-- a op1 b op2 c -/
def tChain (r r' : R2) (ta tb tc : TE) : TE := fun σ H Q => ta σ H fun x H1 => tb σ H1 fun y H2 => r x y H2 fun z H3 => ∃ k, z = .bl k ∧
  (if k = true then tc σ H3 fun w' H4 => r' y w' H4 Q else Q (.bl false) H3)
theorem pe_chain {op op' : CmpOp} {r r' : R2} (ho : OpR X (compareOp op) r) (ho' : OpR X (compareOp op') r') (ha : PE X a ta) (hb : PE X b tb) (hc : PE X c tc)
    (hm : lastMarks [op, op'] [b, c] = false := by with_unfolding_all rfl) : PE X (.Compare a [op, op'] [b, c] pos) (tChain r r' ta tb tc) := by
  intro pins s σ H Q I h
  refine Compare_chain (thn (ha pins s σ H _ I h) fun v s1 ⟨x, H1, I1, r1, q1⟩ => chain_link (thn (hb pins s1 σ H1 _ I1 q1) fun u s2 ⟨y, H2, I2, r2, q2⟩ =>
    thn (ho pins s2 σ H2 x y v u _ I2 r1 r2 q2) fun d s3 ⟨z, H3, I3, r3, k, e, q3⟩ => ?_)) hm
  subst e
  cases r3
  refine wpAny_truthy_bool ?_
  cases k with
  | false => exact ite_ff ⟨.bl false, H3, I3, rfl, q3⟩
  | true => exact ite_tt (chain_last (thn (hc pins s3 σ H3 _ I3 q3) fun w' s4 ⟨z', H4, I4, r4, q4⟩ => ho' pins s4 σ H4 y z' u w' Q I4 r2 r4 q4))
theorem pt_chain {op op' : CmpOp} {r r' : R2} (ho : OpR X (compareOp op) r) (ho' : OpR X (compareOp op') r') (ha : PE X a ta) (hb : PE X b tb) (hc : PE X c tc)
    (hm : lastMarks [op, op'] [b, c] = false := by with_unfolding_all rfl) : PT X (.Compare a [op, op'] [b, c] pos) (tTest (tChain r r' ta tb tc)) := by
  intro pins s σ H Q I h
  refine isTrue_chain (thn (ha pins s σ H _ I h) fun v s1 ⟨x, H1, I1, r1, q1⟩ => test_link (thn (hb pins s1 σ H1 _ I1 q1) fun u s2 ⟨y, H2, I2, r2, q2⟩ =>
    thn (ho pins s2 σ H2 x y v u _ I2 r1 r2 q2) fun d s3 ⟨z, H3, I3, r3, k, e, q3⟩ => ?_)) hm
  subst e
  cases r3
  refine wpAny_truthy_bool ?_
  cases k with
  | false =>
    obtain ⟨k', e', q'⟩ := q3
    cases e'
    exact ite_ff ⟨H3, I3, q'⟩
  | true =>
    refine ite_tt (test_last (thn (hc pins s3 σ H3 _ I3 q3) fun w' s4 ⟨z', H4, I4, r4, q4⟩ => thn (ho' pins s4 σ H4 y z' u w' _ I4 r2 r4 q4) fun d' s5 ⟨z2, H5, I5, r5, k2, e2, q5⟩ => ?_))
    subst e2
    cases r5
    exact wpAny_truthy_bool ⟨H5, I5, q5⟩

/-! ### truth -/
/-- a value's truth by the abstract heap -/
def TruV (K : PySem.W.Frag) (x : V) (H : Hp) (k : Bool) : Prop :=
  match x with
  | .non => k = false
  | .bl b => k = b
  | .int i => k = (i != 0)
  | .str y => y.length ≤ sizeLine ∧ k = ((y.length : Int) != 0)
  | .byt y => y.size ≤ sizeLine ∧ k = ((y.size : Int) != 0)
  | .ref p => (∃ xs, SqL K H p xs ∧ k = !xs.isEmpty) ∨ (∃ xs, SqT K H p xs ∧ k = !xs.isEmpty) ∨ ∃ kvs, H p = some (.dK kvs) ∧ k = !kvs.isEmpty
  | _ => False
theorem isEmpty_kv {κ : Type} {kvs : List (κ × V)} {vs : List (κ × Value)} (r : KV kvs vs) : (!vs.isEmpty) = !kvs.isEmpty := by
  cases r <;> rfl
theorem isEmpty_of {xs : List V} {its : List Value} (r : Vals xs its) : (!its.toArray.isEmpty) = !xs.isEmpty := by
  cases r <;> simp
theorem line63 : (sizeLine : Nat) < 2 ^ 63 := by rw [sizeLine_eq]; decide
theorem tru_ok : TruR X (fun x H Q => ∃ k, TruV X.K x H k ∧ Q k H) := by
  intro pins s σ H x v Q I rx h
  obtain ⟨k, e, q⟩ := h
  have hl := line63
  have hs : sizeLine = 16777216 := sizeLine_eq
  cases x with
  | non =>
    cases rx
    have e' : k = false := e
    subst e'
    exact truthy_none ⟨H, I, q⟩
  | bl b =>
    cases rx
    have e' : k = b := e
    subst e'
    exact wpAny_truthy_bool ⟨H, I, q⟩
  | int i =>
    obtain ⟨t, rfl⟩ := rx
    have e' : k = (i != 0) := e
    subst e'
    exact PySem.P.truthy_int ⟨H, I, q⟩
  | str y =>
    obtain ⟨t, rfl⟩ := rx
    obtain ⟨hy, e'⟩ : y.length ≤ sizeLine ∧ k = ((y.length : Int) != 0) := e
    subst e'
    exact PySem.P.truthy_str (by omega) ⟨H, I.tok _, q⟩
  | byt y =>
    obtain ⟨t, rfl⟩ := rx
    obtain ⟨hy, e'⟩ : y.size ≤ sizeLine ∧ k = ((y.size : Int) != 0) := e
    subst e'
    exact PySem.W.truthy_bytes (by omega) ⟨H, I.tok _, q⟩
  | ref p =>
    cases rx
    have e' : (∃ xs, SqL X.K H p xs ∧ k = !xs.isEmpty) ∨ (∃ xs, SqT X.K H p xs ∧ k = !xs.isEmpty) ∨ ∃ kvs, H p = some (.dK kvs) ∧ k = !kvs.isEmpty := e
    rcases e' with ⟨xs, hx, e'⟩ | ⟨xs, hx, e'⟩ | ⟨kvs, hx, e'⟩
    · subst e'
      obtain ⟨its, r, pl, hz⟩ := I.list hx
      have hlen := r.length
      exact wpAny_truthy_list pl.isList (by simp only [List.size_toArray]; omega) ⟨H, I.tok _, by rw [isEmpty_of r]; exact q⟩
    · subst e'
      obtain ⟨its, r, pl, hz⟩ := I.tuple hx
      have hlen := r.length
      exact truthy_tuple pl (by simp only [List.size_toArray]; omega) ⟨H, I.tok _, by rw [isEmpty_of r]; exact q⟩
    · subst e'
      obtain ⟨hz, hS, vs, r, m⟩ : kvs.length ≤ sizeLine ∧ (p == sysModules) = false ∧ ∃ vs, KV kvs vs ∧ s.heap.DictOf (mixKind X.prog X.w) p vs := I.hok p _ hx
      have hlen : kvs.length = vs.length := Paired.length r
      exact wpAny_truthy_dict hS m (by omega) ⟨H, I.tok _, by rw [isEmpty_kv r]; exact q⟩
  | _ => exact (show False from e).elim
/-- any expression whose test is its value's truth (a name, a call, a subscript, a field ..: he by fun _ => rfl) -/
theorem pt_truth (ha : PE X a ta) (he : ∀ whole, isTrue a X.env whole = (do let v ← whole; standAt a.pos; holding [v] (truthy v))) :
    PT X a (fun σ H Q => ta σ H fun x H' => ∃ k, TruV X.K x H' k ∧ Q k H') := by
  intro pins s σ H Q I h
  exact isTrue_plain (thn (ha pins s σ H _ I h) fun v s1 ⟨x, H1, I1, r1, q1⟩ => tru_ok pins s1 σ H1 x v Q I1 r1 q1) (he _)

/-! ### strs and bytes -/
theorem pe_byt {x : List UInt8} {k : Nat} : PE X (.Constant (.bytes x) k pos) (fun _ H Q => Q (.byt x.toArray) H) := fun _ _ _ H _ I h => PySem.W.Constant_bytes ⟨.byt x.toArray, H, I.tok _, ⟨_, rfl⟩, h⟩
theorem op_add_str : OpR X (binaryOp .Add) (fun x y H Q => ∃ i j, x = .str i ∧ y = .str j ∧ i.length + j.length ≤ sizeLine ∧ Q (.str (i ++ j)) H) := by
  intro pins s σ H x y v u Q I rx ry h
  obtain ⟨i, j, rfl, rfl, hz, q⟩ := h
  obtain ⟨t, rfl⟩ := rx
  obtain ⟨t', rfl⟩ := ry
  exact add_str (fun t' tk => ⟨.str (i ++ j), H, I.tok _, ⟨_, rfl⟩, q⟩) hz
theorem iop_add_str : OpR X (inplaceOp .Add) (fun x y H Q => ∃ i j, x = .str i ∧ y = .str j ∧ i.length + j.length ≤ sizeLine ∧ Q (.str (i ++ j)) H) := by
  intro pins s σ H x y v u Q I rx ry h
  obtain ⟨i, j, rfl, rfl, hz, q⟩ := h
  obtain ⟨t, rfl⟩ := rx
  obtain ⟨t', rfl⟩ := ry
  exact iadd_str (fun t' tk => ⟨.str (i ++ j), H, I.tok _, ⟨_, rfl⟩, q⟩) hz
theorem op_add_byt : OpR X (binaryOp .Add) (fun x y H Q => ∃ i j, x = .byt i ∧ y = .byt j ∧ i.size + j.size ≤ 16777216 ∧ Q (.byt (i ++ j)) H) := by
  intro pins s σ H x y v u Q I rx ry h
  obtain ⟨i, j, rfl, rfl, hz, q⟩ := h
  obtain ⟨t, rfl⟩ := rx
  obtain ⟨t', rfl⟩ := ry
  exact PySem.W.KBy.add_bytes hz (fun t' tk => ⟨.byt (i ++ j), H, I.tok _, ⟨_, rfl⟩, q⟩)

def PlainIxT (b : Expr) : Prop := ∀ o i, subscripted b false o i = operate [o, i] (getItem o i)
/-- s[i], 0 ≤ i < len -/
theorem pe_item_str (ha : PE X a ta) (hb : PE X b tb) (hs : PlainIxT b) :
    PE X (.Subscript a b pos) (tOp (fun x y H Q => ∃ z i c, x = .str z ∧ y = .int i ∧ 0 ≤ i ∧ i < 2 ^ 63 ∧ i < z.length ∧ z.cps[i.toNat]? = some c ∧ Q (.str ⟨#[c]⟩) H) ta tb) := by
  intro pins s σ H Q I h
  refine Subscript_ (binT ha hb I h fun v u s2 x y H2 I2 rx ry q => ?_)
  obtain ⟨z, i, c, rfl, rfl, h0, h63, h1, hc, q⟩ := q
  obtain ⟨t, rfl⟩ := rx
  obtain ⟨t', rfl⟩ := ry
  have e : seqIndex? i z.length = some i.toNat := PySem.StrLaws.seqIndex_nonneg h0 h1
  exact tail_any (typeIs_str s2 z t) slot_str_getitem.lookup (getItem_str (c := c) (by
    have e1 : decide (i < -(2 ^ 63 : Int)) = false := decide_eq_false (by omega)
    have e2 : decide (i ≥ 2 ^ 63) = false := decide_eq_false (by omega)
    rw [e1, e2] <;> rfl) (by rw [e]; exact hc) ⟨.str ⟨#[c]⟩, H2, I2.tok _, ⟨_, rfl⟩, q⟩) (hs _ _)
/-- b[i], 0 ≤ i < len -/
theorem pe_item_byt (ha : PE X a ta) (hb : PE X b tb) (hs : PlainIxT b) :
    PE X (.Subscript a b pos) (tOp (fun x y H Q => ∃ (z : List UInt8) (i : Int), x = .byt z.toArray ∧ y = .int i ∧ z.length ≤ sizeLine ∧ 0 ≤ i ∧ i < z.length ∧ Q (.int ((z.getD i.toNat 0).toNat : Nat)) H) ta tb) := by
  intro pins s σ H Q I h
  refine Subscript_ (binT ha hb I h fun v u s2 x y H2 I2 rx ry q => ?_)
  obtain ⟨z, i, rfl, rfl, hz, h0, h1, q⟩ := q
  obtain ⟨t, rfl⟩ := rx
  obtain ⟨t', rfl⟩ := ry
  have hl : sizeLine = 16777216 := sizeLine_eq
  exact tail_any (PySem.W.typeIs_bytes s2 z.toArray t) PySem.W.FB.slot_bytes_getitem.lookup (PySem.W.getItem_bytes (by omega) h0 h1 ⟨.int ((z.getD i.toNat 0).toNat : Nat), H2, I2.tok _, ⟨_, rfl⟩, q⟩) (hs _ _)

/-! ### scalar builtins, by CallR -/
theorem vals1 {x : V} {us : List Value} (r : Vals [x] us) : ∃ u, us = [u] ∧ RelV x u := by
  cases r with
  | cons r1 r2 => cases r2; exact ⟨_, rfl, r1⟩
theorem vals2 {x y : V} {us : List Value} (r : Vals [x, y] us) : ∃ u w', us = [u, w'] ∧ RelV x u ∧ RelV y w' := by
  cases r with
  | cons r1 r2 =>
    cases r2 with
    | cons r3 r4 => cases r4; exact ⟨_, _, rfl, r1, r3⟩
theorem call_abs : CallR X (.builtin "abs") (fun xs H Q => ∃ i, xs = [.int i] ∧ Q (.int (if i < 0 then -i else i)) H) := by
  intro pins s σ H xs us Q I r h
  obtain ⟨i, rfl, q⟩ := h
  obtain ⟨u, rfl, t, rfl⟩ := vals1 r
  exact call_abs_int fun u tk => ⟨.int (if i < 0 then -i else i), H, I.tok _, ⟨_, rfl⟩, q⟩
theorem call_max2 (hc : X.calm = true) : CallR X (.builtin "max") (fun xs H Q => ∃ i j, xs = [.int i, .int j] ∧ Q (.int (if j > i then j else i)) H) := by
  intro pins s σ H xs us Q I r h
  obtain ⟨i, j, rfl, q⟩ := h
  obtain ⟨u, w', rfl, ⟨t, rfl⟩, ⟨t', rfl⟩⟩ := vals2 r
  refine max_two_ints (I.ok.hd hc) fun h' tk k => ⟨_, H, I.kept k, ?_, q⟩
  by_cases hj : j > i
  · rw [if_pos hj, if_pos hj]; exact ⟨_, rfl⟩
  · rw [if_neg hj, if_neg hj]; exact ⟨_, rfl⟩
theorem call_min2 (hc : X.calm = true) : CallR X (.builtin "min") (fun xs H Q => ∃ i j, xs = [.int i, .int j] ∧ Q (.int (if j < i then j else i)) H) := by
  intro pins s σ H xs us Q I r h
  obtain ⟨i, j, rfl, q⟩ := h
  obtain ⟨u, w', rfl, ⟨t, rfl⟩, ⟨t', rfl⟩⟩ := vals2 r
  refine min_two_ints (I.ok.hd hc) fun h' tk k => ⟨_, H, I.kept k, ?_, q⟩
  by_cases hj : j < i
  · rw [if_pos hj, if_pos hj]; exact ⟨_, rfl⟩
  · rw [if_neg hj, if_neg hj]; exact ⟨_, rfl⟩
theorem call_int1 : CallR X (.type "int") (fun xs H Q => (∃ i, xs = [.int i] ∧ Q (.int i) H) ∨ ∃ k, xs = [.bl k] ∧ Q (.int (if k then 1 else 0)) H) := by
  intro pins s σ H xs us Q I r h
  rcases h with ⟨i, rfl, q⟩ | ⟨k, rfl, q⟩
  · obtain ⟨u, rfl, t, rfl⟩ := vals1 r
    exact call_int_int ⟨.int i, H, I, ⟨_, rfl⟩, q⟩
  · obtain ⟨u, rfl, r1⟩ := vals1 r
    cases r1
    exact call_int_bool ⟨.int (if k then 1 else 0), H, I.tok _, ⟨_, rfl⟩, q⟩
theorem call_bool1 : CallR X (.type "bool") (fun xs H Q => (∃ i, xs = [.int i] ∧ Q (.bl (i != 0)) H) ∨ ∃ k, xs = [.bl k] ∧ Q (.bl k) H) := by
  intro pins s σ H xs us Q I r h
  rcases h with ⟨i, rfl, q⟩ | ⟨k, rfl, q⟩
  · obtain ⟨u, rfl, t, rfl⟩ := vals1 r
    exact call_bool_int ⟨.bl (i != 0), H, I, rfl, q⟩
  · obtain ⟨u, rfl, r1⟩ := vals1 r
    cases r1
    exact call_bool_bool ⟨.bl k, H, I, rfl, q⟩
theorem call_str_int : CallR X (.type "str") (fun xs H Q => ∃ i, xs = [.int i] ∧ i.natAbs.log2 < 1920 ∧ Q (.str (toString i)) H) := by
  intro pins s σ H xs us Q I r h
  obtain ⟨i, rfl, hz, q⟩ := h
  obtain ⟨u, rfl, t, rfl⟩ := vals1 r
  exact PySem.P.str_of_int hz ⟨.str _, H, I.tok _, ⟨_, rfl⟩, q⟩
theorem call_ord : CallR X (.builtin "ord") (fun xs H Q => ∃ x, xs = [.str x] ∧ x.length = 1 ∧ Q (.int (x.cps.getD 0 0 : Nat)) H) := by
  intro pins s σ H xs us Q I r h
  obtain ⟨x, rfl, hz, q⟩ := h
  obtain ⟨u, rfl, t, rfl⟩ := vals1 r
  exact ord_of_one hz ⟨.int _, H, I.tok _, ⟨_, rfl⟩, q⟩
theorem call_chr : CallR X (.builtin "chr") (fun xs H Q => ∃ i, xs = [.int i] ∧ 0 ≤ i ∧ i ≤ 1114111 ∧ Q (.str ⟨#[i.toNat]⟩) H) := by
  intro pins s σ H xs us Q I r h
  obtain ⟨i, rfl, h0, h1, q⟩ := h
  obtain ⟨u, rfl, t, rfl⟩ := vals1 r
  exact chr_of_range h0 h1 ⟨.str _, H, I.tok _, ⟨_, rfl⟩, q⟩
/-- len of a str, a bytes, a list, a tuple -/
def LenV (K : PySem.W.Frag) (x : V) (H : Hp) (n : Nat) : Prop :=
  match x with
  | .str y => y.length ≤ sizeLine ∧ n = y.length
  | .byt y => y.size ≤ sizeLine ∧ n = y.size
  | .ref p => (∃ xs, SqL K H p xs ∧ n = xs.length) ∨ ∃ xs, SqT K H p xs ∧ n = xs.length
  | _ => False
theorem call_len : CallR X (.builtin "len") (fun xs H Q => ∃ x n, xs = [x] ∧ LenV X.K x H n ∧ Q (.int n) H) := by
  intro pins s σ H xs us Q I r h
  obtain ⟨x, n, rfl, e, q⟩ := h
  obtain ⟨u, rfl, rx⟩ := vals1 r
  have hl := line63
  have hs : sizeLine = 16777216 := sizeLine_eq
  cases x with
  | str y =>
    obtain ⟨t, rfl⟩ := rx
    obtain ⟨hy, e'⟩ : y.length ≤ sizeLine ∧ n = y.length := e
    subst e'
    exact len_str (by omega) ⟨.int _, H, I.tok _, ⟨_, rfl⟩, q⟩
  | byt y =>
    obtain ⟨t, rfl⟩ := rx
    obtain ⟨hy, e'⟩ : y.size ≤ sizeLine ∧ n = y.size := e
    subst e'
    exact PySem.W.len_bytes (by omega) ⟨.int _, H, I.tok _, ⟨_, rfl⟩, q⟩
  | ref p =>
    cases rx
    have e' : (∃ xs, SqL X.K H p xs ∧ n = xs.length) ∨ ∃ xs, SqT X.K H p xs ∧ n = xs.length := e
    rcases e' with ⟨xs, hx, e'⟩ | ⟨xs, hx, e'⟩
    · subst e'
      obtain ⟨its, r', pl, hz⟩ := I.list hx
      have hlen := r'.length
      exact Calls.call_len_list pl.isList (by simp only [List.size_toArray]; omega) ⟨.int xs.length, H, I.tok _, ⟨_, by simp only [List.size_toArray]; rw [hlen]⟩, q⟩
    · subst e'
      obtain ⟨its, r', pl, hz⟩ := I.tuple hx
      have hlen := r'.length
      exact len_tuple pl (by simp only [List.size_toArray]; omega) ⟨.int xs.length, H, I.tok _, ⟨_, by simp only [List.size_toArray]; rw [hlen]⟩, q⟩
  | _ => exact (show False from e).elim
/-- divmod: a new tuple -/
theorem call_divmod : CallR X (.builtin "divmod") (fun xs H Q => ∃ i j, xs = [.int i, .int j] ∧ CDiv i j ∧ ∀ p, H p = none → Q (.ref p) (upd H p (.tup [.int (i / j), .int (i % j)]))) := by
  intro pins s σ H xs us Q I r h
  obtain ⟨i, j, rfl, ⟨h1, h2⟩, q⟩ := h
  obtain ⟨u, w', rfl, ⟨t, rfl⟩, ⟨t', rfl⟩⟩ := vals2 r
  refine divmod_int (by omega) ?_ (.inl (PyProof.noPylong_small (by omega)))
  rw [Int.fdiv_eq_ediv_of_nonneg i (by omega), Int.fmod_eq_emod_of_nonneg i (by omega)]
  have hn : H s.heap.objs.size = none := I.hok.fresh (Nat.le_refl _)
  refine ⟨.ref s.heap.objs.size, _, ?_, rfl, q _ hn⟩
  refine I.laid (fun b o e => Heap.get?_push_of_some _ e) (Nat.le_refl _) ⟨by simp only [List.length_cons, List.length_nil]; rw [sizeLine_eq]; decide, [.int (i / j) s.toks, .int (i % j) (s.toks + 1)], .cons ⟨_, rfl⟩ (.cons ⟨_, rfl⟩ .nil), ?_⟩
  exact ⟨_, Heap.get?_push_size s.heap rfl, rfl, 0, rfl⟩
end
end L2

namespace L2
open PySem PySem.Spec PyProof.Rows

/-! ### an instance, its attributes a map -/
structure ObjM (h : Heap) (x dx C : Addr) (mA : Str → Option Value) : Prop where
  obj : h.get? x = some (PySem.W.instObj C dx)
  ns : h.Ns1 dx mA
  ne : dx ≠ x

theorem lookIn_ns {h : Heap} {dx : Addr} {mA : Str → Option Value} (n : h.Ns1 dx mA) : ∃ od, h.get? dx = some od ∧ ∀ name, PySem.W.lookIn name od = some (mA name) := by
  obtain ⟨o, es, ep, ho, hd, hk, _, hm⟩ := n
  refine ⟨o, ho, fun name => ?_⟩
  have e := hm name
  unfold nsFind findBy at e
  rw [← Array.find?_toList] at e
  unfold PySem.W.lookIn
  rw [hd]
  dsimp only
  split
  · rename_i y q
    rw [q] at e
    exact congrArg some e
  · rename_i q
    rw [q] at e
    have a : es.toList.any (·.refKey) = false := by
      rw [List.any_eq_false]
      intro y hy
      obtain ⟨z, t, hkey⟩ := hk y (Array.mem_toList_iff.mp hy)
      simp [DictEntry.refKey, hkey]
    have a' : ¬ es.toList.any (·.refKey) = true := by rw [a]; exact Bool.false_ne_true
    rw [if_neg a']
    exact congrArg some e

theorem ObjM.look {h : Heap} {x dx C : Addr} {mA : Str → Option Value} (I : ObjM h x dx C mA) : ∃ od, PySem.W.InstAt h x (PySem.W.instObj C dx) C (some od) ∧ ∀ name, PySem.W.lookIn name od = some (mA name) :=
  let ⟨od, ho, hl⟩ := lookIn_ns I.ns
  ⟨od, ⟨I.obj, rfl, rfl, ho⟩, hl⟩

section
variable {prog : Program} {w : World} {A : Around} {E : Value → Shared → Prop} {s : Shared} {K : PySem.W.Frag} {x dx C f : Addr} {mA : Str → Option Value} {name : Str} {v : Value}

theorem get_map {expr : Bool} {Q : Value → Shared → Prop} (X : K.In s.heap) (I : ObjM s.heap x dx C mA) (hg : PySem.W.plainGet K C name = true) (hh : PySem.W.hasDictIn K C = true)
    (ha : PySem.W.findIn K (.ref C) name = some none) (hv : mA name = some v) (hv' : PySem.W.handedIn v = true) (h : Q v { s with toks := s.toks + 1 }) :
    wpAny (model prog w) A (getAttr (.ref x) name expr) Q E s := by
  obtain ⟨od, J, hl⟩ := I.look
  exact PySem.W.get_value X J (PySem.W.plainGet_of hg).1 (PySem.W.findObj_own hh ha rfl (by rw [hl, hv])) hv' h

theorem get_const {expr : Bool} {a : Value} {Q : Value → Shared → Prop} (X : K.In s.heap) (I : ObjM s.heap x dx C mA) (hg : PySem.W.plainGet K C name = true) (hh : PySem.W.hasDictIn K C = true)
    (ha : PySem.W.findIn K (.ref C) name = some (some a)) (hn : PySem.W.specialIn K a "__get__" = some none) (hc : PySem.W.copiedNames.contains name = false) (hv : mA name = none) (hv' : PySem.W.handedIn a = true)
    (h : Q a { s with toks := s.toks + 1 }) : wpAny (model prog w) A (getAttr (.ref x) name expr) Q E s := by
  obtain ⟨od, J, hl⟩ := I.look
  exact PySem.W.get_value X J (PySem.W.plainGet_of hg).1 (PySem.W.findObj_cls hh ha hn hv' hc (by rw [hl, hv])) hv' h

theorem get_meth {pl : Sem Bool} {Q : Value × List Value → Shared → Prop} (X : K.In s.heap) (I : ObjM s.heap x dx C mA) (hg : PySem.W.plainGet K C name = true)
    (hf : PySem.W.findIn K (.ref C) name = some (some (.ref f))) (ht : PySem.W.isFn K (.ref f) = true) (hv : mA name = none) (h : Q (.ref f, [.ref x]) s) :
    wpAny (model prog w) A (getMethod (.ref x) name pl) Q E s := by
  obtain ⟨od, J, hl⟩ := I.look
  exact PySem.W.method_fn X J (PySem.W.plainGet_of hg).1 (PySem.W.plainGet_of hg).2 hf (beq_iff_eq.mp ht) (by show (PySem.W.lookIn name od).map (·.isSome) = some false; rw [hl, hv]; rfl) h

theorem set_map {ns : List Str} {Q : Unit → Shared → Prop} (X : K.In s.heap) (I : ObjM s.heap x dx C mA)
    (hs : PySem.W.findIn K (.ref C) "__setattr__" = some (some (.builtin "object.__setattr__"))) (hp : PySem.W.plainOver K C = true) (ht : PySem.W.takerIn K C name = some none) (hh : PySem.W.hasDictIn K C = true)
    (hw : PySem.Within mA ns) (hsz : ns.length ≤ sizeLine)
    (h : ∀ h', ObjM h' x dx C (fun y => if y = name then some v else mA y) → Heap.SameBut dx s.heap h' → Q () { s with heap := h', toks := s.toks + 2 }) :
    wpAny (model prog w) A (setAttr (.ref x) name v) Q E s := by
  obtain ⟨od, J, hl⟩ := I.look
  refine PySem.W.set_plain X J hs (PySem.W.osa_open (s := { s with toks := s.toks + 1 }) (r := none) X J hp ht fun b => ?_)
  obtain ⟨cd, hc, hd'⟩ := PySem.W.any_some hh
  have hx : s.heap.get? x = some ⟨.ref C, some dx, .plain, #[]⟩ := I.obj
  refine wpAny_bind (wpAny_pure (wpAny_bind (wpAny_bind (wpAny_loadPart hx (wpAny_bind (PySem.W.Looks.here (s := { s with toks := s.toks + 1 }) (PySem.W.looks_clsIn X hc) ?_))))))
  rw [hd']
  refine wpAny_pure (a := some dx) (wpAny_bind (wpAny_pure (wpAny_bind ?_)))
  refine wpAny_nsSet1 (s := { s with toks := s.toks + 1 }) I.ns fun h' hn2 hs2 => ?_
  obtain ⟨oD, esD, epD, hoD, hdD, hcD⟩ := hn2.count (PySem.Within.cons name v hw)
  refine wpAny_bind (wpAny_lookBehind hoD (by rw [hdD]; exact pastItsLine_dict (Nat.le_trans hcD (by rw [List.length_cons]; omega))) ?_)
  exact wpAny_pure (h _ ⟨(hs2.2 _ (Ne.symm I.ne)).trans I.obj, hn2, I.ne⟩ hs2)

/-- C(..): the dict at the heap's end, the instance behind it; then its __init__ -/
theorem make_map {R : Result → Shared → Prop} {vs : List Value} {kw : List (Str × Value)} (X : K.In s.heap) (hm : PySem.W.makesIn K C = true)
    (hi : PySem.W.findIn K (.ref C) "__init__" = some (some (.ref f))) (hf : PySem.W.typeIn K (.ref f) = some (.type "function"))
    (h : codeAny (model prog w) (A.under (.builtin "type.__call__" ⟨.ref C :: vs, kw⟩)) (.call (.ref f) ⟨.ref (s.heap.objs.size + 1) :: vs, kw⟩) (PySem.W.InitBack (s.heap.objs.size + 1) R)
      { s with heap := (s.heap.push PySem.W.emptyDict).push (PySem.W.instObj C s.heap.objs.size) }) :
    codeAny (model prog w) A (.call (.ref C) ⟨vs, kw⟩) R s := by
  obtain ⟨hh, g, d, t, os⟩ := s
  exact PySem.W.make_core (PySem.W.makes_of X hm) (PySem.W.looks_findIn X hi) (fun self => PySem.W.bind_fn X self hf) (.inl rfl) h
/-- C() where there is no __init__ but object's -/
theorem make_map0 {R : Result → Shared → Prop} (X : K.In s.heap) (hm : PySem.W.makesIn K C = true)
    (hi : PySem.W.findIn K (.ref C) "__init__" = some (some (.builtin "object.__init__")))
    (hb : ∀ self, PySem.W.Looks (model prog w) s.heap (bindSpecial (.builtin "object.__init__") self) (.builtin "object.__init__", [self]))
    (h : codeAny (model prog w) (A.under (.builtin "type.__call__" ⟨[.ref C], []⟩)) (.call (.builtin "object.__init__") ⟨[.ref (s.heap.objs.size + 1)], []⟩) (PySem.W.InitBack (s.heap.objs.size + 1) R)
      { s with heap := (s.heap.push PySem.W.emptyDict).push (PySem.W.instObj C s.heap.objs.size) }) :
    codeAny (model prog w) A (.call (.ref C) ⟨[], []⟩) R s := by
  obtain ⟨hh, g, d, t, os⟩ := s
  exact PySem.W.make_core (PySem.W.makes_of X hm) (PySem.W.looks_findIn X hi) hb (.inr ⟨rfl, rfl⟩) h
end

/-! ### the attributes as a list of pairs -/
def putF (f : Str) (v : V) : List (Str × V) → List (Str × V)
  | [] => [(f, v)]
  | (g, x) :: r => if g = f then (g, v) :: r else (g, x) :: putF f v r
theorem lookup_putF (f g : Str) (v : V) : ∀ fs : List (Str × V), (putF f v fs).lookup g = if g = f then some v else fs.lookup g
  | [] => by
    show List.lookup g [(f, v)] = _
    by_cases h : g = f
    · have hb : (g == f) = true := beq_iff_eq.mpr h
      simp only [List.lookup, hb, if_pos h]
    · have hb : (g == f) = false := beq_eq_false_iff_ne.mpr h
      simp only [List.lookup, hb, if_neg h]
  | (k, x) :: r => by
    have ih := lookup_putF f g v r
    rw [show putF f v ((k, x) :: r) = (if k = f then (k, v) :: r else (k, x) :: putF f v r) from rfl]
    by_cases hk : k = f
    · rw [if_pos hk]
      by_cases h : g = k
      · have hb : (g == k) = true := beq_iff_eq.mpr h
        simp only [List.lookup, hb, if_pos (h.trans hk)]
      · have hb : (g == k) = false := beq_eq_false_iff_ne.mpr h
        simp only [List.lookup, hb, if_neg (fun e : g = f => h (e.trans hk.symm))]
    · rw [if_neg hk]
      by_cases h : g = k
      · have hb : (g == k) = true := beq_iff_eq.mpr h
        simp only [List.lookup, hb, if_neg (fun e : g = f => hk (h.symm.trans e))]
      · have hb : (g == k) = false := beq_eq_false_iff_ne.mpr h
        simp only [List.lookup, hb]
        exact ih
theorem keys_putF (f : Str) (v : V) : ∀ fs : List (Str × V), f ∈ (putF f v fs).map (·.1) ∧ ∀ g, g ∈ fs.map (·.1) → g ∈ (putF f v fs).map (·.1)
  | [] => ⟨by simp [putF], fun g h => by simp at h⟩
  | (k, x) :: r => by
    obtain ⟨i1, i2⟩ := keys_putF f v r
    rw [show putF f v ((k, x) :: r) = (if k = f then (k, v) :: r else (k, x) :: putF f v r) from rfl]
    by_cases hk : k = f
    · rw [if_pos hk]
      subst hk
      exact ⟨by simp, fun g h => by simpa using h⟩
    · rw [if_neg hk]
      refine ⟨?_, fun g h => ?_⟩
      · rw [List.map_cons]
        exact List.mem_cons_of_mem _ i1
      · rw [List.map_cons] at h ⊢
        rcases List.mem_cons.mp h with e | e
        · exact List.mem_cons.mpr (.inl e)
        · exact List.mem_cons_of_mem _ (i2 g e)
theorem length_putF (f : Str) (v : V) : ∀ fs : List (Str × V), (putF f v fs).length ≤ fs.length + 1
  | [] => by simp [putF]
  | (k, x) :: r => by
    have ih := length_putF f v r
    rw [show putF f v ((k, x) :: r) = (if k = f then (k, v) :: r else (k, x) :: putF f v r) from rfl]
    by_cases hk : k = f
    · rw [if_pos hk, List.length_cons, List.length_cons]; omega
    · rw [if_neg hk, List.length_cons, List.length_cons]; omega

theorem RelO.some_of {v : V} {o : Option Value} (r : RelO (some v) o) : ∃ u, o = some u ∧ RelV v u := by
  cases o with
  | none => exact (show False from r).elim
  | some u => exact ⟨u, rfl, r⟩
theorem RelO.none_of {o : Option Value} (r : RelO none o) : o = none := by
  cases o with
  | none => rfl
  | some u => exact (show False from r).elim
theorem handed_of {v : V} {u : Value} (r : RelV v u) : PySem.W.handedIn u = true := by
  cases v with
  | non => cases (show u = Value.none from r); rfl
  | bl b => cases (show u = Value.bool b from r); rfl
  | int i => obtain ⟨t, e⟩ := (show ∃ t, u = Value.int i t from r); cases e; rfl
  | str x => obtain ⟨t, e⟩ := (show ∃ t, u = Value.str x t from r); cases e; rfl
  | byt b => obtain ⟨t, e⟩ := (show ∃ t, u = Value.bytes b t from r); cases e; rfl
  | flt b => obtain ⟨t, e⟩ := (show ∃ t, u = Value.float b t from r); cases e; rfl
  | ref a => cases (show u = Value.ref a from r); rfl
  | ty n => cases (show u = Value.type n from r); rfl

section
variable {P : Program} {w : World} {H H' : Hp} {h h' : Heap} {a C dx : Addr} {fs fs' : List (Str × V)}
theorem ins_get (hok : HOk P w H h) (e : H a = some (.ins C dx fs)) : ∃ mA, ObjM h a dx C mA ∧ (∀ f, RelO (fs.lookup f) (mA f)) ∧ PySem.Within mA (fs.map (·.1)) ∧ fs.length ≤ 1000 ∧ H dx = some (.own a) := by
  obtain ⟨d, z, ne, ob, mA, n, r, q⟩ := (show ObjOk P w H h a (.ins C dx fs) from hok a _ e)
  exact ⟨mA, ⟨ob, n, ne⟩, r, q, z, d⟩
end

/-! ### what of the text a class must have -/
structure Cls (K : PySem.W.Frag) (C : Addr) : Prop where
  pg : PySem.W.plainGet K C Str.empty = true
  hd : PySem.W.hasDictIn K C = true
  po : PySem.W.plainOver K C = true
  sa : PySem.W.findIn K (.ref C) "__setattr__" = some (some (.builtin "object.__setattr__"))
theorem Cls.get {K : PySem.W.Frag} {C : Addr} (c : Cls K C) (f : Str) : PySem.W.plainGet K C f = true := c.pg
/-- no class of it has the name -/
def NoAttr (K : PySem.W.Frag) (C : Addr) (f : Str) : Prop := PySem.W.findIn K (.ref C) f = some none
theorem NoAttr.taker {K : PySem.W.Frag} {C : Addr} {f : Str} (n : NoAttr K C f) : PySem.W.takerIn K C f = some none := by
  unfold PySem.W.takerIn
  rw [show PySem.W.findIn K (.ref C) f = some none from n]
  rfl
/-- a constant of the class -/
structure Con (K : PySem.W.Frag) (C : Addr) (f : Str) (v : V) (u : Value) : Prop where
  at_ : PySem.W.findIn K (.ref C) f = some (some u)
  rel : RelV v u
  get : PySem.W.specialIn K u "__get__" = some none
  cp : PySem.W.copiedNames.contains f = false
/-- a method: a plain def of the class or of one above it -/
structure Meth (K : PySem.W.Frag) (C : Addr) (m : Str) (f : Addr) : Prop where
  at_ : PySem.W.findIn K (.ref C) m = some (some (.ref f))
  fn : PySem.W.isFn K (.ref f) = true
  kp : PySem.W.keepIn K (.ref f) = true

section
variable {X : Cx} {pins : List (Addr × Obj)} {σ : St} {H : Hp} {s : Shared} {a C dx : Addr} {fs : List (Str × V)} {f : Str} {v : V} {A : Around} {E : Value → Shared → Prop}

theorem getattr_ok {b : Bool} {Q : Value → Shared → Prop} (I : Inv X pins σ H s) (e : H a = some (.ins C dx fs)) (c : Cls X.K C) (n : NoAttr X.K C f) (l : fs.lookup f = some v)
    (h : ∀ u s', Inv X pins σ H s' → RelV v u → Q u s') : wpAny (model X.prog X.w) A (getAttr (.ref a) f b) Q E s := by
  obtain ⟨mA, O, r, _, _, _⟩ := ins_get I.hok e
  obtain ⟨u, hu, ru⟩ := RelO.some_of (v := v) (o := mA f) (by rw [← l]; exact r f)
  exact get_map I.kIn O (c.get f) c.hd n hu (handed_of ru) (h u _ (I.tok _) ru)

theorem getcon_ok {b : Bool} {u : Value} {Q : Value → Shared → Prop} (I : Inv X pins σ H s) (e : H a = some (.ins C dx fs)) (c : Cls X.K C) (k : Con X.K C f v u) (l : fs.lookup f = none)
    (h : ∀ s', Inv X pins σ H s' → Q u s') : wpAny (model X.prog X.w) A (getAttr (.ref a) f b) Q E s := by
  obtain ⟨mA, O, r, _, _, _⟩ := ins_get I.hok e
  have hn : mA f = none := RelO.none_of (by rw [← l]; exact r f)
  exact get_const I.kIn O (c.get f) c.hd k.at_ k.get k.cp hn (handed_of k.rel) (h _ (I.tok _))

theorem getmeth_ok {m : Str} {g : Addr} {pl : Sem Bool} {Q : Value × List Value → Shared → Prop} (I : Inv X pins σ H s) (e : H a = some (.ins C dx fs)) (c : Cls X.K C) (k : Meth X.K C m g) (l : fs.lookup m = none)
    (h : Q (.ref g, [.ref a]) s) : wpAny (model X.prog X.w) A (getMethod (.ref a) m pl) Q E s := by
  obtain ⟨mA, O, r, _, _, _⟩ := ins_get I.hok e
  have hn : mA m = none := RelO.none_of (by rw [← l]; exact r m)
  exact get_meth I.kIn O (c.get m) k.at_ k.fn hn h

theorem setattr_ok {y : V} {u : Value} {Q : Unit → Shared → Prop} (I : Inv X pins σ H s) (e : H a = some (.ins C dx fs)) (c : Cls X.K C) (n : NoAttr X.K C f) (hl : fs.length < 1000) (ry : RelV y u)
    (h : ∀ s', Inv X pins σ (upd H a (.ins C dx (putF f y fs))) s' → Q () s') : wpAny (model X.prog X.w) A (setAttr (.ref a) f u) Q E s := by
  obtain ⟨mA, O, r, wi, _, ho⟩ := ins_get I.hok e
  have hz : (fs.map (·.1)).length ≤ sizeLine := by rw [List.length_map, sizeLine_eq]; omega
  refine set_map I.kIn O c.sa c.po n.taker c.hd wi hz fun h' O' sb => h _ ?_
  have hd : ∃ o, h'.get? dx = some o := let ⟨o, _, _, e', _⟩ := O'.ns; ⟨o, e'⟩
  refine I.write (x := a) (e := dx) (by rw [e]; exact True.intro) (.inr ho) (fun b q hb z => (sb.2 b hb).trans z) hd ?_
  refine ⟨by rw [upd_ne O.ne]; exact ho, ?_, O.ne, O'.obj, _, O'.ns, fun g => ?_, fun g hg => ?_⟩
  · have := length_putF f y fs; omega
  · show RelO ((putF f y fs).lookup g) (if g = f then some u else mA g)
    rw [lookup_putF]
    by_cases q : g = f
    · rw [if_pos q, if_pos q]; exact ry
    · rw [if_neg q, if_neg q]; exact r g
  · by_cases q : g = f
    · rw [q]; exact (keys_putF f y fs).1
    · refine (keys_putF f y fs).2 g (wi g fun z => hg ?_)
      show (if g = f then some u else mA g) = none
      rw [if_neg q]; exact z

/-- a new instance, tracked, without attributes -/
theorem Inv.made (I : Inv X pins σ H s) : Inv X pins σ (upd (upd H s.heap.objs.size (.own (s.heap.objs.size + 1))) (s.heap.objs.size + 1) (.ins C s.heap.objs.size []))
    { s with heap := (s.heap.push PySem.W.emptyDict).push (PySem.W.instObj C s.heap.objs.size) } := by
  have e1 : (s.heap.push PySem.W.emptyDict).get? s.heap.objs.size = some PySem.W.emptyDict := Heap.get?_push_size s.heap rfl
  have e2 : ((s.heap.push PySem.W.emptyDict).push (PySem.W.instObj C s.heap.objs.size)).get? (s.heap.objs.size + 1) = some (PySem.W.instObj C s.heap.objs.size) := by
    have := Heap.get?_push_size (s.heap.push PySem.W.emptyDict) (o := PySem.W.instObj C s.heap.objs.size) rfl
    rwa [Heap.size_push] at this
  have e3 : (s.heap.push PySem.W.emptyDict).Ns s.heap.objs.size (fun _ => none) := ⟨PySem.W.emptyDict, #[], _, e1, rfl, (fun e he => absurd he (by simp)), fun _ => rfl⟩
  have I1 := I.laid (a := s.heap.objs.size) (o := .own (s.heap.objs.size + 1)) (h' := s.heap.push PySem.W.emptyDict) (t' := s.toks) (fun b u q => Heap.get?_push_of_some _ q) (Nat.le_refl _) ⟨_, e1⟩
  refine I1.laid (a := s.heap.objs.size + 1) (o := .ins C s.heap.objs.size []) (t' := s.toks) (fun b u q => Heap.get?_push_of_some _ q) (Nat.le_of_eq (Heap.size_push _ _)) ?_
  have ne : s.heap.objs.size ≠ s.heap.objs.size + 1 := Nat.ne_of_lt (Nat.lt_succ_self _)
  refine ⟨by rw [upd_ne ne, upd_same], Nat.zero_le _, ne, e2, fun _ => none, (Heap.Ns1.of_empty e3).at fun o q => Heap.get?_push_of_some _ q, fun _ => True.intro, fun y hy => absurd rfl hy⟩

/-- e.f where nothing but the object is asked: through attributeBase (super) and the last hold -/
theorem attr_of {prog : Program} {w : World} {env : Env} {e : Expr} {f : Str} {pos : Pos} {s : Shared} {Q : Value → Shared → Prop} (hb : attributeBase e f env (eval e env) = eval e env)
    (h : wpAny (model prog w) A (eval e env) (fun o s₁ => wpAny (model prog w) A (getAttr o f true) Q E s₁) E s) : wpAny (model prog w) A (eval (.Attribute e f pos) env) Q E s :=
  Attribute_any_ h (by rw [arm_eval_Attribute, hb])
end

/-! ### readings and rules -/
/-- e.f, an attribute of the instance -/
def tFld (K : PySem.W.Frag) (ta : TE) (f : Str) : TE := fun σ H Q => ta σ H fun x H1 => ∃ a C dx fs v, x = .ref a ∧ H1 a = some (.ins C dx fs) ∧ Cls K C ∧ NoAttr K C f ∧ fs.lookup f = some v ∧ Q v H1
/-- e.f, a constant of the class -/
def tCon (K : PySem.W.Frag) (ta : TE) (f : Str) : TE := fun σ H Q => ta σ H fun x H1 => ∃ a C dx fs v u, x = .ref a ∧ H1 a = some (.ins C dx fs) ∧ Cls K C ∧ Con K C f v u ∧ fs.lookup f = none ∧ Q v H1
/-- e.f = value -/
def sFld (K : PySem.W.Frag) (ta tv : TE) (f : Str) : TS := fun D σ H => tv σ H fun y H1 => ta σ H1 fun x H2 => ∃ a C dx fs, x = .ref a ∧ H2 a = some (.ins C dx fs) ∧ Cls K C ∧ NoAttr K C f ∧ fs.length < 1000 ∧
  D.nx σ (upd H2 a (.ins C dx (putF f y fs)))
/-- an augmented operator on two values -/
def InOp (X : Cx) (op : Operator) (rd : V → V → Hp → VK → Prop) : Prop :=
  ∀ (pins : List (Addr × Obj)) (s : Shared) (σ : St) (H : Hp) (x y : V) (u v : Value) (Q : VK), Inv X pins σ H s → RelV x u → RelV y v → rd x y H Q → wpAny (model X.prog X.w) X.A (inplaceOp op u v) (EP X pins σ Q) X.xe s
/-- e.f op= value -/
def sFldAug (K : PySem.W.Frag) (ta tv : TE) (rd : V → V → Hp → VK → Prop) (f : Str) : TS := fun D σ H => ta σ H fun x H1 => ∃ a C dx fs v, x = .ref a ∧ H1 a = some (.ins C dx fs) ∧ Cls K C ∧ NoAttr K C f ∧ fs.lookup f = some v ∧
  tv σ H1 fun y H2 => rd v y H2 fun z H3 => ∃ dx' fs', H3 a = some (.ins C dx' fs') ∧ fs'.length < 1000 ∧ D.nx σ (upd H3 a (.ins C dx' (putF f z fs')))

section
variable {X : Cx} {o e value : Expr} {f : Str} {pos pos' tpos : Pos} {ta tv : TE}
theorem pe_fld (he : PE X e ta) (hb : attributeBase e f X.env (eval e X.env) = eval e X.env) : PE X (.Attribute e f pos) (tFld X.K ta f) := by
  intro pins s σ H Q I h
  refine attr_of hb (thn (he pins s σ H _ I h) fun u s1 ⟨x, H1, I1, rx, a, C, dx, fs, v, ex, ea, c, n, l, q⟩ => ?_)
  subst ex
  obtain rfl : u = Value.ref a := rx
  exact getattr_ok I1 ea c n l fun u' s2 I2 ru => ⟨v, H1, I2, ru, q⟩
theorem pe_con (he : PE X e ta) (hb : attributeBase e f X.env (eval e X.env) = eval e X.env) : PE X (.Attribute e f pos) (tCon X.K ta f) := by
  intro pins s σ H Q I h
  refine attr_of hb (thn (he pins s σ H _ I h) fun u s1 ⟨x, H1, I1, rx, a, C, dx, fs, v, u0, ex, ea, c, k, l, q⟩ => ?_)
  subst ex
  obtain rfl : u = Value.ref a := rx
  exact getcon_ok I1 ea c k l fun s2 I2 => ⟨v, H1, I2, k.rel, q⟩
theorem ps_fld (ha : PE X o ta) (hv : PE X value tv) (hs : swapsWith value (some (.Attribute o f pos')) pos.line X.env = pure false) : PS X (.Assign [.Attribute o f pos'] value pos) (sFld X.K ta tv f) := by
  intro pins s σ H D I h
  refine plainObj_wpAny_Assign_Attribute (thn (hv pins s σ H _ I h) fun u s1 ⟨y, H1, I1, ry, q⟩ => thn (ha pins s1 σ H1 _ I1 q) fun ov s2 ⟨x, H2, I2, rx, a, C, dx, fs, ex, ea, c, n, l, q2⟩ => ?_) hs
  subst ex
  obtain rfl : ov = Value.ref a := rx
  exact setattr_ok I2 ea c n l ry fun s3 I3 => ⟨σ, _, I3, q2⟩
theorem ps_fldaug {op : Operator} {rd : V → V → Hp → VK → Prop} (ha : PE X o ta) (hv : PE X value tv) (hop : InOp X op rd) : PS X (.AugAssign (.Attribute o f tpos) op value pos) (sFldAug X.K ta tv rd f) := by
  intro pins s σ H D I h
  refine wpAny_AugAssign_AttributeAny (thn (ha pins s σ H _ I h) fun ov s1 ⟨x, H1, I1, rx, a, C, dx, fs, v, ex, ea, c, n, l, q⟩ => ?_)
  subst ex
  obtain rfl : ov = Value.ref a := rx
  refine getattr_ok I1 ea c n l fun u s2 I2 ru => thn (hv pins s2 σ H1 _ I2 q) fun w3 s3 ⟨y, H2, I3, ry, q3⟩ => thn (hop pins s3 σ H2 v y u w3 _ I3 ru ry q3) fun w4 s4 ⟨z, H3, I4, rz, dx', fs', ea', l', q4⟩ => ?_
  exact setattr_ok I4 ea' c n l' rz fun s5 I5 => ⟨σ, _, I5, q4⟩
def rAdd : V → V → Hp → VK → Prop := fun x y H Q => ∃ i j, x = .int i ∧ y = .int j ∧ Q (.int (i + j)) H
def rSub : V → V → Hp → VK → Prop := fun x y H Q => ∃ i j, x = .int i ∧ y = .int j ∧ Q (.int (i - j)) H
theorem in_add : InOp X .Add rAdd := by
  rintro pins s σ H x y u v Q I rx ry ⟨i, j, rfl, rfl, q⟩
  obtain ⟨t, rfl⟩ := (show ∃ t, u = Value.int i t from rx)
  obtain ⟨t', rfl⟩ := (show ∃ t', v = Value.int j t' from ry)
  exact PyProof.Rows.iadd_int ⟨.int (i + j), H, I.tok _, ⟨_, rfl⟩, q⟩
theorem in_sub : InOp X .Sub rSub := by
  rintro pins s σ H x y u v Q I rx ry ⟨i, j, rfl, rfl, q⟩
  obtain ⟨t, rfl⟩ := (show ∃ t, u = Value.int i t from rx)
  obtain ⟨t', rfl⟩ := (show ∃ t', v = Value.int j t' from ry)
  exact PyProof.Rows.isub_int ⟨.int (i - j), H, I.tok _, ⟨_, rfl⟩, q⟩

/-- what is between an instance and its method: the tree of a method call -/
theorem methcall_of {pl : Sem Bool} {m : Str} {apos : Pos} {args : List Expr} {pins : List (Addr × Obj)} {s : Shared} {σ : St} {H : Hp} {Q : Value → Shared → Prop} {te : TE} (he : PE X e te) (I : Inv X pins σ H s)
    (h : te σ H fun x H1 => ∃ a C dx fs g, x = .ref a ∧ H1 a = some (.ins C dx fs) ∧ Cls X.K C ∧ Meth X.K C m g ∧ fs.lookup m = none ∧
      ∀ s1, Inv X pins σ H1 s1 → wpAny (model X.prog X.w) X.A (callWith pos (.ref g) [.ref a] (backTo pos (starEach args X.env)) (backToKw pos (keywordEach [] X.env))) Q X.xe s1)
    (ht : eval (.Call (.Attribute e m apos) args [] pos) X.env = (do
      let ov ← eval e X.env
      standAt apos.atName
      let (f, first) ← holding [ov] (getMethod ov m pl)
      callWith pos f first (backTo pos (starEach args X.env)) (backToKw pos (keywordEach [] X.env)))) :
    wpAny (model X.prog X.w) X.A (eval (.Call (.Attribute e m apos) args [] pos) X.env) Q X.xe s := by
  refine PySem.W.methodCall_KW (pl := pl) (thn (he pins s σ H _ I h) fun u s1 ⟨x, H1, I1, rx, a, C, dx, fs, g, ex, ea, c, k, l, q⟩ => ?_) ht
  subst ex
  obtain rfl : u = Value.ref a := rx
  exact getmeth_ok I1 ea c k l (q s1 I1)
end

/-! ### isinstance -/
section
variable {X : Cx} {pins : List (Addr × Obj)} {σ : St} {H : Hp} {s : Shared} {A : Around} {E : Value → Shared → Prop} {Q : Value → Shared → Prop} {c : Value} {b : Bool}
/-- the type of a value, as the fragment's deciders take it; for an instance its class -/
inductive TyOf (K : PySem.W.Frag) (H : Hp) : V → Value → Prop where
  | non : TyOf K H .non (.type "NoneType")
  | bl (x : Bool) : TyOf K H (.bl x) (.type "bool")
  | int (i : Int) : TyOf K H (.int i) (.type "int")
  | str (x : Str) : TyOf K H (.str x) (.type "str")
  | flt (x : UInt64) : TyOf K H (.flt x) (.type "float")
  | lst {a : Addr} {xs : List V} (e : H a = some (.lst xs)) : TyOf K H (.ref a) (.type "list")
  | frz {a : Addr} {o : Obj} {xs : List V} (e : H a = some (.frz o (.lst xs))) : TyOf K H (.ref a) (.type "list")
  | tup {a : Addr} {xs : List V} (e : H a = some (.tup xs)) : TyOf K H (.ref a) (.type "tuple")
  | dK {a : Addr} {kvs : List (Key × V)} (e : H a = some (.dK kvs)) : TyOf K H (.ref a) (.type "dict")
  | dT {a : Addr} {kvs : List (List Key × V)} (e : H a = some (.dT kvs)) : TyOf K H (.ref a) (.type "dict")
  | ins {a C dx : Addr} {fs : List (Str × V)} (e : H a = some (.ins C dx fs)) (cl : Cls K C) (ha : PySem.W.findIn K (.ref C) "__class__" = some (some (.builtin "object.__class__")))
      (hn : PySem.W.specialIn K (.builtin "object.__class__") "__get__" = some (some (.builtin "getset_descriptor.__get__"))) (htk : PySem.W.takesIn K (.builtin "object.__class__") = some true)
      (hm : PySem.W.mroIn K C (.type "object") = some true) : TyOf K H (.ref a) (.ref C)
/-- isinstance(x, c) for one class c, a built-in or an own one: kitOne's answer -/
theorem isinst_ok {x : V} {u t : Value} (I : Inv X pins σ H s) (rx : RelV x u) (ty : TyOf X.K H x t) (e : PySem.W.kitOne X.K t c = some b) (h : ∀ tk, Q (.bool b) { s with toks := tk }) :
    wpAny (model X.prog X.w) A (call (.builtin "isinstance") [u, c]) Q E s := by
  cases ty with
  | non => cases (show u = Value.none from rx); exact PySem.W.kia_one PySem.W.kitx_none I.kIn True.intro e (fun z => nomatch z) h
  | bl y => cases (show u = Value.bool y from rx); exact PySem.W.kia_one PySem.W.kitx_bool I.kIn True.intro e (fun z => nomatch z) h
  | int i => obtain ⟨t, q⟩ := (show ∃ t, u = Value.int i t from rx); cases q; exact PySem.W.kia_one PySem.W.kitx_int I.kIn True.intro e (fun z => nomatch z) h
  | str y => obtain ⟨t, q⟩ := (show ∃ t, u = Value.str y t from rx); cases q; exact PySem.W.kia_one PySem.W.kitx_str I.kIn True.intro e (fun z => nomatch z) h
  | flt y => obtain ⟨t, q⟩ := (show ∃ t, u = Value.float y t from rx); cases q; exact PySem.W.kia_one PySem.W.kitx_float I.kIn True.intro e (fun z => nomatch z) h
  | @lst a xs ea =>
    cases (show u = Value.ref a from rx)
    obtain ⟨_, _, n, _, h1⟩ := (show ObjOk X.prog X.w H s.heap a (.lst xs) from I.hok a _ ea)
    exact PySem.W.kia_one PySem.W.kitx_list I.kIn ⟨_, h1, rfl⟩ e (fun z => nomatch z) h
  | @frz a ob xs ea =>
    cases (show u = Value.ref a from rx)
    obtain ⟨_, _, _, n, _, h1⟩ := (show ObjOk X.prog X.w H s.heap a (.frz ob (.lst xs)) from I.hok a _ ea)
    exact PySem.W.kia_one PySem.W.kitx_list I.kIn ⟨_, h1, rfl⟩ e (fun z => nomatch z) h
  | @tup a xs ea =>
    cases (show u = Value.ref a from rx)
    obtain ⟨_, _, _, p⟩ := (show ObjOk X.prog X.w H s.heap a (.tup xs) from I.hok a _ ea)
    obtain ⟨o, h1, h2, _⟩ := p
    exact PySem.W.kia_one PySem.W.kitx_tuple I.kIn ⟨o, h1, h2⟩ e (fun z => nomatch z) h
  | @dK a kvs ea =>
    cases (show u = Value.ref a from rx)
    obtain ⟨_, _, vs, _, p⟩ := (show ObjOk X.prog X.w H s.heap a (.dK kvs) from I.hok a _ ea)
    obtain ⟨o, es, ep, h1, h2, _⟩ := p
    exact PySem.W.kia_one PySem.W.kitx_dict I.kIn ⟨o, h1, h2.1⟩ e (fun z => nomatch z) h
  | @dT a kvs ea =>
    cases (show u = Value.ref a from rx)
    obtain ⟨_, _, xs, _, o, es, ep, h1, h2, _⟩ := (show ObjOk X.prog X.w H s.heap a (.dT kvs) from I.hok a _ ea)
    exact PySem.W.kia_one PySem.W.kitx_dict I.kIn ⟨o, h1, h2.1⟩ e (fun z => nomatch z) h
  | @ins a C dx fs ea cl ha hn htk hm =>
    cases (show u = Value.ref a from rx)
    obtain ⟨mA, O, _⟩ := ins_get I.hok ea
    obtain ⟨od, J, _⟩ := O.look
    exact PySem.W.kia_one (PySem.W.kitx_own (cl.get _) cl.hd ha hn htk hm) I.kIn J e (fun z => nomatch z) h
end
end L2

namespace L2
open PySem PySem.Spec PyProof.Rows

/-! ### room -/
structure Room (k : Nat) (A : Around) : Prop where
  hd : A.handled = none
  dp : A.depth + 3 * k + 5 < recursionLimit
  un : A.units + 16 * k + 200 < cLine
theorem Room.mono {j k : Nat} {A : Around} (r : Room k A) (h : j ≤ k) : Room j A := ⟨r.hd, by have := r.dp; omega, by have := r.un; omega⟩
theorem Room.deeper {k : Nat} {A : Around} (r : Room (k + 1) A) (env : Env) : Room k (A.deeper env) :=
  ⟨r.hd, by have := r.dp; show A.depth + 1 + 3 * k + 5 < _; omega, by have := r.un; show A.units + 3 + 16 * k + 200 < _; omega⟩
theorem Room.in1 {k : Nat} {A : Around} (r : Room (k + 1) A) : Room k A.in1 :=
  ⟨r.hd, by have := r.dp; show A.depth + 3 * k + 5 < _; omega, by have := r.un; show A.units + 1 + 16 * k + 200 < _; omega⟩
theorem make_depth {A : Around} {C : Addr} {us : List Value} {kw : List (Str × Value)} : (A.under (.builtin "type.__call__" ⟨.ref C :: us, kw⟩)).depth = A.depth + 1 := by
  first | rfl | simp [Around.under, Code.weight, Code.isCreation, Code.isGuard, Code.isCaller, Code.frames, Code.isFrame, guardIds]
theorem make_units {A : Around} {C : Addr} {us : List Value} {kw : List (Str × Value)} : (A.under (.builtin "type.__call__" ⟨.ref C :: us, kw⟩)).units = A.units + 1 := by
  first | rfl | simp [Around.under, Code.cUnits, Code.frames, Code.isFrame]
theorem Room.make {k : Nat} {A : Around} (r : Room (k + 1) A) (C : Addr) (us : List Value) (kw : List (Str × Value)) : Room k (A.under (.builtin "type.__call__" ⟨.ref C :: us, kw⟩)) :=
  ⟨r.hd, by have := r.dp; rw [make_depth]; omega, by have := r.un; rw [make_units]; omega⟩
theorem Room.depth {k : Nat} {A : Around} (r : Room k A) : A.depth < recursionLimit := by have := r.dp; omega
theorem Room.units {k : Nat} {A : Around} (r : Room k A) : A.units + 64 < cLine := by have := r.un; omega
theorem Room.units0 {k : Nat} {A : Around} (r : Room k A) : A.units < cLine := by have := r.un; omega

/-! ### argument lists and displays -/
def tNil : TA := fun _ H Q => Q [] H
def tCons (ta : TE) (tr : TA) : TA := fun σ H Q => ta σ H fun x H1 => tr σ H1 fun xs H2 => Q (x :: xs) H2
section
variable {X : Cx} {e : Expr} {es : List Expr} {te : TE} {t : TA} {pos : Pos}
theorem pa_nil : PA X [] tNil := fun _ _ _ _ H Q I h => Calls.spliced_nil ⟨[], H, I, .nil, h⟩
theorem pa_cons (ha : PE X e te) (hr : PA X es t) (hs : starEach (e :: es) X.env = (false, eval e X.env) :: starEach es X.env := by rfl) : PA X (e :: es) (tCons te t) := by
  intro pos pins s σ H Q I h
  rw [hs]
  show wpAny _ _ (spliced ((false, eval e X.env) :: backTo pos (starEach es X.env))) _ _ s
  refine Calls.spliced_cons (thn (ha pins s σ H _ I h) fun u s1 ⟨x, H1, I1, r1, q1⟩ => ?_)
  exact thn (hr pos pins s1 σ H1 _ I1 q1) fun us s2 ⟨xs, H2, I2, r2, q2⟩ => ⟨x :: xs, H2, I2, .cons r1 r2, q2⟩

/-- a tuple, a list of written items -/
def tTup (t : TA) : TE := fun σ H Q => t σ H fun xs H1 => xs.length ≤ sizeLine ∧ ∀ p, H1 p = none → Q (.ref p) (upd H1 p (.tup xs))
def tLst (t : TA) : TE := fun σ H Q => t σ H fun xs H1 => xs.length ≤ sizeLine ∧ ∀ p, H1 p = none → Q (.ref p) (upd H1 p (.lst xs))
theorem pe_tup {x1} (h : PA X es t) : PE X (.Tuple es x1 pos) (tTup t) := by
  intro pins s σ H Q I hq
  refine wpAny_Tuple_spliced (thn (h pos pins s σ H _ I hq) fun us s1 ⟨xs, H1, I1, r, z, q⟩ => ⟨by rw [← r.length]; exact z, ?_⟩)
  have hf : H1 s1.heap.objs.size = none := I1.hok.fresh (Nat.le_refl _)
  refine ⟨.ref s1.heap.objs.size, upd H1 s1.heap.objs.size (.tup xs), I1.laid (t' := s1.toks) (fun b u e => Heap.get?_push_of_some _ e) (Nat.le_refl _) ?_, rfl, q _ hf⟩
  exact ⟨z, us, r, ⟨_, Heap.get?_push_size _ rfl, rfl, _, rfl⟩⟩
theorem pe_lst (h : PA X es t) : PE X (.List es pos) (tLst t) := by
  intro pins s σ H Q I hq
  refine wpAny_List_spliced (thn (h pos pins s σ H _ I hq) fun us s1 ⟨xs, H1, I1, r, z, q⟩ => ⟨by rw [← r.length]; exact z, ?_⟩)
  have hf : H1 s1.heap.objs.size = none := I1.hok.fresh (Nat.le_refl _)
  refine ⟨.ref s1.heap.objs.size, upd H1 s1.heap.objs.size (.lst xs), I1.laid (t' := s1.toks) (fun b u e => Heap.get?_push_of_some _ e) (Nat.le_refl _) ?_, rfl, q _ hf⟩
  exact ⟨z, us, 0, r, Heap.get?_push_size _ rfl⟩
end

/-! ### what a def promises -/
/-- a def's promise: the bound arguments in the parameters' order, the heap, the wanted end, the wanted exception -/
abbrev Sp := List V → Hp → VK → XK → Prop
/-- how an exception lies behind a call (file 08 gives it): the callers' frames, abstract heap and state ahead of the call, the wish, the exception, the state -/
abbrev CXT := List Env → Hp → Shared → XK → Value → Shared → Prop

/-- the state at a call -/
structure Env0 (P : Program) (w : World) (K : PySem.W.Frag) (mg : Str → Option Value) (base : Heap) (A : Around) (outer : List Env) (s : Shared) (H : Hp) : Prop where
  frames : A.frames = some outer
  mod : Mod K mg base
  bs : ∀ b o, base.get? b = some o → s.heap.get? b = some o ∧ H b = none
  bsz : base.objs.size ≤ s.heap.objs.size
  funs : s.heap.FunFrames base outer
  frf : ∀ b ∈ frs outer, H b = none
  hok : HOk P w H s.heap
  bare : AllBare s.gens
/-- a call's end -/
def CE (outer : List Env) (P : Program) (w : World) (H : Hp) (s : Shared) (Q : VK) (u : Value) (s' : Shared) : Prop :=
  ∃ v H', s'.os = s.os ∧ AllBare s'.gens ∧ Un (frs outer) [] H H' s.heap s'.heap ∧ HOk P w H' s'.heap ∧ RelV v u ∧ Q v H'
def CR (CX : CXT) (outer : List Env) (P : Program) (w : World) (H : Hp) (s : Shared) (Q : VK) (E : XK) (r : Result) (s' : Shared) : Prop :=
  match r with
  | .ok (.ret u) => CE outer P w H s Q u s'
  | .ok _ => False
  | .error e => CX outer H s E e s'
structure FnOk (P : Program) (w : World) (K : PySem.W.Frag) (mg : Str → Option Value) (base : Heap) (CX : CXT) (k : Nat) (f : Addr) (fd : FuncData) (ps : List Str) (sp : Sp) : Prop where
  len : ∀ vs H Q E, sp vs H Q E → vs.length = ps.length
  run : ∀ (A : Around) (outer : List Env) (s : Shared) (H : Hp) (args : Args) (us : List Value) (vs : List V) (Q : VK) (E : XK), Room k A → Env0 P w K mg base A outer s H → BindsTo s fd args (ps.zip us) → Vals vs us → sp vs H Q E →
    codeAny (model P w) A (.call (.ref f) args) (CR CX outer P w H s Q E) s
theorem FnOk.mono {P : Program} {w : World} {K : PySem.W.Frag} {mg : Str → Option Value} {base : Heap} {CX : CXT} {j k : Nat} {f : Addr} {fd : FuncData} {ps : List Str} {sp : Sp} (F : FnOk P w K mg base CX j f fd ps sp) (h : j ≤ k) :
    FnOk P w K mg base CX k f fd ps sp := ⟨F.len, fun A outer s H args us vs Q E hr => F.run A outer s H args us vs Q E (hr.mono h)⟩
/-- a weaker promise -/
theorem FnOk.imp {P : Program} {w : World} {K : PySem.W.Frag} {mg : Str → Option Value} {base : Heap} {CX : CXT} {k : Nat} {f : Addr} {fd : FuncData} {ps : List Str} {sp sp' : Sp} (F : FnOk P w K mg base CX k f fd ps sp)
    (h : ∀ vs H Q E, sp' vs H Q E → sp vs H Q E) : FnOk P w K mg base CX k f fd ps sp' :=
  ⟨fun vs H Q E q => F.len vs H Q E (h _ _ _ _ q), fun A outer s H args us vs Q E hr he hb hv hs => F.run A outer s H args us vs Q E hr he hb hv (h _ _ _ _ hs)⟩

theorem Env0.make {P : Program} {w : World} {K : PySem.W.Frag} {mg : Str → Option Value} {base : Heap} {A : Around} {outer : List Env} {s : Shared} {H : Hp} (e : Env0 P w K mg base A outer s H) (C : Addr) (us : List Value) (kw : List (Str × Value)) :
    Env0 P w K mg base (A.under (.builtin "type.__call__" ⟨.ref C :: us, kw⟩)) outer s H := ⟨by first | exact e.frames | (simpa [Around.under, Code.envs, Code.isFrame, pushEnvs] using e.frames), e.mod, e.bs, e.bsz, e.funs, e.frf, e.hok, e.bare⟩
theorem Env0.in1 {P : Program} {w : World} {K : PySem.W.Frag} {mg : Str → Option Value} {base : Heap} {A : Around} {outer : List Env} {s : Shared} {H : Hp} (e : Env0 P w K mg base A outer s H) :
    Env0 P w K mg base A.in1 outer s H := ⟨e.frames, e.mod, e.bs, e.bsz, e.funs, e.frf, e.hok, e.bare⟩

section
variable {X : Cx} {pins : List (Addr × Obj)} {σ : St} {H : Hp} {s s' : Shared}
/-- from a body: what a callee wants -/
theorem Inv.env0 (I : Inv X pins σ H s) : Env0 X.prog X.w X.K X.mg X.base X.A X.stack s H :=
  ⟨I.ok.frames, I.ok.mod, I.bs, Nat.le_trans I.ok.bsz I.sz, I.stack, I.stkFree, I.hok, I.bare⟩
/-- behind a call -/
theorem Inv.after {Q : VK} {u : Value} (I : Inv X pins σ H s) (h : CE X.stack X.prog X.w H s Q u s') : EP X pins σ Q u s' := by
  obtain ⟨v, H', os, bare, un, hok, r, q⟩ := h
  obtain ⟨hh, g, d, t, os'⟩ := s'
  obtain rfl : os' = s.os := os
  exact ⟨v, H', I.call (h' := hh) (g' := g) (d' := d) (t' := t) (ch := []) un hok bare (fun b z => absurd z (by simp)), r, q⟩
end

/-! ### calls -/
/-- f(..): the written arguments, then the defaults dvs; E: what is wanted of an exception -/
def tCall (sp : Sp) (dvs : List V) (E : XK) (t : TA) : TE := fun σ H Q => t σ H fun vs H1 => sp (vs ++ dvs) H1 Q E
/-- o.m(..) of an instance of the class at C -/
def tMeth (C : Addr) (m : Str) (sp : Sp) (dvs : List V) (E : XK) (ta : TE) (t : TA) : TE := fun σ H Q => ta σ H fun x H1 => ∃ a dx fs, x = .ref a ∧ H1 a = some (.ins C dx fs) ∧ fs.lookup m = none ∧
  t σ H1 fun vs H2 => sp (x :: (vs ++ dvs)) H2 Q E
/-- C(..): a new instance and its dict, then __init__ -/
def tMake (C : Addr) (sp : Sp) (dvs : List V) (E : XK) (t : TA) : TE := fun σ H Q => t σ H fun vs H1 => ∀ x dx, H1 x = none → H1 dx = none → dx ≠ x →
  sp (.ref x :: (vs ++ dvs)) (upd (upd H1 dx (.own x)) x (.ins C dx [])) (fun v H2 => v = .non ∧ Q (.ref x) H2) E

/-- how the parameters are bound: us the positional arguments, kw the keywords' values by name, ds the defaults that fill up -/
def Binds (K : PySem.W.Frag) (fd : FuncData) (ps : List Str) (ds : List Value) : Prop :=
  ∀ (s : Shared) (us : List Value), K.In s.heap → (us ++ ds).length = ps.length → BindsTo s fd ⟨us, []⟩ (ps.zip (us ++ ds))
/-- every parameter is given -/
theorem Binds.all {K : PySem.W.Frag} {fd : FuncData} {ps : List Str} (h : ∀ us : List Value, us.length = ps.length → bindArgs fd ⟨us, []⟩ = pure (ps.zip us)) : Binds K fd ps [] := fun s us _ hl => by
  rw [List.append_nil] at hl ⊢
  exact .of_eq (h us hl)

/-- an exception of a callee reaches what this body wants of exceptions -/
def Passes (CX : CXT) (X : Cx) (E : XK) : Prop := ∀ (pins : List (Addr × Obj)) (σ : St) (H : Hp) (s : Shared) (e : Value) (s' : Shared), Inv X pins σ H s → CX X.stack H s E e s' → X.xe e s'

section
variable {X : Cx} {CX : CXT} {k : Nat} {f C : Addr} {fd : FuncData} {ps : List Str} {sp : Sp} {dvs : List V} {ds : List Value} {E : XK} {x m : Str} {p pos apos : Pos} {e o : Expr} {es : List Expr} {ta : TE} {t : TA}

/-- the callee runs -/
theorem run_fn {pins : List (Addr × Obj)} {σ : St} {H : Hp} {s : Shared} {Q : VK} {us : List Value} {vs : List V} (F : FnOk X.prog X.w X.K X.mg X.base CX k f fd ps sp) (hr : Room k X.A) (hb : Binds X.K fd ps ds) (hd : Vals dvs ds) (hx : Passes CX X E)
    (I : Inv X pins σ H s) (r : Vals vs us) (h : sp (vs ++ dvs) H Q E) : wpAny (model X.prog X.w) X.A (call (.ref f) us) (EP X pins σ Q) X.xe s := by
  have r2 : Vals (vs ++ dvs) (us ++ ds) := r.append hd
  have hl : (us ++ ds).length = ps.length := by rw [← r2.length]; exact F.len _ _ _ _ h
  refine wpAny_call (codeAny_mono (F.run X.A X.stack s H ⟨us, []⟩ (us ++ ds) (vs ++ dvs) Q E hr I.env0 (hb s us I.kIn hl) r2 h) fun r s' hq => ?_)
  cases r with
  | error e => exact hx pins σ H s e s' I hq
  | ok fl =>
    cases fl with
    | ret u => exact I.after hq
    | next => exact False.elim hq
    | brk => exact False.elim hq
    | cont => exact False.elim hq

theorem pe_call (F : FnOk X.prog X.w X.K X.mg X.base CX k f fd ps sp) (hr : Room k X.A) (hg : Gl X x) (hm : X.mg x = some (.ref f)) (hk : PySem.W.keepIn X.K (.ref f) = true) (hb : Binds X.K fd ps ds) (hd : Vals dvs ds) (hx : Passes CX X E)
    (ha : PA X (e :: es) t) (hdb : (x == ("__debug__" : Str)) = false := by decide) (he : starEach (e :: es) X.env = (false, eval e X.env) :: starEach es X.env := by rfl) (hpl : (backTo pos (starEach es X.env)).any (·.1) = false := by rfl) :
    PE X (.Call (.Name x p) (e :: es) [] pos) (tCall sp dvs E t) := by
  intro pins s σ H Q I h
  refine wpAny_Call_Name_kw (ld_glob I hg hm ?_ hdb)
  refine PySem.W.callWith_K (h₀ := X.base) I.ok.mod.kin hk (thn (ha pos pins s σ H _ I h) fun us s1 ⟨vs, H1, I1, r, q⟩ => ⟨I1.kIn, ?_⟩) he hpl
  exact run_fn F hr hb hd hx I1 r q
theorem pe_call0 (F : FnOk X.prog X.w X.K X.mg X.base CX k f fd ps sp) (hr : Room k X.A) (hg : Gl X x) (hm : X.mg x = some (.ref f)) (hk : PySem.W.keepIn X.K (.ref f) = true) (hb : Binds X.K fd ps ds) (hd : Vals dvs ds) (hx : Passes CX X E)
    (hdb : (x == ("__debug__" : Str)) = false := by decide) : PE X (.Call (.Name x p) [] [] pos) (tCall sp dvs E tNil) := by
  intro pins s σ H Q I h
  refine wpAny_Call_Name_kw (ld_glob I hg hm ?_ hdb)
  exact PySem.W.callWith_K0 I.kIn hk (run_fn (us := []) F hr hb hd hx I .nil h)

/-- o.m(e, ..) -/
theorem pe_meth {pl : Sem Bool} (he : PE X o ta) (c : Cls X.K C) (hm : Meth X.K C m f) (F : FnOk X.prog X.w X.K X.mg X.base CX k f fd ps sp) (hr : Room k X.A) (hb : Binds X.K fd ps ds) (hd : Vals dvs ds) (hx : Passes CX X E) (ha : PA X (e :: es) t)
    (hst : starEach (e :: es) X.env = (false, eval e X.env) :: starEach es X.env := by rfl) (hpl : (backTo pos (starEach es X.env)).any (·.1) = false := by rfl)
    (ht : eval (.Call (.Attribute o m apos) (e :: es) [] pos) X.env = (do
      let ov ← eval o X.env
      standAt apos.atName
      let (f, first) ← holding [ov] (getMethod ov m pl)
      callWith pos f first (backTo pos (starEach (e :: es) X.env)) (backToKw pos (keywordEach [] X.env))) := by rfl) :
    PE X (.Call (.Attribute o m apos) (e :: es) [] pos) (tMeth C m sp dvs E ta t) := by
  intro pins s σ H Q I h
  refine PySem.W.methodCall_KW (pl := pl) (thn (he pins s σ H _ I h) fun u s1 ⟨x, H1, I1, rx, a, dx, fs, ex, ea, l, q⟩ => ?_) ht
  subst ex
  obtain rfl : u = Value.ref a := rx
  refine getmeth_ok I1 ea c hm l ?_
  refine PySem.W.callWith_K (first := [.ref a]) (h₀ := X.base) I.ok.mod.kin hm.kp (thn (ha pos pins s1 σ H1 _ I1 q) fun us s2 ⟨vs, H2, I2, r, q2⟩ => ⟨I2.kIn, ?_⟩) hst hpl
  exact run_fn (us := .ref a :: us) (vs := .ref a :: vs) F hr hb hd hx I2 (.cons rfl r) q2
/-- o.m() -/
theorem pe_meth0 {pl : Sem Bool} (he : PE X o ta) (c : Cls X.K C) (hm : Meth X.K C m f) (F : FnOk X.prog X.w X.K X.mg X.base CX k f fd ps sp) (hr : Room k X.A) (hb : Binds X.K fd ps ds) (hd : Vals dvs ds) (hx : Passes CX X E)
    (ht : eval (.Call (.Attribute o m apos) [] [] pos) X.env = (do
      let ov ← eval o X.env
      standAt apos.atName
      let (f, first) ← holding [ov] (getMethod ov m pl)
      callWith pos f first (backTo pos (starEach [] X.env)) (backToKw pos (keywordEach [] X.env))) := by rfl) :
    PE X (.Call (.Attribute o m apos) [] [] pos) (tMeth C m sp dvs E ta tNil) := by
  intro pins s σ H Q I h
  refine PySem.W.methodCall_KW (pl := pl) (thn (he pins s σ H _ I h) fun u s1 ⟨x, H1, I1, rx, a, dx, fs, ex, ea, l, q⟩ => ?_) ht
  subst ex
  obtain rfl : u = Value.ref a := rx
  refine getmeth_ok I1 ea c hm l ?_
  exact PySem.W.callWith_K0 (first := [.ref a]) I1.kIn hm.kp (run_fn (us := [.ref a]) (vs := [.ref a]) F hr hb hd hx I1 (.cons rfl .nil) q)

/-- what a class must have to be made -/
structure Mk (K : PySem.W.Frag) (C f : Addr) : Prop where
  makes : PySem.W.makesIn K C = true
  init : PySem.W.findIn K (.ref C) "__init__" = some (some (.ref f))
  fn : PySem.W.isFn K (.ref f) = true
  kp : PySem.W.keepIn K (.ref C) = true

theorem run_make {pins : List (Addr × Obj)} {σ : St} {H : Hp} {s : Shared} {Q : VK} {us : List Value} {vs : List V} (M : Mk X.K C f) (F : FnOk X.prog X.w X.K X.mg X.base CX k f fd ps sp) (hr : Room (k + 1) X.A) (hb : Binds X.K fd ps ds) (hd : Vals dvs ds)
    (hx : Passes CX X E) (I : Inv X pins σ H s) (r : Vals vs us)
    (h : ∀ x dx, H x = none → H dx = none → dx ≠ x → sp (.ref x :: (vs ++ dvs)) (upd (upd H dx (.own x)) x (.ins C dx [])) (fun v H2 => v = .non ∧ Q (.ref x) H2) E) :
    wpAny (model X.prog X.w) X.A (call (.ref C) us) (EP X pins σ Q) X.xe s := by
  have hq := h (s.heap.objs.size + 1) s.heap.objs.size (I.hok.fresh (Nat.le_succ _)) (I.hok.fresh (Nat.le_refl _)) (Nat.ne_of_lt (Nat.lt_succ_self _))
  have I2 := Inv.made (C := C) I
  have r2 : Vals (V.ref (s.heap.objs.size + 1) :: (vs ++ dvs)) (Value.ref (s.heap.objs.size + 1) :: (us ++ ds)) := .cons rfl (r.append hd)
  have hl : (Value.ref (s.heap.objs.size + 1) :: us ++ ds).length = ps.length := by
    have e := r2.length
    rw [F.len _ _ _ _ hq] at e
    exact e.symm
  refine wpAny_call (make_map (f := f) I.kIn M.makes M.init (beq_iff_eq.mp M.fn) (codeAny_mono (F.run _ X.stack _ _ ⟨Value.ref (s.heap.objs.size + 1) :: us, []⟩ (Value.ref (s.heap.objs.size + 1) :: (us ++ ds)) _ _ E (hr.make C us [])
    (I2.env0.make C us []) (hb _ (Value.ref (s.heap.objs.size + 1) :: us) I2.kIn hl) r2 hq) fun r s' hq' => ?_))
  cases r with
  | error e => exact hx pins σ _ _ e s' I2 hq'
  | ok fl =>
    cases fl with
    | ret u =>
      obtain ⟨v, H', I3, rv, ev, q3⟩ := I2.after hq'
      subst ev
      exact ⟨rv, ⟨V.ref (s.heap.objs.size + 1), H', I3, rfl, q3⟩⟩
    | next => exact False.elim hq'
    | brk => exact False.elim hq'
    | cont => exact False.elim hq'
theorem pe_make (M : Mk X.K C f) (F : FnOk X.prog X.w X.K X.mg X.base CX k f fd ps sp) (hr : Room (k + 1) X.A) (hg : Gl X x) (hm : X.mg x = some (.ref C)) (hb : Binds X.K fd ps ds) (hd : Vals dvs ds) (hx : Passes CX X E)
    (ha : PA X (e :: es) t) (hdb : (x == ("__debug__" : Str)) = false := by decide) (he : starEach (e :: es) X.env = (false, eval e X.env) :: starEach es X.env := by rfl) (hpl : (backTo pos (starEach es X.env)).any (·.1) = false := by rfl) :
    PE X (.Call (.Name x p) (e :: es) [] pos) (tMake C sp dvs E t) := by
  intro pins s σ H Q I h
  refine wpAny_Call_Name_kw (ld_glob I hg hm ?_ hdb)
  refine PySem.W.callWith_K (h₀ := X.base) I.ok.mod.kin M.kp (thn (ha pos pins s σ H _ I h) fun us s1 ⟨vs, H1, I1, r, q⟩ => ⟨I1.kIn, ?_⟩) he hpl
  exact run_make M F hr hb hd hx I1 r q
theorem pe_make0 (M : Mk X.K C f) (F : FnOk X.prog X.w X.K X.mg X.base CX k f fd ps sp) (hr : Room (k + 1) X.A) (hg : Gl X x) (hm : X.mg x = some (.ref C)) (hb : Binds X.K fd ps ds) (hd : Vals dvs ds) (hx : Passes CX X E)
    (hdb : (x == ("__debug__" : Str)) = false := by decide) : PE X (.Call (.Name x p) [] [] pos) (tMake C sp dvs E tNil) := by
  intro pins s σ H Q I h
  refine wpAny_Call_Name_kw (ld_glob I hg hm ?_ hdb)
  exact PySem.W.callWith_K0 I.kIn M.kp (run_make (us := []) M F hr hb hd hx I .nil h)
end

/-! ### keywords -/
/-- the values of the keywords, from the left -/
def PK (X : Cx) (kws : List Keyword) (t : TA) : Prop :=
  ∀ (pos : Pos) (pins : List (Addr × Obj)) (s : Shared) (σ : St) (H : Hp) (Q : List V → Hp → Prop), Inv X pins σ H s → t σ H Q → wpAny (model X.prog X.w) X.A (evalAll ((backToKw pos (keywordEach kws X.env)).map (·.2))) (AP X pins σ Q) X.xe s
section
variable {X : Cx} {CX : CXT} {k : Nat} {f C : Addr} {fd : FuncData} {ps ks : List Str} {sp : Sp} {E : XK} {x m : Str} {p pos apos kpos : Pos} {e o : Expr} {es : List Expr} {kws : List Keyword} {te ta : TE} {t tk : TA} {nm : Option Str}
theorem pk_nil : PK X [] tNil := fun _ _ _ _ H Q I h => wpAny_evalAll_nil ⟨[], H, I, .nil, h⟩
theorem pk_cons (ha : PE X e te) (hr : PK X kws t) : PK X (⟨nm, e, kpos⟩ :: kws) (tCons te t) := by
  intro pos pins s σ H Q I h
  show wpAny _ _ (evalAll ((do let v ← eval e X.env; standAt pos; pure v) :: (backToKw pos (keywordEach kws X.env)).map (·.2))) _ _ s
  refine wpAny_evalAll_cons (wpAny_bind (thn (ha pins s σ H _ I h) fun u s1 ⟨x, H1, I1, r1, q1⟩ => wpAny_bind (wpAny_standAt (wpAny_pure ?_))))
  exact thn (hr pos pins s1 σ H1 _ I1 q1) fun us s2 ⟨xs, H2, I2, r2, q2⟩ => ⟨x :: xs, H2, I2, .cons r1 r2, q2⟩

/-- how a call with keywords binds: g puts the positional values us and the keywords' values ws (names ks) in the parameters' order, defaults among them -/
structure KBinds (K : PySem.W.Frag) (fd : FuncData) (ps ks : List Str) (g : List Value → List Value → List Value) (gV : List V → List V → List V) : Prop where
  to : ∀ (s : Shared) (us ws : List Value), K.In s.heap → (g us ws).length = ps.length → BindsTo s fd ⟨us, ks.zip ws⟩ (ps.zip (g us ws))
  rel : ∀ {vs : List V} {us : List Value} {zs : List V} {ws : List Value}, Vals vs us → Vals zs ws → Vals (gV vs zs) (g us ws)
def tCallK (sp : Sp) (gV : List V → List V → List V) (E : XK) (t tk : TA) : TE := fun σ H Q => t σ H fun vs H1 => tk σ H1 fun zs H2 => sp (gV vs zs) H2 Q E
variable {g : List Value → List Value → List Value} {gV : List V → List V → List V}
theorem run_fnk {pins : List (Addr × Obj)} {σ : St} {H : Hp} {s : Shared} {Q : VK} {us ws : List Value} {vs zs : List V} (F : FnOk X.prog X.w X.K X.mg X.base CX k f fd ps sp) (hr : Room k X.A) (hb : KBinds X.K fd ps ks g gV) (hx : Passes CX X E)
    (I : Inv X pins σ H s) (r : Vals vs us) (rz : Vals zs ws) (h : sp (gV vs zs) H Q E) : wpAny (model X.prog X.w) X.A (call (.ref f) us (ks.zip ws)) (EP X pins σ Q) X.xe s := by
  have r2 := hb.rel r rz
  have hl : (g us ws).length = ps.length := by rw [← r2.length]; exact F.len _ _ _ _ h
  refine wpAny_call (codeAny_mono (F.run X.A X.stack s H ⟨us, ks.zip ws⟩ (g us ws) (gV vs zs) Q E hr I.env0 (hb.to s us ws I.kIn hl) r2 h) fun r s' hq => ?_)
  cases r with
  | error e => exact hx pins σ H s e s' I hq
  | ok fl =>
    cases fl with
    | ret u => exact I.after hq
    | next => exact False.elim hq
    | brk => exact False.elim hq
    | cont => exact False.elim hq
/-- f(e, .., k = v, ..) -/
theorem pe_callK (F : FnOk X.prog X.w X.K X.mg X.base CX k f fd ps sp) (hr : Room k X.A) (hg : Gl X x) (hm : X.mg x = some (.ref f)) (hk : PySem.W.keepIn X.K (.ref f) = true) (hb : KBinds X.K fd ps ks g gV) (hx : Passes CX X E)
    (ha : PA X (e :: es) t) (hkw : PK X kws tk) (hall : (backToKw pos (keywordEach kws X.env)).all (·.1.isSome) = true := by rfl) (hks : (backToKw pos (keywordEach kws X.env)).filterMap (·.1) = ks := by rfl)
    (hdb : (x == ("__debug__" : Str)) = false := by decide) (he : starEach (e :: es) X.env = (false, eval e X.env) :: starEach es X.env := by rfl)
    (hpl : ((backTo pos (starEach (e :: es) X.env)).any (·.1) || (backToKw pos (keywordEach kws X.env)).any (·.1.isNone)) = false := by rfl) :
    PE X (.Call (.Name x p) (e :: es) kws pos) (tCallK sp gV E t tk) := by
  intro pins s σ H Q I h
  refine wpAny_Call_Name_kw (ld_glob I hg hm ?_ hdb)
  refine PySem.W.callWith_KW (h₀ := X.base) I.ok.mod.kin hk hall (thn (ha pos pins s σ H _ I h) fun us s1 ⟨vs, H1, I1, r, q⟩ => ?_) hpl he
  refine thn (hkw pos pins s1 σ H1 _ I1 q) fun ws s2 ⟨zs, H2, I2, rz, q2⟩ => ⟨I2.kIn, ?_⟩
  rw [hks]
  exact run_fnk F hr hb hx I2 r rz q2
end

/-! ### a def's body keeps its promise -/
/-- names: the parameters first -/
structure FnScope (N P : List Str) (sc : Scope) : Prop where
  kind : sc.kind = .function
  co : sc.isCoroutine = false
  gen : sc.isGenerator = false
  nd : N.Nodup
  pre : N.take P.length = P
  par : ∀ x ∈ P, sc.names.lookup x = some .local ∨ sc.names.lookup x = some .cell
  nofree : ∀ y ∈ sc.names, y.2 ≠ .free

theorem bindL_out {kindOf : Str → Option NameKind} {x : Str} : ∀ {binds : List (Str × Value)} {m : Str → Option Value}, (∀ v, (x, v) ∉ binds) → bindL kindOf binds m x = m x
  | [], _, _ => rfl
  | (n, v) :: r, m, h => by
    unfold bindL
    rw [bindL_out fun w hw => h w (List.mem_cons_of_mem _ hw)]
    split
    · have : x ≠ n := by rintro rfl; exact h v List.mem_cons_self
      simp [this]
    · rfl
theorem bindC_out {kindOf : Str → Option NameKind} {x : Str} : ∀ {binds : List (Str × Value)} {m : Str → Option Value}, (∀ v, (x, v) ∉ binds) → bindC kindOf binds m x = m x
  | [], _, _ => rfl
  | (n, v) :: r, m, h => by
    unfold bindC
    rw [bindC_out fun w hw => h w (List.mem_cons_of_mem _ hw)]
    split
    · rfl
    · have : x ≠ n := by rintro rfl; exact h v List.mem_cons_self
      simp [this]
theorem bindL_get {kindOf : Str → Option NameKind} {x : Str} {v : Value} : ∀ {P : List Str} {vs : List Value} {i : Nat} {m : Str → Option Value}, P.Nodup → P[i]? = some x → vs[i]? = some v → kindOf x = some .local →
    bindL kindOf (P.zip vs) m x = some v
  | [], _, _, _, _, h, _, _ => by simp at h
  | _ :: _, [], _, _, _, _, h, _ => by simp at h
  | p :: P, w :: vs, 0, m, nd, h1, h2, hk => by
    simp at h1 h2; subst h1; subst h2
    show bindL kindOf ((p, w) :: P.zip vs) m p = _
    unfold bindL
    rw [bindL_out fun v hv => (List.nodup_cons.mp nd).1 (List.of_mem_zip hv).1, if_pos hk]
    simp
  | p :: P, w :: vs, i + 1, m, nd, h1, h2, hk => by
    show bindL kindOf ((p, w) :: P.zip vs) m x = _
    unfold bindL
    exact bindL_get (i := i) (List.nodup_cons.mp nd).2 (by simpa using h1) (by simpa using h2) hk
theorem bindC_get {kindOf : Str → Option NameKind} {x : Str} {v : Value} : ∀ {P : List Str} {vs : List Value} {i : Nat} {m : Str → Option Value}, P.Nodup → P[i]? = some x → vs[i]? = some v → kindOf x ≠ some .local →
    bindC kindOf (P.zip vs) m x = some v
  | [], _, _, _, _, h, _, _ => by simp at h
  | _ :: _, [], _, _, _, _, h, _ => by simp at h
  | p :: P, w :: vs, 0, m, nd, h1, h2, hk => by
    simp at h1 h2; subst h1; subst h2
    show bindC kindOf ((p, w) :: P.zip vs) m p = _
    unfold bindC
    rw [bindC_out fun v hv => (List.nodup_cons.mp nd).1 (List.of_mem_zip hv).1, if_neg hk]
    simp
  | p :: P, w :: vs, i + 1, m, nd, h1, h2, hk => by
    show bindC kindOf ((p, w) :: P.zip vs) m x = _
    unfold bindC
    exact bindC_get (i := i) (List.nodup_cons.mp nd).2 (by simpa using h1) (by simpa using h2) hk

/-- the names' values at the entry -/
def start (N : List Str) (vs : List V) : St := vs.map some ++ List.replicate (N.length - vs.length) none

/-- the context of a def's body, at its entry; an exception leaves the frame, then lies as CX says -/
def cxOf (CX : CXT) (P : Program) (w : World) (K : PySem.W.Frag) (mg : Str → Option Value) (base : Heap) (N : List Str) (qual : Str) (scope : Scope) (f : Addr) (cd : Value) (A : Around) (outer : List Env) (s : Shared) (H : Hp) (E : XK) : Cx where
  prog := P
  w := w
  K := K
  mg := mg
  base := base
  A := A.deeper (envOfC qual scope s.heap.objs.size f cd)
  N := N
  s₀ := s
  H₀ := H
  env := envOfC qual scope s.heap.objs.size f cd
  outer := outer
  stack := envOfC qual scope s.heap.objs.size f cd :: outer
  ex := []
  calm := true
  fn := fun _ => true
  pn := []
  xe := fun e s' => wpAny (model P w) (A.deeper (envOfC qual scope s.heap.objs.size f cd)) (leaving (envOfC qual scope s.heap.objs.size f cd) e) (fun _ s'' => CX outer H s E e s'') (fun e' s'' => CX outer H s E e' s'') s'

theorem cell_has {sc : Scope} {n : Nat} {x : Str} (h : sc.names.lookup x = some .cell) : ∃ c, (cellsFrom n sc.names []).lookup x = some c := by
  have q := PySem.W.cellsFrom_some sc.names n [] (.inl h)
  exact Option.isSome_iff_exists.mp q

theorem inv_start {CX : CXT} {P : Program} {w : World} {K : PySem.W.Frag} {mg : Str → Option Value} {base : Heap} {N ps : List Str} {qual : Str} {scope : Scope} {f : Addr} {cd : Value} {A : Around} {outer : List Env} {s s1 : Shared} {H : Hp} {E : XK} {us : List Value} {vs : List V}
    (S : FnScope N ps scope) (hd : A.handled = none) (e0 : Env0 P w K mg base A outer s H) (hl : vs.length = ps.length) (r : Vals vs us)
    (x : InCallC s s.heap.objs.size (bindL (envOfC qual scope s.heap.objs.size f cd).kindOf (ps.zip us) fun _ => none) (cellsFrom (s.heap.objs.size + 1) scope.names []) (bindC (envOfC qual scope s.heap.objs.size f cd).kindOf (ps.zip us) fun _ => none) s1) :
    Inv (cxOf CX P w K mg base N qual scope f cd A outer s H E) [] (start N vs) H s1 := by
  have hpl : ps.length ≤ N.length := by have := congrArg List.length S.pre; rw [List.length_take] at this; omega
  obtain ⟨h1, tk, rfl, hk⟩ := x.done
  have noA : ∀ b : Addr, b ∉ (cxOf CX P w K mg base N qual scope f cd A outer s H E).ex := fun b z => absurd (show b ∈ ([] : List Addr) from z) (by simp)
  refine ⟨⟨e0.mod, S.kind, rfl, rfl, Nat.le_refl _, fun y z c h1 h2 => ?_, fun y hy => ?_, fun y c _ h => ?_, fun _ => hd, Around.frames_deeper e0.frames, .inr ⟨rfl, rfl⟩, fun b z => absurd z (noA b), e0.bs, e0.bsz, fun b _ _ => noA b, fun b z => absurd z (noA b), e0.funs, e0.frf⟩,
    rfl, e0.bare, Un.kept hk, ⟨_, x.toInCall.ns, fun i y v h1 h2 h3 => ?_⟩, fun y c h => ⟨_, x.cell y c h⟩, e0.hok.fresh (Nat.le_refl _), fun y c h => ?_, fun p hp => absurd (show p ∈ ([] : List (Addr × Obj)) from hp) (by simp), e0.hok.kept hk, ?_⟩
  · exact name_of_addr x.apart (PySem.mem_of_lookup h1) (PySem.mem_of_lookup h2)
  · have hy : scope.names.lookup y = some .cell ∨ scope.names.lookup y = some .free := hy
    rcases hy with hy | hy
    · exact cell_has hy
    · exact absurd rfl (S.nofree _ (PySem.mem_of_lookup hy))
  · exact Nat.le_of_lt (x.above y c (PySem.mem_of_lookup h))
  · have hi : i < vs.length := by
      unfold start at h2
      by_cases hi : i < vs.length
      · exact hi
      · rw [List.getElem?_append_right (by simpa using hi)] at h2
        rw [List.getElem?_replicate] at h2
        split at h2 <;> cases h2
    have ha : vs[i]? = some v := by
      unfold start at h2
      rw [List.getElem?_append_left (by simpa using hi), List.getElem?_map] at h2
      cases e : vs[i]? with
      | none => rw [e] at h2; cases h2
      | some a => rw [e] at h2; cases h2; rfl
    obtain ⟨u, hu, rv⟩ := r.get ha
    have hp : ps[i]? = some y := by
      rw [← S.pre, List.getElem?_take_of_lt (by omega)]; exact h1
    have ndP : ps.Nodup := by rw [← S.pre]; exact S.nd.sublist (List.take_sublist _ _)
    refine ⟨u, rv, ?_⟩
    rcases S.par y (List.mem_of_getElem? hp) with k | k
    · exact .inl ⟨k, bindL_get ndP hp hu k⟩
    · obtain ⟨c, e⟩ := cell_has (n := s.heap.objs.size + 1) k
      refine .inr ⟨.inl k, c, e, ?_⟩
      have q := x.cell y c e
      rw [bindC_get ndP hp hu (by show scope.names.lookup y ≠ _; rw [k]; decide)] at q
      exact q
  · exact e0.hok.fresh (Nat.le_of_lt (x.above y c (PySem.mem_of_lookup h)))
  · unfold start
    show _ = N.length
    rw [List.length_append, List.length_map, List.length_replicate]
    omega

/-- THE RULE: a def (or a method) of the text, by its body. The body's reading t is chosen for each entry; it is run at the parameters' values -/
theorem fn_of {CX : CXT} {P : Program} {w : World} {K : PySem.W.Frag} {mg : Str → Option Value} {base : Heap} {k : Nat} {f : Addr} {name qual : Str} {params : Arguments} {body : List Stmt} {scope : Scope} {dV kV doc pm cdv ct oc : Value} {an od : Option Addr}
    {osl : Array (Option Value)} {N ps : List Str} {sp : Sp} (lk : K.lookup f = some ⟨oc, od, .func (PySem.W.fnOf name qual params body scope dV kV doc pm an cdv ct), osl⟩) (hcd : PySem.W.codeIn K cdv qual = true) (S : FnScope N ps scope)
    (len : ∀ vs H Q E, sp vs H Q E → vs.length = ps.length)
    (hbody : ∀ (A : Around) (outer : List Env) (s : Shared) (H : Hp) (vs : List V) (Q : VK) (E : XK), Room k (A.deeper (envOfC qual scope s.heap.objs.size f cdv)) → sp vs H Q E →
      ∃ t, PSs (cxOf CX P w K mg base N qual scope f cdv A outer s H E) body t ∧ t { nx := fun _ H' => Q .non H', rt := Q } (start N vs) H) :
    FnOk P w K mg base CX (k + 1) f (PySem.W.fnOf name qual params body scope dV kV doc pm an cdv ct) ps sp := by
  refine ⟨len, fun A outer s H args us vs Q E hr e0 hb r hsp => ?_⟩
  have hl := len _ _ _ _ hsp
  have KX : K.In s.heap := e0.mod.kin.keeps fun b o e => (e0.bs b o e).1
  have lim : s.heap.NoLimit := e0.mod.nolimit.keeps fun b o e => (e0.bs b o e).1
  have hkind : ∀ y ∈ ps.zip us, scope.names.lookup y.1 = some .local ∨ (scope.names.lookup y.1 = some .cell ∧ ((cellsFrom (s.heap.objs.size + 1) scope.names []).lookup y.1).isSome = true) := fun ⟨n, v⟩ hy => by
    rcases S.par n (List.of_mem_zip hy).1 with q | q
    · exact .inl q
    · exact .inr ⟨q, PySem.W.cellsFrom_some _ _ _ (.inl q)⟩
  refine codeAny_call_function hr.depth (KX _ _ lk) rfl S.co S.gen rfl (PySem.W.codeRec_of KX hcd) (hb _ _ _ _ ?_)
  refine wpAny_newFunctionEnv_cells S.kind hkind fun env he s1 x => ?_
  subst he
  refine ⟨lim.keeps x.toInCall.keep, codeAny_func ?_⟩
  obtain ⟨t, ht, hq⟩ := hbody A outer s H vs Q E (hr.deeper _) hsp
  have I : Inv (cxOf CX P w K mg base N qual scope f cdv A outer s H E) [] (start N vs) H s1 := inv_start S hr.hd e0 hl r x
  refine wpAny_mono (ht [] s1 (start N vs) H _ I hq) (fun fl s' hs => ?_) fun e s' hs => hs
  have fin : ∀ {σ' : St} {H' : Hp} {v : V} {u : Value}, Inv (cxOf CX P w K mg base N qual scope f cdv A outer s H E) [] σ' H' s' → RelV v u → Q v H' → CE outer P w H s Q u s' :=
    fun {σ' H' v u} J rv q => ⟨v, H', J.os, J.bare, J.base, J.hok, rv, q⟩
  cases fl with
  | ret u =>
    obtain ⟨v, σ', H', J, rv, q⟩ := hs
    exact fin J rv q
  | next =>
    obtain ⟨σ', H', J, q⟩ := hs
    exact fin (v := V.non) (u := Value.none) J rfl q
  | brk =>
    obtain ⟨_, _, _, q⟩ := hs
    exact False.elim q
  | cont =>
    obtain ⟨_, _, _, q⟩ := hs
    exact False.elim q
end L2

namespace L2
open PySem PySem.Spec PyProof.Rows
section
variable {X : Cx} {x : Str} {p pos : Pos} {e : Expr} {es : List Expr} {t : TA} {id T : String} {r : List V → Hp → VK → Prop}

def tCB (r : List V → Hp → VK → Prop) (t : TA) : TE := fun σ H Q => t σ H fun vs H1 => r vs H1 Q
/-- f(e, ..), f a built-in function -/
theorem pe_callB (hc : CallR X (.builtin id) r) (hg : Gl X x) (hm : X.mg x = none) (hv : bootBuiltins x = some (.builtin id)) (ha : PA X (e :: es) t) (hn : x ≠ "__name__" := by decide) (hdb : (x == ("__debug__" : Str)) = false := by decide)
    (he : starEach (e :: es) X.env = (false, eval e X.env) :: starEach es X.env := by rfl) (hpl : (backTo pos (starEach es X.env)).any (·.1) = false := by rfl) : PE X (.Call (.Name x p) (e :: es) [] pos) (tCB r t) := by
  intro pins s σ H Q I h
  refine wpAny_Call_Name_kw (ld_blt I hg hm hv ?_ hn hdb)
  exact PyProof.Rows.callWith_builtin1 (thn (ha pos pins s σ H _ I h) fun us s1 ⟨vs, H1, I1, r1, q1⟩ => hc pins s1 σ H1 vs us Q I1 r1 q1) he hpl
/-- T(e, ..), T a built-in type -/
theorem pe_callTy (hc : CallR X (.type T) r) (hg : Gl X x) (hm : X.mg x = none) (hv : bootBuiltins x = some (.type T)) (ha : PA X (e :: es) t) (hn : x ≠ "__name__" := by decide) (hdb : (x == ("__debug__" : Str)) = false := by decide)
    (he : starEach (e :: es) X.env = (false, eval e X.env) :: starEach es X.env := by rfl) (hpl : (backTo pos (starEach es X.env)).any (·.1) = false := by rfl) : PE X (.Call (.Name x p) (e :: es) [] pos) (tCB r t) := by
  intro pins s σ H Q I h
  refine wpAny_Call_Name_kw (ld_blt I hg hm hv ?_ hn hdb)
  exact PyProof.Rows.callWith_type1 (thn (ha pos pins s σ H _ I h) fun us s1 ⟨vs, H1, I1, r1, q1⟩ => hc pins s1 σ H1 vs us Q I1 r1 q1) he hpl
/-- T() -/
theorem pe_callTy0 (hc : CallR X (.type T) r) (hg : Gl X x) (hm : X.mg x = none) (hv : bootBuiltins x = some (.type T)) (hn : x ≠ "__name__" := by decide) (hdb : (x == ("__debug__" : Str)) = false := by decide) :
    PE X (.Call (.Name x p) [] [] pos) (tCB r tNil) := by
  intro pins s σ H Q I h
  refine wpAny_Call_Name_kw (ld_blt I hg hm hv ?_ hn hdb)
  exact PyProof.Rows.callWith_type0 (hc pins s σ H [] [] Q I .nil h)
end
end L2

namespace HT
open PySem PyProof.Rows

/-- t < u of tuples of ints -/
def lexLt : List Int → List Int → Bool
  | [], [] => false
  | [], _ :: _ => true
  | _ :: _, [] => false
  | x :: xs, y :: ys => if x = y then lexLt xs ys else decide (x < y)
theorem lexLt_cons (x y : Int) (xs ys : List Int) : lexLt (x :: xs) (y :: ys) = if x = y then lexLt xs ys else decide (x < y) := rfl
theorem lexLt_nil_nil : lexLt [] [] = false := rfl
theorem lexLt_nil_cons (y : Int) (ys : List Int) : lexLt [] (y :: ys) = true := rfl
theorem lexLt_cons_nil (x : Int) (xs : List Int) : lexLt (x :: xs) [] = false := rfl

theorem eqAt_int (A : Around) (s : Shared) (a : Int) (t : Tok) (c : Int) (u : Tok) : ∃ e, SeqAt.EqAt A s (.int a t) (.int c u) e ∧ (e = true ↔ a = c) :=
  ⟨(a == c), SeqAt.EqAt.int_int a t c u, by simp⟩
theorem rcLt_int (A : Around) (s : Shared) (a : Int) (t : Tok) (c : Int) (u : Tok) (prog : Program) (w : World) (E : Value → Shared → Prop) (Q : Value → Shared → Prop) (h : Q (.bool (decide (a < c))) s) :
    wpAny (model prog w) A (richCompare .Lt (.int a t) (.int c u)) Q E s :=
  (PyProof.Rows.lt_int h : wpAny (model prog w) A (compareOp .Lt (.int a t) (.int c u)) Q E s)

section
open PySem.SeqAt
open PySem.AutoSeq1 (wpAny_loadPart')
open PySem.MeetsSeq PySem.MeetsSeq2 PySem.MeetsSeq3

theorem tuple_lt_ints (l b : Addr) (items items2 : Array Value) (n n2 : Nat) (dd dd2 : Option Addr) (sl sl2 : Array (Option Value)) (ns ms : List Int) (hi : IntsAre items.toList ns) (hj : IntsAre items2.toList ms) :
    Meets (Builtin.«tuple.__lt__» ⟨[.ref l, .ref b], []⟩)
      (fun _ R s => s.heap.get? l = some { cls := .type "tuple", dict := dd, data := .seq items n, slots := sl } ∧ s.heap.get? b = some { cls := .type "tuple", dict := dd2, data := .seq items2 n2, slots := sl2 } ∧
        R (.ok (.ret (.bool (lexLt ns ms)))) s) :=
  .of_wp fun prog w A R s h => by
    obtain ⟨hp, g, d, tk, os⟩ := s; obtain ⟨hl, hb, h⟩ := h
    have f2 := AutoSeq1.sub_tuple_tuple
    have z1 : items.size = ns.length := by rw [← hi.length]; simp
    have z2 : items2.size = ms.length := by rw [← hj.length]; simp
    wp_walk using wpAny_loadPart' hl, wpAny_loadPart' hb, wpAny_forIn_list _ (fun rest b s' => b.1 = none ∧ s' = ⟨hp, g, d, tk, os⟩ ∧ ∃ (vs ws : List Value) (ns' ms' : List Int), rest = vs.zip ws ∧
      IntsAre vs ns' ∧ IntsAre ws ms' ∧ ns'.length + items2.size = ms'.length + items.size ∧ R (.ok (.ret (.bool (lexLt ns' ms')))) ⟨hp, g, d, tk, os⟩) _
    case turn =>
      rintro ⟨y, x⟩ rest b s' ⟨hb', rfl, vs, ws, ns', ms', hz, hvi, hwi, hlen, hR⟩
      cases hvi with
      | nil => rw [List.zip_nil_left] at hz; cases hz
      | cons a t hvi' =>
        cases hwi with
        | nil => rw [List.zip_nil_right] at hz; cases hz
        | cons c u hwi' =>
          rw [List.zip_cons_cons] at hz
          injection hz with hyx hrest
          injection hyx with hy hx
          subst hy hx
          rw [lexLt_cons] at hR
          simp only [List.length_cons] at hlen
          obtain ⟨e, he, hiff⟩ := eqAt_int A.in1 ⟨hp, g, d, tk, os⟩ a t c u
          refine wpAny_bind (he prog w _ _ ?_)
          cases e with
          | true =>
            rw [if_pos (hiff.mp rfl)] at hR
            wp_walk
            exact ⟨rfl, rfl, _, _, _, _, hrest, hvi', hwi', by omega, hR⟩
          | false =>
            rw [if_neg (fun q => absurd (hiff.mpr q) Bool.false_ne_true)] at hR
            have hri := rcLt_int A.in1 ⟨hp, g, d, tk, os⟩ a t c u prog w
            wp_walk using hri
            exact ⟨_, rfl, by simpa using hR⟩
    case fin =>
      rintro ⟨b1, b2⟩ s' ⟨hb', rfl, vs, ws, ns', ms', hz, hvi, hwi, hlen, hR⟩
      simp only at hb'
      subst hb'
      have hv : lexLt ns' ms' = decide (items.size < items2.size) := by
        cases hvi with
        | nil =>
          cases hwi with
          | nil =>
            simp only [List.length_nil] at hlen
            rw [lexLt_nil_nil]
            exact (decide_eq_false (by omega)).symm
          | cons c u hw =>
            simp only [List.length_nil, List.length_cons] at hlen
            rw [lexLt_nil_cons]
            exact (decide_eq_true (by omega)).symm
        | cons a t hv =>
          cases hwi with
          | nil =>
            simp only [List.length_nil, List.length_cons] at hlen
            rw [lexLt_cons_nil]
            exact (decide_eq_false (by omega)).symm
          | cons c u hw =>
            rw [List.zip_cons_cons] at hz
            cases hz
      rw [hv] at hR
      wp_walk
      exact ⟨_, rfl, by simpa [Builtin.Tuple.tupleCompareSizes] using hR⟩
    case h =>
      exact ⟨rfl, rfl, items.toList, items2.toList, ns, ms, rfl, hi, hj, by omega, h⟩
end

section
variable {prog : Program} {w : World} {A : Around} {E : Value → Shared → Prop} {s : Shared}

theorem lt_tupInts {l b : Addr} {items items2 : Array Value} {ns ms : List Int} {Q : Value → Shared → Prop} (hl : IsTup s.heap l items) (hb : IsTup s.heap b items2) (hi : IntsAre items.toList ns) (hj : IntsAre items2.toList ms)
    (hu : A.units < cLine) (h : Q (.bool (lexLt ns ms)) s) : wpAny (model prog w) A (compareOp .Lt (.ref l) (.ref b)) Q E s := by
  obtain ⟨⟨cls, dd, data, sl⟩, ho, hc, n, hd⟩ := id hl
  obtain ⟨⟨cls2, dd2, data2, sl2⟩, ho2, hc2, n2, hd2⟩ := id hb
  simp only at hc hd hc2 hd2
  subst hc hd hc2 hd2
  exact richCompare_meets_room (op := .Lt) ⟨_, ho, rfl⟩ ⟨_, ho2, rfl⟩ PySem.F.slot_tuple_lt PySem.F.entry_tuple_lt (PySem.F.args_tuple_lt_2 _ _) (tuple_lt_ints l b items items2 n n2 dd dd2 sl sl2 ns ms hi hj)
    ⟨ho, ho2, show Value.bool (lexLt ns ms) ≠ Value.notImplemented ∧ Q (.bool (lexLt ns ms)) s from ⟨(fun x => nomatch x), h⟩⟩ hu

/-- t + u, t not empty -/
theorem cat_tup {t b : Addr} {vs ws : List Value} {Q : Value → Shared → Prop} (ht : IsTup s.heap t vs.toArray) (hb : IsTup s.heap b ws.toArray) (hv : vs ≠ [])
    (h1 : ws = [] → Q (.ref t) s) (h2 : ws ≠ [] → Q (.ref s.heap.objs.size) { s with heap := s.heap.push { cls := .type "tuple", data := .seq (vs ++ ws).toArray } })
    (hsz : vs.length + ws.length ≤ sizeLine) : wpAny (model prog w) A (binaryOp .Add (.ref t) (.ref b)) Q E s := by
  obtain ⟨⟨cls, dd, data, sl⟩, ho, hc, n, hd⟩ := id ht
  obtain ⟨⟨cls2, dd2, data2, sl2⟩, ho2, hc2, n2, hd2⟩ := id hb
  simp only at hc hd hc2 hd2
  subst hc hd hc2 hd2
  have e : vs.toArray ++ ws.toArray = (vs ++ ws).toArray := by simp
  by_cases hw : ws = []
  · exact concat_meets ⟨_, ho, rfl⟩ ⟨_, ho2, rfl⟩ noFill_tuple_add seq_tuple_add PySem.F.slot_tuple_add PySem.F.entry_tuple_add (PySem.F.args_tuple_add_2 _ _)
      (tuple_addW1 t b vs.toArray ws.toArray n n2 dd dd2 sl sl2 (by simpa using hv) (by simp [hw])) ⟨ho, ho2, h1 hw⟩
  · refine concat_meets ⟨_, ho, rfl⟩ ⟨_, ho2, rfl⟩ noFill_tuple_add seq_tuple_add PySem.F.slot_tuple_add PySem.F.entry_tuple_add (PySem.F.args_tuple_add_2 _ _)
      (tuple_addW2 t b vs.toArray ws.toArray n n2 dd dd2 sl sl2 (by simpa using hv) (by simpa using hw) (by rw [List.size_toArray, List.size_toArray]; exact hsz)) ⟨ho, ho2, ?_⟩
    rw [e]
    exact h2 hw

/-! ### t[a:b], not the whole -/
/-- a slice's bound as a place among n (d where it is left out) -/
def sIx (n d : Nat) : Option Int → Nat
  | none => d
  | some v => if v < 0 then (v + (n : Int)).toNat else min v.toNat n
theorem sIx_none (n d : Nat) : sIx n d none = d := rfl
theorem sIx_nat (n d k : Nat) : sIx n d (some (k : Int)) = min k n := by
  show (if (k : Int) < 0 then ((k : Int) + (n : Int)).toNat else min (k : Int).toNat n) = min k n
  rw [if_neg (by omega), Int.toNat_natCast]
theorem sIx_le (n d : Nat) (hd : d ≤ n) (o : Option Int) : sIx n d o ≤ n := by
  cases o with
  | none => exact hd
  | some v =>
    show (if v < 0 then (v + (n : Int)).toNat else min v.toNat n) ≤ n
    by_cases hv : v < 0
    · rw [if_pos hv]; omega
    · rw [if_neg hv]; exact Nat.min_le_right _ _
theorem clip_eq (v : Int) (n d : Nat) : (if v < 0 then max (v + (n : Int)) 0 else min v (n : Int)) = ((sIx n d (some v) : Nat) : Int) := by
  show (if v < 0 then max (v + (n : Int)) 0 else min v (n : Int)) = (((if v < 0 then (v + (n : Int)).toNat else min v.toNat n) : Nat) : Int)
  by_cases hv : v < 0
  · simp only [if_pos hv]; omega
  · simp only [if_neg hv]; omega
theorem adjust_gen (lo hi : Option Int) (n : Nat) : Builtin.Slice.sliceAdjust lo hi 1 (n : Int) = (((sIx n 0 lo : Nat) : Int), ((sIx n n hi : Nat) : Int)) := by
  have h1 : ¬ ((1 : Int) < 0) := by omega
  unfold Builtin.Slice.sliceAdjust
  simp only [h1, if_false]
  refine Prod.ext ?_ ?_
  · cases lo with
    | none => rfl
    | some v => exact clip_eq v n 0
  · cases hi with
    | none => rfl
    | some v => exact clip_eq v n n
theorem places_gen (i j : Nat) : Builtin.Slice.slicePlaces (i : Int) (j : Int) 1 = j - i := by
  unfold Builtin.Slice.slicePlaces
  have h1 : (1 : Int) > 0 := by omega
  simp only [h1, if_true, Int.ediv_one]
  split <;> omega
theorem slicePart_ {v : Value} {o : Option Int} {Q : Option Int → Shared → Prop} (p : IsPart v o) (h : Q o s) : wpAny (model prog w) A (Builtin.Slice.slicePartIndex v) Q E s := by
  cases p with
  | none => exact slicePart_none h
  | int i t => exact slicePart_int h
theorem sliceApplied_gen {sl : Addr} {vl vu : Value} {lo hi : Option Int} {n : Nat} {Q : Int × Int × Nat → Shared → Prop} (hs : s.heap.IsSliceOf sl vl vu .none) (pl : IsPart vl lo) (pu : IsPart vu hi)
    (h : Q (((sIx n 0 lo : Nat) : Int), 1, sIx n n hi - sIx n 0 lo) s) : wpAny (model prog w) A (Builtin.Slice.sliceApplied (.ref sl) (pure (n : Int))) Q E s := by
  obtain ⟨os, hos, hcs, hds⟩ := id hs
  unfold Builtin.Slice.sliceApplied Builtin.Slice.sliceFields
  refine wpAny_bind (wpAny_bind (wpAny_field hos hds (x := vl) rfl (wpAny_bind (wpAny_field hos hds (x := vu) rfl (wpAny_bind (wpAny_field hos hds (x := .none) rfl (wpAny_pure ?_)))))))
  refine wpAny_bind (slicePart_none ?_)
  show wpAny _ _ (if ((1 : Int) == 0) = true then _ else _) _ _ s
  rw [if_neg (by decide)]
  refine wpAny_bind (slicePart_ pl (wpAny_bind (slicePart_ pu (wpAny_bind (wpAny_pure ?_)))))
  show wpAny _ _ (match Builtin.Slice.sliceAdjust lo hi 1 (n : Int) with | (lo, hi) => pure (lo, (1 : Int), Builtin.Slice.slicePlaces lo hi 1)) _ _ s
  rw [adjust_gen lo hi n]
  show wpAny _ _ (pure (((sIx n 0 lo : Nat) : Int), (1 : Int), Builtin.Slice.slicePlaces ((sIx n 0 lo : Nat) : Int) ((sIx n n hi : Nat) : Int) 1)) _ _ s
  rw [places_gen]
  exact wpAny_pure h
theorem pick_gen (xs : Array Value) (i k : Nat) : ((List.range k).filterMap fun (m : Nat) => xs[((i : Int) + (m : Int) * 1).toNat]?).toArray = ((xs.toList.drop i).take k).toArray := by
  have e : (fun (m : Nat) => xs[((i : Int) + (m : Int) * 1).toNat]?) = fun m => xs[i + m]? := by
    funext m
    have : ((i : Int) + (m : Int) * 1).toNat = i + m := by omega
    rw [this]
  rw [e]
  have := pick_run xs i k
  rw [List.filterMap_map] at this
  have e2 : ((fun x => xs[x]?) ∘ fun x => i + x) = fun m => xs[i + m]? := rfl
  rw [e2] at this
  rw [this]

theorem getItem_tuple_cut {t sl : Addr} {items : Array Value} {vl vu : Value} {lo hi : Option Int} {Q : Value → Shared → Prop} (ht : IsTup s.heap t items) (hs : s.heap.IsSliceOf sl vl vu .none) (pl : IsPart vl lo) (pu : IsPart vu hi)
    (hw : ¬ (sIx items.size 0 lo = 0 ∧ sIx items.size items.size hi = items.size))
    (h : Q (.ref s.heap.objs.size) { s with heap := s.heap.push { cls := .type "tuple", data := .seq ((items.toList.drop (sIx items.size 0 lo)).take (sIx items.size items.size hi - sIx items.size 0 lo)).toArray } })
    (hsz : items.size ≤ sizeLine) : wpAny (model prog w) A (getItem (.ref t) (.ref sl)) Q E s := by
  have htake : sizeOk (.seq ((items.toList.drop (sIx items.size 0 lo)).take (sIx items.size items.size hi - sIx items.size 0 lo)).toArray) := by
    show ((items.toList.drop (sIx items.size 0 lo)).take (sIx items.size items.size hi - sIx items.size 0 lo)).toArray.size ≤ sizeLine
    rw [List.size_toArray, List.length_take, List.length_drop, Array.length_toList]
    omega
  have hj : sIx items.size items.size hi ≤ items.size := sIx_le _ _ (Nat.le_refl _) hi
  obtain ⟨os, hos, hcs, hds⟩ := id hs
  have hTs : s.TypeIs (.ref sl) "slice" := ⟨os, hos, hcs⟩
  unfold getItem
  try with_reducible refine wpAny_holding ?_
  first | refine wpAny_bind (wpAny_pure ?_) | skip
  refine wpAny_bind (wpAny_sequenceKey ht.typeIs (by decide) ?_)
  refine wpAny_bind (wpAny_callSpecial?_slot (name := Str.ofString "__getitem__") ht.typeIs PyProof.Rows.slot_tuple_getitem
    (wpAny_call_entry PyProof.Rows.slot_tuple_getitem ht.typeIs entry_tuple_getitem ?_ (args_tuple_getitem _ _)))
  show wpAny _ _ (Builtin.Tuple.tupleItemsOf (.ref t) >>= _) _ _ s
  refine wpAny_bind (tupleItemsOf_ ht ?_)
  refine wpAny_bind (wpAny_typeOf hTs ?_)
  rw [if_pos (by decide)]
  refine wpAny_bind (sliceApplied_gen hs pl pu ?_)
  have hno : ¬ ((((sIx items.size 0 lo : Nat) : Int) == 0 && (1 : Int) == 1 && (sIx items.size items.size hi - sIx items.size 0 lo) == items.size) = true) := by
    intro q
    rw [Bool.and_eq_true, Bool.and_eq_true] at q
    have q1 : ((sIx items.size 0 lo : Nat) : Int) = 0 := eq_of_beq q.1.1
    have q2 : sIx items.size items.size hi - sIx items.size 0 lo = items.size := eq_of_beq q.2
    exact hw ⟨by omega, by omega⟩
  show wpAny _ _ (if (((sIx items.size 0 lo : Nat) : Int) == 0 && (1 : Int) == 1 && (sIx items.size items.size hi - sIx items.size 0 lo) == items.size) = true then _ else _) _ _ s
  rw [if_neg hno, pick_gen]
  first
    | exact wpAny_bind (m := Builtin.Tuple.tupleExact _) (wpAny_newObj_type (wpAny_pure ⟨_, rfl, wpAny_pure h⟩) htake)
    | exact wpAny_bind (m := Builtin.Tuple.tupleExact _) (wpAny_newObj_type (wpAny_bind (wpAny_pure (wpAny_pure ⟨_, rfl, wpAny_pure h⟩))) htake)
    | exact wpAny_bind (wpAny_bind (m := Builtin.Tuple.tupleExact _) (wpAny_newObj_type (wpAny_pure (wpAny_pure ⟨_, rfl, wpAny_pure h⟩)) htake))
    | exact wpAny_bind (wpAny_bind (m := Builtin.Tuple.tupleExact _) (wpAny_newObj_type (wpAny_pure ⟨_, rfl, wpAny_pure h⟩) htake))
end
end HT

namespace L2
open PySem PySem.Spec PyProof.Rows

/-! ### the parts of a slice -/
abbrev TO := St → Hp → (Option Int → Hp → Prop) → Prop
/-- a slice's part (left out, or an int) -/
def PO (X : Cx) (e : Option Expr) (t : TO) : Prop :=
  ∀ (pins : List (Addr × Obj)) (s : Shared) (σ : St) (H : Hp) (Q : Option Int → Hp → Prop), Inv X pins σ H s → t σ H Q →
    wpAny (model X.prog X.w) X.A (evalPart e X.env) (fun u s' => ∃ o H', Inv X pins σ H' s' ∧ IsPart u o ∧ Q o H') X.xe s
def tNoPart : TO := fun _ H Q => Q none H
def tPart (t : TE) : TO := fun σ H Q => t σ H fun x H1 => ∃ i, x = .int i ∧ Q (some i) H1

theorem intsAre_of {ns : List Int} : ∀ {us : List Value}, Vals (ns.map V.int) us → IntsAre us ns := by
  induction ns with
  | nil => intro us r; rw [List.map_nil] at r; cases r; exact .nil
  | cons n ns ih =>
    intro us r
    rw [List.map_cons] at r
    cases r with
    | cons r1 r2 =>
      obtain ⟨t, e⟩ := r1
      subst e
      exact .cons n t (ih r2)

section
variable {X : Cx} {e : Expr} {te : TE} {lo hi : Option Expr} {tl th : TO} {pos p2 : Pos}

theorem po_none : PO X none tNoPart := by
  intro pins s σ H Q I h
  rw [evalPart_none]
  exact wpAny_pure ⟨none, H, I, .none, h⟩
theorem po_some (h : PE X e te) : PO X (some e) (tPart te) := by
  intro pins s σ H Q I hw
  rw [evalPart_some]
  refine thn (h pins s σ H _ I hw) fun u s1 ⟨x, H1, I1, r1, q1⟩ => ?_
  obtain ⟨i, rfl, q⟩ := q1
  obtain ⟨t, rfl⟩ := r1
  exact ⟨some i, H1, I1, .int i t, q⟩

/-- what a slice of a value is, by values: the slice object stands at sl -/
def SlR (X : Cx) (r : V → Option Int → Option Int → Hp → VK → Prop) : Prop :=
  ∀ (pins : List (Addr × Obj)) (s : Shared) (σ : St) (H : Hp) (x : V) (v vl vu : Value) (lo hi : Option Int) (sl : Addr) (Q : VK), Inv X pins σ H s → RelV x v → s.heap.IsSliceOf sl vl vu .none → IsPart vl lo → IsPart vu hi → r x lo hi H Q →
    ∃ T id, typeLookup (.type T) "__getitem__" = pure (some (.builtin id)) ∧ s.TypeIs v T ∧ wpAny (model X.prog X.w) X.A (getItem v (.ref sl)) (EP X pins σ Q) X.xe s
theorem SlR.or {r r' : V → Option Int → Option Int → Hp → VK → Prop} (h : SlR X r) (h' : SlR X r') : SlR X (fun x lo hi H Q => r x lo hi H Q ∨ r' x lo hi H Q) := by
  intro pins s σ H x v vl vu lo hi sl Q I rx hs pl pu q
  rcases q with q | q
  · exact h pins s σ H x v vl vu lo hi sl Q I rx hs pl pu q
  · exact h' pins s σ H x v vl vu lo hi sl Q I rx hs pl pu q
def tSl (r : V → Option Int → Option Int → Hp → VK → Prop) (te : TE) (tl th : TO) : TE := fun σ H Q => te σ H fun x H1 => tl σ H1 fun l H2 => th σ H2 fun u H3 => r x l u H3 Q
/-- a[lo:hi], any a -/
theorem pe_slice {r : V → Option Int → Option Int → Hp → VK → Prop} (hr : SlR X r) (he : PE X e te) (hl : PO X lo tl) (hu : PO X hi th) : PE X (.Subscript e (.Slice lo hi none p2) pos) (tSl r te tl th) := by
  intro pins s σ H Q I h
  refine Subscript_ (thn (he pins s σ H _ I h) fun v s1 ⟨x, H1, I1, r1, q1⟩ => ?_)
  refine wpAny_Slice (thn (hl pins s1 σ H1 _ I1 q1) fun vl s2 ⟨l, H2, I2, pl, q2⟩ => thn (hu pins s2 σ H2 _ I2 q2) fun vu s3 ⟨u, H3, I3, pu, q3⟩ => ?_)
  rw [evalPart_none]
  refine wpAny_pure ?_
  have I4 : Inv X pins σ H3 { s3 with heap := s3.heap.push { cls := .type "slice", data := .fields #[vl, vu, .none] } } := I3.kept (t' := s3.toks) fun b ob q => Heap.get?_push_of_some _ q
  obtain ⟨T, id, hT, ht, hg⟩ := hr pins { s3 with heap := s3.heap.push { cls := .type "slice", data := .fields #[vl, vu, .none] } } σ H3 x v vl vu l u s3.heap.objs.size Q I4 r1 (Heap.IsSliceOf.new ..) pl pu q3
  show wpAny (model X.prog X.w) X.A (subscriptTail e (.Slice lo hi none p2) v (.ref s3.heap.objs.size)) (EP X pins σ Q) X.xe { s3 with heap := s3.heap.push { cls := .type "slice", data := .fields #[vl, vu, .none] } }
  exact tail_any (ops := [.ref s3.heap.objs.size, v]) ht hT hg (by with_unfolding_all rfl)

/-- the items of xs[lo:hi] -/
def cutV (xs : List V) (lo hi : Option Int) : List V := (xs.drop (HT.sIx xs.length 0 lo)).take (HT.sIx xs.length xs.length hi - HT.sIx xs.length 0 lo)
theorem cutV_length (xs : List V) (lo hi : Option Int) : (cutV xs lo hi).length ≤ xs.length := by
  unfold cutV
  rw [List.length_take, List.length_drop]
  omega
/-- t[lo:hi], not the whole of it (the whole would be t itself) -/
def rSlT (K : PySem.W.Frag) : V → Option Int → Option Int → Hp → VK → Prop := fun x lo hi H Q => ∃ a xs, x = .ref a ∧ SqT K H a xs ∧
  ¬ (HT.sIx xs.length 0 lo = 0 ∧ HT.sIx xs.length xs.length hi = xs.length) ∧ ∀ p, H p = none → Q (.ref p) (upd H p (.tup (cutV xs lo hi)))
theorem sl_tup : SlR X (rSlT X.K) := by
  intro pins s σ H x v vl vu lo hi sl Q I rx hs pl pu h
  obtain ⟨a, xs, rfl, hx, hw, q⟩ := h
  cases rx
  obtain ⟨its, r, ht, hz⟩ := I.tuple hx
  have hlen : its.toArray.size = xs.length := by rw [List.size_toArray]; exact r.length.symm
  refine ⟨"tuple", _, PyProof.Rows.slot_tuple_getitem.lookup, ht.typeIs, ?_⟩
  refine HT.getItem_tuple_cut ht hs pl pu (by rw [hlen]; exact hw) ?_ (by rw [hlen]; exact hz)
  rw [hlen]
  refine ⟨.ref s.heap.objs.size, _, I.laid (t' := s.toks) (o := .tup (cutV xs lo hi)) (fun b ob q => Heap.get?_push_of_some _ q) (Nat.le_refl _) ?_, rfl, q _ (I.hok.fresh (Nat.le_refl _))⟩
  exact ⟨Nat.le_trans (cutV_length xs lo hi) hz, _, (r.drop (HT.sIx xs.length 0 lo)).take (HT.sIx xs.length xs.length hi - HT.sIx xs.length 0 lo), IsTup.new _ _⟩

/-! ### t < u, t + u -/
def rLtT (K : PySem.W.Frag) : R2 := fun x y H Q => ∃ a b ns ms, x = .ref a ∧ y = .ref b ∧ SqT K H a (ns.map V.int) ∧ SqT K H b (ms.map V.int) ∧ Q (.bl (HT.lexLt ns ms)) H
theorem op_ltT (hu : X.A.units < cLine) : OpR X (compareOp .Lt) (rLtT X.K) := by
  intro pins s σ H x y v u Q I rx ry h
  obtain ⟨a, b, ns, ms, rfl, rfl, ha, hb, q⟩ := h
  cases rx
  cases ry
  obtain ⟨its, r1, p1, _⟩ := I.tuple ha
  obtain ⟨its2, r2, p2, _⟩ := I.tuple hb
  have i1 : IntsAre its.toArray.toList ns := intsAre_of r1
  have i2 : IntsAre its2.toArray.toList ms := intsAre_of r2
  exact HT.lt_tupInts p1 p2 i1 i2 hu ⟨.bl (HT.lexLt ns ms), H, I, rfl, q⟩
/-- t + u, t not empty: u empty gives t itself -/
def rCatT (K : PySem.W.Frag) : R2 := fun x y H Q => ∃ a b xs ys, x = .ref a ∧ y = .ref b ∧ SqT K H a xs ∧ SqT K H b ys ∧ xs ≠ [] ∧ xs.length + ys.length ≤ sizeLine ∧
  (ys = [] → Q (.ref a) H) ∧ (ys ≠ [] → ∀ p, H p = none → Q (.ref p) (upd H p (.tup (xs ++ ys))))
theorem Vals.nil_iff {xs : List V} {us : List Value} (r : Vals xs us) : us = [] ↔ xs = [] := by
  cases r with
  | nil => simp
  | cons _ _ => simp
theorem op_catT : OpR X (binaryOp .Add) (rCatT X.K) := by
  intro pins s σ H x y v u Q I rx ry h
  obtain ⟨a, b, xs, ys, rfl, rfl, ha, hb, hx, hz, q1, q2⟩ := h
  cases rx
  cases ry
  obtain ⟨its, r1, p1, _⟩ := I.tuple ha
  obtain ⟨its2, r2, p2, _⟩ := I.tuple hb
  refine HT.cat_tup p1 p2 (fun z => hx (r1.nil_iff.mp z)) (fun z => ⟨.ref a, H, I, rfl, q1 (r2.nil_iff.mp z)⟩) (fun z => ?_) (by rw [← r1.length, ← r2.length]; exact hz)
  refine ⟨.ref s.heap.objs.size, _, I.laid (t' := s.toks) (o := .tup (xs ++ ys)) (fun b ob q => Heap.get?_push_of_some _ q) (Nat.le_refl _) ?_, rfl, q2 (fun w => z (r2.nil_iff.mpr w)) _ (I.hok.fresh (Nat.le_refl _))⟩
  exact ⟨by rw [List.length_append]; exact hz, _, r1.append r2, IsTup.new _ _⟩
/-- tuple(t) -/
theorem call_tupleT : CallR X (.type "tuple") (fun xs H Q => ∃ a ys, xs = [.ref a] ∧ SqT X.K H a ys ∧ Q (.ref a) H) := by
  intro pins s σ H xs us Q I r h
  obtain ⟨a, ys, rfl, ha, q⟩ := h
  obtain ⟨u, rfl, ru⟩ := vals1 r
  cases ru
  obtain ⟨its, _, p1, _⟩ := I.tuple ha
  exact call_tuple_same (items := its.toArray) p1 ⟨.ref a, H, I, rfl, q⟩
end
end L2

namespace L2
open PySem PySem.Spec PyProof.Rows

/-! ### places -/
/-- the place that an index of any sign means -/
def ixN (n : Nat) (i : Int) : Option Nat := if 0 ≤ i then (if i < n then some i.toNat else none) else if -(n : Int) ≤ i then some (i + n).toNat else none
def atI {α : Type} (xs : List α) (i : Int) : Option α := (ixN xs.length i).bind fun j => xs[j]?
theorem ixN_seq {n : Nat} {i : Int} {j : Nat} (h : ixN n i = some j) : seqIndex? i n = some j ∧ j < n ∧ -(n : Int) ≤ i ∧ i < n := by
  unfold ixN at h
  by_cases h0 : 0 ≤ i
  · rw [if_pos h0] at h
    by_cases h1 : i < n
    · rw [if_pos h1] at h
      have e : i.toNat = j := Option.some.inj h
      exact ⟨by rw [seqIndex_of h0 h1, e], by omega, by omega, h1⟩
    · rw [if_neg h1] at h; cases h
  · rw [if_neg h0] at h
    by_cases h1 : -(n : Int) ≤ i
    · rw [if_pos h1] at h
      have e : (i + n).toNat = j := Option.some.inj h
      exact ⟨by rw [seqIndex_neg (by omega) h1, e], by omega, h1, by omega⟩
    · rw [if_neg h1] at h; cases h
theorem atI_get {α : Type} {xs : List α} {i : Int} {v : α} (h : atI xs i = some v) : ∃ j, seqIndex? i xs.length = some j ∧ xs[j]? = some v ∧ j < xs.length ∧ -(xs.length : Int) ≤ i ∧ i < xs.length := by
  unfold atI at h
  cases e : ixN xs.length i with
  | none => rw [e] at h; cases h
  | some j =>
    rw [e] at h
    obtain ⟨h1, h2, h3, h4⟩ := ixN_seq e
    exact ⟨j, h1, h, h2, h3, h4⟩
theorem atI_nat {α : Type} {xs : List α} {j : Nat} {v : α} (h : xs[j]? = some v) : atI xs (j : Int) = some v := by
  have hj : j < xs.length := (List.getElem?_eq_some_iff.mp h).1
  have e : ixN xs.length (j : Int) = some j := by
    unfold ixN
    rw [if_pos (by omega), if_pos (by omega)]; simp
  unfold atI; rw [e]; exact h
theorem atI_last {α : Type} (xs : List α) (v : α) : atI (xs ++ [v]) (-1) = some v := by
  have hl : (xs ++ [v]).length = xs.length + 1 := by simp
  have e : ixN (xs ++ [v]).length (-1) = some xs.length := by
    unfold ixN
    rw [hl, if_neg (by decide), if_pos (by omega)]
    congr 1
    omega
  unfold atI
  rw [e]
  show (xs ++ [v])[xs.length]? = some v
  simp

/-! ### what may be subscripted -/
/-- what stands as an index of a plain subscript -/
def PlainIx (b : Expr) : Prop := ∀ o i, subscripted b false o i = operate [o, i] (getItem o i)
/-- a subscript by values -/
def IxR (X : Cx) (r : R2) : Prop :=
  ∀ (value slice : Expr) (pins : List (Addr × Obj)) (s : Shared) (σ : St) (H : Hp) (x y : V) (v u : Value) (Q : VK), Inv X pins σ H s → RelV x v → RelV y u → r x y H Q →
    subscripted slice false v u = operate [v, u] (getItem v u) → wpAny (model X.prog X.w) X.A (subscriptTail value slice v u) (EP X pins σ Q) X.xe s
/-- a call of a builtin's method by values: the receiver, the arguments -/
def MtR (X : Cx) (id : String) (r : V → List V → Hp → VK → Prop) : Prop :=
  ∀ (pins : List (Addr × Obj)) (s : Shared) (σ : St) (H : Hp) (x : V) (xs : List V) (v : Value) (us : List Value) (Q : VK), Inv X pins σ H s → RelV x v → Vals xs us → r x xs H Q →
    wpAny (model X.prog X.w) X.A (call (.builtin id) (v :: us)) (EP X pins σ Q) X.xe s
section
variable {X : Cx} {a b : Expr} {ta tb : TE} {pos : Pos}
theorem IxR.or {r r' : R2} (h : IxR X r) (h' : IxR X r') : IxR X (fun x y H Q => r x y H Q ∨ r' x y H Q) := by
  intro value slice pins s σ H x y v u Q I rx ry q hs
  rcases q with q | q
  · exact h value slice pins s σ H x y v u Q I rx ry q hs
  · exact h' value slice pins s σ H x y v u Q I rx ry q hs
theorem MtR.or {id : String} {r r' : V → List V → Hp → VK → Prop} (h : MtR X id r) (h' : MtR X id r') : MtR X id (fun x xs H Q => r x xs H Q ∨ r' x xs H Q) := by
  intro pins s σ H x xs v us Q I rx rs q
  rcases q with q | q
  · exact h pins s σ H x xs v us Q I rx rs q
  · exact h' pins s σ H x xs v us Q I rx rs q
/-- a[b] -/
theorem pe_ix {r : R2} (hr : IxR X r) (ha : PE X a ta) (hb : PE X b tb) (hs : PlainIx b) : PE X (.Subscript a b pos) (tOp r ta tb) := by
  intro pins s σ H Q I h
  exact Subscript_ (binT ha hb I h fun v u s2 x y H2 I2 rx ry q => hr a b pins s2 σ H2 x y v u Q I2 rx ry q (hs _ _))

def rIxL (K : PySem.W.Frag) : R2 := fun x y H Q => ∃ p xs i v, x = .ref p ∧ y = .int i ∧ SqL K H p xs ∧ atI xs i = some v ∧ Q v H
def rIxT (K : PySem.W.Frag) : R2 := fun x y H Q => ∃ p xs i v, x = .ref p ∧ y = .int i ∧ SqT K H p xs ∧ atI xs i = some v ∧ Q v H
def rIxS : R2 := fun x y H Q => ∃ z i c, x = .str z ∧ y = .int i ∧ z.length ≤ sizeLine ∧ atI z.cps.toList i = some c ∧ Q (.str ⟨#[c]⟩) H
theorem ix_list : IxR X (rIxL X.K) := by
  intro value slice pins s σ H x y v u Q I rx ry h hs
  obtain ⟨p, xs, i, z, rfl, rfl, hq, he, q⟩ := h
  cases rx
  obtain ⟨t, rfl⟩ := ry
  obtain ⟨its, r, pl, hz⟩ := I.list hq
  obtain ⟨j, h1, h2, h3, h4, h5⟩ := atI_get he
  obtain ⟨w, ew, rw'⟩ := r.get h2
  have hl := r.length
  have hn := line63
  have fin : EP X pins σ Q w s := ⟨z, H, I, rw', q⟩
  by_cases h0 : 0 ≤ i
  · have hj : i.toNat = j := by
      rw [seqIndex_of h0 h5] at h1
      exact Option.some.inj h1
    exact item_listR pl.isList h0 (by omega) (by rw [hj]; simpa using ew) fin hs
  · have hj : (i + (its.toArray.size : Int)).toNat = j := by
      rw [seqIndex_neg (by omega) h4] at h1
      rw [List.size_toArray, ← hl]
      exact Option.some.inj h1
    exact subscriptTail_builtinR (x := w) pl.isList.typeIs slot_list_getitem.lookup
      (wpAny_getItem_list_neg (Q := fun r s' => r = w ∧ EP X pins σ Q r s') pl.isList (by omega) (by rw [List.size_toArray] <;> omega) (by omega) (by rw [hj]; simpa using ew) ⟨rfl, fin⟩) hs
theorem ix_tup : IxR X (rIxT X.K) := by
  intro value slice pins s σ H x y v u Q I rx ry h hs
  obtain ⟨p, xs, i, z, rfl, rfl, hq, he, q⟩ := h
  cases rx
  obtain ⟨t, rfl⟩ := ry
  obtain ⟨its, r, pl, hz⟩ := I.tuple hq
  obtain ⟨j, h1, h2, h3, h4, h5⟩ := atI_get he
  obtain ⟨w, ew, rw'⟩ := r.get h2
  have hl := r.length
  have hn := line63
  have fin : EP X pins σ Q w s := ⟨z, H, I, rw', q⟩
  exact subscriptTail_builtinR (x := w) pl.typeIs slot_tuple_getitem.lookup
    (getItem_tuple (j := j) (Q := fun r s' => r = w ∧ EP X pins σ Q r s') pl (by omega) (by omega) (by rw [List.size_toArray, ← hl]; exact h1) (by simpa using ew) ⟨rfl, fin⟩) hs
theorem ix_str : IxR X rIxS := by
  intro value slice pins s σ H x y v u Q I rx ry h hs
  obtain ⟨z, i, c, rfl, rfl, hz, he, q⟩ := h
  obtain ⟨t, rfl⟩ := rx
  obtain ⟨t', rfl⟩ := ry
  obtain ⟨j, h1, h2, h3, h4, h5⟩ := atI_get he
  have hl : z.cps.toList.length = z.length := by simp [Str.length]
  rw [hl] at h1 h4 h5
  have hn := line63
  exact tail_any (typeIs_str s z t) slot_str_getitem.lookup (getItem_str (c := c) (by
    have e1 : decide (i < -(2 ^ 63 : Int)) = false := decide_eq_false (by omega)
    have e2 : decide (i ≥ 2 ^ 63) = false := decide_eq_false (by omega)
    rw [e1, e2, Bool.or_false]) (by rw [h1]; simpa using h2) ⟨.str ⟨#[c]⟩, H, I.tok _, ⟨_, rfl⟩, q⟩) hs
/-- list, tuple or str -/
def rIx (K : PySem.W.Frag) : R2 := fun x y H Q => rIxL K x y H Q ∨ rIxT K x y H Q ∨ rIxS x y H Q
theorem ix_seq : IxR X (rIx X.K) := ix_list.or (ix_tup.or ix_str)

/-! ### xs[i] = v, any sign -/
/-- the list's object behind a store -/
theorem mapSeq_set (its : List Value) (n j : Nat) (u : Value) : Obj.mapSeq (·.setIfInBounds j u) { cls := .type "list", data := .seq its.toArray n } = { cls := .type "list", data := .seq (its.set j u).toArray n } := by
  simp [Obj.mapSeq]
theorem Inv.lst {pins : List (Addr × Obj)} {σ : St} {H : Hp} {s : Shared} {p : Addr} {xs : List V} (I : Inv X pins σ H s) (h : H p = some (.lst xs)) :
    ∃ (its : List Value) (n : Nat), Vals xs its ∧ s.heap.get? p = some { cls := .type "list", data := .seq its.toArray n } ∧ xs.length ≤ sizeLine := by
  obtain ⟨z, its, n, r, e⟩ := I.hok p _ h
  exact ⟨its, n, r, e, z⟩
/-- the list at p is written by an update of its object -/
theorem Inv.lstUpd {pins : List (Addr × Obj)} {σ : St} {H : Hp} {s : Shared} {p : Addr} {xs ys : List V} {its its' : List Value} {n n' : Nat} {f : Obj → Obj} (I : Inv X pins σ H s) (h : H p = some (.lst xs))
    (ho : s.heap.get? p = some { cls := .type "list", data := .seq its.toArray n }) (hf : f { cls := .type "list", data := .seq its.toArray n } = { cls := .type "list", data := .seq its'.toArray n' }) (r : Vals ys its') (hz : ys.length ≤ sizeLine) (t : Nat) :
    Inv X pins σ (upd H p (.lst ys)) { s with heap := s.heap.update p f, toks := t } := by
  have e : (s.heap.update p f).get? p = some { cls := .type "list", data := .seq its'.toArray n' } := by
    rw [Heap.get?_update_self f ho (by rw [hf] <;> rfl), hf]
  refine I.write (x := p) (e := p) (by rw [h]; trivial) (.inl rfl) (fun b u hb q => (Heap.get?_update_other _ _ (Ne.symm hb)).trans q) ⟨_, e⟩ ?_
  exact ⟨hz, its', n', r, e⟩
def rSetL : V → V → V → Hp → (Hp → Prop) → Prop := fun o i v H Q => ∃ p xs k j, o = .ref p ∧ i = .int k ∧ H p = some (.lst xs) ∧ ixN xs.length k = some j ∧ Q (upd H p (.lst (xs.set j v)))
theorem set_list : PSet X rSetL := by
  intro pins s σ H o i v ov iv u Q I ro ri rv h
  obtain ⟨p, xs, k, j, rfl, rfl, hp, hj, q⟩ := h
  cases ro
  obtain ⟨t, rfl⟩ := ri
  obtain ⟨its, n, r, ho, hz⟩ := I.lst hp
  obtain ⟨h1, h2, h3, h4⟩ := ixN_seq hj
  have hl := r.length
  have hn := line63
  have I' : Inv X pins σ (upd H p (.lst (xs.set j v))) { s with heap := s.heap.update p (Obj.mapSeq (·.setIfInBounds j u)) } :=
    I.lstUpd hp ho (mapSeq_set its n j u) (r.set rv j) (by rw [List.length_set]; exact hz) s.toks
  by_cases h0 : 0 ≤ k
  · have hk : k.toNat = j := by
      rw [seqIndex_of h0 h4] at h1
      exact Option.some.inj h1
    exact PySem.W.ki_setAt ho h0 (by omega) (by rw [List.size_toArray, ← hl]; exact h4) (by rw [hk]; exact ⟨_, I', q⟩)
  · have hk : (k + (its.toArray.size : Int)).toNat = j := by
      rw [seqIndex_neg (by omega) h3] at h1
      rw [List.size_toArray, ← hl]
      exact Option.some.inj h1
    exact PySem.W.ki_setBack ho (by omega) (by rw [List.size_toArray, ← hl]; exact h3) (by omega) (by rw [hk]; exact ⟨_, I', q⟩)

/-! ### slices -/
theorem slice_bounds (lo hi : Option Int) (n : Nat) : (sliceBounds lo hi none n).1 = ((HT.sIx n 0 lo : Nat) : Int) ∧ (sliceBounds lo hi none n).2.1 = ((HT.sIx n n hi : Nat) : Int) ∧ (sliceBounds lo hi none n).2.2 = 1 := by
  refine ⟨?_, ?_, rfl⟩
  · cases lo with
    | none => simp [sliceBounds, HT.sIx]
    | some i =>
      simp only [sliceBounds, HT.sIx, Option.getD_none, show (1 : Int) > 0 by decide, if_true]
      by_cases h : i < 0
      · simp only [h, if_true] <;> omega
      · simp only [h, if_false] <;> omega
  · cases hi with
    | none => simp [sliceBounds, HT.sIx]
    | some i =>
      simp only [sliceBounds, HT.sIx, Option.getD_none, show (1 : Int) > 0 by decide, if_true]
      by_cases h : i < 0
      · simp only [h, if_true] <;> omega
      · simp only [h, if_false] <;> omega
theorem slicePick_cut (its : List Value) (lo hi : Option Int) : slicePick its.toArray lo hi none = ((its.drop (HT.sIx its.length 0 lo)).take (HT.sIx its.length its.length hi - HT.sIx its.length 0 lo)).toArray := by
  obtain ⟨h1, h2, h3⟩ := slice_bounds lo hi its.toArray.size
  unfold slicePick
  rw [h1, h2, h3]
  simp only [sliceRange_one, pick_run, List.size_toArray] <;> rfl
/-- xs[lo:hi] of a list: a new list -/
def rSlL (K : PySem.W.Frag) : V → Option Int → Option Int → Hp → VK → Prop := fun x lo hi H Q => ∃ a xs, x = .ref a ∧ SqL K H a xs ∧ ∀ p, H p = none → Q (.ref p) (upd H p (.lst (cutV xs lo hi)))
theorem sl_list : SlR X (rSlL X.K) := by
  intro pins s σ H x v vl vu lo hi sl Q I rx hs pl pu h
  obtain ⟨a, xs, rfl, hx, q⟩ := h
  cases rx
  obtain ⟨its, r, ht, hz⟩ := I.list hx
  have hlen := r.length
  refine ⟨"list", _, slot_list_getitem.lookup, ht.isList.typeIs, ?_⟩
  refine wpAny_getItem_list_slice ht.isList hs pl pu .none (by simp) ?_ (by rw [List.size_toArray] <;> omega)
  rw [slicePick_cut, ← hlen]
  refine ⟨.ref s.heap.objs.size, _, I.laid (t' := s.toks) (o := .lst (cutV xs lo hi)) (fun b ob q => Heap.get?_push_of_some _ q) (Nat.le_refl _) ?_, rfl, q _ (I.hok.fresh (Nat.le_refl _))⟩
  exact ⟨Nat.le_trans (cutV_length xs lo hi) hz, _, 0, (r.drop (HT.sIx xs.length 0 lo)).take (HT.sIx xs.length xs.length hi - HT.sIx xs.length 0 lo), Heap.get?_push_size _ rfl⟩

/-! ### in, not in: flat items -/
def flatV : V → Bool
  | .non => true
  | .bl _ => true
  | .int _ => true
  | .str _ => true
  | _ => false
/-- == of flat values -/
def eqV : V → V → Bool
  | .non, .non => true
  | .bl a, .bl b => a == b
  | .bl a, .int b => (if a then 1 else 0) == b
  | .int a, .bl b => a == (if b then 1 else 0)
  | .int a, .int b => a == b
  | .str a, .str b => a == b
  | _, _ => false
theorem eqAt_V {A : Around} {s : Shared} {y x : V} {u v : Value} (ry : RelV y u) (rx : RelV x v) (fy : flatV y = true) (fx : flatV x = true) : SeqAt.EqAt A s u v (eqV y x) := by
  cases y with
  | non =>
    cases ry
    cases x with
    | non => cases rx; exact SeqAt.EqAt.same _
    | bl b => cases rx; exact SeqAt.EqAt.none_bool b
    | int b => obtain ⟨t, rfl⟩ := rx; exact SeqAt.EqAt.none_int b t
    | str b => obtain ⟨t, rfl⟩ := rx; exact SeqAt.EqAt.none_str b t
    | _ => exact absurd (show false = true from fx) Bool.false_ne_true
  | bl a =>
    cases ry
    cases x with
    | non => cases rx; exact SeqAt.EqAt.bool_none a
    | bl b => cases rx; exact SeqAt.EqAt.bool_bool a b
    | int b => obtain ⟨t, rfl⟩ := rx; exact SeqAt.EqAt.bool_int a b t
    | str b => obtain ⟨t, rfl⟩ := rx; exact SeqAt.EqAt.bool_str a b t
    | _ => exact absurd (show false = true from fx) Bool.false_ne_true
  | int a =>
    obtain ⟨t', rfl⟩ := ry
    cases x with
    | non => cases rx; exact SeqAt.EqAt.int_none a t'
    | bl b => cases rx; exact SeqAt.EqAt.int_bool a t' b
    | int b => obtain ⟨t, rfl⟩ := rx; exact SeqAt.EqAt.int_int a t' b t
    | str b => obtain ⟨t, rfl⟩ := rx; exact SeqAt.EqAt.int_str a t' b t
    | _ => exact absurd (show false = true from fx) Bool.false_ne_true
  | str a =>
    obtain ⟨t', rfl⟩ := ry
    cases x with
    | non => cases rx; exact SeqAt.EqAt.str_none a t'
    | bl b => cases rx; exact SeqAt.EqAt.str_bool a t' b
    | int b => obtain ⟨t, rfl⟩ := rx; exact SeqAt.EqAt.str_int a t' b t
    | str b => obtain ⟨t, rfl⟩ := rx; exact SeqAt.EqAt.str_str a t' b t
    | _ => exact absurd (show false = true from fx) Bool.false_ne_true
  | _ => exact absurd (show false = true from fy) Bool.false_ne_true
/-- the items' answers, read off the values (a value's own answer does not lean on its token) -/
def eqU (x : V) (u : Value) : Bool := match u with
  | .none => eqV .non x
  | .bool b => eqV (.bl b) x
  | .int i _ => eqV (.int i) x
  | .str z _ => eqV (.str z) x
  | _ => false
theorem eqU_of {x y : V} {u : Value} (r : RelV y u) (f : flatV y = true) : eqU x u = eqV y x := by
  cases y with
  | non => cases r; rfl
  | bl b => cases r; rfl
  | int i => obtain ⟨t, rfl⟩ := r; rfl
  | str z => obtain ⟨t, rfl⟩ := r; rfl
  | _ => exact absurd (show false = true from f) Bool.false_ne_true
theorem any_eqU {x : V} : ∀ {xs : List V} {us : List Value}, Vals xs us → xs.all flatV = true → us.any (eqU x) = xs.any fun y => eqV y x
  | _, _, .nil, _ => rfl
  | y :: xs, u :: us, .cons r t, f => by
    rw [List.all_cons, Bool.and_eq_true] at f
    rw [List.any_cons, List.any_cons, eqU_of r f.1, any_eqU t f.2]
theorem mem_eqAt {A : Around} {s : Shared} {x : V} {v : Value} (rx : RelV x v) (fx : flatV x = true) : ∀ {xs : List V} {us : List Value}, Vals xs us → xs.all flatV = true → ∀ u ∈ us, SeqAt.EqAt A s u v (eqU x u)
  | _, _, .nil, _ => fun u hu => by cases hu
  | y :: xs, u :: us, .cons r t, f => fun u' hu => by
    rw [List.all_cons, Bool.and_eq_true] at f
    rcases List.mem_cons.mp hu with rfl | hu
    · rw [eqU_of r f.1]; exact eqAt_V r rx f.1 fx
    · exact mem_eqAt rx fx t f.2 u' hu
def inV (x : V) (xs : List V) : Bool := xs.any fun y => eqV y x
/-- x in a list or tuple of flat items -/
def rIn (K : PySem.W.Frag) (neg : Bool) : R2 := fun x y H Q => ∃ p xs, y = .ref p ∧ (SqL K H p xs ∨ SqT K H p xs) ∧ flatV x = true ∧ xs.all flatV = true ∧ Q (.bl (if neg then !inV x xs else inV x xs)) H
theorem op_in_seq : OpR X (compareOp .In) (rIn X.K false) := by
  intro pins s σ H x y v u Q I rx ry h
  obtain ⟨p, xs, rfl, hq, fx, fs, q⟩ := h
  cases ry
  rcases hq with hq | hq
  · obtain ⟨its, r, pl, hz⟩ := I.list hq
    refine SeqAt.in_listAt (eqU x) pl.isList (fun w hw => mem_eqAt rx fx r fs w (by simpa using hw)) ⟨.bl _, H, I, rfl, ?_⟩
    rw [show its.toArray.any (eqU x) = its.any (eqU x) by simp, any_eqU r fs]
    exact q
  · obtain ⟨its, r, pl, hz⟩ := I.tuple hq
    refine SeqAt.in_tupleAt (eqU x) pl (fun w hw => mem_eqAt rx fx r fs w (by simpa using hw)) ⟨.bl _, H, I, rfl, ?_⟩
    rw [show its.toArray.any (eqU x) = its.any (eqU x) by simp, any_eqU r fs]
    exact q
theorem op_notIn_seq : OpR X (compareOp .NotIn) (rIn X.K true) := by
  intro pins s σ H x y v u Q I rx ry h
  obtain ⟨p, xs, rfl, hq, fx, fs, q⟩ := h
  cases ry
  rcases hq with hq | hq
  · obtain ⟨its, r, pl, hz⟩ := I.list hq
    refine SeqAt.notIn_listAt (eqU x) pl.isList (fun w hw => mem_eqAt rx fx r fs w (by simpa using hw)) ⟨.bl _, H, I, rfl, ?_⟩
    rw [show its.toArray.any (eqU x) = its.any (eqU x) by simp, any_eqU r fs]
    exact q
  · obtain ⟨its, r, pl, hz⟩ := I.tuple hq
    refine SeqAt.notIn_tupleAt (eqU x) pl (fun w hw => mem_eqAt rx fx r fs w (by simpa using hw)) ⟨.bl _, H, I, rfl, ?_⟩
    rw [show its.toArray.any (eqU x) = its.any (eqU x) by simp, any_eqU r fs]
    exact q
theorem op_notIn_str : OpR X (compareOp .NotIn) (fun x y H Q => ∃ i j, x = .str i ∧ y = .str j ∧ Q (.bl (!(!(Builtin.Str.occurrences j i 0 j.length 1).isEmpty))) H) := by
  intro pins s σ H x y v u Q I rx ry h
  obtain ⟨i, j, rfl, rfl, q⟩ := h
  obtain ⟨t, rfl⟩ := rx
  obtain ⟨t', rfl⟩ := ry
  exact notIn_str ⟨.bl _, H, I, rfl, q⟩

/-! ### len, list(x), tuple(x) of any list or tuple that is read -/
theorem call_len_seq : CallR X (.builtin "len") (fun xs H Q => ∃ p ys, xs = [.ref p] ∧ (SqL X.K H p ys ∨ SqT X.K H p ys) ∧ Q (.int ys.length) H) := by
  intro pins s σ H xs us Q I r h
  obtain ⟨p, ys, rfl, hq, q⟩ := h
  obtain ⟨u, rfl, rx⟩ := vals1 r
  cases rx
  have hn := line63
  rcases hq with hq | hq
  · obtain ⟨its, r', pl, hz⟩ := I.list hq
    have hlen := r'.length
    exact Calls.call_len_list pl.isList (by simp only [List.size_toArray] <;> omega) ⟨.int ys.length, H, I.tok _, ⟨s.toks + 1, by rw [List.size_toArray, hlen]⟩, q⟩
  · obtain ⟨its, r', pl, hz⟩ := I.tuple hq
    have hlen := r'.length
    exact len_tuple pl (by simp only [List.size_toArray] <;> omega) ⟨.int ys.length, H, I.tok _, ⟨s.toks + 1, by rw [List.size_toArray, hlen]⟩, q⟩
theorem call_len_str : CallR X (.builtin "len") (fun xs H Q => ∃ z, xs = [.str z] ∧ z.length ≤ sizeLine ∧ Q (.int z.length) H) := by
  intro pins s σ H xs us Q I r h
  obtain ⟨z, rfl, hz, q⟩ := h
  obtain ⟨u, rfl, t, rfl⟩ := vals1 r
  have hn := line63
  exact len_str (by omega) ⟨.int z.length, H, I.tok _, ⟨_, rfl⟩, q⟩
theorem CallR.or {f : Value} {r r' : List V → Hp → VK → Prop} (h : CallR X f r) (h' : CallR X f r') : CallR X f (fun xs H Q => r xs H Q ∨ r' xs H Q) := by
  intro pins s σ H xs us Q I rs q
  rcases q with q | q
  · exact h pins s σ H xs us Q I rs q
  · exact h' pins s σ H xs us Q I rs q
theorem call_list_of : CallR X (.type "list") (fun xs H Q => ∃ p ys, xs = [.ref p] ∧ (SqL X.K H p ys ∨ SqT X.K H p ys) ∧ ∀ l, H l = none → Q (.ref l) (upd H l (.lst ys))) := by
  intro pins s σ H xs us Q I r h
  obtain ⟨p, ys, rfl, hq, q⟩ := h
  obtain ⟨u, rfl, rx⟩ := vals1 r
  cases rx
  have fin : ∀ (its : List Value), Vals ys its → ys.length ≤ sizeLine → ∀ (h' : Heap) (c' : Nat), (∀ b o', s.heap.get? b = some o' → h'.get? b = some o') →
      h'.get? s.heap.objs.size = some { cls := .type "list", dict := none, data := .seq its.toArray c', slots := #[] } → EP X pins σ Q (.ref s.heap.objs.size) { s with heap := h' } := fun its r' hz h' c' kp e =>
    ⟨.ref s.heap.objs.size, _, I.laid (t' := s.toks) kp (Nat.le_refl _) (show ObjOk X.prog X.w _ h' _ (.lst ys) from ⟨hz, its, c', r', e⟩), rfl, q _ (I.hok.fresh (Nat.le_refl _))⟩
  rcases hq with hq | hq
  · obtain ⟨its, r', pl, hz⟩ := I.list hq
    have hlen := r'.length
    obtain ⟨o, ho, hc, n, hd⟩ := pl.isList
    exact call_list_seq p (.inl rfl) ho hc hd (fun h' c' kp e => fin its r' hz h' c' kp e) (by simp only [List.size_toArray] <;> omega)
  · obtain ⟨its, r', pl, hz⟩ := I.tuple hq
    have hlen := r'.length
    obtain ⟨o, ho, hc, n, hd⟩ := pl
    exact call_list_seq p (.inr rfl) ho hc hd (fun h' c' kp e => fin its r' hz h' c' kp e) (by simp only [List.size_toArray] <;> omega)
theorem call_tuple_of : CallR X (.type "tuple") (fun xs H Q => ∃ p ys, xs = [.ref p] ∧ ((SqL X.K H p ys ∧ ∀ l, H l = none → Q (.ref l) (upd H l (.tup ys))) ∨ (SqT X.K H p ys ∧ Q (.ref p) H))) := by
  intro pins s σ H xs us Q I r h
  obtain ⟨p, ys, rfl, h⟩ := h
  obtain ⟨u, rfl, rx⟩ := vals1 r
  cases rx
  rcases h with ⟨hq, q⟩ | ⟨hq, q⟩
  · obtain ⟨its, r', pl, hz⟩ := I.list hq
    have hlen := r'.length
    refine call_tuple_list pl.isList (fun h' kp => ?_) (by simp only [List.size_toArray] <;> omega)
    have I1 : Inv X pins σ H { s with heap := h' } := I.kept (t' := s.toks) kp
    have I2 : Inv X pins σ (upd H h'.objs.size (.tup ys)) { s with heap := h'.push { cls := .type "tuple", data := .seq its.toArray } } :=
      I1.laid (t' := s.toks) (fun b o e => Heap.get?_push_of_some _ e) (Nat.le_refl _) (show ObjOk X.prog X.w _ _ _ (.tup ys) from ⟨hz, its, r', IsTup.new _ _⟩)
    exact ⟨.ref h'.objs.size, _, I2, rfl, q _ (I1.hok.fresh (Nat.le_refl _))⟩
  · obtain ⟨its, r', pl, hz⟩ := I.tuple hq
    exact call_tuple_same pl ⟨.ref p, H, I, rfl, q⟩

/-! ### the call of a builtin's method: o.m(..) -/
/-- the value is of that builtin type -/
def tyV (K : PySem.W.Frag) (T : String) (x : V) (H : Hp) : Prop := match x with
  | .str _ => T = "str"
  | .int _ => T = "int"
  | .ref p => (T = "list" ∧ ∃ xs, SqL K H p xs) ∨ (T = "tuple" ∧ ∃ o, K.lookup p = some o ∧ o.cls = .type "tuple" ∧ o.dict = none) ∨
      (T = "dict" ∧ ((∃ kvs, H p = some (.dK kvs)) ∨ ∃ kvs, H p = some (.dT kvs))) ∨ (T = "set" ∧ ∃ S n, H p = some (.set S n))
  | _ => False
theorem tyV_is {pins : List (Addr × Obj)} {σ : St} {H : Hp} {s : Shared} {T : String} {x : V} {v : Value} (I : Inv X pins σ H s) (r : RelV x v) (ty : tyV X.K T x H) :
    s.TypeIs v T ∧ ∀ a, v = .ref a → ∃ ob, s.heap.get? a = some ob ∧ ob.dict = none := by
  cases x with
  | str z =>
    obtain ⟨t, rfl⟩ := r
    cases (show T = "str" from ty)
    exact ⟨typeIs_str s z t, fun _ e => nomatch e⟩
  | int i =>
    obtain ⟨t, rfl⟩ := r
    cases (show T = "int" from ty)
    exact ⟨typeIs_int s i t, fun _ e => nomatch e⟩
  | ref p =>
    cases r
    rcases ty with ⟨rfl, xs, hq⟩ | ⟨rfl, o, hk, hc, hd⟩ | ⟨rfl, hk⟩ | ⟨rfl, S, n, hk⟩
    · obtain ⟨its, _, pl, _⟩ := I.list hq
      refine ⟨pl.isList.typeIs, fun a e => ?_⟩
      cases e
      obtain ⟨o, n, e, c, hd, _⟩ := pl
      exact ⟨o, e, hd⟩
    · refine ⟨⟨o, I.kIn p o hk, hc⟩, fun a e => ?_⟩
      cases e
      exact ⟨o, I.kIn _ o hk, hd⟩
    · have z : ∃ o, s.heap.get? p = some o ∧ o.ExactDict := by
        rcases hk with ⟨kvs, hk⟩ | ⟨kvs, hk⟩
        · obtain ⟨_, _, _, _, o, _, _, e, ex, _⟩ := I.hok p _ hk
          exact ⟨o, e, ex⟩
        · obtain ⟨_, _, _, _, o, _, _, e, ex, _⟩ := I.hok p _ hk
          exact ⟨o, e, ex⟩
      obtain ⟨o, e, ex⟩ := z
      refine ⟨⟨o, e, ex.1⟩, fun a e2 => ?_⟩
      cases e2
      exact ⟨o, e, ex.2.1⟩
    · obtain ⟨o, _, _, _, e, ex, _⟩ := I.hok p _ hk
      refine ⟨⟨o, e, ex.1⟩, fun a e2 => ?_⟩
      cases e2
      exact ⟨o, e, ex.2.1⟩
  | _ => exact False.elim ty
def tBM0 (K : PySem.W.Frag) (T : String) (r : V → List V → Hp → VK → Prop) (to : TE) : TE := fun σ H Q => to σ H fun x H1 => tyV K T x H1 ∧ r x [] H1 Q
def tBM (K : PySem.W.Frag) (T : String) (r : V → List V → Hp → VK → Prop) (to : TE) (t : TA) : TE := fun σ H Q => to σ H fun x H1 => tyV K T x H1 ∧ t σ H1 fun xs H2 => r x xs H2 Q
variable {o e : Expr} {es : List Expr} {to : TE} {t : TA} {name : Str} {apos cpos : Pos} {T id : String} {r : V → List V → Hp → VK → Prop}
theorem pe_bm0 (pa : PlainAttrs T) (slot : Slot T name id) (hty : typeOf (.builtin id) = pure (.type "method_descriptor")) (hm : MtR X id r) (ho : PE X o to)
    (hbase : attributeBase o name X.env (eval o X.env) = eval o X.env := by rfl) (hline : (apos.endLine == cpos.line) = true := by rfl) : PE X (.Call (.Attribute o name apos) [] [] cpos) (tBM0 X.K T r to) := by
  intro pins s σ H Q I h
  refine wpAny_Call_method0_late hbase hline (thn (ho pins s σ H _ I h) fun v s1 ⟨x, H1, I1, r1, ty, q1⟩ => ?_)
  obtain ⟨h1, h2⟩ := tyV_is I1 r1 ty
  exact ⟨T, id, pa, slot, hty, h1, h2, Calls.callWith_builtin rfl (PySem.evalArgs_none (hm pins s1 σ H1 x [] v [] Q I1 r1 .nil q1))⟩
theorem pe_bm (pa : PlainAttrs T) (slot : Slot T name id) (hty : typeOf (.builtin id) = pure (.type "method_descriptor")) (hm : MtR X id r) (ho : PE X o to) (ha : PA X (e :: es) t)
    (hbase : attributeBase o name X.env (eval o X.env) = eval o X.env := by rfl)
    (hfew : ((backTo cpos (starEach (e :: es) X.env)).all (fun x => !x.1) && (backToKw cpos (keywordEach [] X.env)).all (fun x => x.1.isSome)
      && decide ((e :: es).length + ([] : List Keyword).length + (if ([] : List Keyword).isEmpty then 0 else 1) < 30)) = true := by rfl)
    (hline : (apos.endLine == cpos.line) = true := by rfl) (hs : starEach (e :: es) X.env = (false, eval e X.env) :: starEach es X.env := by rfl) (hplain : (backTo cpos (starEach es X.env)).any (·.1) = false := by rfl) :
    PE X (.Call (.Attribute o name apos) (e :: es) [] cpos) (tBM X.K T r to t) := by
  intro pins s σ H Q I h
  refine wpAny_Call_method_late hbase hfew hline rfl (thn (ho pins s σ H _ I h) fun v s1 ⟨x, H1, I1, r1, ty, q1⟩ => ?_)
  obtain ⟨h1, h2⟩ := tyV_is I1 r1 ty
  refine ⟨T, id, pa, slot, hty, h1, h2, ?_⟩
  have hA := ha cpos pins s1 σ H1 _ I1 q1
  rw [hs] at hA ⊢
  refine Calls.callWith_builtin (by show (false || (backTo cpos (starEach es X.env)).any (·.1)) = false; rw [hplain] <;> rfl) (Calls.evalArgs_plain ?_)
  exact thn hA fun us s2 ⟨vs, H2, I2, r2, q2⟩ => hm pins s2 σ H2 x vs v us Q I2 r1 r2 q2
/- xs.append(e), list.index on a module's tuple .. are MtR facts of 06m -/
end
end L2

namespace L2
open PySem PySem.Spec PyProof.Rows

def MtM (X : Cx) (id : String) (r : V → List V → Hp → VK → Prop) : Prop :=
  ∀ (pins : List (Addr × Obj)) (s : Shared) (σ : St) (H : Hp) (x : V) (xs : List V) (v : Value) (us : List Value) (Q : VK), Inv X pins σ H s → RelV x v → Vals xs us → r x xs H Q →
    wpAny (model X.prog X.w) X.A (call (.builtin id) (v :: us)) (EP X pins σ Q) X.xe s

/-! ### lists of values -/
theorem Vals.one : ∀ {x : V} {us : List Value}, Vals [x] us → ∃ u, us = [u] ∧ RelV x u
  | _, _, .cons r .nil => ⟨_, rfl, r⟩
theorem Vals.two : ∀ {x y : V} {us : List Value}, Vals [x, y] us → ∃ u v, us = [u, v] ∧ RelV x u ∧ RelV y v
  | _, _, _, .cons r (.cons q .nil) => ⟨_, _, rfl, r, q⟩
theorem Vals.zero : ∀ {us : List Value}, Vals [] us → us = []
  | _, .nil => rfl
theorem Vals.dropLast {xs : List V} {us : List Value} (h : Vals xs us) : Vals xs.dropLast us.dropLast := by
  induction h with
  | nil => exact .nil
  | cons r t ih =>
    cases t with
    | nil => exact .nil
    | cons q t' => exact .cons r ih
theorem Vals.eraseIdx : ∀ {xs : List V} {us : List Value} (i : Nat), Vals xs us → Vals (xs.eraseIdx i) (us.eraseIdx i)
  | _, _, _, .nil => .nil
  | _, _, 0, .cons _ t => t
  | _, _, i + 1, .cons r t => .cons r (Vals.eraseIdx i t)
theorem Vals.reverse {xs : List V} {us : List Value} (h : Vals xs us) : Vals xs.reverse us.reverse := by
  induction h with
  | nil => exact .nil
  | cons r t ih => rw [List.reverse_cons, List.reverse_cons]; exact Vals.append ih (.cons r .nil)
theorem Vals.rep {xs : List V} {us : List Value} (h : Vals xs us) : ∀ k : Nat, Vals (List.replicate k xs).flatten (List.replicate k us).flatten
  | 0 => .nil
  | k + 1 => by
    rw [List.replicate_succ, List.replicate_succ, List.flatten_cons, List.flatten_cons]
    exact Vals.append h (Vals.rep h k)
theorem erase_last {α : Type} (l : List α) : l.eraseIdx (l.length - 1) = l.dropLast := by
  induction l with
  | nil => rfl
  | cons a r ih =>
    cases r with
    | nil => rfl
    | cons b r =>
      have e : (a :: b :: r).length - 1 = ((b :: r).length - 1) + 1 := by
        have h1 : (a :: b :: r).length = r.length + 2 := rfl
        have h2 : (b :: r).length = r.length + 1 := rfl
        omega
      rw [e, List.eraseIdx_cons_succ, ih]
      all_goals rfl
theorem len_erase {α : Type} : ∀ (l : List α) (i : Nat), (l.eraseIdx i).length ≤ l.length
  | [], _ => Nat.le_refl _
  | _ :: _, 0 => Nat.le_succ _
  | _ :: r, i + 1 => Nat.succ_le_succ (len_erase r i)
theorem foldl_rep (its : List Value) : ∀ (k : Nat) (acc : List Value),
    List.foldl (fun x1 x2 => x1 ++ x2) acc.toArray (List.replicate k its.toArray) = (acc ++ (List.replicate k its).flatten).toArray
  | 0, acc => by simp
  | k + 1, acc => by
    have e : acc.toArray ++ its.toArray = (acc ++ its).toArray := by simp
    have e2 : (acc ++ its) ++ (List.replicate k its).flatten = acc ++ (List.replicate (k + 1) its).flatten := by
      rw [List.replicate_succ, List.flatten_cons, List.append_assoc]
    rw [← e2, ← foldl_rep its k (acc ++ its), ← e, List.replicate_succ, List.foldl_cons]

section
variable {X : Cx} {pins : List (Addr × Obj)} {σ : St} {H : Hp} {s : Shared} {l b : Addr} {xs ys zs : List V}

/-! ### the two steps: a tracked list is rewritten, a new list is laid -/
theorem Inv.lset {its its' : List Value} {n : Nat} {f : Array Value → Array Value} {t' : Nat} (I : Inv X pins σ H s) (hH : H l = some (.lst xs))
    (e : s.heap.get? l = some { cls := .type "list", data := .seq its.toArray n }) (hf : f its.toArray = its'.toArray) (hv : Vals ys its') (hz : ys.length ≤ sizeLine) :
    Inv X pins σ (upd H l (.lst ys)) { s with heap := s.heap.update l (Obj.mapSeq f), toks := t' } := by
  have q := PySem.IsL.update e f
  rw [hf] at q
  refine I.write (x := l) (e := l) (by rw [hH]; exact trivial) (.inl rfl) (fun b' u hb hu => (Heap.get?_update_other s.heap (Obj.mapSeq f) (Ne.symm hb)).trans hu) ⟨_, q⟩ ?_
  exact ⟨hz, its', _, hv, q⟩
theorem Inv.lnew {its : List Value} {t' : Nat} (I : Inv X pins σ H s) (hv : Vals ys its) (hz : ys.length ≤ sizeLine) :
    Inv X pins σ (upd H s.heap.objs.size (.lst ys)) { s with heap := s.heap.push { cls := .type "list", data := .seq its.toArray }, toks := t' } :=
  I.laid (fun _ _ q => Heap.get?_push_of_some _ q) (Nat.le_refl _) ⟨hz, its, 0, hv, Heap.get?_push_size _ rfl⟩
theorem Inv.fresh (I : Inv X pins σ H s) : H s.heap.objs.size = none := I.hok.fresh (Nat.le_refl _)
theorem Inv.lstM (I : Inv X pins σ H s) (hH : H l = some (.lst xs)) : xs.length ≤ sizeLine ∧ ∃ (its : List Value) (n : Nat), Vals xs its ∧ xs.length = its.length ∧ s.heap.get? l = some { cls := .type "list", data := .seq its.toArray n } := by
  obtain ⟨z, its, n, r, e⟩ := I.hok l _ hH
  exact ⟨z, its, n, r, r.length, e⟩

theorem notLongL {n : Nat} (h : n ≤ sizeLine) : Builtin.List.listTooLong n = false := by
  unfold Builtin.List.listTooLong
  exact decide_eq_false (by omega)
end

section
variable {X : Cx}

/-! ### methods -/
def rAppend : V → List V → Hp → VK → Prop := fun x vs H Q => ∃ l xs y, x = .ref l ∧ vs = [y] ∧ H l = some (.lst xs) ∧ xs.length < sizeLine ∧ Q .non (upd H l (.lst (xs ++ [y])))
theorem mt_append : MtM X "list.append" rAppend := by
  intro pins s σ H x vs v us Q I rx rv h
  obtain ⟨l, xs, y, rfl, rfl, hH, hz, q⟩ := h
  cases rx
  obtain ⟨u, rfl, ru⟩ := rv.one
  obtain ⟨z, its, n, r, hl, e⟩ := I.lstM hH
  refine call_meets F.slot_list_append ⟨_, e, rfl⟩ F.entry_list_append (F.args_list_append_2 _ _) (PySem.list_append l its.toArray n u (by rw [List.size_toArray]; omega)) ⟨e, ?_⟩
  refine ⟨.non, _, I.lset (its' := its ++ [u]) hH e (by simp) (r.append (.cons ru .nil)) ?_, rfl, q⟩
  rw [List.length_append, List.length_singleton]
  omega

def rExtend : V → List V → Hp → VK → Prop := fun x vs H Q => ∃ l b xs zs, x = .ref l ∧ vs = [.ref b] ∧ H l = some (.lst xs) ∧ H b = some (.lst zs) ∧ xs.length + zs.length ≤ sizeLine ∧ Q .non (upd H l (.lst (xs ++ zs)))
theorem mt_extend : MtM X "list.extend" rExtend := by
  intro pins s σ H x vs v us Q I rx rv h
  obtain ⟨l, b, xs, zs, rfl, rfl, hH, hB, hz, q⟩ := h
  cases rx
  obtain ⟨u, rfl, ru⟩ := rv.one
  cases ru
  obtain ⟨z, its, n, r, hl, e⟩ := I.lstM hH
  obtain ⟨z2, its2, n2, r2, hl2, e2⟩ := I.lstM hB
  have hsz : its.toArray.size + its2.toArray.size ≤ sizeLine := by rw [List.size_toArray, List.size_toArray]; omega
  have hlong : ¬ (!its.toArray.isEmpty && Builtin.List.listTooLong (its.toArray.size + its2.toArray.size)) = true := by
    rw [notLongL hsz, Bool.and_false]
    exact Bool.false_ne_true
  refine call_meets F.slot_list_extend ⟨_, e, rfl⟩ F.entry_list_extend (F.args_list_extend_2 _ _)
    (AutoSeq1.list_extend_list_list_0 l its.toArray n b its2.toArray n2 hlong (by rw [List.size_toArray]; omega) (by omega)) ⟨e, e2, ?_⟩
  refine ⟨.non, _, I.lset (its' := its ++ its2) hH e (by simp) (r.append r2) ?_, rfl, q⟩
  rw [List.length_append]
  omega

def rPop : V → List V → Hp → VK → Prop := fun x vs H Q => ∃ l xs y, x = .ref l ∧ vs = [] ∧ H l = some (.lst xs) ∧ xs[xs.length - 1]? = some y ∧ Q y (upd H l (.lst xs.dropLast))
theorem mt_pop : MtM X "list.pop" rPop := by
  intro pins s σ H x vs v us Q I rx rv h
  obtain ⟨l, xs, y, rfl, rfl, hH, hy, q⟩ := h
  cases rx
  have hus := rv.zero
  subst hus
  obtain ⟨z, its, n, r, hl, e⟩ := I.lstM hH
  obtain ⟨u, hu, ru⟩ := r.get hy
  have hy' : its.toArray[its.toArray.size - 1]? = some u := by
    show its.toArray[its.length - 1]? = some u
    rw [← Array.getElem?_toList, ← hl]
    exact hu
  refine call_meets F.slot_list_pop ⟨_, e, rfl⟩ F.entry_list_pop (F.args_list_pop_1 _) (MeetsSeq.list_pop_last l its.toArray n u hy' (by rw [List.size_toArray]; omega)) ⟨e, ?_⟩
  refine ⟨y, _, I.lset (its' := its.dropLast) hH e ?_ r.dropLast ?_, ru, q⟩
  · show its.toArray.eraseIdxIfInBounds (its.toArray.size - 1) = its.dropLast.toArray
    rw [List.size_toArray, List.eraseIdxIfInBounds_toArray, erase_last]
  · rw [List.length_dropLast]
    omega

def rPopAt : V → List V → Hp → VK → Prop := fun x vs H Q => ∃ l xs i k y, x = .ref l ∧ vs = [.int i] ∧ H l = some (.lst xs) ∧ -(2 ^ 63) ≤ i ∧ i < 2 ^ 63 ∧ seqIndex? i xs.length = some k ∧ xs[k]? = some y ∧ Q y (upd H l (.lst (xs.eraseIdx k)))
theorem mt_popAt : MtM X "list.pop" rPopAt := by
  intro pins s σ H x vs v us Q I rx rv h
  obtain ⟨l, xs, i, k, y, rfl, rfl, hH, h1, h2, hk, hy, q⟩ := h
  cases rx
  obtain ⟨u, rfl, ru⟩ := rv.one
  obtain ⟨t, rfl⟩ := ru
  obtain ⟨z, its, n, r, hl, e⟩ := I.lstM hH
  obtain ⟨w, hw, rw'⟩ := r.get hy
  refine call_meets F.slot_list_pop ⟨_, e, rfl⟩ F.entry_list_pop (F.args_list_pop_2 _ _)
    (MeetsSeq.list_pop_at l its.toArray n i t k w (fitsIndex_both h1 h2) (by rw [List.size_toArray, ← hl]; exact hk) (by rw [← Array.getElem?_toList]; exact hw) (by rw [List.size_toArray]; omega)) ⟨e, ?_⟩
  refine ⟨y, _, I.lset (its' := its.eraseIdx k) hH e ?_ (r.eraseIdx k) ?_, rw', q⟩
  · show its.toArray.eraseIdxIfInBounds k = (its.eraseIdx k).toArray
    rw [List.eraseIdxIfInBounds_toArray]
  · have := len_erase xs k
    omega

def rReverse : V → List V → Hp → VK → Prop := fun x vs H Q => ∃ l xs, x = .ref l ∧ vs = [] ∧ H l = some (.lst xs) ∧ Q .non (upd H l (.lst xs.reverse))
theorem mt_reverse : MtM X "list.reverse" rReverse := by
  intro pins s σ H x vs v us Q I rx rv h
  obtain ⟨l, xs, rfl, rfl, hH, q⟩ := h
  cases rx
  have hus := rv.zero
  subst hus
  obtain ⟨z, its, n, r, hl, e⟩ := I.lstM hH
  refine call_meets F.slot_list_reverse ⟨_, e, rfl⟩ F.entry_list_reverse (F.args_list_reverse_1 _) (AutoSeq1.list_reverse_list_0 l its.toArray n (by rw [List.size_toArray]; omega)) ⟨e, ?_⟩
  refine ⟨.non, _, I.lset (its' := its.reverse) hH e (by simp) r.reverse ?_, rfl, q⟩
  rw [List.length_reverse]
  omega

def rClear : V → List V → Hp → VK → Prop := fun x vs H Q => ∃ l xs, x = .ref l ∧ vs = [] ∧ H l = some (.lst xs) ∧ Q .non (upd H l (.lst []))
theorem mt_clear : MtM X "list.clear" rClear := by
  intro pins s σ H x vs v us Q I rx rv h
  obtain ⟨l, xs, rfl, rfl, hH, q⟩ := h
  cases rx
  have hus := rv.zero
  subst hus
  obtain ⟨z, its, n, r, hl, e⟩ := I.lstM hH
  refine call_meets F.slot_list_clear ⟨_, e, rfl⟩ F.entry_list_clear (F.args_list_clear_1 _) (AutoSeq1.list_clear_list_0 l its.toArray n (by rw [List.size_toArray]; omega)) ⟨e, ?_⟩
  exact ⟨.non, _, I.lset (its' := []) (ys := []) hH e rfl .nil (Nat.zero_le _), rfl, q⟩

/-! ### list + list, list += list, list * int -/
def rCat : R2 := fun x y H Q => ∃ l b xs zs, x = .ref l ∧ y = .ref b ∧ H l = some (.lst xs) ∧ H b = some (.lst zs) ∧ xs.length + zs.length ≤ sizeLine ∧ ∀ p, H p = none → Q (.ref p) (upd H p (.lst (xs ++ zs)))
theorem op_cat : OpR X (binaryOp .Add) rCat := by
  intro pins s σ H x y v u Q I rx ry h
  obtain ⟨l, b, xs, zs, rfl, rfl, hH, hB, hz, q⟩ := h
  cases rx
  cases ry
  obtain ⟨z, its, n, r, hl, e⟩ := I.lstM hH
  obtain ⟨z2, its2, n2, r2, hl2, e2⟩ := I.lstM hB
  refine PySem.P.add_list e e2 ?_ (by rw [List.size_toArray, List.size_toArray]; omega)
  have ea : its.toArray ++ its2.toArray = (its ++ its2).toArray := by simp
  rw [ea]
  exact ⟨.ref _, _, I.lnew (t' := s.toks) (r.append r2) (by rw [List.length_append]; omega), rfl, q _ I.fresh⟩
/-- a list times an int (a negative one is nothing) -/
def rRep : R2 := fun x y H Q => ∃ l k xs, x = .ref l ∧ y = .int k ∧ H l = some (.lst xs) ∧ -(2 ^ 63) ≤ k ∧ k < 2 ^ 63 ∧ xs.length * k.toNat ≤ sizeLine ∧
  ∀ p, H p = none → Q (.ref p) (upd H p (.lst (List.replicate k.toNat xs).flatten))
theorem len_rep {α : Type} (xs : List α) (k : Nat) : (List.replicate k xs).flatten.length = k * xs.length := by
  induction k with
  | zero => simp
  | succ k ih => rw [List.replicate_succ, List.flatten_cons, List.length_append, ih, Nat.succ_mul, Nat.add_comm]
theorem op_rep : OpR X (binaryOp .Mult) rRep := by
  intro pins s σ H x y v u Q I rx ry h
  obtain ⟨l, k, xs, rfl, rfl, hH, h1, h2, hz, q⟩ := h
  cases rx
  obtain ⟨t, rfl⟩ := ry
  obtain ⟨z, its, n, r, hl, e⟩ := I.lstM hH
  have hlen : its.toArray.size * k.toNat ≤ sizeLine := by rw [List.size_toArray, ← hl]; exact hz
  have hcap : ¬ its.toArray.size * k.toNat > (2 ^ 63 - 1) / 8 := by
    have : (sizeLine : Nat) ≤ (2 ^ 63 - 1) / 8 := by decide
    omega
  have hfit : ¬ (!Builtin.List.listFitsIndex k) = true := by
    rw [fitsIndex_both h1 h2]
    exact Bool.false_ne_true
  have hlong : ¬ Builtin.List.listTooLong (its.toArray.size * k.toNat) = true := by
    rw [notLongL hlen]
    exact Bool.false_ne_true
  have hnew : List.foldl (fun x1 x2 => x1 ++ x2) #[] (List.replicate (if its.toArray.isEmpty = true then 0 else k.toNat) its.toArray) = (List.replicate k.toNat its).flatten.toArray := by
    have f0 : ∀ m : Nat, List.foldl (fun x1 x2 => x1 ++ x2) #[] (List.replicate m its.toArray) = (List.replicate m its).flatten.toArray := fun m => by
      have := foldl_rep its m []
      rw [List.nil_append] at this
      exact this
    rw [f0]
    cases its with
    | nil => simp
    | cons a r' => rw [if_neg (by simp)]
  refine wpAny_binaryOp_repeat_ref (T := "list") (U := "int") (by decide) ⟨_, e, rfl⟩ (fun s' => typeIs_int s' k t) noFill_list_mul F.fills_int_mul F.slot_int_rmul repeat_list F.slot_int_index.lookup
    (call_meets F.slot_int_rmul (typeIs_int s k t) F.entry_int_rmul (F.args_int_rmul_2 _ _) (int___rmul___int_list k t l its.toArray n)
      ⟨e, rfl, ⟨_, e, rfl⟩, call_meets F.slot_list_mul ⟨_, e, rfl⟩ F.entry_list_mul (F.args_list_mul_2 _ _) (AutoListH.list___mul___list_int_3 l its.toArray n k t hfit hcap hlong) ⟨e, ?_⟩⟩)
  rw [hnew]
  exact ⟨.ref _, _, I.lnew (t' := s.toks) (r.rep k.toNat) (by rw [len_rep, Nat.mul_comm]; exact hz), rfl, q _ I.fresh⟩

/-! ### del xs[i] -/
theorem del_list {pins : List (Addr × Obj)} {s : Shared} {σ : St} {H : Hp} {l : Addr} {xs : List V} {i : Int} {t : Tok} {k : Nat} {Q : Unit → Shared → Prop} (I : Inv X pins σ H s) (hH : H l = some (.lst xs))
    (h1 : -(2 ^ 63) ≤ i) (h2 : i < 2 ^ 63) (hk : seqIndex? i xs.length = some k) (h : ∀ s', Inv X pins σ (upd H l (.lst (xs.eraseIdx k))) s' → Q () s') :
    wpAny (model X.prog X.w) X.A (delItem (.ref l) (.int i t)) Q X.xe s := by
  obtain ⟨z, its, n, r, hl, e⟩ := I.lstM hH
  refine PySem.P.delItem_list (k := k) e (fitsIndex_both h1 h2) (by rw [List.size_toArray, ← hl]; exact hk) (h _ ?_) (by rw [List.size_toArray]; omega)
  refine I.lset (its' := its.eraseIdx k) (t' := s.toks) hH e ?_ (r.eraseIdx k) ?_
  · show its.toArray.eraseIdxIfInBounds k = (its.eraseIdx k).toArray
    rw [List.eraseIdxIfInBounds_toArray]
  · have := len_erase xs k
    omega
end

/-! ### xs[a:b] = ys -/
section
variable {prog : Program} {w : World} {A : Around} {E : Value → Shared → Prop} {s : Shared}
theorem splice_eq (its its2 : List Value) (a c : Nat) : its.toArray.extract 0 a ++ its2.toArray ++ its.toArray.extract c its.toArray.size = (its.take a ++ its2 ++ its.drop c).toArray := by
  apply Array.toList_inj.mp
  first
    | (simp
       exact List.take_of_length_le (by simp))
    | simp [List.take_of_length_le]
    | simp
theorem bounds_run {a c n : Nat} (hac : a ≤ c) (hc : c ≤ n) : sliceBounds (some (a : Int)) (some (c : Int)) none n = ((a : Int), (c : Int), 1) := by
  simp only [sliceBounds, Option.getD_none]
  have h1 : ¬ ((a : Int) < 0) := by omega
  have h2 : ¬ ((c : Int) < 0) := by omega
  simp only [h1, h2, if_false, show (1 : Int) > 0 by decide, if_true]
  congr 1
  · omega
  · congr 1; omega
set_option maxRecDepth 100000 in
/-- list.__setitem__ with a slice of step one and another list -/
theorem setItem_slice {l b sl : Addr} {items new : Array Value} {n n2 : Nat} {vl vu : Value} {a c : Nat} {Q : Unit → Shared → Prop}
    (e : s.heap.get? l = some { cls := .type "list", data := .seq items n }) (e2 : s.heap.get? b = some { cls := .type "list", data := .seq new n2 }) (hne : l ≠ b)
    (hs : s.heap.IsSliceOf sl vl vu .none) (pl : IsPart vl (some (a : Int))) (pu : IsPart vu (some (c : Int))) (hac : a ≤ c) (hc : c ≤ items.size)
    (hsz : items.size + new.size ≤ sizeLine) (h : Q () { s with heap := s.heap.update l (Obj.mapSeq fun xs => xs.extract 0 a ++ new ++ xs.extract c xs.size) }) :
    wpAny (model prog w) A (setItem (.ref l) (.ref sl) (.ref b)) Q E s := by
  have hl : s.heap.IsList l items := PySem.IsL.isList e
  have hb : s.heap.IsList b new := PySem.IsL.isList e2
  obtain ⟨os, hos, hcs, hds⟩ := id hs
  have hTs : s.TypeIs (.ref sl) "slice" := ⟨os, hos, hcs⟩
  have hstep : ¬ ((rawPart none == rawInt 0) = true) := Bool.false_ne_true
  have hsame : Builtin.List.listSameRef (.ref l) (.ref b) = false := by
    unfold Builtin.List.listSameRef
    exact beq_eq_false_iff_ne.mpr hne
  have hmax : (max (a : Int) (c : Int)).toNat = c := by omega
  have hz' : ((fun xs : Array Value => xs.extract 0 a ++ new ++ xs.extract c xs.size) items).size ≤ sizeLine + 1 := by
    simp only [Array.size_append, Array.size_extract]
    omega
  unfold setItem
  try with_reducible refine wpAny_holding ?_
  first | refine wpAny_bind (wpAny_pure ?_) | skip
  refine wpAny_bind (wpAny_sequenceKey hl.typeIs (by decide) ?_)
  refine wpAny_bind (wpAny_callSpecial?_slot (name := Str.ofString "__setitem__") hl.typeIs slot_list_setitem
    (wpAny_call_entry slot_list_setitem hl.typeIs entry_list_setitem ?_ (args_list_setitem _ _ _)))
  show wpAny _ _ (Builtin.List.listSubscript? (.ref sl) >>= _) _ _ s
  refine wpAny_bind ?_
  unfold Builtin.List.listSubscript?
  refine wpAny_bind (wpAny_specialOf hTs slice_no_index ?_)
  simp only [Option.isNone_none, if_true]
  refine wpAny_pure ?_
  show wpAny _ _ (typeOf (.ref sl) >>= _) _ _ s
  refine wpAny_bind (wpAny_typeOf hTs ?_)
  first
    | rw [if_neg (by decide)]
    | refine PySem.W.KFB.if_not (by decide) ?_
  rw [listSliceParts_eq]
  refine wpAny_bind (wpAny_bind (wpAny_field hos hds (x := .none) rfl (wpAny_bind (wpAny_listPart .none ?_))))
  rw [if_neg hstep]
  refine wpAny_bind (wpAny_field hos hds (x := vl) rfl (wpAny_bind (wpAny_listPart pl ?_)))
  refine wpAny_bind (wpAny_field hos hds (x := vu) rfl (wpAny_bind (wpAny_listPart pu (wpAny_pure ?_))))
  first
    | simp only [hsame, Bool.false_eq_true, if_false]
    | refine PySem.W.KFB.if_not hsame ?_
    | (dsimp only
       rw [if_neg (by rw [hsame]; exact Bool.false_ne_true)])
  refine wpAny_bind (m := Builtin.List.listAllItems (.ref b) "must assign iterable to extended slice") ?_
  unfold Builtin.List.listAllItems
  refine wpAny_bind (wpAny_typeOf hb.typeIs ?_)
  first
    | refine PySem.W.KFB.if_so (by decide) ?_
    | rw [if_pos (by decide)]
    | simp only [beq_self_eq_true, Bool.true_or, if_true]
  unfold Builtin.List.listItems
  refine wpAny_bind (wpAny_seqItems e2 rfl (wpAny_pure ?_))
  refine wpAny_bind (wpAny_bind (wpAny_seqItems e rfl (wpAny_pure ?_)))
  refine wpAny_bind (wpAny_of_eq ((sliceIndices_raw (some (a : Int)) (some (c : Int)) none items.size (by simp)).trans (congrArg (pure : Int × Int × Int → Sem (Int × Int × Int)) (bounds_run hac hc))) ?_)
  show wpAny _ _ (if ((1 : Int) == 1) = true then _ else _) _ _ s
  rw [if_pos (by decide)]
  refine wpAny_bind (wpAny_rule ?_)
  first
    | simp only [notLongL hsz, Bool.false_eq_true, if_false]
    | refine PySem.W.KFB.if_not (notLongL hsz) ?_
  first | refine wpAny_bind (wpAny_pure ?_) | skip
  show wpAny _ _ (updateSeq l (fun xs => xs.extract 0 ((a : Int)).toNat ++ new ++ xs.extract (max (a : Int) (c : Int)).toNat xs.size) >>= _) _ _ s
  rw [hmax, Int.toNat_natCast]
  refine wpAny_bind (wpAny_updateSeq (hz := Nat.le_trans (Nat.le_add_right _ _) hsz) (_hz' := hz') e rfl ?_)
  refine wpAny_bind (wpAny_letGo ?_)
  first
    | exact wpAny_bind (wpAny_pure (wpAny_pure ⟨.none, rfl, wpAny_pure h⟩))
    | exact wpAny_pure ⟨.none, rfl, wpAny_pure h⟩
end

section
variable {X : Cx}
/-- xs[a:c] = ys of another list, at the value level: sl is the slice object that was just made -/
theorem set_slice {pins : List (Addr × Obj)} {s : Shared} {σ : St} {H : Hp} {l b sl : Addr} {xs ys : List V} {a c : Int} {vl vu : Value} {Q : Unit → Shared → Prop} (I : Inv X pins σ H s)
    (hH : H l = some (.lst xs)) (hB : H b = some (.lst ys)) (hne : l ≠ b) (hs : s.heap.IsSliceOf sl vl vu .none) (ra : RelV (.int a) vl) (rc : RelV (.int c) vu) (h0 : 0 ≤ a) (hac : a ≤ c) (hc : c ≤ xs.length)
    (hz : xs.length + ys.length ≤ sizeLine) (h : ∀ s', Inv X pins σ (upd H l (.lst (xs.take a.toNat ++ ys ++ xs.drop c.toNat))) s' → Q () s') :
    wpAny (model X.prog X.w) X.A (setItem (.ref l) (.ref sl) (.ref b)) Q X.xe s := by
  obtain ⟨ta, rfl⟩ := ra
  obtain ⟨tc, rfl⟩ := rc
  obtain ⟨z, its, n, r, hl, e⟩ := I.lstM hH
  obtain ⟨z2, its2, n2, r2, hl2, e2⟩ := I.lstM hB
  obtain ⟨a', rfl⟩ := Int.eq_ofNat_of_zero_le h0
  obtain ⟨c', rfl⟩ := Int.eq_ofNat_of_zero_le (Int.le_trans h0 hac)
  simp only [Int.toNat_natCast] at h
  refine setItem_slice (a := a') (c := c') e e2 hne hs (.int _ _) (.int _ _) (by omega) (by rw [List.size_toArray]; omega) (by rw [List.size_toArray, List.size_toArray]; omega) (h _ ?_)
  refine I.lset (its' := its.take a' ++ its2 ++ its.drop c') (t' := s.toks) hH e ?_ (Vals.append (Vals.append (r.take _) r2) (r.drop _)) ?_
  · exact splice_eq its its2 a' c'
  · rw [List.length_append, List.length_append, List.length_take, List.length_drop]
    omega
end
end L2
namespace L2
open PySem PySem.Spec PyProof.Rows

/-! ### lists of pairs as tables -/
section
variable {κ : Type} [DecidableEq κ]
def valV (kvs : List (κ × V)) (k : κ) : Option V := (kvs.find? fun kv => decide (kv.1 = k)).map (·.2)
/-- in its place, or at the end -/
def putK (kvs : List (κ × V)) (k : κ) (v : V) : List (κ × V) :=
  if (kvs.any fun kv => decide (kv.1 = k)) = true then kvs.map (fun kv => if kv.1 = k then (kv.1, v) else kv) else kvs ++ [(k, v)]
def dropK (kvs : List (κ × V)) (k : κ) : List (κ × V) := kvs.filter fun kv => decide (kv.1 ≠ k)

theorem valV_nil {k : κ} : valV ([] : List (κ × V)) k = none := rfl
theorem valV_pos {p : κ × V} {r : List (κ × V)} {k : κ} (e : p.1 = k) : valV (p :: r) k = some p.2 := by simp [valV, List.find?_cons, e]
theorem valV_neg {p : κ × V} {r : List (κ × V)} {k : κ} (e : ¬ p.1 = k) : valV (p :: r) k = valV r k := by simp [valV, List.find?_cons, e]
theorem valV_any (k : κ) : ∀ kvs : List (κ × V), (kvs.any fun kv => decide (kv.1 = k)) = (valV kvs k).isSome
  | [] => rfl
  | p :: r => by
    rw [List.any_cons]
    by_cases e : p.1 = k
    · simp only [valV_pos e, decide_eq_true e, Bool.true_or, Option.isSome_some]
    · rw [valV_neg e, decide_eq_false e, Bool.false_or]; exact valV_any k r
theorem valV_map (k j : κ) (y : V) : ∀ kvs : List (κ × V), valV (kvs.map fun kv => if kv.1 = k then (kv.1, y) else kv) j = (valV kvs j).map fun x => if j = k then y else x
  | [] => rfl
  | p :: r => by
    have ih := valV_map k j y r
    rw [List.map_cons]
    by_cases h : p.1 = k
    · rw [if_pos h]
      by_cases e : p.1 = j
      · rw [valV_pos (p := (p.1, y)) e, valV_pos e, Option.map_some, if_pos (e.symm.trans h)]
      · rw [valV_neg (p := (p.1, y)) e, valV_neg e, ih]
    · rw [if_neg h]
      by_cases e : p.1 = j
      · rw [valV_pos (p := p) e, valV_pos e, Option.map_some, if_neg (fun z => h (e.trans z))]
      · rw [valV_neg (p := p) e, valV_neg e, ih]
theorem valV_snoc (k j : κ) (y : V) : ∀ kvs : List (κ × V), valV kvs k = none → valV (kvs ++ [(k, y)]) j = if j = k then some y else valV kvs j
  | [], _ => by
    by_cases e : k = j
    · rw [if_pos e.symm]; exact valV_pos (p := (k, y)) e
    · rw [if_neg (fun z => e z.symm)]; exact valV_neg (p := (k, y)) e
  | p :: r, hn => by
    rw [List.cons_append]
    have hk : ¬ p.1 = k := fun z => by rw [valV_pos z] at hn; cases hn
    rw [valV_neg hk] at hn
    have ih := valV_snoc k j y r hn
    by_cases e : p.1 = j
    · rw [valV_pos e, valV_pos e, if_neg (fun z => hk (e.trans z))]
    · rw [valV_neg e, valV_neg e, ih]
theorem valV_put (kvs : List (κ × V)) (k j : κ) (y : V) : valV (putK kvs k y) j = if j = k then some y else valV kvs j := by
  unfold putK
  by_cases a : (kvs.any fun kv => decide (kv.1 = k)) = true
  · rw [if_pos a, valV_map]
    rw [valV_any] at a
    by_cases e : j = k
    · obtain ⟨x, hx⟩ := Option.isSome_iff_exists.mp a
      rw [if_pos e, e, hx, Option.map_some, if_pos rfl]
    · rw [if_neg e]
      cases valV kvs j with
      | none => rfl
      | some x => rw [Option.map_some, if_neg e]
  · rw [if_neg a]
    refine valV_snoc k j y kvs ?_
    rw [valV_any] at a
    cases q : valV kvs k with
    | none => rfl
    | some x => rw [q] at a; exact (a rfl).elim
theorem length_putK (kvs : List (κ × V)) (k : κ) (v : V) : (putK kvs k v).length ≤ kvs.length + 1 := by
  unfold putK
  split
  · rw [List.length_map]; omega
  · rw [List.length_append, List.length_cons, List.length_nil]; omega
theorem putK_new {kvs : List (κ × V)} {k : κ} (v : V) (h : valV kvs k = none) : putK kvs k v = kvs ++ [(k, v)] := by
  unfold putK
  rw [valV_any, h]
  exact if_neg (by decide)

theorem RelO.isSome_eq {o : Option V} {u : Option Value} (r : RelO o u) : o.isSome = u.isSome := by
  cases o with
  | none => cases u with
    | none => rfl
    | some _ => exact (show False from r).elim
  | some _ => cases u with
    | none => exact (show False from r).elim
    | some _ => rfl
theorem RelO.getD {o : Option V} {u : Option Value} {d : V} {d' : Value} (r : RelO o u) (rd : RelV d d') : RelV (o.getD d) (u.getD d') := by
  cases o with
  | none => cases u with
    | none => exact rd
    | some _ => exact (show False from r).elim
  | some _ => cases u with
    | none => exact (show False from r).elim
    | some _ => exact r

/-- raw tables of the same keys -/
theorem KV.val {kvs : List (κ × V)} {vs : List (κ × Value)} (r : KV kvs vs) (k : κ) : RelO (valV kvs k) (valueAt vs k) := by
  unfold KV at r
  induction r with
  | nil => exact True.intro
  | @cons p q ps qs h t ih =>
    obtain ⟨h1, h2⟩ := h
    by_cases e : p.1 = k
    · have e' : q.1 = k := h1.symm.trans e
      have b : valueAt (q :: qs) k = some q.2 := by simp [valueAt, List.find?_cons, e']
      rw [valV_pos e, b]; exact h2
    · have e' : ¬ q.1 = k := fun z => e (h1.trans z)
      have b : valueAt (q :: qs) k = valueAt qs k := by simp [valueAt, List.find?_cons, e']
      rw [valV_neg e, b]; exact ih
theorem KV.any {kvs : List (κ × V)} {vs : List (κ × Value)} (r : KV kvs vs) (k : κ) : (kvs.any fun kv => decide (kv.1 = k)) = vs.any fun kv => decide (kv.1 = k) := by
  unfold KV at r
  induction r with
  | nil => rfl
  | cons h t ih => rw [List.any_cons, List.any_cons, ih, h.1]
theorem KV.repl {kvs : List (κ × V)} {vs : List (κ × Value)} (r : KV kvs vs) (k : κ) {y : V} {u : Value} (ry : RelV y u) :
    KV (kvs.map fun kv => if kv.1 = k then (kv.1, y) else kv) (vs.map fun kv => if kv.1 = k then (kv.1, u) else kv) := by
  unfold KV at r ⊢
  induction r with
  | nil => exact .nil
  | @cons p q ps qs h t ih =>
    rw [List.map_cons, List.map_cons]
    refine .cons ?_ ih
    obtain ⟨h1, h2⟩ := h
    by_cases e : p.1 = k
    · rw [if_pos e, if_pos (h1.symm.trans e)]; exact ⟨h1, ry⟩
    · rw [if_neg e, if_neg (fun z => e (h1.trans z))]; exact ⟨h1, h2⟩
theorem KV.put {kvs : List (κ × V)} {vs : List (κ × Value)} (r : KV kvs vs) (k : κ) {y : V} {u : Value} (ry : RelV y u) : KV (putK kvs k y) (stored vs k u) := by
  unfold putK stored
  rw [r.any k]
  by_cases e : (vs.any fun kv => decide (kv.1 = k)) = true
  · rw [if_pos e, if_pos e]; exact r.repl k ry
  · rw [if_neg e, if_neg e]; exact Paired.snoc r ⟨rfl, ry⟩
theorem KV.drop {kvs : List (κ × V)} {vs : List (κ × Value)} (r : KV kvs vs) (k : κ) : KV (dropK kvs k) (without vs k) := by
  unfold KV at r ⊢
  unfold dropK without
  induction r with
  | nil => exact .nil
  | @cons p q ps qs h t ih =>
    obtain ⟨h1, h2⟩ := h
    rw [List.filter_cons, List.filter_cons]
    by_cases e : p.1 = k
    · have a : ¬ decide (p.1 ≠ k) = true := by simp [e]
      have b : ¬ decide (q.1 ≠ k) = true := by simp [h1.symm.trans e]
      rw [if_neg a, if_neg b]; exact ih
    · have e' : ¬ q.1 = k := fun z => e (h1.trans z)
      have a : decide (p.1 ≠ k) = true := by simp [e]
      have b : decide (q.1 ≠ k) = true := by simp [e']
      rw [if_pos a, if_pos b]; exact .cons ⟨h1, h2⟩ ih
theorem KV.keys {kvs : List (κ × V)} {vs : List (κ × Value)} (r : KV kvs vs) : kvs.map (·.1) = vs.map (·.1) := by
  unfold KV at r
  induction r with
  | nil => rfl
  | cons h t ih => rw [List.map_cons, List.map_cons, ih, h.1]
theorem KV.length {kvs : List (κ × V)} {vs : List (κ × Value)} (r : KV kvs vs) : kvs.length = vs.length := Paired.length r
theorem dropK_le (kvs : List (κ × V)) (k : κ) : (dropK kvs k).length ≤ kvs.length := List.length_filter_le _ _
end


/-! ### a tracked dict, its keys ints and texts or tuples of these -/
theorem kV_is {P : Program} {w : World} {k : Key} {u : Value} (r : RelV (kV k) u) : (mixKind P w).is k u = true := by
  cases k with
  | inl i => obtain ⟨t, e⟩ := (show ∃ t, u = Value.int i t from r); subst e; exact mixKind_int P w i t
  | inr x => obtain ⟨t, e⟩ := (show ∃ t, u = Value.str x t from r); subst e; exact mixKind_str P w x t
theorem kV_inj {a b : Key} (e : kV a = kV b) : a = b := by
  cases a with
  | inl i => cases b with
    | inl j => have e' : V.int i = V.int j := e; injection e' with e'; rw [e']
    | inr y => exact nomatch (show V.int i = V.str y from e)
  | inr x => cases b with
    | inl j => exact nomatch (show V.str x = V.int j from e)
    | inr y => have e' : V.str x = V.str y := e; injection e' with e'; rw [e']
theorem kVs_inj : ∀ {a b : List Key}, a.map kV = b.map kV → a = b
  | [], [], _ => rfl
  | [], _ :: _, e => by simp at e
  | _ :: _, [], e => by simp at e
  | x :: xs, y :: ys, e => by
    rw [List.map_cons, List.map_cons] at e
    injection e with e1 e2
    rw [kV_inj e1, kVs_inj e2]
theorem items_are {P : Program} {w : World} : ∀ {ks : List Key} {us : List Value}, Vals (ks.map kV) us → ItemsAre (mixKind P w) ks us
  | [], _, r => by rw [List.map_nil] at r; cases r; exact .nil
  | k :: ks, _, r => by
    rw [List.map_cons] at r
    cases r with
    | cons h t => exact .cons (kV_is h) (items_are t)

/-- raw entries of a dict with tuple keys -/
abbrev KT (H : Hp) : List (List Key × V) → List (List Key × Addr × Value) → Prop := Paired fun p q => p.1 = q.1 ∧ H q.2.1 = some (.tup (p.1.map kV)) ∧ RelV p.2 q.2.2
theorem KT.val {H : Hp} {kvs : List (List Key × V)} {xs : List (List Key × Addr × Value)} (r : KT H kvs xs) (k : List Key) : RelO (valV kvs k) ((atKey xs k).map (·.2)) := by
  induction r with
  | nil => exact True.intro
  | @cons p q ps qs h t ih =>
    obtain ⟨h1, _, h2⟩ := h
    by_cases e : p.1 = k
    · have e' : q.1 = k := h1.symm.trans e
      have b : atKey (q :: qs) k = some q.2 := by simp [atKey, List.find?_cons, e']
      rw [valV_pos e, b]; exact h2
    · have e' : ¬ q.1 = k := fun z => e (h1.trans z)
      have b : atKey (q :: qs) k = atKey qs k := by simp [atKey, List.find?_cons, e']
      rw [valV_neg e, b]; exact ih
theorem KT.repl {H : Hp} {kvs : List (List Key × V)} {xs : List (List Key × Addr × Value)} (r : KT H kvs xs) (k : List Key) {y : V} {u : Value} (ry : RelV y u) :
    KT H (kvs.map fun kv => if kv.1 = k then (kv.1, y) else kv) (xs.map (putAt k u)) := by
  induction r with
  | nil => exact .nil
  | @cons p q ps qs h t ih =>
    rw [List.map_cons, List.map_cons]
    refine .cons ?_ ih
    obtain ⟨h1, h2, h3⟩ := h
    unfold putAt
    by_cases e : p.1 = k
    · rw [if_pos e, if_pos (h1.symm.trans e)]; exact ⟨h1, h2, ry⟩
    · rw [if_neg e, if_neg (fun z => e (h1.trans z))]; exact ⟨h1, h2, h3⟩
theorem KT.put {H : Hp} {kvs : List (List Key × V)} {xs : List (List Key × Addr × Value)} (r : KT H kvs xs) (k : List Key) {b : Addr} {y : V} {u : Value} (hb : H b = some (.tup (k.map kV))) (ry : RelV y u) :
    KT H (putK kvs k y) (storedH xs k b u) := by
  have e : (kvs.any fun kv => decide (kv.1 = k)) = (atKey xs k).isSome := by
    rw [valV_any, (r.val k).isSome_eq, Option.isSome_map]
  unfold putK storedH
  rw [e]
  by_cases q : (atKey xs k).isSome = true
  · rw [if_pos q, if_pos q]; exact r.repl k ry
  · rw [if_neg q, if_neg q]; exact Paired.snoc r ⟨rfl, hb, ry⟩
theorem KT.keeps {H H' : Hp} {kvs : List (List Key × V)} {xs : List (List Key × Addr × Value)} (r : KT H kvs xs) (ht : ∀ b ys, H b = some (.tup ys) → H' b = some (.tup ys)) : KT H' kvs xs :=
  Paired.mapP r fun _ _ z => ⟨z.1, ht _ _ z.2.1, z.2.2⟩

section
variable {P : Program} {w : World} {H : Hp} {h : Heap} {a : Addr}
theorem rd_of {u : HO} (ok : HOk P w H h) (e : Rd H a u) : ObjOk P w H h a u := e.ok ok
theorem dk_rd {kvs : List (Key × V)} (ok : HOk P w H h) (e : Rd H a (.dK kvs)) : kvs.length ≤ sizeLine ∧ (a == sysModules) = false ∧ ∃ vs, KV kvs vs ∧ h.DictOf (mixKind P w) a vs :=
  show ObjOk P w H h a (.dK kvs) from rd_of ok e
theorem dk_of {kvs : List (Key × V)} (ok : HOk P w H h) (e : H a = some (.dK kvs)) : kvs.length ≤ sizeLine ∧ (a == sysModules) = false ∧ ∃ vs, KV kvs vs ∧ h.DictOf (mixKind P w) a vs := dk_rd ok (.inl e)
/-- a tracked tuple of ints and texts is a key -/
theorem key_of {ks : List Key} (ok : HOk P w H h) (e : H a = some (.tup (ks.map kV))) : (tupleKind (mixKind P w)).is h ks a := by
  obtain ⟨_, its, r, o, h1, h2, n, h3⟩ := (show ObjOk P w H h a (.tup (ks.map kV)) from ok a _ e)
  exact ⟨o, its.toArray, n, h1, h2, h3, by simpa using items_are r⟩
theorem dt_rd {kvs : List (List Key × V)} (ok : HOk P w H h) (e : Rd H a (.dT kvs)) : kvs.length ≤ sizeLine ∧ (a == sysModules) = false ∧
    ∃ xs, KT H kvs xs ∧ h.DictOfH (tupleKind (mixKind P w)) a xs := by
  obtain ⟨z, y, xs, r, o, es, ep, h1, h2, h3, h4, h5⟩ := (show ObjOk P w H h a (.dT kvs) from rd_of ok e)
  refine ⟨z, y, xs, r, o, es, ep, h1, h2, h3, h4, fun x hx => ?_, h5⟩
  have all : ∀ {l : List (List Key × V)} {m : List (List Key × Addr × Value)}, KT H l m → ∀ x ∈ m, (tupleKind (mixKind P w)).is h x.1 x.2.1 := by
    intro l m q
    induction q with
    | nil => intro x hx; exact nomatch hx
    | @cons p q ps qs hq t ih =>
      intro x hx
      rcases List.mem_cons.mp hx with e | hx
      · subst e
        exact key_of ok (by rw [← hq.1]; exact hq.2.1)
      · exact ih x hx
  exact all r x hx
theorem dt_of {kvs : List (List Key × V)} (ok : HOk P w H h) (e : H a = some (.dT kvs)) : kvs.length ≤ sizeLine ∧ (a == sysModules) = false ∧
    ∃ xs, KT H kvs xs ∧ h.DictOfH (tupleKind (mixKind P w)) a xs := dt_rd ok (.inl e)
end

/-- what the dict at a holds at the key y -/
def DGet (H : Hp) (a : Addr) (y : V) (r : Option V) : Prop :=
  (∃ kvs k, Rd H a (.dK kvs) ∧ y = kV k ∧ r = valV kvs k) ∨ ∃ kvs k b, Rd H a (.dT kvs) ∧ y = .ref b ∧ H b = some (.tup (k.map kV)) ∧ r = valV kvs k
/-- the heap behind a[y] = v -/
def DPut (H : Hp) (a : Addr) (y v : V) (H' : Hp) : Prop :=
  (∃ kvs k, H a = some (.dK kvs) ∧ y = kV k ∧ kvs.length < sizeLine ∧ H' = upd H a (.dK (putK kvs k v))) ∨
  ∃ kvs k b, H a = some (.dT kvs) ∧ y = .ref b ∧ H b = some (.tup (k.map kV)) ∧ kvs.length < sizeLine ∧ H' = upd H a (.dT (putK kvs k v))
theorem DGet.k {H : Hp} {a : Addr} {kvs : List (Key × V)} {k : Key} (e : H a = some (.dK kvs)) : DGet H a (kV k) (valV kvs k) := .inl ⟨kvs, k, .inl e, rfl, rfl⟩
theorem DGet.t {H : Hp} {a b : Addr} {kvs : List (List Key × V)} {k : List Key} (e : H a = some (.dT kvs)) (eb : H b = some (.tup (k.map kV))) : DGet H a (.ref b) (valV kvs k) := .inr ⟨kvs, k, b, .inl e, rfl, eb, rfl⟩
theorem DPut.k {H : Hp} {a : Addr} {kvs : List (Key × V)} {k : Key} {v : V} (e : H a = some (.dK kvs)) (hl : kvs.length < sizeLine) : DPut H a (kV k) v (upd H a (.dK (putK kvs k v))) := .inl ⟨kvs, k, e, rfl, hl, rfl⟩
theorem DPut.t {H : Hp} {a b : Addr} {kvs : List (List Key × V)} {k : List Key} {v : V} (e : H a = some (.dT kvs)) (eb : H b = some (.tup (k.map kV))) (hl : kvs.length < sizeLine) :
    DPut H a (.ref b) v (upd H a (.dT (putK kvs k v))) := .inr ⟨kvs, k, b, e, rfl, eb, hl, rfl⟩


section
variable {X : Cx} {pins : List (Addr × Obj)} {σ : St} {H : Hp} {s : Shared} {a : Addr} {y v : V} {u r : Value} {o : Option V} {A : Around} {E : Value → Shared → Prop}

theorem Inv.big (I : Inv X pins σ H s) : sysModules < s.heap.objs.size := by
  have h : mainGlobals < s.heap.objs.size := (I.mod.glob.keeps I.bk).lt
  exact Nat.lt_trans (by decide) h

/-- d[y], there -/
theorem d_getItem {Q : Value → Shared → Prop} (hu : A.units + 1 < cLine) (I : Inv X pins σ H s) (g : DGet H a y (some v)) (ry : RelV y u) (h : ∀ w' s', Inv X pins σ H s' → RelV v w' → Q w' s') :
    wpAny (model X.prog X.w) A (getItem (.ref a) u) Q E s := by
  rcases g with ⟨kvs, k, e, ey, l⟩ | ⟨kvs, k, b, e, ey, eb, l⟩
  · subst ey
    obtain ⟨z, hd, vs, rel, dd⟩ := dk_rd I.hok e
    obtain ⟨w', hw, rw'⟩ := RelO.some_of (v := v) (o := valueAt vs k) (by rw [l]; exact rel.val k)
    exact wpAny_getItem_of (kV_is ry) dd.mapOf hw (h w' _ (I.tok _) rw')
  · subst ey
    cases (show u = Value.ref b from ry)
    obtain ⟨z, hd, xs, rel, dd⟩ := dt_rd I.hok e
    obtain ⟨w', hw, rw'⟩ := RelO.some_of (v := v) (o := (atKey xs k).map (·.2)) (by rw [l]; exact rel.val k)
    obtain ⟨p, hp, hp2⟩ := Option.map_eq_some_iff.mp hw
    refine wpAny_getItem_heap (tupleKind_room_in1 hu) (key_of I.hok eb) dd hp ?_
    rw [hp2]
    exact h w' _ (I.tok _) rw'
/-- y in d -/
theorem d_in {Q : Value → Shared → Prop} (hu : A.units + 1 < cLine) (I : Inv X pins σ H s) (g : DGet H a y o) (ry : RelV y u) (h : ∀ s', Inv X pins σ H s' → Q (.bool o.isSome) s') :
    wpAny (model X.prog X.w) A (compareOp .In u (.ref a)) Q E s := by
  rcases g with ⟨kvs, k, e, ey, l⟩ | ⟨kvs, k, b, e, ey, eb, l⟩
  · subst ey
    obtain ⟨z, hd, vs, rel, dd⟩ := dk_rd I.hok e
    refine wpAny_in_of (kV_is ry) hd dd.mapOf ?_
    rw [← (rel.val k).isSome_eq, ← l]
    exact h _ (I.tok _)
  · subst ey
    cases (show u = Value.ref b from ry)
    obtain ⟨z, hd, xs, rel, dd⟩ := dt_rd I.hok e
    refine wpAny_in_heap (tupleKind_room_in1 hu) (key_of I.hok eb) hd dd ?_
    have q := (rel.val k).isSome_eq
    rw [Option.isSome_map] at q
    rw [← q, ← l]
    exact h _ (I.tok _)
theorem d_notIn {Q : Value → Shared → Prop} (hu : A.units + 1 < cLine) (I : Inv X pins σ H s) (g : DGet H a y o) (ry : RelV y u) (h : ∀ s', Inv X pins σ H s' → Q (.bool (!o.isSome)) s') :
    wpAny (model X.prog X.w) A (compareOp .NotIn u (.ref a)) Q E s := by
  rcases g with ⟨kvs, k, e, ey, l⟩ | ⟨kvs, k, b, e, ey, eb, l⟩
  · subst ey
    obtain ⟨z, hd, vs, rel, dd⟩ := dk_rd I.hok e
    refine wpAny_notIn_of (kV_is ry) hd dd.mapOf ?_
    rw [← (rel.val k).isSome_eq, ← l]
    exact h _ (I.tok _)
  · subst ey
    cases (show u = Value.ref b from ry)
    obtain ⟨z, hd, xs, rel, dd⟩ := dt_rd I.hok e
    refine wpAny_notIn_heap (tupleKind_room_in1 hu) (key_of I.hok eb) hd dd ?_
    have q := (rel.val k).isSome_eq
    rw [Option.isSome_map] at q
    rw [← q, ← l]
    exact h _ (I.tok _)
/-- a dict's object is replaced -/
theorem d_write {h' : Heap} {t' : Nat} {ob : HO} (I : Inv X pins σ H s) (mu : Mut (H a)) (hs : Heap.SameBut a s.heap h') (he : ∃ q, h'.get? a = some q) (new : ObjOk X.prog X.w (upd H a ob) h' a ob) :
    Inv X pins σ (upd H a ob) { s with heap := h', toks := t' } :=
  I.write (x := a) (e := a) mu (.inl rfl) (fun b q hb z => (hs.2 b hb).trans z) he new
theorem dk_new {P : Program} {w : World} {H' : Hp} {h' : Heap} {kvs : List (Key × V)} {vs : List (Key × Value)} (z : kvs.length ≤ sizeLine) (hd : (a == sysModules) = false) (rel : KV kvs vs) (dd : h'.DictOf (mixKind P w) a vs) :
    ObjOk P w H' h' a (.dK kvs) := ⟨z, hd, vs, rel, dd⟩
/-- d[y] = v -/
theorem d_setItem {H' : Hp} {Q : Unit → Shared → Prop} (hu : A.units + 1 < cLine) (I : Inv X pins σ H s) (g : DPut H a y v H') (ry : RelV y u) (rv : RelV v r) (h : ∀ s', Inv X pins σ H' s' → Q () s') :
    wpAny (model X.prog X.w) A (setItem (.ref a) u r) Q E s := by
  rcases g with ⟨kvs, k, e, ey, l, eH⟩ | ⟨kvs, k, b, e, ey, eb, l, eH⟩
  · subst ey eH
    obtain ⟨z, hd, vs, rel, dd⟩ := dk_of I.hok e
    have hz : vs.length ≤ sizeLine := by rw [← rel.length]; exact z
    have hl : (putK kvs k v).length ≤ sizeLine := by have := length_putK kvs k v; omega
    refine wpAny_setItem_pairs (hsz := hz) (kV_is ry) dd fun h' dd' hs => h _ ?_
    have he : ∃ q, h'.get? a = some q := let ⟨q, _, _, hq, _⟩ := dd'; ⟨q, hq⟩
    exact d_write I (by rw [e]; exact True.intro) hs he (dk_new hl hd (rel.put k rv) dd')
  · subst ey eH
    cases (show u = Value.ref b from ry)
    obtain ⟨z, hd, xs, rel, dd⟩ := dt_of I.hok e
    have hz : xs.length ≤ sizeLine := by rw [← Paired.length rel]; exact z
    have hl : (putK kvs k v).length ≤ sizeLine := by have := length_putK kvs k v; omega
    refine wpAny_setItem_heap (hsz := hz) (tupleKind_room_in1 hu) (key_of I.hok eb) dd fun h' dd' hs => h _ ?_
    obtain ⟨q, es, ep, hq, h2, h3, h4, _, h5⟩ := dd'
    refine d_write I (by rw [e]; exact True.intro) hs ⟨q, hq⟩ ⟨hl, hd, _, (rel.put k eb rv).keeps fun c ys ec => ?_, q, es, ep, hq, h2, h3, h4, h5⟩
    rw [upd_ne (ne_of ec e (fun z => nomatch z))]
    exact ec
end

section
variable {X : Cx} {pins : List (Addr × Obj)} {σ : St} {H : Hp} {s : Shared} {a : Addr} {kvs : List (Key × V)} {k : Key} {u : Value} {A : Around} {E : Value → Shared → Prop}
/-- del d[k] -/
theorem d_delItem {Q : Unit → Shared → Prop} (I : Inv X pins σ H s) (e : H a = some (.dK kvs)) (ry : RelV (kV k) u) (l : (valV kvs k).isSome = true) (h : ∀ s', Inv X pins σ (upd H a (.dK (dropK kvs k))) s' → Q () s') :
    wpAny (model X.prog X.w) A (delItem (.ref a) u) Q E s := by
  obtain ⟨z, hd, vs, rel, dd⟩ := dk_of I.hok e
  refine wpAny_delItem_slot dd.typeIs (by decide) PySem.F.slot_dict_delitem
    (call_meetsIn PySem.F.slot_dict_delitem dd.typeIs PySem.F.entry_dict_delitem (PySem.F.args_dict_delitem_2 _ _) (meets_dict_delitem_pairs (mixKind X.prog X.w) a (kV_is ry)) ⟨vs, dd, by rw [← rel.length]; exact z, by rw [← (rel.val k).isSome_eq]; exact l, fun h' dd' hs => h _ ?_⟩)
  have he : ∃ q, h'.get? a = some q := let ⟨q, _, _, hq, _⟩ := dd'; ⟨q, hq⟩
  exact d_write I (by rw [e]; exact True.intro) hs he (dk_new (Nat.le_trans (dropK_le kvs k) z) hd (rel.drop k) dd')
/-- d.pop(k[, x]), there -/
theorem d_pop {v : V} {more : List Value} {Q : Value → Shared → Prop} (I : Inv X pins σ H s) (e : H a = some (.dK kvs)) (ry : RelV (kV k) u) (l : valV kvs k = some v) (hm : more = [] ∨ ∃ x, more = [x])
    (h : ∀ w' s', Inv X pins σ (upd H a (.dK (dropK kvs k))) s' → RelV v w' → Q w' s') : wpAny (model X.prog X.w) A (call (.builtin "dict.pop") (.ref a :: u :: more)) Q E s := by
  obtain ⟨z, hd, vs, rel, dd⟩ := dk_of I.hok e
  obtain ⟨w', hw, rw'⟩ := RelO.some_of (v := v) (o := valueAt vs k) (by rw [← l]; exact rel.val k)
  have hp : (keyPart u).isSome = true := by
    cases k with
    | inl i => obtain ⟨t, q⟩ := (show ∃ t, u = Value.int i t from ry); subst q; rfl
    | inr x => obtain ⟨t, q⟩ := (show ∃ t, u = Value.str x t from ry); subst q; rfl
  have ha : argsOk "dict.pop" ⟨.ref a :: u :: more, []⟩ := by
    rcases hm with q | ⟨x, q⟩
    · subst q; exact PySem.F.args_dict_pop_2 _ _
    · subst q; exact PySem.F.args_dict_pop_3 _ _ _
  refine call_meetsIn PySem.F.slot_dict_pop dd.typeIs PySem.F.entry_dict_pop ha (meets_dict_pop_there (mixKind X.prog X.w) a (kV_is ry) more hm hp)
    ⟨vs, w', dd, by rw [← rel.length]; exact z, hw, fun h' dd' hs => h w' _ ?_ rw'⟩
  have he : ∃ q, h'.get? a = some q := let ⟨q, _, _, hq, _⟩ := dd'; ⟨q, hq⟩
  exact d_write I (by rw [e]; exact True.intro) hs he (dk_new (Nat.le_trans (dropK_le kvs k) z) hd (rel.drop k) dd')
/-- d.pop(k, x), not there -/
theorem d_popD {r : Value} {Q : Value → Shared → Prop} (I : Inv X pins σ H s) (e : H a = some (.dK kvs)) (ry : RelV (kV k) u) (l : valV kvs k = none) (h : ∀ s', Inv X pins σ H s' → Q r s') :
    wpAny (model X.prog X.w) A (call (.builtin "dict.pop") [.ref a, u, r]) Q E s := by
  obtain ⟨z, hd, vs, rel, dd⟩ := dk_of I.hok e
  have hn : valueAt vs k = none := RelO.none_of (by rw [← l]; exact rel.val k)
  have hp : (keyPart u).isSome = true := by
    cases k with
    | inl i => obtain ⟨t, q⟩ := (show ∃ t, u = Value.int i t from ry); subst q; rfl
    | inr x => obtain ⟨t, q⟩ := (show ∃ t, u = Value.str x t from ry); subst q; rfl
  exact call_meetsIn PySem.F.slot_dict_pop dd.typeIs PySem.F.entry_dict_pop (PySem.F.args_dict_pop_3 _ _ _) (meets_dict_pop_default (mixKind X.prog X.w) a (kV_is ry) hd hp r) ⟨vs, dd, hn, h _ (I.tok _)⟩
/-- d.clear() -/
theorem d_clear {Q : Value → Shared → Prop} (I : Inv X pins σ H s) (e : H a = some (.dK kvs)) (h : ∀ s', Inv X pins σ (upd H a (.dK [])) s' → Q .none s') : wpAny (model X.prog X.w) A (call (.builtin "dict.clear") [.ref a]) Q E s := by
  obtain ⟨z, hd, vs, rel, dd⟩ := dk_of I.hok e
  refine call_meetsIn PySem.F.slot_dict_clear dd.typeIs PySem.F.entry_dict_clear (PySem.F.args_dict_clear_1 _) (meets_dict_clear (mixKind X.prog X.w) a) ⟨vs, dd, by rw [← rel.length]; exact z, fun h' dd' hs => h _ ?_⟩
  have he : ∃ q, h'.get? a = some q := let ⟨q, _, _, hq, _⟩ := dd'; ⟨q, hq⟩
  exact d_write (t' := s.toks) I (by rw [e]; exact True.intro) hs he (dk_new (Nat.zero_le _) hd .nil dd')
/-- len(d) -/
theorem d_len {Q : Value → Shared → Prop} (I : Inv X pins σ H s) (e : Rd H a (.dK kvs)) (h : ∀ t s', Inv X pins σ H s' → Q (.int kvs.length t) s') : wpAny (model X.prog X.w) A (call (.builtin "len") [.ref a]) Q E s := by
  obtain ⟨z, hd, vs, rel, dd⟩ := dk_rd I.hok e
  refine call_len_dict hd dd (by rw [← rel.length]; rw [sizeLine_eq] at z; omega) ?_
  rw [← rel.length]
  exact h _ _ (I.tok _)
/-- if d -/
theorem d_truth {Q : Bool → Shared → Prop} (I : Inv X pins σ H s) (e : Rd H a (.dK kvs)) (h : ∀ s', Inv X pins σ H s' → Q (!kvs.isEmpty) s') : wpAny (model X.prog X.w) A (truthy (.ref a)) Q E s := by
  obtain ⟨z, hd, vs, rel, dd⟩ := dk_rd I.hok e
  refine wpAny_truthy_dict hd dd (by rw [← rel.length]; rw [sizeLine_eq] at z; omega) ?_
  have q : kvs.isEmpty = vs.isEmpty := by cases rel <;> rfl
  rw [← q]
  exact h _ (I.tok _)
end


/-! ### readings and rules -/
/-- the element of a subscription, not a slice -/
def NoSl (i : Expr) : Prop := ∀ ov iv, subscripted i false ov iv = operate [ov, iv] (getItem ov iv)
theorem subD_of {prog : Program} {w : World} {A : Around} {E : Value → Shared → Prop} {s : Shared} {env : Env} {value slice : Expr} {pos : Pos} {T id : String} {Q : Value → Shared → Prop}
    (hl : typeLookup (.type T) "__getitem__" = pure (some (.builtin id))) (hs : NoSl slice)
    (h : wpAny (model prog w) A (eval value env) (fun o s₁ => wpAny (model prog w) A (eval slice env) (fun i s₂ => s₂.TypeIs o T ∧ wpAny (model prog w) A (getItem o i) Q E s₂) E s₁) E s) :
    wpAny (model prog w) A (eval (.Subscript value slice pos) env) Q E s := by
  refine Subscript_ (wpAny_mono h (fun o s₁ h₁ => wpAny_mono h₁ (fun i s₂ h₂ => ?_) fun _ _ x => x) fun _ _ x => x)
  obtain ⟨hT, h₂⟩ := h₂
  unfold subscriptTail
  refine wpAny_bind ?_
  rw [getitemInPython_of_ne hT.not_modules]
  refine wpAny_bind (wpAny_specialOf hT hl ?_)
  have fin : wpAny (model prog w) A (subscripted slice false o i) (fun r s₃ => wpAny (model prog w) A (letTemporaryGo value o r >>= fun _ => pure r) Q E s₃) E s₂ := by
    rw [hs o i]
    exact wpAny_operating (wpAny_mono h₂ (fun r s₃ h₃ => wpAny_bind (wpAny_letTemporaryGo (wpAny_pure h₃))) fun _ _ x => x)
  first
    | exact wpAny_pure (wpAny_bind fin)
    | exact wpAny_bind (wpAny_pure (wpAny_bind fin))
    | exact wpAny_bind fin

theorem dict_typeIs {X : Cx} {pins : List (Addr × Obj)} {σ : St} {H : Hp} {s : Shared} {a : Addr} {y : V} {o : Option V} (I : Inv X pins σ H s) (g : DGet H a y o) : s.TypeIs (.ref a) "dict" := by
  rcases g with ⟨kvs, k, e, _, _⟩ | ⟨kvs, k, b, e, _, _, _⟩
  · obtain ⟨_, _, vs, _, dd⟩ := dk_rd I.hok e
    exact dd.typeIs
  · obtain ⟨_, _, xs, _, dd⟩ := dt_rd I.hok e
    exact dd.typeIs
theorem dict_noDict {X : Cx} {pins : List (Addr × Obj)} {σ : St} {H : Hp} {s : Shared} {a : Addr} {y : V} {o : Option V} (I : Inv X pins σ H s) (g : DGet H a y o) :
    ∀ b, Value.ref a = .ref b → ∃ ob, s.heap.get? b = some ob ∧ ob.dict = none := fun b q => by
  cases q
  rcases g with ⟨kvs, k, e, _, _⟩ | ⟨kvs, k, b, e, _, _, _⟩
  · obtain ⟨_, _, vs, _, ob, _, _, h1, h2, _⟩ := dk_rd I.hok e
    exact ⟨ob, h1, h2.2.1⟩
  · obtain ⟨_, _, xs, _, ob, _, _, h1, h2, _⟩ := dt_rd I.hok e
    exact ⟨ob, h1, h2.2.1⟩

/-- d[y] -/
def tDGet (td ty : TE) : TE := fun σ H Q => td σ H fun x H1 => ty σ H1 fun y H2 => ∃ a v, x = .ref a ∧ DGet H2 a y (some v) ∧ Q v H2
/-- y in d, y not in d -/
def tDIn (ty td : TE) : TE := fun σ H Q => ty σ H fun y H1 => td σ H1 fun x H2 => ∃ a o, x = .ref a ∧ DGet H2 a y o ∧ Q (.bl o.isSome) H2
def tDNotIn (ty td : TE) : TE := fun σ H Q => ty σ H fun y H1 => td σ H1 fun x H2 => ∃ a o, x = .ref a ∧ DGet H2 a y o ∧ Q (.bl (!o.isSome)) H2
/-- d[y] = v -/
def sDPut (td ty tv : TE) : TS := fun D σ H => tv σ H fun v H1 => td σ H1 fun x H2 => ty σ H2 fun y H3 => ∃ a H4, x = .ref a ∧ DPut H3 a y v H4 ∧ D.nx σ H4
/-- d[y] op= v -/
def sDAug (td ty tv : TE) (rd : V → V → Hp → VK → Prop) : TS := fun D σ H => td σ H fun x H1 => ty σ H1 fun y H2 => ∃ a v, x = .ref a ∧ DGet H2 a y (some v) ∧
  tv σ H2 fun y2 H3 => rd v y2 H3 fun z H4 => ∃ H5, DPut H4 a y z H5 ∧ D.nx σ H5
/-- del d[y] -/
def sDDel (td ty : TE) : TS := fun D σ H => td σ H fun x H1 => ty σ H1 fun y H2 => ∃ a kvs k, x = .ref a ∧ H2 a = some (.dK kvs) ∧ y = kV k ∧ (valV kvs k).isSome = true ∧ D.nx σ (upd H2 a (.dK (dropK kvs k)))

section
variable {X : Cx} {o i e value : Expr} {pos pos' tpos : Pos} {td ty tv : TE}
theorem pe_dget (hu : X.A.units + 1 < cLine) (ho : PE X o td) (hi : PE X i ty) (hs : NoSl i) : PE X (.Subscript o i pos) (tDGet td ty) := by
  intro pins s σ H Q I h
  refine subD_of PySem.F.slot_dict_getitem.lookup hs (thn (ho pins s σ H _ I h) fun u s1 ⟨x, H1, I1, rx, q1⟩ => thn (hi pins s1 σ H1 _ I1 q1) fun iv s2 ⟨y, H2, I2, ry, a, v, ex, g, q2⟩ => ?_)
  subst ex
  obtain rfl : u = Value.ref a := rx
  exact ⟨dict_typeIs I2 g, d_getItem hu I2 g ry fun w' s3 I3 rw' => ⟨v, H2, I3, rw', q2⟩⟩
theorem pc_din (hu : X.A.units + 1 < cLine) (hi : PE X i ty) (ho : PE X o td) : PC X .In i o (tDIn ty td) := by
  intro pins s σ H Q I h
  refine thn (hi pins s σ H _ I h) fun iv s1 ⟨y, H1, I1, ry, q1⟩ => thn (ho pins s1 σ H1 _ I1 q1) fun u s2 ⟨x, H2, I2, rx, a, ov, ex, g, q2⟩ => ?_
  subst ex
  obtain rfl : u = Value.ref a := rx
  exact d_in hu I2 g ry fun s3 I3 => ⟨.bl ov.isSome, H2, I3, rfl, q2⟩
theorem pc_dnotin (hu : X.A.units + 1 < cLine) (hi : PE X i ty) (ho : PE X o td) : PC X .NotIn i o (tDNotIn ty td) := by
  intro pins s σ H Q I h
  refine thn (hi pins s σ H _ I h) fun iv s1 ⟨y, H1, I1, ry, q1⟩ => thn (ho pins s1 σ H1 _ I1 q1) fun u s2 ⟨x, H2, I2, rx, a, ov, ex, g, q2⟩ => ?_
  subst ex
  obtain rfl : u = Value.ref a := rx
  exact d_notIn hu I2 g ry fun s3 I3 => ⟨.bl (!ov.isSome), H2, I3, rfl, q2⟩
theorem ps_dput (hu : X.A.units + 1 < cLine) (ho : PE X o td) (hi : PE X i ty) (hv : PE X value tv) (hs : swapsWith value (some (.Subscript o i pos')) pos.line X.env = pure false) :
    PS X (.Assign [.Subscript o i pos'] value pos) (sDPut td ty tv) := by
  intro pins s σ H D I h
  refine wpAny_Assign_Subscript (thn (hv pins s σ H _ I h) fun r s1 ⟨v, H1, I1, rv, q1⟩ => thn (ho pins s1 σ H1 _ I1 q1) fun u s2 ⟨x, H2, I2, rx, q2⟩ => thn (hi pins s2 σ H2 _ I2 q2) fun iv s3 ⟨y, H3, I3, ry, a, H4, ex, g, q3⟩ => ?_) hs
  subst ex
  obtain rfl : u = Value.ref a := rx
  exact d_setItem hu I3 g ry rv fun s4 I4 => ⟨σ, H4, I4, q3⟩
theorem ps_daug {op : Operator} {rd : V → V → Hp → VK → Prop} (hu : X.A.units + 1 < cLine) (ho : PE X o td) (hi : PE X i ty) (hv : PE X value tv) (hop : InOp X op rd)
    (ha : ∀ ov iv new, augStore i ov iv new = (do holding [new, ov, iv] (setItem ov iv new); release [new, ov, iv] []; pure .next)) : PS X (.AugAssign (.Subscript o i tpos) op value pos) (sDAug td ty tv rd) := by
  intro pins s σ H D I h
  refine wpAny_AugAssign_SubscriptAny (thn (ho pins s σ H _ I h) fun u s1 ⟨x, H1, I1, rx, q1⟩ => thn (hi pins s1 σ H1 _ I1 q1) fun iv s2 ⟨y, H2, I2, ry, a, v, ex, g, q2⟩ => ?_) ha
  subst ex
  obtain rfl : u = Value.ref a := rx
  refine d_getItem hu I2 g ry fun w' s3 I3 rw' => thn (hv pins s3 σ H2 _ I3 q2) fun w2 s4 ⟨y2, H3, I4, ry2, q3⟩ => thn (hop pins s4 σ H3 v y2 w' w2 _ I4 rw' ry2 q3) fun w3 s5 ⟨z, H4, I5, rz, H5, g5, q4⟩ => ?_
  exact d_setItem hu I5 g5 ry rz fun s6 I6 => ⟨σ, H5, I6, q4⟩
theorem ps_ddel (ho : PE X o td) (hi : PE X i ty) : PS X (.Delete [.Subscript o i tpos] pos) (sDDel td ty) := by
  intro pins s σ H D I h
  refine wpAny_Delete (wpAny_deleteEach_cons (wpAny_delete_Subscript (thn (ho pins s σ H _ I h) fun u s1 ⟨x, H1, I1, rx, q1⟩ => thn (hi pins s1 σ H1 _ I1 q1) fun iv s2 ⟨y, H2, I2, ry, a, kvs, k, ex, e, ey, l, q2⟩ => ?_)))
  subst ex ey
  obtain rfl : u = Value.ref a := rx
  exact d_delItem I2 e ry l fun s3 I3 => wpAny_deleteEach_nil ⟨σ, _, I3, q2⟩
end


/-! ### displays -/
theorem dk_empty {P : Program} {w : World} {H : Hp} (h : Heap) (hb : sysModules < h.objs.size) : ObjOk P w H (h.push { cls := .type "dict", data := .dict #[] }) h.objs.size (.dK []) :=
  ⟨Nat.zero_le _, beq_eq_false_iff_ne.mpr (Ne.symm (Nat.ne_of_lt hb)), [], .nil, Heap.DictOf.new h⟩
theorem dt_empty {P : Program} {w : World} {H : Hp} (h : Heap) (hb : sysModules < h.objs.size) : ObjOk P w H (h.push { cls := .type "dict", data := .dict #[] }) h.objs.size (.dT []) :=
  ⟨Nat.zero_le _, beq_eq_false_iff_ne.mpr (Ne.symm (Nat.ne_of_lt hb)), [], .nil, _, #[], 0, Heap.get?_push_size _ rfl, ⟨rfl, rfl, rfl⟩, rfl, rfl, List.nodup_nil⟩
/-- {}, to be a dict of the kind that is wanted -/
def tDNewK : TE := fun _ H Q => ∀ p, H p = none → Q (.ref p) (upd H p (.dK []))
def tDNewT : TE := fun _ H Q => ∀ p, H p = none → Q (.ref p) (upd H p (.dT []))
section
variable {X : Cx} {pos : Pos}
theorem pe_dnewK : PE X (.Dict [] [] pos) tDNewK := fun pins s σ H Q I h =>
  wpAny_Dict_empty ⟨.ref s.heap.objs.size, _, I.laid (a := s.heap.objs.size) (o := .dK []) (t' := s.toks) (fun _ _ q => Heap.get?_push_of_some _ q) (Nat.le_refl _) (dk_empty s.heap I.big), rfl, h _ (I.hok.fresh (Nat.le_refl _))⟩
theorem pe_dnewT : PE X (.Dict [] [] pos) tDNewT := fun pins s σ H Q I h =>
  wpAny_Dict_empty ⟨.ref s.heap.objs.size, _, I.laid (a := s.heap.objs.size) (o := .dT []) (t' := s.toks) (fun _ _ q => Heap.get?_push_of_some _ q) (Nat.le_refl _) (dt_empty s.heap I.big), rfl, h _ (I.hok.fresh (Nat.le_refl _))⟩
end

/-- the pairs of a display, from the left -/
def tPairs : List (TE × TE) → St → Hp → (List (V × V) → Hp → Prop) → Prop
  | [], _, H, Q => Q [] H
  | (tk, tv) :: r, σ, H, Q => tk σ H fun x H1 => tv σ H1 fun y H2 => tPairs r σ H2 fun ps H3 => Q ((x, y) :: ps) H3
abbrev VV : List (V × V) → List (Value × Value) → Prop := Paired fun p q => RelV p.1 q.1 ∧ RelV p.2 q.2
def PPs (X : Cx) (pos : Pos) (keys : List (Option Expr)) (values : List Expr) (trs : List (TE × TE)) : Prop :=
  ∀ (pins : List (Addr × Obj)) (s : Shared) (σ : St) (H : Hp) (Q : List (V × V) → Hp → Prop), Inv X pins σ H s → tPairs trs σ H Q →
    wpAny (model X.prog X.w) X.A (evalPairs (pairTrees keys values X.env pos)) (fun vs s' => ∃ ps H', Inv X pins σ H' s' ∧ VV ps vs ∧ Q ps H') X.xe s
theorem pps_nil {X : Cx} {pos : Pos} : PPs X pos [] [] [] := fun pins s σ H Q I h => pairTrees_nil_walk ⟨[], H, I, .nil, h⟩
theorem pps_cons {X : Cx} {pos : Pos} {k v : Expr} {ks : List (Option Expr)} {vs : List Expr} {tk tv : TE} {trs : List (TE × TE)} (hk : PE X k tk) (hv : PE X v tv) (hr : PPs X pos ks vs trs) :
    PPs X pos (some k :: ks) (v :: vs) ((tk, tv) :: trs) := fun pins s σ H Q I h =>
  pairTrees_cons_walk (thn (hk pins s σ H _ I h) fun u s1 ⟨x, H1, I1, rx, q1⟩ => thn (hv pins s1 σ H1 _ I1 q1) fun w2 s2 ⟨y, H2, I2, ry, q2⟩ =>
    thn (hr pins s2 σ H2 _ I2 q2) fun ws s3 ⟨ps, H3, I3, rel, q3⟩ => ⟨(x, y) :: ps, H3, I3, .cons ⟨rx, ry⟩ rel, q3⟩)

def mergeK (kvs more : List (Key × V)) : List (Key × V) := more.foldl (fun acc kv => putK acc kv.1 kv.2) kvs
theorem KV.merge : ∀ {more : List (Key × V)} {rs : List (Key × Value)} {kvs : List (Key × V)} {vs : List (Key × Value)}, KV more rs → KV kvs vs → KV (mergeK kvs more) (merged vs rs) := by
  intro more rs kvs vs r
  unfold KV at r
  induction r generalizing kvs vs with
  | nil => intro q; exact q
  | @cons p q ps qs h t ih =>
    intro r0
    have e : KV (putK kvs p.1 p.2) (stored vs q.1 q.2) := by
      have := r0.put p.1 h.2
      rw [← h.1]; exact this
    exact ih e
theorem length_mergeK : ∀ (more kvs : List (Key × V)), (mergeK kvs more).length ≤ kvs.length + more.length
  | [], kvs => by show kvs.length ≤ kvs.length + 0; omega
  | p :: r, kvs => by
    have h1 := length_mergeK r (putK kvs p.1 p.2)
    have h2 := length_putK kvs p.1 p.2
    show (mergeK (putK kvs p.1 p.2) r).length ≤ _
    rw [List.length_cons]; omega
theorem carries_of {P : Program} {w : World} : ∀ {kvs : List (Key × V)} {ws : List (Value × Value)}, VV (kvs.map fun kv => (kV kv.1, kv.2)) ws → ∃ rs, Carries (mixKind P w) ws rs ∧ KV kvs rs
  | [], _, r => by rw [List.map_nil] at r; cases r; exact ⟨[], True.intro, .nil⟩
  | p :: kvs, _, r => by
    rw [List.map_cons] at r
    cases r with
    | @cons a b as bs h t =>
      obtain ⟨rs, c, q⟩ := carries_of (P := P) (w := w) t
      obtain ⟨b1, b2⟩ := b
      exact ⟨(p.1, b2) :: rs, ⟨kV_is h.1, rfl, c⟩, .cons ⟨rfl, h.2⟩ q⟩
/-- {k: v, ..} with keys ints and texts; the new dict stands empty while the pairs are made -/
def tDisp (trs : List (TE × TE)) : TE := fun σ H Q => ∀ p, H p = none → tPairs trs σ (upd H p (.dK [])) fun ps H2 => H2 p = some (.dK []) ∧ ∃ kvs : List (Key × V), ps = kvs.map (fun kv => (kV kv.1, kv.2)) ∧ kvs.length ≤ 15 ∧ Q (.ref p) (upd H2 p (.dK (mergeK [] kvs)))
theorem pe_disp {X : Cx} {pos : Pos} {keys : List (Option Expr)} {values : List Expr} {trs : List (TE × TE)} (h : PPs X pos keys values trs) (hall : keys.all (·.isSome) = true) (hl : keys.length = values.length) (h0 : keys ≠ [])
    (h15 : keys.length ≤ 15) : PE X (.Dict keys values pos) (tDisp trs) := by
  intro pins s σ H Q I q
  have hn := I.hok.fresh (Nat.le_refl s.heap.objs.size)
  have I1 := I.laid (a := s.heap.objs.size) (o := .dK []) (h' := s.heap.push { cls := .type "dict", data := .dict #[] }) (t' := s.toks) (fun _ _ q => Heap.get?_push_of_some _ q) (Nat.le_refl _) (dk_empty s.heap I.big)
  refine wpAny_Dict_walk (knd := mixKind X.prog X.w) hall hl h0 h15 (thn (h pins _ σ _ _ I1 (q _ hn)) fun ws s2 ⟨ps, H2, I2, rel, e, kvs, ep, lk, q2⟩ => ?_)
  subst ep
  obtain ⟨rs, c, rk⟩ := carries_of (P := X.prog) (w := X.w) rel
  obtain ⟨z, hd, vs0, r0, dd⟩ := dk_of I2.hok e
  cases r0
  refine ⟨rs, c, dd, fun h' dd' hs => ⟨.ref s.heap.objs.size, _, ?_, rfl, q2⟩⟩
  have hz : (mergeK [] kvs).length ≤ sizeLine := by
    have h1 := length_mergeK kvs []
    rw [List.length_nil] at h1
    rw [sizeLine_eq]; omega
  have he : ∃ q, h'.get? s.heap.objs.size = some q := let ⟨q, _, _, hq, _⟩ := dd'; ⟨q, hq⟩
  exact d_write I2 (by rw [e]; exact True.intro) hs he (dk_new hz hd (rk.merge .nil) dd')


/-! ### methods -/
/-- a method call o.m(e) of a built-in, with one argument: what must be seen of the text -/
structure M1 (X : Cx) (o : Expr) (m : Str) (apos : Pos) (e : Expr) (cpos : Pos) : Prop where
  base : attributeBase o m X.env (eval o X.env) = eval o X.env
  few : ((backTo cpos (starEach [e] X.env)).all (fun x => !x.1) && (backToKw cpos (keywordEach [] X.env)).all (fun x => x.1.isSome)
    && decide (([e] : List Expr).length + ([] : List Keyword).length + (if ([] : List Keyword).isEmpty then 0 else 1) < 30)) = true
  line : (apos.endLine == cpos.line) = true
  trees : backTo cpos (starEach [e] X.env) = [(false, eval e X.env)]
structure M2 (X : Cx) (o : Expr) (m : Str) (apos : Pos) (e f : Expr) (cpos : Pos) : Prop where
  base : attributeBase o m X.env (eval o X.env) = eval o X.env
  few : ((backTo cpos (starEach [e, f] X.env)).all (fun x => !x.1) && (backToKw cpos (keywordEach [] X.env)).all (fun x => x.1.isSome)
    && decide (([e, f] : List Expr).length + ([] : List Keyword).length + (if ([] : List Keyword).isEmpty then 0 else 1) < 30)) = true
  line : (apos.endLine == cpos.line) = true
  trees : backTo cpos (starEach [e, f] X.env) = [(false, eval e X.env), (false, eval f X.env)]

/-- a is a dict, whatever its keys -/
def IsD (H : Hp) (a : Addr) : Prop := (∃ kvs, Rd H a (.dK kvs)) ∨ ∃ kvs, Rd H a (.dT kvs)
theorem isD_at {X : Cx} {pins : List (Addr × Obj)} {σ : St} {H : Hp} {s : Shared} {a : Addr} (I : Inv X pins σ H s) (d : IsD H a) :
    s.TypeIs (.ref a) "dict" ∧ (∀ b, Value.ref a = .ref b → ∃ ob, s.heap.get? b = some ob ∧ ob.dict = none) ∧ (a == sysModules) = false := by
  rcases d with ⟨kvs, e⟩ | ⟨kvs, e⟩
  · obtain ⟨_, hd, vs, _, dd⟩ := dk_rd I.hok e
    refine ⟨dd.typeIs, fun b q => ?_, hd⟩
    cases q
    obtain ⟨ob, _, _, h1, h2, _⟩ := dd
    exact ⟨ob, h1, h2.2.1⟩
  · obtain ⟨_, hd, xs, _, dd⟩ := dt_rd I.hok e
    refine ⟨dd.typeIs, fun b q => ?_, hd⟩
    cases q
    obtain ⟨ob, _, _, h1, h2, _⟩ := dd
    exact ⟨ob, h1, h2.2.1⟩

section
variable {X : Cx} {pins : List (Addr × Obj)} {σ : St} {H : Hp} {s : Shared} {a : Addr} {y d : V} {u r : Value} {o : Option V} {A : Around} {E : Value → Shared → Prop}
/-- d.get(y) -/
theorem d_get1 {Q : Value → Shared → Prop} (hu : A.units + 1 < cLine) (I : Inv X pins σ H s) (g : DGet H a y o) (ry : RelV y u) (h : ∀ w' s', Inv X pins σ H s' → RelV (o.getD .non) w' → Q w' s') :
    wpAny (model X.prog X.w) A (call (.builtin "dict.get") [.ref a, u]) Q E s := by
  rcases g with ⟨kvs, k, e, ey, l⟩ | ⟨kvs, k, b, e, ey, eb, l⟩
  · subst ey
    obtain ⟨z, hd, vs, rel, dd⟩ := dk_rd I.hok e
    refine call_meetsIn PySem.F.slot_dict_get dd.typeIs PySem.F.entry_dict_get (PySem.F.args_dict_get_2 _ _) (meets_dict_get (mixKind X.prog X.w) a (kV_is ry) hd) ⟨_, dd.mapOf, h _ _ (I.tok _) ?_⟩
    rw [l]
    exact (rel.val k).getD rfl
  · subst ey
    cases (show u = Value.ref b from ry)
    obtain ⟨z, hd, xs, rel, dd⟩ := dt_rd I.hok e
    refine call_meetsIn PySem.F.slot_dict_get dd.typeIs PySem.F.entry_dict_get (PySem.F.args_dict_get_2 _ _) (meetsH_dict_get (tupleKind (mixKind X.prog X.w)) a b hd) ⟨tupleKind_room_in1 hu, k, xs, key_of I.hok eb, dd, h _ _ (I.tok _) ?_⟩
    rw [l]
    exact (rel.val k).getD rfl
/-- d.get(y, x) -/
theorem d_get2 {Q : Value → Shared → Prop} (hu : A.units + 1 < cLine) (I : Inv X pins σ H s) (g : DGet H a y o) (ry : RelV y u) (rd : RelV d r) (h : ∀ w' s', Inv X pins σ H s' → RelV (o.getD d) w' → Q w' s') :
    wpAny (model X.prog X.w) A (call (.builtin "dict.get") [.ref a, u, r]) Q E s := by
  rcases g with ⟨kvs, k, e, ey, l⟩ | ⟨kvs, k, b, e, ey, eb, l⟩
  · subst ey
    obtain ⟨z, hd, vs, rel, dd⟩ := dk_rd I.hok e
    refine call_meetsIn PySem.F.slot_dict_get dd.typeIs PySem.F.entry_dict_get (PySem.F.args_dict_get_3 _ _ _) (meets_dict_get_default (mixKind X.prog X.w) a (kV_is ry) hd r) ⟨_, dd.mapOf, h _ _ (I.tok _) ?_⟩
    rw [l]
    exact (rel.val k).getD rd
  · subst ey
    cases (show u = Value.ref b from ry)
    obtain ⟨z, hd, xs, rel, dd⟩ := dt_rd I.hok e
    refine call_meetsIn PySem.F.slot_dict_get dd.typeIs PySem.F.entry_dict_get (PySem.F.args_dict_get_3 _ _ _) (meetsH_dict_get_default (tupleKind (mixKind X.prog X.w)) a b hd r) ⟨tupleKind_room_in1 hu, k, xs, key_of I.hok eb, dd, h _ _ (I.tok _) ?_⟩
    rw [l]
    exact (rel.val k).getD rd
end

def tDGet1 (td ty : TE) : TE := fun σ H Q => td σ H fun x H1 => ∃ a, x = .ref a ∧ IsD H1 a ∧ ty σ H1 fun y H2 => ∃ o, DGet H2 a y o ∧ Q (o.getD .non) H2
def tDGet2 (td ty tx : TE) : TE := fun σ H Q => td σ H fun x H1 => ∃ a, x = .ref a ∧ IsD H1 a ∧ ty σ H1 fun y H2 => tx σ H2 fun z H3 => ∃ o, DGet H3 a y o ∧ Q (o.getD z) H3
/-- d.pop(k): there; d.pop(k, x): there or not -/
def tDPop1 (td ty : TE) : TE := fun σ H Q => td σ H fun x H1 => ∃ a, x = .ref a ∧ IsD H1 a ∧ ty σ H1 fun y H2 => ∃ kvs k v, H2 a = some (.dK kvs) ∧ y = kV k ∧ valV kvs k = some v ∧ Q v (upd H2 a (.dK (dropK kvs k)))
def tDPop2 (td ty tx : TE) : TE := fun σ H Q => td σ H fun x H1 => ∃ a, x = .ref a ∧ IsD H1 a ∧ ty σ H1 fun y H2 => tx σ H2 fun z H3 => ∃ kvs k, H3 a = some (.dK kvs) ∧ y = kV k ∧
  (∀ v, valV kvs k = some v → Q v (upd H3 a (.dK (dropK kvs k)))) ∧ (valV kvs k = none → Q z H3)
section
variable {X : Cx} {o e f : Expr} {apos cpos : Pos} {td ty tx : TE}
theorem pe_dget1 (hu : X.A.units + 1 < cLine) (ho : PE X o td) (he : PE X e ty) (m : M1 X o "get" apos e cpos) : PE X (.Call (.Attribute o "get" apos) [e] [] cpos) (tDGet1 td ty) := by
  intro pins s σ H Q I h
  refine wpAny_Call_method m.base m.few m.line PySem.F.plainAttrs_dict PySem.F.slot_dict_get PySem.F.type_dict_get (thn (ho pins s σ H _ I h) fun u s1 ⟨x, H1, I1, rx, a, ex, d, q1⟩ => ?_)
  subst ex
  obtain rfl : u = Value.ref a := rx
  obtain ⟨t1, t2, _⟩ := isD_at I1 d
  refine ⟨t1, t2, ?_⟩
  rw [m.trees]
  refine Calls.callWith_builtin rfl (Calls.evalArgs_plain (Calls.spliced_cons (thn (he pins s1 σ H1 _ I1 q1) fun iv s2 ⟨y, H2, I2, ry, ov, g, q2⟩ => Calls.spliced_nil ?_)))
  exact d_get1 hu I2 g ry fun w' s3 I3 rw' => ⟨_, H2, I3, rw', q2⟩
theorem pe_dget2 (hu : X.A.units + 1 < cLine) (ho : PE X o td) (he : PE X e ty) (hf : PE X f tx) (m : M2 X o "get" apos e f cpos) : PE X (.Call (.Attribute o "get" apos) [e, f] [] cpos) (tDGet2 td ty tx) := by
  intro pins s σ H Q I h
  refine wpAny_Call_method m.base m.few m.line PySem.F.plainAttrs_dict PySem.F.slot_dict_get PySem.F.type_dict_get (thn (ho pins s σ H _ I h) fun u s1 ⟨x, H1, I1, rx, a, ex, d, q1⟩ => ?_)
  subst ex
  obtain rfl : u = Value.ref a := rx
  obtain ⟨t1, t2, _⟩ := isD_at I1 d
  refine ⟨t1, t2, ?_⟩
  rw [m.trees]
  refine Calls.callWith_builtin rfl (Calls.evalArgs_plain (Calls.spliced_cons (thn (he pins s1 σ H1 _ I1 q1) fun iv s2 ⟨y, H2, I2, ry, q2⟩ =>
    Calls.spliced_cons (thn (hf pins s2 σ H2 _ I2 q2) fun fv s3 ⟨z, H3, I3, rz, ov, g, q3⟩ => Calls.spliced_nil ?_))))
  exact d_get2 hu I3 g ry rz fun w' s4 I4 rw' => ⟨_, H3, I4, rw', q3⟩
theorem pe_dpop1 (ho : PE X o td) (he : PE X e ty) (m : M1 X o "pop" apos e cpos) : PE X (.Call (.Attribute o "pop" apos) [e] [] cpos) (tDPop1 td ty) := by
  intro pins s σ H Q I h
  refine wpAny_Call_method m.base m.few m.line PySem.F.plainAttrs_dict PySem.F.slot_dict_pop PySem.F.type_dict_pop (thn (ho pins s σ H _ I h) fun u s1 ⟨x, H1, I1, rx, a, ex, d, q1⟩ => ?_)
  subst ex
  obtain rfl : u = Value.ref a := rx
  obtain ⟨t1, t2, _⟩ := isD_at I1 d
  refine ⟨t1, t2, ?_⟩
  rw [m.trees]
  refine Calls.callWith_builtin rfl (Calls.evalArgs_plain (Calls.spliced_cons (thn (he pins s1 σ H1 _ I1 q1) fun iv s2 ⟨y, H2, I2, ry, kvs, k, v, ea, ey, l, q2⟩ => Calls.spliced_nil ?_)))
  subst ey
  exact d_pop I2 ea ry l (.inl rfl) fun w' s3 I3 rw' => ⟨v, _, I3, rw', q2⟩
theorem pe_dpop2 (ho : PE X o td) (he : PE X e ty) (hf : PE X f tx) (m : M2 X o "pop" apos e f cpos) : PE X (.Call (.Attribute o "pop" apos) [e, f] [] cpos) (tDPop2 td ty tx) := by
  intro pins s σ H Q I h
  refine wpAny_Call_method m.base m.few m.line PySem.F.plainAttrs_dict PySem.F.slot_dict_pop PySem.F.type_dict_pop (thn (ho pins s σ H _ I h) fun u s1 ⟨x, H1, I1, rx, a, ex, d, q1⟩ => ?_)
  subst ex
  obtain rfl : u = Value.ref a := rx
  obtain ⟨t1, t2, _⟩ := isD_at I1 d
  refine ⟨t1, t2, ?_⟩
  rw [m.trees]
  refine Calls.callWith_builtin rfl (Calls.evalArgs_plain (Calls.spliced_cons (thn (he pins s1 σ H1 _ I1 q1) fun iv s2 ⟨y, H2, I2, ry, q2⟩ =>
    Calls.spliced_cons (thn (hf pins s2 σ H2 _ I2 q2) fun fv s3 ⟨z, H3, I3, rz, kvs, k, ea, ey, q3, q4⟩ => Calls.spliced_nil ?_))))
  subst ey
  cases l : valV kvs k with
  | some v => exact d_pop I3 ea ry l (.inr ⟨fv, rfl⟩) fun w' s4 I4 rw' => ⟨v, _, I4, rw', q3 v l⟩
  | none => exact d_popD I3 ea ry l fun s4 I4 => ⟨z, H3, I4, rz, q4 l⟩
end

/-! ### dict(d): a copy -/
section
variable {X : Cx} {pins : List (Addr × Obj)} {σ : St} {H : Hp} {s : Shared} {a : Addr} {kvs : List (Key × V)} {A : Around} {E : Value → Shared → Prop}
theorem d_copyOf {Q : Value → Shared → Prop} (I : Inv X pins σ H s) (e : Rd H a (.dK kvs)) (h : ∀ p s', H p = none → Inv X pins σ (upd H p (.dK kvs)) s' → Q (.ref p) s') : wpAny (model X.prog X.w) A (call (.type "dict") [.ref a]) Q E s := by
  obtain ⟨z, hd, vs, rel, dd⟩ := dk_rd I.hok e
  refine kt_call_dict hd dd (by rw [← rel.length]; exact z) fun h' dd' hs => ?_
  refine h _ _ (I.hok.fresh (Nat.le_refl _)) (I.laid (a := s.heap.objs.size) (o := .dK kvs) (t' := s.toks) (fun b q hq => ?_) (Nat.le_refl _) (dk_new z (beq_eq_false_iff_ne.mpr (Ne.symm (Nat.ne_of_lt I.big))) rel dd'))
  exact (hs.2 b (Nat.ne_of_lt (Heap.lt_size hq))).trans (Heap.get?_push_of_some _ hq)
end


section
variable {X : Cx} {pins : List (Addr × Obj)} {σ : St} {H : Hp} {s : Shared} {a : Addr} {y : V} {u : Value} {A : Around} {E : Value → Shared → Prop}
/-- d[y], not there: a KeyError -/
theorem d_missing {Q : Value → Shared → Prop} (hu : A.units + 1 < cLine) (hh : A.handled = none) (I : Inv X pins σ H s) (g : DGet H a y none) (ry : RelV y u)
    (h : ∀ h' e t', Heap.NewExc s.heap h' e "KeyError" → E (.ref e) { s with heap := h', toks := t' }) : wpAny (model X.prog X.w) A (getItem (.ref a) u) Q E s := by
  rcases g with ⟨kvs, k, e, ey, l⟩ | ⟨kvs, k, b, e, ey, eb, l⟩
  · subst ey
    obtain ⟨z, hd, vs, rel, dd⟩ := dk_rd I.hok e
    have hn : valueAt vs k = none := RelO.none_of (by rw [l]; exact rel.val k)
    exact wpAny_getItem_missing_of (kV_is ry) hd hh dd.mapOf hn fun h' ex ne => h h' ex _ ne
  · subst ey
    cases (show u = Value.ref b from ry)
    obtain ⟨z, hd, xs, rel, dd⟩ := dt_rd I.hok e
    have hn : (atKey xs k).map (·.2) = none := RelO.none_of (by rw [l]; exact rel.val k)
    exact wpAny_getItem_missing_heap (tupleKind_room_in1 hu) (key_of I.hok eb) hd hh dd (Option.map_eq_none_iff.mp hn) fun h' ex ne => h h' ex _ ne

end

end L2


namespace Att
open PySem PySem.W PySem.Calls PyProof.Rows

/-! ### the script -/
theorem ints_of_wellAll {P : Params} {h : Heap} : ∀ (ns : List Int) (vs : List Value), WellAll P h vs (ns.map WData.int) → IntsAre vs ns := by
  intro ns
  induction ns with
  | nil =>
    intro vs w
    rw [List.map_nil] at w
    cases w
    exact .nil
  | cons n ns ih =>
    intro vs w
    rw [List.map_cons] at w
    cases w with
    | cons a b =>
      cases a
      exact .cons _ _ (ih _ b)

theorem script_of {l : OpenLaw} {n : Nat} (hn : l.most = some n) {P : Params} {h : Heap} {args : List WData} {vals : List Value}
    (hpre : l.row.toRowW.claim.pre args = true) (hwl : WellAll P h vals args) :
    ∃ a vs ns, vals = [Value.ref a] ∧ args = [WData.list (ns.map WData.int)] ∧ h.get? a = some { cls := .type "list", data := .seq vs.toArray } ∧ IntsAre vs ns ∧ ns.length ≤ n := by
  have hsh : WShape.hasAll [] args [.list .int] = true := (pre_splitW hpre).1
  have hc : l.pre.holds [] { args := args } = true := (pre_splitW hpre).2
  obtain ⟨d, r, rfl, h1, h2⟩ := hasAllW_cons hsh
  obtain rfl := hasAllW_nil h2
  obtain ⟨xs, rfl, h3⟩ := hasW_list h1
  obtain ⟨ns, rfl⟩ := items_int h3
  have hlen : ns.length ≤ n := by
    unfold OpenLaw.pre at hc
    have h4 : (WTm.not (.lt (.lit (.int (n : Int))) (.len (.arg 0)))).holds [] { args := [.list (ns.map .int)] } = true := by
      have h4 := (holds_andW hc).1
      rw [hn] at h4
      exact h4
    have h5 := condW_of h4 (w_not (w_lt w_lit (w_len_list (w_arg rfl))))
    rw [List.length_map] at h5
    refine Nat.le_of_not_lt fun q => ?_
    have q' : (n : Int) < ((ns.length : Nat) : Int) := by omega
    first
      | (rw [decide_eq_true q'] at h5; exact absurd h5 (by decide))
      | (simp at h5; omega)
  cases hwl with
  | cons w1 w2 =>
    cases w2
    cases w1 with
    | list ho hall => exact ⟨_, _, ns, rfl, rfl, ho, ints_of_wellAll ns _ hall, hlen⟩

theorem post_true (l : OpenLaw) (args : List WData) : l.row.toRowW.claim.post args (.bool true) args = true :=
  postW_of (r := l.row.toRowW) (X := (true == true))
    (show WShape.has [] (.bool true) .bool = true by first | rfl | decide | simp [WShape.has, WShape.arms, WShape.armsAll])
    (show (WTm.eq .res (.lit (.bool true))).value [] { args := args, res := some (.bool true), after := args } = some (.bool (true == true)) from w_eq_bool (w_res rfl) w_lit) rfl

/-! ### the attachment: holds_open's last premise (the goal 'hc' behind k_head) from a wpAny of the law's body -/
theorem attach {l : OpenLaw} {n : Nat} {q : Program} {loose : List Str} {XP : (Str → Option Value) → Heap → Prop} {YP : World → Heap → Prop} {d : DefRec} {x : Str}
    (hn : l.most = some n) (hdf : d.params.defaults = [])
    (hbind : ∀ pm cd doc v : Value, bindArgs (docDef d.name d.params d.body d.scope pm cd doc) ⟨[v], []⟩ = pure [(x, v)])
    (hx : d.scope.names.lookup x = some .local ∨ d.scope.names.lookup x = some .cell)
    (hk : d.scope.kind = .function) (hco : d.scope.isCoroutine = false) (hgen : d.scope.isGenerator = false)
    (body : ∀ (w : World) (s₀ s₁ s : Shared) (mg mb : Str → Option Value) (fa : Addr) (o : Obj) (pm cd doc : Value) (a : Addr) (vs : List Value) (ns : List Int),
      Ground q loose [] XP w s₀ mg mb s₁.heap → YP w s₁.heap →
      s₁.heap.get? fa = some o → o.data = .func (docDef d.name d.params d.body d.scope pm cd doc) → s₁.heap.CodeRec cd d.name → mg d.name = some (.ref fa) →
      s₁.heap.get? a = some { cls := .type "list", data := .seq vs.toArray } → IntsAre vs ns → ns.length ≤ n →
      s.gens = #[] → s.os = s₁.os →
      Fr s₁.heap s₁.heap.objs.size s.heap (bindL (envOfC d.name d.scope s₁.heap.objs.size fa cd).kindOf [(x, .ref a)] fun _ => none) →
      Cl s₁.heap.objs.size (cellsFrom (s₁.heap.objs.size + 1) d.scope.names []) s.heap (bindC (envOfC d.name d.scope s₁.heap.objs.size fa cd).kindOf [(x, .ref a)] fun _ => none) →
      wpAny (model l.prog w) (callerA.deeper (envOfC d.name d.scope s₁.heap.objs.size fa cd)) (execs d.body (envOfC d.name d.scope s₁.heap.objs.size fa cd))
        (fun f s' => f = .ret (.bool true) ∧ OldK s₁.heap s'.heap ∧ s'.os = s₁.os ∧ AllBare s'.gens) (fun _ _ => False) s) :
    WalkO q loose XP YP l.row.toRowW d [] (fun f vs => PySem.call f vs) := by
  intro w s₀ s₁ mg mb G Y fa o pm cd doc dV kV ho hd hcd hD hmg hg args vals as hpre hlay hrd hwl hlo
  obtain rfl : dV = .none := Dflts.none hD hdf
  obtain rfl : kV = .none := Dflts.noKw hD
  obtain ⟨a, vs, ns, rfl, rfl, hobj, hints, hlen⟩ := script_of hn hpre hwl
  refine enter_call ?_
  refine call_cells_ret (o := o) (by rw [depth_caller]; decide) ho (fd_plain hd) G.T.nolimit hcd (hbind pm cd doc (.ref a)) (fun y hy => ?_) (fun h₁ tk F X => ?_) hco hgen hk
  · obtain rfl : y = (x, Value.ref a) := List.mem_singleton.mp hy
    rcases hx with e | e
    · exact .inl e
    · exact .inr ⟨e, cellsFrom_some _ _ _ (.inl e)⟩
  · refine wpAny_mono (body w s₀ s₁ { s₁ with heap := h₁, toks := tk } mg mb fa o pm cd doc a vs ns G Y ho (fd_plain hd) hcd hmg hobj hints hlen hg rfl F X) (fun f s' hq => ?_) (fun _ _ hq => hq)
    obtain ⟨rfl, h2, h3, h4⟩ := hq
    exact ⟨.inl ⟨.bool true, .bool true, [], rfl, fun _ => rfl, .bool true, post_true l _, fun _ => ⟨List.Pairwise.nil, fun _ hm => (nomatch hm)⟩⟩, h2, h3, h4⟩

/-- the same from a codeAny of the CALL (for a layer whose function contracts speak of calls) -/
theorem attach_call {l : OpenLaw} {n : Nat} {q : Program} {loose : List Str} {XP : (Str → Option Value) → Heap → Prop} {YP : World → Heap → Prop} {d : DefRec}
    (hn : l.most = some n) (hdf : d.params.defaults = [])
    (call : ∀ (w : World) (s₀ s₁ : Shared) (mg mb : Str → Option Value) (fa : Addr) (o : Obj) (pm cd doc : Value) (a : Addr) (vs : List Value) (ns : List Int),
      Ground q loose [] XP w s₀ mg mb s₁.heap → YP w s₁.heap →
      s₁.heap.get? fa = some o → o.data = .func (docDef d.name d.params d.body d.scope pm cd doc) → s₁.heap.CodeRec cd d.name → mg d.name = some (.ref fa) →
      s₁.heap.get? a = some { cls := .type "list", data := .seq vs.toArray } → IntsAre vs ns → ns.length ≤ n → s₁.gens = #[] →
      codeAny (model l.prog w) callerA (.call (.ref fa) ⟨[.ref a], []⟩) (fun r s' => r = .ok (.ret (.bool true)) ∧ OldK s₁.heap s'.heap ∧ s'.os = s₁.os ∧ AllBare s'.gens) s₁) :
    WalkO q loose XP YP l.row.toRowW d [] (fun f vs => PySem.call f vs) := by
  intro w s₀ s₁ mg mb G Y fa o pm cd doc dV kV ho hd hcd hD hmg hg args vals as hpre hlay hrd hwl hlo
  obtain rfl : dV = .none := Dflts.none hD hdf
  obtain rfl : kV = .none := Dflts.noKw hD
  obtain ⟨a, vs, ns, rfl, rfl, hobj, hints, hlen⟩ := script_of hn hpre hwl
  refine enter_call (codeAny_mono (call w s₀ s₁ mg mb fa o pm cd doc a vs ns G Y ho (fd_plain hd) hcd hmg hobj hints hlen hg) fun r s' hq => ?_)
  obtain ⟨rfl, h2, h3, h4⟩ := hq
  exact ⟨.inl ⟨.bool true, .bool true, [], rfl, fun _ => rfl, .bool true, post_true l _, fun _ => ⟨List.Pairwise.nil, fun _ hm => (nomatch hm)⟩⟩, h2, h3, h4⟩

/-- the same where the top left finished generators (o_head chose holds_openN): nothing may have changed at all and no generator may be left -/
theorem attachN {l : OpenLaw} {n : Nat} {q : Program} {loose : List Str} {XP : (Str → Option Value) → Heap → Prop} {YP : World → Heap → Prop} {d : DefRec} {x : Str}
    (hn : l.most = some n) (hdf : d.params.defaults = [])
    (hbind : ∀ pm cd doc v : Value, bindArgs (docDef d.name d.params d.body d.scope pm cd doc) ⟨[v], []⟩ = pure [(x, v)])
    (hx : d.scope.names.lookup x = some .local ∨ d.scope.names.lookup x = some .cell)
    (hk : d.scope.kind = .function) (hco : d.scope.isCoroutine = false) (hgen : d.scope.isGenerator = false)
    (body : ∀ (w : World) (s₀ s₁ s : Shared) (mg mb : Str → Option Value) (fa : Addr) (o : Obj) (pm cd doc : Value) (a : Addr) (vs : List Value) (ns : List Int),
      Ground q loose [] XP w s₀ mg mb s₁.heap → YP w s₁.heap →
      s₁.heap.get? fa = some o → o.data = .func (docDef d.name d.params d.body d.scope pm cd doc) → s₁.heap.CodeRec cd d.name → mg d.name = some (.ref fa) →
      s₁.heap.get? a = some { cls := .type "list", data := .seq vs.toArray } → IntsAre vs ns → ns.length ≤ n →
      s.gens = #[] → s.os = s₁.os →
      Fr s₁.heap s₁.heap.objs.size s.heap (bindL (envOfC d.name d.scope s₁.heap.objs.size fa cd).kindOf [(x, .ref a)] fun _ => none) →
      Cl s₁.heap.objs.size (cellsFrom (s₁.heap.objs.size + 1) d.scope.names []) s.heap (bindC (envOfC d.name d.scope s₁.heap.objs.size fa cd).kindOf [(x, .ref a)] fun _ => none) →
      wpAny (model l.prog w) (callerA.deeper (envOfC d.name d.scope s₁.heap.objs.size fa cd)) (execs d.body (envOfC d.name d.scope s₁.heap.objs.size fa cd))
        (fun f s' => f = .ret (.bool true) ∧ (∀ b o, s₁.heap.get? b = some o → s'.heap.get? b = some o) ∧ s'.os = s₁.os ∧ s'.gens = #[]) (fun _ _ => False) s) :
    WalkN q loose XP YP l.row.toRowW d [] (fun f vs => PySem.call f vs) := by
  intro w s₀ s₁ mg mb G Y fa o pm cd doc dV kV ho hd hcd hD hmg hg args vals as hpre hlay hrd hwl hlo
  obtain rfl : dV = .none := Dflts.none hD hdf
  obtain rfl : kV = .none := Dflts.noKw hD
  obtain ⟨a, vs, ns, rfl, rfl, hobj, hints, hlen⟩ := script_of hn hpre hwl
  refine enter_callW ?_
  refine call_cells_ret (o := o) (by rw [depth_caller]; decide) ho (fd_plain hd) G.T.nolimit hcd (hbind pm cd doc (.ref a)) (fun y hy => ?_) (fun h₁ tk F X => ?_) hco hgen hk
  · obtain rfl : y = (x, Value.ref a) := List.mem_singleton.mp hy
    rcases hx with e | e
    · exact .inl e
    · exact .inr ⟨e, cellsFrom_some _ _ _ (.inl e)⟩
  · refine wpAny_mono (body w s₀ s₁ { s₁ with heap := h₁, toks := tk } mg mb fa o pm cd doc a vs ns G Y ho (fd_plain hd) hcd hmg hobj hints hlen hg rfl F X) (fun f s' hq => ?_) (fun _ _ hq => hq)
    obtain ⟨rfl, h2, h3, h4⟩ := hq
    exact ⟨.inl ⟨.bool true, .bool true, [], rfl, fun _ => rfl, .bool true, post_true l _, fun _ => ⟨List.Pairwise.nil, fun _ hm => (nomatch hm)⟩⟩, h2, h3, h4⟩

/-! ### rules over ANY heap (no ledger) from facts about the written part K: the library's own take a ledger (News) for what they write -/
section
variable {prog : Program} {w : World} {A : Around} {E : Value → Shared → Prop} {s : Shared} {K : Frag}

/-- a def of the module, or a method (qual 'C.m'), entered: the frame is the next address; cells behind it -/
theorem call_fn {R : Result → Shared → Prop} {name qual : Str} {params : Arguments} {body : List Stmt} {scope : Scope} {dV kV doc pm cdv ct oc : Value} {an od : Option Addr} {osl : Array (Option Value)} {f : Addr} {args : Args} {binds : List (Str × Value)}
    (X : K.In s.heap) (hlim : s.heap.NoLimit) (ho : K.lookup f = some ⟨oc, od, .func (fnOf name qual params body scope dV kV doc pm an cdv ct), osl⟩) (hcd : codeIn K cdv qual = true) (hroom : A.depth < recursionLimit)
    (hbind : BindsTo s (fnOf name qual params body scope dV kV doc pm an cdv ct) args binds)
    (hkind : (binds.all fun y => scope.names.lookup y.1 == some .local || scope.names.lookup y.1 == some .cell) = true)
    (h : ∀ s₁, InCallC s s.heap.objs.size (bindL (envOfC qual scope s.heap.objs.size f cdv).kindOf binds fun _ => none) (cellsFrom (s.heap.objs.size + 1) scope.names [])
        (bindC (envOfC qual scope s.heap.objs.size f cdv).kindOf binds fun _ => none) s₁ →
      wpAny (model prog w) (A.deeper (envOfC qual scope s.heap.objs.size f cdv)) (execs body (envOfC qual scope s.heap.objs.size f cdv))
        (fun fl s' => R (.ok (.ret (match fl with | .ret v => v | _ => .none))) s')
        (fun e s' => wpAny (model prog w) (A.deeper (envOfC qual scope s.heap.objs.size f cdv)) (leaving (envOfC qual scope s.heap.objs.size f cdv) e) (fun _ s'' => R (.error e) s'') (fun e' s'' => R (.error e') s'') s') s₁)
    (hco : scope.isCoroutine = false) (hgen : scope.isGenerator = false) (hk : scope.kind = .function) : codeAny (model prog w) A (.call (.ref f) args) R s := by
  refine codeAny_call_function hroom (X _ _ ho) rfl hco hgen rfl (codeRec_of X hcd) (hbind _ _ _ _ ?_)
  refine wpAny_newFunctionEnv_cells hk (kindsX hkind _) fun env he s₁ x => ?_
  subst he
  exact ⟨hlim.keeps x.toInCall.keep, codeAny_func (h s₁ x)⟩

/-- C(..): dict at size, instance at size + 1, then __init__ -/
theorem make_obj {R : Result → Shared → Prop} {C fI : Addr} {rest : List Value} {kw : List (Str × Value)}
    (X : K.In s.heap) (hm : makesIn K C = true) (hi : findIn K (.ref C) "__init__" = some (some (.ref fI))) (hf : isFn K (.ref fI) = true)
    (h : codeAny (model prog w) (A.under (.builtin "type.__call__" ⟨.ref C :: rest, kw⟩)) (.call (.ref fI) ⟨.ref (s.heap.objs.size + 1) :: rest, kw⟩) (InitBack (s.heap.objs.size + 1) R)
      { s with heap := (s.heap.push emptyDict).push (instObj C s.heap.objs.size) }) : codeAny (model prog w) A (.call (.ref C) ⟨rest, kw⟩) R s := by
  obtain ⟨hh, g, d, t, os⟩ := s
  exact make_core (makes_of X hm) (looks_findIn X hi) (fun self => bind_fn X self (beq_iff_eq.mp hf)) (.inl rfl) h

/-- x.name where the instance's dict holds the name and the class does not -/
theorem get_field {x C : Addr} {ox : Obj} {es : List DictEntry} {n : Nat} {name : Str} {expr : Bool} {v : Value} {Q : Value → Shared → Prop}
    (X : K.In s.heap) (I : PySem.W.InstAt s.heap x ox C (some (dictOf es n))) (hg : plainGet K C name = true) (hh : hasDictIn K C = true) (ha : findIn K (.ref C) name = some none)
    (hl : getL name es = some (some v)) (hv : handedIn v = true) (h : Q v { s with toks := s.toks + 1 }) : wpAny (model prog w) A (getAttr (.ref x) name expr) Q E s :=
  get_value X I (plainGet_of hg).1 (findObj_own hh ha rfl hl) hv h

/-- x.m(..): the method found in the class -/
theorem get_method {x C f : Addr} {ox : Obj} {es : List DictEntry} {n : Nat} {name : Str} {pl : Sem Bool} {Q : Value × List Value → Shared → Prop}
    (X : K.In s.heap) (I : PySem.W.InstAt s.heap x ox C (some (dictOf es n))) (hg : plainGet K C name = true) (hf : findIn K (.ref C) name = some (some (.ref f))) (ht : isFn K (.ref f) = true)
    (hl : getL name es = some none) (h : Q (.ref f, [.ref x]) s) : wpAny (model prog w) A (getMethod (.ref x) name pl) Q E s :=
  method_fn X I (plainGet_of hg).1 (plainGet_of hg).2 hf (beq_iff_eq.mp ht) (by show (lookIn name (dictOf es n)).map _ = _; rw [lookIn_dict, hl]; rfl) h

/-! the whole heap as the ledger: makes every rule that writes through a ledger a rule over any heap -/
def noObjs (h : Heap) : Heap := { h with objs := #[] }
theorem noObjs_get (h : Heap) (b : Addr) : (noObjs h).get? b = none := by
  cases e : (noObjs h).get? b with
  | none => rfl
  | some o => exact absurd (Heap.lt_size e) (Nat.not_lt_zero _)
def ledger (h : Heap) (L d : Addr) : List (Addr × Obj) := (List.range h.objs.size).filterMap fun a => if a = L ∨ a = d then none else (h.get? a).map fun o => (a, o)
theorem mem_ledger {h : Heap} {L d a : Addr} {o : Obj} : (a, o) ∈ ledger h L d ↔ a ≠ L ∧ a ≠ d ∧ h.get? a = some o := by
  unfold ledger
  rw [List.mem_filterMap]
  constructor
  · rintro ⟨b, _, e⟩
    split at e
    · cases e
    · rename_i hb
      obtain ⟨o', ho, e'⟩ := Option.map_eq_some_iff.mp e
      cases e'
      exact ⟨fun q => hb (.inl q), fun q => hb (.inr q), ho⟩
  · rintro ⟨n1, n2, ho⟩
    refine ⟨a, List.mem_range.mpr (Heap.lt_size ho), ?_⟩
    rw [if_neg (show ¬ (a = L ∨ a = d) from fun q => q.elim n1 n2), ho] <;> rfl
theorem news_ledger {h : Heap} {L d : Addr} {od : Obj} (hne : d ≠ L) (ho : h.get? d = some od) : News (noObjs h) L h ([] ++ (d, od) :: ledger h L d) := by
  rintro ⟨a, o⟩ hp
  rcases List.mem_cons.mp hp with e | hp
  · cases e
    exact ⟨ho, hne, noObjs_get _ _⟩
  · obtain ⟨n1, n2, e⟩ := mem_ledger.mp hp
    exact ⟨e, n1, noObjs_get _ _⟩
theorem fr_all {h : Heap} {L : Addr} {m : Str → Option Value} (n : h.Ns L m) : Fr (noObjs h) L h m :=
  ⟨n, fun b o e => (by rw [noObjs_get] at e; cases e), Nat.zero_le _⟩
/-- Upd of the head entry (for append_K, setItem_K ..) -/
theorem upd_ledger {h : Heap} {L d : Addr} {o o' : Obj} : Upd d o o' ((d, o) :: ledger h L d) ((d, o') :: ledger h L d) :=
  .head fun ⟨_, _⟩ hp => (mem_ledger.mp hp).2.1

/-- x.name = v over any heap: L is any namespace of the heap (the frame's, say): its map stays, its object is not told; all else but the dict stays -/
theorem set_field {x C dx L : Addr} {ox : Obj} {m : Str → Option Value} {es es' : List DictEntry} {n n' : Nat} {name : Str} {v : Value} {Q : Unit → Shared → Prop}
    (X : K.In s.heap) (I : PySem.W.InstAt s.heap x ox C (some (dictOf es n))) (hd : ox.dict = some dx) (hL : s.heap.Ns L m) (hne : dx ≠ L)
    (hs : findIn K (.ref C) "__setattr__" = some (some (.builtin "object.__setattr__"))) (hp : plainOver K C = true) (ht : takerIn K C name = some none) (hh : hasDictIn K C = true) (hl : (getL name es).isSome = true)
    (e : (putL name (PyData.keyHash w.params name) (.str name (s.toks + 1)) v es, putN name es n) = (es', n')) (hz : es'.length ≤ 1000)
    (h : ∀ h' : Heap, h'.Ns L m → h'.get? dx = some (dictOf es' n') → (∀ b o, b ≠ dx → b ≠ L → s.heap.get? b = some o → h'.get? b = some o) → Q () { s with heap := h', toks := s.toks + 2 }) :
    wpAny (model prog w) A (setAttr (.ref x) name v) Q E s := by
  obtain ⟨e1, e2⟩ := Prod.mk.inj e
  have hdx : s.heap.get? dx = some (dictOf es n) := by
    have := I.dict
    rw [hd] at this
    exact this
  refine set_plain X I hs (osa_dict (s := { s with toks := s.toks + 1 }) (h₀ := noObjs s.heap) (L := L) (m := m) (od := dictOf es n) (od' := dictOf es' n') (es := es') (n := n') (pre := []) (post := ledger s.heap L dx)
    (fr_all hL) (news_ledger hne hdx) X I hd hp ht hh hl (fun _ q => nomatch q) (fun ⟨_, _⟩ q => (mem_ledger.mp q).2.1) (by rw [putName_dict, e1, e2]) rfl hz fun h' F' N' => ?_)
  exact h h' F'.ns (N'.get (List.Mem.head _)) fun b o n1 n2 ho => N'.get (List.Mem.tail _ (mem_ledger.mpr ⟨n2, n1, ho⟩))
end
end Att

namespace L2
open PySem PySem.Spec PyProof.Rows

theorem vals_ints : ∀ {vs : List Value} {ns : List Int}, IntsAre vs ns → Vals (ns.map V.int) vs
  | _, _, .nil => .nil
  | _, _, .cons n t h => .cons ⟨t, rfl⟩ (vals_ints h)

/-- nothing is tracked but the script, known to the object (or it is an object of the module) -/
def Only (H : Hp) : Prop := ∀ b, H b = none ∨ ∃ o xs, H b = some (.frz o (.lst xs))

/-- THE HEAD: the law's promise, at the heap behind the top. F, the promise of the law's def, may use that base is part of the heap (so K.In base, base.Ns mainGlobals mg stand in Mod) -/
theorem law_call {P : Program} {w : World} {K : PySem.W.Frag} {mg mb : Str → Option Value} {CX : CXT} {k : Nat} {fa a : Addr} {fd : FuncData} {x : Str} {sp : Sp} {s₁ : Shared} {vs : List Value} {ns : List Int}
    (KX : K.In s₁.heap) (hns : s₁.heap.Ns mainGlobals mg) (hb : s₁.heap.Ns builtinsNs mb) (hbb : ∀ x : Str, x ≠ "__name__" → mb x = bootBuiltins x) (hlim : s₁.heap.NoLimit) (hg : s₁.gens = #[])
    (ha : s₁.heap.get? a = some { cls := .type "list", data := .seq vs.toArray }) (hi : IntsAre vs ns) (hl : ns.length ≤ sizeLine) (hr : Room k callerA)
    (F : ∀ base : Heap, K.In base → base.Ns mainGlobals mg → FnOk P w K mg base CX k fa fd [x] sp) (hbind : ∀ (s : Shared) (u : Value), BindsTo s fd ⟨[u], []⟩ [(x, u)])
    (hsp : ∀ H : Hp, Only H → SqL K H a (ns.map V.int) → sp [.ref a] H (fun v _ => v = .bl true) fun _ _ _ => False)
    (hCX : ∀ H e s', CX [] H s₁ (fun _ _ _ => False) e s' → False) :
    codeAny (model P w) callerA (.call (.ref fa) ⟨[.ref a], []⟩) (fun r s' => r = .ok (.ret (.bool true)) ∧ OldK s₁.heap s'.heap ∧ s'.os = s₁.os ∧ AllBare s'.gens) s₁ := by
  have rv := vals_ints hi
  have lenV := hi.length
  -- from an abstract heap in which nothing but the script may be tracked
  have core : ∀ H : Hp, Only H → SqL K H a (ns.map V.int) → HOk P w H s₁.heap → (∀ b, H b ≠ none → b = a) → (H a ≠ none → K.lookup a = none) →
      codeAny (model P w) callerA (.call (.ref fa) ⟨[.ref a], []⟩) (fun r s' => r = .ok (.ret (.bool true)) ∧ OldK s₁.heap s'.heap ∧ s'.os = s₁.os ∧ AllBare s'.gens) s₁ := by
    intro H hO hS hok hA hK
    have base_of : ∀ {b : Addr} {o : Obj}, s₁.heap.get? b = some o → H b = none → (hidT s₁.heap H).get? b = some o := fun e n => hidT_get e n
    have noA : ∀ {b : Addr} {o : Obj} {es : Array DictEntry} {ep : Nat}, s₁.heap.get? b = some o → o.data = .dict es ep → H b = none := fun {b o es ep} e d => by
      cases q : H b with
      | none => rfl
      | some u =>
        have e' : b = a := hA b (by rw [q]; simp)
        subst e'
        rw [ha] at e; cases e
        have d' : Data.seq vs.toArray _ = Data.dict es ep := d
        cases d'
    have nsK : ∀ {b : Addr} {m : Str → Option Value}, s₁.heap.Ns b m → (hidT s₁.heap H).Ns b m := fun {b m} ⟨o, es, ep, e, d, r⟩ => ⟨o, es, ep, base_of e (noA e d), d, r⟩
    have hKb : K.In (hidT s₁.heap H) := fun b o e => base_of (KX b o e) (by
      cases q : H b with
      | none => rfl
      | some u =>
        have e' : b = a := hA b (by rw [q]; simp)
        subst e'
        rw [hK (by rw [q]; simp)] at e; cases e)
    have hM : Mod K mg (hidT s₁.heap H) := ⟨hKb, nsK hns, ⟨mb, nsK hb, hbb⟩, let ⟨mc, h1, h2⟩ := hlim; ⟨mc, nsK h1, h2⟩⟩
    have e0 : Env0 P w K mg (hidT s₁.heap H) callerA [] s₁ H := ⟨rfl, hM, fun b o e => of_hidT e, Nat.le_of_eq (hidT_size _ _), trivial, fun b hb => absurd (show b ∈ ([] : List Addr) from hb) (by simp), hok, .of_eq hg⟩
    refine codeAny_mono ((F _ hKb (nsK hns)).run callerA [] s₁ H ⟨[.ref a], []⟩ [.ref a] [.ref a] _ _ hr e0 (hbind s₁ (.ref a)) (.cons rfl .nil) (hsp H hO hS)) fun r s' h => ?_
    cases r with
    | error e => exact (hCX H e s' h).elim
    | ok fl =>
      cases fl with
      | next => exact False.elim h
      | brk => exact False.elim h
      | cont => exact False.elim h
      | ret u =>
        obtain ⟨v, H', os, bare, un, hok', r', q⟩ := h
        have q' : v = .bl true := q
        subst q'
        obtain rfl : u = Value.bool true := r'
        refine ⟨rfl, OldK.of_keep fun b o e => ?_, os, bare⟩
        cases q : H b with
        | none => exact un.keep b o e q (by intro z; exact absurd (show b ∈ ([] : List Addr) from z) (by simp)) (by simp)
        | some u =>
          rcases hO b with z | ⟨ob, xs, z⟩
          · rw [q] at z; cases z
          · have z2 := un.frzs b ob _ z
            obtain ⟨e1, _⟩ := hok b _ z
            obtain ⟨e2, _⟩ := hok' b _ z2
            rw [e] at e1; cases e1
            exact e2
  cases hk : K.lookup a with
  | some o =>
    -- the script is one of the module's own objects
    have e := KX a o hk
    rw [ha] at e
    cases e
    refine core (fun _ => none) (fun _ => .inl rfl) (.inr ⟨_, vs.toArray, _, hk, rfl, rfl, rfl, by rw [List.size_toArray, lenV]; exact hl, by simpa using rv⟩) (fun b u z => by have z' : (none : Option HO) = some u := z; cases z') (fun b z => absurd rfl z) fun z => absurd rfl z
  | none =>
    refine core (fun b => if b = a then some (.frz { cls := .type "list", data := .seq vs.toArray } (.lst (ns.map V.int))) else none) (fun b => ?_) (.inl (.inr ⟨{ cls := .type "list", data := .seq vs.toArray }, if_pos rfl⟩)) (fun b u z => ?_) (fun b z => ?_) fun _ => hk
    · by_cases hb : b = a
      · exact .inr ⟨_, _, if_pos hb⟩
      · exact .inl (if_neg hb)
    · by_cases hb : b = a
      · have z' := (if_pos hb).symm.trans z
        cases z'
        subst hb
        exact ⟨ha, by rw [List.length_map]; exact hl, vs, _, rv, ha⟩
      · have z' := (if_neg hb).symm.trans z
        cases z'
    · by_cases hb : b = a
      · exact hb
      · exact absurd (if_neg hb) z
end L2

namespace L2
open PySem PySem.Spec PyProof.Rows

abbrev KOf {K : PySem.W.Frag} {h : Heap} (_ : K.In h) : PySem.W.Frag := K

/-- the goal that k_head leaves (case hc), from the law's promise. F gives the function object fd (K's own) once, then the promise over every base -/
theorem walk_of {l : PySem.W.OpenLaw} {n k : Nat} {q : Program} {loose : List Str} {XP : (Str → Option Value) → Heap → Prop} {YP : World → Heap → Prop} {d : DefRec} {K : Params → PySem.W.Frag} {CX : World → CXT} {sp : World → Sp} {x : Str}
    (hn : l.most = some n) (hn2 : n ≤ sizeLine) (hdf : d.params.defaults = []) (hr : Room k callerA)
    (hY : ∀ (w : World) (h : Heap), YP w h → (K w.params).In h)
    (F : ∀ (w : World) (mg : Str → Option Value) (fa : Addr) (h : Heap), (K w.params).In h → h.Ns mainGlobals mg → mg d.name = some (.ref fa) →
      ∃ fd : FuncData, (∀ (s : Shared) (u : Value), BindsTo s fd ⟨[u], []⟩ [(x, u)]) ∧
        ∀ base : Heap, (K w.params).In base → base.Ns mainGlobals mg → FnOk l.prog w (K w.params) mg base (CX w) k fa fd [x] (sp w))
    (hsp : ∀ (w : World) (H : Hp) (a : Addr) (ns : List Int), ns.length ≤ n → Only H → SqL (K w.params) H a (ns.map V.int) → sp w [.ref a] H (fun v _ => v = .bl true) fun _ _ _ => False)
    (hCX : ∀ (w : World) (H : Hp) (s : Shared) (e : Value) (s' : Shared), CX w [] H s (fun _ _ _ => False) e s' → False) :
    PySem.W.WalkO q loose XP YP l.row.toRowW d [] (fun f vs => PySem.call f vs) := by
  refine Att.attach_call hn hdf fun w s₀ s₁ mg mb fa o pm cd doc a vs ns G Y ho hd hcd hmg hobj hints hlen hg => ?_
  have KX := hY w _ Y
  obtain ⟨fd, hb, hF⟩ := F w mg fa _ KX G.T.g hmg
  exact law_call KX G.T.g G.T.b G.T.builtins G.T.nolimit hg hobj hints (Nat.le_trans hlen hn2) hr hF hb (fun H hO hS => hsp w H a ns hlen hO hS) fun H e s' => hCX w H s₁ e s'
/-- the same where the promise hangs on the written part alone: (sp := My.sp_law), no hole under a binder -/
theorem walk_ofK {l : PySem.W.OpenLaw} {n k : Nat} {q : Program} {loose : List Str} {XP : (Str → Option Value) → Heap → Prop} {YP : World → Heap → Prop} {d : DefRec} {K : Params → PySem.W.Frag} {CX : CXT} {sp : PySem.W.Frag → Sp} {x : Str}
    (hn : l.most = some n) (hn2 : n ≤ sizeLine) (hdf : d.params.defaults = []) (hr : Room k callerA)
    (hY : ∀ (w : World) (h : Heap), YP w h → (K w.params).In h)
    (F : ∀ (w : World) (mg : Str → Option Value) (fa : Addr) (h : Heap), (K w.params).In h → h.Ns mainGlobals mg → mg d.name = some (.ref fa) →
      ∃ fd : FuncData, (∀ (s : Shared) (u : Value), BindsTo s fd ⟨[u], []⟩ [(x, u)]) ∧
        ∀ base : Heap, (K w.params).In base → base.Ns mainGlobals mg → FnOk l.prog w (K w.params) mg base CX k fa fd [x] (sp (K w.params)))
    (hsp : ∀ (K : PySem.W.Frag) (H : Hp) (a : Addr) (ns : List Int), ns.length ≤ n → Only H → SqL K H a (ns.map V.int) → sp K [.ref a] H (fun v _ => v = .bl true) fun _ _ _ => False)
    (hCX : ∀ (H : Hp) (s : Shared) (e : Value) (s' : Shared), CX [] H s (fun _ _ _ => False) e s' → False) :
    PySem.W.WalkO q loose XP YP l.row.toRowW d [] (fun f vs => PySem.call f vs) :=
  walk_of (K := K) (CX := fun _ => CX) (sp := fun w => sp (K w.params)) hn hn2 hdf hr hY F (fun w H a ns h1 h2 h3 => hsp (K w.params) H a ns h1 h2 h3) fun _ H s e s' => hCX H s e s'
end L2

/- THE LAST THEOREM (shape; LID, My.* are yours):
   My.Adr: a structure of the addresses that your layer names (classes, functions); My.Txt K t: a structure (Prop) of the equations over K;
   My.txt_mk : {K} {implicit addresses ..} (e1 : nsIn K mainGlobals "law" = some (some (.ref f))) (e2 : K.lookup f = some ⟨oc, od, .func (fnOf "law" "law" params body scope dV kV doc pm an cdv ct), sl⟩) (e3 : codeIn K cdv "law" = true) .. : ∃ t, My.Txt K t

set_option maxRecDepth 100000 in
set_option maxHeartbeats 0 in
theorem PySem.Challenge.cw_LID_holds : PySem.Challenge.rw_LID.Holds := by
  w_on; o_law; k_head; (case hw => w_witness2)
  k_fill
  refine L2.walk_of (l := PySem.Challenge.rw_LID) (n := 63) (k := 40) (x := "script") (CX := fun w => ..) (sp := fun _ => My.sp_law) rfl (by decide) rfl ⟨rfl, by decide, by decide⟩ (fun w h Y => PySem.W.kIn_of Y) ?F ?S ?C
  case F =>
    intro w mg fa h KX G hmg
    have T : ∃ t, My.Txt (L2.KOf KX) t := by
      dsimp only [L2.KOf]                          -- K must stand as «<heap const> w.params» for k_is
      refine' My.txt_mk ?e1 ?e2 ?e3 ..
      (case e1 => PySem.W.k_is)                    -- in the order: a name -> its address -> its object -> its parts
      (case e2 => PySem.W.k_is)
      ..
    obtain ⟨t, T⟩ := T
    have e0 := hmg.symm.trans (PySem.W.mg_of KX G T.law)
    cases e0                                       -- fa is the law's own address
    exact ⟨_, fun s u => .of_eq rfl, fun base kb nb => My.law_fn T kb nb⟩     -- if «.of_eq rfl» comes too early: refine' ⟨_, ?b, fun base kb nb => My.law_fn T kb nb⟩; exact fun s u => .of_eq rfl
  case S => exact fun w H a ns hl hO hS => ..
  case C => exact ..
(the tactic k_is has no namespace: write k_is) -/

/-! SHORT WORDS over the layer: a def of the text, its body, what a loop and a test want. -/
namespace L2
open PySem PySem.Spec PyProof.Rows

/-! ### the text by places -/
/-- the j-th statement of a class's body -/
def inClass (s : Stmt) (j : Nat) : Stmt := match s with
  | .ClassDef _ _ _ body _ _ _ _ _ _ _ => body.getD j (.Pass ⟨0, 0, 0, 0⟩)
  | _ => .Pass ⟨0, 0, 0, 0⟩
def defArgs (s : Stmt) : Arguments := match s with
  | .FunctionDef _ a _ _ _ _ _ _ _ _ => a
  | _ => { posonlyargs := [], args := [], vararg := none, kwonlyargs := [], kw_defaults := [], kwarg := none, defaults := [] }
def defBody (s : Stmt) : List Stmt := match s with
  | .FunctionDef _ _ b _ _ _ _ _ _ _ => b
  | _ => []
def defScope (s : Stmt) : Scope := match s with
  | .FunctionDef _ _ _ _ _ _ sc _ _ _ => sc
  | _ => { kind := .function, names := [], isGenerator := false, isCoroutine := false }

/-! ### no exception leaves a def -/
abbrev CX0 : CXT := fun _ _ _ _ _ _ => False
abbrev E0 : XK := fun _ _ _ => False
theorem pass0 {X : Cx} : Passes CX0 X E0 := fun _ _ _ _ _ _ _ h => h.elim

/-! ### a def (or method) of the text as it stands behind the top -/
structure Fun (K : PySem.W.Frag) (x qual : Str) (st : Stmt) (f : Addr) (fd : FuncData) : Prop where
  ex : ∃ (oc : Value) (od : Option Addr) (kV doc pm : Value) (an : Option Addr) (cdv ct : Value) (osl : Array (Option Value)),
    fd = PySem.W.fnOf x qual (defArgs st) (defBody st) (defScope st) .none kV doc pm an cdv ct ∧ K.lookup f = some ⟨oc, od, .func fd, osl⟩ ∧ PySem.W.codeIn K cdv qual = true
  kp : PySem.W.keepIn K (.ref f) = true
section
variable {P : Program} {w : World} {K : PySem.W.Frag} {mg : Str → Option Value} {base : Heap}
/-- THE RULE for a def: its body as a term of rules, and the reading of that term -/
theorem Fun.ok {x qual : Str} {st : Stmt} {f : Addr} {fd : FuncData} {N ps : List Str} {k : Nat} {sp : Sp} (F : Fun K x qual st f fd) (S : FnScope N ps (defScope st)) (len : ∀ vs H Q E, sp vs H Q E → vs.length = ps.length)
    (hbody : ∀ (cdv : Value) (A : Around) (outer : List Env) (s : Shared) (H : Hp) (vs : List V) (Q : VK) (E : XK), Room k (A.deeper (envOfC qual (defScope st) s.heap.objs.size f cdv)) → sp vs H Q E →
      ∃ t, PSs (cxOf CX0 P w K mg base N qual (defScope st) f cdv A outer s H E).nox (defBody st) t ∧ t { nx := fun _ H' => Q .non H', rt := Q } (start N vs) H) : FnOk P w K mg base CX0 (k + 1) f fd ps sp := by
  obtain ⟨oc, od, kV, doc, pm, an, cdv, ct, osl, rfl, lk, hcd⟩ := F.ex
  refine fn_of lk hcd S len fun A outer s H vs Q E hr hsp => ?_
  obtain ⟨t, h, q⟩ := hbody cdv A outer s H vs Q E hr hsp
  exact ⟨t, h.nox, q⟩
/-- how its arguments bind (no defaults): h is «fun _ _ _ _ _ _ us hl => match us, hl with | [_, _], _ => rfl», one _ a parameter -/
theorem Fun.binds {x qual : Str} {st : Stmt} {f : Addr} {fd : FuncData} {ps : List Str} (F : Fun K x qual st f fd)
    (h : ∀ (kV doc pm : Value) (an : Option Addr) (cdv ct : Value) (us : List Value), us.length = ps.length → bindArgs (PySem.W.fnOf x qual (defArgs st) (defBody st) (defScope st) .none kV doc pm an cdv ct) ⟨us, []⟩ = pure (ps.zip us)) : Binds K fd ps [] := by
  obtain ⟨oc, od, kV, doc, pm, an, cdv, ct, osl, rfl, lk, hcd⟩ := F.ex
  exact .all (h kV doc pm an cdv ct)
theorem fun_mk {x qual : Str} {st : Stmt} {f : Addr} {oc : Value} {od an : Option Addr} {osl : Array (Option Value)} {kV doc pm cdv ct : Value} (l : K.lookup f = some ⟨oc, od, .func (PySem.W.fnOf x qual (defArgs st) (defBody st) (defScope st) .none kV doc pm an cdv ct), osl⟩)
    (c : PySem.W.codeIn K cdv qual = true) (k : PySem.W.keepIn K (.ref f) = true) : Fun K x qual st f (PySem.W.fnOf x qual (defArgs st) (defBody st) (defScope st) .none kV doc pm an cdv ct) := ⟨⟨oc, od, kV, doc, pm, an, cdv, ct, osl, rfl, l, c⟩, k⟩
end
theorem hu_of {A : Around} {k : Nat} (hr : Room k A) : A.units + 1 < cLine := Nat.lt_of_le_of_lt (Nat.add_le_add_left (by decide : 1 ≤ 64) _) hr.units
theorem small1000 {n : Nat} (h : n ≤ 1000) : n < sizeLine := Nat.lt_of_le_of_lt h (by decide)

/-! ### expressions in short: the name that stands in the i-th slot -/
section
variable {X : Cx}
theorem pv (i : Nat) {x : Str} {pos : Pos} (hN : X.N[i]? = some x := by rfl) (hv : Vis X.env.scope x := by first | exact Or.inl rfl | exact Or.inr (Or.inl rfl) | exact Or.inr (Or.inr rfl)) (hd : (x == ("__debug__" : Str)) = false := by decide)
    (hcd : (x == ("__classdict__" : Str)) = false := by decide) : PE X (.Name x pos) (tVar i) := pe_var hN hv hd hcd
/-- len of a dict -/
theorem call_lenD : CallR X (.builtin "len") (fun xs H Q => ∃ a kvs, xs = [V.ref a] ∧ H a = some (.dK kvs) ∧ Q (.int kvs.length) H) := by
  intro pins s σ H xs us Q I r h
  obtain ⟨a, kvs, rfl, ha, q⟩ := h
  obtain ⟨u, rfl, ru⟩ := vals1 r
  cases ru
  exact d_len I (.inl ha) fun t s' I' => ⟨.int kvs.length, H, I', ⟨t, rfl⟩, q⟩
end

/-! ### tests -/
theorem iteF {A B : Prop} (h : B) : if false = true then A else B := by
  rw [if_neg Bool.false_ne_true]
  exact h
theorem iteT {A B : Prop} (h : A) : if true = true then A else B := by
  rw [if_pos rfl]
  exact h
theorem ite2 {c A B : Prop} [Decidable c] (h1 : c → A) (h2 : ¬ c → B) : if c then A else B := by
  by_cases h : c
  · rw [if_pos h]
    exact h1 h
  · rw [if_neg h]
    exact h2 h
theorem iteNS {c A B : Prop} [Decidable c] (hc : c) (h : B) : if (!decide c) = true then A else B := by
  rw [decide_eq_true hc]
  exact iteF h

/-! ### heaps -/
/-- all that was tracked is as it was -/
def Same (H H' : Hp) : Prop := ∀ b o, H b = some o → H' b = some o
theorem Same.refl (H : Hp) : Same H H := fun _ _ h => h
theorem Same.trans {H H1 H2 : Hp} (a : Same H H1) (b : Same H1 H2) : Same H H2 := fun c o h => b c o (a c o h)
theorem Same.free {H H' : Hp} (e : Same H H') {l : Addr} (h : H' l = Option.none) : H l = Option.none := by
  cases q : H l with
  | none => rfl
  | some o =>
    rw [e l o q] at h
    cases h
theorem Same.seq {K : PySem.W.Frag} {H H' : Hp} {a : Addr} {xs : List V} (e : Same H H') (h : SqL K H a xs) : SqL K H' a xs := by
  rcases h with (h | ⟨o, h⟩) | h
  · exact .inl (.inl (e _ _ h))
  · exact .inl (.inr ⟨o, e _ _ h⟩)
  · exact .inr h

/-! ### a dict's pairs: keys that differ -/
section
variable {κ : Type} [DecidableEq κ]
theorem valV_not {kvs : List (κ × V)} {k : κ} (h : valV kvs k = none) : ¬ k ∈ kvs.map (·.1) := by
  intro m
  obtain ⟨p, hp, e⟩ := List.mem_map.mp m
  have q : (kvs.any fun kv => decide (kv.1 = k)) = true := List.any_eq_true.mpr ⟨p, hp, decide_eq_true e⟩
  rw [valV_any, h] at q
  exact absurd q (by simp)
theorem valV_in {kvs : List (κ × V)} {k : κ} {v : V} (h : valV kvs k = some v) : k ∈ kvs.map (·.1) := by
  have q : (kvs.any fun kv => decide (kv.1 = k)) = true := by
    rw [valV_any, h]
    all_goals rfl
  obtain ⟨p, hp, e⟩ := List.any_eq_true.mp q
  exact List.mem_map.mpr ⟨p, hp, of_decide_eq_true e⟩
theorem nd_snoc : ∀ {l : List κ} {k : κ}, l.Nodup → ¬ k ∈ l → (l ++ [k]).Nodup
  | [], k, _, _ => by simp
  | a :: r, k, h, hk => by
    obtain ⟨h1, h2⟩ := List.nodup_cons.mp h
    show (a :: (r ++ [k])).Nodup
    refine List.nodup_cons.mpr ⟨fun m => ?_, nd_snoc h2 fun m => hk (List.mem_cons.mpr (Or.inr m))⟩
    rcases List.mem_append.mp m with q | q
    · exact h1 q
    · exact hk (List.mem_cons.mpr (Or.inl (List.mem_singleton.mp q).symm))
theorem nd_putK {kvs : List (κ × V)} {k : κ} (v : V) (hn : (kvs.map (·.1)).Nodup) (h : valV kvs k = none) : ((putK kvs k v).map (·.1)).Nodup := by
  rw [putK_new v h, List.map_append]
  exact nd_snoc hn (valV_not h)
theorem dropK_pos {p : κ × V} {r : List (κ × V)} {k : κ} (e : p.1 = k) : dropK (p :: r) k = dropK r k := by
  unfold dropK
  rw [List.filter_cons, if_neg (by simp [e])]
theorem dropK_neg {p : κ × V} {r : List (κ × V)} {k : κ} (e : ¬ p.1 = k) : dropK (p :: r) k = p :: dropK r k := by
  unfold dropK
  rw [List.filter_cons, if_pos (by simp [e])]
theorem dropK_no : ∀ {kvs : List (κ × V)} {k : κ}, ¬ k ∈ kvs.map (·.1) → dropK kvs k = kvs
  | [], _, _ => rfl
  | p :: r, k, h => by
    have h' : ¬ k ∈ r.map (·.1) := fun m => by
      obtain ⟨q, hq, e⟩ := List.mem_map.mp m
      exact h (List.mem_map.mpr ⟨q, List.mem_cons.mpr (Or.inr hq), e⟩)
    rw [dropK_neg fun e => h (List.mem_map.mpr ⟨p, List.mem_cons.mpr (Or.inl rfl), e⟩), dropK_no h']
theorem dropK_mem {kvs : List (κ × V)} {k : κ} {p : κ × V} (h : p ∈ dropK kvs k) : p ∈ kvs := (List.mem_filter.mp h).1
theorem nd_dropK : ∀ {kvs : List (κ × V)} {k : κ}, (kvs.map (·.1)).Nodup → ((dropK kvs k).map (·.1)).Nodup
  | [], _, _ => List.nodup_nil
  | p :: r, k, h => by
    have h : (p.1 :: r.map (·.1)).Nodup := h
    obtain ⟨h1, h2⟩ := List.nodup_cons.mp h
    by_cases e : p.1 = k
    · rw [dropK_pos e]
      exact nd_dropK h2
    · rw [dropK_neg e]
      show (p.1 :: (dropK r k).map (·.1)).Nodup
      refine List.nodup_cons.mpr ⟨fun m => h1 ?_, nd_dropK h2⟩
      obtain ⟨q, hq, eq⟩ := List.mem_map.mp m
      exact List.mem_map.mpr ⟨q, dropK_mem hq, eq⟩
theorem dropK_len : ∀ {kvs : List (κ × V)} {k : κ}, (kvs.map (·.1)).Nodup → k ∈ kvs.map (·.1) → (dropK kvs k).length + 1 = kvs.length
  | [], _, _, m => by simp at m
  | p :: r, k, h, m => by
    have h : (p.1 :: r.map (·.1)).Nodup := h
    have m : k = p.1 ∨ k ∈ r.map (·.1) := List.mem_cons.mp m
    obtain ⟨h1, h2⟩ := List.nodup_cons.mp h
    by_cases e : p.1 = k
    · subst e
      rw [dropK_pos rfl, dropK_no h1]
      all_goals rfl
    · have m' : k ∈ r.map (·.1) := m.resolve_left fun z => e z.symm
      have q := dropK_len h2 m'
      rw [dropK_neg e, List.length_cons, List.length_cons]
      omega
end
end L2

set_option Elab.async false
set_option linter.all false
set_option maxRecDepth 100000
set_option maxHeartbeats 4000000
namespace L2
open PySem PySem.Spec PyProof.Rows

/-! ### a comprehension's block: what it captures -/
def closOf (cells : List (Str × Addr)) : List (Str × NameKind) → List (Str × Addr) → List (Str × Addr)
  | [], acc => acc
  | (n, k) :: r, acc => closOf cells r (if (k == NameKind.free) = true then (n, (cells.lookup n).getD 0) :: acc else acc)
theorem closOf_look {cells : List (Str × Addr)} {y : Str} {c : Addr} : ∀ (names : List (Str × NameKind)) (acc : List (Str × Addr)), (closOf cells names acc).lookup y = some c →
    ((y, NameKind.free) ∈ names ∧ (cells.lookup y).getD 0 = c) ∨ acc.lookup y = some c
  | [], _, h => .inr h
  | (n, k) :: r, acc, h => by
    rcases closOf_look r _ h with ⟨a, b⟩ | z
    · exact .inl ⟨List.mem_cons_of_mem _ a, b⟩
    · clear h
      by_cases e : (k == NameKind.free) = true
      · rw [if_pos e] at z
        rw [List.lookup_cons] at z
        cases q : (y == n) with
        | true =>
          rw [q] at z
          have ek : k = NameKind.free := by simpa using e
          have en : y = n := by simpa using q
          subst ek en
          exact .inl ⟨List.mem_cons_self, Option.some.inj z⟩
        | false =>
          rw [q] at z
          exact .inr z
      · rw [if_neg e] at z
        exact .inr z
theorem closOf_has {cells : List (Str × Addr)} {y : Str} : ∀ (names : List (Str × NameKind)) (acc : List (Str × Addr)), ((y, NameKind.free) ∈ names ∨ ∃ c, acc.lookup y = some c) → ∃ c, (closOf cells names acc).lookup y = some c
  | [], _, h => by
    rcases h with h | h
    · cases h
    · exact h
  | (n, k) :: r, acc, h => by
    refine closOf_has r _ ?_
    rcases h with h | ⟨c, h⟩
    · rcases List.mem_cons.mp h with e | h
      · cases e
        refine .inr ⟨(cells.lookup y).getD 0, ?_⟩
        rw [if_pos (by decide), List.lookup_cons, beq_self_eq_true]
      · exact .inl h
    · by_cases e : (k == NameKind.free) = true
      · rw [if_pos e, List.lookup_cons]
        cases q : (y == n) with
        | true => exact .inr ⟨_, rfl⟩
        | false => exact .inr ⟨c, h⟩
      · rw [if_neg e]
        exact .inr ⟨c, h⟩
theorem closureFor_clos {scope : Scope} {env : Env} (h : ∀ n, (n, NameKind.free) ∈ scope.names → ∃ c, env.cells.lookup n = some c) : closureFor scope env = pure (closOf env.cells scope.names []) := by
  have key : ∀ (names : List (Str × NameKind)) (cs : List (Str × Addr)), (∀ n, (n, NameKind.free) ∈ names → ∃ c, env.cells.lookup n = some c) →
      (forIn names cs fun (x : Str × NameKind) (r : List (Str × Addr)) => (if (x.2 == NameKind.free) = true then (cellOf env x.1 >>= fun a => pure (ForInStep.yield ((x.1, a) :: r))) else pure (ForInStep.yield r) : Sem _)) = pure (closOf env.cells names cs) := by
    intro names
    induction names with
    | nil => intro cs _; rfl
    | cons p r ih =>
      intro cs hp
      obtain ⟨n, k⟩ := p
      rw [List.forIn_cons]
      by_cases e : (k == NameKind.free) = true
      · have ek : k = NameKind.free := by simpa using e
        obtain ⟨c, hc⟩ := hp n (by rw [ek]; exact List.mem_cons_self)
        rw [if_pos e]
        have e2 : cellOf env n = pure c := by unfold cellOf; rw [hc]
        show ((cellOf env n >>= fun a => pure (ForInStep.yield ((n, a) :: cs))) >>= _) = _
        rw [e2]
        show (forIn r ((n, c) :: cs) _ : Sem _) = _
        rw [ih _ fun n' h' => hp n' (List.mem_cons_of_mem _ h')]
        show _ = pure (closOf env.cells r (if (k == NameKind.free) = true then (n, (env.cells.lookup n).getD 0) :: cs else cs))
        rw [if_pos e, hc]
        rfl
      · rw [if_neg e]
        show (forIn r cs _ : Sem _) = _
        rw [ih _ fun n' h' => hp n' (List.mem_cons_of_mem _ h')]
        show _ = pure (closOf env.cells r (if (k == NameKind.free) = true then (n, (env.cells.lookup n).getD 0) :: cs else cs))
        rw [if_neg e]
  unfold closureFor
  have e := key scope.names [] h
  show ((forIn scope.names [] fun (x : Str × NameKind) (r : List (Str × Addr)) => (if (x.2 == NameKind.free) = true then (cellOf env x.1 >>= fun a => pure (ForInStep.yield ((x.1, a) :: r))) else pure (ForInStep.yield r) : Sem _)) >>= fun r => pure r) = _
  rw [e]
  rfl
end L2

set_option Elab.async false
set_option linter.all false
set_option maxRecDepth 100000
set_option maxHeartbeats 4000000
namespace L2
open PySem PySem.Spec PyProof.Rows

theorem look_mem {α : Type} {y : Str} {k : α} : ∀ {l : List (Str × α)}, l.lookup y = some k → (y, k) ∈ l
  | [], h => by cases h
  | (n, j) :: r, h => by
    rw [List.lookup_cons] at h
    cases q : (y == n) with
    | true =>
      rw [q] at h
      have en : y = n := by simpa using q
      cases h
      rw [en]
      exact List.mem_cons_self
    | false =>
      rw [q] at h
      exact List.mem_cons_of_mem _ (look_mem h)
theorem relab_some {env : Env} {x : Str} {k : NameKind} : ∀ {names : List (Str × NameKind)}, names.lookup x = some k →
    (relabel { (default : Scope) with names := names } env).names.lookup x = some k ∨ (k = .free ∧ (relabel { (default : Scope) with names := names } env).names.lookup x = some .cell)
  | [], h => by cases h
  | (n, j) :: r, h => by
    have ih := @relab_some env x k r
    rw [List.lookup_cons] at h
    show List.lookup x ((if (j == NameKind.free && env.scope.kind == .function && env.kindOf n == some .cell) = true then (n, NameKind.cell) else (n, j)) :: _) = _ ∨ (_ ∧ List.lookup x ((if (j == NameKind.free && env.scope.kind == .function && env.kindOf n == some .cell) = true then (n, NameKind.cell) else (n, j)) :: _) = _)
    cases q : (x == n) with
    | true =>
      rw [q] at h
      cases h
      by_cases e : (k == NameKind.free && env.scope.kind == .function && env.kindOf n == some .cell) = true
      · rw [if_pos e, List.lookup_cons, q]
        refine .inr ⟨?_, rfl⟩
        have z := (Bool.and_eq_true _ _ ▸ (Bool.and_eq_true _ _ ▸ e).1 : _ ∧ _).1
        simpa using z
      · rw [if_neg e, List.lookup_cons, q]
        exact .inl rfl
    | false =>
      rw [q] at h
      by_cases e : (j == NameKind.free && env.scope.kind == .function && env.kindOf n == some .cell) = true
      · rw [if_pos e, List.lookup_cons, q]
        exact ih h
      · rw [if_neg e, List.lookup_cons, q]
        exact ih h
theorem relab_of {env : Env} {x : Str} {k : NameKind} : ∀ {names : List (Str × NameKind)}, (relabel { (default : Scope) with names := names } env).names.lookup x = some k → names.lookup x = some k ∨ (names.lookup x = some .free ∧ k = .cell)
  | [], h => by cases h
  | (n, j) :: r, h => by
    have ih := @relab_of env x k r
    have h : List.lookup x ((if (j == NameKind.free && env.scope.kind == .function && env.kindOf n == some .cell) = true then (n, NameKind.cell) else (n, j)) :: (relabel { (default : Scope) with names := r } env).names) = some k := h
    rw [List.lookup_cons]
    cases q : (x == n) with
    | true =>
      by_cases e : (j == NameKind.free && env.scope.kind == .function && env.kindOf n == some .cell) = true
      · rw [if_pos e, List.lookup_cons, q] at h
        cases h
        have z := (Bool.and_eq_true _ _ ▸ (Bool.and_eq_true _ _ ▸ e).1 : _ ∧ _).1
        exact .inr ⟨by simpa using z, rfl⟩
      · rw [if_neg e, List.lookup_cons, q] at h
        exact .inl h
    | false =>
      by_cases e : (j == NameKind.free && env.scope.kind == .function && env.kindOf n == some .cell) = true
      · rw [if_pos e, List.lookup_cons, q] at h
        exact ih h
      · rw [if_neg e, List.lookup_cons, q] at h
        exact ih h

/-! ### the block's context -/
def caps (ix : List Nat) (σ : St) : St := ix.map fun i => (σ[i]?).join
def Cx.block (X : Cx) (scope : Scope) (C : Addr) (NB : List Str) (s2 : Shared) (H2 : Hp) (fp : List Addr) : Cx :=
  { X with N := NB, s₀ := s2, H₀ := H2, env := compEnvC scope (closOf X.env.cells scope.names []) C X.env, outer := X.stack, ex := fp, fn := fun _ => false, pn := [], xe := fun _ _ => False }
/-- what is looked at in the texts: the names of the def, its scope, the block's scope, its variable, its names (the variable first, then those at the places ix of the def's) -/
def blockB (N : List Str) (fs scope : Scope) (x : Str) (NB : List Str) (ix : List Nat) : Bool :=
  decide (scope.kind = .function) && scope.names.all (fun y => decide (y.2 ≠ .cell)) && scope.names.all (fun y => decide (y.2 ≠ .local) || decide (scope.names.lookup y.1 = some .local)) &&
  scope.names.all (fun y => decide (y.2 ≠ .free) || (decide (fs.names.lookup y.1 = some .cell) || decide (fs.names.lookup y.1 = some .free))) && decide (scope.names.lookup x = some .local) &&
  decide (NB = x :: ix.map fun i => N.getD i x) && decide NB.Nodup && ix.all fun i => match N[i]? with | some y => decide (scope.names.lookup y = some .free) | none => false
structure BlockOk (X : Cx) (scope : Scope) (x : Str) (NB : List Str) (ix : List Nat) : Prop where
  kind : scope.kind = .function
  cell : ∀ y ∈ scope.names, y.2 ≠ .cell
  names : ∀ y ∈ scope.names, y.2 = .local → scope.names.lookup y.1 = some .local
  free : ∀ y, (y, NameKind.free) ∈ scope.names → (X.env.kindOf y = some .cell ∨ X.env.kindOf y = some .free)
  var : scope.names.lookup x = some .local
  nb : NB = x :: ix.map fun i => X.N.getD i x
  nd : NB.Nodup
  cap : ∀ i ∈ ix, ∃ y, X.N[i]? = some y ∧ scope.names.lookup y = some .free
theorem BlockOk.of {X : Cx} {N : List Str} {fs scope : Scope} {x : Str} {NB : List Str} {ix : List Nat} (h : blockB N fs scope x NB ix = true) (hN : X.N = N := by rfl) (hf : X.env.scope = fs := by rfl) : BlockOk X scope x NB ix := by
  subst hN hf
  unfold blockB at h
  simp only [Bool.and_eq_true] at h
  obtain ⟨⟨⟨⟨⟨⟨⟨h1, h2⟩, h3⟩, h4⟩, h5⟩, h6⟩, h7⟩, h8⟩ := h
  refine ⟨of_decide_eq_true h1, fun y hy => of_decide_eq_true (List.all_eq_true.mp h2 y hy), fun y hy e => ?_, fun y hy => ?_, of_decide_eq_true h5, of_decide_eq_true h6, of_decide_eq_true h7, fun i hi => ?_⟩
  · have z := List.all_eq_true.mp h3 y hy
    rw [Bool.or_eq_true] at z
    rcases z with z | z
    · exact absurd e (of_decide_eq_true z)
    · exact of_decide_eq_true z
  · have z := List.all_eq_true.mp h4 _ hy
    rw [Bool.or_eq_true, Bool.or_eq_true] at z
    rcases z with z | z | z
    · exact absurd rfl (of_decide_eq_true z)
    · exact .inl (of_decide_eq_true z)
    · exact .inr (of_decide_eq_true z)
  · have z := List.all_eq_true.mp h8 i hi
    cases e : X.N[i]? with
    | none => rw [e] at z; cases z
    | some y => rw [e] at z; exact ⟨y, rfl, of_decide_eq_true z⟩

def PTs (X : Cx) (ifs : List Expr) (t : TT) : Prop :=
  ∀ (pins : List (Addr × Obj)) (s : Shared) (σ : St) (H : Hp) (Q : Bool → Hp → Prop), Inv X pins σ H s → t σ H Q →
    wpAny (model X.prog X.w) X.A (forIn ifs true fun c r => if r = true then do let ok ← isTrue c X.env (eval c X.env); pure (ForInStep.yield ok) else pure (ForInStep.yield r)) (TP X pins σ Q) X.xe s
def tYes : TT := fun _ H Q => Q true H
theorem pts_nil {X : Cx} : PTs X [] tYes := fun _ _ _ H _ I h => wpAny_tests_nil ⟨H, I, h⟩
theorem pts_one {X : Cx} {c : Expr} {t : TT} (h : PT X c t) : PTs X [c] t := fun pins s σ H Q I hw => wpAny_tests_one (h pins s σ H Q I hw)

/-- what the turns do: W by the turn, a measure, the list so far -/
def CompW (J : It) (os : St) (tt : TT) (te : TE) (H1 : Hp) (Q : VK) : Prop :=
  ∃ W : Nat → Nat → List V → Hp → Prop, (∃ m, W 0 m [] H1) ∧ ∀ i m ys H, W i m ys H →
    (J.stop i H ∧ ∀ p, H p = none → Q (.ref p) (upd H p (.lst ys))) ∨
    (J.go i H ∧ ys.length < sizeLine ∧ ∃ N : List V → Hp → Prop, (∀ ys' H', N ys' H' → ∃ m', m' < m ∧ W (i + 1) m' ys' H') ∧ ∀ x H', J.yld i H x H' → tt (some x :: os) H' fun b H2 => if b = true then te (some x :: os) H2 fun v H3 => N (ys ++ [v]) H3 else N ys H2)
theorem comp_range {lo : Int} {n : Nat} {os : St} {tt : TT} {te : TE} {H : Hp} {Q : VK} (Pv : Nat → List V → Hp → Prop) (h0 : Pv 0 [] H) (hz : ∀ i ys H, i < n → Pv i ys H → ys.length < sizeLine)
    (hs : ∀ (i : Nat) ys H, i < n → Pv i ys H → tt (some (.int (lo + i)) :: os) H fun b H2 => if b = true then te (some (.int (lo + i)) :: os) H2 fun v H3 => Pv (i + 1) (ys ++ [v]) H3 else Pv (i + 1) ys H2)
    (hd : ∀ ys H, Pv n ys H → ∀ p, H p = none → Q (.ref p) (upd H p (.lst ys))) : CompW (Itr lo n) os tt te H Q := by
  refine ⟨fun i m ys H => m = n - i ∧ i ≤ n ∧ Pv i ys H, ⟨n, by simp, Nat.zero_le _, h0⟩, ?_⟩
  rintro i m ys H ⟨rfl, hi, p⟩
  by_cases hlt : i < n
  · refine .inr ⟨hlt, hz i ys H hlt p, Pv (i + 1), fun ys' H' p' => ⟨n - (i + 1), by omega, rfl, hlt, p'⟩, fun x H' y => ?_⟩
    obtain ⟨e, y⟩ := y
    subst e y
    exact hs i ys _ hlt p
  · have e : i = n := by omega
    subst e
    exact .inl ⟨Nat.le_refl _, hd ys H p⟩
theorem comp_list {K : PySem.W.Frag} {a : Addr} {xs : List V} {os : St} {tt : TT} {te : TE} {H : Hp} {Q : VK} (Pv : Nat → List V → Hp → Prop) (h0 : Pv 0 [] H) (hz : ∀ i ys H, i < xs.length → Pv i ys H → ys.length < sizeLine)
    (hl : ∀ i ys H, i ≤ xs.length → Pv i ys H → SqL K H a xs)
    (hs : ∀ (i : Nat) x ys H, xs[i]? = some x → Pv i ys H → tt (some x :: os) H fun b H2 => if b = true then te (some x :: os) H2 fun v H3 => Pv (i + 1) (ys ++ [v]) H3 else Pv (i + 1) ys H2)
    (hd : ∀ ys H, Pv xs.length ys H → ∀ p, H p = none → Q (.ref p) (upd H p (.lst ys))) : CompW (Itl K a) os tt te H Q := by
  refine ⟨fun i m ys H => m = xs.length - i ∧ i ≤ xs.length ∧ Pv i ys H, ⟨xs.length, by simp, Nat.zero_le _, h0⟩, ?_⟩
  rintro i m ys H ⟨rfl, hi, p⟩
  have q := hl i ys H hi p
  by_cases hlt : i < xs.length
  · refine .inr ⟨⟨xs, xs[i], q, by simp [hlt]⟩, hz i ys H hlt p, Pv (i + 1), fun ys' H' p' => ⟨xs.length - (i + 1), by omega, rfl, hlt, p'⟩, fun x H' y => ?_⟩
    obtain ⟨e, y⟩ := y
    subst e
    exact hs i x ys _ (y xs q) p
  · have e : i = xs.length := by omega
    subst e
    exact .inl ⟨⟨xs, q, Nat.le_refl _⟩, hd ys H p⟩
abbrev lstO (its : List Value) (n : Nat) : Obj := { cls := .type "list", data := .seq its.toArray n }

section
variable {X : Cx} {scope : Scope} {x : Str} {NB : List Str} {ix : List Nat} {pins : List (Addr × Obj)} {σ : St} {H2 : Hp} {s2 : Shared} {fp : List Addr}
theorem BlockOk.clos (B : BlockOk X scope x NB ix) (I2 : Inv X pins σ H2 s2) : closureFor scope X.env = pure (closOf X.env.cells scope.names []) :=
  closureFor_clos fun n hn => I2.ok.has n (B.free n hn)
theorem BlockOk.look (B : BlockOk X scope x NB ix) (I2 : Inv X pins σ H2 s2) {y : Str} {c : Addr} (h : (closOf X.env.cells scope.names []).lookup y = some c) : X.env.cells.lookup y = some c := by
  rcases closOf_look _ _ h with ⟨m, e⟩ | e
  · obtain ⟨c', hc⟩ := I2.ok.has y (B.free y m)
    rw [hc] at e ⊢
    exact congrArg some e
  · cases e
theorem block_ok (B : BlockOk X scope x NB ix) (I2 : Inv X pins σ H2 s2) {C : Addr} (hC : s2.heap.objs.size ≤ C) (f2 : ∀ b ∈ fp, FpOk X pins H2 b) (ft : ∀ b ∈ fp, b < s2.heap.objs.size) : (X.block scope C NB s2 H2 fp).Ok where
  mod := I2.ok.mod
  kind := B.kind
  glob := I2.ok.glob
  blt := I2.ok.blt
  above := hC
  inj := fun a b c h1 h2 => I2.ok.inj a b c (B.look I2 h1) (B.look I2 h2)
  has := fun y hy => by
    have key : ∀ k, (relabel scope X.env).names.lookup y = some k → (k = .cell ∨ k = .free) → ∃ c, (closOf X.env.cells scope.names []).lookup y = some c := fun k hk kk => by
      rcases relab_of (names := scope.names) hk with e | ⟨e, _⟩
      · rcases kk with rfl | rfl
        · exact absurd rfl (B.cell _ (look_mem e))
        · exact closOf_has _ _ (.inl (look_mem e))
      · exact closOf_has _ _ (.inl (look_mem e))
    rcases hy with e | e
    · exact key _ e (.inl rfl)
    · exact key _ e (.inr rfl)
  cab := fun _ _ z => by cases z
  hd := I2.ok.hd
  frames := I2.ok.frames
  stk := .inl rfl
  exf := fun b hb => ⟨Nat.ne_of_lt (Nat.lt_of_lt_of_le (ft b hb) hC), fun y c e => (f2 b hb).2.2.2.2.1 y c (B.look I2 e)⟩
  bs := I2.bs
  bsz := Nat.le_trans I2.ok.bsz I2.sz
  noex := fun b o e hb => by
    rcases (f2 b hb).2.2.2.1 with z | z
    · exact I2.ok.noex b o e z
    · exact absurd (Nat.lt_of_lt_of_le (Heap.lt_size (I2.ok.bs b o e).1) z) (Nat.lt_irrefl _)
  exfs := fun b hb z => by
    rcases List.mem_cons.mp (I2.stkSub b z) with e | e
    · exact (f2 b hb).2.1 e
    · exact (f2 b hb).2.2.1 e
  funs := I2.stack
  frf := I2.stkFree
theorem caps_len (ix : List Nat) (σ : St) : (caps ix σ).length = ix.length := by unfold caps; rw [List.length_map]

theorem block_inv (B : BlockOk X scope x NB ix) (I2 : Inv X pins σ H2 s2) {C D : Addr} {h1 : Heap} {tk : Nat} {m : Str → Option Value} {oD : Obj} (hC : s2.heap.objs.size ≤ C) (hD : s2.heap.objs.size ≤ D) (hDC : D ≠ C) (f2 : ∀ b ∈ fp, FpOk X pins H2 b) (ft : ∀ b ∈ fp, b < s2.heap.objs.size)
    (old : ∀ b o, s2.heap.get? b = some o → h1.get? b = some o) (hn : h1.Ns C m) (ho : h1.get? D = some oD) (hcl : ∀ v, oD.data ≠ .cell v) :
    Inv (X.block scope C NB s2 H2 fp) [(D, oD)] (none :: caps ix σ) H2 { s2 with heap := h1, toks := tk } where
  ok := block_ok B I2 hC f2 ft
  os := rfl
  bare := I2.bare
  base := Un.kept old
  loc := by
    refine ⟨m, hn, fun i y v e1 e2 _ => ?_⟩
    have e1 : NB[i]? = some y := e1
    cases i with
    | zero => cases e2
    | succ j =>
      have e2 : (caps ix σ)[j]? = some (some v) := e2
      rw [B.nb] at e1
      have e1 : (ix.map fun i => X.N.getD i x)[j]? = some y := e1
      rw [List.getElem?_map] at e1
      unfold caps at e2
      rw [List.getElem?_map] at e2
      cases q : ix[j]? with
      | none => rw [q] at e1; cases e1
      | some i =>
        rw [q] at e1 e2
        obtain ⟨z, hz, fz⟩ := B.cap i (List.mem_of_getElem? q)
        have ey : y = z := by
          have w : X.N.getD i x = y := Option.some.inj e1
          rw [← w, List.getD_eq_getElem?_getD, hz]
          rfl
        subst ey
        have e2 : (σ[i]?).join = some v := Option.some.inj e2
        have es : σ[i]? = some (some v) := by
          cases w : σ[i]? with
          | none => rw [w] at e2; cases e2
          | some o => rw [w] at e2; exact congrArg some e2
        have fk := B.free y (look_mem fz)
        have vis : Vis X.env.scope y := .inr fk
        obtain ⟨mm, _, hl⟩ := I2.loc
        obtain ⟨u, ru, lk⟩ := hl i y v hz es vis
        refine ⟨u, ru, .inr ⟨?_, ?_⟩⟩
        · rcases relab_some (env := X.env) (names := scope.names) fz with e | ⟨_, e⟩
          · exact .inr e
          · exact .inl e
        · rcases lk with ⟨lk, _⟩ | ⟨_, c, hc, hcell⟩
          · rcases fk with fk | fk
            · rw [lk] at fk; cases fk
            · rw [lk] at fk; cases fk
          · obtain ⟨c', hc'⟩ := closOf_has (cells := X.env.cells) scope.names [] (.inl (look_mem fz))
            have e3 := B.look I2 hc'
            rw [hc] at e3
            cases e3
            obtain ⟨oc, g1, g2⟩ := hcell
            exact ⟨c, hc', oc, old _ _ g1, g2⟩
  cell := fun y c e => by
    obtain ⟨v, o, g1, g2⟩ := I2.cell y c (B.look I2 e)
    exact ⟨v, o, old _ _ g1, g2⟩
  free := I2.hok.fresh hC
  freeC := fun y c e => I2.freeC y c (B.look I2 e)
  pin := fun p hp => by
    have e : p = (D, oD) := by simpa [Cx.block] using hp
    subst e
    refine ⟨ho, I2.hok.fresh hD, hDC, fun z => ?_, hcl⟩
    rcases List.mem_cons.mp (I2.stkSub D z) with e | e
    · have e : D = X.env.locals := e
      exact absurd (Nat.lt_of_lt_of_le I2.lt (e ▸ hD)) (Nat.lt_irrefl _)
    · exact I2.nofs hD e
  hok := I2.hok.kept old
  len := by
    show (none :: caps ix σ).length = NB.length
    rw [B.nb, List.length_cons, List.length_cons, caps_len, List.length_map]
end
end L2

set_option Elab.async false
set_option linter.all false
set_option maxRecDepth 100000
set_option maxHeartbeats 4000000
namespace L2
open PySem PySem.Spec PyProof.Rows

section
variable {X : Cx} {scope : Scope} {x : Str} {NB : List Str} {ix : List Nat} {pins : List (Addr × Obj)} {σ : St} {H2 : Hp} {s2 : Shared} {fp : List Addr}
/-- the list that was hidden comes to light: what the def knows behind the block -/
theorem block_end {C D : Addr} {H' : Hp} {s4 : Shared} {σB : St} {its : List Value} {n : Nat} {ys : List V} (I2 : Inv X pins σ H2 s2) (f2 : ∀ b ∈ fp, FpOk X pins H2 b) (hD : s2.heap.objs.size ≤ D)
    (I4 : Inv (X.block scope C NB s2 H2 fp) [(D, lstO its n)] σB H' s4) (rv : Vals ys its) (hz : ys.length ≤ sizeLine) : Inv X pins σ (upd H' D (.lst ys)) s4 := by
  have hp := I4.pin (D, lstO its n) (by show _ ∈ [] ++ [(D, lstO its n)]; simp)
  have hfree : H' D = none := hp.2.1
  have neD : ∀ b o, s2.heap.get? b = some o → b ≠ D := fun b o e => Nat.ne_of_lt (Nat.lt_of_lt_of_le (Heap.lt_size e) hD)
  have neT : ∀ b o, H2 b = some o → b ≠ D := fun b o e => Nat.ne_of_lt (Nat.lt_of_lt_of_le (I2.hok.lt e) hD)
  have u : Un (frs X.stack) fp H2 H' s2.heap s4.heap := I4.base
  refine I2.call' (ch := fp) I4.os ⟨u.keep, u.slot, fun b o e n hx => ?_, u.there, fun b xs e => ?_, fun b o v e => ?_, fun b ps e => ?_⟩ (fun b o e => ?_) I4.bare fun b hb => ?_
  · rw [upd_ne (neD b o e)]
    exact u.free b o e n hx
  · rw [upd_ne (neT b _ e)]
    exact u.tups b xs e
  · rw [upd_ne (neT b _ e)]
    exact u.frzs b o v e
  · rw [upd_ne (neT b _ e)]
    exact u.tbls b ps e
  · by_cases hb : b = D
    · subst hb
      rw [upd_same] at e
      cases e
      exact ⟨hz, its, n, rv, hp.1⟩
    · rw [upd_ne hb] at e
      have ne : ∀ {c : Addr} {w : HO}, H' c = some w → c ≠ D := fun {c w} q z => by rw [z, hfree] at q; cases q
      exact (I4.hok b o e).stay (fun _ _ _ q => q) (fun c q => by rw [upd_ne (ne q)]; exact q) fun c xs q => by rw [upd_ne (ne q)]; exact q
  · obtain ⟨_, g1, g2, g3, g4, g5⟩ := f2 b hb
    exact ⟨g3, g1, g4, g5⟩

theorem comp_core {elt iter : Expr} {ifs : List Expr} {px pos : Pos} {tt : TT} {te : TE} {J : It} {it : Addr} {tn : Nat → Heap → Prop} {E : Value → Shared → Prop} {RR : Value → Addr → Result → Shared → Prop} {Qr : VK}
    (B : BlockOk X scope x NB ix) (hc : X.calm = true)
    (he : ∀ (C : Addr) (s : Shared) (H : Hp) (fp : List Addr), PE (X.block scope C NB s H fp) elt te) (ht : ∀ (C : Addr) (s : Shared) (H : Hp) (fp : List Addr), PTs (X.block scope C NB s H fp) ifs tt)
    (I2 : Inv X pins σ H2 s2) (T : Turn X.prog X.w X.K (.Name x px) J fp it tn) (st2 : tn 0 s2.heap) (f2 : ∀ b ∈ fp, FpOk X pins H2 b) (h : CompW J (caps ix σ) tt te H2 Qr)
    (hRR : ∀ (D C : Addr) (Hf : Hp) (s' : Shared) (m' : Str → Option Value), Inv X pins σ Hf s' → s'.heap.Ns C m' → FpOk X pins Hf C → Qr (.ref D) Hf → RR (.ref D) C (.ok .next) s') :
    wpAny (model X.prog X.w) X.A (newList []) (fun acc s3 => wpAny (model X.prog X.w) X.A (newFunctionEnv scope X.env.globals (closOf X.env.cells scope.names []) [] X.env.qual none .none (some X.env)) (fun cenv s4 =>
      codeAny (model X.prog X.w) X.A (.compStart (.ListComp elt [⟨.Name x px, iter, ifs, 0⟩] scope pos) 0 (.ref it) acc { cenv with scope := relabel scope X.env }) (RR acc cenv.locals) s4) E s3) E s2 := by
  obtain ⟨W, ⟨m0, w0⟩, turn⟩ := h
  refine wpAny_newObj_type (wpAny_newFunctionEnv B.cell (by intro y hy; simp at hy) (fun h1 hns hsb => ?_) B.kind)
  dsimp only at hns hsb ⊢
  generalize eG : s2.heap.push { cls := .type "list", dict := none, data := .seq ([] : List Value).toArray } = G at hns hsb ⊢
  have hC : G.objs.size = s2.heap.objs.size + 1 := by rw [← eG, Heap.size_push]
  have hDC : s2.heap.objs.size ≠ G.objs.size := by rw [hC]; exact Nat.ne_of_lt (Nat.lt_succ_self _)
  have hCle : s2.heap.objs.size ≤ G.objs.size := by rw [hC]; exact Nat.le_succ _
  have old : ∀ b o, s2.heap.get? b = some o → h1.get? b = some o := fun b o e => by
    have lt := Heap.lt_size e
    exact hsb.extBut b o (Nat.ne_of_lt (Nat.lt_of_lt_of_le lt hCle)) (Heap.get?_push_of_some _ (eG ▸ Heap.get?_push_of_some _ e))
  have hacc : h1.get? s2.heap.objs.size = some (lstO [] 0) := hsb.extBut _ _ hDC (Heap.get?_push_of_some _ (eG ▸ Heap.get?_push_size _ rfl))
  have ft : ∀ b ∈ fp, b < s2.heap.objs.size := fun b hb => by
    obtain ⟨o, e, _⟩ := T.obj _ _ st2 b hb
    exact Heap.lt_size e
  have loop : ∀ s3 : Shared, s3 = { s2 with heap := h1, toks := s2.toks + ([] : List (Str × Value)).length } →
      codeAny (model X.prog X.w) X.A (.compLoop (.ListComp elt [⟨.Name x px, iter, ifs, 0⟩] scope pos) 0 (.ref it) (.ref s2.heap.objs.size) (compEnvC scope (closOf X.env.cells scope.names []) G.objs.size X.env))
        (RR (.ref s2.heap.objs.size) G.objs.size) s3 := by
    rintro s3 rfl
    have I3 := block_inv (tk := s2.toks + ([] : List (Str × Value)).length) B I2 hCle (Nat.le_refl _) hDC f2 ft old hns hacc (fun v q => by cases q)
    have st3 : tn 0 h1 := T.keep _ _ _ st2 fun b _ o e => old b o e
    have fy : ∀ {H' : Hp} {oD : Obj}, (∀ b ∈ fp, H' b = none) → ∀ b ∈ fp, FpOk (X.block scope G.objs.size NB s2 H2 fp) [(s2.heap.objs.size, oD)] H' b := fun {H' oD} hn b hb => by
      refine ⟨hn b hb, Nat.ne_of_lt (Nat.lt_of_lt_of_le (ft b hb) hCle), fun z => ?_, .inl hb, fun y c e => (f2 b hb).2.2.2.2.1 y c (B.look I2 e), fun p hp => ?_⟩
      · rcases List.mem_cons.mp (I2.stkSub b z) with e | e
        · exact (f2 b hb).2.1 e
        · exact (f2 b hb).2.2.1 e
      · have e : p = (s2.heap.objs.size, oD) := by simpa [Cx.block] using hp
        subst e
        exact Ne.symm (Nat.ne_of_lt (ft b hb))
    refine codeAny_compLoop_tests (fun n s' => ∃ i ys its nn o H', W i n ys H' ∧ Inv (X.block scope G.objs.size NB s2 H2 fp) [(s2.heap.objs.size, lstO its nn)] (o :: caps ix σ) H' s' ∧ tn i s'.heap ∧ (∀ b ∈ fp, H' b = none) ∧ Vals ys its ∧ ys.length ≤ sizeLine)
      ?_ m0 ⟨0, [], [], 0, none, H2, w0, I3, st3, fun b hb => (f2 b hb).1, .nil, Nat.zero_le _⟩
    rintro n s' ⟨i, ys, its, nn, o, H', w', I', st', fr', rv, hz⟩
    rcases turn i n ys H' w' with ⟨stop, q⟩ | ⟨go, hlt, Nx, hNx, step⟩
    · refine wpAny_mono (T.done (X.block scope G.objs.size NB s2 H2 fp) rfl rfl rfl hc i _ s' _ H' (fun _ _ => False) I' (fy fr') st' stop) (fun r s4 ⟨hr, I4⟩ => ?_) fun _ _ z => z.elim
      subst hr
      have I5 := block_end I2 f2 (Nat.le_refl _) I4 rv hz
      obtain ⟨m4, hn4, _⟩ := I4.loc
      have hfree : H' s2.heap.objs.size = none := (I4.pin (s2.heap.objs.size, lstO its nn) (by show _ ∈ [] ++ [(s2.heap.objs.size, lstO its nn)]; simp)).2.1
      refine hRR _ _ _ s4 m4 I5 hn4 (I2.fpOk hCle ?_) (q _ hfree)
      rw [upd_ne (Ne.symm hDC)]
      exact I4.free
    · refine wpAny_mono (T.item (X.block scope G.objs.size NB s2 H2 fp) rfl rfl rfl hc i _ s' _ H' (fun _ _ => False) I' (fy fr') st' go) (fun r s4 ⟨u, hr, h4⟩ => ?_) fun _ _ z => z.elim
      subst hr
      intro Γ p hΓ
      obtain ⟨v, H5, I5, r5, y5, st5, fr5⟩ := h4 Γ p hΓ
      refine (?_ : wpAny (model X.prog X.w) X.A _ _ _ s4) Γ p hΓ
      have pIt : ∀ b ∈ fp, ∃ o, s4.heap.get? b = some o ∧ ∀ v, o.data ≠ .cell v := T.obj _ _ st5
      have I5' := I5.pinned (fy fr5) pIt
      have hg := pg_name (X := X.block scope G.objs.size NB s2 H2 fp) (i := 0) (x := x) (pos := px) B.nd (by show NB[0]? = some x; rw [B.nb]; rfl)
        (.inl (lookup_relabel_local B.var)) (.inr (lookup_relabel_local B.var))
      refine wpAny_mono (hg _ s4 _ H5 v u (fun σ' H' => σ' = some v :: caps ix σ ∧ H' = H5) I5' r5 ⟨rfl, rfl⟩) (fun _ s6 h6 => ?_) fun _ _ z => z.elim
      obtain ⟨σ6, H6, I6, e6, e7⟩ := h6
      subst e6 e7
      refine wpAny_mono (ht _ _ _ _ _ s6 _ _ _ I6 (step v H6 y5)) (fun b s7 ⟨H7, I7, q7⟩ => ?_) fun _ _ z => z.elim
      -- what stays of the iterator
      have stays : ∀ {s9 : Shared} {H9 : Hp} {σ9 : St} {oD : Obj}, Inv (X.block scope G.objs.size NB s2 H2 fp) ([(s2.heap.objs.size, oD)] ++ pinsAt fp s4.heap) σ9 H9 s9 → tn (i + 1) s9.heap ∧ ∀ b ∈ fp, H9 b = none := fun {s9 H9 σ9 oD} I9 => by
        refine ⟨T.keep _ _ _ st5 fun b hb o e => (I9.pin (b, o) (List.mem_append_right _ (List.mem_append_right _ (mem_pinsAt hb e)))).1, fun b hb => ?_⟩
        obtain ⟨o, e, d⟩ := pIt b hb
        exact (I9.pin (b, o) (List.mem_append_right _ (List.mem_append_right _ (mem_pinsAt hb e)))).2.1
      cases b with
      | false =>
        rw [if_neg Bool.false_ne_true] at q7 ⊢
        obtain ⟨m', hm, w7⟩ := hNx _ _ q7
        obtain ⟨g1, g2⟩ := stays I7
        exact ⟨m', hm, i + 1, ys, its, nn, some v, H7, w7, I7.unpinned, g1, g2, rv, hz⟩
      | true =>
        rw [if_pos rfl] at q7 ⊢
        refine wpAny_mono (he _ _ _ _ _ s7 _ _ _ I7 q7) (fun y s8 ⟨yv, H8, I8, r8, n8⟩ => ?_) fun _ _ z => z.elim
        obtain ⟨m', hm, w8⟩ := hNx _ _ n8
        obtain ⟨g1, g2⟩ := stays I8
        have pD := I8.pin (s2.heap.objs.size, lstO its nn) (by show _ ∈ [] ++ ([(s2.heap.objs.size, lstO its nn)] ++ pinsAt fp s4.heap); simp)
        refine append_at (hsz := by rw [List.size_toArray, ← rv.length]; exact hz) pD.1 fun h9 hs9 hD9 => ?_
        have hno : s2.heap.objs.size ∉ fp := fun z => Nat.lt_irrefl _ (ft _ z)
        have I8u := I8.unpinned
        have I8n := I8u.pins_of (pins' := []) (fun _ z => nomatch z)
        have I9 := I8n.turned (h' := h9) (t' := s8.toks) (it := s2.heap.objs.size) (fun b o hb e => hs9.extBut b o hb e) pD.2.1 pD.2.2.1 (.inr (Nat.le_refl _))
          (fun y c e z => by
            obtain ⟨w, q⟩ := I2.cell y c (B.look I2 e)
            exact Nat.lt_irrefl _ (z ▸ q.lt)) (fun p hp => by cases hp)
        have e9 : lstO (its ++ [y]) (nn + 1) = { cls := .type "list", data := .seq (its.toArray.push y) (nn + 1) } := by
          show ({ cls := .type "list", data := .seq (its ++ [y]).toArray (nn + 1) } : Obj) = _
          rw [List.push_toArray]
        have I10 : Inv (X.block scope G.objs.size NB s2 H2 fp) [(s2.heap.objs.size, lstO (its ++ [y]) (nn + 1))] (some v :: caps ix σ) H8 { s8 with heap := h9 } := by
          refine I9.pins_of fun p hp => ?_
          have e : p = (s2.heap.objs.size, lstO (its ++ [y]) (nn + 1)) := by simpa using hp
          subst e
          exact ⟨hD9.trans (congrArg some e9.symm), pD.2.1, pD.2.2.1, pD.2.2.2.1, fun v q => by cases q⟩
        refine ⟨m', hm, i + 1, ys ++ [yv], its ++ [y], nn + 1, some v, H8, w8, I10, T.keep _ _ _ g1 fun b hb o e => hs9.extBut b o (fun z => hno (z ▸ hb)) e, g2, Vals.append rv (.cons r8 .nil), ?_⟩
        rw [List.length_append]
        exact hlt
  exact codeAny_compStart_list (loop _ rfl) (T.self _ 0 _ _ _ (T.keep _ _ _ st2 fun b _ o e => old b o e) (loop _ rfl))

def tComp (wi : TI) (ix : List Nat) (tt : TT) (te : TE) : TE := fun σ H Q => wi σ H fun J H1 => CompW J (caps ix σ) tt te H1 Q
/-- [elt for x in iter if ..] -/
theorem pe_comp {elt iter : Expr} {ifs : List Expr} {px pos : Pos} {wi : TI} {tt : TT} {te : TE} (B : BlockOk X scope x NB ix) (hc : X.calm = true) (hi : PI X (.Name x px) iter wi)
    (he : ∀ (C : Addr) (s : Shared) (H : Hp) (fp : List Addr), PE (X.block scope C NB s H fp) elt te) (ht : ∀ (C : Addr) (s : Shared) (H : Hp) (fp : List Addr), PTs (X.block scope C NB s H fp) ifs tt)
    (hs : ∀ v, foldedSetIterable iter X.env v = pure v := by intro _; rfl) : PE X (.ListComp elt [⟨.Name x px, iter, ifs, 0⟩] scope pos) (tComp wi ix tt te) := by
  intro pins s σ H Q I h
  rw [eval_ListComp]
  refine wpAny_comprehension_free (use := none) rfl hs (B.clos I) B.kind B.names (thn (hi pins s σ H _ I h) fun v s1 h1 => thn h1 fun itv s2 h2 => ?_)
  obtain ⟨it, fp, tn, J, H2, e, I2, T, st2, f2, w⟩ := h2
  subst e
  refine comp_core (RR := fun acc C => compPost (model X.prog X.w) X.A X.xe none (EP X pins σ Q) acc C) B hc he ht I2 T st2 f2 w fun D C Hf s' m' I' hn' fC q => ?_
  refine ⟨m', hn', fun h'' hs'' => ⟨.ref D, Hf, ?_, rfl, q⟩⟩
  obtain ⟨c0, c1, c2, c3, c4, c5⟩ := fC
  exact I'.turned (it := C) (t' := s'.toks) (fun b o hb e => hs''.extBut b o hb e) c0 c1 c3 c4 c5
/-- name = [elt for x in iter if ..], the name a plain local one, on one line -/
theorem ps_comp {elt iter : Expr} {ifs : List Expr} {px pos py spos : Pos} {wi : TI} {tt : TT} {te : TE} {j : Nat} {y : Str} (hN : X.N.Nodup) (hj : X.N[j]? = some y) (hy : X.env.scope.names.lookup y = some .local)
    (B : BlockOk X scope x NB ix) (hc : X.calm = true) (hi : PI X (.Name x px) iter wi)
    (he : ∀ (C : Addr) (s : Shared) (H : Hp) (fp : List Addr), PE (X.block scope C NB s H fp) elt te) (ht : ∀ (C : Addr) (s : Shared) (H : Hp) (fp : List Addr), PTs (X.block scope C NB s H fp) ifs tt)
    (hsw : swapsWith (.ListComp elt [⟨.Name x px, iter, ifs, 0⟩] scope pos) (some (.Name y py)) spos.line X.env = pure true)
    (hs : ∀ v, foldedSetIterable iter X.env v = pure v := by intro _; rfl) : PS X (.Assign [.Name y py] (.ListComp elt [⟨.Name x px, iter, ifs, 0⟩] scope pos) spos) (tAsg (tComp wi ix tt te) (gName j)) := by
  intro pins s σ H Dn I h
  rw [exec_Assign_Name_used _ _ _ _ hsw]
  refine wpAny_bind (wpAny_standAt (wpAny_bind ?_))
  show wpAny (model X.prog X.w) X.A (comprehension (.ListComp elt [⟨.Name x px, iter, ifs, 0⟩] scope pos) scope X.env _ (newList []) false (eval iter X.env) (some (assign (.Name y py) X.env)) >>= fun _ => pure ()) _ _ s
  refine wpAny_bind (thn (wpAny_comprehension_free (use := some (assign (.Name y py) X.env)) (Q := fun _ s' => SP X pins Dn .next s') rfl hs (B.clos I) B.kind B.names (thn (hi pins s σ H _ I h) fun v s1 h1 => thn h1 fun itv s2 h2 => ?_)) fun _ s' q => wpAny_pure (wpAny_pure q))
  obtain ⟨it, fp, tn, J, H2, e, I2, T, st2, f2, w⟩ := h2
  subst e
  refine comp_core (RR := fun acc C => compPost (model X.prog X.w) X.A X.xe (some (assign (.Name y py) X.env)) (fun _ s' => SP X pins Dn .next s') acc C) B hc he ht I2 T st2 f2 w fun D C Hf s' m' I' hn' fC q => ?_
  obtain ⟨c0, c1, c2, c3, c4, c5⟩ := fC
  show wpAny (model X.prog X.w) X.A (assign (.Name y py) X.env (.ref D)) _ _ s'
  refine wpAny_assign_Name (store_ok2 I' hN hj (.inl hy) (v := .ref D) rfl (fun s'' I'' ⟨a, sb, ha⟩ => ?_) (.inr hy))
  have hCa : C ≠ a := by
    rcases ha with e | e
    · rw [e]; exact c1
    · exact fun z => c4 y a e z.symm
  refine ⟨m', hn'.sameBut sb hCa, fun h3 hs3 => ⟨_, Hf, ?_, q⟩⟩
  exact I''.turned (it := C) (t' := s''.toks) (fun b o hb e => hs3.extBut b o hb e) c0 c1 c3 c4 c5
end
end L2

set_option Elab.async false
set_option linter.all false
set_option maxRecDepth 100000
set_option maxHeartbeats 4000000
namespace PySem
open PySem.W
section
variable {prog : Program} {w : World} {A : Around} {R : Result → Shared → Prop} {h : Heap} {g : Array GenState} {d : Drawn} {t : Nat} {os : OsState}
variable {nm q : Str} {C N : Addr} {bs bm bmB : List Value} {hdct : Bool} {sn : List Str} {sub : List Value} {ab : Bool} {col : Option Bool} {dd : Option Addr} {k0 k1 k2 k3 k5 : Option Value} {B newId initId : String}
abbrev xObj (C t0 : Addr) : Obj := { cls := .ref C, data := .fields #[.ref t0, .none, .none, .none, .bool false, .none] }
abbrev xTup (rest : List Value) : Obj := { cls := .type "tuple", data := .seq rest.toArray }
/-- an exception class of the text with an own __init__: made, then its __init__ -/
theorem exc_make_init (F : ExcBaseFacts B newId initId bmB) (T : OwnTail h bmB bm) {mN : Str → Option Value} {rest : List Value} {fI : Addr} {E : Value → Shared → Prop} {Q : Fin → Shared → Prop}
    (hC : h.get? C = some (excClassObj nm q C N bs bm hdct sn sub ab col dd k0 k1 k2 k3 k5 newId)) (hn : h.Ns N mN) (hni : mN "__init__" = some (.ref fI))
    (hb : ∀ self, Looks (model prog w) h (bindSpecial (.ref fI) self) (.ref fI, [self]))
    (hq : codeAny (model prog w) A (.call (.ref fI) ⟨.ref (h.objs.size + 1) :: rest, []⟩) (fun r s' => match r with | .ok (.ret v) => v = .none ∧ Q (.done (.ret (.ref (h.objs.size + 1)))) s' | .ok _ => False | .error e => E e s')
      ⟨(h.push (xTup rest)).push (xObj C h.objs.size), g, d, t, os⟩) (hrest : rest.length ≤ sizeLine := by size_fits) :
    wpAny (model prog w) A (Builtin.«type.__call__» ⟨.ref C :: rest, []⟩) Q E ⟨h, g, d, t, os⟩ := by
  repeat (first | with_reducible refine wpAny_loadPart_at hC ?_ | with_reducible refine wpAny_madeBy_exc hC ?_ | wp_step)
  refine codeAny_call_builtin_code (Code.quiet_builtin _ F.quiet) (wpAny_check_new_subT F T hC (codeAny_exc_new_subT F T hC ?_ hrest))
  show wpAny _ _ _ _ _ _
  have k : ∀ b o, h.get? b = some o → ((h.push (xTup rest)).push (xObj C h.objs.size)).get? b = some o := fun b o e => Heap.get?_push_of_some _ (Heap.get?_push_of_some _ e)
  have hC1 := k _ _ hC
  have hn1 : ((h.push (xTup rest)).push (xObj C h.objs.size)).Ns N mN := hn.keeps k
  have hget : ((h.push (xTup rest)).push (xObj C h.objs.size)).get? (h.objs.size + 1) = some (xObj C h.objs.size) := by heap_get
  have hcC : (Value.ref C :: bm).contains (.ref C) = true := by simp
  have T1 := T.keeps k
  unfold isInstance
  repeat (first | with_reducible refine wpAny_loadPart_at hget ?_ | (with_reducible refine wpAny_isSubtype_exc hC1 ?_; rw [hcC]) | wp_step)
  show wpAny _ _ (typeLookup (.ref C) _) _ _ _
  refine wpAny_typeLookup_tail hC1 hn1 T1 F.mroIs F.init.lookup ?_
  rw [hni]
  refine wpAny_holding (wpAny_bind (((hb (.ref (h.objs.size + 1))).keeps k).at ?_))
  refine wpAny_bind (wpAny_call (codeAny_mono hq fun r s' z => ?_))
  rcases r with e | (v | _ | _ | _) <;> first | exact z | exact z.elim | skip
  obtain ⟨rfl, z⟩ := z
  exact wpAny_pure (wpAny_pure z)
theorem exc_make_call (F : ExcBaseFacts B newId initId bmB) (T : OwnTail h bmB bm) {mN : Str → Option Value} {rest : List Value} {fI : Addr}
    (hC : h.get? C = some (excClassObj nm q C N bs bm hdct sn sub ab col dd k0 k1 k2 k3 k5 newId)) (hn : h.Ns N mN) (hni : mN "__init__" = some (.ref fI))
    (hb : ∀ self, Looks (model prog w) h (bindSpecial (.ref fI) self) (.ref fI, [self]))
    (hq : codeAny (model prog w) (A.under (.builtin "type.__call__" ⟨.ref C :: rest, []⟩)) (.call (.ref fI) ⟨.ref (h.objs.size + 1) :: rest, []⟩) (InitBack (h.objs.size + 1) R)
      ⟨(h.push (xTup rest)).push (xObj C h.objs.size), g, d, t, os⟩) (hrest : rest.length ≤ sizeLine := by size_fits) :
    codeAny (model prog w) A (.call (.ref C) ⟨rest, []⟩) R ⟨h, g, d, t, os⟩ := by
  have f1 := tc_lookup
  have f2 := tc_bind (.ref C)
  have hT : (⟨h, g, d, t, os⟩ : Shared).TypeIs (.ref C) "type" := ⟨_, hC, rfl⟩
  refine codeAny_of_tree ?_
  show wpAny _ _ (callAny (.ref C) _) _ _ _
  repeat (any_goals (first | assumption | with_reducible refine wpAny_loadPart_at hC ?_ | wp_step))
  refine ⟨rfl, codeAny_call_builtin_at (Code.quiet_builtin _ (by decide +kernel)) entry_typeCall (wpAny_check_type_call_sub hC ?_)⟩
  exact exc_make_init (hrest := hrest) F T hC hn hni hb hq
end
end PySem

set_option Elab.async false
set_option linter.all false
set_option maxRecDepth 100000
set_option maxHeartbeats 4000000
namespace L2
open PySem PySem.Spec PyProof.Rows PySem.W

/-- an exception of the class at C stands at a, its own dict at dd -/
def XAt (a C : Addr) (dd : Option Addr) : Heap → Prop := fun h => ∃ (t0 : Addr) (v1 v2 v3 v4 v5 : Value) (sl : Array (Option Value)), h.get? a = some ⟨.ref C, dd, .fields #[.ref t0, v1, v2, v3, v4, v5], sl⟩
theorem xat_ok {P : Program} {w : World} {H : Hp} {h : Heap} {a C : Addr} {dd : Option Addr} (x : XAt a C dd h) : ObjOk P w H h a (.ext (XAt a C dd)) := by
  obtain ⟨t0, v1, v2, v3, v4, v5, sl, e⟩ := id x
  exact ⟨x, ⟨_, e⟩, fun h1 h2 ⟨t0, v1, v2, v3, v4, v5, sl, e⟩ k => ⟨t0, v1, v2, v3, v4, v5, sl, k _ e⟩⟩
theorem Inv.xat {X : Cx} {pins : List (Addr × Obj)} {σ : St} {H : Hp} {s : Shared} {a C : Addr} {dd : Option Addr} (I : Inv X pins σ H s) (e : H a = some (.ext (XAt a C dd))) : XAt a C dd s.heap := (I.hok a _ e).1

/-- an exception class of the text, by the head's part: mN "__init__" is r -/
def xclsIn (K : Frag) (C : Addr) (bmB : List Value) (newId : String) (r : Option Value) : Bool := match K.lookup C with
  | some ⟨.type "type", _, .cls cd, sl⟩ => (match cd.mro, sl.toList with
    | .ref C' :: bm, [_, _, _, _, some (.builtin n), _] => (C' == C && n == newId) && (!cd.hasDel && tailIn K bmB bm) && (nsOkIn K cd.ns && nsIn K cd.ns "__init__" == some r)
    | _, _ => false)
  | _ => false
structure XCls (C : Addr) (bmB : List Value) (newId : String) (r : Option Value) (h : Heap) : Prop where
  obj : ∃ bm N nm q bs hdct sn sub ab col dd k0 k1 k2 k3 k5 mN, h.get? C = some (excClassObj nm q C N bs bm hdct sn sub ab col dd k0 k1 k2 k3 k5 newId) ∧ h.Ns N mN ∧ mN "__init__" = r ∧ OwnTail h bmB bm
theorem ns_look_of {K : Frag} {h : Heap} {N : Addr} {mg : Str → Option Value} {n : Str} {r : Option Value} (X : K.In h) (G : h.Ns N mg) (e : nsIn K N n = some r) : mg n = r := by
  obtain ⟨o, es, ep, ho, hd, _, hf⟩ := G
  unfold nsIn at e
  split at e
  · rename_i c d es' n' sl q
    have z := X _ _ q
    rw [ho] at z
    cases z
    cases hd
    split at e
    · rename_i en he
      rw [← hf]
      unfold nsFind findBy
      rw [← Array.find?_toList, he]
      first
        | (cases e; rfl)
        | (split at e <;> cases e <;> rfl)
    · rename_i he
      rw [← hf]
      unfold nsFind findBy
      rw [← Array.find?_toList, he]
      split at e
      · cases e
      · cases e
        rfl
  · cases e
theorem xcls_of {K : Frag} {h : Heap} {C : Addr} {bmB : List Value} {newId : String} {r : Option Value} (X : K.In h) (q : xclsIn K C bmB newId r = true) : XCls C bmB newId r h := by
  unfold xclsIn at q
  split at q
  · rename_i dd cd sl ho
    split at q
    · rename_i C' bm k0 k1 k2 k3 n k5 hm hs
      simp only [Bool.and_eq_true, beq_iff_eq, Bool.not_eq_true'] at q
      obtain ⟨⟨⟨rfl, rfl⟩, hdel, ht⟩, hok, hni⟩ := q
      obtain ⟨nm, bs, mro, ns, qn, hd, sn, sub, ab, col, del⟩ := cd
      dsimp only at hm hdel hok hni
      subst hm hdel
      obtain ⟨l⟩ := sl
      have hs : l = _ := hs
      subst hs
      have G : h.Ns ns (h.nsMap ns) := .of_isNs (isNs_of_in X hok)
      exact ⟨bm, ns, nm, qn, bs, hd, sn, sub, ab, col, dd, k0, k1, k2, k3, k5, _, X _ _ ho, G, ns_look_of X G hni, tail_of_in X ht⟩
    · cases q
  · cases q

theorem there_of {P : Program} {w : World} {H : Hp} {h : Heap} {a : Addr} {o : HO} (x : ObjOk P w H h a o) : ∃ ob, h.get? a = some ob := by
  cases o with
  | lst xs => obtain ⟨_, _, _, _, e⟩ := x; exact ⟨_, e⟩
  | tup xs => obtain ⟨_, _, _, ob, e, _⟩ := x; exact ⟨_, e⟩
  | dK kvs => obtain ⟨_, _, _, _, ob, _, _, e, _⟩ := x; exact ⟨_, e⟩
  | dT kvs => obtain ⟨_, _, _, _, ob, _, _, e, _⟩ := x; exact ⟨_, e⟩
  | set S n => obtain ⟨ob, _, _, _, e, _⟩ := x; exact ⟨_, e⟩
  | ins C dx fs => obtain ⟨_, _, _, e, _⟩ := x; exact ⟨_, e⟩
  | own y => exact x
  | xd fs => obtain ⟨_, ⟨od, _, _, e, _⟩, _⟩ := x; exact ⟨_, e⟩
  | rng lo hi => obtain ⟨_, _, _, e⟩ := x; exact ⟨_, e⟩
  | frz ob u => obtain ⟨e, _⟩ := x; exact ⟨_, e⟩
  | tbl ps => exact ⟨_, x⟩
  | met f y => exact ⟨_, x⟩
  | ext φ => obtain ⟨_, e, _⟩ := x; exact e
section
variable {X : Cx} {pins : List (Addr × Obj)} {σ : St} {H : Hp} {s : Shared} {h' : Heap}
theorem Inv.free_of (I : Inv X pins σ H s) {a : Addr} (hn : s.heap.get? a = none) : H a = none := by
  cases z : H a with
  | none => rfl
  | some o =>
    obtain ⟨ob, e⟩ := there_of (I.hok a o z)
    rw [hn] at e
    cases e
/-- a new object, wherever it was laid, tracked -/
theorem Inv.laidN {a : Addr} {o : HO} {t' : Nat} (I : Inv X pins σ H s) (k : ∀ b u, s.heap.get? b = some u → h'.get? b = some u) (hn : s.heap.get? a = none) (new : ObjOk X.prog X.w (upd H a o) h' a o) :
    Inv X pins σ (upd H a o) { s with heap := h', toks := t' } := by
  have hf := I.free_of hn
  have neA : ∀ b u, s.heap.get? b = some u → b ≠ a := fun b u e z => by rw [z, hn] at e; cases e
  have neT : ∀ b u, H b = some u → b ≠ a := fun b u e z => by rw [z, hf] at e; cases e
  refine I.un ⟨fun b u e _ _ _ => k b u e, fun b u e _ _ _ => ⟨u.slots, k b u e⟩, fun b u e n _ => by rw [upd_ne (neA b u e)]; exact n, fun b u e _ => ⟨u, k b u e⟩, fun b xs e => by rw [upd_ne (neT b _ e)]; exact e,
    fun b u v e => by rw [upd_ne (neT b _ e)]; exact e, fun b ps e => ⟨#[], by rw [upd_ne (neT b _ e), e]; simp⟩⟩ fun b u e => ?_
  by_cases hb : b = a
  · subst hb
    rw [upd_same] at e
    cases e
    exact new
  · rw [upd_ne hb] at e
    exact (I.hok b u e).stay (fun c v _ q => k c v q) (fun c q => by rw [upd_ne (neT c _ q)]; exact q) fun c xs q => by rw [upd_ne (neT c _ q)]; exact q
end
abbrev veM : List Value := [.type "ValueError", .type "Exception", .type "BaseException", .type "object"]
section
variable {X : Cx} {x : Str} {p pos : Pos} {e : Expr} {es : List Expr} {t : TA} {C : Addr}
/-- C(..), an exception class without an own __init__ -/
def tExc (C : Addr) (t : TA) : TE := fun σ H Q => t σ H fun vs H1 => vs.length ≤ sizeLine ∧ ∀ a, H1 a = none → Q (.ref a) (upd H1 a (.ext (XAt a C none)))
theorem pe_exc (hc : xclsIn X.K C veM "ValueError.__new__" none = true) (hg : Gl X x) (hm : X.mg x = some (.ref C)) (hk : keepIn X.K (.ref C) = true)
    (ha : PA X (e :: es) t) (hdb : (x == ("__debug__" : Str)) = false := by decide) (he : starEach (e :: es) X.env = (false, eval e X.env) :: starEach es X.env := by rfl) (hpl : (backTo pos (starEach es X.env)).any (·.1) = false := by rfl) :
    PE X (.Call (.Name x p) (e :: es) [] pos) (tExc C t) := by
  intro pins s σ H Q I h
  refine wpAny_Call_Name_kw (ld_glob I hg hm ?_ hdb)
  refine callWith_K (h₀ := X.base) I.ok.mod.kin hk (thn (ha pos pins s σ H _ I h) fun us s1 ⟨vs, H1, I1, r, hz, q⟩ => ⟨I1.kIn, ?_⟩) he hpl
  obtain ⟨bm, N, nm, qn, bs, hd, sn, sub, ab, col, dd, k0, k1, k2, k3, k5, mN, hC, hN, hni, T⟩ := (xcls_of I1.kIn hc).obj
  obtain ⟨hp, g, dr, tk, os⟩ := s1
  show wpAny (model X.prog X.w) X.A (call (Value.ref C) us) _ _ _
  refine wpAny_call_exc_subT PySem.F.excBase_ValueError T hC hN hni (fun h' a M => ?_) (by show us.length ≤ sizeLine; rw [← r.length]; exact hz)
  obtain ⟨keeps, new, t0, hx, _, _⟩ := M
  exact ⟨.ref a, _, I1.laidN (a := a) (o := .ext (XAt a C none)) (t' := tk) keeps new (xat_ok ⟨_, _, _, _, _, _, _, hx⟩), rfl, q a (I1.free_of new)⟩

variable {CX : CXT} {k : Nat} {f : Addr} {fd : FuncData} {ps : List Str} {sp : Sp} {E : XK}
/-- C(..), an exception class with an own __init__ -/
def tExcI (C : Addr) (sp : Sp) (E : XK) (t : TA) : TE := fun σ H Q => t σ H fun vs H1 => vs.length ≤ sizeLine ∧ ∀ a, H1 a = none → sp (.ref a :: vs) (upd H1 a (.ext (XAt a C none))) (fun v H2 => v = .non ∧ Q (.ref a) H2) E
theorem pe_excI (hc : xclsIn X.K C veM "ValueError.__new__" (some (.ref f)) = true) (hf : typeIn X.K (.ref f) = some (.type "function")) (F : FnOk X.prog X.w X.K X.mg X.base CX k f fd ps sp) (hr : Room (k + 1) X.A) (hb : Binds X.K fd ps [])
    (hx : Passes CX X E) (hg : Gl X x) (hm : X.mg x = some (.ref C)) (hk : keepIn X.K (.ref C) = true)
    (ha : PA X (e :: es) t) (hdb : (x == ("__debug__" : Str)) = false := by decide) (he : starEach (e :: es) X.env = (false, eval e X.env) :: starEach es X.env := by rfl) (hpl : (backTo pos (starEach es X.env)).any (·.1) = false := by rfl) :
    PE X (.Call (.Name x p) (e :: es) [] pos) (tExcI C sp E t) := by
  intro pins s σ H Q I h
  refine wpAny_Call_Name_kw (ld_glob I hg hm ?_ hdb)
  refine callWith_K (h₀ := X.base) I.ok.mod.kin hk (thn (ha pos pins s σ H _ I h) fun us s1 ⟨vs, H1, I1, r, hz, q⟩ => ⟨I1.kIn, ?_⟩) he hpl
  obtain ⟨bm, N, nm, qn, bs, hd, sn, sub, ab, col, dd, k0, k1, k2, k3, k5, mN, hC, hN, hni, T⟩ := (xcls_of I1.kIn hc).obj
  have X1 := I1.kIn
  obtain ⟨hp, g, dr, tk, os⟩ := s1
  have kp : ∀ b o, hp.get? b = some o → ((hp.push (xTup us)).push (xObj C hp.objs.size)).get? b = some o := fun b o e => Heap.get?_push_of_some _ (Heap.get?_push_of_some _ e)
  have hget : ((hp.push (xTup us)).push (xObj C hp.objs.size)).get? (hp.objs.size + 1) = some (xObj C hp.objs.size) := by heap_get
  have new : hp.get? (hp.objs.size + 1) = none := Heap.get?_none_of_le (Nat.le_succ _)
  have I2 := I1.laidN (a := hp.objs.size + 1) (o := .ext (XAt (hp.objs.size + 1) C none)) (t' := tk) kp new (xat_ok ⟨_, _, _, _, _, _, _, hget⟩)
  have q2 := q _ (I1.free_of new)
  have r2 : Vals (V.ref (hp.objs.size + 1) :: vs) (Value.ref (hp.objs.size + 1) :: us) := .cons rfl r
  have hl : (Value.ref (hp.objs.size + 1) :: us).length = ps.length := by
    have e := r2.length
    rw [F.len _ _ _ _ q2] at e
    exact e.symm
  show wpAny (model X.prog X.w) X.A (call (Value.ref C) us) _ _ _
  refine wpAny_call (exc_make_call (fI := f) PySem.F.excBase_ValueError T hC hN hni (fun self => bind_fn X1 self hf) ?_ (by show us.length ≤ sizeLine; rw [← r.length]; exact hz))
  refine codeAny_mono (F.run _ X.stack _ _ ⟨Value.ref (hp.objs.size + 1) :: us, []⟩ (Value.ref (hp.objs.size + 1) :: us) _ _ E (hr.make C us []) (I2.env0.make C us []) ?_ r2 q2) fun r s' hq' => ?_
  · have := hb _ (Value.ref (hp.objs.size + 1) :: us) I2.kIn (by rw [List.append_nil]; exact hl)
    rw [List.append_nil] at this
    exact this
  cases r with
  | error e => exact hx pins σ _ _ e s' I2 hq'
  | ok fl =>
    cases fl with
    | ret u =>
      obtain ⟨v, H', I3, rv, ev, q3⟩ := I2.after hq'
      subst ev
      exact ⟨rv, ⟨V.ref (hp.objs.size + 1), H', I3, rfl, q3⟩⟩
    | next => exact False.elim hq'
    | brk => exact False.elim hq'
    | cont => exact False.elim hq'
end
end L2

set_option Elab.async false
set_option linter.all false
set_option maxRecDepth 100000
set_option maxHeartbeats 4000000
namespace L2
open PySem PySem.Spec PyProof.Rows PySem.W
section
variable {prog : Program} {w : World} {A : Around} {E : Value → Shared → Prop} {h : Heap} {g : Array GenState} {d : Drawn} {t : Nat} {os : OsState} {a C : Addr} {dd : Option Addr} {t0 : Addr} {v1 v2 v3 v4 v5 : Value} {sl : Array (Option Value)} {r : Option Value}
theorem base_init_run {rest : List Value} {Q : Value → Shared → Prop} (hc : XCls C veM "ValueError.__new__" r h) (hget : h.get? a = some ⟨.ref C, dd, .fields #[.ref t0, v1, v2, v3, v4, v5], sl⟩)
    (hq : Q .none ⟨(h.push (xTup rest)).update a (Obj.mapFields (·.setIfInBounds 0 (.ref h.objs.size))), g, d, t, os⟩) (hrest : rest.length ≤ sizeLine) :
    wpAny (model prog w) A (call (.builtin "ValueError.__init__") (.ref a :: rest)) Q E ⟨h, g, d, t, os⟩ := by
  obtain ⟨bm, N, nm, qn, bs, hd, sn, sub, ab, col, dc, k0, k1, k2, k3, k5, mN, hC, hN, hni, T⟩ := hc.obj
  have F := PySem.F.excBase_ValueError
  refine wpAny_call (codeAny_call_builtin F.init.plain F.initEntry (wpAny_check_init_subT F T hC hget rfl ?_))
  wp_walk
  exact hq
end
end L2

set_option Elab.async false
set_option linter.all false
set_option maxRecDepth 100000
set_option maxHeartbeats 4000000
namespace L2
open PySem PySem.Spec PyProof.Rows PySem.W Builtin Builtin.ObjectAttr
/-- own classes, then ValueError's own -/
def veTail (l : List Value) : Bool := match l with
  | .ref _ :: r => veTail r
  | l => l == veM
theorem ve_passes (self : Value) : ∀ (l : List Value), veTail l = true → refuseLoop self "__setattr__" l = pure ()
  | [], e => by cases e
  | v :: r, e => by
    cases v with
    | ref c => rw [refuseLoop_ref]; exact ve_passes self r e
    | type n =>
      have e : (Value.type n :: r == veM) = true := e
      rw [beq_iff_eq.mp e]
      exact PySem.F.store_ValueError.passes self
    | _ => cases e
theorem ve_has (T : String) (hT : veM.contains (.type T) = true) : ∀ (l : List Value), veTail l = true → l.contains (.type T) = true
  | [], e => by cases e
  | v :: r, e => by
    cases v with
    | ref c => rw [List.contains_cons, ve_has T hT r e, Bool.or_true]
    | type n =>
      have e : (Value.type n :: r == veM) = true := e
      rw [beq_iff_eq.mp e]
      exact hT
    | _ => cases e
theorem ve_ne : ∀ (l : List Value), veTail l = true → l.isEmpty = false
  | [], e => by cases e
  | _ :: _, _ => rfl
def xdIn (K : Frag) (C : Addr) : Bool := (clsIn K C).any fun cd => veTail cd.mro && cd.hasDict
structure XFacts (K : Frag) (C : Addr) : Prop where
  cd : xdIn K C = true
  sa : findIn K (.ref C) "__setattr__" = some (some (.builtin "object.__setattr__"))
  ga : findIn K (.ref C) "__getattribute__" = some (some (.builtin "BaseException.__getattribute__"))
  ng : findIn K (.ref C) "__getattr__" = some none
section
variable {prog : Program} {w : World} {A : Around} {E : Value → Shared → Prop} {s : Shared} {K : Frag} {x C : Addr} {name : Str} {v : Value} {vs : Array Value} {sl : Array (Option Value)}
theorem x_sub {M : Model} {h : Heap} {ox : Obj} {od : Option Obj} (X : K.In h) (I : InstAt h x ox C od) (F : XFacts K C) (T : String) (hT : veM.contains (.type T) = true) : Looks M h (isInstance (.ref x) (.type T)) true := by
  obtain ⟨cd, hc, ho⟩ := any_some F.cd
  rw [Bool.and_eq_true] at ho
  exact I.type.andThen (looks_mroIn X (by unfold mroIn; rw [hc, Option.bind_some, if_neg (by rw [ve_ne _ ho.1]; decide), ve_has T hT _ ho.1]))
theorem x_setattr {Q : Unit → Shared → Prop} (X : K.In s.heap) (F : XFacts K C) (ht : takerIn K C name = some none) (hx : s.heap.get? x = some ⟨.ref C, none, .fields vs, sl⟩)
    (hq : ∀ h' tk', (∀ b o, b ≠ x → s.heap.get? b = some o → h'.get? b = some o) → h'.get? x = some ⟨.ref C, some s.heap.objs.size, .fields vs, sl⟩ → h'.Ns1 s.heap.objs.size (fun y => if y = name then some v else none) → Q () { s with heap := h', toks := tk' }) :
    wpAny (model prog w) A (setAttr (.ref x) name v) Q E s := by
  obtain ⟨h, g, d, t, os⟩ := s
  dsimp only at X hx hq
  have I : InstAt h x ⟨.ref C, none, .fields vs, sl⟩ C none := ⟨hx, rfl, rfl, trivial⟩
  have L0 := I.type (M := model prog w)
  have L1 := looks_findIn (M := model prog w) X F.sa
  have SF := PySem.F.store_ValueError
  obtain ⟨cd, hc, ho⟩ := any_some F.cd
  rw [Bool.and_eq_true] at ho
  have hm : Looks (model prog w) h (mroOf (.ref C)) cd.mro := (looks_clsIn X hc).andThen .now
  obtain ⟨attr, ha, hr⟩ := Option.bind_eq_some_iff.mp ht
  have L2 := looks_findIn (M := model prog w) X ha
  have L3 : Looks (model prog w) h (storeTaker? attr) none := by
    cases attr with
    | none => cases hr; exact .now
    | some a =>
      obtain ⟨b, hb, e⟩ := Option.map_eq_some_iff.mp hr
      refine (looks_takesIn X hb).andThen ?_
      cases b with
      | true => cases e
      | false => exact .now
  have hxs : x ≠ h.objs.size := Nat.ne_of_lt (Heap.lt_size hx)
  unfold setAttr callSpecial? specialOf
  refine wpAny_bind (wpAny_mkText (wpAny_bind (wpAny_bind (wpAny_bind (L0.at ?_)))))
  refine L1.at ?_
  refine wpAny_holding (wpAny_bind ?_)
  rw [SF.slot.bind]
  refine wpAny_pure (wpAny_bind (wpAny_call ?_))
  refine codeAny_call_builtin SF.slot.plain SF.entry (@check_slot (model prog w) _ _ _ "object.__setattr__" "object" "__setattr__" (.ref x) [.str name t, v] [] _ SF.kind SF.split (x_sub X I F "object" (by decide)) (SF.args (.ref x) (.str name t) v) ?_)
  show wpAny _ _ («object.__setattr__» ⟨[.ref x, .str name t, v], []⟩) _ _ ⟨h, g, d, t + 1, os⟩
  rw [osa_eq, refuse_eq]
  refine wpAny_bind (wpAny_bind (L0.at (wpAny_bind (hm.at ?_))))
  rw [ve_passes _ _ ho.1]
  refine wpAny_pure (wpAny_bind (L0.at (wpAny_bind (L2.at (wpAny_bind (L3.at ?_))))))
  show wpAny _ _ (storeInOwnDict (.ref x) (.ref C) (.str name t) name v _) _ _ _
  refine wpAny_bind (wpAny_pure (wpAny_bind (wpAny_bind (wpAny_loadPart hx (wpAny_bind ((looks_clsIn X hc).at ?_))))))
  rw [ho.2]
  have hx1 : (h.push { cls := .type "dict", data := .dict #[] }).get? x = some ⟨.ref C, none, .fields vs, sl⟩ := Heap.get?_push_of_some _ hx
  refine wpAny_bind (wpAny_alloc' ?_)
  refine wpAny_bind (wpAny_update' hx1 ?_)
  refine wpAny_pure ?_
  have hgd : ((h.push { cls := .type "dict", data := .dict #[] }).update x fun o => { cls := o.cls, dict := some h.objs.size, data := o.data, slots := o.slots }).get? h.objs.size = some { cls := .type "dict", data := .dict #[] } :=
    (Heap.get?_update_ne _ _ _ _ hxs.symm).trans (Heap.get?_push_at rfl rfl)
  have hnd : ((h.push { cls := .type "dict", data := .dict #[] }).update x fun o => { cls := o.cls, dict := some h.objs.size, data := o.data, slots := o.slots }).Ns h.objs.size (fun _ => none) :=
    ⟨_, #[], _, hgd, rfl, fun e he => absurd he (by simp), fun _ => rfl⟩
  show wpAny _ _ (storeInDict h.objs.size (.str name t) name v) _ _ _
  unfold storeInDict newKeyGuard
  refine wpAny_bind (wpAny_pure (wpAny_bind (wpAny_nsSet1 (Heap.Ns1.of_empty hnd) fun h' hn' hs => ?_)))
  obtain ⟨oD, esD, epD, hoD, hdD, hcD⟩ := hn'.count (Within.cons name v Within.nil)
  refine wpAny_bind (wpAny_lookBehind hoD (by rw [hdD]; exact pastItsLine_dict (Nat.le_trans hcD (by rw [List.length_cons, List.length_nil, sizeLine_eq]; omega))) ?_)
  refine wpAny_pure ?_
  refine wpAny_pure (wpAny_pure ?_)
  exact hq h' _ (fun b o hb e => (hs.2 b (Nat.ne_of_lt (Heap.lt_size e))).trans ((Heap.get?_update_ne _ _ _ _ hb).trans (Heap.get?_push_of_some _ e)))
    ((hs.2 x hxs).trans (Heap.get?_update_self _ hx1 rfl)) hn'
end
end L2

set_option Elab.async false
set_option linter.all false
set_option maxRecDepth 100000
set_option maxHeartbeats 4000000
namespace L2
open PySem PySem.Spec PyProof.Rows PySem.W Builtin Builtin.ObjectAttr
section
variable {prog : Program} {w : World} {A : Around} {E : Value → Shared → Prop} {s : Shared} {K : Frag} {x C : Addr} {ox : Obj} {od : Option Obj} {name : Str} {v : Value} {tk : Tok} {fill expr : Bool}
theorem bga_kind : builtinKind "BaseException.__getattribute__" = some .slot := by decide +kernel
theorem bga_split : splitId "BaseException.__getattribute__" = some ("BaseException", "__getattribute__") := by decide +kernel
theorem x_getBy {Q : Value → Shared → Prop} (X : K.In s.heap) (I : InstAt s.heap x ox C od) (F : XFacts K C)
    (hb : wpAny (model prog w) A.in1 («object.__getattribute__» ⟨[.ref x, .str name tk], []⟩) (fun fin s' => match fin with
      | .done (.ret v) => wpAny (model prog w) A (handedOut v) Q E s'
      | .again c => c.quiet = true ∧ codeAny (model prog w) A c (fun r s'' => match r with | .ok (.ret v) => wpAny (model prog w) A (handedOut v) Q E s'' | _ => False) s'
      | _ => False) (fun _ _ => False) s) :
    wpAny (model prog w) A (getAttrBy (.ref x) (.str name tk) fill expr) Q E s := by
  have L0 := I.type (M := model prog w)
  have L1 := looks_findIn (M := model prog w) X F.ga
  have L2 := looks_findIn (M := model prog w) X F.ng
  have FB := PySem.F.excAttr_ValueError
  unfold getAttrBy
  refine wpAny_holding (wpAny_bind (L0.here (wpAny_bind (L1.here ?_))))
  have hx2 : (Value.builtin "BaseException.__getattribute__" == Value.builtin "object.__getattribute__") = false := by decide +kernel
  dsimp only
  rw [hx2, Bool.and_false, if_neg Bool.false_ne_true]
  unfold getAttrByItsOwn
  refine wpAny_bind (L2.here (wpAny_bind (wpAny_attempt (wpAny_holding ?_))))
  unfold callGetattribute
  rw [if_neg (by cases expr <;> decide)]
  unfold boundAndCalled
  rw [FB.ga.bind]
  refine wpAny_bind (wpAny_pure (wpAny_call ?_))
  refine codeAny_call_builtin FB.ga.plain PySem.F.entry_bexc_ga (@check_slot (model prog w) _ _ _ "BaseException.__getattribute__" "BaseException" "__getattribute__" (.ref x) [.str name tk] [] _ bga_kind bga_split (x_sub X I F "BaseException" (by decide)) (PySem.F.args_bexc_ga (.ref x) (.str name tk)) ?_)
  refine wpAny_mono hb (fun fin s' z => ?_) fun _ _ z => z.elim
  rcases fin with (_ | _ | _ | _) | _ <;> first | exact z | exact z.elim | skip
  · obtain ⟨z1, z2⟩ := z
    refine ⟨z1, codeAny_mono z2 fun r s'' y => ?_⟩
    rcases r with e | (_ | _ | _ | _) <;> first | exact y | exact y.elim
end
end L2

set_option Elab.async false
set_option linter.all false
set_option maxRecDepth 100000
set_option maxHeartbeats 4000000
namespace L2
open PySem PySem.Spec PyProof.Rows PySem.W Builtin Builtin.ObjectAttr
section
variable {prog : Program} {w : World} {A : Around} {E : Value → Shared → Prop} {s : Shared} {K : Frag} {x C : Addr} {ox : Obj} {od : Option Obj} {name : Str} {v : Value} {tk : Tok} {fill expr : Bool}
theorem x_get_value {Q : Value → Shared → Prop} (X : K.In s.heap) (I : InstAt s.heap x ox C od) (F : XFacts K C) (hf : findObj K C od name = some (.value v)) (hh : handedIn v = true) (h : Q v { s with toks := s.toks + 1 }) :
    wpAny (model prog w) A (getAttr (.ref x) name expr) Q E s := by
  have L0 := I.type (M := model prog w)
  have L1 := looks_find (M := model prog w) X I hf
  unfold getAttr
  refine wpAny_bind (wpAny_mkText (x_getBy (s := { s with toks := s.toks + 1 }) X I F ?_))
  unfold «object.__getattribute__»
  refine wpAny_bind (wpAny_pure (wpAny_bind (wpAny_pure (wpAny_bind (L0.here (s := { s with toks := s.toks + 1 }) (wpAny_bind (L1.here (s := { s with toks := s.toks + 1 }) ?_)))))))
  refine wpAny_pure ?_
  show wpAny _ _ (handedOut v) _ _ _
  rw [handedOut_of hh]
  exact wpAny_pure h
theorem x_class {Q : Option Value → Shared → Prop} (X : K.In s.heap) (I : InstAt s.heap x ox C od) (F : XFacts K C) (hf : findObj K C od "__class__" = some (.bind (.builtin "getset_descriptor.__get__") (.builtin "object.__class__")))
    (hm : mroIn K C (.type "object") = some true) (h : Q (some (.ref C)) { s with toks := s.toks + 1 }) : wpAny (model prog w) A (getAttr? (.ref x) "__class__") Q E s := by
  have L0 := I.type (M := model prog w)
  have L1 := looks_find (M := model prog w) X I hf
  unfold getAttr? getAttrBy?
  refine wpAny_bind (wpAny_mkText (wpAny_bind (wpAny_attempt (x_getBy (s := { s with toks := s.toks + 1 }) X I F ?_))))
  unfold «object.__getattribute__»
  refine wpAny_bind (wpAny_pure (wpAny_bind (wpAny_pure (wpAny_bind (L0.here (s := { s with toks := s.toks + 1 }) (wpAny_bind (L1.here (s := { s with toks := s.toks + 1 }) ?_)))))))
  show wpAny _ _ (bindTo (.builtin "getset_descriptor.__get__") (.builtin "object.__class__") (.ref x) (.ref C)) _ _ _
  unfold bindTo
  dsimp only
  refine wpAny_bind (wpAny_holding (wpAny_call (class_get (s := { s with toks := s.toks + 1 }) (ox := ox) (od := od) X I hm ?_)))
  refine wpAny_pure ?_
  show wpAny _ _ (handedOut (.ref C)) _ _ _
  exact wpAny_pure (wpAny_pure h)
/-- for isinstance -/
structure XIs (K : Frag) (C : Addr) : Prop extends XFacts K C where
  ca : findIn K (.ref C) "__class__" = some (some (.builtin "object.__class__"))
  gt : specialIn K (.builtin "object.__class__") "__get__" = some (some (.builtin "getset_descriptor.__get__"))
  tk : takesIn K (.builtin "object.__class__") = some true
theorem XFacts.mro (F : XFacts K C) (T : String) (hT : veM.contains (.type T) = true) : mroIn K C (.type T) = some true := by
  obtain ⟨cd, hc, ho⟩ := any_some F.cd
  rw [Bool.and_eq_true] at ho
  unfold mroIn
  rw [hc, Option.bind_some, if_neg (by rw [ve_ne _ ho.1]; decide), ve_has T hT _ ho.1]
theorem kitx_exc (F : XIs K C) : KitX K (.ref x) (.ref C) (fun h => InstAt h x ox C od) where
  ty := fun _ _ _ I => I.type
  it := fun _ _ X _ => by
    obtain ⟨cdD, hcD, _⟩ := any_some F.cd
    unfold clsIn at hcD
    split at hcD
    · rename_i c' d' cd' sl' ho
      intro A' Q' E' s' k q
      unfold isType loadHead
      exact wpAny_bind (wpAny_loadPart (k _ _ (X _ _ ho)) (wpAny_pure q))
    · cases hcD
  ne := fun h tp dd its n sl X htp => by
    obtain ⟨cdD, hcD, _⟩ := any_some F.cd
    refine Bool.eq_false_iff.mpr fun q => ?_
    have e : C = tp := Value.ref.inj (beq_iff_eq.mp q)
    subst e
    unfold clsIn at hcD
    split at hcD
    · rename_i c' d' cd' sl' ho
      have z := (X _ _ ho).symm.trans htp
      cases z
    · cases hcD
  ca := fun X I k => by
    obtain ⟨cd, hc, _⟩ := any_some F.cd
    exact x_class X I F.toXFacts (by simp only [findObj, hc, Option.bind_some, F.ca, F.gt, F.tk]) (F.mro "object" (by decide)) k
end

/-! ### the layer's rules -/
section
variable {X : Cx} {pins : List (Addr × Obj)} {σ : St} {H : Hp} {s : Shared} {a C : Addr}
theorem Inv.twoX {h' : Heap} {tk' : Nat} {d : Addr} {f : Str} {y : V} {u : Value} {t0 : Addr} {v1 v2 v3 v4 v5 : Value} {sl : Array (Option Value)} (I : Inv X pins σ H s) (ea : H a = some (.ext (XAt a C none))) (hfd : H d = none) (ned : d ≠ a)
    (keep : ∀ b o, b ≠ a → s.heap.get? b = some o → h'.get? b = some o) (hx' : h'.get? a = some ⟨.ref C, some d, .fields #[.ref t0, v1, v2, v3, v4, v5], sl⟩) (hns : h'.Ns1 d (fun y => if y = f then some u else none)) (ry : RelV y u)
    (hd : s.heap.objs.size ≤ d := by exact Nat.le_refl _) : Inv X pins σ (upd (upd H d (.xd [(f, y)])) a (.ext (XAt a C (some d)))) { s with heap := h', toks := tk' } := by
  have neD : ∀ b o, s.heap.get? b = some o → b ≠ d := fun b o e => Nat.ne_of_lt (Nat.lt_of_lt_of_le (Heap.lt_size e) hd)
  have neT : ∀ b o, H b = some o → b ≠ d := fun b o e z => by rw [z, hfd] at e; cases e
  have neA : ∀ b o, H b = some o → o ≠ .ext (XAt a C none) → b ≠ a := fun b o e n z => by rw [z, ea] at e; exact n (Option.some.inj e).symm
  refine I.un ⟨fun b o e n _ _ => keep b o (fun z => by rw [z, ea] at n; cases n) e, fun b o e n _ _ => ⟨o.slots, keep b o (fun z => by rw [z, ea] at n; cases n) e⟩, fun b o e n _ => ?_, fun b o e _ => ?_, fun b xs e => ?_, fun b o v e => ?_, fun b ps e => ?_⟩ fun b o e => ?_
  · rw [upd_ne (fun z => by rw [z, ea] at n; cases n), upd_ne (neD b o e)]
    exact n
  · by_cases z : b = a
    · exact ⟨_, by rw [z]; exact hx'⟩
    · exact ⟨o, keep b o z e⟩
  · rw [upd_ne (neA b _ e (by intro z; cases z)), upd_ne (neT b _ e)]
    exact e
  · rw [upd_ne (neA b _ e (by intro z; cases z)), upd_ne (neT b _ e)]
    exact e
  · exact ⟨#[], by rw [upd_ne (neA b _ e (by intro z; cases z)), upd_ne (neT b _ e), e]; simp⟩
  · by_cases ba : b = a
    · subst ba
      rw [upd_same] at e
      cases e
      exact xat_ok ⟨_, _, _, _, _, _, _, hx'⟩
    · rw [upd_ne ba] at e
      by_cases bd : b = d
      · subst bd
        rw [upd_same] at e
        cases e
        refine ⟨_, hns, fun n => ?_⟩
        rw [List.lookup_cons]
        by_cases z : n = f
        · subst z
          rw [beq_self_eq_true, if_pos rfl]
          exact ry
        · rw [if_neg z, beq_eq_false_iff_ne.mpr z]
          trivial
      · rw [upd_ne bd] at e
        refine (I.hok b o e).stay (fun c v hc q => keep c v (fun z => ?_) q) (fun c q => ?_) fun c xs q => ?_
        · rcases hc with hc | hc
          · exact ba (hc ▸ z)
          · rw [z, ea] at hc
            cases hc
        · rw [upd_ne (neA c _ q (by intro z; cases z)), upd_ne (neT c _ q)]
          exact q
        · rw [upd_ne (neA c _ q (by intro z; cases z)), upd_ne (neT c _ q)]
          exact q
end
section
variable {X : Cx} {pins : List (Addr × Obj)} {σ : St} {H : Hp} {s : Shared} {a C : Addr} {dd : Option Addr}
theorem Inv.instX (I : Inv X pins σ H s) (e : H a = some (.ext (XAt a C none))) : ∃ ox, InstAt s.heap a ox C none := by
  obtain ⟨t0, v1, v2, v3, v4, v5, sl, h⟩ := I.xat e
  exact ⟨_, h, rfl, rfl, trivial⟩
theorem Inv.instD {d : Addr} {fs : List (Str × V)} (I : Inv X pins σ H s) (e : H a = some (.ext (XAt a C (some d)))) (hd : H d = some (.xd fs)) : ∃ (ox od : Obj) (mA : Str → Option Value), InstAt s.heap a ox C (some od) ∧ (∀ n, lookIn n od = some (mA n)) ∧ ∀ f, RelO (fs.lookup f) (mA f) := by
  obtain ⟨t0, v1, v2, v3, v4, v5, sl, h⟩ := I.xat e
  obtain ⟨mA, ns, rel⟩ := I.hok d _ hd
  obtain ⟨od, ho, hl⟩ := lookIn_ns ns
  exact ⟨_, od, mA, ⟨h, rfl, rfl, ho⟩, hl, rel⟩
/-- what an exception's class is asked: an exception without a dict, or with one -/
def XIn (H : Hp) (a C : Addr) : Prop := H a = some (.ext (XAt a C none)) ∨ ∃ d fs, H a = some (.ext (XAt a C (some d))) ∧ H d = some (.xd fs)
/-- isinstance(e, c) of an exception; c a class of the text, or a built-in one -/
theorem isinst_x {E : Value → Shared → Prop} {Q : Value → Shared → Prop} {c : Value} {b : Bool} {A : Around} (I : Inv X pins σ H s) (e : XIn H a C) (F : XIs X.K C) (k : kitOne X.K (.ref C) c = some b) (h : ∀ tk, Q (.bool b) { s with toks := tk }) :
    wpAny (model X.prog X.w) A (call (.builtin "isinstance") [.ref a, c]) Q E s := by
  rcases e with e | ⟨d, fs, e, hd⟩
  · obtain ⟨ox, J⟩ := I.instX e
    exact kia_one (kitx_exc F) I.kIn J k (fun z => nomatch z) h
  · obtain ⟨ox, od, mA, J, _, _⟩ := I.instD e hd
    exact kia_one (kitx_exc F) I.kIn J k (fun z => nomatch z) h
theorem call_isX : CallR X (.builtin "isinstance") (fun xs H Q => ∃ a C c b, xs = [.ref a, c] ∧ XIn H a C ∧ XIs X.K C ∧ (∀ u, RelV c u → kitOne X.K (.ref C) u = some b) ∧ Q (.bl b) H) := by
  intro pins s σ H xs us Q I r h
  obtain ⟨a, C, c, b, rfl, x, F, k, q⟩ := h
  obtain ⟨u1, u2, rfl, ru1, ru2⟩ := r.two
  cases ru1
  exact isinst_x I x F (k u2 ru2) fun tk => ⟨.bl b, H, I.tok tk, rfl, q⟩
/-- isinstance(x, c), x no exception -/
theorem call_isT : CallR X (.builtin "isinstance") (fun xs H Q => ∃ x c t b, xs = [x, c] ∧ TyOf X.K H x t ∧ (∀ u, RelV c u → kitOne X.K t u = some b) ∧ Q (.bl b) H) := by
  intro pins s σ H xs us Q I r h
  obtain ⟨x, c, t, b, rfl, ty, k, q⟩ := h
  obtain ⟨u1, u2, rfl, ru1, ru2⟩ := r.two
  exact isinst_ok I ru1 ty (k u2 ru2) fun tk => ⟨.bl b, H, I.tok tk, rfl, q⟩

variable {o e value : Expr} {f y : Str} {pos pos' yp apos : Pos} {ta tv : TE} {es : List Expr} {t : TA}
/-- e.f, e an exception with a dict -/
def tXFld (K : Frag) (ta : TE) (f : Str) : TE := fun σ H Q => ta σ H fun x H1 => ∃ a C d fs v, x = .ref a ∧ H1 a = some (.ext (XAt a C (some d))) ∧ H1 d = some (.xd fs) ∧ XFacts K C ∧ findIn K (.ref C) f = some none ∧ fs.lookup f = some v ∧ Q v H1
theorem pe_xfld (he : PE X e ta) (hb : attributeBase e f X.env (eval e X.env) = eval e X.env) : PE X (.Attribute e f pos) (tXFld X.K ta f) := by
  intro pins s σ H Q I h
  refine attr_of hb (thn (he pins s σ H _ I h) fun u s1 ⟨x, H1, I1, rx, a, C, d, fs, v, ex, ea, ed, F, n, l, q⟩ => ?_)
  subst ex
  obtain rfl : u = Value.ref a := rx
  obtain ⟨ox, od, mA, J, hl, rel⟩ := I1.instD ea ed
  have r := rel f
  rw [l] at r
  obtain ⟨u, eu, ru⟩ := r.some_of
  obtain ⟨cd, hc, ho⟩ := any_some F.cd
  rw [Bool.and_eq_true] at ho
  refine x_get_value I1.kIn J F ?_ (handed_of ru) ⟨v, H1, I1.tok _, ru, q⟩
  simp only [findObj, hc, Option.bind_some, n, W.ownOf, ho.2, if_true, hl, eu]
/-- e.f = value, e an exception without a dict -/
def sXFld (K : Frag) (ta tv : TE) (f : Str) : TS := fun D σ H => tv σ H fun y H1 => ta σ H1 fun x H2 => ∃ a C, x = .ref a ∧ H2 a = some (.ext (XAt a C none)) ∧ XFacts K C ∧ takerIn K C f = some none ∧
  ∀ d, H2 d = none → d ≠ a → D.nx σ (upd (upd H2 d (.xd [(f, y)])) a (.ext (XAt a C (some d))))
theorem ps_xfld (ha : PE X o ta) (hv : PE X value tv) (hs : swapsWith value (some (.Attribute o f pos')) pos.line X.env = pure false) : PS X (.Assign [.Attribute o f pos'] value pos) (sXFld X.K ta tv f) := by
  intro pins s σ H D I h
  refine plainObj_wpAny_Assign_Attribute (thn (hv pins s σ H _ I h) fun u s1 ⟨y, H1, I1, ry, q⟩ => thn (ha pins s1 σ H1 _ I1 q) fun ov s2 ⟨x, H2, I2, rx, a, C, ex, ea, F, tk, q2⟩ => ?_) hs
  subst ex
  obtain rfl : ov = Value.ref a := rx
  obtain ⟨t0, v1, v2, v3, v4, v5, sl, hx⟩ := I2.xat ea
  refine x_setattr I2.kIn F tk hx fun h' tk' keep hx' hns => ?_
  have lt : a < s2.heap.objs.size := Heap.lt_size hx
  have ned : s2.heap.objs.size ≠ a := Ne.symm (Nat.ne_of_lt lt)
  have hfd : H2 s2.heap.objs.size = none := I2.hok.fresh (Nat.le_refl _)
  refine ⟨σ, _, ?_, q2 s2.heap.objs.size hfd ned⟩
  -- the dict, then the exception
  refine (Inv.twoX I2 ea hfd ned keep hx' hns ry)
end
end L2

set_option Elab.async false
set_option linter.all false
set_option maxRecDepth 100000
set_option maxHeartbeats 4000000
namespace L2
open PySem PySem.Spec PyProof.Rows PySem.W Builtin Builtin.ObjectAttr
section
variable {X : Cx}
def rNeL (K : Frag) : R2 := fun x y H Q => ∃ (a b : Addr) (ns ms : List Int), x = .ref a ∧ y = .ref b ∧ SqL K H a (ns.map V.int) ∧ SqL K H b (ms.map V.int) ∧ Q (.bl (!decide (ns = ms))) H
theorem op_neL (hu : X.A.units + 64 < cLine) : OpR X (compareOp .NotEq) (rNeL X.K) := by
  intro pins s σ H x y v u Q I rx ry h
  obtain ⟨a, b, ns, ms, rfl, rfl, ha, hb, q⟩ := h
  cases rx
  cases ry
  obtain ⟨its, r1, p1, _⟩ := I.list ha
  obtain ⟨its2, r2, p2, _⟩ := I.list hb
  exact ne_intsK p1.isList (intsAre_of r1) p2.isList (intsAre_of r2) hu ⟨.bl _, H, I, rfl, q⟩

variable {e : Expr} {es : List Expr} {t : TA} {y : Str} {yp apos pos : Pos}
/-- B.__init__(self, ..), B an exception class of the text above self's without an own __init__ -/
def tBaseInit (K : Frag) (t : TA) : TE := fun σ H Q => t σ H fun vs H1 => ∃ a C r rest, vs = .ref a :: rest ∧ rest.length ≤ sizeLine ∧ H1 a = some (.ext (XAt a C none)) ∧ xclsIn K C veM "ValueError.__new__" r = true ∧ Q .non H1
theorem pe_baseInit {pl : Sem Bool} {CH : Addr} (hg : Gl X y) (hm : X.mg y = some (.ref CH)) (hs : specialIn X.K (.ref CH) "__getattribute__" = some (some (.builtin "type.__getattribute__")))
    (hr : readsIn X.K CH (.type "type") = true) (hf : findCls X.K (.ref CH) (.type "type") "__init__" = some (.val (.builtin "ValueError.__init__"))) (ha : PA X (e :: es) t)
    (hdb : (y == ("__debug__" : Str)) = false := by decide) (he : starEach (e :: es) X.env = (false, eval e X.env) :: starEach es X.env := by rfl) (hpl : (backTo pos (starEach es X.env)).any (·.1) = false := by rfl)
    (ht : eval (.Call (.Attribute (.Name y yp) "__init__" apos) (e :: es) [] pos) X.env = (do
      let ov ← eval (.Name y yp) X.env
      standAt apos.atName
      let (f, first) ← holding [ov] (getMethod ov "__init__" pl)
      callWith pos f first (backTo pos (starEach (e :: es) X.env)) (backToKw pos (keywordEach [] X.env))) := by rfl) :
    PE X (.Call (.Attribute (.Name y yp) "__init__" apos) (e :: es) [] pos) (tBaseInit X.K t) := by
  intro pins s σ H Q I h
  refine methodCall_KW (pl := pl) (ld_glob I hg hm ?_ hdb) ht
  refine method_cls I.kIn hs (cls_value I.kIn hr hf rfl ?_)
  have I1 := I.tok (s.toks + 1)
  refine PyProof.Rows.callWith_builtin1 (thn (ha pos pins _ σ H _ I1 h) fun us s1 ⟨vs, H1, I1, r1, q1⟩ => ?_) he hpl
  obtain ⟨a, C, r, rest, rfl, hz, ea, hc, q⟩ := q1
  obtain ⟨us', rfl, rr⟩ : ∃ us', us = Value.ref a :: us' ∧ Vals rest us' := by
    cases r1 with
    | cons ru rr =>
      cases ru
      exact ⟨_, rfl, rr⟩
  · obtain ⟨t0, v1, v2, v3, v4, v5, sl, hx⟩ := I1.xat ea
    have lt := Heap.lt_size hx
    obtain ⟨hp, g, dr, tk, os⟩ := s1
    refine base_init_run (xcls_of I1.kIn hc) hx ?_ (by rw [← rr.length]; exact hz)
    have I2 : Inv X pins σ H1 ⟨hp.push (xTup us'), g, dr, tk, os⟩ := I1.kept (t' := tk) fun b o e => Heap.get?_push_of_some _ e
    have hx2 : (hp.push (xTup us')).get? a = some ⟨.ref C, none, .fields #[.ref t0, v1, v2, v3, v4, v5], sl⟩ := Heap.get?_push_of_some _ hx
    have eH : upd H1 a (.ext (XAt a C none)) = H1 := by
      funext b
      unfold upd
      by_cases z : b = a
      · rw [if_pos z, z, ea]
      · rw [if_neg z]
    have hx3 := Heap.get?_update_self (h := hp.push (xTup us')) (a := a) (Obj.mapFields (·.setIfInBounds 0 (.ref hp.objs.size))) hx2 rfl
    have I3 := I2.write (x := a) (e := a) (o := .ext (XAt a C none)) (t' := tk) (h' := (hp.push (xTup us')).update a (Obj.mapFields (·.setIfInBounds 0 (.ref hp.objs.size)))) (by rw [ea]; trivial) (.inl rfl)
      (fun b u hb e => (Heap.get?_update_ne _ _ _ _ hb).trans e) ⟨_, hx3⟩ (xat_ok ⟨_, _, _, _, _, _, _, hx3⟩)
    rw [eH] at I3
    exact ⟨.non, H1, I3, rfl, q⟩

/-! ### f-strings of ints -/
abbrev TJ := Str → TE
def PJ (X : Cx) (es : List Expr) (t : TJ) : Prop :=
  ∀ (out : Str) (pins : List (Addr × Obj)) (s : Shared) (σ : St) (H : Hp) (Q : VK), Inv X pins σ H s → t out σ H Q → wpAny (model X.prog X.w) X.A (joinParts out (evalEach es X.env)) (EP X pins σ Q) X.xe s
def jNil : TJ := fun out _ H Q => out.length ≤ sizeLine ∧ Q (.str out) H
theorem pj_nil : PJ X [] jNil := fun out _ s _ H _ I h => joinParts_nil ⟨.str out, H, I.tok _, ⟨_, rfl⟩, h.2⟩ h.1
def jStr (x : Str) (t : TJ) : TJ := fun out σ H Q => (out ++ x).length ≤ sizeLine ∧ t (out ++ x) σ H Q
theorem pj_str {x : Str} {j : Nat} {p : Pos} {t : TJ} (h : PJ X es t) : PJ X (.Constant (.str x) j p :: es) (jStr x t) := by
  intro out pins s σ H Q I hw
  show wpAny _ _ (joinParts out (eval (.Constant (.str x) j p) X.env :: evalEach es X.env)) _ _ _
  exact joinParts_cons (Calls.Constant_str ⟨hw.1, h _ _ _ _ _ _ (I.tok _) hw.2⟩)
def jInt (te : TE) (t : TJ) : TJ := fun out σ H Q => te σ H fun v H1 => ∃ i, v = .int i ∧ i.natAbs.log2 < 1920 ∧ (out ++ toString i).length ≤ sizeLine ∧ t (out ++ toString i) σ H1 Q
theorem pj_int {te : TE} {p : Pos} {t : TJ} (he : PE X e te) (h : PJ X es t) : PJ X (.FormattedValue e (-1) none p :: es) (jInt te t) := by
  intro out pins s σ H Q I hw
  show wpAny _ _ (joinParts out (eval (.FormattedValue e (-1) none p) X.env :: evalEach es X.env)) _ _ _
  refine joinParts_cons (FormattedValue_plain (thn (he pins s σ H _ I hw) fun u s1 ⟨v, H1, I1, rv, i, ev, hl, hz, q⟩ => ?_))
  subst ev
  obtain ⟨tk, rfl⟩ := rv
  exact formatField_int_small hl ⟨hz, h _ _ _ _ _ _ (I1.tok _) q⟩
theorem pe_join {e1 e2 : Expr} {t : TJ} (h : PJ X (e1 :: e2 :: es) t) : PE X (.JoinedStr (e1 :: e2 :: es) pos) (fun σ H Q => t Str.empty σ H Q) := fun pins s σ H Q I hw => JoinedStr_many (h _ _ _ _ _ _ I hw)
end
end L2

set_option Elab.async false
set_option linter.all false
set_option maxRecDepth 100000
set_option maxHeartbeats 4000000
namespace L2
open PySem PySem.Spec PyProof.Rows
/-- enumerate over the list at a: a new pair each time -/
def Ite (K : PySem.W.Frag) (a : Addr) : It :=
  ⟨fun i H => ∃ xs x, SqL K H a xs ∧ xs[i]? = some x, fun i H v H' => ∃ T, H T = none ∧ v = .ref T ∧ ∀ xs, SqL K H a xs → ∃ x, xs[i]? = some x ∧ H' = upd H T (.tup [.int i, x]), fun i H => ∃ xs, SqL K H a xs ∧ xs.length ≤ i⟩
theorem turn_enum {P : Program} {w : World} {K : PySem.W.Frag} {elts : List Expr} {x1 : Nat} {pos : Pos} (a e it : Addr) (hne : e ≠ it) :
    Turn P w K (.Tuple elts x1 pos) (Ite K a) [e, it] e (fun i h => (∃ old, IsEnum h e it i old) ∧ h.IsListIter it a i) where
  mem := by simp
  obj := fun i h st b hb => by
    obtain ⟨⟨old, he⟩, o, e1, c, d⟩ := st
    rcases List.mem_cons.mp hb with z | z
    · subst z
      exact ⟨_, he, fun v q => by cases q⟩
    · have z : b = it := by simpa using z
      subst z
      exact ⟨o, e1, fun v q => by rw [d] at q; cases q⟩
  keep := fun i h h' st k => by
    obtain ⟨⟨old, he⟩, li⟩ := st
    exact ⟨⟨old, k e (by simp) _ he⟩, li.at fun o q => k it (by simp) o q⟩
  item := by
    intro X hP hw hK hc i pins s σ H E I hf st hg
    subst hP hw hK
    obtain ⟨xs, x, hq, hx⟩ := hg
    obtain ⟨its, rv, p, hz⟩ := I.list hq
    obtain ⟨u, hu, ru⟩ := rv.get hx
    obtain ⟨⟨old, he⟩, hit⟩ := st
    have fe := hf e (by simp)
    have fi := hf it (by simp)
    refine wpAny_pyNext_enum_item he hit p.isList (x := u) (by simpa using hu) hne fun h1 heo hit1 ht1 hz1 hk1 => ⟨_, rfl, ?_⟩
    refine wpAny_letOwnedTupleGo_enum heo fun h2 he2 hs2 => ?_
    have elt : e < s.heap.objs.size := Heap.lt_size he
    have ht2 : h2.get? s.heap.objs.size = some { cls := .type "tuple", data := .seq #[.int i s.toks, u] } := (hs2.2 _ (Nat.ne_of_gt elt)).trans ht1
    have hfr : H s.heap.objs.size = none := I.hok.fresh (Nat.le_refl _)
    have k2 : ∀ b o, b ≠ e → b ≠ it → s.heap.get? b = some o → h2.get? b = some o := fun b o b1 b2 q => hs2.extBut b o b1 (hk1 b o b1 b2 q)
    have neT : ∀ b o, H b = some o → b ≠ s.heap.objs.size := fun b o q z => by rw [z, hfr] at q; cases q
    have neS : ∀ b o, s.heap.get? b = some o → b ≠ s.heap.objs.size := fun b o q => Nat.ne_of_lt (Heap.lt_size q)
    have nt : ∀ b o, H b = some o → b ≠ e ∧ b ≠ it := fun b o q => ⟨(fun z => by rw [z, fe.1] at q; cases q), (fun z => by rw [z, fi.1] at q; cases q)⟩
    have nin : ∀ b, b ∉ [e, it] → b ≠ e ∧ b ≠ it := fun b hb => ⟨fun z => hb (by simp [z]), fun z => hb (by simp [z])⟩
    have I2 : Inv X pins σ (upd H s.heap.objs.size (.tup [.int i, x])) { s with heap := h2, toks := s.toks + 1 } := by
      refine I.step (g' := s.gens) (d' := s.drawn) (ch := [e, it]) (fun b hb => ?_) (fun b o _ _ hc' q _ => k2 b o (nin b hc').1 (nin b hc').2 q) (fun b o _ _ hc' q _ => ⟨o.slots, k2 b o (nin b hc').1 (nin b hc').2 q⟩)
        (fun b o _ q n => by rw [upd_ne (neS b o q)]; exact n) (fun b o hc' q => ⟨o, k2 b o (nin b hc').1 (nin b hc').2 q⟩) (fun b ys q => by rw [upd_ne (neT b _ q)]; exact q) (fun b o v q => by rw [upd_ne (neT b _ q)]; exact q)
        (fun b ps q => ⟨#[], by rw [upd_ne (neT b _ q), q]; simp⟩) (fun m hm => ?_) (fun b o q => ?_) I.bare
      · rcases List.mem_cons.mp hb with z | z
        · subst z
          exact ⟨fe.2.2.2.1, fe.2.1, fe.2.2.2.2.1, fe.2.2.2.2.2⟩
        · have z : b = it := by simpa using z
          subst z
          exact ⟨fi.2.2.2.1, fi.2.1, fi.2.2.2.2.1, fi.2.2.2.2.2⟩
      · obtain ⟨o, es, ep, ho, r⟩ := hm
        exact ⟨o, es, ep, k2 _ o (Ne.symm fe.2.1) (Ne.symm fi.2.1) ho, r⟩
      · by_cases z : b = s.heap.objs.size
        · subst z
          rw [upd_same] at q
          cases q
          exact ⟨(by show 2 ≤ sizeLine; decide), [.int i s.toks, u], .cons ⟨_, rfl⟩ (.cons ru .nil), _, ht2, rfl, _, rfl⟩
        · rw [upd_ne z] at q
          refine (I.hok b o q).stay (fun c v hc' r => k2 c v ?_ ?_ r) (fun c r => by rw [upd_ne (neT c _ r)]; exact r) fun c ys r => by rw [upd_ne (neT c _ r)]; exact r
          · rcases hc' with y | y
            · rw [y]; exact (nt b o q).1
            · exact (nt c _ y).1
          · rcases hc' with y | y
            · rw [y]; exact (nt b o q).2
            · exact (nt c _ y).2
    refine ⟨.ref s.heap.objs.size, _, I2, rfl, ⟨s.heap.objs.size, hfr, rfl, fun ys hy => ⟨x, by rw [I.list_inj hy hq]; exact hx, rfl⟩⟩, ⟨⟨_, he2⟩, ?_⟩, fun b hb => ?_⟩
    · exact hit1.at fun o q => hs2.extBut it o (Ne.symm hne) q
    · rcases List.mem_cons.mp hb with z | z
      · subst z
        rw [upd_ne (Nat.ne_of_lt elt)]
        exact fe.1
      · have z : b = it := by simpa using z
        subst z
        obtain ⟨o, q, _⟩ := id hit
        rw [upd_ne (Nat.ne_of_lt (Heap.lt_size q))]
        exact fi.1
  done := by
    intro X hP hw hK hc i pins s σ H E I hf st hg
    subst hP hw hK
    obtain ⟨xs, hq, hx⟩ := hg
    obtain ⟨its, rv, p, hz⟩ := I.list hq
    obtain ⟨⟨old, he⟩, hit⟩ := st
    obtain ⟨f0, f1, f2, f3, f4, f5⟩ := hf it (by simp)
    have hl := rv.length
    exact wpAny_pyNext_enum_end (I.ok.hd hc) he hit p.isList (by simp; omega) fun h' eb => ⟨rfl, I.turned (t' := s.toks) (fun b o hb q => eb b o hb q) f0 f1 f3 f4 f5⟩
  self := fun _ _ _ _ _ st h => by
    obtain ⟨⟨old, he⟩, _⟩ := st
    exact wpAny_pyIter_enum he h
section
variable {X : Cx}
def iEnum (K : PySem.W.Frag) (ta : TA) : TI := fun σ H R => ta σ H fun vs H1 => ∃ a, vs = [.ref a] ∧ (∃ xs, SqL K H1 a xs) ∧ R (Ite K a) H1
theorem pi_enum {elts : List Expr} {x1 : Nat} {tp p pos : Pos} {e : Expr} {ta : TA} (hg : Gl X "enumerate") (hm : X.mg "enumerate" = none) (ha : PA X [e] ta) (hs : starEach [e] X.env = [(false, eval e X.env)] := by rfl) :
    PI X (.Tuple elts x1 tp) (.Call (.Name "enumerate" p) [e] [] pos) (iEnum X.K ta) := by
  intro pins s σ H R I h
  refine Call_ (ld_blt I hg hm boot_enumerate (PyProof.Rows.callWith_type1 (thn (ha pos pins s σ H _ I h) fun us s1 ⟨vs, H1, I1, r1, q1⟩ => ?_) hs rfl))
  obtain ⟨a, ev, ⟨xs, hq⟩, q⟩ := q1
  subst ev
  obtain ⟨u, rfl, ru⟩ := r1.one
  cases ru
  obtain ⟨its, rv, pl, hz⟩ := I1.list hq
  refine call_enumerate_list pl.isList fun h' he hit hsz hk => ?_
  refine wpAny_pyIter_enum he ?_
  have I2 : Inv X pins σ H1 { s1 with heap := h' } := I1.kept (t' := s1.toks) hk
  refine ⟨s1.heap.objs.size + 1, [s1.heap.objs.size + 1, s1.heap.objs.size], _, _, H1, rfl, I2, turn_enum a _ _ (Nat.succ_ne_self _), ⟨⟨_, he⟩, hit⟩, fun b hb => ?_, q⟩
  have hb : s1.heap.objs.size ≤ b := by
    rcases List.mem_cons.mp hb with z | z
    · rw [z]; exact Nat.le_succ _
    · have z : b = s1.heap.objs.size := by simpa using z
      rw [z]
      exact Nat.le_refl _
  exact I1.fpOk hb (I1.hok.fresh hb)
/-- over a list that the body leaves as it is -/
theorem for_enum {K : PySem.W.Frag} {a : Addr} {xs : List V} {g : TG} {tb : TS} {D : Ends} {σ : St} {H : Hp} (Pv : Nat → St → Hp → Prop) (h0 : Pv 0 σ H) (hl : ∀ i σ H, i ≤ xs.length → Pv i σ H → SqL K H a xs)
    (hs : ∀ (i : Nat) x σ H T, xs[i]? = some x → Pv i σ H → H T = none → g (.ref T) σ (upd H T (.tup [.int i, x])) fun σ2 H2 => tb { D with nx := Pv (i + 1), ct := Pv (i + 1), bk := D.nx } σ2 H2) (hd : ∀ σ H, Pv xs.length σ H → D.nx σ H) :
    ∃ W : Nat → Nat → St → Hp → Prop, (∃ m, W 0 m σ H) ∧ ∀ i m σ H, W i m σ H →
      ((Ite K a).stop i H ∧ D.nx σ H) ∨ ((Ite K a).go i H ∧ ∃ N : St → Hp → Prop, (∀ σ' H', N σ' H' → ∃ m', m' < m ∧ W (i + 1) m' σ' H') ∧ ∀ x H', (Ite K a).yld i H x H' → g x σ H' fun σ2 H2 => tb { D with nx := N, ct := N, bk := D.nx } σ2 H2) := by
  refine ⟨fun i m σ H => m = xs.length - i ∧ i ≤ xs.length ∧ Pv i σ H, ⟨xs.length, by simp, Nat.zero_le _, h0⟩, ?_⟩
  rintro i m σ H ⟨rfl, hi, p⟩
  have q := hl i σ H hi p
  by_cases hlt : i < xs.length
  · refine .inr ⟨⟨xs, xs[i], q, by simp [hlt]⟩, Pv (i + 1), fun σ' H' p' => ⟨xs.length - (i + 1), by omega, rfl, hlt, p'⟩, fun v H' y => ?_⟩
    obtain ⟨T, hT, rfl, y⟩ := y
    obtain ⟨x, hx, rfl⟩ := y xs q
    exact hs i x σ _ T hx p hT
  · have e : i = xs.length := by omega
    subst e
    exact .inl ⟨⟨xs, q, Nat.le_refl _⟩, hd σ H p⟩
end
end L2

set_option Elab.async false
set_option linter.all false
set_option maxRecDepth 100000
set_option maxHeartbeats 4000000
namespace L2
open PySem PySem.Spec PyProof.Rows PySem.SeqAt PySem.W
mutual
/-- a value that is data through and through -/
inductive RdD (K : PySem.W.Frag) (H : Hp) : V → PyData → Prop
  | non : RdD K H .non .none
  | bl (b : Bool) : RdD K H (.bl b) (.bool b)
  | int (i : Int) : RdD K H (.int i) (.int i)
  | str (x : Str) : RdD K H (.str x) (.str x)
  | lst {a : Addr} {xs : List V} {ds : List PyData} : SqL K H a xs → RdDs K H xs ds → RdD K H (.ref a) (.list ds)
  | tup {a : Addr} {xs : List V} {ds : List PyData} : SqT K H a xs → RdDs K H xs ds → RdD K H (.ref a) (.tuple ds)
inductive RdDs (K : PySem.W.Frag) (H : Hp) : List V → List PyData → Prop
  | nil : RdDs K H [] []
  | cons {x : V} {d : PyData} {xs : List V} {ds : List PyData} : RdD K H x d → RdDs K H xs ds → RdDs K H (x :: xs) (d :: ds)
end
section
variable {X : Cx} {pins : List (Addr × Obj)} {σ : St} {H : Hp} {s : Shared}
mutual
theorem Inv.reads (I : Inv X pins σ H s) : ∀ {v : V} {d : PyData} {u : Value}, RdD X.K H v d → RelV v u → ∃ as, Reads s.heap u d as
  | _, _, _, .non, r => by cases r; exact ⟨_, .none⟩
  | _, _, _, .bl b, r => by cases r; exact ⟨_, .bool b⟩
  | _, _, _, .int i, r => by obtain ⟨t, rfl⟩ := r; exact ⟨_, .int i t⟩
  | _, _, _, .str x, r => by obtain ⟨t, rfl⟩ := r; exact ⟨_, .str x t⟩
  | _, _, _, .lst hq hs, r => by
    cases r
    obtain ⟨its, rv, p, _⟩ := I.list hq
    obtain ⟨as, ra⟩ := I.readsAll hs rv
    obtain ⟨o, ho, hc, n, hd⟩ := p.isList
    exact ⟨_, .list ho hc hd (by simpa using ra)⟩
  | _, _, _, .tup hq hs, r => by
    cases r
    obtain ⟨its, rv, p, _⟩ := I.tuple hq
    obtain ⟨as, ra⟩ := I.readsAll hs rv
    obtain ⟨o, ho, hc, n, hd⟩ := (show s.heap.IsTuple _ its.toArray from p)
    exact ⟨_, .tuple ho hc hd (by simpa using ra)⟩
theorem Inv.readsAll (I : Inv X pins σ H s) : ∀ {vs : List V} {ds : List PyData} {us : List Value}, RdDs X.K H vs ds → Vals vs us → ∃ as, ReadsAll s.heap us ds as
  | _, _, _, .nil, r => by cases r; exact ⟨_, .nil⟩
  | _, _, _, .cons h hs, r => by
    cases r with
    | cons r1 r2 =>
      obtain ⟨as, ra⟩ := I.reads h r1
      obtain ⟨bs, rb⟩ := I.readsAll hs r2
      exact ⟨_, .cons ra rb⟩
end
/-- == and != of data, however deep (to 64) -/
def rEqD (K : PySem.W.Frag) (neg : Bool) : R2 := fun x y H Q => ∃ d e, RdD K H x d ∧ RdD K H y e ∧ shaped d = true ∧ shaped e = true ∧ noMix d e = true ∧ Q (.bl (if neg then !same d e else same d e)) H
theorem op_eqD (hu : X.A.units + 64 < cLine) : OpR X (compareOp .Eq) (rEqD X.K false) := by
  intro pins s σ H x y v u Q I rx ry h
  obtain ⟨d, e, h1, h2, s1, s2, nm, q⟩ := h
  obtain ⟨as, ra⟩ := I.reads h1 rx
  obtain ⟨bs, rb⟩ := I.reads h2 ry
  exact eq_dataH_same ra rb s1 s2 hu nm ⟨.bl _, H, I, rfl, q⟩
theorem op_neD (hu : X.A.units + 64 < cLine) : OpR X (compareOp .NotEq) (rEqD X.K true) := by
  intro pins s σ H x y v u Q I rx ry h
  obtain ⟨d, e, h1, h2, s1, s2, nm, q⟩ := h
  obtain ⟨as, ra⟩ := I.reads h1 rx
  obtain ⟨bs, rb⟩ := I.reads h2 ry
  exact ne_dataH_same ra rb s1 s2 hu nm ⟨.bl _, H, I, rfl, q⟩
end
end L2

set_option Elab.async false
set_option linter.all false
set_option maxRecDepth 100000
set_option maxHeartbeats 4000000
namespace L2
open PySem PySem.Spec PyProof.Rows
theorem vals_of_ints : ∀ {us : List Value} {ns : List Int}, IntsAre us ns → Vals (ns.map V.int) us
  | _, _, .nil => .nil
  | _, _, .cons k t r => .cons ⟨t, rfl⟩ (vals_of_ints r)
section
variable {X : Cx}
/-- sorted of a list of fewer than 64 ints -/
theorem call_sortedI : CallR X (.builtin "sorted") (fun xs H Q => ∃ (a : Addr) (ns : List Int), xs = [.ref a] ∧ SqL X.K H a (ns.map V.int) ∧ ns.length < 64 ∧ ∀ (ms : List Int) (p : Addr), ms.Perm ns → ms.Pairwise (· ≤ ·) → H p = none → Q (.ref p) (upd H p (.lst (ms.map V.int)))) := by
  intro pins s σ H xs us Q I r h
  obtain ⟨a, ns, rfl, hq, hl, q⟩ := h
  obtain ⟨u, rfl, ru⟩ := r.one
  cases ru
  obtain ⟨its, rv, p, _⟩ := I.list hq
  have hlen : its.length = ns.length := by rw [← rv.length, List.length_map]
  refine sorted_ints p.isList (intsAre_of rv) (by omega) fun out ms h1 h2 h3 => ?_
  obtain ⟨e, he⟩ := sortedAll_at s.heap its out
  have new : s.heap.get? (s.heap.objs.size + 1) = none := Heap.get?_none_of_le (Nat.le_succ _)
  have rm := vals_of_ints h1
  have ml : ms.length = ns.length := h2.length_eq
  have I2 := I.laidN (a := s.heap.objs.size + 1) (o := .lst (ms.map V.int)) (t' := s.toks) (h' := sortedAll s.heap its out) (fun b o hb => sortedAll_old hb) new
    ⟨by rw [List.length_map, ml]; exact Nat.le_of_lt (Nat.lt_of_lt_of_le hl (by decide)), out.toList, e, rm, by simpa using he⟩
  exact ⟨.ref (s.heap.objs.size + 1), _, I2, rfl, q ms _ h2 h3 (I.free_of new)⟩
end
end L2

set_option Elab.async false
set_option linter.all false
set_option maxRecDepth 100000
set_option maxHeartbeats 4000000
namespace SM
open PySem PySem.SetTable

/-! ### the order in which a table's slots are looked at -/
/-- the run's first slot and what still disturbs, run by run -/
def run (M : Nat) (b : Nat) : Nat → Nat × Nat
  | 0 => (b % M, b)
  | k + 1 => (((run M b k).1 * 5 + 1 + (run M b k).2 / 32) % M, (run M b k).2 / 32)
theorem run_perturb (M b : Nat) : ∀ k, (run M b k).2 = b / 32 ^ k
  | 0 => by simp [run]
  | k + 1 => by
    show (run M b k).2 / 32 = _
    rw [run_perturb M b k, Nat.div_div_eq_div_mul, Nat.pow_succ]
theorem run_lt {M b : Nat} (hM : 0 < M) : ∀ k, (run M b k).1 < M
  | 0 => Nat.mod_lt _ hM
  | k + 1 => Nat.mod_lt _ hM
/-- five times and one -/
def lcg (M i : Nat) : Nat := (i * 5 + 1) % M
def orb (M : Nat) : Nat → Nat → Nat
  | i, 0 => i
  | i, r + 1 => lcg M (orb M i r)
theorem orb_add (M i a : Nat) : ∀ b, orb M i (a + b) = orb M (orb M i a) b
  | 0 => rfl
  | b + 1 => by
    show lcg M (orb M i (a + b)) = lcg M (orb M (orb M i a) b)
    rw [orb_add M i a b]
/-- all of an orbit, from nought on, as a list -/
def orbL (M : Nat) : Nat → Nat → List Nat
  | _, 0 => []
  | i, r + 1 => i :: orbL M (lcg M i) r
theorem orb_shift (M i : Nat) : ∀ r, orb M (lcg M i) r = orb M i (r + 1)
  | 0 => rfl
  | r + 1 => by
    show lcg M (orb M (lcg M i) r) = lcg M (orb M i (r + 1))
    rw [orb_shift M i r]
theorem orbL_get (M : Nat) : ∀ (n i j : Nat), j ∈ orbL M i n → ∃ r, r < n ∧ orb M i r = j
  | 0, _, _, h => by cases h
  | n + 1, i, j, h => by
    rcases List.mem_cons.mp h with e | h
    · exact ⟨0, Nat.zero_lt_succ _, e.symm⟩
    · obtain ⟨r, hr, e⟩ := orbL_get M n _ j h
      exact ⟨r + 1, Nat.succ_lt_succ hr, by rw [← orb_shift]; exact e⟩
def full (M : Nat) : Bool := (List.range M).all (fun j => (orbL M 0 M).contains j) && decide (orb M 0 M = 0)
theorem full_8 : full 8 = true := by decide +kernel
theorem full_32 : full 32 = true := by decide +kernel
theorem full_128 : full 128 = true := by decide +kernel
theorem full_512 : full 512 = true := by decide +kernel
theorem full_from {M : Nat} (h : full M = true) {j : Nat} (hj : j < M) : ∃ r, r < M ∧ orb M 0 r = j := by
  unfold full at h
  rw [Bool.and_eq_true] at h
  have z := List.all_eq_true.mp h.1 j (List.mem_range.mpr hj)
  exact orbL_get M M 0 j (by simpa using z)
theorem full_any {M : Nat} (h : full M = true) {i j : Nat} (hi : i < M) (hj : j < M) : ∃ r, r < M ∧ orb M i r = j := by
  obtain ⟨a, ha, ea⟩ := full_from h hi
  obtain ⟨b, hb, eb⟩ := full_from h hj
  have back : orb M 0 M = 0 := by
    unfold full at h
    rw [Bool.and_eq_true] at h
    exact of_decide_eq_true h.2
  by_cases q : a ≤ b
  · refine ⟨b - a, by omega, ?_⟩
    rw [← ea, ← orb_add, show a + (b - a) = b by omega, eb]
  · refine ⟨M - a + b, by omega, ?_⟩
    rw [← ea, ← orb_add, show a + (M - a + b) = M + b by omega, orb_add, back, eb]
theorem run_orb {M b k : Nat} (hb : b < 2 ^ 64) (hk : 12 ≤ k) : ∀ r, (run M b (k + r)).1 = orb M (run M b k).1 r
  | 0 => rfl
  | r + 1 => by
    show ((run M b (k + r)).1 * 5 + 1 + (run M b (k + r)).2 / 32) % M = lcg M (orb M (run M b k).1 r)
    rw [run_orb hb hk r, run_perturb]
    have e : b / 32 ^ (k + r) / 32 = 0 := by
      rw [Nat.div_div_eq_div_mul, ← Nat.pow_succ]
      refine Nat.div_eq_of_lt (Nat.lt_of_lt_of_le hb ?_)
      have h1 : (32 : Nat) ^ 13 ≤ 32 ^ (k + r).succ := Nat.pow_le_pow_right (by decide) (by omega)
      exact Nat.le_trans (by decide) h1
    rw [e, Nat.add_zero]
    rfl

/-! ### probes: one step after another -/
def adv (m : Nat) (p : Probe) : Probe :=
  if p.more > 0 then { p with j := p.j + 1, more := p.more - 1 } else
  { p with j := (leap m p.i p.perturb).1, more := runEnd m (leap m p.i p.perturb).1 - (leap m p.i p.perturb).1, i := (leap m p.i p.perturb).1, perturb := (leap m p.i p.perturb).2 }
theorem adv_eq (t : SetTable) (p : Probe) : t.advance p = adv t.mask p := rfl
def beg (m : Nat) (h : Int) : Probe := { j := bits h % (m + 1), more := runEnd m (bits h % (m + 1)) - bits h % (m + 1), i := bits h % (m + 1), perturb := bits h, dummy := none }
theorem beg_eq (t : SetTable) (h : Int) : t.probeStart h = beg t.mask h := rfl
def pr (m : Nat) (h : Int) : Nat → Probe
  | 0 => beg m h
  | n + 1 => adv m (pr m h n)
theorem bits_lt (h : Int) : bits h < 2 ^ 64 := by
  unfold bits
  have := Int.emod_lt_of_pos h (show (0 : Int) < 2 ^ 64 by decide)
  have h0 := Int.emod_nonneg h (show (2 ^ 64 : Int) ≠ 0 by decide)
  omega
theorem pr_dummy (m : Nat) (h : Int) : ∀ n, (pr m h n).dummy = none
  | 0 => rfl
  | n + 1 => by
    show (adv m (pr m h n)).dummy = none
    unfold adv
    split <;> exact pr_dummy m h n
/-- at the head of a run -/
def atRun (m : Nat) (h : Int) (n k : Nat) : Prop := pr m h n = { j := (run (m + 1) (bits h) k).1, more := runEnd m (run (m + 1) (bits h) k).1 - (run (m + 1) (bits h) k).1, i := (run (m + 1) (bits h) k).1, perturb := (run (m + 1) (bits h) k).2, dummy := none }
theorem in_run {m : Nat} {h : Int} {n k : Nat} (a : atRun m h n k) : ∀ r, r ≤ runEnd m (run (m + 1) (bits h) k).1 - (run (m + 1) (bits h) k).1 →
    pr m h (n + r) = { j := (run (m + 1) (bits h) k).1 + r, more := runEnd m (run (m + 1) (bits h) k).1 - (run (m + 1) (bits h) k).1 - r, i := (run (m + 1) (bits h) k).1, perturb := (run (m + 1) (bits h) k).2, dummy := none }
  | 0, _ => a
  | r + 1, hr => by
    show adv m (pr m h (n + r)) = _
    rw [in_run a r (by omega)]
    unfold adv
    rw [if_pos (show runEnd m (run (m + 1) (bits h) k).1 - (run (m + 1) (bits h) k).1 - r > 0 by omega)]
    congr 1
theorem runEnd_le (m i : Nat) : runEnd m i - i ≤ 9 := by
  unfold runEnd
  split <;> omega
theorem next_run {m : Nat} {h : Int} {n k : Nat} (a : atRun m h n k) : ∃ n', n' ≤ n + 10 ∧ atRun m h n' (k + 1) := by
  have z := in_run a _ (Nat.le_refl _)
  refine ⟨n + (runEnd m (run (m + 1) (bits h) k).1 - (run (m + 1) (bits h) k).1) + 1, by have := runEnd_le m (run (m + 1) (bits h) k).1; omega, ?_⟩
  show adv m (pr m h (n + (runEnd m (run (m + 1) (bits h) k).1 - (run (m + 1) (bits h) k).1))) = _
  rw [z]
  unfold adv
  rw [if_neg (show ¬ (runEnd m (run (m + 1) (bits h) k).1 - (run (m + 1) (bits h) k).1 - (runEnd m (run (m + 1) (bits h) k).1 - (run (m + 1) (bits h) k).1) > 0) by omega)]
  rfl
theorem run_at (m : Nat) (h : Int) : ∀ k, ∃ n, n ≤ 10 * k ∧ atRun m h n k
  | 0 => ⟨0, Nat.zero_le _, rfl⟩
  | k + 1 => by
    obtain ⟨n, hn, a⟩ := run_at m h k
    obtain ⟨n', hn', a'⟩ := next_run a
    exact ⟨n', by omega, a'⟩
/-- every slot is looked at, in time -/
theorem covers {m : Nat} (hf : full (m + 1) = true) (h : Int) {j : Nat} (hj : j ≤ m) : ∃ n, n < 10 * turns m ∧ (pr m h n).j = j := by
  obtain ⟨r, hr, e⟩ := full_any hf (run_lt (b := bits h) (Nat.zero_lt_succ m) 12) (Nat.lt_succ_of_le hj)
  obtain ⟨n, hn, a⟩ := run_at m h (12 + r)
  refine ⟨n, ?_, ?_⟩
  · unfold turns
    omega
  · rw [a]
    show (run (m + 1) (bits h) (12 + r)).1 = j
    rw [run_orb (bits_lt h) (Nat.le_refl _), e]
end SM

set_option Elab.async false
set_option linter.all false
set_option maxRecDepth 100000
set_option maxHeartbeats 4000000
namespace SM
open PySem PySem.SetTable

/-! ### rising places -/
def Rise (xs : Array Nat) : Prop := ∀ (i k x y : Nat), i < k → xs[i]? = some x → xs[k]? = some y → x < y
theorem Rise.inj {xs : Array Nat} (h : Rise xs) {i k x : Nat} (a : xs[i]? = some x) (b : xs[k]? = some x) : i = k := by
  rcases Nat.lt_trichotomy i k with z | z | z
  · exact absurd (h i k x x z a b) (Nat.lt_irrefl _)
  · exact z
  · exact absurd (h k i x x z b a) (Nat.lt_irrefl _)
theorem get_lt {α : Type} {xs : Array α} {i : Nat} {x : α} (h : xs[i]? = some x) : i < xs.size := (Array.getElem?_eq_some_iff.mp h).1
theorem below_go {xs : Array Nat} (hr : Rise xs) (j : Nat) : ∀ (fuel lo hi : Nat), lo ≤ hi → hi ≤ xs.size → hi - lo ≤ fuel → (∀ i x, xs[i]? = some x → i < lo → x < j) → (∀ i x, xs[i]? = some x → hi ≤ i → j ≤ x) →
    below.go xs j fuel lo hi ≤ xs.size ∧ ∀ i x, xs[i]? = some x → (i < below.go xs j fuel lo hi ↔ x < j)
  | 0, lo, hi, h1, h2, h3, h4, h5 => by
    have e : lo = hi := by omega
    subst e
    unfold below.go
    refine ⟨h2, fun i x hx => ⟨h4 i x hx, fun lt => ?_⟩⟩
    by_cases q : i < lo
    · exact q
    · exact absurd lt (Nat.not_lt.mpr (h5 i x hx (Nat.not_lt.mp q)))
  | fuel + 1, lo, hi, h1, h2, h3, h4, h5 => by
    unfold below.go
    by_cases q : lo < hi
    · rw [if_pos q]
      have hm : (lo + hi) / 2 < xs.size := by omega
      have gm : xs[(lo + hi) / 2]? = some xs[(lo + hi) / 2] := Array.getElem?_eq_getElem hm
      have gd : xs.getD ((lo + hi) / 2) j = xs[(lo + hi) / 2] := by rw [Array.getD_eq_getD_getElem?, gm]; rfl
      dsimp only
      rw [gd]
      by_cases c : xs[(lo + hi) / 2] < j
      · rw [if_pos c]
        refine below_go hr j fuel _ hi (by omega) h2 (by omega) (fun i x hx hi' => ?_) h5
        by_cases e : i = (lo + hi) / 2
        · subst e
          rw [gm] at hx
          cases hx
          exact c
        · exact Nat.lt_trans (hr i _ x _ (by omega) hx gm) c
      · rw [if_neg c]
        refine below_go hr j fuel lo _ (by omega) (by omega) (by omega) h4 fun i x hx hi' => ?_
        by_cases e : i = (lo + hi) / 2
        · subst e
          rw [gm] at hx
          cases hx
          exact Nat.not_lt.mp c
        · exact Nat.le_trans (Nat.not_lt.mp c) (Nat.le_of_lt (hr _ i _ x (by omega) gm hx))
    · rw [if_neg q]
      have e : lo = hi := by omega
      subst e
      refine ⟨h2, fun i x hx => ⟨h4 i x hx, fun lt => ?_⟩⟩
      by_cases q : i < lo
      · exact q
      · exact absurd lt (Nat.not_lt.mpr (h5 i x hx (Nat.not_lt.mp q)))
theorem below_spec {xs : Array Nat} (hr : Rise xs) (j : Nat) : below xs j ≤ xs.size ∧ ∀ i x, xs[i]? = some x → (i < below xs j ↔ x < j) :=
  below_go hr j xs.size 0 xs.size (Nat.zero_le _) (Nat.le_refl _) (by omega) (fun _ _ _ h => absurd h (Nat.not_lt_zero _)) fun i x hx h => absurd (get_lt hx) (Nat.not_lt.mpr h)
theorem below_at {xs : Array Nat} (hr : Rise xs) {i j : Nat} (h : xs[i]? = some j) : below xs j = i := by
  obtain ⟨h1, h2⟩ := below_spec hr j
  have a : ¬ i < below xs j := fun q => Nat.lt_irrefl _ ((h2 i j h).mp q)
  by_cases e : below xs j = i
  · exact e
  · have lt : below xs j < i := by omega
    have hb : below xs j < xs.size := Nat.lt_trans lt (get_lt h)
    have gb : xs[below xs j]? = some xs[below xs j] := Array.getElem?_eq_getElem hb
    have := hr _ _ _ _ lt gb h
    exact absurd ((h2 _ _ gb).mpr this) (Nat.lt_irrefl _)
theorem slot_live {t : SetTable} (hr : Rise t.place) {i j : Nat} (h : t.place[i]? = some j) : t.slot j = .live i := by
  unfold slot
  dsimp only
  rw [below_at hr h, h, if_pos (by simp)]
theorem slot_empty {t : SetTable} (hr : Rise t.place) (hd : t.dummies = #[]) {j : Nat} (h : ∀ i : Nat, t.place[i]? ≠ some j) : t.slot j = .empty := by
  unfold slot
  dsimp only
  rw [if_neg (by simpa using h _)]
  have : has t.dummies j = false := by
    unfold has
    rw [hd]
    simp
  rw [this]
  rfl
/-- a slot is free -/
theorem free_slot {xs : Array Nat} (hr : Rise xs) {m : Nat} (hs : xs.size ≤ m) : ∃ j, j ≤ m ∧ ∀ i : Nat, xs[i]? ≠ some j := by
  refine Classical.byContradiction fun no => ?_
  have all : ∀ j, j ≤ m → ∃ i : Nat, xs[i]? = some j := fun j hj => Classical.byContradiction fun q => no ⟨j, hj, fun i e => q ⟨i, e⟩⟩
  have ge : ∀ j, j ≤ m → ∀ i : Nat, xs[i]? = some j → j ≤ i := by
    intro j
    induction j with
    | zero => intro _ i _; exact Nat.zero_le _
    | succ j ih =>
      intro hj i hi
      obtain ⟨i0, h0⟩ := all j (by omega)
      have l0 := ih (by omega) i0 h0
      rcases Nat.lt_trichotomy i0 i with z | z | z
      · omega
      · subst z
        rw [h0] at hi
        have := Option.some.inj hi
        omega
      · have := hr i i0 _ _ z hi h0
        omega
  obtain ⟨i, hi⟩ := all m (Nat.le_refl _)
  have h1 := ge m (Nat.le_refl _) i hi
  have h2 := get_lt hi
  omega
theorem ins_get {α : Type} {xs : Array α} {p : Nat} (hp : p ≤ xs.size) (x : α) (i : Nat) : (insertAt xs p x)[i]? = if i < p then xs[i]? else if i = p then some x else xs[i - 1]? := by
  unfold insertAt
  have s1 : (xs.extract 0 p).size = p := by rw [Array.size_extract]; omega
  have s2 : ((xs.extract 0 p).push x).size = p + 1 := by rw [Array.size_push, s1]
  rw [Array.getElem?_append, s2]
  by_cases h1 : i < p
  · rw [if_pos (by omega), if_pos h1, Array.getElem?_push, s1, if_neg (by omega), Array.getElem?_extract, if_pos (by omega), Nat.zero_add]
  · rw [if_neg h1]
    by_cases h2 : i = p
    · subst h2
      rw [if_pos (by omega), if_pos rfl, Array.getElem?_push, s1, if_pos rfl]
    · rw [if_neg (by omega), if_neg h2, Array.getElem?_extract]
      by_cases h3 : i - (p + 1) < xs.size - p
      · rw [if_pos (by omega), show p + (i - (p + 1)) = i - 1 by omega]
      · rw [if_neg (by omega)]
        exact (Array.getElem?_eq_none (by omega)).symm
theorem ins_size {α : Type} {xs : Array α} {p : Nat} (hp : p ≤ xs.size) (x : α) : (insertAt xs p x).size = xs.size + 1 := by
  unfold insertAt
  rw [Array.size_append, Array.size_push, Array.size_extract, Array.size_extract]
  omega
end SM

set_option Elab.async false
set_option linter.all false
set_option maxRecDepth 100000
set_option maxHeartbeats 4000000
namespace SM
open PySem PySem.SetTable
abbrev Ent := Int × Value
/-- some place of the table is j -/
def In (t : SetTable) (j : Nat) : Prop := ∃ i : Nat, t.place[i]? = some j
/-- the slots ahead of the m-th are all taken -/
def Way (t : SetTable) (h : Int) (m : Nat) : Prop := ∀ m', m' < m → In t (pr t.mask h m').j
structure TB (t : SetTable) (es : Array Ent) : Prop where
  sz : t.place.size = es.size
  ri : Rise t.place
  le : ∀ i j : Nat, t.place[i]? = some j → j ≤ t.mask
  du : t.dummies = #[]
  fu : full (t.mask + 1) = true
  od : t.mask % 2 = 1
  nf : t.place.size ≤ t.mask
  rc : ∀ (i j : Nat) (e : Ent), t.place[i]? = some j → es[i]? = some e → ∃ m, m < 10 * turns t.mask ∧ (pr t.mask e.1 m).j = j ∧ Way t e.1 m
section
variable {t : SetTable} {es : Array Ent}
theorem TB.fits (T : TB t es) : t.fits es.size = true := by
  unfold SetTable.fits fill
  rw [T.sz, T.du]
  have := T.nf
  rw [T.sz] at this
  simpa using this
theorem TB.noGave (T : TB t es) : t.gaveWay = false := by
  unfold SetTable.gaveWay
  rw [T.od]
  rfl
/-- where a search ends at last -/
theorem TB.first (T : TB t es) (h : Int) : ∃ N, N < 10 * turns t.mask ∧ ¬ In t (pr t.mask h N).j ∧ Way t h N := by
  obtain ⟨j, hj, hn⟩ := free_slot T.ri T.nf
  obtain ⟨n, hlt, e⟩ := covers T.fu h hj
  have key : ∀ n, ¬ In t (pr t.mask h n).j → ∃ N, N ≤ n ∧ ¬ In t (pr t.mask h N).j ∧ Way t h N := by
    intro n
    induction n using Nat.strongRecOn with
    | ind n ih =>
      intro hq
      by_cases w : Way t h n
      · exact ⟨n, Nat.le_refl _, hq, w⟩
      · obtain ⟨m', q⟩ := Classical.not_forall.mp w
        obtain ⟨lt, q⟩ := Classical.not_imp.mp q
        obtain ⟨N, a, b, c⟩ := ih m' lt q
        exact ⟨N, by omega, b, c⟩
  obtain ⟨N, a, b, c⟩ := key n (by rw [e]; rintro ⟨i, hi⟩; exact hn i hi)
  exact ⟨N, by omega, b, c⟩
theorem go_spec (hr : Rise t.place) (hd : t.dummies = #[]) {hashAt : Nat → Int} {h : Int} {N : Nat} (hN : ¬ In t (pr t.mask h N).j) (hw : Way t h N) : ∀ (fuel n : Nat), n ≤ N → N - n < fuel →
    (probe.go t hashAt h fuel (pr t.mask h n) = some (.empty (pr t.mask h N).j none) ∧ ∀ m i : Nat, n ≤ m → m < N → t.place[i]? = some (pr t.mask h m).j → hashAt i ≠ h) ∨
    (∃ m i : Nat, n ≤ m ∧ m < N ∧ t.place[i]? = some (pr t.mask h m).j ∧ hashAt i = h ∧ probe.go t hashAt h fuel (pr t.mask h n) = some (.candidate (pr t.mask h m).j i (pr t.mask h (m + 1))) ∧ ∀ m' i' : Nat, n ≤ m' → m' < m → t.place[i']? = some (pr t.mask h m').j → hashAt i' ≠ h)
  | 0, n, h1, h2 => absurd h2 (Nat.not_lt_zero _)
  | fuel + 1, n, h1, h2 => by
    unfold probe.go
    by_cases e : n = N
    · subst e
      rw [slot_empty hr hd (fun i q => hN ⟨i, q⟩)]
      refine .inl ⟨?_, fun m i a b => by omega⟩
      show some (Met.empty (pr t.mask h n).j (pr t.mask h n).dummy) = _
      rw [pr_dummy]
    · obtain ⟨i, hi⟩ := hw n (by omega)
      rw [slot_live hr hi]
      dsimp only
      by_cases q : hashAt i = h
      · rw [if_pos (by rw [q]; exact beq_self_eq_true h)]
        exact .inr ⟨n, i, Nat.le_refl _, by omega, hi, q, rfl, fun m' i' a b => by omega⟩
      · rw [if_neg (by simpa using q)]
        show (probe.go t hashAt h fuel (pr t.mask h (n + 1)) = _ ∧ _) ∨ _
        have other : ∀ i' : Nat, t.place[i']? = some (pr t.mask h n).j → hashAt i' ≠ h := fun i' hi' => by
          rw [hr.inj hi' hi]
          exact q
        rcases go_spec hr hd (hashAt := hashAt) hN hw fuel (n + 1) (by omega) (by omega) with ⟨a, b⟩ | ⟨m, i', c1, c2, c3, c4, c5, c6⟩
        · refine .inl ⟨a, fun m i' u v x => ?_⟩
          by_cases z : m = n
          · subst z
            exact other i' x
          · exact b m i' (by omega) v x
        · refine .inr ⟨m, i', by omega, c2, c3, c4, c5, fun m' i'' u v x => ?_⟩
          by_cases z : m' = n
          · subst z
            exact other i'' x
          · exact c6 m' i'' (by omega) v x
/-- the slot for a new one -/
theorem TB.freeSlot (T : TB t es) {h : Int} {N : Nat} (hl : N < 10 * turns t.mask) (hN : ¬ In t (pr t.mask h N).j) (hw : Way t h N) : t.freeSlot h = some ((pr t.mask h N).j, false) := by
  unfold SetTable.freeSlot
  have z := go_spec T.ri T.du (hashAt := fun _ => h + 1) hN hw (10 * turns t.mask) 0 (Nat.zero_le _) (by omega)
  have e : t.probe (fun _ => h + 1) h (t.probeStart h) = some (.empty (pr t.mask h N).j none) := by
    rcases z with ⟨a, _⟩ | ⟨m, i, _, _, _, c, _⟩
    · exact a
    · exact absurd c (by omega)
  rw [e]
  rfl
theorem below_le {xs : Array Nat} (hr : Rise xs) (j : Nat) : below xs j ≤ xs.size := (below_spec hr j).1
/-- a new one is laid -/
theorem TB.put (T : TB t es) {e : Ent} {N : Nat} (hl : N < 10 * turns t.mask) (hN : ¬ In t (pr t.mask e.1 N).j) (hw : Way t e.1 N) (room : es.size + 1 ≤ t.mask) (hjm : (pr t.mask e.1 N).j ≤ t.mask) :
    TB (t.put (pr t.mask e.1 N).j).1 (insertAt es (t.put (pr t.mask e.1 N).j).2 e) := by
  obtain ⟨hb, hs⟩ := below_spec T.ri (pr t.mask e.1 N).j
  have hb2 : below t.place (pr t.mask e.1 N).j ≤ es.size := by rw [← T.sz]; exact hb
  have nd : has t.dummies (pr t.mask e.1 N).j = false := by
    unfold has
    rw [T.du]
    simp
  have ep : (t.put (pr t.mask e.1 N).j).1 = { t with place := insertAt t.place (below t.place (pr t.mask e.1 N).j) (pr t.mask e.1 N).j } := by
    unfold SetTable.put
    dsimp only
    rw [nd]
    rfl
  have ep2 : (t.put (pr t.mask e.1 N).j).2 = below t.place (pr t.mask e.1 N).j := rfl
  rw [ep, ep2]
  generalize hp : below t.place (pr t.mask e.1 N).j = p at *
  generalize hj : (pr t.mask e.1 N).j = j at *
  have g := ins_get hb j
  -- what was there is there
  have up : ∀ (i x : Nat), t.place[i]? = some x → ∃ i' : Nat, (insertAt t.place p j)[i']? = some x := fun i x hx => by
    by_cases q : i < p
    · exact ⟨i, by rw [g, if_pos q]; exact hx⟩
    · exact ⟨i + 1, by rw [g, if_neg (by omega), if_neg (by omega)]; exact hx⟩
  have mine : (insertAt t.place p j)[p]? = some j := by rw [g, if_neg (Nat.lt_irrefl _), if_pos rfl]
  have down : ∀ (i x : Nat), (insertAt t.place p j)[i]? = some x → (i < p ∧ t.place[i]? = some x) ∨ (i = p ∧ x = j) ∨ (p < i ∧ t.place[i - 1]? = some x) := fun i x hx => by
    rw [g] at hx
    by_cases q : i < p
    · rw [if_pos q] at hx
      exact .inl ⟨q, hx⟩
    · rw [if_neg q] at hx
      by_cases q2 : i = p
      · rw [if_pos q2] at hx
        exact .inr (.inl ⟨q2, (Option.some.inj hx).symm⟩)
      · rw [if_neg q2] at hx
        exact .inr (.inr ⟨by omega, hx⟩)
  have inUp : ∀ x, In t x → In { t with place := insertAt t.place p j } x := fun x ⟨i, hi⟩ => up i x hi
  have noJ : ∀ (i : Nat), t.place[i]? ≠ some j := fun i q => hN ⟨i, q⟩
  constructor
  · show (insertAt t.place p j).size = _
    rw [ins_size hb, ins_size hb2, T.sz]
  · intro i k x y hik hx hy
    rcases down i x hx with ⟨a1, a2⟩ | ⟨a1, a2⟩ | ⟨a1, a2⟩ <;> rcases down k y hy with ⟨b1, b2⟩ | ⟨b1, b2⟩ | ⟨b1, b2⟩
    · exact T.ri i k x y hik a2 b2
    · rw [b2]
      exact (hs i x a2).mp a1
    · exact T.ri i (k - 1) x y (by omega) a2 b2
    · omega
    · omega
    · rw [a2]
      have c : ¬ y < j := fun z => by
        have := (hs (k - 1) y b2).mpr z
        omega
      have d : y ≠ j := fun z => noJ _ (z ▸ b2)
      omega
    · omega
    · omega
    · exact T.ri (i - 1) (k - 1) x y (by omega) a2 b2
  · intro i x hx
    rcases down i x hx with ⟨_, a2⟩ | ⟨_, a2⟩ | ⟨_, a2⟩
    · exact T.le _ _ a2
    · rw [a2]
      exact hjm
    · exact T.le _ _ a2
  · exact T.du
  · exact T.fu
  · exact T.od
  · show (insertAt t.place p j).size ≤ t.mask
    rw [ins_size hb, T.sz]
    exact room
  · intro i x f hx hf
    have gf := ins_get hb2 e i
    rw [gf] at hf
    have old : ∀ i0 : Nat, t.place[i0]? = some x → es[i0]? = some f → ∃ m, m < 10 * turns t.mask ∧ (pr t.mask f.1 m).j = x ∧ Way { t with place := insertAt t.place p j } f.1 m := fun i0 u v => by
      obtain ⟨m, c1, c2, c3⟩ := T.rc i0 x f u v
      exact ⟨m, c1, c2, fun m' l => inUp _ (c3 m' l)⟩
    rcases down i x hx with ⟨a1, a2⟩ | ⟨a1, a2⟩ | ⟨a1, a2⟩
    · rw [if_pos a1] at hf
      exact old i a2 hf
    · rw [if_neg (by omega), if_pos a1] at hf
      cases hf
      exact ⟨N, hl, by rw [a2]; exact hj, fun m' l => inUp _ (hw m' l)⟩
    · rw [if_neg (by omega), if_neg (by omega)] at hf
      exact old (i - 1) a2 hf
end
end SM

set_option Elab.async false
set_option linter.all false
set_option maxRecDepth 100000
set_option maxHeartbeats 4000000
namespace SM
open PySem PySem.SetTable
theorem run_end_le {m i : Nat} (hi : i ≤ m) : i + (runEnd m i - i) ≤ m := by
  unfold runEnd
  split <;> omega
theorem pr_in (m : Nat) (h : Int) : ∀ n, (pr m h n).j + (pr m h n).more ≤ m
  | 0 => by
    have z : bits h % (m + 1) < m + 1 := Nat.mod_lt (bits h) (Nat.zero_lt_succ m)
    show bits h % (m + 1) + (runEnd m (bits h % (m + 1)) - bits h % (m + 1)) ≤ m
    exact run_end_le (by omega)
  | n + 1 => by
    have ih := pr_in m h n
    show (adv m (pr m h n)).j + (adv m (pr m h n)).more ≤ m
    unfold adv
    split
    · dsimp only
      omega
    · dsimp only
      have : (leap m (pr m h n).i (pr m h n).perturb).1 < m + 1 := Nat.mod_lt _ (Nat.zero_lt_succ m)
      exact run_end_le (by omega)
theorem pr_le (m : Nat) (h : Int) (n : Nat) : (pr m h n).j ≤ m := by
  have := pr_in m h n
  omega
/-- every slot heads a run, in time -/
theorem heads {m : Nat} (hf : full (m + 1) = true) (h : Int) {j : Nat} (hj : j ≤ m) : ∃ k, k < turns m ∧ (run (m + 1) (bits h) k).1 = j := by
  obtain ⟨r, hr, e⟩ := full_any hf (run_lt (b := bits h) (Nat.zero_lt_succ m) 12) (Nat.lt_succ_of_le hj)
  refine ⟨12 + r, ?_, ?_⟩
  · unfold turns
    omega
  · rw [run_orb (bits_lt h) (Nat.le_refl _), e]

/-! ### a table laid anew -/
abbrev Own := Array (Option Nat)
def Tk (o : Own) (j : Nat) : Prop := ∃ k, o[j]? = some (some k)
def WayO (m : Nat) (o : Own) (h : Int) (n : Nat) : Prop := ∀ n', n' < n → Tk o (pr m h n').j
theorem getD_none {m : Nat} {o : Own} (hs : o.size = m + 1) {j : Nat} (hj : j ≤ m) : (o.getD j (some 0)).isNone = true ↔ ¬ Tk o j := by
  have g : o[j]? = some o[j] := Array.getElem?_eq_getElem (by omega)
  rw [Array.getD_eq_getD_getElem?, g]
  show (o[j]).isNone = true ↔ _
  constructor
  · rintro q ⟨k, e⟩
    rw [g] at e
    rw [Option.some.inj e] at q
    cases q
  · intro q
    cases z : o[j] with
    | none => rfl
    | some k => exact absurd ⟨k, by rw [g, z]⟩ q
theorem free_spec {m : Nat} {o : Own} {h : Int} (hs : o.size = m + 1) : ∀ (fuel k n : Nat), atRun m h n k → n ≤ 10 * k → WayO m o h n → (∃ k', k ≤ k' ∧ k' < k + fuel ∧ ¬ Tk o (run (m + 1) (bits h) k').1) →
    ∃ N, N < 10 * (k + fuel) ∧ layClean.free m o fuel (run (m + 1) (bits h) k).1 (run (m + 1) (bits h) k).2 = some (pr m h N).j ∧ ¬ Tk o (pr m h N).j ∧ WayO m o h N
  | 0, k, n, _, _, _, ⟨k', a, b, _⟩ => by omega
  | fuel + 1, k, n, a, hn, hw, ⟨k', q1, q2, q3⟩ => by
    have hi : (run (m + 1) (bits h) k).1 ≤ m := by have := run_lt (M := m + 1) (b := bits h) (Nat.zero_lt_succ m) k; omega
    have hre := run_end_le hi
    have hle9 := runEnd_le m (run (m + 1) (bits h) k).1
    have hge : (run (m + 1) (bits h) k).1 ≤ runEnd m (run (m + 1) (bits h) k).1 := by unfold runEnd; split <;> omega
    have pos : ∀ r, r ≤ runEnd m (run (m + 1) (bits h) k).1 - (run (m + 1) (bits h) k).1 → (pr m h (n + r)).j = (run (m + 1) (bits h) k).1 + r := fun r hr => by rw [in_run a r hr]
    unfold layClean.free
    cases f : (List.range (runEnd m (run (m + 1) (bits h) k).1 + 1 - (run (m + 1) (bits h) k).1)).find? (fun k_1 => (o.getD ((run (m + 1) (bits h) k).1 + k_1) (some 0)).isNone) with
    | some r =>
      obtain ⟨p1, i, hi', e1, e2⟩ := List.find?_eq_some_iff_getElem.mp f
      rw [List.getElem_range] at e1
      subst e1
      have hlen : i < runEnd m (run (m + 1) (bits h) k).1 + 1 - (run (m + 1) (bits h) k).1 := by simpa using hi'
      refine ⟨n + i, by omega, ?_, ?_, fun n' l => ?_⟩
      · rw [pos i (by omega)]
      · rw [pos i (by omega)]
        exact (getD_none hs (by omega)).mp p1
      · by_cases c : n' < n
        · exact hw n' c
        · have e3 := e2 (n' - n) (by omega)
          rw [List.getElem_range] at e3
          have e4 : (!(o.getD ((run (m + 1) (bits h) k).1 + (n' - n)) (some 0)).isNone) = true := e3
          have z : ¬ (o.getD ((run (m + 1) (bits h) k).1 + (n' - n)) (some 0)).isNone = true := fun q => by
            rw [q] at e4
            cases e4
          have z2 := fun q => z ((getD_none hs (by omega)).mpr q)
          have z3 := Classical.not_not.mp z2
          rw [show n' = n + (n' - n) by omega, pos (n' - n) (by omega)]
          exact z3
    | none =>
      have no : ∀ r, r ≤ runEnd m (run (m + 1) (bits h) k).1 - (run (m + 1) (bits h) k).1 → Tk o ((run (m + 1) (bits h) k).1 + r) := fun r hr => by
        have z := List.find?_eq_none.mp f r (List.mem_range.mpr (by omega))
        exact Classical.not_not.mp fun q => z ((getD_none hs (by omega)).mpr q)
      have z := in_run a _ (Nat.le_refl _)
      have a' : atRun m h (n + (runEnd m (run (m + 1) (bits h) k).1 - (run (m + 1) (bits h) k).1) + 1) (k + 1) := by
        show adv m (pr m h (n + (runEnd m (run (m + 1) (bits h) k).1 - (run (m + 1) (bits h) k).1))) = _
        rw [z]
        unfold adv
        rw [if_neg (show ¬ (runEnd m (run (m + 1) (bits h) k).1 - (run (m + 1) (bits h) k).1 - (runEnd m (run (m + 1) (bits h) k).1 - (run (m + 1) (bits h) k).1) > 0) by omega)]
        rfl
      have w' : WayO m o h (n + (runEnd m (run (m + 1) (bits h) k).1 - (run (m + 1) (bits h) k).1) + 1) := fun n' l => by
        by_cases c : n' < n
        · exact hw n' c
        · rw [show n' = n + (n' - n) by omega, pos (n' - n) (by omega)]
          exact no _ (by omega)
      have later : k + 1 ≤ k' := by
        rcases Nat.lt_or_ge k k' with c | c
        · exact c
        · have e : k' = k := by omega
          subst e
          exact absurd (by simpa using no 0 (Nat.zero_le _)) q3
      obtain ⟨N, c1, c2, c3, c4⟩ := free_spec hs fuel (k + 1) _ a' (by omega) w' ⟨k', later, by omega, q3⟩
      exact ⟨N, by omega, c2, c3, c4⟩
/-! the whole: what stands where, key by key -/
def liveL (o : Own) (M : Nat) : List (Nat × Nat) := (List.range M).filterMap fun j => (o.getD j none).map (j, ·)
structure OwnOk (m : Nat) (hs : List Int) (o : Own) : Prop where
  sz : o.size = m + 1
  pm : ((liveL o (m + 1)).map (·.2)).Perm (List.range hs.length)
  rc : ∀ (j k : Nat) (h : Int), o[j]? = some (some k) → hs[k]? = some h → ∃ n, n < 10 * turns m ∧ (pr m h n).j = j ∧ WayO m o h n
  kl : ∀ j k : Nat, o[j]? = some (some k) → k < hs.length
theorem range_split {M j : Nat} (hj : j < M) : List.range M = List.range j ++ j :: List.range' (j + 1) (M - j - 1) := by
  rw [List.range_eq_range', List.range_eq_range', show (j :: List.range' (j + 1) (M - j - 1)) = List.range' j (M - j - 1 + 1) from rfl]
  have e := List.range'_append (s := 0) (m := j) (n := M - j - 1 + 1) (step := 1)
  rw [Nat.one_mul, Nat.zero_add] at e
  rw [e, show j + (M - j - 1 + 1) = M by omega]
theorem getD_set {o : Own} {j x : Nat} {v : Option Nat} (hj : j < o.size) : (o.setIfInBounds j v).getD x none = if x = j then v else o.getD x none := by
  rw [Array.getD_eq_getD_getElem?, Array.getD_eq_getD_getElem?, Array.getElem?_setIfInBounds]
  by_cases e : j = x
  · subst e
    rw [if_pos rfl, if_pos hj, if_pos rfl]
    rfl
  · rw [if_neg e, if_neg (fun z => e z.symm)]
theorem fm_congr {f g : Nat → Option (Nat × Nat)} : ∀ {l : List Nat}, (∀ x ∈ l, f x = g x) → l.filterMap f = l.filterMap g
  | [], _ => rfl
  | a :: r, h => by
    rw [List.filterMap_cons, List.filterMap_cons, h a List.mem_cons_self, fm_congr fun x hx => h x (List.mem_cons_of_mem _ hx)]
theorem live_set {o : Own} {m j k : Nat} (hs : o.size = m + 1) (hj : j ≤ m) (hn : ¬ Tk o j) : ∃ A B, liveL o (m + 1) = A ++ B ∧ liveL (o.setIfInBounds j (some k)) (m + 1) = A ++ (j, k) :: B := by
  have hnone : o.getD j none = none := by
    have g : o[j]? = some o[j] := Array.getElem?_eq_getElem (by omega)
    rw [Array.getD_eq_getD_getElem?, g]
    show o[j] = none
    cases z : o[j] with
    | none => rfl
    | some k => exact absurd ⟨k, by rw [g, z]⟩ hn
  refine ⟨(List.range j).filterMap fun x => (o.getD x none).map (x, ·), (List.range' (j + 1) (m + 1 - j - 1)).filterMap fun x => (o.getD x none).map (x, ·), ?_, ?_⟩
  · unfold liveL
    rw [range_split (M := m + 1) (j := j) (by omega), List.filterMap_append, List.filterMap_cons, hnone]
    rfl
  · unfold liveL
    rw [range_split (M := m + 1) (j := j) (by omega), List.filterMap_append, List.filterMap_cons, getD_set (by omega), if_pos rfl]
    show _ ++ (j, k) :: _ = _
    congr 1
    · refine fm_congr fun x hx => ?_
      have := List.mem_range.mp hx
      rw [getD_set (by omega), if_neg (by omega)]
    · congr 1
      refine fm_congr fun x hx => ?_
      have := (List.mem_range'_1.mp hx).1
      rw [getD_set (by omega), if_neg (by omega)]
theorem tk_set {o : Own} {j k x : Nat} (h : Tk o x) (hn : ¬ Tk o j) : Tk (o.setIfInBounds j (some k)) x := by
  obtain ⟨k', e⟩ := h
  refine ⟨k', ?_⟩
  have ne : j ≠ x := fun z => hn ⟨k', by rw [z]; exact e⟩
  rw [Array.getElem?_setIfInBounds, if_neg ne]
  exact e
theorem OwnOk.more {m : Nat} {hs : List Int} {o : Own} {h : Int} {N : Nat} (O : OwnOk m hs o) (hl : N < 10 * turns m) (hn : ¬ Tk o (pr m h N).j) (hw : WayO m o h N) : OwnOk m (hs ++ [h]) (o.setIfInBounds (pr m h N).j (some hs.length)) := by
  have hj := pr_le m h N
  have hjs : (pr m h N).j < o.size := by rw [O.sz]; omega
  have set : ∀ x, (o.setIfInBounds (pr m h N).j (some hs.length))[x]? = if (pr m h N).j = x then some (some hs.length) else o[x]? := fun x => by
    rw [Array.getElem?_setIfInBounds]
    by_cases e : (pr m h N).j = x
    · rw [if_pos e, if_pos hjs, if_pos e]
    · rw [if_neg e, if_neg e]
  refine ⟨by rw [Array.size_setIfInBounds, O.sz], ?_, fun j k g hk hg => ?_, fun j k hk => ?_⟩
  · obtain ⟨A, B, e1, e2⟩ := live_set (k := hs.length) O.sz hj hn
    have p := O.pm
    rw [e1, List.map_append] at p
    rw [e2, List.map_append, List.map_cons, List.length_append, List.length_singleton, List.range_succ]
    exact (List.perm_middle.trans (List.Perm.cons _ p)).trans (List.perm_append_singleton _ _).symm
  · rw [set] at hk
    by_cases e : (pr m h N).j = j
    · rw [if_pos e] at hk
      cases hk
      rw [List.getElem?_append_right (Nat.le_refl _), Nat.sub_self] at hg
      cases hg
      exact ⟨N, hl, e, fun n' l => tk_set (hw n' l) hn⟩
    · rw [if_neg e] at hk
      have kl := O.kl j k hk
      rw [List.getElem?_append_left kl] at hg
      obtain ⟨n, c1, c2, c3⟩ := O.rc j k g hk hg
      exact ⟨n, c1, c2, fun n' l => tk_set (c3 n' l) hn⟩
  · rw [List.length_append, List.length_singleton]
    rw [set] at hk
    by_cases e : (pr m h N).j = j
    · rw [if_pos e] at hk
      cases hk
      omega
    · rw [if_neg e] at hk
      have := O.kl j k hk
      omega
end SM

set_option Elab.async false
set_option linter.all false
set_option maxRecDepth 100000
set_option maxHeartbeats 4000000
namespace SM
open PySem PySem.SetTable
theorem fm_len {f : Nat → Option (Nat × Nat)} : ∀ {l : List Nat}, (∀ x ∈ l, ∃ y, f x = some y) → (l.filterMap f).length = l.length
  | [], _ => rfl
  | a :: r, h => by
    obtain ⟨y, e⟩ := h a List.mem_cons_self
    rw [List.filterMap_cons, e]
    show ((r.filterMap f).length + 1) = r.length + 1
    rw [fm_len fun x hx => h x (List.mem_cons_of_mem _ hx)]
theorem tk_getD {o : Own} {j k : Nat} : o.getD j none = some k ↔ o[j]? = some (some k) := by
  rw [Array.getD_eq_getD_getElem?]
  cases z : o[j]? with
  | none => exact ⟨fun q => (nomatch q), fun q => (nomatch q)⟩
  | some v => exact ⟨fun q => congrArg some q, fun q => Option.some.inj q⟩
theorem OwnOk.room {m : Nat} {hs : List Int} {o : Own} (O : OwnOk m hs o) (hl : hs.length ≤ m) : ∃ j, j ≤ m ∧ ¬ Tk o j := by
  refine Classical.byContradiction fun no => ?_
  have all : ∀ j, j ≤ m → Tk o j := fun j hj => Classical.byContradiction fun q => no ⟨j, hj, q⟩
  have e := O.pm.length_eq
  rw [List.length_map, List.length_range] at e
  unfold liveL at e
  rw [fm_len (fun x hx => by
    obtain ⟨k, hk⟩ := all x (by have := List.mem_range.mp hx; omega)
    exact ⟨(x, k), by rw [tk_getD.mpr hk]; rfl⟩), List.length_range] at e
  omega
def layStep (m : Nat) (acc : Option (Own × Nat)) (h : Int) : Option (Own × Nat) := do
  let (owner, k) ← acc
  let j ← layClean.free m owner (turns m) (bits h % (m + 1)) (bits h)
  pure (owner.setIfInBounds j (some k), k + 1)
theorem lay_fold {m : Nat} (hf : full (m + 1) = true) : ∀ (hs2 hs1 : List Int) (o : Own), OwnOk m hs1 o → hs1.length + hs2.length ≤ m → ∃ o', hs2.foldl (layStep m) (some (o, hs1.length)) = some (o', (hs1 ++ hs2).length) ∧ OwnOk m (hs1 ++ hs2) o'
  | [], hs1, o, O, _ => ⟨o, by rw [List.append_nil]; rfl, by rw [List.append_nil]; exact O⟩
  | h :: r, hs1, o, O, hl => by
    rw [List.length_cons] at hl
    obtain ⟨j0, hj0, n0⟩ := O.room (by omega)
    obtain ⟨k', hk', e'⟩ := heads hf h hj0
    obtain ⟨N, c1, c2, c3, c4⟩ := free_spec (h := h) O.sz (turns m) 0 0 rfl (Nat.le_refl _) (fun _ l => absurd l (Nat.not_lt_zero _)) ⟨k', Nat.zero_le _, by omega, by rw [e']; exact n0⟩
    have O2 := O.more (by omega) c3 c4
    obtain ⟨o', e1, O3⟩ := lay_fold hf r (hs1 ++ [h]) _ O2 (by rw [List.length_append, List.length_singleton]; omega)
    have st : layStep m (some (o, hs1.length)) h = some (o.setIfInBounds (pr m h N).j (some hs1.length), hs1.length + 1) := by
      show (layClean.free m o (turns m) (bits h % (m + 1)) (bits h)).bind _ = _
      have c2 : layClean.free m o (turns m) (bits h % (m + 1)) (bits h) = some (pr m h N).j := c2
      rw [c2]
      rfl
    rw [List.append_assoc] at e1 O3
    refine ⟨o', ?_, O3⟩
    rw [List.foldl_cons, st]
    rw [List.length_append, List.length_singleton] at e1
    exact e1
theorem getD_rep {n j : Nat} : (Array.replicate n (none : Option Nat)).getD j none = none := by
  rw [Array.getD_eq_getD_getElem?, Array.getElem?_replicate]
  split <;> rfl
theorem own_start (m : Nat) : OwnOk m [] (Array.replicate (m + 1) none) := by
  refine ⟨by rw [Array.size_replicate], ?_, fun j k h hk => ?_, fun j k hk => ?_⟩
  · have e : liveL (Array.replicate (m + 1) none) (m + 1) = [] := by
      unfold liveL
      rw [List.filterMap_eq_nil_iff]
      intro x _
      rw [getD_rep]
      rfl
    rw [e]
    exact List.Perm.refl _
  · have := tk_getD.mpr hk
    rw [getD_rep] at this
    cases this
  · have := tk_getD.mpr hk
    rw [getD_rep] at this
    cases this
theorem layClean_ok {m : Nat} (hf : full (m + 1) = true) {hs : Array Int} (hl : hs.size ≤ m) : ∃ o, layClean m hs = some o ∧ OwnOk m hs.toList o := by
  obtain ⟨o, e, O⟩ := lay_fold hf hs.toList [] _ (own_start m) (by simpa using hl)
  refine ⟨o, ?_, O⟩
  have e2 : layClean m hs = (hs.foldl (layStep m) (some (Array.replicate (m + 1) none, 0))).map (·.1) := rfl
  have e : hs.toList.foldl (layStep m) (some (Array.replicate (m + 1) none, 0)) = some (o, ([] ++ hs.toList).length) := e
  rw [e2, ← Array.foldl_toList, e]
  rfl
theorem live_mem {o : Own} {M j k : Nat} : (j, k) ∈ liveL o M ↔ j < M ∧ o[j]? = some (some k) := by
  unfold liveL
  rw [List.mem_filterMap]
  constructor
  · rintro ⟨x, hx, e⟩
    cases z : o.getD x none with
    | none => rw [z] at e; cases e
    | some k' =>
      rw [z] at e
      cases e
      exact ⟨List.mem_range.mp hx, tk_getD.mp z⟩
  · rintro ⟨h1, h2⟩
    exact ⟨j, List.mem_range.mpr h1, by rw [tk_getD.mpr h2]; rfl⟩
theorem live_fst {o : Own} : ∀ (l : List Nat), ((l.filterMap fun j => (o.getD j none).map (j, ·)).map (·.1)) = l.filter fun j => (o.getD j none).isSome
  | [] => rfl
  | a :: r => by
    rw [List.filterMap_cons, List.filter_cons]
    cases z : o.getD a none with
    | none => exact live_fst r
    | some k =>
      show a :: _ = a :: _
      rw [← live_fst r]
theorem live_rise (o : Own) (M : Nat) : Rise ((liveL o M).map (·.1)).toArray := by
  intro i k x y hik hx hy
  have p : ((liveL o M).map (·.1)).Pairwise (· < ·) := by
    unfold liveL
    rw [live_fst]
    exact (List.pairwise_lt_range).filter _
  rw [List.getElem?_toArray] at hx hy
  obtain ⟨h1, e1⟩ := List.getElem?_eq_some_iff.mp hx
  obtain ⟨h2, e2⟩ := List.getElem?_eq_some_iff.mp hy
  rw [← e1, ← e2]
  exact List.pairwise_iff_getElem.mp p i k h1 h2 hik
theorem fm_map {α β : Type} {f : α → Option β} {g : α → β} : ∀ {l : List α}, (∀ x ∈ l, f x = some (g x)) → l.filterMap f = l.map g
  | [], _ => rfl
  | a :: r, h => by
    rw [List.filterMap_cons, h a List.mem_cons_self, List.map_cons, fm_map fun x hx => h x (List.mem_cons_of_mem _ hx)]
theorem relay_ok {t : SetTable} {es : Array Ent} {wanted : Nat} (hf : full (sizeAbove wanted - 1 + 1) = true) (ho : (sizeAbove wanted - 1) % 2 = 1) (hl : es.size ≤ sizeAbove wanted - 1) :
    ∃ es' t', relayAll t es wanted = (es', t', false) ∧ TB t' es' ∧ es'.toList.Perm es.toList ∧ t'.led = t.led ∧ t'.plain = t.plain ∧ t'.mask = sizeAbove wanted - 1 := by
  obtain ⟨o, e, O⟩ := layClean_ok hf (hs := es.map (·.1)) (by simpa using hl)
  generalize hm : sizeAbove wanted - 1 = m at *
  have hn : (es.map (·.1)).toList.length = es.size := by simp
  have pm := O.pm
  rw [hn] at pm
  have order_lt : ∀ k ∈ (liveL o (m + 1)).map (·.2), k < es.size := fun k hk => List.mem_range.mp (pm.mem_iff.mp hk)
  have hg : ∀ k ∈ (liveL o (m + 1)).map (·.2), es[k]? = some (es.getD k (0, .none)) := fun k hk => by
    have := order_lt k hk
    rw [Array.getD_eq_getD_getElem?, Array.getElem?_eq_getElem this]
    rfl
  have esL : (((liveL o (m + 1)).map (·.2)).toArray.filterMap (es[·]?)).toList = ((liveL o (m + 1)).map (·.2)).map fun k => es.getD k (0, .none) := by
    rw [Array.toList_filterMap]
    exact fm_map hg
  have len : (liveL o (m + 1)).length = es.size := by
    have := pm.length_eq
    rw [List.length_map, List.length_range] at this
    exact this
  have es'sz : (((liveL o (m + 1)).map (·.2)).toArray.filterMap (es[·]?)).size = es.size := by
    rw [← Array.length_toList, esL, List.length_map, List.length_map, len]
  have rel : t.relaid (es.map (·.1)) wanted = some ({ mask := m, place := ((liveL o (m + 1)).map (·.1)).toArray, dummies := #[], finger := t.finger, led := t.led, moves := t.movedTo m, plain := t.plain }, ((liveL o (m + 1)).map (·.2)).toArray) := by
    unfold relaid laid
    rw [hm]
    show (layClean m (es.map (·.1))).bind _ = _
    rw [e]
    rfl
  have psz : ((liveL o (m + 1)).map (·.1)).toArray.size = es.size := by rw [List.size_toArray, List.length_map, len]
  have T : TB { mask := m, place := ((liveL o (m + 1)).map (·.1)).toArray, dummies := #[], finger := t.finger, led := t.led, moves := t.movedTo m, plain := t.plain } (((liveL o (m + 1)).map (·.2)).toArray.filterMap (es[·]?)) := by
    have at_ : ∀ (i j : Nat), ((liveL o (m + 1)).map (·.1)).toArray[i]? = some j → ∃ k, (liveL o (m + 1))[i]? = some (j, k) := fun i j h => by
      rw [List.getElem?_toArray, List.getElem?_map] at h
      cases z : (liveL o (m + 1))[i]? with
      | none => rw [z] at h; cases h
      | some p =>
        rw [z] at h
        obtain ⟨a, b⟩ := p
        cases h
        exact ⟨b, rfl⟩
    have inj : ∀ j k : Nat, o[j]? = some (some k) → j ≤ m → In { mask := m, place := ((liveL o (m + 1)).map (·.1)).toArray, dummies := #[], finger := t.finger, led := t.led, moves := t.movedTo m, plain := t.plain } j := fun j k h hj => by
      obtain ⟨i, hi⟩ := List.getElem?_of_mem (live_mem.mpr ⟨Nat.lt_succ_of_le hj, h⟩)
      refine ⟨i, ?_⟩
      show ((liveL o (m + 1)).map (·.1)).toArray[i]? = some j
      rw [List.getElem?_toArray, List.getElem?_map, hi]
      rfl
    refine ⟨by rw [es'sz]; exact psz, live_rise o (m + 1), fun i j h => ?_, rfl, hf, ho, by show _ ≤ m; rw [psz]; exact hl, fun i j f h hf' => ?_⟩
    · obtain ⟨k, hk⟩ := at_ i j h
      have := (live_mem.mp (List.mem_of_getElem? hk)).1
      show j ≤ m
      omega
    · obtain ⟨k, hk⟩ := at_ i j h
      have mem := live_mem.mp (List.mem_of_getElem? hk)
      have f1 : (((liveL o (m + 1)).map (·.2)).toArray.filterMap (es[·]?)).toList[i]? = some f := by rw [Array.getElem?_toList]; exact hf'
      rw [esL, List.getElem?_map, List.getElem?_map, hk] at f1
      have f2 : es.getD k (0, .none) = f := Option.some.inj f1
      have kin : k ∈ (liveL o (m + 1)).map (·.2) := List.mem_map.mpr ⟨_, List.mem_of_getElem? hk, rfl⟩
      have f3 := hg k kin
      rw [f2] at f3
      have f4 : (es.map (·.1)).toList[k]? = some f.1 := by
        rw [Array.getElem?_toList, Array.getElem?_map, f3]
        rfl
      obtain ⟨n, c1, c2, c3⟩ := O.rc j k f.1 mem.2 f4
      refine ⟨n, c1, c2, fun n' l => ?_⟩
      obtain ⟨k', z⟩ := c3 n' l
      exact inj _ k' z (pr_le m f.1 n')
  refine ⟨_, _, ?_, T, ?_, rfl, rfl, rfl⟩
  · unfold relayAll
    rw [rel]
    dsimp only
    rw [if_pos]
    rw [Bool.and_eq_true]
    refine ⟨?_, T.fits⟩
    unfold coversAll
    exact List.isPerm_iff.mpr pm
  · rw [esL]
    have p2 := pm.map fun k => es.getD k (0, .none)
    refine p2.trans (List.Perm.of_eq ?_)
    refine List.ext_getElem? fun i => ?_
    rw [List.getElem?_map]
    by_cases q : i < es.size
    · rw [List.getElem?_range q, Array.getElem?_toList, Array.getElem?_eq_getElem q]
      show some (es.getD i (0, .none)) = _
      rw [Array.getD_eq_getD_getElem?, Array.getElem?_eq_getElem q]
      rfl
    · rw [List.getElem?_eq_none (by rw [List.length_range]; omega), Array.getElem?_toList, Array.getElem?_eq_none (by omega)]
      rfl
theorem full_16 : full 16 = true := by decide +kernel
theorem full_64 : full 64 = true := by decide +kernel
theorem full_256 : full 256 = true := by decide +kernel
theorem grown_small : ∀ n, n ≤ 127 → [8, 16, 32, 64, 128, 256, 512].contains (sizeAbove (grown n)) = true ∧ n < sizeAbove (grown n) := by decide +kernel
theorem grow_ok {n : Nat} (hn : n ≤ 127) : full (sizeAbove (grown n) - 1 + 1) = true ∧ (sizeAbove (grown n) - 1) % 2 = 1 ∧ n ≤ sizeAbove (grown n) - 1 := by
  obtain ⟨h1, h2⟩ := grown_small n hn
  generalize sizeAbove (grown n) = z at *
  have : z = 8 ∨ z = 16 ∨ z = 32 ∨ z = 64 ∨ z = 128 ∨ z = 256 ∨ z = 512 := by simpa using h1
  rcases this with rfl | rfl | rfl | rfl | rfl | rfl | rfl
  · exact ⟨full_8, rfl, by omega⟩
  · exact ⟨full_16, rfl, by omega⟩
  · exact ⟨full_32, rfl, by omega⟩
  · exact ⟨full_64, rfl, by omega⟩
  · exact ⟨full_128, rfl, by omega⟩
  · exact ⟨full_256, rfl, by omega⟩
  · exact ⟨full_512, rfl, by omega⟩
end SM

set_option Elab.async false
set_option linter.all false
set_option maxRecDepth 100000
set_option maxHeartbeats 4000000
namespace SM
open PySem PySem.SetTable
section
variable {prog : Program} {w : World} {K : Type} [DecidableEq K] {knd : KeyKind prog w K} {A : Around} {E : Value → Shared → Prop} {s : Shared}
theorem ofA_byValue (n : Nat) {v : Value} (h : carriedByValue v = true) : ofAClassStatement n v = pure false := by
  cases v with
  | ref a => exact absurd (show false = true from h) Bool.false_ne_true
  | _ => simp only [ofAClassStatement]
theorem ofA_tuple {ks : List K} {a : Addr} {Q : Bool → Shared → Prop} (hk : IsTupleKey knd s.heap ks a) (h : Q false s) : wpAny (model prog w) A (ofAClassStatement 8 (.ref a)) Q E s := by
  obtain ⟨o, items, n, ho, hc, hd, hi⟩ := hk
  unfold ofAClassStatement
  have hT : s.TypeIs (.ref a) "tuple" := ⟨o, ho, hc⟩
  refine wpAny_bind (wpAny_typeOf hT ?_)
  refine wpAny_bind (wpAny_pure ?_)
  simp only [Bool.not_true, Bool.false_eq_true, if_false]
  refine wpAny_bind (wpAny_seqItems ho hd ?_)
  refine wpAny_bind ?_
  show wpAny _ _ (forIn items _ _) _ _ s
  rw [← Array.forIn_toList]
  refine wpAny_forIn_list _ (fun rest r s' => r.1 = none ∧ s' = s ∧ ∀ v ∈ rest, carriedByValue v = true) _ ?_ ?_ _ _ ⟨rfl, rfl, hi.byValue⟩
  · rintro v rest r s' ⟨hr, rfl, hall⟩
    rw [ofA_byValue _ (hall v List.mem_cons_self)]
    refine wpAny_bind (wpAny_pure ?_)
    simp only [Bool.false_eq_true, if_false]
    exact wpAny_pure ⟨rfl, rfl, fun u hu' => hall u (List.mem_cons_of_mem _ hu')⟩
  · rintro ⟨r1, r2⟩ s' ⟨hr, rfl, _⟩
    simp only at hr
    subst hr
    exact wpAny_pure h
end
end SM

set_option Elab.async false
set_option linter.all false
set_option maxRecDepth 100000
set_option maxHeartbeats 4000000
namespace SM
open PySem PySem.SetTable
section
variable {prog : Program} {w : World} {K : Type} [DecidableEq K] {knd : KeyKind prog w K} {A : Around} {E : Value → Shared → Prop} {s : Shared}
theorem seen_false {b : Addr} {k : List K} {ys : List Value} {Q : Bool → Shared → Prop} (hk : IsTupleKey knd s.heap k b) (hy : ∀ y ∈ ys, ∃ k' a, y = Value.ref a ∧ IsTupleKey knd s.heap k' a) (h : Q false s) :
    wpAny (model prog w) A (searchCouldBeSeen (.ref b) ys) Q E s := by
  unfold searchCouldBeSeen
  refine wpAny_bind ?_
  refine wpAny_forIn_list _ (fun rest r s' => r.1 = none ∧ s' = s ∧ ∀ y ∈ rest, ∃ k' a, y = Value.ref a ∧ IsTupleKey knd s.heap k' a) _ ?_ ?_ _ _ ⟨rfl, rfl, hy⟩
  · rintro v rest r s' ⟨hr, rfl, hall⟩
    obtain ⟨k', a, rfl, ha⟩ := hall v List.mem_cons_self
    have next : ∀ u ∈ rest, ∃ k' a, u = Value.ref a ∧ IsTupleKey knd s'.heap k' a := fun u hu => hall u (List.mem_cons_of_mem _ hu)
    dsimp only
    by_cases q : (b == a) = true
    · rw [if_pos (by rw [q]; rfl)]
      exact wpAny_pure ⟨rfl, rfl, next⟩
    · rw [if_neg (by rw [Bool.not_eq_true] at q; rw [q]; exact Bool.false_ne_true)]
      refine wpAny_bind (wpAny_eqIsQuiet_tuple hk ?_)
      simp only [Bool.not_true, Bool.false_eq_true, if_false]
      refine wpAny_bind (wpAny_eqIsQuiet_tuple ha ?_)
      simp only [Bool.not_true, Bool.false_eq_true, if_false]
      refine wpAny_bind (ofA_tuple hk ?_)
      simp only [Bool.false_eq_true, if_false]
      refine wpAny_bind (ofA_tuple ha ?_)
      simp only [Bool.false_eq_true, if_false]
      exact wpAny_pure ⟨rfl, rfl, next⟩
  · rintro ⟨r1, r2⟩ s' ⟨hr, rfl, _⟩
    simp only at hr
    subst hr
    exact wpAny_pure h
end
end SM

set_option Elab.async false
set_option linter.all false
set_option maxRecDepth 100000
set_option maxHeartbeats 4000000
namespace SM
open PySem PySem.SetTable
section
variable {prog : Program} {w : World} {K : Type} [DecidableEq K] {knd : KeyKind prog w K} {A : Around} {E : Value → Shared → Prop} {s : Shared} {t : SetTable} {es : Array Ent}
/-- an entry is of the key k -/
def EntOk (knd : KeyKind prog w K) (h : Heap) (e : Ent) (k : List K) : Prop := ∃ b, e.2 = .ref b ∧ e.1 = tupleKeyHash knd k ∧ IsTupleKey knd h k b
/-- the entries are of just the keys -/
structure SK (knd : KeyKind prog w K) (h : Heap) (es : Array Ent) (ks : List (List K)) : Prop where
  ok : ∀ e ∈ es.toList, ∃ k, k ∈ ks ∧ EntOk knd h e k
  on : ∀ k ∈ ks, ∃ e, e ∈ es.toList ∧ EntOk knd h e k
  len : es.size = ks.length
theorem EntOk.inj {h : Heap} {e : Ent} {k k' : List K} (a : EntOk knd h e k) (b : EntOk knd h e k') : k = k' := by
  obtain ⟨x, e1, _, h1⟩ := a
  obtain ⟨y, e2, _, h2⟩ := b
  rw [e1] at e2
  cases e2
  exact (tupleKind knd).inj h1 h2
theorem TB.before (T : TB t es) {h : Int} {N : Nat} (hN : ¬ In t (pr t.mask h N).j) (hw : Way t h N) {i : Nat} {e : Ent} (he : es[i]? = some e) (eh : e.1 = h) : ∃ n, n < N ∧ t.place[i]? = some (pr t.mask h n).j := by
  have hi : i < t.place.size := by rw [T.sz]; exact get_lt he
  have hp : t.place[i]? = some t.place[i] := Array.getElem?_eq_getElem hi
  obtain ⟨n, _, e1, e2⟩ := T.rc i _ e hp he
  rw [eh] at e1 e2
  refine ⟨n, ?_, by rw [hp, e1]⟩
  rcases Nat.lt_trichotomy n N with z | z | z
  · exact z
  · subst z
    exact absurd ⟨i, by rw [hp, e1]⟩ hN
  · exact absurd (e2 N z) hN
end
end SM

set_option Elab.async false
set_option linter.all false
set_option maxRecDepth 100000
set_option maxHeartbeats 4000000
namespace SM
open PySem PySem.SetTable
section
variable {prog : Program} {w : World} {K : Type} [DecidableEq K] {knd : KeyKind prog w K} {A : Around} {E : Value → Shared → Prop} {s : Shared} {t : SetTable} {es : Array Ent}
theorem search_from {a b : Addr} {o : Obj} {ep N : Nat} {k : List K} {ks : List (List K)} {Q : SetFound → Shared → Prop} (hr : A.units < cLine) (ho : s.heap.get? a = some o) (hd : o.data = .set es ep t) (T : TB t es) (S : SK knd s.heap es ks) (hk : IsTupleKey knd s.heap k b)
    (hl : N < 10 * turns t.mask) (hN : ¬ In t (pr t.mask (tupleKeyHash knd k) N).j) (hw : Way t (tupleKeyHash knd k) N) (q : Q (if k ∈ ks then .there none else .free (pr t.mask (tupleKeyHash knd k) N).j false) s) :
    ∀ (fuel n : Nat) (p : Option Probe), n ≤ N → N - n < fuel → p.getD (t.probeStart (tupleKeyHash knd k)) = pr t.mask (tupleKeyHash knd k) n →
      (∀ (m i : Nat) (e : Ent), m < n → t.place[i]? = some (pr t.mask (tupleKeyHash knd k) m).j → es[i]? = some e → ¬ EntOk knd s.heap e k) → wpAny (model prog w) A (setSearchFrom a (.ref b) (tupleKeyHash knd k) true fuel p) Q E s
  | 0, n, p, h1, h2, h3, h4 => absurd h2 (Nat.not_lt_zero _)
  | fuel + 1, n, p, h1, h2, h3, h4 => by
    rw [setSearchFrom.eq_2]
    refine wpAny_bind (wpAny_setState_of ho hd T.fits ?_)
    dsimp only
    rw [if_neg (by rw [T.noGave]; exact Bool.false_ne_true), h3]
    have z := go_spec T.ri T.du (hashAt := fun i => (Option.map (fun x => x.fst) es[i]?).getD 0) hN hw (10 * turns t.mask) n h1 (by omega)
    have entry : ∀ i j : Nat, t.place[i]? = some j → ∃ e, es[i]? = some e := fun i j h => by
      have hi : i < es.size := by rw [← T.sz]; exact get_lt h
      exact ⟨es[i], Array.getElem?_eq_getElem hi⟩
    rcases z with ⟨z1, z2⟩ | ⟨m, i, c1, c2, c3, c4, c5, c6⟩
    · have no : k ∉ ks := fun hin => by
        obtain ⟨e, he, eo⟩ := S.on k hin
        obtain ⟨i, hi⟩ := List.getElem?_of_mem he
        rw [Array.getElem?_toList] at hi
        obtain ⟨b', _, eh, _⟩ := id eo
        obtain ⟨n', hn', hp⟩ := T.before hN hw hi eh
        by_cases c : n' < n
        · exact h4 n' i e c hp hi eo
        · refine z2 n' i (by omega) hn' hp ?_
          rw [hi]
          exact eh
      rw [if_neg no] at q
      split
      · next met heq =>
        have e := z1.symm.trans heq
        cases e
        exact wpAny_pure q
      · next x hx =>
        exact absurd z1 (hx _)
    · obtain ⟨e, he⟩ := entry i _ c3
      obtain ⟨k', hk', eo⟩ := S.ok e (List.mem_of_getElem? (by rw [Array.getElem?_toList]; exact he))
      obtain ⟨b', e1, e2, e3⟩ := id eo
      obtain ⟨eh, ev⟩ := e
      simp only at e1 e2
      subst e1
      have more : ∀ {P : Unit → Sem SetFound}, wpAny (model prog w) A (P ()) Q E s → wpAny (model prog w) A (if (!t.led) = true then do
                let r ← searchCouldBeSeen (.ref b) (List.map (fun x => x.snd) (Array.filter (fun x => x.fst == tupleKeyHash knd k) es).toList)
                if r = true then do
                    let r ← unsupported "set:the-search-would-show-the-table"
                    P r
                  else P ()
              else P ()) Q E s := fun hP => by
        split
        · refine wpAny_bind (seen_false hk (fun y hy => ?_) ?_)
          · obtain ⟨f, hf, rfl⟩ := List.mem_map.mp hy
            obtain ⟨k2, _, b2, f1, _, f3⟩ := S.ok f (by
              have := Array.mem_toList_iff.mp hf
              rw [Array.mem_toList_iff]
              exact (Array.mem_filter.mp this).1)
            exact ⟨k2, b2, f1, f3⟩
          · rw [if_neg Bool.false_ne_true]
            exact hP
        · exact hP
      split
      · next met heq =>
        have e := c5.symm.trans heq
        cases e
        dsimp only
        refine more (P := fun _ => _) ?_
        rw [he]
        dsimp only
        refine wpAny_bind (wpAny_holding (wpAny_eqBool_tuple hr e3 hk ?_))
        refine wpAny_bind (wpAny_setState_of ho hd T.fits ?_)
        dsimp only
        by_cases c : k' = k
        · subst c
          rw [if_pos hk'] at q
          rw [decide_eq_true rfl]
          rw [if_pos (by rfl)]
          exact wpAny_pure q
        · rw [decide_eq_false c]
          rw [if_neg (by simp)]
          have sm : t.sameMemory t.moves t.mask = some true := by
            unfold sameMemory
            rw [if_pos (by simp)]
          rw [sm]
          dsimp only
          rw [if_pos rfl, slot_live T.ri c3]
          dsimp only
          rw [he]
          dsimp only
          refine wpAny_bind (wpAny_isSame_ref_self ?_)
          refine wpAny_bind (wpAny_pure ?_)
          rw [if_pos rfl]
          dsimp only
          rw [if_neg Bool.false_ne_true]
          refine search_from hr ho hd T S hk hl hN hw q fuel (m + 1) (some (pr t.mask (tupleKeyHash knd k) (m + 1))) (by omega) (by omega) rfl fun m' i' e' hm' hp' he' eo' => ?_
          rcases Nat.lt_or_ge m' n with l | l
          · exact h4 m' i' e' l hp' he' eo'
          · rcases Nat.lt_or_ge m' m with l2 | l2
            · refine c6 m' i' l l2 hp' ?_
              rw [he']
              obtain ⟨_, _, g, _⟩ := eo'
              exact g
            · have em : m' = m := by omega
              subst em
              have ei := T.ri.inj hp' c3
              subst ei
              rw [he] at he'
              cases he'
              exact c (eo.inj eo')
      · next x hx =>
        exact absurd c5 (hx _)
end
end SM

set_option Elab.async false
set_option linter.all false
set_option maxRecDepth 100000
set_option maxHeartbeats 4000000
namespace SM
open PySem PySem.SetTable
section
variable {prog : Program} {w : World} {K : Type} [DecidableEq K] {knd : KeyKind prog w K} {A : Around} {E : Value → Shared → Prop} {s : Shared} {t : SetTable} {es : Array Ent}
theorem hbv_plain (n : Nat) {v : Value} (h : carriedByValue v = true) : ∃ c, hashByValue n v = pure c := by
  cases v with
  | ref a => exact absurd (show false = true from h) Bool.false_ne_true
  | none => exact ⟨_, hashByValue.eq_1 n⟩
  | bool b => exact ⟨_, hashByValue.eq_2 n b⟩
  | int i t => exact ⟨_, hashByValue.eq_3 n i t⟩
  | float b t => exact ⟨_, hashByValue.eq_4 n b t⟩
  | str x t => exact ⟨_, hashByValue.eq_5 n x t⟩
  | bytes x t => exact ⟨_, hashByValue.eq_6 n x t⟩
  | ellipsis => exact ⟨_, hashByValue.eq_7 n⟩
  | notImplemented => exact ⟨_, hashByValue.eq_8 n⟩
  | type x => exact ⟨_, hashByValue.eq_9 n x⟩
  | builtin x => exact ⟨_, hashByValue.eq_10 n x⟩
theorem hbv_tuple {k : List K} {a : Addr} {Q : Bool → Shared → Prop} (hk : IsTupleKey knd s.heap k a) (h : ∀ c, Q c s) : wpAny (model prog w) A (hashByValue 8 (.ref a)) Q E s := by
  obtain ⟨o, items, n, ho, hc, hd, hi⟩ := hk
  rw [hashByValue.eq_12]
  refine wpAny_bind (wpAny_specialOf (s := s) ⟨o, ho, hc⟩ F.slot_tuple_hash.lookup ?_)
  dsimp only
  refine wpAny_bind (wpAny_seqItems ho hd ?_)
  refine wpAny_bind ?_
  show wpAny _ _ (forIn items _ _) _ _ s
  rw [← Array.forIn_toList]
  refine wpAny_forIn_list _ (fun rest r s' => s' = s ∧ ∀ v ∈ rest, carriedByValue v = true) _ ?_ ?_ _ _ ⟨rfl, hi.byValue⟩
  · rintro v rest r s' ⟨rfl, hall⟩
    obtain ⟨c, e⟩ := hbv_plain 7 (hall v List.mem_cons_self)
    rw [e]
    refine wpAny_bind (wpAny_pure ?_)
    split
    · exact wpAny_pure (by
        dsimp only
        exact wpAny_pure (h _))
    · exact wpAny_pure ⟨rfl, fun u hu' => hall u (List.mem_cons_of_mem _ hu')⟩
  · rintro ⟨r1, r2⟩ s' ⟨rfl, _⟩
    dsimp only
    split <;> exact wpAny_pure (h _)
/-- a table laid anew, as the program asks for it -/
theorem relaid_ok {wanted : Nat} (hf : full (sizeAbove wanted - 1 + 1) = true) (ho : (sizeAbove wanted - 1) % 2 = 1) (hl : es.size ≤ sizeAbove wanted - 1) :
    ∃ t' ord, t.relaid (es.map (fun x => x.fst)) wanted = some (t', ord) ∧ TB t' (ord.filterMap (es[·]?)) ∧ (ord.filterMap (es[·]?)).toList.Perm es.toList ∧ t'.mask = sizeAbove wanted - 1 := by
  obtain ⟨es', t', e, T, p, _, _, m⟩ := relay_ok (t := t) hf ho hl
  unfold relayAll at e
  cases z : t.relaid (es.map (fun x => x.fst)) wanted with
  | none =>
    rw [z] at e
    dsimp only at e
    injection e with _ e
    injection e with _ e
    cases e
  | some p' =>
    obtain ⟨t2, ord⟩ := p'
    rw [z] at e
    dsimp only at e
    split at e
    · injection e with e1 e
      injection e with e2 _
      subst e1
      subst e2
      exact ⟨t2, ord, rfl, T, p, m⟩
    · injection e with _ e
      injection e with _ e
      cases e
theorem relay_wp {a : Addr} {o : Obj} {ep wanted : Nat} {Q : Unit → Shared → Prop} (ha : s.heap.get? a = some o) (hd : o.data = .set es ep t) (fit : t.fits es.size = true) (hf : full (sizeAbove wanted - 1 + 1) = true) (ho : (sizeAbove wanted - 1) % 2 = 1) (hl : es.size ≤ sizeAbove wanted - 1) (hz : sizeAbove wanted ≤ sizeLine)
    (q : ∀ t' es', TB t' es' → es'.toList.Perm es.toList → t'.mask = sizeAbove wanted - 1 → Q () { s with heap := s.heap.update a (Obj.putSet es' t') }) : wpAny (model prog w) A (setRelay a wanted) Q E s := by
  unfold setRelay
  refine wpAny_bind (wpAny_setState_of ha hd fit ?_)
  dsimp only
  rw [if_neg (by omega)]
  obtain ⟨t', ord, e, T, p, m⟩ := relaid_ok (t := t) (es := es) hf ho hl
  rw [e]
  have sz : (ord.filterMap (es[·]?)).size = es.size := by
    have z := p.length_eq
    rw [Array.length_toList, Array.length_toList] at z
    exact z
  have go : ∀ {m0 : Sem (Array Ent × SetTable)} {f : Array Ent × SetTable → Sem Unit} {Q' : Unit → Shared → Prop}, wpAny (model prog w) A (f (ord.filterMap (es[·]?), t')) Q' E s → wpAny (model prog w) A ((if ((ord.filterMap (es[·]?)).size != es.size) = true then m0 else pure (ord.filterMap (es[·]?), t')) >>= f) Q' E s := fun h => by
    rw [if_neg (by rw [sz]; simp)]
    exact wpAny_bind (wpAny_pure h)
  refine go (f := fun x => storeSet a x.fst x.snd) ?_
  dsimp only
  refine wpAny_storeSet_of ha hd (q _ _ T p m) ?_
  have := hl
  omega
end
end SM

set_option Elab.async false
set_option linter.all false
set_option maxRecDepth 100000
set_option maxHeartbeats 4000000
namespace SM
open PySem PySem.SetTable
section
variable {prog : Program} {w : World} {K : Type} [DecidableEq K] {knd : KeyKind prog w K} {A : Around} {E : Value → Shared → Prop} {s : Shared} {t : SetTable} {es : Array Ent}
theorem TB.pl (T : TB t es) (c : Bool) : TB { t with plain := c } es := ⟨T.sz, T.ri, T.le, T.du, T.fu, T.od, T.nf, T.rc⟩
theorem ins_mem {p : Nat} (hp : p ≤ es.size) (e f : Ent) : f ∈ (insertAt es p e).toList ↔ f = e ∨ f ∈ es.toList := by
  constructor
  · intro h
    obtain ⟨i, hi⟩ := List.getElem?_of_mem h
    rw [Array.getElem?_toList, ins_get hp] at hi
    by_cases c : i < p
    · rw [if_pos c] at hi
      exact .inr (List.mem_of_getElem? (by rw [Array.getElem?_toList]; exact hi))
    · rw [if_neg c] at hi
      by_cases c2 : i = p
      · rw [if_pos c2] at hi
        exact .inl (Option.some.inj hi).symm
      · rw [if_neg c2] at hi
        exact .inr (List.mem_of_getElem? (by rw [Array.getElem?_toList]; exact hi))
  · intro h
    rcases h with rfl | h
    · refine List.mem_of_getElem? (i := p) ?_
      rw [Array.getElem?_toList, ins_get hp, if_neg (Nat.lt_irrefl _), if_pos rfl]
    · obtain ⟨i, hi⟩ := List.getElem?_of_mem h
      rw [Array.getElem?_toList] at hi
      by_cases c : i < p
      · refine List.mem_of_getElem? (i := i) ?_
        rw [Array.getElem?_toList, ins_get hp, if_pos c, hi]
      · refine List.mem_of_getElem? (i := i + 1) ?_
        rw [Array.getElem?_toList, ins_get hp, if_neg (by omega), if_neg (by omega), Nat.add_sub_cancel, hi]
theorem SK.put {h : Heap} {ks : List (List K)} {k : List K} {b : Addr} {p : Nat} (S : SK knd h es ks) (hp : p ≤ es.size) (hk : IsTupleKey knd h k b) : SK knd h (insertAt es p (tupleKeyHash knd k, .ref b)) (ks ++ [k]) := by
  refine ⟨fun e he => ?_, fun k' hk' => ?_, by rw [ins_size hp, S.len, List.length_append, List.length_singleton]⟩
  · rcases (ins_mem hp _ _).mp he with rfl | he
    · exact ⟨k, by simp, b, rfl, rfl, hk⟩
    · obtain ⟨k', h1, h2⟩ := S.ok e he
      exact ⟨k', by simp [h1], h2⟩
  · rcases List.mem_append.mp hk' with h1 | h1
    · obtain ⟨e, h2, h3⟩ := S.on k' h1
      exact ⟨e, (ins_mem hp _ _).mpr (.inr h2), h3⟩
    · have : k' = k := by simpa using h1
      subst this
      exact ⟨_, (ins_mem hp _ _).mpr (.inl rfl), b, rfl, rfl, hk⟩
theorem SK.perm {h : Heap} {ks : List (List K)} {es' : Array Ent} (S : SK knd h es ks) (p : es'.toList.Perm es.toList) : SK knd h es' ks := by
  refine ⟨fun e he => S.ok e (p.mem_iff.mp he), fun k hk => ?_, ?_⟩
  · obtain ⟨e, h1, h2⟩ := S.on k hk
    exact ⟨e, p.mem_iff.mpr h1, h2⟩
  · have := p.length_eq
    rw [Array.length_toList, Array.length_toList] at this
    rw [this, S.len]
theorem SK.mono {h h' : Heap} {ks : List (List K)} (S : SK knd h es ks) (m : ∀ k b, IsTupleKey knd h k b → IsTupleKey knd h' k b) : SK knd h' es ks := by
  refine ⟨fun e he => ?_, fun k hk => ?_, S.len⟩
  · obtain ⟨k, h1, b, h2, h3, h4⟩ := S.ok e he
    exact ⟨k, h1, b, h2, h3, m k b h4⟩
  · obtain ⟨e, h1, b, h2, h3, h4⟩ := S.on k hk
    exact ⟨e, h1, b, h2, h3, m k b h4⟩
theorem grown_far : ∀ n, n ≤ 127 → n * 5 < (sizeAbove (grown n) - 1) * 3 ∧ sizeAbove (grown n) ≤ 512 := by decide +kernel
/-- a set whose things are keys -/
structure STab (knd : KeyKind prog w K) (h0 : Heap) (o : Obj) (ks : List (List K)) : Prop where
  ex : o.ExactSet
  tb : ∃ es ep t, o.data = .set es ep t ∧ TB t es ∧ es.size * 5 < t.mask * 3 ∧ t.mask ≤ 511 ∧ SK knd h0 es ks
theorem add_wp {h0 : Heap} {a b : Addr} {o : Obj} {k : List K} {ks : List (List K)} {Q : Bool → Shared → Prop} (hr : A.units < cLine) (ha : s.heap.get? a = some o) (S : STab knd h0 o ks) (keep : ∀ k b, IsTupleKey knd h0 k b → IsTupleKey knd s.heap k b) (hk0 : IsTupleKey knd h0 k b) (few : ks.length + 1 ≤ 127)
    (q0 : k ∈ ks → Q false s) (q1 : k ∉ ks → ∀ h' o', Heap.SameBut a s.heap h' → h'.get? a = some o' → STab knd h0 o' (ks ++ [k]) → Q true { s with heap := h' }) :
    wpAny (model prog w) A (setAddHashed a (.ref b) (tupleKeyHash knd k)) Q E s := by
  obtain ⟨ex, es, ep, t, hd, T, nf, hm, sk⟩ := S
  have hk := keep k b hk0
  unfold setAddHashed
  refine wpAny_holding ?_
  rw [show (100000 : Nat) = Nat.succ 99999 from rfl, setAddHashedIn.eq_2]
  refine wpAny_bind (wpAny_setState_of ha hd T.fits ?_)
  dsimp only
  rw [if_neg (by simp [byScan, Value.scannable])]
  unfold setSearch
  obtain ⟨N, hl, hN, hw⟩ := T.first (tupleKeyHash knd k)
  have lim : 10 * turns t.mask ≤ 100000 := by
    unfold turns
    omega
  refine wpAny_bind (search_from hr ha hd T (sk.mono keep) hk hl hN hw ?_ 100000 0 none (Nat.zero_le _) (by omega) rfl fun m i e hm' => absurd hm' (Nat.not_lt_zero _))
  by_cases c : k ∈ ks
  · rw [if_pos c]
    exact wpAny_pure (q0 c)
  · rw [if_neg c]
    dsimp only
    refine wpAny_bind (wpAny_setState_of ha hd T.fits ?_)
    dsimp only
    have hj := pr_le t.mask (tupleKeyHash knd k) N
    have T1 := T.put (e := (tupleKeyHash knd k, .ref b)) hl hN hw (by omega) hj
    have hp : (t.put (pr t.mask (tupleKeyHash knd k) N).j).2 ≤ es.size := by rw [← T.sz]; exact below_le T.ri _
    have S1 := sk.put hp hk0
    have z1 := ins_size hp ((tupleKeyHash knd k, Value.ref b) : Ent)
    have m1 : (t.put (pr t.mask (tupleKeyHash knd k) N).j).1.mask = t.mask := rfl
    generalize (t.put (pr t.mask (tupleKeyHash knd k) N).j).1 = t1 at *
    generalize (t.put (pr t.mask (tupleKeyHash knd k) N).j).2 = p1 at *
    have len1 : es.size + 1 ≤ 127 := by rw [sk.len]; exact few
    have tail : ∀ t2 : SetTable, TB t2 (insertAt es p1 (tupleKeyHash knd k, .ref b)) → t2.mask = t.mask → wpAny (model prog w) A (do
        storeSet a (insertAt es p1 (tupleKeyHash knd k, .ref b)) t2
        if (!false && t2.tooFull) = true then do
          let _ ← setRelay a (grown (es.size + 1))
          pure true
        else pure true) Q E s := fun t2 T2 m2 => by
      refine wpAny_bind (wpAny_storeSet_of ha hd ?_ ?_)
      · have po := putSet_of (insertAt es p1 (tupleKeyHash knd k, .ref b)) t2 hd
        have g1 : (s.heap.update a (Obj.putSet (insertAt es p1 (tupleKeyHash knd k, .ref b)) t2)).get? a = some { o with data := .set (insertAt es p1 (tupleKeyHash knd k, .ref b)) (ep + 1) t2 } := by
          rw [Heap.get?_update_self _ ha (by rw [po]; rfl), po]
        have sb := Heap.SameBut.update s.heap a (Obj.putSet (insertAt es p1 (tupleKeyHash knd k, .ref b)) t2)
        generalize s.heap.update a (Obj.putSet (insertAt es p1 (tupleKeyHash knd k, .ref b)) t2) = h1 at *
        split
        · obtain ⟨g2, g3, g4⟩ := grow_ok (n := es.size + 1) len1
          obtain ⟨g5, g6⟩ := grown_far (es.size + 1) len1
          refine wpAny_bind (relay_wp (s := { s with heap := h1 }) g1 rfl T2.fits g2 g3 (by rw [z1]; exact g4) (Nat.le_trans g6 (by decide)) fun t3 es3 T3 p3 m3 => wpAny_pure ?_)
          have po3 := putSet_of (o := { o with data := .set (insertAt es p1 (tupleKeyHash knd k, .ref b)) (ep + 1) t2 }) es3 t3 rfl
          have l3 := p3.length_eq
          rw [Array.length_toList, Array.length_toList, z1] at l3
          refine q1 c _ _ ⟨?_, fun x hx => ?_⟩ (Heap.get?_update_self _ g1 (by rw [po3]; rfl)) ?_
          · exact (Heap.SameBut.update h1 a (Obj.putSet es3 t3)).1.trans sb.1
          · exact ((Heap.SameBut.update h1 a (Obj.putSet es3 t3)).2 x hx).trans (sb.2 x hx)
          · rw [po3]
            exact ⟨ex, es3, _, t3, rfl, T3, by rw [l3, m3]; exact g5, by rw [m3]; omega, S1.perm p3⟩
        · next nt =>
          refine wpAny_pure (q1 c _ _ sb g1 ⟨ex, _, _, t2, rfl, T2, ?_, by omega, S1⟩)
          have e1 : ¬ (t2.fill * 5 ≥ t2.mask * 3) := fun q => nt (by
            unfold tooFull
            rw [decide_eq_true q]
            rfl)
          have e2 : t2.fill = (insertAt es p1 (tupleKeyHash knd k, .ref b)).size := by
            unfold fill
            rw [T2.sz, T2.du]
            rfl
          rw [e2] at e1
          omega
      · rw [z1]
        exact Nat.le_trans len1 (by decide)
    split
    · refine wpAny_bind (hbv_tuple hk fun cb => ?_)
      cases cb with
      | true => exact tail t1 T1 m1
      | false => exact tail { t1 with plain := false } (T1.pl false) m1
    · refine wpAny_bind (wpAny_pure ?_)
      exact tail t1 T1 m1
end
end SM

set_option Elab.async false
set_option linter.all false
set_option maxRecDepth 100000
set_option maxHeartbeats 4000000
namespace SM
open PySem PySem.SetTable
section
variable {prog : Program} {w : World} {K : Type} [DecidableEq K] {knd : KeyKind prog w K} {A : Around}
/-- what a list leaves in a set -/
def met (f : Nat → List K) : Nat → List (List K)
  | 0 => []
  | i + 1 => if f i ∈ met f i then met f i else met f i ++ [f i]
theorem met_len (f : Nat → List K) : ∀ i, (met f i).length ≤ i
  | 0 => Nat.le_refl _
  | i + 1 => by
    have ih := met_len f i
    unfold met
    split
    · omega
    · rw [List.length_append, List.length_singleton]
      omega
theorem met_mem (f : Nat → List K) (k : List K) : ∀ i, k ∈ met f i ↔ ∃ j, j < i ∧ f j = k
  | 0 => ⟨fun h => (nomatch h), fun ⟨j, h, _⟩ => absurd h (Nat.not_lt_zero _)⟩
  | i + 1 => by
    have ih := met_mem f k i
    have up : (∃ j, j < i + 1 ∧ f j = k) ↔ (∃ j, j < i ∧ f j = k) ∨ f i = k := by
      constructor
      · rintro ⟨j, h, e⟩
        rcases Nat.lt_succ_iff_lt_or_eq.mp h with h | h
        · exact .inl ⟨j, h, e⟩
        · subst h
          exact .inr e
      · rintro (⟨j, h, e⟩ | e)
        · exact ⟨j, Nat.lt_succ_of_lt h, e⟩
        · exact ⟨i, Nat.lt_succ_self i, e⟩
    rw [up, ← ih, show met f (i + 1) = if f i ∈ met f i then met f i else met f i ++ [f i] from rfl]
    split
    · next c =>
      exact ⟨.inl, fun h => h.elim id fun e => e ▸ c⟩
    · rw [List.mem_append, List.mem_singleton]
      exact ⟨fun h => h.elim .inl fun e => .inr e.symm, fun h => h.elim .inl fun e => .inr e.symm⟩
theorem key_keep {h h' : Heap} (m : ∀ b o, h.get? b = some o → h'.get? b = some o) (k : List K) (b : Addr) (q : IsTupleKey knd h k b) : IsTupleKey knd h' k b := by
  obtain ⟨o, its, n, ho, r⟩ := q
  exact ⟨o, its, n, m b o ho, r⟩
theorem fresh_ok (h0 : Heap) (led : Bool) : STab knd h0 { cls := .type "set", dict := none, data := .set #[] 0 (.fresh 0 0 led) } [] := by
  refine ⟨⟨rfl, rfl, rfl⟩, #[], 0, _, rfl, ⟨rfl, ?_, ?_, rfl, full_8, (by decide : 7 % 2 = 1), Nat.zero_le _, ?_⟩, (by decide : 0 * 5 < 7 * 3), (by decide : 7 ≤ 511), ⟨?_, ?_, rfl⟩⟩
  · intro i k x y _ hx
    cases hx
  · intro i j h
    cases h
  · intro i j e h
    cases h
  · intro e he
    cases he
  · intro k hk
    cases hk
section
variable {R : Result → Shared → Prop} {I : Addr} {fp wr : List Addr} {G : Array GenState → Array GenState → Prop} {n : Nat} {P : Nat → Value → Prop} {St : Nat → Shared → Prop}
/-- the loop of set(..) over keys -/
theorem loop_keys (W : PySem.WalksS prog w A.in1 I fp wr G n P St) (Z : Addr) (out : Z ∉ fp) {h0 : Heap} (f : Nat → List K) (is : ∀ i v, P i v → ∃ b, v = .ref b ∧ IsTupleKey knd h0 (f i) b) (few : n ≤ 126) (hu : A.units + 1 < cLine)
    (old : ∀ b o, h0.get? b = some o → b ≠ Z ∧ b ∉ wr) : ∀ (d i : Nat) (s : Shared), n - i = d → i ≤ n → St i s → (∀ b o, h0.get? b = some o → s.heap.get? b = some o) → (∃ o, s.heap.get? Z = some o ∧ STab knd h0 o (met f i)) →
      (∀ s', PySem.Moved (Z :: wr) G s s' → (∃ o, s'.heap.get? Z = some o ∧ STab knd h0 o (met f n)) → R (.ok (.ret .none)) s') → codeAny (model prog w) A (.builtin "set.update.loop" ⟨[.ref Z, .ref I], []⟩) R s := by
  have zw : Z ∉ wr := fun h => out (W.sub _ h)
  have more : ∀ b ∈ wr, b ∈ Z :: wr := fun b hb => List.mem_cons_of_mem _ hb
  intro d
  induction d with
  | zero =>
    intro i s hd hi st kp so fin
    have e : i = n := by omega
    subst e
    refine codeAny_builtin PyProof.Rows.F.entry_set_update_loop ?_
    rw [Around.under_plainId PyProof.Rows.F.plain_set_update_loop _]
    refine wpAny_bind (m := pyNext (.ref I)) (W.done s _ _ st fun s' mv => ?_)
    obtain ⟨o, ho, so⟩ := so
    exact wpAny_pure (fin s' (mv.mono more) ⟨o, mv.heap Z o zw ho, so⟩)
  | succ d ih =>
    intro i s hd hi st kp so fin
    have lt : i < n := by omega
    refine codeAny_builtin PyProof.Rows.F.entry_set_update_loop ?_
    rw [Around.under_plainId PyProof.Rows.F.plain_set_update_loop _]
    refine wpAny_bind (m := pyNext (.ref I)) (W.item i s _ _ lt st fun v s' hP st' mv => ?_)
    obtain ⟨b, rfl, kb⟩ := is i v hP
    obtain ⟨o, ho, so⟩ := so
    have ho' := mv.heap Z o zw ho
    have kp' : ∀ b o, h0.get? b = some o → s'.heap.get? b = some o := fun b o hb => mv.heap b o (old b o hb).2 (kp b o hb)
    refine wpAny_bind (m := holding [.ref b] (setAdd Z (.ref b))) (wpAny_holding ?_)
    unfold setAdd
    refine wpAny_holding (wpAny_bind (wpAny_pyHash_tuple (A := A.in1) (by simpa using hu) (key_keep kp' _ _ kb) ?_))
    have ml := met_len f i
    have up : ∀ (h' : Heap) (o' : Obj) (x : Bool), Heap.SameBut Z s'.heap h' → h'.get? Z = some o' → STab knd h0 o' (met f (i + 1)) → ∀ {tk : Nat}, s'.toks ≤ tk → codeAny (model prog w) A (.builtin "set.update.loop" ⟨[.ref Z, .ref I], []⟩) R { s' with heap := h', toks := tk } := fun h' o' x sb ho2 so2 {tk} tl => by
      refine ih (i + 1) _ (by omega) lt (W.frame _ s' _ _ st' tl fun c hc oc ec => ?_) (fun c oc hc => ?_) ⟨o', ho2, so2⟩ fun s2 mv2 so3 => ?_
      · rw [sb.2 c (fun q => out (q ▸ hc))]
        exact ec
      · show h'.get? c = some oc
        rw [sb.2 c (old c oc hc).1]
        exact kp' c oc hc
      · refine fin s2 (PySem.Moved.trans W.gtrans ((mv.mono more).then_heap tl fun c oc hc ec => ?_) mv2) so3
        rw [sb.2 c (fun q => hc (by rw [q]; exact List.mem_cons_self))]
        exact ec
    refine add_wp (s := { s' with toks := s'.toks + ((f i).length + 1) }) (A := A.in1) (by simpa using hu) ho' so (fun k c hc => key_keep kp' k c hc) kb (by omega) (fun hin => ?_) fun hout h' o' sb ho2 so2 => ?_
    · refine wpAny_pure ⟨plainId_quiet PyProof.Rows.F.plain_set_update_loop _, ?_⟩
      refine up s'.heap o true ⟨rfl, fun _ _ => rfl⟩ ho' ?_ (Nat.le_add_right _ _)
      rw [met, if_pos hin]
      exact so
    · refine wpAny_pure ⟨plainId_quiet PyProof.Rows.F.plain_set_update_loop _, ?_⟩
      refine up h' o' true sb ho2 ?_ (Nat.le_add_right _ _)
      rw [met, if_neg hout]
      exact so2
end
end
end SM

set_option Elab.async false
set_option linter.all false
set_option maxRecDepth 100000
set_option maxHeartbeats 4000000
namespace SM
open PySem PySem.SetTable
section
variable {prog : Program} {w : World} {K : Type} [DecidableEq K] {knd : KeyKind prog w K} {A : Around} {E : Value → Shared → Prop} {s : Shared}
abbrev setObj (led : Bool) : Obj := { cls := .type "set", dict := none, data := .set #[] 0 (.fresh 0 0 led) }
/-- set(..) of a list of keys -/
theorem set_of_keys {l : Addr} {its : Array Value} {f : Nat → List K} {Q : Value → Shared → Prop} (hh : A.handled = none) (hu : A.units + 8 < cLine) (hl : s.heap.IsList l its) (few : its.size ≤ 126) (is : ∀ i v, its[i]? = some v → ∃ b, v = .ref b ∧ IsTupleKey knd s.heap (f i) b)
    (q : ∀ (h' : Heap) (tk : Nat) (o : Obj), (∀ b o', s.heap.get? b = some o' → h'.get? b = some o') → h'.get? s.heap.objs.size = some o → STab knd s.heap o (met f its.size) → Q (.ref s.heap.objs.size) { s with heap := h', toks := tk }) :
    wpAny (model prog w) A (call (.type "set") [.ref l]) Q E s := by
  obtain ⟨cc, tl, hmro⟩ := F.called_set.mro
  have made' := F.called_set.made
  have sub' := F.called_set.sub
  refine wpAny_call (codeAny_of_tree (?_ : wpAny _ _ (callAny (.type "set") _) _ _ _))
  refine wpAny_pure ⟨Code.quiet_builtin _ (by decide +kernel), codeAny_builtin F.entry_type_call (?_ : _)⟩
  rw [Around.under_plain (weight_type_call_type "set" [.ref l] []) rfl]
  have no' := F.called_set.notType
  have can' := F.called_set.canCreate
  have chk' := F.typeCall_set_1 (.ref l)
  repeat (any_goals (first | assumption | wp_step))
  refine codeAny_mono (code_set_new_1 (.ref l) (E := E) (Q₁ := fun ob s1 => ∃ led : Bool, ob = .ref s.heap.objs.size ∧ s1 = { s with heap := s.heap.push (setObj led) }) fun led => ⟨led, rfl, rfl⟩) fun r s1 hr1 => ?_
  cases r with
  | error e => exact hr1
  | ok fl =>
    cases fl with
    | ret ob =>
      obtain ⟨led, rfl, rfl⟩ := hr1
      have zs : (s.heap.push (setObj led)).get? s.heap.objs.size = some (setObj led) := Heap.get?_push_size _ rfl
      have ty : Shared.TypeIs { s with heap := s.heap.push (setObj led) } (.ref s.heap.objs.size) "set" := ⟨_, zs, rfl⟩
      have li' := F.called_set.init.lookup
      have bi' := F.called_set.init.bind (.ref s.heap.objs.size)
      repeat (any_goals (first | assumption | wp_step))
      refine codeAny_mono (codeAny_call_builtin (R := wants (fun r s2 => r = .none ∧ ∃ h' tk o, s2 = { s with heap := h', toks := tk } ∧ (∀ b o', s.heap.get? b = some o' → h'.get? b = some o') ∧ h'.get? s.heap.objs.size = some o ∧ STab knd s.heap o (met f its.size)) E) F.called_set.init.plain F.entry_set_init (check_set_init_1 ty ?_)) fun r2 s2 hr2 => ?_
      · obtain ⟨ol, hol, hcl, nl, hdl⟩ := hl
        obtain ⟨ocl, odi, oda, osl⟩ := ol
        simp only at hcl hdl
        subst hcl
        subst hdl
        have hol2 : (s.heap.push (setObj led)).get? l = some { cls := .type "list", dict := odi, data := .seq its nl, slots := osl } := Heap.get?_push_of_some _ hol
        have sl1 := F.sub_list_set
        have sl2 := F.sub_list_frozenset
        have nd' : (Value.type "list" == Value.type "dict") = false := by decide
        have hl1 : (s.heap.push (setObj led)).IsList l its := ⟨_, hol2, rfl, nl, rfl⟩
        unfold Builtin.«set.__init__» noKeywords Builtin.Frozenset.updateFrom
        generalize hPI : pyIter = PI
        wp_walk
        subst hPI
        refine wpAny_pyIter_list hl1 (wpAny_bind (wpAny_runValue ?_))
        have lz : l < s.heap.objs.size := Heap.lt_size hol
        have h3 : A.in1.in1.in1.handled = none := by simp [hh]
        have nI : l ≠ (s.heap.push (setObj led)).objs.size := by
          rw [Heap.size_push]
          exact Nat.ne_of_lt (Nat.lt_succ_of_lt lz)
        have out : s.heap.objs.size ∉ [(s.heap.push (setObj led)).objs.size, l] := by
          rw [Heap.size_push]
          simp only [List.mem_cons, List.not_mem_nil, or_false, not_or]
          exact ⟨Nat.ne_of_lt (Nat.lt_succ_self _), Nat.ne_of_gt lz⟩
        refine loop_keys (knd := knd) (h0 := s.heap) (Walks.list h3 _ l nI its).toS s.heap.objs.size out f is few (by simp; omega) (fun b o hb => ?old) its.size 0 _ rfl (Nat.zero_le _) ⟨⟨_, Heap.get?_push_size _ rfl, rfl, rfl⟩, hl1.push _⟩ (fun b o hb => Heap.get?_push_of_some _ (Heap.get?_push_of_some _ hb)) ⟨setObj led, Heap.get?_push_of_some _ zs, fresh_ok _ led⟩ ?fin
        case old =>
          have bz := Heap.lt_size hb
          rw [Heap.size_push]
          simp only [List.mem_cons, List.not_mem_nil, or_false]
          exact ⟨Nat.ne_of_lt bz, Nat.ne_of_lt (Nat.lt_succ_of_lt bz)⟩
        case fin =>
          intro s' mv so
          obtain ⟨h', g', d', tk', os'⟩ := s'
          obtain rfl : g' = s.gens := mv.gens
          obtain rfl : d' = s.drawn := mv.drawn
          obtain rfl : os' = s.os := mv.os
          obtain ⟨o, ho, so⟩ := so
          refine wpAny_pure (?_ : wpAny _ _ _ _ _ _)
          refine id (?_ : wpAny _ _ (ret Value.none) _ _ _)
          refine wpAny_pure ⟨rfl, h', tk', o, rfl, fun b o' hb => ?_, ho, so⟩
          have bz := Heap.lt_size hb
          refine mv.heap b o' ?_ (Heap.get?_push_of_some _ (Heap.get?_push_of_some _ hb))
          rw [Heap.size_push]
          simp only [List.mem_cons, List.not_mem_nil, or_false, not_or]
          exact ⟨Nat.ne_of_lt bz, Nat.ne_of_lt (Nat.lt_succ_of_lt bz)⟩
      · cases r2 with
        | error e => exact hr2
        | ok fl2 =>
          cases fl2 with
          | ret r =>
            obtain ⟨rfl, h', tk, o, rfl, kp, ho, so⟩ := hr2
            repeat (any_goals (first | assumption | wp_step))
            exact q h' tk o kp ho so
          | _ => exact hr2.elim
    | _ => exact hr1.elim
end
end SM

set_option Elab.async false
set_option linter.all false
set_option maxRecDepth 100000
set_option maxHeartbeats 4000000
namespace L2
open PySem PySem.Spec PyProof.Rows
/-- a set of so many things -/
def SetN (a : Addr) (n : Nat) : HO := .ext fun h => ∃ o es ep t, h.get? a = some o ∧ o.ExactSet ∧ o.data = .set es ep t ∧ t.fits es.size = true ∧ es.size = n
theorem items_ints {P : Program} {w : World} : ∀ {ns : List Int} {us : List Value}, Vals (ns.map V.int) us → ItemsAre (intKind P w) ns us
  | [], _, .nil => .nil
  | n :: ns, _, .cons h r => by
    obtain ⟨t, rfl⟩ := h
    exact .cons (intKind_is P w n t) (items_ints r)
/-- the lists of numbers of the tuples -/
def TupsAt (K : PySem.W.Frag) (H : Hp) (xs : List V) (kss : List (List Int)) : Prop := xs.length = kss.length ∧ ∀ (i : Nat) (x : V) (ks : List Int), xs[i]? = some x → kss[i]? = some ks → ∃ b, x = .ref b ∧ SqT K H b (ks.map V.int)
section
variable {X : Cx}
theorem vals_at : ∀ {xs : List V} {us : List Value}, Vals xs us → ∀ (i : Nat) (u : Value), us[i]? = some u → ∃ x, xs[i]? = some x ∧ RelV x u
  | _, _, .nil, i, u, h => by cases h
  | _, _, .cons h r, 0, u, e => by
    cases e
    exact ⟨_, rfl, h⟩
  | _, _, .cons h r, i + 1, u, e => vals_at r i u e
/-- how many lists there are, told once each -/
def dn (kss : List (List Int)) : Nat := (SM.met (fun i => kss.getD i []) kss.length).length
theorem call_setT (hc : X.calm = true) (hu : X.A.units + 8 < cLine) : CallR X (.type "set") (fun xs H Q => ∃ a ys kss, xs = [.ref a] ∧ SqL X.K H a ys ∧ TupsAt X.K H ys kss ∧ kss.length ≤ 126 ∧ ∀ p, H p = none → Q (.ref p) (upd H p (SetN p (dn kss)))) := by
  intro pins s σ H xs us Q I r h
  obtain ⟨a, ys, kss, rfl, hq, tu, few, q⟩ := h
  obtain ⟨u, rfl, ru⟩ := vals1 r
  cases ru
  obtain ⟨its, rv, p, _⟩ := I.list hq
  have hlen : its.length = kss.length := by rw [← rv.length, tu.1]
  refine SM.set_of_keys (knd := intKind X.prog X.w) (f := fun i => kss.getD i []) (I.ok.hd hc) hu p.isList (by simpa [hlen] using few) (fun i v hv => ?_) fun h' tk o kp ho st => ?_
  · have hv' : its[i]? = some v := by simpa using hv
    obtain ⟨x, hx, rx⟩ := vals_at rv i v hv'
    have hi : i < kss.length := by
      have := (List.getElem?_eq_some_iff.mp hv').1
      omega
    obtain ⟨b, rfl, sb⟩ := tu.2 i x kss[i] hx (List.getElem?_eq_getElem hi)
    cases rx
    obtain ⟨its2, r2, ⟨o2, e2, c2, n2, d2⟩, _⟩ := I.tuple sb
    refine ⟨b, rfl, o2, its2.toArray, n2, e2, c2, d2, ?_⟩
    have e : kss.getD i [] = kss[i] := by rw [List.getD_eq_getElem?_getD, List.getElem?_eq_getElem hi]; rfl
    show ItemsAre _ (kss.getD i []) _
    rw [e]
    exact items_ints (by simpa using r2)
  · obtain ⟨ex, es, ep, t, hd, T, _, _, sk⟩ := st
    have e : es.size = dn kss := by
      rw [sk.len]
      unfold dn
      rw [List.size_toArray, hlen]
    refine ⟨.ref s.heap.objs.size, _, I.laid (t' := tk) kp (Nat.le_refl _) (o := SetN s.heap.objs.size (dn kss)) ?_, rfl, q _ (I.hok.fresh (Nat.le_refl _))⟩
    refine ⟨⟨o, es, ep, t, ho, ex, hd, T.fits, e⟩, ⟨o, ho⟩, fun h1 h2 z k => ?_⟩
    obtain ⟨o, es, ep, t, z1, z2⟩ := z
    exact ⟨o, es, ep, t, k o z1, z2⟩
/-- len of such a set -/
theorem call_lenN : CallR X (.builtin "len") (fun xs H Q => ∃ a n, xs = [.ref a] ∧ H a = some (SetN a n) ∧ n < 1000 ∧ Q (.int n) H) := by
  intro pins s σ H xs us Q I r h
  obtain ⟨a, n, rfl, ha, hn, q⟩ := h
  obtain ⟨u, rfl, ru⟩ := vals1 r
  cases ru
  obtain ⟨⟨o, es, ep, t, z1, z2, z3, z4, z5⟩, _⟩ := I.hok a _ ha
  refine call_len_set z1 z2 z3 z4 (by rw [z5]; omega) ?_
  rw [z5]
  exact ⟨.int n, H, I.tok _, ⟨_, rfl⟩, q⟩
end
end L2

set_option Elab.async false
set_option linter.all false
set_option maxRecDepth 100000
set_option maxHeartbeats 4000000
namespace L2
open PySem PySem.Spec PyProof.Rows
section
variable {prog : Program} {w : World} {A : Around} {E : Value → Shared → Prop} {s : Shared}
theorem applied_rev2 {sl : Addr} {tk : Tok} {Q : Int × Int × Nat → Shared → Prop} (hs : s.heap.IsSliceOf sl .none .none (.int (-1) tk)) (h : Q (1, -1, 2) s) : wpAny (model prog w) A (Builtin.Slice.sliceApplied (.ref sl) (pure (2 : Int))) Q E s := by
  obtain ⟨so, ho, _, hd⟩ := id hs
  unfold Builtin.Slice.sliceApplied Builtin.Slice.sliceFields
  refine wpAny_bind (wpAny_bind (wpAny_field ho hd (x := .none) rfl (wpAny_bind (wpAny_field ho hd (x := .none) rfl (wpAny_bind (wpAny_field ho hd (x := .int (-1) tk) rfl (wpAny_pure (?_ : _))))))))
  refine wpAny_bind (slicePart_int (?_ : _))
  refine id (?_ : wpAny _ _ (if ((-1 : Int) == 0) = true then _ else _) _ _ s)
  rw [if_neg (show ¬ ((-1 : Int) == 0) = true by decide)]
  refine wpAny_bind (slicePart_none (wpAny_bind (slicePart_none (wpAny_bind (wpAny_pure (?_ : _))))))
  exact wpAny_pure h
theorem getItem_rev2 {t sl : Addr} {a b : Value} {tk : Tok} {Q : Value → Shared → Prop} (ht : IsTup s.heap t #[a, b]) (hs : s.heap.IsSliceOf sl .none .none (.int (-1) tk))
    (h : Q (.ref s.heap.objs.size) { s with heap := s.heap.push { cls := .type "tuple", data := .seq #[b, a] } }) : wpAny (model prog w) A (getItem (.ref t) (.ref sl)) Q E s := by
  obtain ⟨so, ho, hc, hd⟩ := id hs
  have ty : s.TypeIs (.ref sl) "slice" := ⟨so, ho, hc⟩
  have ok2 : sizeOk (.seq #[b, a]) := by
    show 2 ≤ sizeLine
    decide
  unfold getItem
  try with_reducible refine wpAny_holding (?_ : _)
  first | refine wpAny_bind (wpAny_pure (?_ : _)) | skip
  refine wpAny_bind (wpAny_sequenceKey ht.typeIs (by decide) (?_ : _))
  refine wpAny_bind (wpAny_callSpecial?_slot (name := Str.ofString "__getitem__") ht.typeIs PyProof.Rows.slot_tuple_getitem (wpAny_call_entry PyProof.Rows.slot_tuple_getitem ht.typeIs entry_tuple_getitem (?_ : _) (args_tuple_getitem _ _)))
  refine wpAny_bind (m := Builtin.Tuple.tupleItemsOf (.ref t)) (tupleItemsOf_ ht (?_ : _))
  refine wpAny_bind (wpAny_typeOf ty (?_ : _))
  rw [if_pos (show _ from by decide)]
  refine wpAny_bind (applied_rev2 hs (?_ : _))
  refine id (?_ : wpAny _ _ (if ((1 : Int) == 0 && (-1 : Int) == 1 && 2 == 2) = true then _ else _) _ _ s)
  rw [if_neg (show ¬ ((1 : Int) == 0 && (-1 : Int) == 1 && 2 == 2) = true by decide)]
  first
    | exact wpAny_bind (m := Builtin.Tuple.tupleExact #[b, a]) (wpAny_newObj_type (wpAny_pure ⟨_, rfl, wpAny_pure h⟩) ok2)
    | exact wpAny_bind (m := Builtin.Tuple.tupleExact #[b, a]) (wpAny_newObj_type (wpAny_bind (wpAny_pure (wpAny_pure ⟨_, rfl, wpAny_pure h⟩))) ok2)
    | exact wpAny_bind (wpAny_bind (m := Builtin.Tuple.tupleExact #[b, a]) (wpAny_newObj_type (wpAny_pure (wpAny_pure ⟨_, rfl, wpAny_pure h⟩)) ok2))
    | exact wpAny_bind (wpAny_bind (m := Builtin.Tuple.tupleExact #[b, a]) (wpAny_newObj_type (wpAny_pure ⟨_, rfl, wpAny_pure h⟩) ok2))
end
section
variable {X : Cx} {e : Expr} {te : TE}
/-- t[::-1] of a pair -/
def tRev2 (K : PySem.W.Frag) (te : TE) : TE := fun σ H Q => te σ H fun x H1 => ∃ a y z, x = .ref a ∧ SqT K H1 a [y, z] ∧ ∀ p, H1 p = none → Q (.ref p) (upd H1 p (.tup [z, y]))
theorem pe_rev2 {j : Nat} {p1 p2 p3 pos : Pos} (he : PE X e te) : PE X (.Subscript e (.Slice none none (some (.UnaryOp .USub (.Constant (.int 1) j p1) p2)) p3) pos) (tRev2 X.K te) := by
  intro pins s σ H Q I h
  refine Subscript_ (thn (he pins s σ H _ I h) fun v s1 ⟨x, H1, I1, r1, q1⟩ => ?_)
  obtain ⟨a, y, z, rfl, hq, q⟩ := q1
  cases r1
  refine wpAny_Slice (?_ : _)
  rw [evalPart_none]
  refine wpAny_pure (wpAny_pure (?_ : _))
  rw [evalPart_some]
  refine thn (pe_un un_neg pe_int pins s1 σ H1 (fun x H2 => x = .int (-1) ∧ H2 = H1) I1 ⟨1, rfl, rfl, rfl⟩) fun u s2 ⟨x2, H2, I2, r2, e2, e3⟩ => ?_
  subst e2
  subst e3
  obtain ⟨tk, rfl⟩ := r2
  have I3 : Inv X pins σ H2 { s2 with heap := s2.heap.push { cls := .type "slice", data := .fields #[.none, .none, .int (-1) tk] } } := I2.kept (t' := s2.toks) fun b ob q => Heap.get?_push_of_some _ q
  obtain ⟨its, r, ht, _⟩ := I3.tuple hq
  obtain ⟨ua, ub, rfl, ra, rb⟩ : ∃ ua ub, its = [ua, ub] ∧ RelV y ua ∧ RelV z ub := by
    cases r with
    | cons p1 p2 =>
      cases p2 with
      | cons p3 p4 =>
        cases p4
        exact ⟨_, _, rfl, p1, p3⟩
  refine id (?_ : wpAny (model X.prog X.w) X.A (subscriptTail e (.Slice none none (some (.UnaryOp .USub (.Constant (.int 1) j p1) p2)) p3) (.ref a) (.ref s2.heap.objs.size)) (EP X pins σ Q) X.xe _)
  refine tail_any (T := "tuple") (ops := [.ref a, .ref s2.heap.objs.size]) ht.typeIs PyProof.Rows.slot_tuple_getitem.lookup (getItem_rev2 ht (Heap.IsSliceOf.new ..) ?_) (by with_unfolding_all rfl)
  refine ⟨.ref _, _, I3.laid (t' := s2.toks) (o := .tup [z, y]) (fun b ob q => Heap.get?_push_of_some _ q) (Nat.le_refl _) ?_, rfl, q _ (I3.hok.fresh (Nat.le_refl _))⟩
  exact ⟨(by show 2 ≤ sizeLine; decide), [ub, ua], .cons rb (.cons ra .nil), IsTup.new _ _⟩
/-- all(..) of a list of truths -/
theorem call_allB (hc : X.calm = true) : CallR X (.builtin "all") (fun xs H Q => ∃ (a : Addr) (bs : List Bool), xs = [.ref a] ∧ SqL X.K H a (bs.map V.bl) ∧ Q (.bl (bs.all id)) H) := by
  intro pins s σ H xs us Q I r h
  obtain ⟨a, bs, rfl, hq, q⟩ := h
  obtain ⟨u, rfl, ru⟩ := vals1 r
  cases ru
  obtain ⟨its, rv, p, _⟩ := I.list hq
  have hl := p.isList
  have hlt : a < s.heap.objs.size := by
    obtain ⟨o, ho, _⟩ := id hl
    exact Heap.lt_size ho
  have hh : X.A.in1.handled = none := by simp [I.ok.hd hc]
  refine call_all_walk (wpAny_pyIter_list hl ?_)
  refine ⟨_, _, _, _, _, _, fun i => bs.getD i false, rfl, Walks.list hh _ a (Nat.ne_of_lt hlt) its.toArray, ⟨⟨_, Heap.get?_push_size _ rfl, rfl, rfl⟩, hl.push _⟩, fun i v s' Q' E' hP hQ => ?_, fun h' tk hk => ?_⟩
  · have hP' : its[i]? = some v := by simpa using hP
    obtain ⟨x, hx, rx⟩ := vals_at rv i v hP'
    rw [List.getElem?_map] at hx
    cases e : bs[i]? with
    | none => rw [e] at hx; cases hx
    | some b =>
      rw [e] at hx
      cases hx
      cases rx
      have e2 : bs.getD i false = b := by rw [List.getD_eq_getElem?_getD, e]; rfl
      dsimp only at hQ
      rw [e2] at hQ
      exact wpAny_truthy_bool hQ
  · have kp : ∀ b o, s.heap.get? b = some o → h'.get? b = some o := fun b o hb => hk b o (by
      have := Heap.lt_size hb
      simp only [List.mem_singleton]
      exact Nat.ne_of_lt this) (Heap.get?_push_of_some _ hb)
    have len : its.toArray.size = bs.length := by rw [List.size_toArray, ← rv.length, List.length_map]
    refine ⟨.bl _, H, I.kept (t' := tk) kp, rfl, ?_⟩
    have e : (List.range its.toArray.size).all (fun i => bs.getD i false) = bs.all id := by
      rw [len]
      rw [Bool.eq_iff_iff, List.all_eq_true, List.all_eq_true]
      constructor
      · intro h b hb
        obtain ⟨i, hi⟩ := List.getElem?_of_mem hb
        have := h i (List.mem_range.mpr (List.getElem?_eq_some_iff.mp hi).1)
        rw [List.getD_eq_getElem?_getD, hi] at this
        exact this
      · intro h i hi
        have hi' := List.mem_range.mp hi
        rw [List.getD_eq_getElem?_getD, List.getElem?_eq_getElem hi']
        exact h _ (List.getElem_mem hi')
    rw [e]
    exact q
/-- in, of a list of tuples of numbers -/
theorem op_inT (hu : X.A.units + 8 < cLine) : OpR X (compareOp .In) (fun x y H Q => ∃ (b p : Addr) (ys : List V) (ks : List Int) (kss : List (List Int)), x = .ref b ∧ y = .ref p ∧ SqT X.K H b (ks.map V.int) ∧ SqL X.K H p ys ∧ TupsAt X.K H ys kss ∧ Q (.bl (decide (ks ∈ kss))) H) := by
  intro pins s σ H x y v u Q I rx ry h
  obtain ⟨b, p, ys, ks, kss, rfl, rfl, hb, hq, tu, q⟩ := h
  cases rx
  cases ry
  obtain ⟨its, rv, pl, _⟩ := I.list hq
  have key : ∀ {P : Program} {w : World} {a : Addr} {ns : List Int}, SqT X.K H a (ns.map V.int) → IsTupleKey (intKind P w) s.heap ns a := fun {P w a ns} ha => by
    obtain ⟨its2, r2, ⟨o2, e2, c2, n2, d2⟩, _⟩ := I.tuple ha
    exact ⟨o2, its2.toArray, n2, e2, c2, d2, items_ints (by simpa using r2)⟩
  have hlen : its.length = kss.length := by rw [← rv.length, tu.1]
  have at_ : ∀ (i : Nat) (v : Value), its[i]? = some v → ∃ a ns, v = .ref a ∧ kss[i]? = some ns ∧ SqT X.K H a (ns.map V.int) := fun i v hv => by
    obtain ⟨x, hx, rx⟩ := vals_at rv i v hv
    have hi : i < kss.length := by
      have := (List.getElem?_eq_some_iff.mp hv).1
      omega
    obtain ⟨a, rfl, sa⟩ := tu.2 i x kss[i] hx (List.getElem?_eq_getElem hi)
    cases rx
    exact ⟨a, _, rfl, List.getElem?_eq_getElem hi, sa⟩
  refine SeqAt.in_listAt (fun v => @decide (∃ i : Nat, its[i]? = some v ∧ kss[i]? = some ks) (Classical.propDecidable _)) pl.isList (fun v hv => ?_) ⟨.bl _, H, I, rfl, ?_⟩
  · have hv' : v ∈ its := by simpa using hv
    obtain ⟨i, hi⟩ := List.getElem?_of_mem hv'
    obtain ⟨a, ns, rfl, hk, sa⟩ := at_ i v hi
    have e : @decide (∃ i : Nat, its[i]? = some (Value.ref a) ∧ kss[i]? = some ks) (Classical.propDecidable _) = decide (ns = ks) := by
      rw [Bool.eq_iff_iff, @decide_eq_true_iff _ (Classical.propDecidable _), decide_eq_true_iff]
      constructor
      · rintro ⟨j, h1, h2⟩
        obtain ⟨a2, ns2, e1, h3, s3⟩ := at_ j _ h1
        cases e1
        rw [h2] at h3
        cases h3
        exact (key (P := X.prog) (w := X.w) sa).inj (key s3)
      · rintro rfl
        exact ⟨i, hi, hk⟩
    rw [e]
    exact fun P w E' Q' hQ => wpAny_eqBool_tuple (knd := intKind P w) (by simp; omega) (key sa) (key hb) hQ
  · have e : its.toArray.any (fun v => @decide (∃ i : Nat, its[i]? = some v ∧ kss[i]? = some ks) (Classical.propDecidable _)) = decide (ks ∈ kss) := by
      rw [List.any_toArray, Bool.eq_iff_iff, List.any_eq_true, decide_eq_true_iff]
      constructor
      · rintro ⟨v, _, h2⟩
        obtain ⟨i, _, h3⟩ := @of_decide_eq_true _ (Classical.propDecidable _) h2
        exact List.mem_of_getElem? h3
      · intro h
        obtain ⟨i, hi⟩ := List.getElem?_of_mem h
        have li : i < its.length := by
          have := (List.getElem?_eq_some_iff.mp hi).1
          omega
        exact ⟨its[i], List.getElem_mem li, @decide_eq_true _ (Classical.propDecidable _) ⟨i, List.getElem?_eq_getElem li, hi⟩⟩
    rw [e]
    exact q
end
end L2

set_option Elab.async false
set_option linter.all false
set_option maxRecDepth 100000
set_option maxHeartbeats 4000000
namespace L2
open PySem PySem.Spec PyProof.Rows
theorem new_same {H : Hp} {a : Addr} {o : HO} (h : H a = none) : Same H (upd H a o) := fun b u e => by rw [upd_ne (ne_of_none e h)]; exact e
theorem Same.tup {K : PySem.W.Frag} {H H' : Hp} {a : Addr} {xs : List V} (e : Same H H') (h : SqT K H a xs) : SqT K H' a xs := by
  rcases h with (h | ⟨o, h⟩) | h
  · exact .inl (.inl (e _ _ h))
  · exact .inl (.inr ⟨o, e _ _ h⟩)
  · exact .inr h
/-- all stays but the list at a -/
def Mv (a : Addr) (H H' : Hp) : Prop := ∀ p o, p ≠ a → H p = some o → H' p = some o
theorem Mv.refl (a : Addr) (H : Hp) : Mv a H H := fun _ _ _ h => h
theorem Mv.trans {a : Addr} {H H1 H2 : Hp} (x : Mv a H H1) (y : Mv a H1 H2) : Mv a H H2 := fun p o n h => y p o n (x p o n h)
theorem Mv.of {a : Addr} {H H1 : Hp} (x : Same H H1) : Mv a H H1 := fun p o _ h => x p o h
theorem Mv.upd (a : Addr) (H : Hp) (o : HO) : Mv a H (upd H a o) := fun p u n h => by rw [upd_ne n]; exact h
theorem Mv.tup {K : PySem.W.Frag} {a b : Addr} {H H' : Hp} {ys xs : List V} (e : Mv a H H') (ha : H a = some (.lst ys)) (h : SqT K H b xs) : SqT K H' b xs := by
  rcases h with (h | ⟨o, h⟩) | h
  · exact .inl (.inl (e _ _ (ne_of h ha (by intro z; cases z)) h))
  · exact .inl (.inr ⟨o, e _ _ (ne_of h ha (by intro z; cases z)) h⟩)
  · exact .inr h
theorem Mv.lst {K : PySem.W.Frag} {a b : Addr} {H H' : Hp} {xs : List V} (e : Mv a H H') (n : b ≠ a) (h : SqL K H b xs) : SqL K H' b xs := by
  rcases h with (h | ⟨o, h⟩) | h
  · exact .inl (.inl (e _ _ n h))
  · exact .inl (.inr ⟨o, e _ _ n h⟩)
  · exact .inr h
/-- a def of the text that is known by its promise -/
def Has (P : Program) (w : World) (K : PySem.W.Frag) (mg : Str → Option Value) (base : Heap) (k : Nat) (x : Str) (ps : List Str) (sp : Sp) : Prop :=
  ∃ f fd, mg x = some (.ref f) ∧ PySem.W.keepIn K (.ref f) = true ∧ Binds K fd ps [] ∧ FnOk P w K mg base CX0 k f fd ps sp
theorem pe_has {X : Cx} {k : Nat} {ps : List Str} {sp : Sp} {x : Str} {p pos : Pos} {e : Expr} {es : List Expr} {t : TA} (h : Has X.prog X.w X.K X.mg X.base k x ps sp) (hr : Room k X.A) (hg : Gl X x)
    (ha : PA X (e :: es) t) (hdb : (x == ("__debug__" : Str)) = false := by decide) (he : starEach (e :: es) X.env = (false, eval e X.env) :: starEach es X.env := by rfl) (hpl : (backTo pos (starEach es X.env)).any (·.1) = false := by rfl) :
    PE X (.Call (.Name x p) (e :: es) [] pos) (tCall sp [] E0 t) := by
  obtain ⟨f, fd, h1, h2, h3, h4⟩ := h
  exact pe_call h4 hr hg h1 h2 h3 .nil pass0 ha hdb he hpl
end L2

set_option Elab.async false
set_option linter.all false
set_option maxRecDepth 100000
set_option maxHeartbeats 4000000
namespace L2
open PySem PySem.Spec PyProof.Rows
/-! ### a comprehension whose own variable stands in a cell (an inner one takes it) -/
abbrev cellO : Obj := { cls := .type "cell", data := .cell none }
def Cx.blockC (X : Cx) (scope : Scope) (x : Str) (C c : Addr) (NB : List Str) (s2 : Shared) (H2 : Hp) (fp : List Addr) : Cx :=
  { X with N := NB, s₀ := s2, H₀ := H2, env := compEnvC scope ((x, c) :: closOf X.env.cells scope.names []) C X.env, outer := X.stack, ex := fp, fn := fun y => y == x, pn := [], xe := fun _ _ => False }
structure BlockC (X : Cx) (scope : Scope) (x : Str) (NB : List Str) (ix : List Nat) : Prop where
  kind : scope.kind = .function
  cell : ∀ y ∈ scope.names, y.2 = .cell → y.1 = x
  names : ∀ y ∈ scope.names, y.2 = .local → scope.names.lookup y.1 = some .local
  free : ∀ y, (y, NameKind.free) ∈ scope.names → (X.env.kindOf y = some .cell ∨ X.env.kindOf y = some .free)
  nofree : (x, NameKind.free) ∉ scope.names
  var : scope.names.lookup x = some .cell
  nb : NB = x :: ix.map fun i => X.N.getD i x
  nd : NB.Nodup
  cap : ∀ i ∈ ix, ∃ y, X.N[i]? = some y ∧ scope.names.lookup y = some .free
  cf : ∀ (n : Nat) (acc : List (Str × Addr)), cellsFrom n scope.names acc = (x, n) :: acc
  pc : ∀ h : Heap, pushCells h scope.names = h.push cellO
section
variable {M : Model} {A : Around} {E : Value → Shared → Prop} {s : Shared} {X : Cx} {scope : Scope} {x : Str} {NB : List Str} {ix : List Nat}
theorem envC {cl : List (Str × Addr)} {g : Addr} {ql : Str} {env : Env} {Q : Env → Shared → Prop} (B : BlockC X scope x NB ix)
    (q : Q { scope := scope, locals := s.heap.objs.size, globals := g, cells := (x, s.heap.objs.size + 1) :: cl, qual := ql, func := none, code := env.code, frame := env.frame, builtins := env.builtins } { s with heap := (s.heap.push { cls := .type "dict", data := .dict #[] }).push cellO }) :
    wpAny M A (newFunctionEnv scope g cl [] ql none .none (some env)) Q E s := by
  simp only [newFunctionEnv, Option.isSome_some, if_true]
  refine wpAny_bind (wpAny_alloc (?_ : _))
  refine wpAny_bind (wpAny_layCells _ (fun name kind cells => by cases hkc : kind == NameKind.cell <;> simp [hkc]) _ _ _ _ (?_ : _))
  rw [B.cf, B.pc]
  rw [show ({ s with heap := s.heap.push { cls := .type "dict", data := .dict #[] } } : Shared).heap.objs.size = s.heap.objs.size + 1 from Heap.size_push ..]
  rw [List.forIn_nil]
  exact wpAny_bind (wpAny_pure (wpAny_pure q))
end
section
variable {X : Cx} {scope : Scope} {x : Str} {NB : List Str} {ix : List Nat} {pins : List (Addr × Obj)} {σ : St} {H2 : Hp} {s2 : Shared} {fp : List Addr}
theorem BlockC.clos (B : BlockC X scope x NB ix) (I2 : Inv X pins σ H2 s2) : closureFor scope X.env = pure (closOf X.env.cells scope.names []) :=
  closureFor_clos fun n hn => I2.ok.has n (B.free n hn)
theorem BlockC.look (B : BlockC X scope x NB ix) (I2 : Inv X pins σ H2 s2) {y : Str} {c c' : Addr} (h : ((x, c) :: closOf X.env.cells scope.names []).lookup y = some c') : (y = x ∧ c' = c) ∨ X.env.cells.lookup y = some c' := by
  rw [List.lookup_cons] at h
  cases q : (y == x) with
  | true =>
    rw [q] at h
    exact .inl ⟨by simpa using q, (Option.some.inj h).symm⟩
  | false =>
    rw [q] at h
    rcases closOf_look _ _ h with ⟨m, e⟩ | e
    · obtain ⟨c2, hc⟩ := I2.ok.has y (B.free y m)
      rw [hc] at e ⊢
      exact .inr (congrArg some e)
    · cases e
theorem BlockC.apart (B : BlockC X scope x NB ix) (I2 : Inv X pins σ H2 s2) {y : Str} {c c' b : Addr} (hc : s2.heap.objs.size ≤ c) (h : ((x, c) :: closOf X.env.cells scope.names []).lookup y = some c') (hb : b < s2.heap.objs.size) (nb : ∀ z d, X.env.cells.lookup z = some d → d ≠ b) : c' ≠ b := by
  rcases B.look I2 h with ⟨_, rfl⟩ | e
  · exact Nat.ne_of_gt (Nat.lt_of_lt_of_le hb hc)
  · exact nb y c' e
theorem relab_cell {env : Env} {y : Str} {names : List (Str × NameKind)} (h : names.lookup y = some .cell) : (relabel { (default : Scope) with names := names } env).names.lookup y = some .cell := by
  rcases relab_some (env := env) h with e | ⟨e, _⟩
  · exact e
  · cases e
theorem old_cell (I2 : Inv X pins σ H2 s2) {y : Str} {c : Addr} (e : X.env.cells.lookup y = some c) : c < s2.heap.objs.size := by
  obtain ⟨v, q⟩ := I2.cell y c e
  exact q.lt
theorem blockC_ok (B : BlockC X scope x NB ix) (I2 : Inv X pins σ H2 s2) {C c : Addr} (hC : s2.heap.objs.size ≤ C) (hc : s2.heap.objs.size ≤ c) (f2 : ∀ b ∈ fp, FpOk X pins H2 b) (ft : ∀ b ∈ fp, b < s2.heap.objs.size) : (X.blockC scope x C c NB s2 H2 fp).Ok where
  mod := I2.ok.mod
  kind := B.kind
  glob := I2.ok.glob
  blt := I2.ok.blt
  above := hC
  inj := fun a b d h1 h2 => by
    rcases B.look I2 h1 with ⟨e1, e2⟩ | e1 <;> rcases B.look I2 h2 with ⟨e3, e4⟩ | e3
    · rw [e1, e3]
    · exact absurd (Nat.lt_of_lt_of_le (old_cell I2 e3) (e2 ▸ hc)) (Nat.lt_irrefl _)
    · exact absurd (Nat.lt_of_lt_of_le (old_cell I2 e1) (e4 ▸ hc)) (Nat.lt_irrefl _)
    · exact I2.ok.inj a b d e1 e3
  has := fun y hy => by
    show ∃ d, ((x, c) :: closOf X.env.cells scope.names []).lookup y = some d
    rw [List.lookup_cons]
    cases q : (y == x) with
    | true => exact ⟨c, rfl⟩
    | false =>
      have nx : y ≠ x := fun z => by rw [z, beq_self_eq_true] at q; cases q
      have key : ∀ k, (relabel scope X.env).names.lookup y = some k → (k = .cell ∨ k = .free) → ∃ d, (closOf X.env.cells scope.names []).lookup y = some d := fun k hk kk => by
        rcases relab_of (names := scope.names) hk with e | ⟨e, _⟩
        · rcases kk with rfl | rfl
          · exact absurd (B.cell _ (look_mem e) rfl) nx
          · exact closOf_has _ _ (.inl (look_mem e))
        · exact closOf_has _ _ (.inl (look_mem e))
      rcases hy with e | e
      · exact key _ e (.inl rfl)
      · exact key _ e (.inr rfl)
  cab := fun y d z e => by
    rcases B.look I2 e with ⟨_, rfl⟩ | e
    · exact hc
    · have z : (y == x) = true := z
      have yx : y = x := by simpa using z
      have h : ((x, c) :: closOf X.env.cells scope.names []).lookup y = some d := ‹_›
      rw [List.lookup_cons, z] at h
      cases h
      exact hc
  hd := I2.ok.hd
  frames := I2.ok.frames
  stk := .inl rfl
  exf := fun b hb => ⟨Nat.ne_of_lt (Nat.lt_of_lt_of_le (ft b hb) hC), fun y d e => B.apart I2 hc e (ft b hb) (f2 b hb).2.2.2.2.1⟩
  bs := I2.bs
  bsz := Nat.le_trans I2.ok.bsz I2.sz
  noex := fun b o e hb => by
    rcases (f2 b hb).2.2.2.1 with z | z
    · exact I2.ok.noex b o e z
    · exact absurd (Nat.lt_of_lt_of_le (Heap.lt_size (I2.ok.bs b o e).1) z) (Nat.lt_irrefl _)
  exfs := fun b hb z => by
    rcases List.mem_cons.mp (I2.stkSub b z) with e | e
    · exact (f2 b hb).2.1 e
    · exact (f2 b hb).2.2.1 e
  funs := I2.stack
  frf := I2.stkFree
end
end L2

set_option Elab.async false
set_option linter.all false
set_option maxRecDepth 100000
set_option maxHeartbeats 4000000
namespace L2
open PySem PySem.Spec PyProof.Rows
section
variable {X : Cx} {scope : Scope} {x : Str} {NB : List Str} {ix : List Nat} {pins : List (Addr × Obj)} {σ : St} {H2 : Hp} {s2 : Shared} {fp : List Addr}
theorem blockC_inv (B : BlockC X scope x NB ix) (I2 : Inv X pins σ H2 s2) {C c D : Addr} {h1 : Heap} {tk : Nat} {m : Str → Option Value} {oD : Obj} (hC : s2.heap.objs.size ≤ C) (hD : s2.heap.objs.size ≤ D) (hDC : D ≠ C) (hc : s2.heap.objs.size ≤ c) (hcc : h1.IsCell c none) (f2 : ∀ b ∈ fp, FpOk X pins H2 b) (ft : ∀ b ∈ fp, b < s2.heap.objs.size)
    (old : ∀ b o, s2.heap.get? b = some o → h1.get? b = some o) (hn : h1.Ns C m) (ho : h1.get? D = some oD) (hcl : ∀ v, oD.data ≠ .cell v) :
    Inv (X.blockC scope x C c NB s2 H2 fp) [(D, oD)] (none :: caps ix σ) H2 { s2 with heap := h1, toks := tk } where
  ok := blockC_ok B I2 hC hc f2 ft
  os := rfl
  bare := I2.bare
  base := Un.kept old
  loc := by
    refine ⟨m, hn, fun i y v e1 e2 _ => ?_⟩
    have e1 : NB[i]? = some y := e1
    cases i with
    | zero => cases e2
    | succ j =>
      have e2 : (caps ix σ)[j]? = some (some v) := e2
      rw [B.nb] at e1
      have e1 : (ix.map fun i => X.N.getD i x)[j]? = some y := e1
      rw [List.getElem?_map] at e1
      unfold caps at e2
      rw [List.getElem?_map] at e2
      cases q : ix[j]? with
      | none => rw [q] at e1; cases e1
      | some i =>
        rw [q] at e1 e2
        obtain ⟨z, hz, fz⟩ := B.cap i (List.mem_of_getElem? q)
        have ey : y = z := by
          have w : X.N.getD i x = y := Option.some.inj e1
          rw [← w, List.getD_eq_getElem?_getD, hz]
          rfl
        subst ey
        have e2 : (σ[i]?).join = some v := Option.some.inj e2
        have es : σ[i]? = some (some v) := by
          cases w : σ[i]? with
          | none => rw [w] at e2; cases e2
          | some o => rw [w] at e2; exact congrArg some e2
        have fk := B.free y (look_mem fz)
        have vis : Vis X.env.scope y := .inr fk
        obtain ⟨mm, _, hl⟩ := I2.loc
        obtain ⟨u, ru, lk⟩ := hl i y v hz es vis
        refine ⟨u, ru, .inr ⟨?_, ?_⟩⟩
        · rcases relab_some (env := X.env) (names := scope.names) fz with e | ⟨_, e⟩
          · exact .inr e
          · exact .inl e
        · rcases lk with ⟨lk, _⟩ | ⟨_, d, hd, hcell⟩
          · rcases fk with fk | fk
            · rw [lk] at fk; cases fk
            · rw [lk] at fk; cases fk
          · obtain ⟨c', hc'⟩ := closOf_has (cells := X.env.cells) scope.names [] (.inl (look_mem fz))
            have nx : (y == x) = false := by
              cases q : (y == x) with
              | false => rfl
              | true =>
                have e : y = x := by simpa using q
                exact absurd (e ▸ look_mem fz) B.nofree
            have hc2 : ((x, c) :: closOf X.env.cells scope.names []).lookup y = some c' := by
              rw [List.lookup_cons, nx]
              exact hc'
            have e3 : X.env.cells.lookup y = some c' := by
              rcases B.look I2 hc2 with ⟨e, _⟩ | e
              · rw [e, beq_self_eq_true] at nx
                cases nx
              · exact e
            rw [hd] at e3
            cases e3
            obtain ⟨oc, g1, g2⟩ := hcell
            exact ⟨d, hc2, oc, old _ _ g1, g2⟩
  cell := fun y d e => by
    rcases B.look I2 e with ⟨_, rfl⟩ | e
    · exact ⟨none, hcc⟩
    · obtain ⟨v, o, g1, g2⟩ := I2.cell y d e
      exact ⟨v, o, old _ _ g1, g2⟩
  free := I2.hok.fresh hC
  freeC := fun y d e => by
    rcases B.look I2 e with ⟨_, rfl⟩ | e
    · exact I2.hok.fresh hc
    · exact I2.freeC y d e
  pin := fun p hp => by
    have e : p = (D, oD) := by simpa [Cx.blockC] using hp
    subst e
    refine ⟨ho, I2.hok.fresh hD, hDC, fun z => ?_, hcl⟩
    rcases List.mem_cons.mp (I2.stkSub D z) with e | e
    · have e : D = X.env.locals := e
      exact absurd (Nat.lt_of_lt_of_le I2.lt (e ▸ hD)) (Nat.lt_irrefl _)
    · exact I2.nofs hD e
  hok := I2.hok.kept old
  len := by
    show (none :: caps ix σ).length = NB.length
    rw [B.nb, List.length_cons, List.length_cons, caps_len, List.length_map]
theorem blockC_end {C c D : Addr} {H' : Hp} {s4 : Shared} {σB : St} {its : List Value} {n : Nat} {ys : List V} (I2 : Inv X pins σ H2 s2) (f2 : ∀ b ∈ fp, FpOk X pins H2 b) (hD : s2.heap.objs.size ≤ D)
    (I4 : Inv (X.blockC scope x C c NB s2 H2 fp) [(D, lstO its n)] σB H' s4) (rv : Vals ys its) (hz : ys.length ≤ sizeLine) : Inv X pins σ (upd H' D (.lst ys)) s4 := by
  have hp := I4.pin (D, lstO its n) (by show _ ∈ [] ++ [(D, lstO its n)]; simp)
  have hfree : H' D = none := hp.2.1
  have neD : ∀ b o, s2.heap.get? b = some o → b ≠ D := fun b o e => Nat.ne_of_lt (Nat.lt_of_lt_of_le (Heap.lt_size e) hD)
  have neT : ∀ b o, H2 b = some o → b ≠ D := fun b o e => Nat.ne_of_lt (Nat.lt_of_lt_of_le (I2.hok.lt e) hD)
  have u : Un (frs X.stack) fp H2 H' s2.heap s4.heap := I4.base
  refine I2.call' (ch := fp) I4.os ⟨u.keep, u.slot, fun b o e n hx => ?_, u.there, fun b xs e => ?_, fun b o v e => ?_, fun b ps e => ?_⟩ (fun b o e => ?_) I4.bare fun b hb => ?_
  · rw [upd_ne (neD b o e)]
    exact u.free b o e n hx
  · rw [upd_ne (neT b _ e)]
    exact u.tups b xs e
  · rw [upd_ne (neT b _ e)]
    exact u.frzs b o v e
  · rw [upd_ne (neT b _ e)]
    exact u.tbls b ps e
  · by_cases hb : b = D
    · subst hb
      rw [upd_same] at e
      cases e
      exact ⟨hz, its, n, rv, hp.1⟩
    · rw [upd_ne hb] at e
      have ne : ∀ {c : Addr} {w : HO}, H' c = some w → c ≠ D := fun {c w} q z => by rw [z, hfree] at q; cases q
      exact (I4.hok b o e).stay (fun _ _ _ q => q) (fun c q => by rw [upd_ne (ne q)]; exact q) fun c xs q => by rw [upd_ne (ne q)]; exact q
  · obtain ⟨_, g1, g2, g3, g4, g5⟩ := f2 b hb
    exact ⟨g3, g1, g4, g5⟩

theorem compC_core {elt iter : Expr} {ifs : List Expr} {px pos : Pos} {tt : TT} {te : TE} {J : It} {it : Addr} {tn : Nat → Heap → Prop} {E : Value → Shared → Prop} {RR : Value → Addr → Result → Shared → Prop} {Qr : VK}
    (B : BlockC X scope x NB ix) (hc : X.calm = true)
    (he : ∀ (C c : Addr) (s : Shared) (H : Hp) (fp : List Addr), PE (X.blockC scope x C c NB s H fp) elt te) (ht : ∀ (C c : Addr) (s : Shared) (H : Hp) (fp : List Addr), PTs (X.blockC scope x C c NB s H fp) ifs tt)
    (I2 : Inv X pins σ H2 s2) (T : Turn X.prog X.w X.K (.Name x px) J fp it tn) (st2 : tn 0 s2.heap) (f2 : ∀ b ∈ fp, FpOk X pins H2 b) (h : CompW J (caps ix σ) tt te H2 Qr)
    (hRR : ∀ (D C : Addr) (Hf : Hp) (s' : Shared) (m' : Str → Option Value), Inv X pins σ Hf s' → s'.heap.Ns C m' → FpOk X pins Hf C → Qr (.ref D) Hf → RR (.ref D) C (.ok .next) s') :
    wpAny (model X.prog X.w) X.A (newList []) (fun acc s3 => wpAny (model X.prog X.w) X.A (newFunctionEnv scope X.env.globals (closOf X.env.cells scope.names []) [] X.env.qual none .none (some X.env)) (fun cenv s4 =>
      codeAny (model X.prog X.w) X.A (.compStart (.ListComp elt [⟨.Name x px, iter, ifs, 0⟩] scope pos) 0 (.ref it) acc { cenv with scope := relabel scope X.env }) (RR acc cenv.locals) s4) E s3) E s2 := by
  obtain ⟨W, ⟨m0, w0⟩, turn⟩ := h
  refine wpAny_newObj_type (envC B ?_)
  dsimp only
  generalize eG : s2.heap.push { cls := .type "list", dict := none, data := .seq ([] : List Value).toArray } = G
  obtain ⟨h1, eh1⟩ : ∃ h1, h1 = (G.push { cls := .type "dict", data := .dict #[] }).push { cls := .type "cell", data := .cell none } := ⟨_, rfl⟩
  rw [← eh1]
  have hC : G.objs.size = s2.heap.objs.size + 1 := by rw [← eG, Heap.size_push]
  have hDC : s2.heap.objs.size ≠ G.objs.size := by rw [hC]; exact Nat.ne_of_lt (Nat.lt_succ_self _)
  have hCle : s2.heap.objs.size ≤ G.objs.size := by rw [hC]; exact Nat.le_succ _
  have up : ∀ b o, G.get? b = some o → h1.get? b = some o := fun b o e => by
    rw [eh1]
    exact Heap.get?_push_of_some _ (Heap.get?_push_of_some _ e)
  have old : ∀ b o, s2.heap.get? b = some o → h1.get? b = some o := fun b o e => up b o (eG ▸ Heap.get?_push_of_some _ e)
  have hacc : h1.get? s2.heap.objs.size = some (lstO [] 0) := up _ _ (eG ▸ Heap.get?_push_size _ rfl)
  have hns : h1.Ns G.objs.size (fun _ => none) := by
    rw [eh1]
    exact (Heap.Ns.new G (.type "dict")).keeps fun b o e => Heap.get?_push_of_some _ e
  have hcc : h1.IsCell (G.objs.size + 1) none := by
    rw [eh1]
    refine ⟨cellO, ?_, rfl⟩
    have e := Heap.get?_push_size (G.push { cls := .type "dict", data := .dict #[] }) (o := cellO) rfl
    rw [Heap.size_push] at e
    exact e
  have hcle : s2.heap.objs.size ≤ G.objs.size + 1 := Nat.le_succ_of_le hCle
  have ft : ∀ b ∈ fp, b < s2.heap.objs.size := fun b hb => by
    obtain ⟨o, e, _⟩ := T.obj _ _ st2 b hb
    exact Heap.lt_size e
  have loop : ∀ s3 : Shared, s3 = { s2 with heap := h1 } →
      codeAny (model X.prog X.w) X.A (.compLoop (.ListComp elt [⟨.Name x px, iter, ifs, 0⟩] scope pos) 0 (.ref it) (.ref s2.heap.objs.size) (compEnvC scope ((x, G.objs.size + 1) :: closOf X.env.cells scope.names []) G.objs.size X.env))
        (RR (.ref s2.heap.objs.size) G.objs.size) s3 := by
    rintro s3 rfl
    have I3 := blockC_inv (tk := s2.toks) B I2 hCle (Nat.le_refl _) hDC hcle hcc f2 ft old hns hacc (fun v q => by cases q)
    have st3 : tn 0 h1 := T.keep _ _ _ st2 fun b _ o e => old b o e
    have fy : ∀ {H' : Hp} {oD : Obj}, (∀ b ∈ fp, H' b = none) → ∀ b ∈ fp, FpOk (X.blockC scope x G.objs.size (G.objs.size + 1) NB s2 H2 fp) [(s2.heap.objs.size, oD)] H' b := fun {H' oD} hn b hb => by
      refine ⟨hn b hb, Nat.ne_of_lt (Nat.lt_of_lt_of_le (ft b hb) hCle), fun z => ?_, .inl hb, fun y c e => B.apart I2 hcle e (ft b hb) (f2 b hb).2.2.2.2.1, fun p hp => ?_⟩
      · rcases List.mem_cons.mp (I2.stkSub b z) with e | e
        · exact (f2 b hb).2.1 e
        · exact (f2 b hb).2.2.1 e
      · have e : p = (s2.heap.objs.size, oD) := by simpa [Cx.blockC] using hp
        subst e
        exact Ne.symm (Nat.ne_of_lt (ft b hb))
    refine codeAny_compLoop_tests (fun n s' => ∃ i ys its nn o H', W i n ys H' ∧ Inv (X.blockC scope x G.objs.size (G.objs.size + 1) NB s2 H2 fp) [(s2.heap.objs.size, lstO its nn)] (o :: caps ix σ) H' s' ∧ tn i s'.heap ∧ (∀ b ∈ fp, H' b = none) ∧ Vals ys its ∧ ys.length ≤ sizeLine)
      ?_ m0 ⟨0, [], [], 0, none, H2, w0, I3, st3, fun b hb => (f2 b hb).1, .nil, Nat.zero_le _⟩
    rintro n s' ⟨i, ys, its, nn, o, H', w', I', st', fr', rv, hz⟩
    rcases turn i n ys H' w' with ⟨stop, q⟩ | ⟨go, hlt, Nx, hNx, step⟩
    · refine wpAny_mono (T.done (X.blockC scope x G.objs.size (G.objs.size + 1) NB s2 H2 fp) rfl rfl rfl hc i _ s' _ H' (fun _ _ => False) I' (fy fr') st' stop) (fun r s4 ⟨hr, I4⟩ => ?_) fun _ _ z => z.elim
      subst hr
      have I5 := blockC_end I2 f2 (Nat.le_refl _) I4 rv hz
      obtain ⟨m4, hn4, _⟩ := I4.loc
      have hfree : H' s2.heap.objs.size = none := (I4.pin (s2.heap.objs.size, lstO its nn) (by show _ ∈ [] ++ [(s2.heap.objs.size, lstO its nn)]; simp)).2.1
      refine hRR _ _ _ s4 m4 I5 hn4 (I2.fpOk hCle ?_) (q _ hfree)
      rw [upd_ne (Ne.symm hDC)]
      exact I4.free
    · refine wpAny_mono (T.item (X.blockC scope x G.objs.size (G.objs.size + 1) NB s2 H2 fp) rfl rfl rfl hc i _ s' _ H' (fun _ _ => False) I' (fy fr') st' go) (fun r s4 ⟨u, hr, h4⟩ => ?_) fun _ _ z => z.elim
      subst hr
      intro Γ p hΓ
      obtain ⟨v, H5, I5, r5, y5, st5, fr5⟩ := h4 Γ p hΓ
      refine (?_ : wpAny (model X.prog X.w) X.A _ _ _ s4) Γ p hΓ
      have pIt : ∀ b ∈ fp, ∃ o, s4.heap.get? b = some o ∧ ∀ v, o.data ≠ .cell v := T.obj _ _ st5
      have I5' := I5.pinned (fy fr5) pIt
      have hg := pg_name (X := X.blockC scope x G.objs.size (G.objs.size + 1) NB s2 H2 fp) (i := 0) (x := x) (pos := px) B.nd (by show NB[0]? = some x; rw [B.nb]; rfl)
        (.inr (relab_cell B.var)) (.inl (beq_self_eq_true x))
      refine wpAny_mono (hg _ s4 _ H5 v u (fun σ' H' => σ' = some v :: caps ix σ ∧ H' = H5) I5' r5 ⟨rfl, rfl⟩) (fun _ s6 h6 => ?_) fun _ _ z => z.elim
      obtain ⟨σ6, H6, I6, e6, e7⟩ := h6
      subst e6 e7
      refine wpAny_mono (ht _ _ _ _ _ _ s6 _ _ _ I6 (step v H6 y5)) (fun b s7 ⟨H7, I7, q7⟩ => ?_) fun _ _ z => z.elim
      -- what stays of the iterator
      have stays : ∀ {s9 : Shared} {H9 : Hp} {σ9 : St} {oD : Obj}, Inv (X.blockC scope x G.objs.size (G.objs.size + 1) NB s2 H2 fp) ([(s2.heap.objs.size, oD)] ++ pinsAt fp s4.heap) σ9 H9 s9 → tn (i + 1) s9.heap ∧ ∀ b ∈ fp, H9 b = none := fun {s9 H9 σ9 oD} I9 => by
        refine ⟨T.keep _ _ _ st5 fun b hb o e => (I9.pin (b, o) (List.mem_append_right _ (List.mem_append_right _ (mem_pinsAt hb e)))).1, fun b hb => ?_⟩
        obtain ⟨o, e, d⟩ := pIt b hb
        exact (I9.pin (b, o) (List.mem_append_right _ (List.mem_append_right _ (mem_pinsAt hb e)))).2.1
      cases b with
      | false =>
        rw [if_neg Bool.false_ne_true] at q7 ⊢
        obtain ⟨m', hm, w7⟩ := hNx _ _ q7
        obtain ⟨g1, g2⟩ := stays I7
        exact ⟨m', hm, i + 1, ys, its, nn, some v, H7, w7, I7.unpinned, g1, g2, rv, hz⟩
      | true =>
        rw [if_pos rfl] at q7 ⊢
        refine wpAny_mono (he _ _ _ _ _ _ s7 _ _ _ I7 q7) (fun y s8 ⟨yv, H8, I8, r8, n8⟩ => ?_) fun _ _ z => z.elim
        obtain ⟨m', hm, w8⟩ := hNx _ _ n8
        obtain ⟨g1, g2⟩ := stays I8
        have pD := I8.pin (s2.heap.objs.size, lstO its nn) (by show _ ∈ [] ++ ([(s2.heap.objs.size, lstO its nn)] ++ pinsAt fp s4.heap); simp)
        refine append_at (hsz := by rw [List.size_toArray, ← rv.length]; exact hz) pD.1 fun h9 hs9 hD9 => ?_
        have hno : s2.heap.objs.size ∉ fp := fun z => Nat.lt_irrefl _ (ft _ z)
        have I8u := I8.unpinned
        have I8n := I8u.pins_of (pins' := []) (fun _ z => nomatch z)
        have I9 := I8n.turned (h' := h9) (t' := s8.toks) (it := s2.heap.objs.size) (fun b o hb e => hs9.extBut b o hb e) pD.2.1 pD.2.2.1 (.inr (Nat.le_refl _))
          (fun y c e z => by
            rcases B.look I2 e with ⟨_, e4⟩ | e4
            · rw [e4, hC] at z
              exact absurd z (Nat.ne_of_gt (Nat.lt_succ_of_lt (Nat.lt_succ_self _)))
            · exact Nat.lt_irrefl _ (z ▸ old_cell I2 e4)) (fun p hp => by cases hp)
        have e9 : lstO (its ++ [y]) (nn + 1) = { cls := .type "list", data := .seq (its.toArray.push y) (nn + 1) } := by
          show ({ cls := .type "list", data := .seq (its ++ [y]).toArray (nn + 1) } : Obj) = _
          rw [List.push_toArray]
        have I10 : Inv (X.blockC scope x G.objs.size (G.objs.size + 1) NB s2 H2 fp) [(s2.heap.objs.size, lstO (its ++ [y]) (nn + 1))] (some v :: caps ix σ) H8 { s8 with heap := h9 } := by
          refine I9.pins_of fun p hp => ?_
          have e : p = (s2.heap.objs.size, lstO (its ++ [y]) (nn + 1)) := by simpa using hp
          subst e
          exact ⟨hD9.trans (congrArg some e9.symm), pD.2.1, pD.2.2.1, pD.2.2.2.1, fun v q => by cases q⟩
        refine ⟨m', hm, i + 1, ys ++ [yv], its ++ [y], nn + 1, some v, H8, w8, I10, T.keep _ _ _ g1 fun b hb o e => hs9.extBut b o (fun z => hno (z ▸ hb)) e, g2, Vals.append rv (.cons r8 .nil), ?_⟩
        rw [List.length_append]
        exact hlt
  exact codeAny_compStart_list (loop _ rfl) (T.self _ 0 _ _ _ (T.keep _ _ _ st2 fun b _ o e => old b o e) (loop _ rfl))

/-- [elt for x in iter if ..], x in a cell -/
theorem pe_compC {elt iter : Expr} {ifs : List Expr} {px pos : Pos} {wi : TI} {tt : TT} {te : TE} (B : BlockC X scope x NB ix) (hc : X.calm = true) (hi : PI X (.Name x px) iter wi)
    (he : ∀ (C c : Addr) (s : Shared) (H : Hp) (fp : List Addr), PE (X.blockC scope x C c NB s H fp) elt te) (ht : ∀ (C c : Addr) (s : Shared) (H : Hp) (fp : List Addr), PTs (X.blockC scope x C c NB s H fp) ifs tt)
    (hs : ∀ v, foldedSetIterable iter X.env v = pure v := by intro _; rfl) : PE X (.ListComp elt [⟨.Name x px, iter, ifs, 0⟩] scope pos) (tComp wi ix tt te) := by
  intro pins s σ H Q I h
  rw [eval_ListComp]
  refine wpAny_comprehension_free (use := none) rfl hs (B.clos I) B.kind B.names (thn (hi pins s σ H _ I h) fun v s1 h1 => thn h1 fun itv s2 h2 => ?_)
  obtain ⟨it, fp, tn, J, H2, e, I2, T, st2, f2, w⟩ := h2
  subst e
  refine compC_core (RR := fun acc C => compPost (model X.prog X.w) X.A X.xe none (EP X pins σ Q) acc C) B hc he ht I2 T st2 f2 w fun D C Hf s' m' I' hn' fC q => ?_
  refine ⟨m', hn', fun h'' hs'' => ⟨.ref D, Hf, ?_, rfl, q⟩⟩
  obtain ⟨c0, c1, c2, c3, c4, c5⟩ := fC
  exact I'.turned (it := C) (t' := s'.toks) (fun b o hb e => hs''.extBut b o hb e) c0 c1 c3 c4 c5
def blockCB (N : List Str) (fs scope : Scope) (x : Str) (NB : List Str) (ix : List Nat) : Bool :=
  decide (scope.kind = .function) && scope.names.all (fun y => decide (y.2 ≠ .cell) || decide (y.1 = x)) && scope.names.all (fun y => decide (y.2 ≠ .local) || decide (scope.names.lookup y.1 = some .local)) &&
  scope.names.all (fun y => decide (y.2 ≠ .free) || (decide (fs.names.lookup y.1 = some .cell) || decide (fs.names.lookup y.1 = some .free))) && decide (scope.names.lookup x = some .cell) &&
  decide (NB = x :: ix.map fun i => N.getD i x) && decide NB.Nodup && (ix.all fun i => match N[i]? with | some y => decide (scope.names.lookup y = some .free) | none => false) && scope.names.all (fun y => decide (y.2 ≠ .free) || decide (y.1 ≠ x))
theorem BlockC.of {X : Cx} {N : List Str} {fs scope : Scope} {x : Str} {NB : List Str} {ix : List Nat} (h : blockCB N fs scope x NB ix = true) (hN : X.N = N := by rfl) (hf : X.env.scope = fs := by rfl)
    (cf : ∀ (n : Nat) (acc : List (Str × Addr)), cellsFrom n scope.names acc = (x, n) :: acc := by intros; rfl) (pc : ∀ h : Heap, pushCells h scope.names = h.push cellO := by intros; rfl) : BlockC X scope x NB ix := by
  subst hN hf
  unfold blockCB at h
  simp only [Bool.and_eq_true] at h
  obtain ⟨⟨⟨⟨⟨⟨⟨⟨h1, h2⟩, h3⟩, h4⟩, h5⟩, h6⟩, h7⟩, h8⟩, h9⟩ := h
  refine ⟨of_decide_eq_true h1, fun y hy e => ?_, fun y hy e => ?_, fun y hy => ?_, fun hx => ?_, of_decide_eq_true h5, of_decide_eq_true h6, of_decide_eq_true h7, fun i hi => ?_, cf, pc⟩
  · have z := List.all_eq_true.mp h2 y hy
    rw [Bool.or_eq_true] at z
    rcases z with z | z
    · exact absurd e (of_decide_eq_true z)
    · exact of_decide_eq_true z
  · have z := List.all_eq_true.mp h3 y hy
    rw [Bool.or_eq_true] at z
    rcases z with z | z
    · exact absurd e (of_decide_eq_true z)
    · exact of_decide_eq_true z
  · have z := List.all_eq_true.mp h4 _ hy
    rw [Bool.or_eq_true, Bool.or_eq_true] at z
    rcases z with z | z | z
    · exact absurd rfl (of_decide_eq_true z)
    · exact .inl (of_decide_eq_true z)
    · exact .inr (of_decide_eq_true z)
  · have z := List.all_eq_true.mp h9 _ hx
    rw [Bool.or_eq_true] at z
    rcases z with z | z
    · exact absurd rfl (of_decide_eq_true z)
    · exact absurd rfl (of_decide_eq_true z)
  · have z := List.all_eq_true.mp h8 i hi
    cases e : X.N[i]? with
    | none => rw [e] at z; cases z
    | some y => rw [e] at z; exact ⟨y, rfl, of_decide_eq_true z⟩
end
end L2

set_option Elab.async false
set_option linter.all false
set_option maxRecDepth 100000
set_option maxHeartbeats 4000000
namespace L2
open PySem PySem.Spec PyProof.Rows
/-! ### a comprehension with two names for its target -/
section
variable {prog : Program} {w : World} {A : Around} {R : Result → Shared → Prop} {s : Shared}
abbrev nb2 (prog : Program) (w : World) (A : Around) (env : Env) (R : Result → Shared → Prop) : Value → Shared → Prop := notedBy (model prog w) A env fun e s' => R (.error e) s'
theorem comp_loopT {elt tg iter : Expr} {ifs : List Expr} {scope : Scope} {pos : Pos} {it acc : Value} {env : Env} (I : Nat → Shared → Prop)
    (turn : ∀ n s, I n s → wpAny (model prog w) A (pyNext it) (fun r s1 => match r with
      | none => R (.ok .next) s1
      | some v => wpAny (model prog w) A (letOwnedTupleGo tg it v) (fun _ s0 => wpAny (model prog w) A (assign tg env v) (fun _ s2 => wpAny (model prog w) A (forIn ifs true fun c r => if r = true then do let ok ← isTrue c env (eval c env); pure (ForInStep.yield ok) else pure (ForInStep.yield r)) (fun ok s3 =>
            if ok = true then wpAny (model prog w) A (eval elt env) (fun x s4 => wpAny (model prog w) A (call (.builtin "list.append") [acc, x]) (fun _ s5 => ∃ m, m < n ∧ I m s5) (nb2 prog w A env R) s4) (nb2 prog w A env R) s3
            else ∃ m, m < n ∧ I m s3) (nb2 prog w A env R) s2) (nb2 prog w A env R) s0) (nb2 prog w A env R) s1) (nb2 prog w A env R) s)
    (n : Nat) (h : I n s) : codeAny (model prog w) A (.compLoop (.ListComp elt [⟨tg, iter, ifs, 0⟩] scope pos) 0 it acc env) R s := by
  refine codeAny_loop rfl I (fun n s hI => ?_) n h
  refine (wpAny_noted (?_ : _) : wpAny _ A ((compTurn (.ListComp elt [⟨tg, iter, ifs, 0⟩] scope pos) 0 it acc env).onRaise (fun x => do noteFrame x env; theTreesLotGoes x)) _ _ s)
  rw [compTurn_list]
  refine wpAny_bind (wpAny_standAt (wpAny_bind (wpAny_mono (turn n s hI) (fun r s1 h1 => ?_) fun _ _ z => z)))
  cases r with
  | none => exact wpAny_pure h1
  | some v =>
    refine wpAny_bind (wpAny_mono h1 (fun _ s0 h0 => wpAny_bind (wpAny_mono h0 (fun _ s2 h2 => wpAny_bind (wpAny_mono h2 (fun ok s3 h3 => ?_) fun _ _ z => z)) fun _ _ z => z)) fun _ _ z => z)
    cases ok with
    | false => exact wpAny_pure ⟨rfl, h3⟩
    | true => exact wpAny_bind (wpAny_bind (wpAny_mono h3 (fun x s4 h4 => wpAny_bind (wpAny_mono h4 (fun _ s5 h5 => wpAny_pure (wpAny_pure ⟨rfl, h5⟩)) fun _ _ z => z)) fun _ _ z => z))
end
structure Block2 (X : Cx) (scope : Scope) (x y0 : Str) (NB : List Str) (ix : List Nat) : Prop where
  kind : scope.kind = .function
  cell : ∀ y ∈ scope.names, y.2 ≠ .cell
  names : ∀ y ∈ scope.names, y.2 = .local → scope.names.lookup y.1 = some .local
  free : ∀ y, (y, NameKind.free) ∈ scope.names → (X.env.kindOf y = some .cell ∨ X.env.kindOf y = some .free)
  var : scope.names.lookup x = some .local
  var2 : scope.names.lookup y0 = some .local
  nb : NB = x :: y0 :: ix.map fun i => X.N.getD i x
  nd : NB.Nodup
  cap : ∀ i ∈ ix, ∃ y, X.N[i]? = some y ∧ scope.names.lookup y = some .free
/-- what the turns do: the two of a pair -/
def CompW2 (K : PySem.W.Frag) (J : It) (os : St) (tt : TT) (te : TE) (H1 : Hp) (Q : VK) : Prop :=
  ∃ W : Nat → Nat → List V → Hp → Prop, (∃ m, W 0 m [] H1) ∧ ∀ i m ys H, W i m ys H →
    (J.stop i H ∧ ∀ p, H p = none → Q (.ref p) (upd H p (.lst ys))) ∨
    (J.go i H ∧ ys.length < sizeLine ∧ ∃ N : List V → Hp → Prop, (∀ ys' H', N ys' H' → ∃ m', m' < m ∧ W (i + 1) m' ys' H') ∧ ∀ x H', J.yld i H x H' → ∃ T a b, x = .ref T ∧ SqT K H' T [a, b] ∧ tt (some a :: some b :: os) H' fun b2 H2 => if b2 = true then te (some a :: some b :: os) H2 fun v H3 => N (ys ++ [v]) H3 else N ys H2)
section
variable {X : Cx} {scope : Scope} {x y0 : Str} {NB : List Str} {ix : List Nat} {pins : List (Addr × Obj)} {σ : St} {H2 : Hp} {s2 : Shared} {fp : List Addr}
theorem Block2.clos (B : Block2 X scope x y0 NB ix) (I2 : Inv X pins σ H2 s2) : closureFor scope X.env = pure (closOf X.env.cells scope.names []) :=
  closureFor_clos fun n hn => I2.ok.has n (B.free n hn)
theorem Block2.look (B : Block2 X scope x y0 NB ix) (I2 : Inv X pins σ H2 s2) {y : Str} {c : Addr} (h : (closOf X.env.cells scope.names []).lookup y = some c) : X.env.cells.lookup y = some c := by
  rcases closOf_look _ _ h with ⟨m, e⟩ | e
  · obtain ⟨c', hc⟩ := I2.ok.has y (B.free y m)
    rw [hc] at e ⊢
    exact congrArg some e
  · cases e
theorem block2_ok (B : Block2 X scope x y0 NB ix) (I2 : Inv X pins σ H2 s2) {C : Addr} (hC : s2.heap.objs.size ≤ C) (f2 : ∀ b ∈ fp, FpOk X pins H2 b) (ft : ∀ b ∈ fp, b < s2.heap.objs.size) : (X.block scope C NB s2 H2 fp).Ok where
  mod := I2.ok.mod
  kind := B.kind
  glob := I2.ok.glob
  blt := I2.ok.blt
  above := hC
  inj := fun a b c h1 h2 => I2.ok.inj a b c (B.look I2 h1) (B.look I2 h2)
  has := fun y hy => by
    have key : ∀ k, (relabel scope X.env).names.lookup y = some k → (k = .cell ∨ k = .free) → ∃ c, (closOf X.env.cells scope.names []).lookup y = some c := fun k hk kk => by
      rcases relab_of (names := scope.names) hk with e | ⟨e, _⟩
      · rcases kk with rfl | rfl
        · exact absurd rfl (B.cell _ (look_mem e))
        · exact closOf_has _ _ (.inl (look_mem e))
      · exact closOf_has _ _ (.inl (look_mem e))
    rcases hy with e | e
    · exact key _ e (.inl rfl)
    · exact key _ e (.inr rfl)
  cab := fun _ _ z => by cases z
  hd := I2.ok.hd
  frames := I2.ok.frames
  stk := .inl rfl
  exf := fun b hb => ⟨Nat.ne_of_lt (Nat.lt_of_lt_of_le (ft b hb) hC), fun y c e => (f2 b hb).2.2.2.2.1 y c (B.look I2 e)⟩
  bs := I2.bs
  bsz := Nat.le_trans I2.ok.bsz I2.sz
  noex := fun b o e hb => by
    rcases (f2 b hb).2.2.2.1 with z | z
    · exact I2.ok.noex b o e z
    · exact absurd (Nat.lt_of_lt_of_le (Heap.lt_size (I2.ok.bs b o e).1) z) (Nat.lt_irrefl _)
  exfs := fun b hb z => by
    rcases List.mem_cons.mp (I2.stkSub b z) with e | e
    · exact (f2 b hb).2.1 e
    · exact (f2 b hb).2.2.1 e
  funs := I2.stack
  frf := I2.stkFree
theorem block2_inv (B : Block2 X scope x y0 NB ix) (I2 : Inv X pins σ H2 s2) {C D : Addr} {h1 : Heap} {tk : Nat} {m : Str → Option Value} {oD : Obj} (hC : s2.heap.objs.size ≤ C) (hD : s2.heap.objs.size ≤ D) (hDC : D ≠ C) (f2 : ∀ b ∈ fp, FpOk X pins H2 b) (ft : ∀ b ∈ fp, b < s2.heap.objs.size)
    (old : ∀ b o, s2.heap.get? b = some o → h1.get? b = some o) (hn : h1.Ns C m) (ho : h1.get? D = some oD) (hcl : ∀ v, oD.data ≠ .cell v) :
    Inv (X.block scope C NB s2 H2 fp) [(D, oD)] (none :: none :: caps ix σ) H2 { s2 with heap := h1, toks := tk } where
  ok := block2_ok B I2 hC f2 ft
  os := rfl
  bare := I2.bare
  base := Un.kept old
  loc := by
    refine ⟨m, hn, fun i y v e1 e2 _ => ?_⟩
    have e1 : NB[i]? = some y := e1
    match i with
    | 0 => cases e2
    | 1 => cases e2
    | j + 2 =>
      have e2 : (caps ix σ)[j]? = some (some v) := e2
      rw [B.nb] at e1
      have e1 : (ix.map fun i => X.N.getD i x)[j]? = some y := e1
      rw [List.getElem?_map] at e1
      unfold caps at e2
      rw [List.getElem?_map] at e2
      cases q : ix[j]? with
      | none => rw [q] at e1; cases e1
      | some i =>
        rw [q] at e1 e2
        obtain ⟨z, hz, fz⟩ := B.cap i (List.mem_of_getElem? q)
        have ey : y = z := by
          have w : X.N.getD i x = y := Option.some.inj e1
          rw [← w, List.getD_eq_getElem?_getD, hz]
          rfl
        subst ey
        have e2 : (σ[i]?).join = some v := Option.some.inj e2
        have es : σ[i]? = some (some v) := by
          cases w : σ[i]? with
          | none => rw [w] at e2; cases e2
          | some o => rw [w] at e2; exact congrArg some e2
        have fk := B.free y (look_mem fz)
        have vis : Vis X.env.scope y := .inr fk
        obtain ⟨mm, _, hl⟩ := I2.loc
        obtain ⟨u, ru, lk⟩ := hl i y v hz es vis
        refine ⟨u, ru, .inr ⟨?_, ?_⟩⟩
        · rcases relab_some (env := X.env) (names := scope.names) fz with e | ⟨_, e⟩
          · exact .inr e
          · exact .inl e
        · rcases lk with ⟨lk, _⟩ | ⟨_, c, hc, hcell⟩
          · rcases fk with fk | fk
            · rw [lk] at fk; cases fk
            · rw [lk] at fk; cases fk
          · obtain ⟨c', hc'⟩ := closOf_has (cells := X.env.cells) scope.names [] (.inl (look_mem fz))
            have e3 := B.look I2 hc'
            rw [hc] at e3
            cases e3
            obtain ⟨oc, g1, g2⟩ := hcell
            exact ⟨c, hc', oc, old _ _ g1, g2⟩
  cell := fun y c e => by
    obtain ⟨v, o, g1, g2⟩ := I2.cell y c (B.look I2 e)
    exact ⟨v, o, old _ _ g1, g2⟩
  free := I2.hok.fresh hC
  freeC := fun y c e => I2.freeC y c (B.look I2 e)
  pin := fun p hp => by
    have e : p = (D, oD) := by simpa [Cx.block] using hp
    subst e
    refine ⟨ho, I2.hok.fresh hD, hDC, fun z => ?_, hcl⟩
    rcases List.mem_cons.mp (I2.stkSub D z) with e | e
    · have e : D = X.env.locals := e
      exact absurd (Nat.lt_of_lt_of_le I2.lt (e ▸ hD)) (Nat.lt_irrefl _)
    · exact I2.nofs hD e
  hok := I2.hok.kept old
  len := by
    show (none :: none :: caps ix σ).length = NB.length
    rw [B.nb, List.length_cons, List.length_cons, List.length_cons, List.length_cons, caps_len, List.length_map]
theorem comp2_core {elt iter : Expr} {ifs : List Expr} {px py pt pos : Pos} {k1 : Nat} {tt : TT} {te : TE} {J : It} {it : Addr} {tn : Nat → Heap → Prop} {E : Value → Shared → Prop} {RR : Value → Addr → Result → Shared → Prop} {Qr : VK}
    (B : Block2 X scope x y0 NB ix) (hc : X.calm = true)
    (he : ∀ (C : Addr) (s : Shared) (H : Hp) (fp : List Addr), PE (X.block scope C NB s H fp) elt te) (ht : ∀ (C : Addr) (s : Shared) (H : Hp) (fp : List Addr), PTs (X.block scope C NB s H fp) ifs tt)
    (I2 : Inv X pins σ H2 s2) (T : Turn X.prog X.w X.K (.Tuple [.Name x px, .Name y0 py] k1 pt) J fp it tn) (st2 : tn 0 s2.heap) (f2 : ∀ b ∈ fp, FpOk X pins H2 b) (h : CompW2 X.K J (caps ix σ) tt te H2 Qr)
    (hRR : ∀ (D C : Addr) (Hf : Hp) (s' : Shared) (m' : Str → Option Value), Inv X pins σ Hf s' → s'.heap.Ns C m' → FpOk X pins Hf C → Qr (.ref D) Hf → RR (.ref D) C (.ok .next) s') :
    wpAny (model X.prog X.w) X.A (newList []) (fun acc s3 => wpAny (model X.prog X.w) X.A (newFunctionEnv scope X.env.globals (closOf X.env.cells scope.names []) [] X.env.qual none .none (some X.env)) (fun cenv s4 =>
      codeAny (model X.prog X.w) X.A (.compStart (.ListComp elt [⟨.Tuple [.Name x px, .Name y0 py] k1 pt, iter, ifs, 0⟩] scope pos) 0 (.ref it) acc { cenv with scope := relabel scope X.env }) (RR acc cenv.locals) s4) E s3) E s2 := by
  obtain ⟨W, ⟨m0, w0⟩, turn⟩ := h
  refine wpAny_newObj_type (wpAny_newFunctionEnv B.cell (by intro y hy; simp at hy) (fun h1 hns hsb => ?_) B.kind)
  dsimp only at hns hsb ⊢
  generalize eG : s2.heap.push { cls := .type "list", dict := none, data := .seq ([] : List Value).toArray } = G at hns hsb ⊢
  have hC : G.objs.size = s2.heap.objs.size + 1 := by rw [← eG, Heap.size_push]
  have hDC : s2.heap.objs.size ≠ G.objs.size := by rw [hC]; exact Nat.ne_of_lt (Nat.lt_succ_self _)
  have hCle : s2.heap.objs.size ≤ G.objs.size := by rw [hC]; exact Nat.le_succ _
  have old : ∀ b o, s2.heap.get? b = some o → h1.get? b = some o := fun b o e => by
    have lt := Heap.lt_size e
    exact hsb.extBut b o (Nat.ne_of_lt (Nat.lt_of_lt_of_le lt hCle)) (Heap.get?_push_of_some _ (eG ▸ Heap.get?_push_of_some _ e))
  have hacc : h1.get? s2.heap.objs.size = some (lstO [] 0) := hsb.extBut _ _ hDC (Heap.get?_push_of_some _ (eG ▸ Heap.get?_push_size _ rfl))
  have ft : ∀ b ∈ fp, b < s2.heap.objs.size := fun b hb => by
    obtain ⟨o, e, _⟩ := T.obj _ _ st2 b hb
    exact Heap.lt_size e
  have loop : ∀ s3 : Shared, s3 = { s2 with heap := h1, toks := s2.toks + ([] : List (Str × Value)).length } →
      codeAny (model X.prog X.w) X.A (.compLoop (.ListComp elt [⟨.Tuple [.Name x px, .Name y0 py] k1 pt, iter, ifs, 0⟩] scope pos) 0 (.ref it) (.ref s2.heap.objs.size) (compEnvC scope (closOf X.env.cells scope.names []) G.objs.size X.env))
        (RR (.ref s2.heap.objs.size) G.objs.size) s3 := by
    rintro s3 rfl
    have I3 := block2_inv (tk := s2.toks + ([] : List (Str × Value)).length) B I2 hCle (Nat.le_refl _) hDC f2 ft old hns hacc (fun v q => by cases q)
    have st3 : tn 0 h1 := T.keep _ _ _ st2 fun b _ o e => old b o e
    have fy : ∀ {H' : Hp} {oD : Obj}, (∀ b ∈ fp, H' b = none) → ∀ b ∈ fp, FpOk (X.block scope G.objs.size NB s2 H2 fp) [(s2.heap.objs.size, oD)] H' b := fun {H' oD} hn b hb => by
      refine ⟨hn b hb, Nat.ne_of_lt (Nat.lt_of_lt_of_le (ft b hb) hCle), fun z => ?_, .inl hb, fun y c e => (f2 b hb).2.2.2.2.1 y c (B.look I2 e), fun p hp => ?_⟩
      · rcases List.mem_cons.mp (I2.stkSub b z) with e | e
        · exact (f2 b hb).2.1 e
        · exact (f2 b hb).2.2.1 e
      · have e : p = (s2.heap.objs.size, oD) := by simpa [Cx.block] using hp
        subst e
        exact Ne.symm (Nat.ne_of_lt (ft b hb))
    refine comp_loopT (fun n s' => ∃ i ys its nn o o2 H', W i n ys H' ∧ Inv (X.block scope G.objs.size NB s2 H2 fp) [(s2.heap.objs.size, lstO its nn)] (o :: o2 :: caps ix σ) H' s' ∧ tn i s'.heap ∧ (∀ b ∈ fp, H' b = none) ∧ Vals ys its ∧ ys.length ≤ sizeLine)
      ?_ m0 ⟨0, [], [], 0, none, none, H2, w0, I3, st3, fun b hb => (f2 b hb).1, .nil, Nat.zero_le _⟩
    rintro n s' ⟨i, ys, its, nn, o, o2, H', w', I', st', fr', rv, hz⟩
    rcases turn i n ys H' w' with ⟨stop, q⟩ | ⟨go, hlt, Nx, hNx, step⟩
    · refine wpAny_mono (T.done (X.block scope G.objs.size NB s2 H2 fp) rfl rfl rfl hc i _ s' _ H' (fun _ _ => False) I' (fy fr') st' stop) (fun r s4 ⟨hr, I4⟩ => ?_) fun _ _ z => z.elim
      subst hr
      have I5 := block_end I2 f2 (Nat.le_refl _) I4 rv hz
      obtain ⟨m4, hn4, _⟩ := I4.loc
      have hfree : H' s2.heap.objs.size = none := (I4.pin (s2.heap.objs.size, lstO its nn) (by show _ ∈ [] ++ [(s2.heap.objs.size, lstO its nn)]; simp)).2.1
      refine hRR _ _ _ s4 m4 I5 hn4 (I2.fpOk hCle ?_) (q _ hfree)
      rw [upd_ne (Ne.symm hDC)]
      exact I4.free
    · refine wpAny_mono (T.item (X.block scope G.objs.size NB s2 H2 fp) rfl rfl rfl hc i _ s' _ H' (fun _ _ => False) I' (fy fr') st' go) (fun r s4 ⟨u, hr, h4⟩ => ?_) fun _ _ z => z.elim
      subst hr
      refine wpAny_mono h4 (fun _ s4 ⟨v, H5, I5, r5, y5, st5, fr5⟩ => ?_) fun _ _ z => z.elim
      have pIt : ∀ b ∈ fp, ∃ o, s4.heap.get? b = some o ∧ ∀ v, o.data ≠ .cell v := T.obj _ _ st5
      have I5' := I5.pinned (fy fr5) pIt
      have hg := pg_tup (X := X.block scope G.objs.size NB s2 H2 fp) (pos := pt) (k := k1) hc (pgs_cons (pg_name (i := 0) (x := x) (pos := px) B.nd (by show NB[0]? = some x; rw [B.nb]; rfl) (.inl (lookup_relabel_local B.var)) (.inr (lookup_relabel_local B.var)))
        (pgs_cons (pg_name (i := 1) (x := y0) (pos := py) B.nd (by show NB[1]? = some y0; rw [B.nb]; rfl) (.inl (lookup_relabel_local B.var2)) (.inr (lookup_relabel_local B.var2))) pgs_nil))
      obtain ⟨T5, va, vb, ev, sq, w5⟩ := step v H5 y5
      refine wpAny_mono (hg _ s4 _ H5 v u (fun σ' H' => σ' = some va :: some vb :: caps ix σ ∧ H' = H5) I5' r5 ⟨T5, [va, vb], ev, sq, rfl, va, [vb], rfl, vb, [], rfl, rfl, rfl, rfl⟩) (fun _ s6 h6 => ?_) fun _ _ z => z.elim
      obtain ⟨σ6, H6, I6, e6, e7⟩ := h6
      subst e6 e7
      refine wpAny_mono (ht _ _ _ _ _ s6 _ _ _ I6 w5) (fun b s7 ⟨H7, I7, q7⟩ => ?_) fun _ _ z => z.elim
      -- what stays of the iterator
      have stays : ∀ {s9 : Shared} {H9 : Hp} {σ9 : St} {oD : Obj}, Inv (X.block scope G.objs.size NB s2 H2 fp) ([(s2.heap.objs.size, oD)] ++ pinsAt fp s4.heap) σ9 H9 s9 → tn (i + 1) s9.heap ∧ ∀ b ∈ fp, H9 b = none := fun {s9 H9 σ9 oD} I9 => by
        refine ⟨T.keep _ _ _ st5 fun b hb o e => (I9.pin (b, o) (List.mem_append_right _ (List.mem_append_right _ (mem_pinsAt hb e)))).1, fun b hb => ?_⟩
        obtain ⟨o, e, d⟩ := pIt b hb
        exact (I9.pin (b, o) (List.mem_append_right _ (List.mem_append_right _ (mem_pinsAt hb e)))).2.1
      cases b with
      | false =>
        rw [if_neg Bool.false_ne_true] at q7 ⊢
        obtain ⟨m', hm, w7⟩ := hNx _ _ q7
        obtain ⟨g1, g2⟩ := stays I7
        exact ⟨m', hm, i + 1, ys, its, nn, some va, some vb, H7, w7, I7.unpinned, g1, g2, rv, hz⟩
      | true =>
        rw [if_pos rfl] at q7 ⊢
        refine wpAny_mono (he _ _ _ _ _ s7 _ _ _ I7 q7) (fun y s8 ⟨yv, H8, I8, r8, n8⟩ => ?_) fun _ _ z => z.elim
        obtain ⟨m', hm, w8⟩ := hNx _ _ n8
        obtain ⟨g1, g2⟩ := stays I8
        have pD := I8.pin (s2.heap.objs.size, lstO its nn) (by show _ ∈ [] ++ ([(s2.heap.objs.size, lstO its nn)] ++ pinsAt fp s4.heap); simp)
        refine append_at (hsz := by rw [List.size_toArray, ← rv.length]; exact hz) pD.1 fun h9 hs9 hD9 => ?_
        have hno : s2.heap.objs.size ∉ fp := fun z => Nat.lt_irrefl _ (ft _ z)
        have I8u := I8.unpinned
        have I8n := I8u.pins_of (pins' := []) (fun _ z => nomatch z)
        have I9 := I8n.turned (h' := h9) (t' := s8.toks) (it := s2.heap.objs.size) (fun b o hb e => hs9.extBut b o hb e) pD.2.1 pD.2.2.1 (.inr (Nat.le_refl _))
          (fun y c e z => by
            obtain ⟨w, q⟩ := I2.cell y c (B.look I2 e)
            exact Nat.lt_irrefl _ (z ▸ q.lt)) (fun p hp => by cases hp)
        have e9 : lstO (its ++ [y]) (nn + 1) = { cls := .type "list", data := .seq (its.toArray.push y) (nn + 1) } := by
          show ({ cls := .type "list", data := .seq (its ++ [y]).toArray (nn + 1) } : Obj) = _
          rw [List.push_toArray]
        have I10 : Inv (X.block scope G.objs.size NB s2 H2 fp) [(s2.heap.objs.size, lstO (its ++ [y]) (nn + 1))] (some va :: some vb :: caps ix σ) H8 { s8 with heap := h9 } := by
          refine I9.pins_of fun p hp => ?_
          have e : p = (s2.heap.objs.size, lstO (its ++ [y]) (nn + 1)) := by simpa using hp
          subst e
          exact ⟨hD9.trans (congrArg some e9.symm), pD.2.1, pD.2.2.1, pD.2.2.2.1, fun v q => by cases q⟩
        refine ⟨m', hm, i + 1, ys ++ [yv], its ++ [y], nn + 1, some va, some vb, H8, w8, I10, T.keep _ _ _ g1 fun b hb o e => hs9.extBut b o (fun z => hno (z ▸ hb)) e, g2, Vals.append rv (.cons r8 .nil), ?_⟩
        rw [List.length_append]
        exact hlt
  exact codeAny_compStart_list (loop _ rfl) (T.self _ 0 _ _ _ (T.keep _ _ _ st2 fun b _ o e => old b o e) (loop _ rfl))

end
end L2

set_option Elab.async false
set_option linter.all false
set_option maxRecDepth 100000
set_option maxHeartbeats 4000000
namespace L2
open PySem PySem.Spec PyProof.Rows
section
variable {X : Cx} {scope : Scope} {x y0 : Str} {NB : List Str} {ix : List Nat} {pins : List (Addr × Obj)} {σ : St} {H2 : Hp} {s2 : Shared} {fp : List Addr}
def tComp2 (K : PySem.W.Frag) (wi : TI) (ix : List Nat) (tt : TT) (te : TE) : TE := fun σ H Q => wi σ H fun J H1 => CompW2 K J (caps ix σ) tt te H1 Q
/-- [elt for x, y in iter if ..] -/
theorem pe_comp2 {elt iter : Expr} {ifs : List Expr} {px p2 pt pos : Pos} {k1 : Nat} {wi : TI} {tt : TT} {te : TE} (B : Block2 X scope x y0 NB ix) (hc : X.calm = true) (hi : PI X (.Tuple [.Name x px, .Name y0 p2] k1 pt) iter wi)
    (he : ∀ (C : Addr) (s : Shared) (H : Hp) (fp : List Addr), PE (X.block scope C NB s H fp) elt te) (ht : ∀ (C : Addr) (s : Shared) (H : Hp) (fp : List Addr), PTs (X.block scope C NB s H fp) ifs tt)
    (hs : ∀ v, foldedSetIterable iter X.env v = pure v := by intro _; rfl) : PE X (.ListComp elt [⟨.Tuple [.Name x px, .Name y0 p2] k1 pt, iter, ifs, 0⟩] scope pos) (tComp2 X.K wi ix tt te) := by
  intro pins s σ H Q I h
  rw [eval_ListComp]
  refine wpAny_comprehension_free (use := none) rfl hs (B.clos I) B.kind B.names (thn (hi pins s σ H _ I h) fun v s1 h1 => thn h1 fun itv s2 h2 => ?_)
  obtain ⟨it, fp, tn, J, H2, e, I2, T, st2, f2, w⟩ := h2
  subst e
  refine comp2_core (RR := fun acc C => compPost (model X.prog X.w) X.A X.xe none (EP X pins σ Q) acc C) B hc he ht I2 T st2 f2 w fun D C Hf s' m' I' hn' fC q => ?_
  refine ⟨m', hn', fun h'' hs'' => ⟨.ref D, Hf, ?_, rfl, q⟩⟩
  obtain ⟨c0, c1, c2, c3, c4, c5⟩ := fC
  exact I'.turned (it := C) (t' := s'.toks) (fun b o hb e => hs''.extBut b o hb e) c0 c1 c3 c4 c5
/-- name = [elt for x in iter if ..], the name a plain local one, on one line -/
theorem ps_comp2 {elt iter : Expr} {ifs : List Expr} {px p2 pt pos py spos : Pos} {k1 : Nat} {wi : TI} {tt : TT} {te : TE} {j : Nat} {y : Str} (hN : X.N.Nodup) (hj : X.N[j]? = some y) (hy : X.env.scope.names.lookup y = some .local)
    (B : Block2 X scope x y0 NB ix) (hc : X.calm = true) (hi : PI X (.Tuple [.Name x px, .Name y0 p2] k1 pt) iter wi)
    (he : ∀ (C : Addr) (s : Shared) (H : Hp) (fp : List Addr), PE (X.block scope C NB s H fp) elt te) (ht : ∀ (C : Addr) (s : Shared) (H : Hp) (fp : List Addr), PTs (X.block scope C NB s H fp) ifs tt)
    (hsw : swapsWith (.ListComp elt [⟨.Tuple [.Name x px, .Name y0 p2] k1 pt, iter, ifs, 0⟩] scope pos) (some (.Name y py)) spos.line X.env = pure true)
    (hs : ∀ v, foldedSetIterable iter X.env v = pure v := by intro _; rfl) : PS X (.Assign [.Name y py] (.ListComp elt [⟨.Tuple [.Name x px, .Name y0 p2] k1 pt, iter, ifs, 0⟩] scope pos) spos) (tAsg (tComp2 X.K wi ix tt te) (gName j)) := by
  intro pins s σ H Dn I h
  rw [exec_Assign_Name_used _ _ _ _ hsw]
  refine wpAny_bind (wpAny_standAt (wpAny_bind ?_))
  show wpAny (model X.prog X.w) X.A (comprehension (.ListComp elt [⟨.Tuple [.Name x px, .Name y0 p2] k1 pt, iter, ifs, 0⟩] scope pos) scope X.env _ (newList []) false (eval iter X.env) (some (assign (.Name y py) X.env)) >>= fun _ => pure ()) _ _ s
  refine wpAny_bind (thn (wpAny_comprehension_free (use := some (assign (.Name y py) X.env)) (Q := fun _ s' => SP X pins Dn .next s') rfl hs (B.clos I) B.kind B.names (thn (hi pins s σ H _ I h) fun v s1 h1 => thn h1 fun itv s2 h2 => ?_)) fun _ s' q => wpAny_pure (wpAny_pure q))
  obtain ⟨it, fp, tn, J, H2, e, I2, T, st2, f2, w⟩ := h2
  subst e
  refine comp2_core (RR := fun acc C => compPost (model X.prog X.w) X.A X.xe (some (assign (.Name y py) X.env)) (fun _ s' => SP X pins Dn .next s') acc C) B hc he ht I2 T st2 f2 w fun D C Hf s' m' I' hn' fC q => ?_
  obtain ⟨c0, c1, c2, c3, c4, c5⟩ := fC
  show wpAny (model X.prog X.w) X.A (assign (.Name y py) X.env (.ref D)) _ _ s'
  refine wpAny_assign_Name (store_ok2 I' hN hj (.inl hy) (v := .ref D) rfl (fun s'' I'' ⟨a, sb, ha⟩ => ?_) (.inr hy))
  have hCa : C ≠ a := by
    rcases ha with e | e
    · rw [e]; exact c1
    · exact fun z => c4 y a e z.symm
  refine ⟨m', hn'.sameBut sb hCa, fun h3 hs3 => ⟨_, Hf, ?_, q⟩⟩
  exact I''.turned (it := C) (t' := s''.toks) (fun b o hb e => hs3.extBut b o hb e) c0 c1 c3 c4 c5
def block2B (N : List Str) (fs scope : Scope) (x y0 : Str) (NB : List Str) (ix : List Nat) : Bool :=
  decide (scope.kind = .function) && scope.names.all (fun y => decide (y.2 ≠ .cell)) && scope.names.all (fun y => decide (y.2 ≠ .local) || decide (scope.names.lookup y.1 = some .local)) &&
  scope.names.all (fun y => decide (y.2 ≠ .free) || (decide (fs.names.lookup y.1 = some .cell) || decide (fs.names.lookup y.1 = some .free))) && (decide (scope.names.lookup x = some .local) && decide (scope.names.lookup y0 = some .local)) &&
  decide (NB = x :: y0 :: ix.map fun i => N.getD i x) && decide NB.Nodup && ix.all fun i => match N[i]? with | some y => decide (scope.names.lookup y = some .free) | none => false
theorem Block2.of {N : List Str} {fs : Scope} (h : block2B N fs scope x y0 NB ix = true) (hN : X.N = N := by rfl) (hf : X.env.scope = fs := by rfl) : Block2 X scope x y0 NB ix := by
  subst hN hf
  unfold block2B at h
  simp only [Bool.and_eq_true] at h
  obtain ⟨⟨⟨⟨⟨⟨⟨h1, h2⟩, h3⟩, h4⟩, h5, h5'⟩, h6⟩, h7⟩, h8⟩ := h
  refine ⟨of_decide_eq_true h1, fun y hy => of_decide_eq_true (List.all_eq_true.mp h2 y hy), fun y hy e => ?_, fun y hy => ?_, of_decide_eq_true h5, of_decide_eq_true h5', of_decide_eq_true h6, of_decide_eq_true h7, fun i hi => ?_⟩
  · have z := List.all_eq_true.mp h3 y hy
    rw [Bool.or_eq_true] at z
    rcases z with z | z
    · exact absurd e (of_decide_eq_true z)
    · exact of_decide_eq_true z
  · have z := List.all_eq_true.mp h4 _ hy
    rw [Bool.or_eq_true, Bool.or_eq_true] at z
    rcases z with z | z | z
    · exact absurd rfl (of_decide_eq_true z)
    · exact .inl (of_decide_eq_true z)
    · exact .inr (of_decide_eq_true z)
  · have z := List.all_eq_true.mp h8 i hi
    cases e : X.N[i]? with
    | none => rw [e] at z; cases z
    | some y => rw [e] at z; exact ⟨y, rfl, of_decide_eq_true z⟩
/-- over a list of pairs -/
theorem comp2_list {K : PySem.W.Frag} {a : Addr} {xs : List V} {os : St} {tt : TT} {te : TE} {H : Hp} {Q : VK} (Pv : Nat → List V → Hp → Prop) (h0 : Pv 0 [] H) (hz : ∀ i ys H, i < xs.length → Pv i ys H → ys.length < sizeLine)
    (hl : ∀ i ys H, i ≤ xs.length → Pv i ys H → SqL K H a xs)
    (hs : ∀ (i : Nat) x ys H, xs[i]? = some x → Pv i ys H → ∃ T u v, x = .ref T ∧ SqT K H T [u, v] ∧ tt (some u :: some v :: os) H fun b H2 => if b = true then te (some u :: some v :: os) H2 fun v H3 => Pv (i + 1) (ys ++ [v]) H3 else Pv (i + 1) ys H2)
    (hd : ∀ ys H, Pv xs.length ys H → ∀ p, H p = none → Q (.ref p) (upd H p (.lst ys))) : CompW2 K (Itl K a) os tt te H Q := by
  refine ⟨fun i m ys H => m = xs.length - i ∧ i ≤ xs.length ∧ Pv i ys H, ⟨xs.length, by simp, Nat.zero_le _, h0⟩, ?_⟩
  rintro i m ys H ⟨rfl, hi, p⟩
  have q := hl i ys H hi p
  by_cases hlt : i < xs.length
  · refine .inr ⟨⟨xs, xs[i], q, by simp [hlt]⟩, hz i ys H hlt p, Pv (i + 1), fun ys' H' p' => ⟨xs.length - (i + 1), by omega, rfl, hlt, p'⟩, fun x H' y => ?_⟩
    obtain ⟨e, y⟩ := y
    subst e
    exact hs i x ys _ (y xs q) p
  · have e : i = xs.length := by omega
    subst e
    exact .inl ⟨⟨xs, q, Nat.le_refl _⟩, hd ys H p⟩
theorem comp2_enum {K : PySem.W.Frag} {a : Addr} {xs : List V} {os : St} {tt : TT} {te : TE} {H : Hp} {Q : VK} (Pv : Nat → List V → Hp → Prop) (h0 : Pv 0 [] H) (hz : ∀ i ys H, i < xs.length → Pv i ys H → ys.length < sizeLine)
    (hl : ∀ i ys H, i ≤ xs.length → Pv i ys H → SqL K H a xs)
    (hs : ∀ (i : Nat) x ys H T, xs[i]? = some x → Pv i ys H → H T = none → tt (some (.int i) :: some x :: os) (upd H T (.tup [.int i, x])) fun b H2 => if b = true then te (some (.int i) :: some x :: os) H2 fun v H3 => Pv (i + 1) (ys ++ [v]) H3 else Pv (i + 1) ys H2)
    (hd : ∀ ys H, Pv xs.length ys H → ∀ p, H p = none → Q (.ref p) (upd H p (.lst ys))) : CompW2 K (Ite K a) os tt te H Q := by
  refine ⟨fun i m ys H => m = xs.length - i ∧ i ≤ xs.length ∧ Pv i ys H, ⟨xs.length, by simp, Nat.zero_le _, h0⟩, ?_⟩
  rintro i m ys H ⟨rfl, hi, p⟩
  have q := hl i ys H hi p
  by_cases hlt : i < xs.length
  · refine .inr ⟨⟨xs, xs[i], q, by simp [hlt]⟩, hz i ys H hlt p, Pv (i + 1), fun ys' H' p' => ⟨xs.length - (i + 1), by omega, rfl, hlt, p'⟩, fun v H' y => ?_⟩
    obtain ⟨T, hT, rfl, y⟩ := y
    obtain ⟨x, hx, rfl⟩ := y xs q
    exact ⟨T, .int i, x, rfl, SqT.of upd_same, hs i x ys _ T hx p hT⟩
  · have e : i = xs.length := by omega
    subst e
    exact .inl ⟨⟨xs, q, Nat.le_refl _⟩, hd ys H p⟩
end
/-! ### zip of two lists -/
def Itz (K : PySem.W.Frag) (a b : Addr) : It :=
  ⟨fun i H => ∃ xs ys x y, SqL K H a xs ∧ SqL K H b ys ∧ xs[i]? = some x ∧ ys[i]? = some y, fun i H v H' => ∃ T, H T = none ∧ v = .ref T ∧ ∀ xs ys, SqL K H a xs → SqL K H b ys → ∃ x y, xs[i]? = some x ∧ ys[i]? = some y ∧ H' = upd H T (.tup [x, y]),
    fun i H => ∃ xs ys, SqL K H a xs ∧ SqL K H b ys ∧ (xs.length ≤ i ∨ ys.length ≤ i)⟩
theorem turn_zip {P : Program} {w : World} {K : PySem.W.Frag} {elts : List Expr} {x1 : Nat} {pos : Pos} (a b z TI TO i1 i2 : Addr) (D : PySem.ZipApart z TI TO i1 i2 a b) :
    Turn P w K (.Tuple elts x1 pos) (Itz K a b) [z, TI, TO, i1, i2] z (fun i h => PySem.IsZip h z TI TO .none ∧ PySem.IsPair h TI (.ref i1) (.ref i2) ∧ (∃ u v, PySem.IsPair h TO u v) ∧ h.IsListIter i1 a i ∧ h.IsListIter i2 b i) where
  mem := by simp
  obj := fun i h st c hc => by
    obtain ⟨h1, h2, ⟨u, v, h3⟩, h4, h5⟩ := st
    simp only [List.mem_cons, List.not_mem_nil, or_false] at hc
    rcases hc with rfl | rfl | rfl | rfl | rfl
    · exact ⟨_, h1, fun v q => by cases q⟩
    · exact ⟨_, h2, fun v q => by cases q⟩
    · exact ⟨_, h3, fun v q => by cases q⟩
    · obtain ⟨o, e1, _, d⟩ := h4
      exact ⟨o, e1, fun v q => by rw [d] at q; cases q⟩
    · obtain ⟨o, e1, _, d⟩ := h5
      exact ⟨o, e1, fun v q => by rw [d] at q; cases q⟩
  keep := fun i h h' st k => by
    obtain ⟨h1, h2, ⟨u, v, h3⟩, h4, h5⟩ := st
    exact ⟨k z (by simp) _ h1, k TI (by simp) _ h2, ⟨u, v, k TO (by simp) _ h3⟩, h4.at fun o q => k i1 (by simp) o q, h5.at fun o q => k i2 (by simp) o q⟩
  item := by
    intro X hP hw hK hc i pins s σ H E I hf st hg
    subst hP hw hK
    obtain ⟨xs, ys, x, y, hq, hq2, hx, hy⟩ := hg
    obtain ⟨its, rv, p, _⟩ := I.list hq
    obtain ⟨its2, rv2, p2, _⟩ := I.list hq2
    obtain ⟨u, hu, ru⟩ := rv.get hx
    obtain ⟨u2, hu2, ru2⟩ := rv2.get hy
    obtain ⟨h1, h2, ⟨ua, ub, h3⟩, h4, h5⟩ := st
    have fz := hf z (by simp)
    have fI := hf TI (by simp)
    have fO := hf TO (by simp)
    have f1 := hf i1 (by simp)
    have f2 := hf i2 (by simp)
    refine PySem.wpAny_pyNext_zip_item D h1 h2 h3 h4 h5 p.isList p2.isList (x := u) (y := u2) (by simpa using hu) (by simpa using hu2) fun hA a1 a2 a3 a4 a5 a6 a7 => ⟨_, rfl, ?_⟩
    refine PySem.wpAny_letOwnedTupleGo_zip a1 fun hB b1 hs => ?_
    have zlt : z < s.heap.objs.size := Heap.lt_size h1
    have ht2 : hB.get? s.heap.objs.size = some { cls := .type "tuple", data := .seq #[u, u2] } := (hs.2 _ (Nat.ne_of_gt zlt)).trans a5
    have hfr : H s.heap.objs.size = none := I.hok.fresh (Nat.le_refl _)
    have k2 : ∀ c o, c ≠ z → c ≠ TO → c ≠ i1 → c ≠ i2 → s.heap.get? c = some o → hB.get? c = some o := fun c o c1 c2 c3 c4 q => hs.extBut c o c1 (a7 c o c1 c2 c3 c4 q)
    have neT : ∀ c o, H c = some o → c ≠ s.heap.objs.size := fun c o q z => by rw [z, hfr] at q; cases q
    have neS : ∀ c o, s.heap.get? c = some o → c ≠ s.heap.objs.size := fun c o q => Nat.ne_of_lt (Heap.lt_size q)
    have nt : ∀ c o, H c = some o → c ≠ z ∧ c ≠ TO ∧ c ≠ i1 ∧ c ≠ i2 := fun c o q => ⟨(fun e => by rw [e, fz.1] at q; cases q), (fun e => by rw [e, fO.1] at q; cases q), (fun e => by rw [e, f1.1] at q; cases q), (fun e => by rw [e, f2.1] at q; cases q)⟩
    have nin : ∀ c, c ∉ [z, TO, i1, i2] → c ≠ z ∧ c ≠ TO ∧ c ≠ i1 ∧ c ≠ i2 := fun c hc => ⟨fun e => hc (by simp [e]), fun e => hc (by simp [e]), fun e => hc (by simp [e]), fun e => hc (by simp [e])⟩
    have kk : ∀ c o, (c ≠ z ∧ c ≠ TO ∧ c ≠ i1 ∧ c ≠ i2) → s.heap.get? c = some o → hB.get? c = some o := fun c o n q => k2 c o n.1 n.2.1 n.2.2.1 n.2.2.2 q
    have I2 : Inv X pins σ (upd H s.heap.objs.size (.tup [x, y])) { s with heap := hB } := by
      refine I.step (g' := s.gens) (d' := s.drawn) (t' := s.toks) (ch := [z, TO, i1, i2]) (fun c hc => ?_) (fun c o _ _ hc' q _ => kk c o (nin c hc') q) (fun c o _ _ hc' q _ => ⟨o.slots, kk c o (nin c hc') q⟩)
        (fun c o _ q n => by rw [upd_ne (neS c o q)]; exact n) (fun c o hc' q => ⟨o, kk c o (nin c hc') q⟩) (fun c ys q => by rw [upd_ne (neT c _ q)]; exact q) (fun c o v q => by rw [upd_ne (neT c _ q)]; exact q)
        (fun c ps q => ⟨#[], by rw [upd_ne (neT c _ q), q]; simp⟩) (fun m hm => ?_) (fun c o q => ?_) I.bare
      · simp only [List.mem_cons, List.not_mem_nil, or_false] at hc
        rcases hc with rfl | rfl | rfl | rfl
        · exact ⟨fz.2.2.2.1, fz.2.1, fz.2.2.2.2.1, fz.2.2.2.2.2⟩
        · exact ⟨fO.2.2.2.1, fO.2.1, fO.2.2.2.2.1, fO.2.2.2.2.2⟩
        · exact ⟨f1.2.2.2.1, f1.2.1, f1.2.2.2.2.1, f1.2.2.2.2.2⟩
        · exact ⟨f2.2.2.2.1, f2.2.1, f2.2.2.2.2.1, f2.2.2.2.2.2⟩
      · obtain ⟨o, es, ep, ho, r⟩ := hm
        exact ⟨o, es, ep, kk _ o ⟨Ne.symm fz.2.1, Ne.symm fO.2.1, Ne.symm f1.2.1, Ne.symm f2.2.1⟩ ho, r⟩
      · by_cases e : c = s.heap.objs.size
        · subst e
          rw [upd_same] at q
          cases q
          exact ⟨(by show 2 ≤ sizeLine; decide), [u, u2], .cons ru (.cons ru2 .nil), _, ht2, rfl, _, rfl⟩
        · rw [upd_ne e] at q
          refine (I.hok c o q).stay (fun d v hd r => kk d v ?_ r) (fun d r => by rw [upd_ne (neT d _ r)]; exact r) fun d ys r => by rw [upd_ne (neT d _ r)]; exact r
          rcases hd with y | y
          · rw [y]; exact nt c o q
          · exact nt d _ y
    refine ⟨.ref s.heap.objs.size, _, I2, rfl, ⟨s.heap.objs.size, hfr, rfl, fun xs2 ys2 hx2 hy2 => ⟨x, y, by rw [I.list_inj hx2 hq]; exact hx, by rw [I.list_inj hy2 hq2]; exact hy, rfl⟩⟩, ⟨b1, ?_, ⟨_, _, hs.extBut _ _ D.TOz a2⟩, a3.at fun o q => hs.extBut _ _ D.i1z q, a4.at fun o q => hs.extBut _ _ D.i2z q⟩, fun c hc => ?_⟩
    · exact k2 _ _ D.TIz D.TITO D.TIi1 D.TIi2 h2
    · have old : ∀ c, (∃ o, s.heap.get? c = some o) → H c = none → upd H s.heap.objs.size (.tup [x, y]) c = none := fun c ⟨o, q⟩ hn => by rw [upd_ne (neS c o q)]; exact hn
      simp only [List.mem_cons, List.not_mem_nil, or_false] at hc
      rcases hc with rfl | rfl | rfl | rfl | rfl
      · exact old _ ⟨_, h1⟩ fz.1
      · exact old _ ⟨_, h2⟩ fI.1
      · exact old _ ⟨_, h3⟩ fO.1
      · obtain ⟨o, q, _⟩ := id h4
        exact old _ ⟨o, q⟩ f1.1
      · obtain ⟨o, q, _⟩ := id h5
        exact old _ ⟨o, q⟩ f2.1
  done := by
    intro X hP hw hK hc i pins s σ H E I hf st hg
    subst hP hw hK
    obtain ⟨xs, ys, hq, hq2, hx⟩ := hg
    obtain ⟨its, rv, p, _⟩ := I.list hq
    obtain ⟨its2, rv2, p2, _⟩ := I.list hq2
    obtain ⟨h1, h2, ⟨ua, ub, h3⟩, h4, h5⟩ := st
    have hl := rv.length
    have hl2 := rv2.length
    have fz := hf z (by simp)
    have fO := hf TO (by simp)
    have f1 := hf i1 (by simp)
    have f2 := hf i2 (by simp)
    refine PySem.wpAny_pyNext_zip_end (I.ok.hd hc) D h1 h2 h3 h4 h5 p.isList p2.isList (hx.imp (fun e => by simp; omega) (fun e => by simp; omega)) fun hA k => ⟨rfl, ?_⟩
    have nin : ∀ c, c ∉ [z, TO, i1, i2] → c ≠ z ∧ c ≠ TO ∧ c ≠ i1 ∧ c ≠ i2 := fun c hc => ⟨fun e => hc (by simp [e]), fun e => hc (by simp [e]), fun e => hc (by simp [e]), fun e => hc (by simp [e])⟩
    have kk : ∀ c o, (c ≠ z ∧ c ≠ TO ∧ c ≠ i1 ∧ c ≠ i2) → s.heap.get? c = some o → hA.get? c = some o := fun c o n q => k c o n.1 n.2.1 n.2.2.1 n.2.2.2 q
    have nt : ∀ c o, H c = some o → c ≠ z ∧ c ≠ TO ∧ c ≠ i1 ∧ c ≠ i2 := fun c o q => ⟨(fun e => by rw [e, fz.1] at q; cases q), (fun e => by rw [e, fO.1] at q; cases q), (fun e => by rw [e, f1.1] at q; cases q), (fun e => by rw [e, f2.1] at q; cases q)⟩
    refine I.step (g' := s.gens) (d' := s.drawn) (t' := s.toks) (ch := [z, TO, i1, i2]) (fun c hc => ?_) (fun c o _ _ hc' q _ => kk c o (nin c hc') q) (fun c o _ _ hc' q _ => ⟨o.slots, kk c o (nin c hc') q⟩)
      (fun c o _ q n => n) (fun c o hc' q => ⟨o, kk c o (nin c hc') q⟩) (fun c ys q => q) (fun c o v q => q) (fun c ps q => ⟨#[], by rw [q]; simp⟩) (fun m hm => ?_) (fun c o q => ?_) I.bare
    · simp only [List.mem_cons, List.not_mem_nil, or_false] at hc
      rcases hc with rfl | rfl | rfl | rfl
      · exact ⟨fz.2.2.2.1, fz.2.1, fz.2.2.2.2.1, fz.2.2.2.2.2⟩
      · exact ⟨fO.2.2.2.1, fO.2.1, fO.2.2.2.2.1, fO.2.2.2.2.2⟩
      · exact ⟨f1.2.2.2.1, f1.2.1, f1.2.2.2.2.1, f1.2.2.2.2.2⟩
      · exact ⟨f2.2.2.2.1, f2.2.1, f2.2.2.2.2.1, f2.2.2.2.2.2⟩
    · obtain ⟨o, es, ep, ho, r⟩ := hm
      exact ⟨o, es, ep, kk _ o ⟨Ne.symm fz.2.1, Ne.symm fO.2.1, Ne.symm f1.2.1, Ne.symm f2.2.1⟩ ho, r⟩
    · refine (I.hok c o q).stay (fun d v hd r => kk d v ?_ r) (fun d r => r) fun d ys r => r
      rcases hd with y | y
      · rw [y]; exact nt c o q
      · exact nt d _ y
  self := fun _ _ _ _ _ st h => PySem.wpAny_pyIter_zip st.1 h
end L2

set_option Elab.async false
set_option linter.all false
set_option maxRecDepth 100000
set_option maxHeartbeats 4000000
namespace L2
open PySem PySem.Spec PyProof.Rows
section
variable {X : Cx}
def iZip (K : PySem.W.Frag) (ta : TA) : TI := fun σ H R => ta σ H fun vs H1 => ∃ a b, vs = [.ref a, .ref b] ∧ (∃ xs, SqL K H1 a xs) ∧ (∃ ys, SqL K H1 b ys) ∧ R (Itz K a b) H1
theorem pi_zip {elts : List Expr} {x1 : Nat} {tp p pos : Pos} {e1 e2 : Expr} {ta : TA} (hg : Gl X "zip") (hm : X.mg "zip" = none) (ha : PA X [e1, e2] ta) (hs : starEach [e1, e2] X.env = [(false, eval e1 X.env), (false, eval e2 X.env)] := by rfl) (hs2 : starEach [e2] X.env = [(false, eval e2 X.env)] := by rfl) :
    PI X (.Tuple elts x1 tp) (.Call (.Name "zip" p) [e1, e2] [] pos) (iZip X.K ta) := by
  intro pins s σ H R I h
  refine Call_ (ld_blt I hg hm PyProof.Rows.boot_zip (PyProof.Rows.callWith_type1 (thn (ha pos pins s σ H _ I h) fun us s1 ⟨vs, H1, I1, r1, q1⟩ => ?_) (by rw [hs, hs2]) (by rw [hs2]; rfl)))
  obtain ⟨a, b, ev, ⟨xs, hq⟩, ⟨ys, hq2⟩, q⟩ := q1
  subst ev
  obtain ⟨u1, u2, rfl, ru1, ru2⟩ := r1.two
  cases ru1
  cases ru2
  obtain ⟨its, rv, pl, _⟩ := I1.list hq
  obtain ⟨its2, rv2, pl2, _⟩ := I1.list hq2
  have la : a < s1.heap.objs.size := by
    obtain ⟨o, ho, _⟩ := pl.isList
    exact Heap.lt_size ho
  have lb : b < s1.heap.objs.size := by
    obtain ⟨o, ho, _⟩ := pl2.isList
    exact Heap.lt_size ho
  refine PySem.call_zip_2 pl.isList pl2.isList fun h' hz h2 h3 h4 h5 hsz hk => ?_
  refine PySem.wpAny_pyIter_zip hz ?_
  have I2 : Inv X pins σ H1 { s1 with heap := h' } := I1.kept (t' := s1.toks) hk
  have ga : ∀ k : Nat, a ≠ s1.heap.objs.size + k := fun k => Nat.ne_of_lt (Nat.lt_of_lt_of_le la (Nat.le_add_right _ _))
  have gb : ∀ k : Nat, b ≠ s1.heap.objs.size + k := fun k => Nat.ne_of_lt (Nat.lt_of_lt_of_le lb (Nat.le_add_right _ _))
  have D : PySem.ZipApart (s1.heap.objs.size + 4) (s1.heap.objs.size + 2) (s1.heap.objs.size + 3) s1.heap.objs.size (s1.heap.objs.size + 1) a b := by
    constructor <;> first | exact ga 4 | exact ga 3 | exact ga 1 | exact ga 0 | exact gb 4 | exact gb 3 | exact gb 1 | exact gb 0 | exact Nat.ne_of_lt (by omega) | exact Nat.ne_of_gt (by omega)
  refine ⟨s1.heap.objs.size + 4, [s1.heap.objs.size + 4, s1.heap.objs.size + 2, s1.heap.objs.size + 3, s1.heap.objs.size, s1.heap.objs.size + 1], _, _, H1, rfl, I2, turn_zip a b _ _ _ _ _ D, ⟨hz, h2, ⟨_, _, h3⟩, h4, h5⟩, fun c hc => ?_, q⟩
  have hb : s1.heap.objs.size ≤ c := by
    simp only [List.mem_cons, List.not_mem_nil, or_false] at hc
    rcases hc with rfl | rfl | rfl | rfl | rfl
    · exact Nat.le_add_right _ _
    · exact Nat.le_add_right _ _
    · exact Nat.le_add_right _ _
    · exact Nat.le_refl _
    · exact Nat.le_add_right _ _
  exact I1.fpOk hb (I1.hok.fresh hb)
theorem comp2_zip {K : PySem.W.Frag} {a b : Addr} {xs zs : List V} {os : St} {tt : TT} {te : TE} {H : Hp} {Q : VK} (same : zs.length = xs.length) (Pv : Nat → List V → Hp → Prop) (h0 : Pv 0 [] H) (hz : ∀ i ys H, i < xs.length → Pv i ys H → ys.length < sizeLine)
    (hl : ∀ i ys H, i ≤ xs.length → Pv i ys H → SqL K H a xs ∧ SqL K H b zs)
    (hs : ∀ (i : Nat) x z ys H T, xs[i]? = some x → zs[i]? = some z → Pv i ys H → H T = none → tt (some x :: some z :: os) (upd H T (.tup [x, z])) fun b H2 => if b = true then te (some x :: some z :: os) H2 fun v H3 => Pv (i + 1) (ys ++ [v]) H3 else Pv (i + 1) ys H2)
    (hd : ∀ ys H, Pv xs.length ys H → ∀ p, H p = none → Q (.ref p) (upd H p (.lst ys))) : CompW2 K (Itz K a b) os tt te H Q := by
  refine ⟨fun i m ys H => m = xs.length - i ∧ i ≤ xs.length ∧ Pv i ys H, ⟨xs.length, by simp, Nat.zero_le _, h0⟩, ?_⟩
  rintro i m ys H ⟨rfl, hi, p⟩
  obtain ⟨q, q2⟩ := hl i ys H hi p
  by_cases hlt : i < xs.length
  · refine .inr ⟨⟨xs, zs, xs[i], zs[i]'(by omega), q, q2, by simp [hlt], by rw [List.getElem?_eq_getElem (by omega)]⟩, hz i ys H hlt p, Pv (i + 1), fun ys' H' p' => ⟨xs.length - (i + 1), by omega, rfl, hlt, p'⟩, fun v H' y => ?_⟩
    obtain ⟨T, hT, rfl, y⟩ := y
    obtain ⟨x, z, hx, hz2, rfl⟩ := y xs zs q q2
    exact ⟨T, x, z, rfl, SqT.of upd_same, hs i x z ys _ T hx hz2 p hT⟩
  · have e : i = xs.length := by omega
    subst e
    exact .inl ⟨⟨xs, zs, q, q2, .inl (Nat.le_refl _)⟩, hd ys H p⟩
/-- list.index of flat things -/
def rIndex : V → List V → Hp → VK → Prop := fun x vs H Q => ∃ (l : Addr) (xs : List V) (y : V) (j : Nat) (z : V), x = .ref l ∧ vs = [y] ∧ H l = some (.lst xs) ∧ flatV y = true ∧ xs.all flatV = true ∧ xs[j]? = some z ∧ eqV z y = true ∧ (∀ (m : Nat) z, m < j → xs[m]? = some z → eqV z y = false) ∧ Q (.int j) H
theorem mt_index : MtM X "list.index" rIndex := by
  intro pins s σ H x vs v us Q I rx rv h
  obtain ⟨l, xs, y, j, z, rfl, rfl, hH, fy, fx, hj, hit, hno, q⟩ := h
  cases rx
  obtain ⟨u, rfl, ru⟩ := rv.one
  obtain ⟨hz, its, n, r, hl, e⟩ := I.lstM hH
  have at_ : ∀ (m : Nat) (w : Value), its[m]? = some w → ∃ z, xs[m]? = some z ∧ eqU y w = eqV z y := fun m w hm => by
    obtain ⟨z, h1, h2⟩ := vals_at r m w hm
    exact ⟨z, h1, eqU_of h2 (List.all_eq_true.mp fx z (List.mem_of_getElem? h1))⟩
  have hlt : j < its.length := by
    have := (List.getElem?_eq_some_iff.mp hj).1
    omega
  have line : sizeLine < 2 ^ 62 := by decide
  refine call_meets F.slot_list_index ⟨_, e, rfl⟩ F.entry_list_index (F.args_list_index_2 _ _) (SeqAt.list_indexAt l its.toArray n none #[] u (eqU y) j (by simpa using hlt) (by omega) ?_ ?_) ⟨e, ?_, ⟨.int j, H, I.tok _, ⟨_, rfl⟩, q⟩⟩
  · obtain ⟨z2, h1, h2⟩ := at_ j _ (List.getElem?_eq_getElem hlt)
    rw [hj] at h1
    cases h1
    exact h2.trans hit
  · intro m hm hmj
    have hm' : m < its.length := by simpa using hm
    obtain ⟨z2, h1, h2⟩ := at_ m _ (List.getElem?_eq_getElem hm')
    exact h2.trans (hno m z2 hmj h1)
  · intro w hw
    exact mem_eqAt ru fy r fx w (by simpa using hw)
theorem toks_of : ∀ {ns : List Int} {us : List Value}, Vals (ns.map V.int) us → ∃ ps : List (Int × Tok), us = ps.map (fun p => Value.int p.1 p.2) ∧ ns = ps.map (·.1)
  | [], _, .nil => ⟨[], rfl, rfl⟩
  | n :: ns, _, .cons h r => by
    obtain ⟨t, rfl⟩ := h
    obtain ⟨ps, rfl, rfl⟩ := toks_of r
    exact ⟨(n, t) :: ps, rfl, rfl⟩
/-- max of a list of ints that is not empty -/
theorem call_maxL (hc : X.calm = true) : CallR X (.builtin "max") (fun xs H Q => ∃ (a : Addr) (ns : List Int), xs = [.ref a] ∧ SqL X.K H a (ns.map V.int) ∧ ns ≠ [] ∧ ∀ M, M ∈ ns → (∀ n ∈ ns, n ≤ M) → Q (.int M) H) := by
  intro pins s σ H xs us Q I r h
  obtain ⟨a, ns, rfl, hq, ne, q⟩ := h
  obtain ⟨u, rfl, ru⟩ := vals1 r
  cases ru
  obtain ⟨its, rv, p, _⟩ := I.list hq
  obtain ⟨ps, rfl, rfl⟩ := toks_of rv
  have hl : s.heap.IsList a (intItems ps.toArray) := by
    have := p.isList
    simpa [intItems] using this
  refine max_intList (I.ok.hd hc) hl (by simpa using List.length_pos_iff.mpr (fun e => ne (by rw [e]; rfl))) fun v h' tk hv hk => ?_
  obtain ⟨t, rfl⟩ := intItems_at hv
  obtain ⟨g1, g2⟩ := argBest_gt (numAt ps.toArray) (ps.toArray.size - 1)
  have pos : 0 < ps.length := List.length_pos_iff.mpr fun e => ne (by rw [e]; rfl)
  refine ⟨.int _, H, I.kept (t' := tk) hk, ⟨_, rfl⟩, q _ ?_ fun n hn => ?_⟩
  · rw [numAt_eq]
    exact getD_mem (by simp at g1 ⊢; omega)
  · obtain ⟨j, hj, rfl⟩ := mem_getD hn
    rw [List.length_map] at hj
    have e : (ps.map (·.1)).getD j 0 = numAt ps.toArray j := by rw [numAt_eq]
    rw [e]
    exact g2 j (by simp; omega)
end
end L2

set_option Elab.async false
set_option linter.all false
set_option maxRecDepth 100000
set_option maxHeartbeats 4000000
namespace K31
open PySem L2 PySem.W
def top (i : Nat) : Stmt := PySem.Challenge.pw_farhail_k31_rings_known_at_once.main.body.getD i (.Pass ⟨0, 0, 0, 0⟩)
abbrev sSteps : Stmt := top 1
abbrev sRing : Stmt := top 2
abbrev sRFar : Stmt := top 3
abbrev sAt : Stmt := top 5
abbrev sFold : Stmt := top 6
abbrev sState : Stmt := top 7
abbrev sNext : Stmt := top 8
abbrev sGreat : Stmt := top 9
abbrev sLooks : Stmt := top 10
abbrev sFar : Stmt := top 11
abbrev sUnlike : Stmt := top 12
abbrev sWords : Stmt := top 13
abbrev sLaw : Stmt := top 14
structure Txt (K : Frag) (mg : Str → Option Value) : Prop where
  len : mg "len" = none
  min : mg "min" = none
  max : mg "max" = none
  range : mg "range" = none
  set : mg "set" = none
  tuple : mg "tuple" = none
  isi : mg "isinstance" = none
  list : mg "list" = none
  sorted : mg "sorted" = none
  zip : mg "zip" = none
  enum : mg "enumerate" = none
  bool : mg "bool" = none
  kb : kitOne K (.type "bool") (.type "bool") = some true
  ki : kitOne K (.type "int") (.type "bool") = some false
theorem dec_i (a b : Int) : decide (V.int a = V.int b) = decide (a = b) := by
  rw [Bool.eq_iff_iff, decide_eq_true_iff, decide_eq_true_iff]
  exact ⟨fun z => V.int.inj z, fun z => by rw [z]⟩
end K31

set_option Elab.async false
set_option linter.all false
set_option maxRecDepth 100000
set_option maxHeartbeats 4000000
namespace K31
open PySem L2 PySem.W
def spAt (K : Frag) : Sp := fun vs H Q _ => ∃ (a : Addr) (ns : List Int) (k : Nat), vs = [.ref a, .int k] ∧ SqL K H a (ns.map V.int) ∧ ∀ i H', Same H H' → Q (.int i) H'
section
variable {P : Program} {w : World} {K : Frag} {mg : Str → Option Value} {base : Heap}
theorem scAt : FnScope ["script", "k", "cell"] ["script", "k"] (defScope sAt) := ⟨rfl, rfl, rfl, by decide +kernel, rfl, by decide +kernel, by decide +kernel⟩
theorem at_ints {ns : List Int} {j : Nat} (h : j < ns.length) : ∃ i, atI (ns.map V.int) (j : Int) = some (.int i) := ⟨ns[j], atI_nat (by rw [List.getElem?_map, List.getElem?_eq_getElem h]; rfl)⟩
theorem ok_at {f : Addr} {fd : FuncData} (F : Fun K "_law_cell_at" "_law_cell_at" sAt f fd) (T : Txt K mg) : FnOk P w K mg base CX0 1 f fd ["script", "k"] (spAt K) := by
  refine F.ok scAt (fun vs H Q E h => ?_) (fun cdv A outer s H vs Q E hr h => ?_)
  · obtain ⟨a, ns, k, rfl, _⟩ := h
    rfl
  · obtain ⟨a, ns, k, rfl, hS, q⟩ := h
    have hu := hr.units
    refine ⟨_, pss_cons (ps_if (pt_cmpR op_lt (pv 1) (pe_callB call_len_seq (by rfl) T.len PySem.boot_len (pa_cons (pv 0) pa_nil)) (nomark _)) (pss_one (ps_ret (pe_ix ix_list (pv 0) (pv 1) (fun _ _ => rfl)))) pss_nil)
      (pss_cons (ps_set (i := 2) scAt.nd rfl (Or.inl rfl) pe_int)
      (pss_cons (ps_if (pt_cmpR (op_neL hu) (pv 0) (pe_lst pa_nil) (nomark _)) (pss_one (ps_set (i := 2) scAt.nd rfl (Or.inl rfl) (pe_op op_mod (pe_ix ix_list (pv 0) (pe_op op_mod (pv 1) (pe_callB call_len_seq (by rfl) T.len PySem.boot_len (pa_cons (pv 0) pa_nil))) (fun _ _ => rfl)) pe_int))) pss_nil)
      (pss_one (ps_ret (pe_op op_add (pe_op op_add (pv 2) (pe_op op_mul pe_int (pv 1))) pe_int))))), ?_⟩
    refine ⟨_, rfl, _, rfl, a, _, rfl, .inl hS, _, _, rfl, rfl, _, rfl, ?_⟩
    refine ite2 (fun hlt => ?_) (fun hge => ?_)
    · have hlt : (k : Int) < ((ns.map V.int).length : Nat) := of_decide_eq_true hlt
      rw [List.length_map] at hlt
      obtain ⟨i, hi⟩ := at_ints (ns := ns) (j := k) (by omega)
      exact ⟨_, rfl, _, rfl, a, _, k, .int i, rfl, rfl, hS, hi, q i _ (Same.refl _)⟩
    · refine ⟨_, rfl, (by show 0 ≤ sizeLine; decide), fun l hl => ?_⟩
      have s1 : Same H (upd H l (.lst [])) := new_same hl
      refine ⟨a, l, ns, [], rfl, rfl, s1.seq hS, SqL.of upd_same, _, rfl, ?_⟩
      have s2 : ∀ i : Int, Q (.int i) (upd H l (.lst [])) := fun i => q i _ s1
      refine ite2 (fun c => ?_) (fun c => ?_)
      · have hn : 0 < ns.length := by
          cases ns with
          | nil => exact absurd c (by decide)
          | cons _ _ => exact Nat.zero_lt_succ _
        have hlen : ((ns.map V.int).length : Int) = ns.length := by rw [List.length_map]
        obtain ⟨i, hi⟩ := at_ints (ns := ns) (j := k % ns.length) (Nat.mod_lt _ hn)
        refine ⟨_, rfl, _, rfl, _, rfl, a, _, rfl, .inl (s1.seq hS), _, _, rfl, rfl, (by rw [hlen]; omega), a, _, _, .int i, rfl, rfl, s1.seq hS, (by rw [hlen]; exact hi), _, _, rfl, rfl, (by show (0 : Int) < 1000003; decide), ?_⟩
        exact ⟨_, rfl, _, rfl, _, _, rfl, rfl, .inl ⟨by decide, by decide⟩, _, _, rfl, rfl, _, _, rfl, rfl, s2 _⟩
      · exact ⟨_, rfl, _, rfl, _, _, rfl, rfl, .inl ⟨by decide, by decide⟩, _, _, rfl, rfl, _, _, rfl, rfl, s2 _⟩
end
end K31

set_option Elab.async false
set_option linter.all false
set_option maxRecDepth 100000
set_option maxHeartbeats 4000000
namespace K31
open PySem L2 PySem.W
/-- a state stands at a -/
def StA (H : Hp) (a : Addr) : Prop := ∃ x y : Int, H a = some (.lst [.int x, .int y]) ∧ 0 ≤ y ∧ y < 2147483647
def spState : Sp := fun vs H Q _ => ∃ c : Int, vs = [.int c] ∧ ∀ p o, H p = none → StA (upd H p o) p → Q (.ref p) (upd H p o)
def spNext : Sp := fun vs H Q _ => ∃ (a : Addr) (m : Int), vs = [.ref a, .int m] ∧ 0 < m ∧ m < 1073741824 ∧ StA H a ∧ ∀ r H', 0 ≤ r → r < m → StA H' a → Mv a H H' → Q (.int r) H'
def spGreat : Sp := fun vs H Q _ => ∃ (a : Addr) (m : Int), vs = [.ref a, .int m] ∧ 0 < m ∧ StA H a ∧ ∀ r H', 0 ≤ r → r < m → StA H' a → Mv a H H' → Q (.int r) H'
section
variable {P : Program} {w : World} {K : Frag} {mg : Str → Option Value} {base : Heap}
theorem scState : FnScope ["cell", "left"] ["cell"] (defScope sState) := ⟨rfl, rfl, rfl, by decide +kernel, rfl, by decide +kernel, by decide +kernel⟩
theorem ok_state {f : Addr} {fd : FuncData} (F : Fun K "_law_state" "_law_state" sState f fd) : FnOk P w K mg base CX0 1 f fd ["cell"] spState := by
  refine F.ok scState (fun vs H Q E h => ?_) (fun cdv A outer s H vs Q E hr h => ?_)
  · obtain ⟨c, rfl, _⟩ := h
    rfl
  · obtain ⟨c, rfl, q⟩ := h
    refine ⟨_, pss_cons (ps_set (i := 1) scState.nd rfl (Or.inl rfl) pe_int)
      (pss_cons (ps_if (pt_cmpR op_ge (pv 0) (pe_op op_pow pe_int pe_int) (nomark _)) (pss_one (ps_set (i := 1) scState.nd rfl (Or.inl rfl) (pv 0))) pss_nil)
      (pss_one (ps_ret (pe_lst (pa_cons (pv 1) (pa_cons (pe_op op_mod (pe_op op_mul (pe_op op_add (pe_op op_mod (pv 0) pe_int) pe_int) pe_int) pe_int) pa_nil)))))), ?_⟩
    have fin : ∀ (l : Int) (p : Addr), H p = none → Q (.ref p) (upd H p (.lst [.int l, .int ((c % 2147483629 + 11) * 48271 % 2147483647)])) := fun l p hp => q p _ hp ⟨l, _, upd_same, by omega, by omega⟩
    refine ⟨_, rfl, _, _, rfl, rfl, ⟨by decide, by decide, by decide⟩, _, _, rfl, rfl, _, rfl, ?_⟩
    refine ite2 (fun c1 => ?_) (fun c1 => ?_)
    · exact ⟨_, rfl, _, rfl, _, rfl, _, _, rfl, rfl, (by show (0 : Int) < 2147483629; decide), _, _, rfl, rfl, _, _, rfl, rfl, .inr ⟨by decide, by decide⟩, _, _, rfl, rfl, (by show (0 : Int) < 2147483647; decide), (by show 2 ≤ sizeLine; decide), fun p hp => fin c p hp⟩
    · exact ⟨_, rfl, _, rfl, _, _, rfl, rfl, (by show (0 : Int) < 2147483629; decide), _, _, rfl, rfl, _, _, rfl, rfl, .inr ⟨by decide, by decide⟩, _, _, rfl, rfl, (by show (0 : Int) < 2147483647; decide), (by show 2 ≤ sizeLine; decide), fun p hp => fin 0 p hp⟩
theorem scNext : FnScope ["state", "many", "found"] ["state", "many"] (defScope sNext) := ⟨rfl, rfl, rfl, by decide +kernel, rfl, by decide +kernel, by decide +kernel⟩
theorem ok_next {f : Addr} {fd : FuncData} (F : Fun K "_law_next" "_law_next" sNext f fd) : FnOk P w K mg base CX0 1 f fd ["state", "many"] spNext := by
  refine F.ok scNext (fun vs H Q E h => ?_) (fun cdv A outer s H vs Q E hr h => ?_)
  · obtain ⟨a, m, rfl, _⟩ := h
    rfl
  · obtain ⟨a, m, rfl, m0, m1, ⟨x, y, ha, y0, y1⟩, q⟩ := h
    refine ⟨_, pss_cons (ps_if (pt_cmpR op_gt (pe_ix ix_list (pv 0) pe_int (fun _ _ => rfl)) pe_int (nomark _))
        (pss_cons (ps_set (i := 2) scNext.nd rfl (Or.inl rfl) (pe_op op_mod (pe_ix ix_list (pv 0) pe_int (fun _ _ => rfl)) (pv 1)))
        (pss_cons (ps_asg (pe_op op_fdiv (pe_ix ix_list (pv 0) pe_int (fun _ _ => rfl)) (pv 1)) (pg_sub (pv 0) pe_int set_list)) (pss_one (ps_ret (pv 2))))) pss_nil)
      (pss_cons (ps_asg (pe_op op_mod (pe_op op_add (pe_op op_mul (pe_ix ix_list (pv 0) pe_int (fun _ _ => rfl)) pe_int) pe_int) pe_int) (pg_sub (pv 0) pe_int set_list))
      (pss_one (ps_ret (pe_op op_mod (pe_op op_fdiv (pe_op op_mod (pe_op op_mul (pe_ix ix_list (pv 0) pe_int (fun _ _ => rfl)) (pe_ix ix_list (pv 0) pe_int (fun _ _ => rfl))) pe_int) pe_int) (pv 1))))), ?_⟩
    refine ⟨_, rfl, a, _, 0, .int x, rfl, rfl, SqL.of ha, atI_nat (j := 0) rfl, _, _, rfl, rfl, _, rfl, ?_⟩
    refine ite2 (fun c => ?_) (fun c => ?_)
    · refine ⟨_, rfl, a, _, 0, .int x, rfl, rfl, SqL.of ha, atI_nat (j := 0) rfl, _, rfl, _, _, rfl, rfl, m0, ?_⟩
      refine ⟨_, rfl, a, _, 0, .int x, rfl, rfl, SqL.of ha, atI_nat (j := 0) rfl, _, rfl, _, _, rfl, rfl, ⟨m0, m1⟩, _, rfl, a, _, 0, 0, rfl, rfl, ha, rfl, ?_⟩
      exact ⟨_, rfl, q _ _ (Int.emod_nonneg _ (by omega)) (Int.emod_lt_of_pos _ m0) ⟨_, y, upd_same, y0, y1⟩ (Mv.upd a H _)⟩
    · refine ⟨_, rfl, a, _, 1, .int y, rfl, rfl, SqL.of ha, atI_nat (j := 1) rfl, _, _, rfl, rfl, .inr ⟨by decide, by decide⟩, _, _, rfl, rfl, _, _, rfl, rfl, (by show (0 : Int) < 2147483647; decide), _, rfl, a, _, 1, 1, rfl, rfl, ha, rfl, ?_⟩
      have z0 : 0 ≤ (y * 69621 + 40692) % 2147483647 := by omega
      have z1 : (y * 69621 + 40692) % 2147483647 < 2147483647 := by omega
      have hb : upd H a (.lst [.int x, .int ((y * 69621 + 40692) % 2147483647)]) a = some (.lst [.int x, .int ((y * 69621 + 40692) % 2147483647)]) := upd_same
      refine ⟨_, rfl, a, _, 1, .int ((y * 69621 + 40692) % 2147483647), rfl, rfl, SqL.of hb, atI_nat (j := 1) rfl, _, rfl, a, _, 1, .int ((y * 69621 + 40692) % 2147483647), rfl, rfl, SqL.of hb, atI_nat (j := 1) rfl, _, _, rfl, rfl, .inl ⟨by omega, by omega⟩, _, _, rfl, rfl, (by show (0 : Int) < 2147483629; decide), _, _, rfl, rfl, ⟨by decide, by decide⟩, _, rfl, _, _, rfl, rfl, m0, ?_⟩
      exact q _ _ (Int.emod_nonneg _ (by omega)) (Int.emod_lt_of_pos _ m0) ⟨x, _, hb, z0, z1⟩ (Mv.upd a H _)
theorem scGreat : FnScope ["state", "top", "found", "k"] ["state", "top"] (defScope sGreat) := ⟨rfl, rfl, rfl, by decide +kernel, rfl, by decide +kernel, by decide +kernel⟩
theorem ok_great {f : Addr} {fd : FuncData} (F : Fun K "_law_great" "_law_great" sGreat f fd) (T : Txt K mg) (hN : Has P w K mg base 1 "_law_next" ["state", "many"] spNext) : FnOk P w K mg base CX0 2 f fd ["state", "top"] spGreat := by
  refine F.ok scGreat (fun vs H Q E h => ?_) (fun cdv A outer s H vs Q E hr h => ?_)
  · obtain ⟨a, m, rfl, _⟩ := h
    rfl
  · obtain ⟨a, m, rfl, m0, st, q⟩ := h
    refine ⟨_, pss_cons (ps_set (i := 2) scGreat.nd rfl (Or.inl rfl) pe_int)
      (pss_cons (ps_for PassesOwn.never rfl (pi_range1 rfl T.range (pa_cons pe_int pa_nil)) (pg_name (i := 3) scGreat.nd rfl (Or.inl rfl))
        (pss_one (ps_set (i := 2) scGreat.nd rfl (Or.inl rfl) (pe_op op_add (pe_op op_mul (pv 2) (pe_op op_pow pe_int pe_int)) (pe_has hN hr rfl (pa_cons (pv 0) (pa_cons (pe_op op_pow pe_int pe_int) pa_nil)))))))
      (pss_one (ps_ret (pe_op op_mod (pv 2) (pv 1))))), ?_⟩
    refine ⟨9, rfl, (by decide), (by decide), for_range (lo := 0) (n := 9) (fun i σ H2 => ∃ (z : Int) (v : Option V), σ = [some (.ref a), some (.int m), some (.int z), v] ∧ StA H2 a ∧ Mv a H H2) ⟨0, none, rfl, st, Mv.refl _ _⟩ ?_ ?_⟩
    · rintro i σ H2 hi ⟨z, v, rfl, st2, mv⟩
      refine ⟨_, rfl, _, _, rfl, rfl, ⟨by decide, by decide, by decide⟩, _, _, rfl, rfl, .inr ⟨by decide, by decide⟩, _, rfl, _, _, rfl, rfl, ⟨by decide, by decide, by decide⟩, a, _, rfl, by decide, by decide, st2, fun r H3 r0 r1 st3 mv3 => ?_⟩
      exact ⟨_, _, rfl, rfl, _, _, rfl, st3, mv.trans mv3⟩
    · rintro σ H2 ⟨z, v, rfl, st2, mv⟩
      exact ⟨_, rfl, _, rfl, _, _, rfl, rfl, m0, q _ _ (Int.emod_nonneg _ (by omega)) (Int.emod_lt_of_pos _ m0) st2 mv⟩
end
end K31

set_option Elab.async false
set_option linter.all false
set_option maxRecDepth 100000
set_option maxHeartbeats 4000000
namespace L2
theorem Mv.same {p : PySem.Addr} {H H' : Hp} (e : Mv p H H') (n : H p = none) : Same H H' := fun b o h => e b o (ne_of_none h n) h
end L2
namespace K31
open PySem L2 PySem.W
def spFold (K : Frag) : Sp := fun vs H Q _ => ∃ (a : Addr) (ns : List Int), vs = [.ref a, .int 12] ∧ SqL K H a (ns.map V.int) ∧ ns.length ≤ 63 ∧ ∀ (cs : List Int) (p : Addr) H', Same H H' → H' p = some (.lst (cs.map V.int)) → cs.length = 12 → Q (.ref p) H'
def foldN : List Str := ["script", "many", "cells", "k", "at"]
def asgScope : Stmt → Scope
  | .Assign _ (.ListComp _ _ sc _) _ => sc
  | _ => { kind := .function, names := [], isGenerator := false, isCoroutine := false }
abbrev scB : Scope := asgScope ((defBody sFold).getD 0 (.Pass ⟨0, 0, 0, 0⟩))
theorem blockF : blockB foldN (defScope sFold) scB "k" ["k", "script"] [0] = true := by decide +kernel
section
variable {P : Program} {w : World} {K : Frag} {mg : Str → Option Value} {base : Heap}
theorem scFold : FnScope foldN ["script", "many"] (defScope sFold) := ⟨rfl, rfl, rfl, by decide +kernel, rfl, by decide +kernel, by decide +kernel⟩
theorem ok_fold {f : Addr} {fd : FuncData} (F : Fun K "_law_folded" "_law_folded" sFold f fd) (T : Txt K mg) (hA : Has P w K mg base 1 "_law_cell_at" ["script", "k"] (spAt K)) : FnOk P w K mg base CX0 2 f fd ["script", "many"] (spFold K) := by
  refine F.ok scFold (fun vs H Q E h => ?_) (fun cdv A outer s H vs Q E hr h => ?_)
  · obtain ⟨a, ns, rfl, _⟩ := h
    rfl
  · obtain ⟨a, ns, rfl, hS, hlen, q⟩ := h
    refine ⟨_, pss_cons (ps_comp (j := 2) scFold.nd rfl rfl (NB := ["k", "script"]) (ix := [0]) (BlockOk.of blockF) rfl (pi_range1 rfl T.range (pa_cons (pv 1) pa_nil)) (fun _ _ _ _ => pe_has hA hr rfl (pa_cons (pv 1) (pa_cons (pv 0) pa_nil))) (fun _ _ _ _ => pts_nil) rfl)
      (pss_cons (ps_for PassesOwn.never rfl (pi_range2 rfl T.range (pa_cons (pv 1) (pa_cons (pe_callB call_len_seq (by rfl) T.len PySem.boot_len (pa_cons (pv 0) pa_nil)) pa_nil))) (pg_name (i := 3) scFold.nd rfl (Or.inl rfl))
        (pss_cons (ps_set (i := 4) scFold.nd rfl (Or.inl rfl) (pe_op op_mod (pv 3) (pv 1)))
        (pss_one (ps_asg (pe_op op_mod (pe_op op_add (pe_op op_mul (pe_op op_mod (pe_ix ix_list (pv 2) (pv 4) (fun _ _ => rfl)) (pe_op op_pow pe_int pe_int)) pe_int) (pe_ix ix_list (pv 0) (pv 3) (fun _ _ => rfl))) (pe_op op_add (pe_op op_pow pe_int pe_int) pe_int)) (pg_sub (pv 2) (pv 4) set_list)))))
      (pss_one (ps_ret (pv 2)))), ?_⟩
    refine ⟨_, rfl, 12, rfl, (by decide), (by decide), comp_range (lo := 0) (n := 12) (fun i ys Hc => Same H Hc ∧ ∃ cs : List Int, ys = cs.map V.int ∧ cs.length = i) ⟨Same.refl _, [], rfl, rfl⟩ ?_ ?_ ?_⟩
    · rintro i ys Hc hi ⟨_, cs, rfl, rfl⟩
      rw [List.length_map]
      exact Nat.lt_trans hi (by decide)
    · rintro i ys Hc hi ⟨s1, cs, rfl, rfl⟩
      unfold tYes
      refine @iteT (tCall (spAt K) [] E0 (tCons (tVar 1) (tCons (tVar 0) tNil)) _ Hc _) (Same H Hc ∧ _) ?_
      refine ⟨_, rfl, _, rfl, a, ns, cs.length, (by rw [Int.zero_add]; rfl), s1.seq hS, fun r H3 s3 => ⟨s1.trans s3, cs ++ [r], by rw [List.map_append]; rfl, by rw [List.length_append]; rfl⟩⟩
    · rintro ys Hc ⟨s1, cs, rfl, hcs⟩ p hp
      have hS1 : SqL K Hc a (ns.map V.int) := s1.seq hS
      refine ⟨_, rfl, _, rfl, a, _, rfl, .inl ((new_same hp).seq hS1), 12, _, rfl, ⟨by decide, by decide, by omega, by rw [List.length_map]; omega⟩, ?_⟩
      rw [List.length_map]
      refine for_range (lo := 12) (n := ((ns.length : Int) - 12).toNat) (fun i σ H2 => ∃ (v w : Option V) (ds : List Int), σ = [some (.ref a), some (.int 12), some (.ref p), v, w] ∧ Mv p Hc H2 ∧ H2 p = some (.lst (ds.map V.int)) ∧ ds.length = 12) ⟨none, none, cs, rfl, Mv.of (new_same hp), upd_same, hcs⟩ ?_ ?_
      · rintro i σ H2 hi ⟨v, w', ds, rfl, mv, h2, hds⟩
        have hS2 : SqL K H2 a (ns.map V.int) := (mv.same hp).seq hS1
        have hk : 12 + i < ns.length := by omega
        obtain ⟨r, hr'⟩ := at_ints (ns := ns) (j := 12 + i) hk
        obtain ⟨j, hj, ej⟩ : ∃ j : Nat, j < 12 ∧ ((12 : Int) + (i : Nat)) % 12 = j := ⟨(12 + i) % 12, Nat.mod_lt _ (by decide), by omega⟩
        obtain ⟨d, hd⟩ := at_ints (ns := ds) (j := j) (by omega)
        rw [← ej] at hd
        have hx : ixN (ds.map V.int).length (((12 : Int) + (i : Nat)) % 12) = some j := by
          rw [ej, List.length_map]
          unfold ixN
          rw [if_pos (by omega), if_pos (by omega), Int.toNat_natCast]
        refine ⟨_, rfl, _, rfl, _, _, rfl, rfl, (by show (0 : Int) < 12; decide), ?_⟩
        refine ⟨_, rfl, _, rfl, p, _, _, .int d, rfl, rfl, SqL.of h2, hd, _, _, rfl, rfl, ⟨by decide, by decide, by decide⟩, _, _, rfl, rfl, (by show (0 : Int) < 10 ^ Int.toNat 60; decide), _, _, rfl, rfl, .inr ⟨by decide, by decide⟩, _, rfl, _, rfl, a, _, _, .int r, rfl, rfl, hS2, hr', _, _, rfl, rfl, ?_⟩
        refine ⟨_, _, rfl, rfl, ⟨by decide, by decide, by decide⟩, _, _, rfl, rfl, _, _, rfl, rfl, (by show (0 : Int) < 10 ^ Int.toNat 60 + 7; decide), _, rfl, _, rfl, p, _, _, j, rfl, rfl, h2, hx, ?_⟩
        refine ⟨_, _, ds.set j ((d % (10 : Int) ^ (60 : Int).toNat * 48271 + r) % ((10 : Int) ^ (60 : Int).toNat + 7)), rfl, mv.trans (Mv.upd p H2 _), ?_, by rw [List.length_set]; exact hds⟩
        rw [upd_same, List.map_set]
      · rintro σ H2 ⟨v, w', ds, rfl, mv, h2, hds⟩
        exact ⟨_, rfl, q ds p H2 (s1.trans (mv.same hp)) h2 hds⟩
end
end K31

set_option Elab.async false
set_option linter.all false
set_option maxRecDepth 100000
set_option maxHeartbeats 4000000
namespace K31
open PySem L2 PySem.W
/-- looks: rising places below m -/
def Rises (m : Int) (ls : List Int) : Prop := ls.Pairwise (· < ·) ∧ ∀ l ∈ ls, 0 ≤ l ∧ l < m
def spLooks : Sp := fun vs H Q _ => ∃ (a : Addr) (m : Int) (mo : Nat), vs = [.ref a, .int m, .int mo] ∧ 0 < m ∧ mo ≤ 20 ∧ StA H a ∧ ∀ (ls : List Int) (p : Addr) H', Rises m ls → ls.length ≤ mo → p ≠ a → StA H' a → Mv a H H' → H' p = some (.lst (ls.map V.int)) → Q (.ref p) H'
theorem inV_ints (z : Int) : ∀ fs : List Int, inV (.int z) (fs.map V.int) = decide (z ∈ fs)
  | [] => rfl
  | f :: r => by
    have ih := inV_ints z r
    show (eqV (.int f) (.int z) || inV (.int z) (r.map V.int)) = _
    rw [ih, show eqV (.int f) (.int z) = (f == z) from rfl, Bool.eq_iff_iff]
    simp only [Bool.or_eq_true, beq_iff_eq, decide_eq_true_iff, List.mem_cons]
    exact ⟨fun h => h.imp Eq.symm id, fun h => h.imp Eq.symm id⟩
theorem flat_ints (fs : List Int) : (fs.map V.int).all flatV = true := by
  rw [List.all_eq_true]
  intro x hx
  obtain ⟨i, _, rfl⟩ := List.mem_map.mp hx
  rfl
theorem last_ints {fs : List Int} (h : fs ≠ []) : ∃ i, atI (fs.map V.int) (-1) = some (.int i) := by
  have hl : 0 < fs.length := List.length_pos_iff.mpr h
  refine ⟨fs[fs.length - 1], ?_⟩
  unfold atI ixN
  rw [List.length_map, if_neg (by omega), if_pos (by omega)]
  show (fs.map V.int)[(-1 + (fs.length : Int)).toNat]? = _
  rw [show (-1 + (fs.length : Int)).toNat = fs.length - 1 by omega, List.getElem?_map, List.getElem?_eq_getElem (by omega)]
  rfl
theorem pick6 {z g r : Int} (r0 : 0 ≤ r) : ∃ i, atI [V.int 0, V.int (z - 1), V.int 1, V.int (z - 2), V.int (z / 2), V.int g] (if r < 5 then r else 5) = some (.int i) := by
  by_cases c : r < 5
  · rw [if_pos c]
    have : r = 0 ∨ r = 1 ∨ r = 2 ∨ r = 3 ∨ r = 4 := by omega
    rcases this with rfl | rfl | rfl | rfl | rfl
    · exact ⟨_, rfl⟩
    · exact ⟨_, rfl⟩
    · exact ⟨_, rfl⟩
    · exact ⟨_, rfl⟩
    · exact ⟨_, rfl⟩
  · rw [if_neg c]
    exact ⟨_, rfl⟩
theorem st_ne {H : Hp} {a p : Addr} (s : StA H a) (h : H p = none) : p ≠ a := by
  obtain ⟨x, y, e, _⟩ := s
  exact (ne_of_none e h).symm
theorem st_new {H : Hp} {a p : Addr} {o : HO} (s : StA H a) (h : H p = none) : StA (upd H p o) a := by
  obtain ⟨x, y, e, r⟩ := s
  exact ⟨x, y, by rw [upd_ne (ne_of_none e h)]; exact e, r⟩
theorem st_put {H : Hp} {a p : Addr} {o : HO} (s : StA H a) (h : p ≠ a) : StA (upd H p o) a := by
  obtain ⟨x, y, e, r⟩ := s
  exact ⟨x, y, by rw [upd_ne h.symm]; exact e, r⟩
section
variable {P : Program} {w : World} {K : Frag} {mg : Str → Option Value} {base : Heap}
theorem scLooks : FnScope ["state", "many", "most", "found", "k", "place"] ["state", "many", "most"] (defScope sLooks) := ⟨rfl, rfl, rfl, by decide +kernel, rfl, by decide +kernel, by decide +kernel⟩
/-- the place is put in, or is there -/
theorem looks_put {D : Ends} {a f : Addr} {m mo p : Int} {v : Option V} {fs : List Int} {i : Nat} {H H2 : Hp} (m0 : 0 < m) (st : StA H2 a) (mv : Mv a H H2) (nf : f ≠ a) (hf0 : H f = none) (hf : H2 f = some (.lst (fs.map V.int))) (hn : fs.Nodup) (hb : ∀ l ∈ fs, 0 ≤ l ∧ l < m) (hl : fs.length ≤ i) (hi : i < 20)
    (q : ∀ (fs : List Int) H2, StA H2 a → Mv a H H2 → H2 f = some (.lst (fs.map V.int)) → fs.Nodup → (∀ l ∈ fs, 0 ≤ l ∧ l < m) → fs.length ≤ i + 1 → D.nx [some (.ref a), some (.int m), some (.int mo), some (.ref f), v, some (.int p)] H2) :
    tIfS (tTest (tOp (rIn K true) (tOp (rI (fun _ j => 0 < j) fun i j => V.int (i % j)) (tVar 5) (tVar 1)) (tVar 3))) (tDrop (tBM K "list" rAppend (tVar 3) (tCons (tOp (rI (fun _ j => 0 < j) fun i j => V.int (i % j)) (tVar 5) (tVar 1)) tNil))) tNext
      D [some (.ref a), some (.int m), some (.int mo), some (.ref f), v, some (.int p)] H2 := by
  refine ⟨_, rfl, _, rfl, _, _, rfl, rfl, m0, _, rfl, f, _, rfl, .inl (SqL.of hf), rfl, flat_ints fs, _, rfl, ?_⟩
  show if (!inV (.int (p % m)) (fs.map V.int)) = true then _ else _
  rw [inV_ints]
  by_cases c : p % m ∈ fs
  · rw [decide_eq_true c]
    refine iteF ?_
    exact q fs H2 st mv hf hn hb (Nat.le_succ_of_le hl)
  · rw [decide_eq_false c]
    refine iteT ?_
    refine ⟨_, rfl, .inl ⟨rfl, _, SqL.of hf⟩, _, rfl, _, rfl, _, _, rfl, rfl, m0, f, _, _, rfl, rfl, hf, (by rw [List.length_map]; exact Nat.lt_of_le_of_lt (Nat.le_trans hl (Nat.le_of_lt hi)) (by decide)), ?_⟩
    refine q (fs ++ [p % m]) _ (st_put st nf) (fun b o nb hbo => ?_) ?_ ?_ ?_ ?_
    · rw [upd_ne (ne_of_none hbo hf0)]
      exact mv b o nb hbo
    · rw [upd_same, List.map_append]
      rfl
    · rw [List.nodup_append]
      refine ⟨hn, by simp, fun x hx y hy e => ?_⟩
      rw [List.mem_singleton.mp hy] at e
      exact c (e ▸ hx)
    · intro l hl2
      rcases List.mem_append.mp hl2 with h | h
      · exact hb l h
      · rw [List.mem_singleton.mp h]
        exact ⟨Int.emod_nonneg _ (by omega), Int.emod_lt_of_pos _ m0⟩
    · rw [List.length_append]
      exact Nat.succ_le_succ hl
theorem ok_looks {f : Addr} {fd : FuncData} (F : Fun K "_law_looks" "_law_looks" sLooks f fd) (T : Txt K mg) (hN : Has P w K mg base 1 "_law_next" ["state", "many"] spNext) (hG : Has P w K mg base 2 "_law_great" ["state", "top"] spGreat) : FnOk P w K mg base CX0 3 f fd ["state", "many", "most"] spLooks := by
  refine F.ok scLooks (fun vs H Q E h => ?_) (fun cdv A outer s H vs Q E hr h => ?_)
  · obtain ⟨a, m, mo, rfl, _⟩ := h
    rfl
  · obtain ⟨a, m, mo, rfl, m0, hmo, st, q⟩ := h
    have hr1 : Room 1 _ := hr.mono (by decide)
    have hu := hr.units
    refine ⟨_, pss_cons (ps_set (i := 3) scLooks.nd rfl (Or.inl rfl) (pe_lst pa_nil))
      (pss_cons (ps_for PassesOwn.never rfl (pi_range1 rfl T.range (pa_cons (pe_has hN hr1 rfl (pa_cons (pv 0) (pa_cons (pe_op op_add (pv 2) pe_int) pa_nil))) pa_nil)) (pg_name (i := 4) scLooks.nd rfl (Or.inl rfl))
        (pss_cons (ps_set (i := 5) scLooks.nd rfl (Or.inl rfl) (pe_ix ix_list (pe_lst (pa_cons pe_int (pa_cons (pe_op op_sub (pv 1) pe_int) (pa_cons pe_int (pa_cons (pe_op op_sub (pv 1) pe_int) (pa_cons (pe_op op_fdiv (pv 1) pe_int) (pa_cons (pe_has hG hr rfl (pa_cons (pv 0) (pa_cons (pv 1) pa_nil))) pa_nil))))))) (pe_callB (call_min2 rfl) (by rfl) T.min PyProof.Rows.boot_min (pa_cons pe_int (pa_cons (pe_has hN hr1 rfl (pa_cons (pv 0) (pa_cons pe_int pa_nil))) pa_nil))) (fun _ _ => rfl)))
        (pss_cons (ps_if (PW.pt (pw_and (pt_cmpR (op_neL hu) (pv 3) (pe_lst pa_nil) (nomark _)) (pw_and1 (pt_cmpR op_eq (pe_has hN hr1 rfl (pa_cons (pv 0) (pa_cons pe_int pa_nil))) pe_int (nomark _)))))
          (pss_one (ps_set (i := 5) scLooks.nd rfl (Or.inl rfl) (pe_op op_sub (pe_op op_add (pe_op op_add (pe_ix ix_list (pv 3) (pe_un un_neg pe_int) (fun _ _ => rfl)) (pe_op op_fdiv (pv 1) pe_int)) (pe_has hN hr1 rfl (pa_cons (pv 0) (pa_cons pe_int pa_nil)))) pe_int))) pss_nil)
        (pss_one (ps_if (pt_cmpR op_notIn_seq (pe_op op_mod (pv 5) (pv 1)) (pv 3) (by rfl)) (pss_one (ps_expr (pe_bm PySem.F.plainAttrs_list PySem.F.slot_list_append PySem.F.type_list_append mt_append (pv 3) (pa_cons (pe_op op_mod (pv 5) (pv 1)) pa_nil)))) pss_nil)))))
      (pss_one (ps_ret (pe_callB call_sortedI (by rfl) T.sorted PyProof.Rows.boot_sorted (pa_cons (pv 3) pa_nil))))), ?_⟩
    refine ⟨(by show 0 ≤ sizeLine; decide), fun l hl => ?_⟩
    have nla : l ≠ a := st_ne st hl
    refine ⟨_, rfl, _, rfl, _, _, rfl, rfl, a, _, rfl, (by omega), (by omega), st_new st hl, fun r H1 r0 r1 st1 mv1 => ?_⟩
    obtain ⟨n, rfl⟩ := Int.eq_ofNat_of_zero_le r0
    refine ⟨n, rfl, (by omega), (by omega), ?_⟩
    rw [Int.toNat_natCast]
    have l1 : H1 l = some (.lst (([] : List Int).map V.int)) := mv1 _ _ nla upd_same
    have mvH : Mv a H H1 := (Mv.of (new_same hl)).trans mv1
    refine for_range (lo := 0) (n := n) (fun i σ H2 => ∃ (v p : Option V) (fs : List Int), σ = [some (.ref a), some (.int m), some (.int mo), some (.ref l), v, p] ∧ StA H2 a ∧ Mv a H H2 ∧ H2 l = some (.lst (fs.map V.int)) ∧ fs.Nodup ∧ (∀ x ∈ fs, 0 ≤ x ∧ x < m) ∧ fs.length ≤ i) ⟨none, none, [], rfl, st1, mvH, l1, List.nodup_nil, fun x hx => (nomatch hx), Nat.le_refl _⟩ ?_ ?_
    · rintro i σ H2 hi ⟨v, p, fs, rfl, st2, mv2, l2, nd2, bd2, ln2⟩
      refine ⟨_, rfl, _, _, rfl, rfl, _, rfl, _, _, rfl, rfl, _, rfl, _, _, rfl, rfl, ⟨by decide, by decide⟩, _, rfl, _, rfl, a, m, rfl, m0, st2, fun g H3 g0 g1 st3 mv3 => ⟨(by show 6 ≤ sizeLine; decide), fun u hu2 => ?_⟩⟩
      have nua : u ≠ a := st_ne st3 hu2
      refine ⟨_, rfl, a, 9, rfl, (by decide), (by decide), st_new st3 hu2, fun d H4 d0 d1 st4 mv4 => ⟨5, d, rfl, ?_⟩⟩
      obtain ⟨z, ez⟩ := pick6 (z := m) (g := g) d0
      have mvA : Mv a H H4 := ((mv2.trans mv3).trans (Mv.of (new_same hu2))).trans mv4
      have l4 : H4 l = some (.lst (fs.map V.int)) := mv4 _ _ nla (new_same hu2 _ _ (mv3 _ _ nla l2))
      refine ⟨u, _, _, .int z, rfl, rfl, SqL.of (mv4 _ _ nua upd_same), ez, ?_⟩
      refine ⟨_, rfl, (by show 0 ≤ sizeLine; decide), fun u3 hu3 => ?_⟩
      have l5 := new_same (o := .lst []) hu3 _ _ l4
      refine ⟨l, u3, fs, [], rfl, rfl, SqL.of l5, SqL.of upd_same, _, rfl, ?_⟩
      have st5 := st_new (o := .lst []) st4 hu3
      have mvB := mvA.trans (Mv.of (new_same (o := .lst []) hu3))
      refine ite2 (fun c => ?_) (fun c => ?_)
      · have ne : fs ≠ [] := fun e => by
          rw [e] at c
          exact absurd c (by decide)
        refine ⟨_, rfl, a, 4, rfl, (by decide), (by decide), st5, fun d2 H6 _ _ st6 mv6 => ⟨rfl, _, rfl, ?_⟩⟩
        have l6 := mv6 _ _ nla l5
        refine ite2 (fun c2 => ?_) (fun c2 => ?_)
        · obtain ⟨b, eb⟩ := last_ints ne
          refine ⟨_, rfl, 1, rfl, l, _, _, .int b, rfl, rfl, SqL.of l6, eb, _, rfl, _, _, rfl, rfl, ⟨by decide, by decide⟩, _, _, rfl, rfl, _, rfl, a, 3, rfl, (by decide), (by decide), st6, fun d3 H7 _ _ st7 mv7 => ⟨_, _, rfl, rfl, _, _, rfl, rfl, ?_⟩⟩
          exact looks_put m0 st7 ((mvB.trans mv6).trans mv7) nla hl (mv7 _ _ nla l6) nd2 bd2 ln2 (by omega) fun fs H2 a1 a2 a3 a4 a5 a6 => ⟨_, _, fs, rfl, a1, a2, a3, a4, a5, a6⟩
        · exact looks_put m0 st6 (mvB.trans mv6) nla hl l6 nd2 bd2 ln2 (by omega) fun fs H2 a1 a2 a3 a4 a5 a6 => ⟨_, _, fs, rfl, a1, a2, a3, a4, a5, a6⟩
      · exact looks_put m0 st5 mvB nla hl l5 nd2 bd2 ln2 (by omega) fun fs H2 a1 a2 a3 a4 a5 a6 => ⟨_, _, fs, rfl, a1, a2, a3, a4, a5, a6⟩
    · rintro σ H2 ⟨v, p, fs, rfl, st2, mv2, l2, nd2, bd2, ln2⟩
      refine ⟨_, rfl, l, fs, rfl, SqL.of l2, (by omega), fun ms t pm pw ht => ?_⟩
      refine q ms t _ ⟨?_, fun x hx => bd2 x (pm.mem_iff.mp hx)⟩ (by rw [pm.length_eq]; omega) (st_ne st2 ht) (st_new st2 ht) (mv2.trans (Mv.of (new_same ht))) upd_same
      have nd := pm.symm.nodup nd2
      rw [List.nodup_iff_pairwise_ne] at nd
      exact (pw.and nd).imp fun h => by omega
end
end K31

set_option Elab.async false
set_option linter.all false
set_option maxRecDepth 100000
set_option maxHeartbeats 4000000
namespace K31
open PySem L2 PySem.W
def isS (k x : Str) : Bool := decide (V.str k = V.str x)
def rf (m a b : Int) : Int := if m - (b - a) % m < (b - a) % m then m - (b - a) % m else (b - a) % m
def st1 (m l a : Int) : Int := (a - l) % m
def stp (m : Int) (ls : List Int) : List Int := List.zipWith (st1 m) ls (ls.drop 1 ++ ls.take 1)
def rk (m : Int) (ls : List Int) (k : Str) : Bool :=
  if isS k "all" then decide (2 < ls.length) && (stp m ls).all (fun x => decide (x ≤ m / 2))
  else decide (2 < ls.length) || (decide (ls.length = 2) && !decide (2 * (ls.getD 1 0 - ls.getD 0 0) = m))
def spFar : Sp := fun vs H Q _ => ∃ m a b : Int, vs = [.int m, .int a, .int b] ∧ 0 < m ∧ Q (.int (rf m a b)) H
def spSteps (K : Frag) : Sp := fun vs H Q _ => ∃ (m : Int) (p : Addr) (ls : List Int), vs = [.int m, .ref p] ∧ 0 < m ∧ SqL K H p (ls.map V.int) ∧ ls.length ≤ 20 ∧ ∀ u H', Same H H' → H' u = some (.lst ((stp m ls).map V.int)) → Q (.ref u) H'
def spRing (K : Frag) : Sp := fun vs H Q _ => ∃ (m : Int) (p : Addr) (ls : List Int) (k : Str), vs = [.int m, .ref p, .str k] ∧ 0 < m ∧ SqL K H p (ls.map V.int) ∧ ls.length ≤ 20 ∧ ∀ H', Same H H' → Q (.bl (rk m ls k)) H'
theorem cut_drop (xs : List V) : cutV xs (some 1) none = xs.drop 1 := by
  unfold cutV
  have e : HT.sIx xs.length 0 (some 1) = min 1 xs.length := HT.sIx_nat xs.length 0 1
  have e2 : HT.sIx xs.length xs.length none = xs.length := rfl
  rw [e, e2]
  cases xs with
  | nil => rfl
  | cons a r =>
    rw [show min 1 (a :: r).length = 1 by rw [List.length_cons]; omega]
    exact List.take_of_length_le (by rw [List.length_drop]; omega)
theorem cut_take (xs : List V) : cutV xs none (some 1) = xs.take 1 := by
  unfold cutV
  have e : HT.sIx xs.length xs.length (some 1) = min 1 xs.length := HT.sIx_nat xs.length xs.length 1
  have e2 : HT.sIx xs.length 0 none = 0 := rfl
  rw [e, e2, Nat.sub_zero, List.drop_zero]
  cases xs with
  | nil => rfl
  | cons a r => rw [show min 1 (a :: r).length = 1 by rw [List.length_cons]; omega]
def retSc : Stmt → Scope
  | .Return (some (.ListComp _ _ sc _)) _ => sc
  | _ => { kind := .function, names := [], isGenerator := false, isCoroutine := false }
abbrev scZ : Scope := retSc ((defBody sSteps).getD 0 (.Pass ⟨0, 0, 0, 0⟩))
theorem blockZ : block2B ["many", "looks"] (defScope sSteps) scZ "look" "after" ["look", "after", "many"] [0] = true := by decide +kernel
theorem zw_take {f : Int → Int → Int} : ∀ {ls zs : List Int} {i : Nat} {x z : Int}, ls[i]? = some x → zs[i]? = some z → List.zipWith f (ls.take (i + 1)) (zs.take (i + 1)) = List.zipWith f (ls.take i) (zs.take i) ++ [f x z]
  | [], _, i, x, z, h1, h2 => by cases h1
  | _ :: _, [], i, x, z, h1, h2 => by cases h2
  | a :: r, b :: s, 0, x, z, h1, h2 => by
    cases h1
    cases h2
    simp
  | a :: r, b :: s, i + 1, x, z, h1, h2 => by
    have ih := zw_take (f := f) (ls := r) (zs := s) (i := i) h1 h2
    show f a b :: List.zipWith f (r.take (i + 1)) (s.take (i + 1)) = f a b :: (List.zipWith f (r.take i) (s.take i) ++ [f x z])
    rw [ih]
section
variable {P : Program} {w : World} {K : Frag} {mg : Str → Option Value} {base : Heap}
theorem scRFar : FnScope ["many", "one", "other", "on"] ["many", "one", "other"] (defScope sRFar) := ⟨rfl, rfl, rfl, by decide +kernel, rfl, by decide +kernel, by decide +kernel⟩
theorem scFar : FnScope ["many", "one", "other", "on"] ["many", "one", "other"] (defScope sFar) := ⟨rfl, rfl, rfl, by decide +kernel, rfl, by decide +kernel, by decide +kernel⟩
theorem ok_rfar {f : Addr} {fd : FuncData} (F : Fun K "ring_far" "ring_far" sRFar f fd) (T : Txt K mg) : FnOk P w K mg base CX0 1 f fd ["many", "one", "other"] spFar := by
  refine F.ok scRFar (fun vs H Q E h => ?_) (fun cdv A outer s H vs Q E hr h => ?_)
  · obtain ⟨m, a, b, rfl, _⟩ := h
    rfl
  · obtain ⟨m, a, b, rfl, m0, q⟩ := h
    refine ⟨_, pss_cons (ps_set (i := 3) scRFar.nd rfl (Or.inl rfl) (pe_op op_mod (pe_op op_sub (pv 2) (pv 1)) (pv 0))) (pss_one (ps_ret (pe_callB (call_min2 rfl) (by rfl) T.min PyProof.Rows.boot_min (pa_cons (pv 3) (pa_cons (pe_op op_sub (pv 0) (pv 3)) pa_nil))))), ?_⟩
    exact ⟨_, rfl, _, rfl, _, _, rfl, rfl, _, rfl, _, _, rfl, rfl, m0, _, rfl, _, rfl, _, rfl, _, _, rfl, rfl, _, _, rfl, q⟩
theorem ok_far {f : Addr} {fd : FuncData} (F : Fun K "_law_far" "_law_far" sFar f fd) : FnOk P w K mg base CX0 1 f fd ["many", "one", "other"] spFar := by
  refine F.ok scFar (fun vs H Q E h => ?_) (fun cdv A outer s H vs Q E hr h => ?_)
  · obtain ⟨m, a, b, rfl, _⟩ := h
    rfl
  · obtain ⟨m, a, b, rfl, m0, q⟩ := h
    refine ⟨_, pss_cons (ps_set (i := 3) scFar.nd rfl (Or.inl rfl) (pe_op op_mod (pe_op op_sub (pv 2) (pv 1)) (pv 0)))
      (pss_cons (ps_if (pt_cmpR op_gt (pe_op op_mul pe_int (pv 3)) (pv 0) (nomark _)) (pss_one (ps_set (i := 3) scFar.nd rfl (Or.inl rfl) (pe_op op_sub (pv 0) (pv 3)))) pss_nil) (pss_one (ps_ret (pv 3)))), ?_⟩
    refine ⟨_, rfl, _, rfl, _, _, rfl, rfl, _, rfl, _, _, rfl, rfl, m0, _, rfl, _, _, rfl, rfl, .inl ⟨by decide, by decide⟩, _, rfl, _, _, rfl, rfl, _, rfl, ?_⟩
    unfold rf at q
    refine ite2 (fun c => ?_) (fun c => ?_)
    · have c1 : m < 2 * ((b - a) % m) := of_decide_eq_true c
      rw [if_pos (by omega)] at q
      exact ⟨_, rfl, _, rfl, _, _, rfl, rfl, _, rfl, q⟩
    · have c1 : ¬ m < 2 * ((b - a) % m) := fun z => c (decide_eq_true z)
      rw [if_neg (by omega)] at q
      exact ⟨_, rfl, q⟩
theorem scStp : FnScope ["many", "looks"] ["many", "looks"] (defScope sSteps) := ⟨rfl, rfl, rfl, by decide +kernel, rfl, by decide +kernel, by decide +kernel⟩
theorem ok_steps {f : Addr} {fd : FuncData} (F : Fun K "ring_steps" "ring_steps" sSteps f fd) (T : Txt K mg) : FnOk P w K mg base CX0 1 f fd ["many", "looks"] (spSteps K) := by
  refine F.ok scStp (fun vs H Q E h => ?_) (fun cdv A outer s H vs Q E hr h => ?_)
  · obtain ⟨m, p, ls, rfl, _⟩ := h
    rfl
  · obtain ⟨m, p, ls, rfl, m0, hp, hl, q⟩ := h
    refine ⟨_, pss_one (ps_ret (pe_comp2 (NB := ["look", "after", "many"]) (ix := [0]) (Block2.of blockZ) rfl (pi_zip rfl T.zip (pa_cons (pv 1) (pa_cons (pe_op op_cat (pe_slice sl_list (pv 1) (po_some pe_int) po_none) (pe_slice sl_list (pv 1) po_none (po_some pe_int))) pa_nil))) (fun _ _ _ _ => pe_op op_mod (pe_op op_sub (pv 1) (pv 0)) (pv 2)) (fun _ _ _ _ => pts_nil))), ?_⟩
    refine ⟨_, rfl, _, rfl, 1, rfl, p, _, rfl, hp, fun u1 h1 => ?_⟩
    have s1 := new_same (o := .lst (cutV (ls.map V.int) (some 1) none)) h1
    refine ⟨_, rfl, 1, rfl, p, _, rfl, s1.seq hp, fun u2 h2 => ?_⟩
    have s2 := new_same (o := .lst (cutV (ls.map V.int) none (some 1))) h2
    have e1 := s2 _ _ (upd_same : upd H u1 (.lst (cutV (ls.map V.int) (some 1) none)) u1 = _)
    have lens : (cutV (ls.map V.int) (some 1) none).length + (cutV (ls.map V.int) none (some 1)).length = ls.length := by
      rw [cut_drop, cut_take, List.length_drop, List.length_take, List.length_map]
      omega
    refine ⟨u1, u2, _, _, rfl, rfl, e1, upd_same, (by rw [lens]; exact Nat.le_trans hl (by decide)), fun u3 h3 => ?_⟩
    have s3 := new_same (o := .lst (cutV (ls.map V.int) (some 1) none ++ cutV (ls.map V.int) none (some 1))) h3
    have sA := (s1.trans s2).trans s3
    have ez : cutV (ls.map V.int) (some 1) none ++ cutV (ls.map V.int) none (some 1) = (ls.drop 1 ++ ls.take 1).map V.int := by
      rw [cut_drop, cut_take, List.map_append, List.map_drop, List.map_take]
    refine ⟨p, u3, rfl, ⟨_, sA.seq hp⟩, ⟨_, SqL.of upd_same⟩, ?_⟩
    rw [ez]
    have e3 : upd (upd (upd H u1 (.lst (cutV (ls.map V.int) (some 1) none))) u2 (.lst (cutV (ls.map V.int) none (some 1)))) u3 (.lst ((ls.drop 1 ++ ls.take 1).map V.int)) u3 = some (.lst ((ls.drop 1 ++ ls.take 1).map V.int)) := upd_same
    rw [ez] at sA
    generalize upd (upd (upd H u1 (.lst (cutV (ls.map V.int) (some 1) none))) u2 (.lst (cutV (ls.map V.int) none (some 1)))) u3 (.lst ((ls.drop 1 ++ ls.take 1).map V.int)) = H3 at e3 sA ⊢
    refine comp2_zip (xs := ls.map V.int) (zs := (ls.drop 1 ++ ls.take 1).map V.int) (by simp; omega) (fun i ys Hc => Same H3 Hc ∧ ys = (List.zipWith (st1 m) (ls.take i) ((ls.drop 1 ++ ls.take 1).take i)).map V.int) ⟨Same.refl _, by simp⟩ ?_ ?_ ?_ ?_
    · rintro i ys Hc hi ⟨_, rfl⟩
      rw [List.length_map, List.length_zipWith, List.length_take]
      exact Nat.lt_of_le_of_lt (Nat.le_trans (Nat.min_le_left _ _) (Nat.le_trans (Nat.min_le_right _ _) hl)) (by decide)
    · rintro i ys Hc hi ⟨sc, rfl⟩
      exact ⟨(sA.trans sc).seq hp, SqL.of (sc _ _ e3)⟩
    · rintro i x z ys Hc T5 hx hz ⟨sc, rfl⟩ hT
      rw [List.getElem?_map] at hx hz
      cases e4 : ls[i]? with
      | none => rw [e4] at hx; cases hx
      | some a =>
        cases e5 : (ls.drop 1 ++ ls.take 1)[i]? with
        | none => rw [e5] at hz; cases hz
        | some b =>
          rw [e4] at hx
          rw [e5] at hz
          cases hx
          cases hz
          unfold tYes
          refine @iteT (tOp _ (tOp _ (tVar 1) (tVar 0)) (tVar 2) _ _ _) _ ?_
          refine ⟨_, rfl, _, rfl, _, _, rfl, rfl, _, rfl, _, _, rfl, rfl, m0, ?_⟩
          refine ⟨sc.trans (new_same hT), ?_⟩
          rw [zw_take e4 e5, List.map_append]
          rfl
    · rintro ys Hc ⟨sc, rfl⟩ u hu
      refine q u _ ((sA.trans sc).trans (new_same hu)) ?_
      rw [upd_same, List.length_map, List.take_length, List.take_of_length_le (by simp; omega)]
      rfl
end
end K31

set_option Elab.async false
set_option linter.all false
set_option maxRecDepth 100000
set_option maxHeartbeats 4000000
namespace L2
open PySem PySem.Spec PyProof.Rows
theorem TupsAt.mono {K : PySem.W.Frag} {H H' : Hp} {xs : List V} {kss : List (List Int)} (t : TupsAt K H xs kss) (m : ∀ b ys, SqT K H b ys → SqT K H' b ys) : TupsAt K H' xs kss := ⟨t.1, fun i x ks h1 h2 => by
  obtain ⟨b, e, s⟩ := t.2 i x ks h1 h2
  exact ⟨b, e, m _ _ s⟩⟩
theorem TupsAt.cat {K : PySem.W.Frag} {H : Hp} {xs ys : List V} {kss lss : List (List Int)} (t : TupsAt K H xs kss) (u : TupsAt K H ys lss) : TupsAt K H (xs ++ ys) (kss ++ lss) := by
  refine ⟨by rw [List.length_append, List.length_append, t.1, u.1], fun i x ks h1 h2 => ?_⟩
  rcases Nat.lt_or_ge i xs.length with c | c
  · rw [List.getElem?_append_left c] at h1
    rw [List.getElem?_append_left (by rw [← t.1]; exact c)] at h2
    exact t.2 i x ks h1 h2
  · rw [List.getElem?_append_right c] at h1
    rw [List.getElem?_append_right (by rw [← t.1]; exact c), ← t.1] at h2
    exact u.2 _ x ks h1 h2
theorem TupsAt.one {K : PySem.W.Frag} {H : Hp} {b : Addr} {ks : List Int} (s : SqT K H b (ks.map V.int)) : TupsAt K H [.ref b] [ks] := ⟨rfl, fun i x ks' h1 h2 => by
  match i, h1, h2 with
  | 0, h1, h2 => cases h1; cases h2; exact ⟨b, rfl, s⟩⟩
end L2
namespace K31
open PySem L2 PySem.W
theorem max_all {l : List Int} {M c : Int} (hM : M ∈ l) (hle : ∀ n ∈ l, n ≤ M) : decide (M ≤ c) = l.all (fun x => decide (x ≤ c)) := by
  rw [Bool.eq_iff_iff, decide_eq_true_iff, List.all_eq_true]
  constructor
  · intro h x hx
    have := hle x hx
    exact decide_eq_true (by omega)
  · intro h
    exact of_decide_eq_true (h M hM)
theorem len_dec (l : List Int) (n : Nat) : decide (V.int ((l.map V.int).length : Nat) = V.int (n : Nat)) = decide (l.length = n) := by
  rw [dec_i, List.length_map, Bool.eq_iff_iff, decide_eq_true_iff, decide_eq_true_iff]
  omega
theorem len_gt (l : List Int) (n : Nat) : decide ((n : Int) < ((l.map V.int).length : Nat)) = decide (n < l.length) := by
  rw [List.length_map, Bool.eq_iff_iff, decide_eq_true_iff, decide_eq_true_iff]
  omega
theorem stp_len (m : Int) (ls : List Int) : (stp m ls).length = ls.length := by
  unfold stp
  rw [List.length_zipWith, List.length_append, List.length_drop, List.length_take]
  omega
theorem at_d {ls : List Int} {j : Nat} (h : j < ls.length) : atI (ls.map V.int) (j : Int) = some (.int (ls.getD j 0)) := atI_nat (by rw [List.getElem?_map, List.getElem?_eq_getElem h, List.getD_eq_getElem?_getD, List.getElem?_eq_getElem h]; rfl)
section
variable {P : Program} {w : World} {K : Frag} {mg : Str → Option Value} {base : Heap}
abbrev lenB (K : Frag) (i : Nat) : TE := tCB (fun xs H Q => ∃ p ys, xs = [V.ref p] ∧ (SqL K H p ys ∨ SqT K H p ys) ∧ Q (V.int (ys.length : Nat)) H) (tCons (tVar i) tNil)
theorem scRing : FnScope ["many", "looks", "kind"] ["many", "looks", "kind"] (defScope sRing) := ⟨rfl, rfl, rfl, by decide +kernel, rfl, by decide +kernel, by decide +kernel⟩
theorem ok_ring {f : Addr} {fd : FuncData} (F : Fun K "ring_known" "ring_known" sRing f fd) (T : Txt K mg) (hS : Has P w K mg base 1 "ring_steps" ["many", "looks"] (spSteps K)) : FnOk P w K mg base CX0 2 f fd ["many", "looks", "kind"] (spRing K) := by
  refine F.ok scRing (fun vs H Q E h => ?_) (fun cdv A outer s H vs Q E hr h => ?_)
  · obtain ⟨m, p, ls, k, rfl, _⟩ := h
    rfl
  · obtain ⟨m, p, ls, k, rfl, m0, hp, hl, q⟩ := h
    refine ⟨_, pss_cons (ps_if (pt_cmpR op_eq (pv 2) pe_str (nomark _)) (pss_one (ps_ret (pe_and (pe_cmpR op_gt (pe_callB call_len_seq (by rfl) T.len PySem.boot_len (pa_cons (pv 1) pa_nil)) pe_int (nomark _)) (pe_one (pe_cmpR op_le (pe_callB (call_maxL rfl) (by rfl) T.max PyProof.Rows.boot_max (pa_cons (pe_has hS hr rfl (pa_cons (pv 0) (pa_cons (pv 1) pa_nil))) pa_nil)) (pe_op op_fdiv (pv 0) pe_int) (nomark _)))))) pss_nil)
      (pss_one (ps_ret (pe_or (pe_cmpR op_gt (pe_callB call_len_seq (by rfl) T.len PySem.boot_len (pa_cons (pv 1) pa_nil)) pe_int (nomark _)) (pe_one (pe_and (pe_cmpR op_eq (pe_callB call_len_seq (by rfl) T.len PySem.boot_len (pa_cons (pv 1) pa_nil)) pe_int (nomark _)) (pe_one (pe_cmpR op_ne (pe_op op_mul pe_int (pe_op op_sub (pe_ix ix_list (pv 1) pe_int (fun _ _ => rfl)) (pe_ix ix_list (pv 1) pe_int (fun _ _ => rfl)))) (pv 0) (nomark _)))))))), ?_⟩
    unfold rk at q
    refine ⟨_, rfl, rfl, _, rfl, ?_⟩
    refine ite2 (fun c => ?_) (fun c => ?_)
    · rw [if_pos (show isS k "all" = true from c)] at q
      refine ⟨_, rfl, p, _, rfl, .inl hp, _, _, rfl, rfl, _, rfl, ?_⟩
      show if (decide (((2 : Nat) : Int) < ((ls.map V.int).length : Nat))) = true then _ else _
      rw [len_gt]
      refine ite2 (fun c2 => ?_) (fun c2 => ?_)
      · rw [c2, Bool.true_and] at q
        have l2 : 2 < ls.length := of_decide_eq_true c2
        refine ⟨_, rfl, _, rfl, m, p, ls, rfl, m0, hp, hl, fun u H1 s1 hu => ⟨u, stp m ls, rfl, SqL.of hu, (fun e => ?_), fun M hM hle => ?_⟩⟩
        · have := stp_len m ls
          rw [e] at this
          simp at this
          omega
        · refine ⟨_, rfl, _, _, rfl, rfl, ⟨by decide, by decide⟩, _, _, rfl, rfl, ?_⟩
          show Q (.bl (decide (M ≤ m / 2))) _
          rw [max_all hM hle]
          exact q _ s1
      · rw [Bool.not_eq_true] at c2
        rw [c2, Bool.false_and] at q
        exact q _ (Same.refl _)
    · rw [if_neg (show ¬ isS k "all" = true from c)] at q
      refine ⟨_, rfl, p, _, rfl, .inl hp, _, _, rfl, rfl, _, rfl, ?_⟩
      show if (decide (((2 : Nat) : Int) < ((ls.map V.int).length : Nat))) = true then _ else _
      rw [len_gt]
      refine ite2 (fun c2 => ?_) (fun c2 => ?_)
      · rw [c2, Bool.true_or] at q
        exact q _ (Same.refl _)
      · rw [Bool.not_eq_true] at c2
        rw [c2, Bool.false_or] at q
        refine ⟨_, rfl, p, _, rfl, .inl hp, rfl, _, rfl, ?_⟩
        show if (decide (V.int ((ls.map V.int).length : Nat) = V.int (2 : Nat))) = true then _ else _
        rw [len_dec]
        refine ite2 (fun c3 => ?_) (fun c3 => ?_)
        · rw [c3, Bool.true_and] at q
          have l2 : ls.length = 2 := of_decide_eq_true c3
          refine ⟨_, rfl, p, _, 1, .int (ls.getD 1 0), rfl, rfl, hp, at_d (j := 1) (by omega), _, rfl, p, _, 0, .int (ls.getD 0 0), rfl, rfl, hp, at_d (j := 0) (by omega), _, _, rfl, rfl, _, _, rfl, rfl, .inl ⟨by decide, by decide⟩, _, rfl, rfl, ?_⟩
          show Q (.bl (!decide (V.int (2 * (ls.getD 1 0 - ls.getD 0 0)) = V.int m))) _
          rw [dec_i]
          exact q _ (Same.refl _)
        · rw [Bool.not_eq_true] at c3
          rw [c3, Bool.false_and] at q
          exact q _ (Same.refl _)
end
end K31

set_option Elab.async false
set_option linter.all false
set_option maxRecDepth 100000
set_option maxHeartbeats 4000000
namespace K31
open PySem L2 PySem.W
def prv (ls : List Int) (i : Nat) : Int := if i = 0 then ls.getD (ls.length - 1) 0 else ls.getD (i - 1) 0
def prs (ls : List Int) (i : Nat) : List (List Int) := (List.range i).map fun j => [prv ls j, ls.getD j 0]
def stw (m : Int) (ls : List Int) (i : Nat) : List Int := (List.range i).map fun j => (ls.getD j 0 - prv ls j) % m
theorem stp_at {m : Int} {ls : List Int} {i : Nat} (h : i < ls.length) : (stp m ls)[i]? = some ((ls.getD (if i + 1 < ls.length then i + 1 else 0) 0 - ls.getD i 0) % m) := by
  unfold stp
  rw [List.getElem?_zipWith, List.getElem?_eq_getElem h]
  have e0 : ls.getD i 0 = ls[i] := by rw [List.getD_eq_getElem?_getD, List.getElem?_eq_getElem h]; rfl
  have e : (ls.drop 1 ++ ls.take 1)[i]? = some (ls.getD (if i + 1 < ls.length then i + 1 else 0) 0) := by
    by_cases c : i + 1 < ls.length
    · rw [if_pos c, List.getElem?_append_left (by rw [List.length_drop]; omega), List.getElem?_drop, List.getD_eq_getElem?_getD, Nat.add_comm 1 i, List.getElem?_eq_getElem c]
      rfl
    · rw [if_neg c, List.getElem?_append_right (by rw [List.length_drop]; omega), List.length_drop, show i - (ls.length - 1) = 0 by omega, List.getElem?_take]
      rw [if_pos (by decide), List.getD_eq_getElem?_getD, List.getElem?_eq_getElem (by omega)]
      rfl
  rw [e, e0]
  rfl
theorem all_rot (m c : Int) (ls : List Int) : (stw m ls ls.length).all (fun x => decide (x ≤ c)) = (stp m ls).all (fun x => decide (x ≤ c)) := by
  rw [Bool.eq_iff_iff, List.all_eq_true, List.all_eq_true]
  constructor
  · intro h x hx
    obtain ⟨i, hi⟩ := List.getElem?_of_mem hx
    have lt : i < ls.length := by
      have := (List.getElem?_eq_some_iff.mp hi).1
      rw [stp_len] at this
      exact this
    rw [stp_at lt] at hi
    refine h x (List.mem_map.mpr ?_)
    by_cases c2 : i + 1 < ls.length
    · refine ⟨i + 1, List.mem_range.mpr c2, ?_⟩
      rw [if_pos c2] at hi
      unfold prv
      rw [if_neg (by omega), Nat.add_sub_cancel]
      exact Option.some.inj hi
    · refine ⟨0, List.mem_range.mpr (by omega), ?_⟩
      rw [if_neg c2] at hi
      unfold prv
      rw [if_pos rfl, show ls.length - 1 = i by omega]
      exact Option.some.inj hi
  · intro h x hx
    obtain ⟨j, hj, rfl⟩ := List.mem_map.mp hx
    have lt := List.mem_range.mp hj
    by_cases c2 : j = 0
    · subst c2
      refine h _ (List.mem_of_getElem? (i := ls.length - 1) ?_)
      rw [stp_at (by omega), if_neg (by omega)]
      unfold prv
      rw [if_pos rfl]
    · refine h _ (List.mem_of_getElem? (i := j - 1) ?_)
      rw [stp_at (by omega), if_pos (by omega), show j - 1 + 1 = j by omega]
      unfold prv
      rw [if_neg c2]
theorem at_prv {ls : List Int} {i : Nat} (h : i < ls.length) : atI (ls.map V.int) ((i : Int) - 1) = some (.int (prv ls i)) := by
  unfold prv
  by_cases c : i = 0
  · subst c
    rw [if_pos rfl]
    unfold atI ixN
    rw [List.length_map, if_neg (by omega), if_pos (by omega)]
    show (ls.map V.int)[(((0 : Nat) : Int) - 1 + (ls.length : Int)).toNat]? = _
    rw [show (((0 : Nat) : Int) - 1 + (ls.length : Int)).toNat = ls.length - 1 by omega, List.getElem?_map, List.getElem?_eq_getElem (by omega), List.getD_eq_getElem?_getD, List.getElem?_eq_getElem (by omega)]
    rfl
  · rw [if_neg c, show (i : Int) - 1 = ((i - 1 : Nat) : Int) by omega]
    exact at_d (by omega)
def noSc : Scope := { kind := .function, names := [], isGenerator := false, isCoroutine := false }
def stepSc : Stmt → Scope
  | .If _ (.Assign _ (.ListComp _ _ sc _) _ :: _) _ _ => sc
  | _ => noSc
def maxSc : Stmt → Scope
  | .If _ (_ :: .Return (some (.BoolOp _ (_ :: .Compare (.Call _ (.ListComp _ _ sc _ :: _) _ _) _ _ _ :: _) _)) _ :: _) _ _ => sc
  | _ => noSc
def wN : List Str := ["many", "looks", "kind", "steps"]
abbrev scE : Scope := stepSc ((defBody sWords).getD 0 (.Pass ⟨0, 0, 0, 0⟩))
abbrev scM : Scope := maxSc ((defBody sWords).getD 0 (.Pass ⟨0, 0, 0, 0⟩))
theorem blockE : block2B wN (defScope sWords) scE "k" "look" ["k", "look", "looks"] [1] = true := by decide +kernel
theorem blockM : block2B wN (defScope sWords) scM "one" "other" ["one", "other", "many"] [0] = true := by decide +kernel
section
variable {P : Program} {w : World} {K : Frag} {mg : Str → Option Value} {base : Heap}
theorem scWords : FnScope wN ["many", "looks", "kind"] (defScope sWords) := ⟨rfl, rfl, rfl, by decide +kernel, rfl, by decide +kernel, by decide +kernel⟩
theorem ok_words {f : Addr} {fd : FuncData} (F : Fun K "_law_words" "_law_words" sWords f fd) (T : Txt K mg) : FnOk P w K mg base CX0 1 f fd ["many", "looks", "kind"] (spRing K) := by
  refine F.ok scWords (fun vs H Q E h => ?_) (fun cdv A outer s H vs Q E hr h => ?_)
  · obtain ⟨m, p, ls, k, rfl, _⟩ := h
    rfl
  · obtain ⟨m, p, ls, k, rfl, m0, hp, hl, q⟩ := h
    refine ⟨_, pss_cons (ps_if (pt_cmpR op_eq (pv 2) pe_str (nomark _)) (pss_cons (ps_comp2 (j := 3) scWords.nd rfl rfl (NB := ["k", "look", "looks"]) (ix := [1]) (Block2.of blockE) rfl (pi_enum rfl T.enum (pa_cons (pv 1) pa_nil)) (fun _ _ _ _ => pe_tup (pa_cons (pe_ix (show IxR _ (rIxL K) from ix_list) (pv 2) (pe_op op_sub (pv 0) pe_int) (fun _ _ => rfl)) (pa_cons (pv 1) pa_nil))) (fun _ _ _ _ => pts_nil) rfl)
        (pss_one (ps_ret (pe_and (pe_cmpR op_gt (pe_callB call_len_seq (by rfl) T.len PySem.boot_len (pa_cons (pv 1) pa_nil)) pe_int (nomark _)) (pe_one (pe_cmpR op_le (pe_callB (call_maxL rfl) (by rfl) T.max PyProof.Rows.boot_max (pa_cons (pe_comp2 (NB := ["one", "other", "many"]) (ix := [0]) (Block2.of blockM) rfl (pi_list (pv 3)) (fun _ _ _ _ => pe_op op_mod (pe_op op_sub (pv 1) (pv 0)) (pv 2)) (fun _ _ _ _ => pts_nil)) pa_nil)) (pe_op op_fdiv (pv 0) pe_int) (nomark _))))))) pss_nil)
      (pss_one (ps_ret (pe_or (pe_cmpR op_gt (pe_callB call_len_seq (by rfl) T.len PySem.boot_len (pa_cons (pv 1) pa_nil)) pe_int (nomark _)) (pe_one (pe_and (pe_cmpR op_eq (pe_callB call_len_seq (by rfl) T.len PySem.boot_len (pa_cons (pv 1) pa_nil)) pe_int (nomark _)) (pe_one (pe_cmpR op_ne (pv 0) (pe_op op_mul pe_int (pe_op op_sub (pe_ix ix_list (pv 1) pe_int (fun _ _ => rfl)) (pe_ix ix_list (pv 1) pe_int (fun _ _ => rfl)))) (nomark _)))))))), ?_⟩
    unfold rk at q
    refine ⟨_, rfl, rfl, _, rfl, ?_⟩
    refine ite2 (fun c => ?_) (fun c => ?_)
    · rw [if_pos (show isS k "all" = true from c)] at q
      refine ⟨_, rfl, p, rfl, ⟨_, hp⟩, comp2_enum (xs := ls.map V.int) (fun i ys Hc => Same H Hc ∧ TupsAt K Hc ys (prs ls i)) ⟨Same.refl _, rfl, fun i x ks h => by cases h⟩ ?_ ?_ ?_ ?_⟩
      · rintro i ys Hc hi ⟨_, tu⟩
        unfold prs at tu
        rw [tu.1, List.length_map, List.length_range]
        rw [List.length_map] at hi
        exact Nat.lt_of_lt_of_le hi (Nat.le_trans hl (by decide))
      · rintro i ys Hc hi ⟨sc, tu⟩
        exact sc.seq hp
      · rintro i x ys Hc T5 hx ⟨sc, tu⟩ hT
        rw [List.getElem?_map] at hx
        cases e4 : ls[i]? with
        | none => rw [e4] at hx; cases hx
        | some z =>
          rw [e4] at hx
          cases hx
          have lt := (List.getElem?_eq_some_iff.mp e4).1
          have ez : ls.getD i 0 = z := by rw [List.getD_eq_getElem?_getD, e4]; rfl
          have sT := new_same (o := .tup [.int i, .int z]) hT
          unfold tYes
          refine @iteT (tTup (tCons (tOp (rIxL K) (tVar 2) _) (tCons (tVar 1) tNil)) _ _ _) _ ?_
          refine ⟨_, rfl, _, rfl, _, _, rfl, rfl, p, _, _, .int (prv ls i), rfl, rfl, (sc.trans sT).seq hp, at_prv lt, _, rfl, (by show 2 ≤ sizeLine; decide), fun t ht => ?_⟩
          have sU := sT.trans (new_same (o := .tup [.int (prv ls i), .int z]) ht)
          refine ⟨sc.trans sU, ?_⟩
          unfold prs at tu ⊢
          rw [List.range_succ, List.map_append]
          refine (tu.mono fun b ys s => sU.tup s).cat ?_
          show TupsAt K _ [.ref t] [[prv ls i, ls.getD i 0]]
          rw [ez]
          exact TupsAt.one (SqT.of upd_same)
      · rintro ys Hc ⟨sc, tu⟩ u hu
        rw [List.length_map] at tu
        have sU := new_same (o := .lst ys) hu
        have su := sc.trans sU
        have tu2 := tu.mono fun b zs s => sU.tup s
        refine ⟨_, rfl, p, _, rfl, .inl (su.seq hp), _, _, rfl, rfl, _, rfl, ?_⟩
        show if (decide (((2 : Nat) : Int) < ((ls.map V.int).length : Nat))) = true then _ else _
        rw [len_gt]
        refine ite2 (fun c2 => ?_) (fun c2 => ?_)
        · rw [c2, Bool.true_and, ← all_rot] at q
          have l2 : 2 < ls.length := of_decide_eq_true c2
          have yl : ys.length = ls.length := by
            rw [tu.1]
            unfold prs
            rw [List.length_map, List.length_range]
          refine ⟨_, rfl, u, rfl, ⟨_, SqL.of upd_same⟩, comp2_list (xs := ys) (fun i zs Hd => Hd = upd Hc u (.lst ys) ∧ zs = (stw m ls i).map V.int) ⟨rfl, rfl⟩ ?_ ?_ ?_ ?_⟩
          · rintro i zs Hd hi ⟨rfl, rfl⟩
            unfold stw
            rw [List.length_map, List.length_map, List.length_range]
            exact Nat.lt_of_lt_of_le hi (by rw [yl]; exact Nat.le_trans hl (by decide))
          · rintro i zs Hd hi ⟨rfl, rfl⟩
            exact SqL.of upd_same
          · rintro i x zs Hd hx ⟨rfl, rfl⟩
            have lt : i < ls.length := by
              have := (List.getElem?_eq_some_iff.mp hx).1
              omega
            have hk : (prs ls ls.length)[i]? = some [prv ls i, ls.getD i 0] := by
              unfold prs
              rw [List.getElem?_map, List.getElem?_range lt]
              rfl
            obtain ⟨t, rfl, st⟩ := tu2.2 i x _ hx hk
            refine ⟨t, .int (prv ls i), .int (ls.getD i 0), rfl, st, ?_⟩
            unfold tYes
            refine @iteT (tOp _ (tOp _ (tVar 1) (tVar 0)) (tVar 2) _ _ _) _ ?_
            refine ⟨_, rfl, _, rfl, _, _, rfl, rfl, _, rfl, _, _, rfl, rfl, m0, ?_⟩
            refine ⟨rfl, ?_⟩
            unfold stw
            rw [List.range_succ, List.map_append, List.map_append]
            rfl
          · rintro zs Hd ⟨rfl, rfl⟩ u2 hu2
            rw [yl]
            refine ⟨u2, stw m ls ls.length, rfl, SqL.of upd_same, (fun e => ?_), fun M hM hle => ?_⟩
            · have z : (stw m ls ls.length).length = ls.length := by
                unfold stw
                rw [List.length_map, List.length_range]
              rw [e] at z
              simp at z
              omega
            · refine ⟨_, rfl, _, _, rfl, rfl, ⟨by decide, by decide⟩, _, _, rfl, rfl, ?_⟩
              show Q (.bl (decide (M ≤ m / 2))) _
              rw [max_all hM hle]
              exact q _ (su.trans (new_same hu2))
        · rw [Bool.not_eq_true] at c2
          rw [c2, Bool.false_and] at q
          exact q _ su
    · rw [if_neg (show ¬ isS k "all" = true from c)] at q
      refine ⟨_, rfl, p, _, rfl, .inl hp, _, _, rfl, rfl, _, rfl, ?_⟩
      show if (decide (((2 : Nat) : Int) < ((ls.map V.int).length : Nat))) = true then _ else _
      rw [len_gt]
      refine ite2 (fun c2 => ?_) (fun c2 => ?_)
      · rw [c2, Bool.true_or] at q
        exact q _ (Same.refl _)
      · rw [Bool.not_eq_true] at c2
        rw [c2, Bool.false_or] at q
        refine ⟨_, rfl, p, _, rfl, .inl hp, rfl, _, rfl, ?_⟩
        show if (decide (V.int ((ls.map V.int).length : Nat) = V.int (2 : Nat))) = true then _ else _
        rw [len_dec]
        refine ite2 (fun c3 => ?_) (fun c3 => ?_)
        · rw [c3, Bool.true_and] at q
          have l2 : ls.length = 2 := of_decide_eq_true c3
          refine ⟨_, rfl, _, rfl, p, _, 1, .int (ls.getD 1 0), rfl, rfl, hp, at_d (j := 1) (by omega), _, rfl, p, _, 0, .int (ls.getD 0 0), rfl, rfl, hp, at_d (j := 0) (by omega), _, _, rfl, rfl, _, _, rfl, rfl, .inl ⟨by decide, by decide⟩, rfl, ?_⟩
          show Q (.bl (!decide (V.int m = V.int (2 * (ls.getD 1 0 - ls.getD 0 0))))) _
          rw [dec_i, show decide (m = 2 * (ls.getD 1 0 - ls.getD 0 0)) = decide (2 * (ls.getD 1 0 - ls.getD 0 0) = m) from by simp only [eq_comm]]
          exact q _ (Same.refl _)
        · rw [Bool.not_eq_true] at c3
          rw [c3, Bool.false_and] at q
          exact q _ (Same.refl _)
end
end K31

set_option Elab.async false
set_option linter.all false
set_option maxRecDepth 100000
set_option maxHeartbeats 4000000
namespace K31
open PySem L2 PySem.W
def mn (i j : Int) : Int := if j < i then j else i
def own (m : Int) (ls : List Int) (p : Int) : List Int := ls.map fun l => rf m l p
def bes (m : Int) (ls : List Int) (p : Int) : List Int := ls.map fun l => mn (rf m l p) (rf m l (p + 1))
def kix (k : Str) : Nat := if isS k "places" then 0 else if isS k "ties" then 1 else 2
def cod (m : Int) (ls : List Int) (j : Nat) (p : Int) : List (List Int) := if j = 0 then [own m ls p] else if j = 1 then [bes m ls p] else [own m ls p, bes m ls p]
def cds (m : Nat) (ls : List Int) (j : Nat) (n : Nat) : List (List Int) := (List.range n).flatMap fun (p : Nat) => cod m ls j (p : Int)
def kinds : List Str := ["places", "ties", "all"]
def spUnlike (K : Frag) : Sp := fun vs H Q _ => ∃ (m : Nat) (p : Addr) (ls : List Int) (k : Str), vs = [.int m, .ref p, .str k] ∧ 1 ≤ m ∧ m ≤ 10 ∧ SqL K H p (ls.map V.int) ∧ ls.length ≤ 20 ∧ k ∈ kinds ∧ ∀ H', Same H H' → Q (.bl (decide (dn (cds m ls (kix k) m) = (cds m ls (kix k) m).length))) H'
def unN : List Str := ["many", "looks", "kind", "codes", "place", "own", "beside"]
def asgCallSc : Stmt → Scope
  | .Assign _ (.Call _ (.ListComp _ _ sc _ :: _) _ _) _ => sc
  | _ => noSc
def forNth (n : Nat) : Stmt → Stmt
  | .For _ _ body _ _ => body.getD n (.Pass ⟨0, 0, 0, 0⟩)
  | _ => .Pass ⟨0, 0, 0, 0⟩
abbrev scOw : Scope := asgCallSc (forNth 0 ((defBody sUnlike).getD 1 (.Pass ⟨0, 0, 0, 0⟩)))
abbrev scBe : Scope := asgCallSc (forNth 1 ((defBody sUnlike).getD 1 (.Pass ⟨0, 0, 0, 0⟩)))
theorem blockOw : blockB unN (defScope sUnlike) scOw "look" ["look", "many", "place"] [0, 4] = true := by decide +kernel
theorem blockBe : blockB unN (defScope sUnlike) scBe "look" ["look", "many", "place"] [0, 4] = true := by decide +kernel
theorem map_take {ls : List Int} {i : Nat} {x : Int} (g : Int → Int) (h : ls[i]? = some x) : (ls.take (i + 1)).map g = (ls.take i).map g ++ [g x] := by
  rw [List.take_add_one, h, List.map_append]
  rfl
theorem kix_at {k : Str} (h : k ∈ kinds) : kix k < 3 ∧ ([V.str "places", V.str "ties", V.str "all"][kix k]? = some (V.str k)) ∧ ∀ (m : Nat) z, m < kix k → [V.str "places", V.str "ties", V.str "all"][m]? = some z → eqV z (.str k) = false := by
  unfold kinds at h
  rcases List.mem_cons.mp h with rfl | h
  · have e : kix "places" = 0 := by decide +kernel
    rw [e]
    exact ⟨by decide, rfl, fun m z hm => absurd hm (Nat.not_lt_zero _)⟩
  · rcases List.mem_cons.mp h with rfl | h
    · have e : kix "ties" = 1 := by decide +kernel
      rw [e]
      refine ⟨by decide, rfl, fun m z hm hz => ?_⟩
      have : m = 0 := by omega
      subst this
      cases hz
      decide +kernel
    · rw [List.mem_singleton.mp h]
      have e : kix "all" = 2 := by decide +kernel
      rw [e]
      refine ⟨by decide, rfl, fun m z hm hz => ?_⟩
      have : m = 0 ∨ m = 1 := by omega
      rcases this with rfl | rfl
      · cases hz
        decide +kernel
      · cases hz
        decide +kernel
theorem cds_succ (m : Nat) (ls : List Int) (j n : Nat) : cds m ls j (n + 1) = cds m ls j n ++ cod m ls j (n : Int) := by
  unfold cds
  rw [List.range_succ, List.flatMap_append, List.flatMap_singleton]
theorem cod_len (m : Int) (ls : List Int) (j : Nat) (p : Int) : (cod m ls j p).length ≤ 2 := by
  unfold cod
  split
  · simp
  · split <;> simp
theorem cds_len (m : Nat) (ls : List Int) (j : Nat) : ∀ n, (cds m ls j n).length ≤ 2 * n
  | 0 => Nat.le_refl _
  | n + 1 => by
    have h1 := cds_len m ls j n
    have h2 := cod_len m ls j (n : Int)
    rw [cds_succ, List.length_append]
    omega
section
variable {P : Program} {w : World} {K : Frag} {mg : Str → Option Value} {base : Heap}
theorem scUn : FnScope unN ["many", "looks", "kind"] (defScope sUnlike) := ⟨rfl, rfl, rfl, by decide +kernel, rfl, by decide +kernel, by decide +kernel⟩
theorem ok_unlike {f : Addr} {fd : FuncData} (F : Fun K "_law_unlike" "_law_unlike" sUnlike f fd) (T : Txt K mg) (hF : Has P w K mg base 1 "_law_far" ["many", "one", "other"] spFar) : FnOk P w K mg base CX0 2 f fd ["many", "looks", "kind"] (spUnlike K) := by
  refine F.ok scUn (fun vs H Q E h => ?_) (fun cdv A outer s H vs Q E hr h => ?_)
  · obtain ⟨m, p, ls, k, rfl, _⟩ := h
    rfl
  · obtain ⟨m, p, ls, k, rfl, m1, m9, hp, hl, hk, q⟩ := h
    have hu : _ + 8 < cLine := Nat.lt_of_le_of_lt (Nat.add_le_add_left (by decide : 8 ≤ 64) _) hr.units
    refine ⟨_, pss_cons (ps_set (i := 3) scUn.nd rfl (Or.inl rfl) (pe_lst pa_nil))
      (pss_cons (ps_for PassesOwn.never rfl (pi_range1 rfl T.range (pa_cons (pv 0) pa_nil)) (pg_name (i := 4) scUn.nd rfl (Or.inr rfl))
        (pss_cons (ps_set (i := 5) scUn.nd rfl (Or.inl rfl) (pe_callTy call_tuple_of (by rfl) T.tuple PyProof.Rows.boot_tuple (pa_cons (pe_comp (NB := ["look", "many", "place"]) (ix := [0, 4]) (BlockOk.of blockOw) rfl (pi_list (pv 1)) (fun _ _ _ _ => pe_has hF hr rfl (pa_cons (pv 1) (pa_cons (pv 0) (pa_cons (pv 2) pa_nil)))) (fun _ _ _ _ => pts_nil)) pa_nil)))
        (pss_cons (ps_set (i := 6) scUn.nd rfl (Or.inl rfl) (pe_callTy call_tuple_of (by rfl) T.tuple PyProof.Rows.boot_tuple (pa_cons (pe_comp (NB := ["look", "many", "place"]) (ix := [0, 4]) (BlockOk.of blockBe) rfl (pi_list (pv 1)) (fun _ _ _ _ => pe_callB (call_min2 rfl) (by rfl) T.min PyProof.Rows.boot_min (pa_cons (pe_has hF hr rfl (pa_cons (pv 1) (pa_cons (pv 0) (pa_cons (pv 2) pa_nil)))) (pa_cons (pe_has hF hr rfl (pa_cons (pv 1) (pa_cons (pv 0) (pa_cons (pe_op op_add (pv 2) pe_int) pa_nil)))) pa_nil))) (fun _ _ _ _ => pts_nil)) pa_nil)))
        (pss_one (ps_expr (pe_bm PySem.F.plainAttrs_list PySem.F.slot_list_extend PySem.F.type_list_extend mt_extend (pv 3) (pa_cons
          (pe_ix ix_list (pe_lst (pa_cons (pe_lst (pa_cons (pv 5) pa_nil)) (pa_cons (pe_lst (pa_cons (pv 6) pa_nil)) (pa_cons (pe_lst (pa_cons (pv 5) (pa_cons (pv 6) pa_nil))) pa_nil))))
            (pe_bm PySem.F.plainAttrs_list PySem.F.slot_list_index PySem.F.type_list_index mt_index (pe_lst (pa_cons pe_str (pa_cons pe_str (pa_cons pe_str pa_nil)))) (pa_cons (pv 2) pa_nil)) (fun _ _ => rfl)) pa_nil)))))))
      (pss_one (ps_ret (pe_cmpR op_eq (pe_callB call_lenN (by rfl) T.len PySem.boot_len (pa_cons (pe_callTy (call_setT rfl hu) (by rfl) T.set PyProof.Rows.boot_set (pa_cons (pv 3) pa_nil)) pa_nil)) (pe_callB call_len_seq (by rfl) T.len PySem.boot_len (pa_cons (pv 3) pa_nil)) (nomark _))))), ?_⟩
    obtain ⟨kj, kat, kno⟩ := kix_at hk
    have m0 : (0 : Int) < (m : Int) := by omega
    refine ⟨(by show 0 ≤ sizeLine; decide), fun c hc => ?_⟩
    refine ⟨_, rfl, m, rfl, (by omega), (by omega), ?_⟩
    rw [Int.toNat_natCast]
    refine for_range (lo := 0) (n := m) (fun i σ H2 => ∃ (v w x : Option V) (ys : List V), σ = [some (.int m), some (.ref p), some (.str k), some (.ref c), v, w, x] ∧ Mv c H H2 ∧ H2 c = some (.lst ys) ∧ TupsAt K H2 ys (cds m ls (kix k) i)) ⟨none, none, none, [], rfl, Mv.of (new_same hc), upd_same, rfl, fun i x ks h => by cases h⟩ ?_ ?_
    · rintro i σ H2 hi ⟨v, w', x', ys, rfl, mv, h2, tu⟩
      have hp2 : SqL K H2 p (ls.map V.int) := (mv.same hc).seq hp
      -- own
      refine ⟨_, rfl, p, rfl, ⟨_, hp2⟩, comp_list (xs := ls.map V.int) (fun j us Hd => Hd = H2 ∧ us = ((ls.take j).map fun l => rf m l (0 + (i : Int))).map V.int) ⟨rfl, rfl⟩ ?_ ?_ ?_ ?_⟩
      · rintro j us Hd hj ⟨rfl, rfl⟩
        rw [List.length_map, List.length_map, List.length_take]
        exact Nat.lt_of_le_of_lt (Nat.le_trans (Nat.min_le_right _ _) hl) (by decide)
      · rintro j us Hd hj ⟨rfl, rfl⟩
        exact hp2
      · rintro j x us Hd hx ⟨rfl, rfl⟩
        rw [List.getElem?_map] at hx
        cases e2 : ls[j]? with
        | none => rw [e2] at hx; cases hx
        | some z =>
          rw [e2] at hx
          cases hx
          unfold tYes
          refine @iteT (tCall spFar [] E0 (tCons (tVar 1) (tCons (tVar 0) (tCons (tVar 2) tNil))) _ _ _) _ ?_
          refine ⟨_, rfl, _, rfl, _, rfl, m, z, 0 + (i : Int), rfl, m0, ?_⟩
          refine ⟨rfl, ?_⟩
          rw [map_take _ e2, List.map_append]
          rfl
      · rintro us Hd ⟨rfl, rfl⟩ u hu2
        rw [List.length_map, List.take_length]
        refine ⟨u, _, rfl, .inl ⟨SqL.of upd_same, fun t ht => ?_⟩⟩
        have e0 : (ls.map fun l => rf m l (0 + (i : Int))) = own m ls (i : Int) := by
          unfold own
          rw [Int.zero_add]
        rw [e0] at ht ⊢
        have s1 := (new_same (o := .lst ((own m ls (i : Int)).map V.int)) hu2).trans (new_same (o := .tup ((own m ls (i : Int)).map V.int)) ht)
        have t1 : upd (upd Hd u (.lst ((own m ls (i : Int)).map V.int))) t (.tup ((own m ls (i : Int)).map V.int)) t = some (.tup ((own m ls (i : Int)).map V.int)) := upd_same
        generalize upd (upd Hd u (.lst ((own m ls (i : Int)).map V.int))) t (.tup ((own m ls (i : Int)).map V.int)) = H3 at s1 t1 ⊢
        have hp3 := s1.seq hp2
        -- beside
        refine ⟨_, rfl, p, rfl, ⟨_, hp3⟩, comp_list (xs := ls.map V.int) (fun j us Hd => Hd = H3 ∧ us = ((ls.take j).map fun l => mn (rf m l (0 + (i : Int))) (rf m l (0 + (i : Int) + 1))).map V.int) ⟨rfl, rfl⟩ ?_ ?_ ?_ ?_⟩
        · rintro j us Hd hj ⟨rfl, rfl⟩
          rw [List.length_map, List.length_map, List.length_take]
          exact Nat.lt_of_le_of_lt (Nat.le_trans (Nat.min_le_right _ _) hl) (by decide)
        · rintro j us Hd hj ⟨rfl, rfl⟩
          exact hp3
        · rintro j x us Hd hx ⟨rfl, rfl⟩
          rw [List.getElem?_map] at hx
          cases e2 : ls[j]? with
          | none => rw [e2] at hx; cases hx
          | some z =>
            rw [e2] at hx
            cases hx
            unfold tYes
            refine @iteT (tCB _ (tCons (tCall spFar [] E0 _) (tCons (tCall spFar [] E0 _) tNil)) _ _ _) _ ?_
            refine ⟨_, rfl, _, rfl, _, rfl, m, z, 0 + (i : Int), rfl, m0, _, rfl, _, rfl, _, rfl, _, _, rfl, rfl, m, z, 0 + (i : Int) + 1, rfl, m0, _, _, rfl, ?_⟩
            refine ⟨rfl, ?_⟩
            rw [map_take _ e2, List.map_append]
            rfl
        · rintro us Hd2 ⟨rfl, rfl⟩ u2 hu3
          rw [List.length_map, List.take_length]
          refine ⟨u2, _, rfl, .inl ⟨SqL.of upd_same, fun t2 ht2 => ?_⟩⟩
          have e1 : (ls.map fun l => mn (rf m l (0 + (i : Int))) (rf m l (0 + (i : Int) + 1))) = bes m ls (i : Int) := by
            unfold bes
            rw [Int.zero_add]
          rw [e1] at ht2 ⊢
          have s2 := (new_same (o := .lst ((bes m ls (i : Int)).map V.int)) hu3).trans (new_same (o := .tup ((bes m ls (i : Int)).map V.int)) ht2)
          have t2' : upd (upd Hd2 u2 (.lst ((bes m ls (i : Int)).map V.int))) t2 (.tup ((bes m ls (i : Int)).map V.int)) t2 = some (.tup ((bes m ls (i : Int)).map V.int)) := upd_same
          generalize upd (upd Hd2 u2 (.lst ((bes m ls (i : Int)).map V.int))) t2 (.tup ((bes m ls (i : Int)).map V.int)) = H4 at s2 t2' ⊢
          have t1' := s2 _ _ t1
          have s12 := s1.trans s2
          have c4 := s12 _ _ h2
          -- codes.extend
          refine ⟨_, rfl, .inl ⟨rfl, _, SqL.of c4⟩, _, rfl, (by show 1 ≤ sizeLine; decide), fun a1 g1 => ⟨_, rfl, (by show 1 ≤ sizeLine; decide), fun a2 g2 => ⟨_, rfl, _, rfl, (by show 2 ≤ sizeLine; decide), fun a3 g3 => ⟨(by show 3 ≤ sizeLine; decide), fun a4 g4 => ⟨(by show 3 ≤ sizeLine; decide), fun a5 g5 => ?_⟩⟩⟩⟩⟩
          have r1 := new_same (o := .lst [.ref t]) g1
          have r2 := new_same (o := .lst [.ref t2]) g2
          have r3 := new_same (o := .lst [.ref t, .ref t2]) g3
          have r4 := new_same (o := .lst [.ref a1, .ref a2, .ref a3]) g4
          have r5 := new_same (o := .lst [.str "places", .str "ties", .str "all"]) g5
          have z1 := r5 _ _ (r4 _ _ (r3 _ _ (r2 _ _ (upd_same : upd H4 a1 (.lst [.ref t]) a1 = _))))
          have z2 := r5 _ _ (r4 _ _ (r3 _ _ (upd_same : upd (upd H4 a1 (.lst [.ref t])) a2 (.lst [.ref t2]) a2 = _)))
          have z3 := r5 _ _ (r4 _ _ (upd_same : upd (upd (upd H4 a1 (.lst [.ref t])) a2 (.lst [.ref t2])) a3 (.lst [.ref t, .ref t2]) a3 = _))
          have z4 := r5 _ _ (upd_same : upd (upd (upd (upd H4 a1 (.lst [.ref t])) a2 (.lst [.ref t2])) a3 (.lst [.ref t, .ref t2])) a4 (.lst [.ref a1, .ref a2, .ref a3]) a4 = _)
          have z5 : upd (upd (upd (upd (upd H4 a1 (.lst [.ref t])) a2 (.lst [.ref t2])) a3 (.lst [.ref t, .ref t2])) a4 (.lst [.ref a1, .ref a2, .ref a3])) a5 (.lst [.str "places", .str "ties", .str "all"]) a5 = some (.lst [.str "places", .str "ties", .str "all"]) := upd_same
          have r15 := (((r1.trans r2).trans r3).trans r4).trans r5
          generalize upd (upd (upd (upd (upd H4 a1 (.lst [.ref t])) a2 (.lst [.ref t2])) a3 (.lst [.ref t, .ref t2])) a4 (.lst [.ref a1, .ref a2, .ref a3])) a5 (.lst [.str "places", .str "ties", .str "all"]) = H5 at z1 z2 z3 z4 z5 r15 ⊢
          refine ⟨.inl ⟨rfl, _, SqL.of z5⟩, _, rfl, a5, _, .str k, kix k, .str k, rfl, rfl, z5, rfl, rfl, kat, (by show ((k == k) = true); exact beq_self_eq_true k), kno, ?_⟩
          have c5 := r15 _ _ c4
          have t1'' := r15 _ _ t1'
          have t2'' := r15 _ _ t2'
          have s15 := s12.trans r15
          have tu5 := tu.mono fun b ys s => s15.tup s
          have fin : ∀ (a6 : Addr) (zs : List V) (cs : List (List Int)), H5 a6 = some (.lst zs) → TupsAt K H5 zs cs → cs = cod m ls (kix k) (i : Int) → ys.length + zs.length ≤ sizeLine ∧ (Mv c H (upd H5 c (.lst (ys ++ zs))) ∧ TupsAt K (upd H5 c (.lst (ys ++ zs))) (ys ++ zs) (cds m ls (kix k) (i + 1))) := fun a6 zs cs hz tz ec => by
            subst ec
            refine ⟨?_, (mv.trans (Mv.of s15)).trans (Mv.upd c _ _), ?_⟩
            · have h1 := cds_len m ls (kix k) i
              have h3 := cod_len m ls (kix k) (i : Int)
              rw [tu.1, tz.1]
              exact Nat.le_trans (show _ ≤ 22 by omega) (by decide)
            · rw [cds_succ]
              exact (tu5.cat tz).mono fun b ys s => (Mv.upd c _ _).tup c5 s
          have j3 : kix k = 0 ∨ kix k = 1 ∨ kix k = 2 := by omega
          rcases j3 with e | e | e
          · obtain ⟨q1, q2, q3⟩ := fin a1 [.ref t] [own m ls (i : Int)] z1 (TupsAt.one (SqT.of t1'')) (by unfold cod; rw [if_pos e])
            exact ⟨a4, _, _, .ref a1, rfl, rfl, SqL.of z4, (by rw [e]; rfl), c, a1, ys, [.ref t], rfl, rfl, c5, z1, q1, ⟨_, _, _, ys ++ [.ref t], rfl, q2, upd_same, q3⟩⟩
          · obtain ⟨q1, q2, q3⟩ := fin a2 [.ref t2] [bes m ls (i : Int)] z2 (TupsAt.one (SqT.of t2'')) (by unfold cod; rw [if_neg (by omega), if_pos e])
            exact ⟨a4, _, _, .ref a2, rfl, rfl, SqL.of z4, (by rw [e]; rfl), c, a2, ys, [.ref t2], rfl, rfl, c5, z2, q1, ⟨_, _, _, ys ++ [.ref t2], rfl, q2, upd_same, q3⟩⟩
          · obtain ⟨q1, q2, q3⟩ := fin a3 [.ref t, .ref t2] [own m ls (i : Int), bes m ls (i : Int)] z3 ((TupsAt.one (SqT.of t1'')).cat (TupsAt.one (SqT.of t2''))) (by unfold cod; rw [if_neg (by omega), if_neg (by omega)])
            exact ⟨a4, _, _, .ref a3, rfl, rfl, SqL.of z4, (by rw [e]; rfl), c, a3, ys, [.ref t, .ref t2], rfl, rfl, c5, z3, q1, ⟨_, _, _, ys ++ [.ref t, .ref t2], rfl, q2, upd_same, q3⟩⟩
    · rintro σ H2 ⟨v, w', x', ys, rfl, mv, h2, tu⟩
      have ln := cds_len m ls (kix k) m
      refine ⟨_, rfl, c, ys, cds m ls (kix k) m, rfl, SqL.of h2, tu, (by omega), fun t ht => ?_⟩
      have nct : c ≠ t := ne_of_none h2 ht
      refine ⟨t, dn (cds m ls (kix k) m), rfl, upd_same, (by have : dn (cds m ls (kix k) m) ≤ (cds m ls (kix k) m).length := SM.met_len _ _; omega), ?_⟩
      refine ⟨_, rfl, c, ys, rfl, .inl (SqL.of (by rw [upd_ne nct]; exact h2)), rfl, ?_⟩
      have e : decide (V.int (dn (cds m ls (kix k) m) : Nat) = V.int (ys.length : Nat)) = decide (dn (cds m ls (kix k) m) = (cds m ls (kix k) m).length) := by
        rw [dec_i, Bool.eq_iff_iff, decide_eq_true_iff, decide_eq_true_iff, tu.1]
        omega
      show Q (.bl (decide (V.int (dn (cds m ls (kix k) m) : Nat) = V.int (ys.length : Nat)))) _
      rw [e]
      exact q _ ((mv.same hc).trans (new_same ht))
end
end K31

set_option Elab.async false
set_option linter.all false
set_option maxRecDepth 100000
set_option maxHeartbeats 4000000
namespace K31
open PySem L2 PySem.W
theorem met_full {K : Type} [DecidableEq K] (f : Nat → List K) : ∀ i, (SM.met f i).length = i ↔ ∀ a b, a < b → b < i → f a ≠ f b
  | 0 => ⟨fun _ a b _ h => absurd h (Nat.not_lt_zero _), fun _ => rfl⟩
  | i + 1 => by
    have ih := met_full f i
    have le := SM.met_len f i
    have mm := SM.met_mem f (f i) i
    rw [show SM.met f (i + 1) = if f i ∈ SM.met f i then SM.met f i else SM.met f i ++ [f i] from rfl]
    split
    · next c =>
      obtain ⟨j, hj, e⟩ := mm.mp c
      exact ⟨fun h => by omega, fun h => absurd e (h j i hj (Nat.lt_succ_self i))⟩
    · next c =>
      rw [List.length_append, List.length_singleton]
      constructor
      · intro h a b hab hb
        rcases Nat.lt_succ_iff_lt_or_eq.mp hb with l | l
        · exact ih.mp (by omega) a b hab l
        · subst l
          exact fun e => c (mm.mpr ⟨a, hab, e⟩)
      · intro h
        rw [ih.mpr fun a b hab hb => h a b hab (Nat.lt_succ_of_lt hb)]
theorem dn_iff (kss : List (List Int)) : dn kss = kss.length ↔ kss.Nodup := by
  unfold dn
  rw [met_full, List.nodup_iff_pairwise_ne, List.pairwise_iff_getElem]
  have e : ∀ (i : Nat) (h : i < kss.length), kss.getD i [] = kss[i] := fun i h => by
    rw [List.getD_eq_getElem?_getD, List.getElem?_eq_getElem h]
    rfl
  constructor
  · intro h i j hi hj hij
    have := h i j hij hj
    rw [e i hi, e j hj] at this
    exact this
  · intro h a b hab hb
    rw [e a (Nat.lt_trans hab hb), e b hb]
    exact h a b (Nat.lt_trans hab hb) hb hab
def nodupB : List Nat → Bool
  | [] => true
  | a :: r => r.all (fun b => !Nat.beq a b) && nodupB r
theorem nodupB_iff : ∀ l, nodupB l = true ↔ l.Nodup
  | [] => ⟨fun _ => List.nodup_nil, fun _ => rfl⟩
  | a :: r => by
    have ih := nodupB_iff r
    rw [List.nodup_cons, ← ih]
    show (r.all (fun b => !Nat.beq a b) && nodupB r) = true ↔ _
    rw [Bool.and_eq_true, List.all_eq_true]
    have e : (∀ x ∈ r, (!Nat.beq a x) = true) ↔ a ∉ r := by
      constructor
      · intro h hin
        have := h a hin
        rw [Nat.beq_refl] at this
        cases this
      · intro h x hx
        cases c : Nat.beq a x with
        | false => rfl
        | true => exact absurd (Nat.eq_of_beq_eq_true c ▸ hx) h
    rw [e]
theorem nd_map_on {α β : Type} {f : α → β} : ∀ (l : List α), (∀ a ∈ l, ∀ b ∈ l, f a = f b → a = b) → ((l.map f).Nodup ↔ l.Nodup)
  | [], _ => ⟨fun _ => List.nodup_nil, fun _ => List.nodup_nil⟩
  | a :: r, inj => by
    rw [List.map_cons, List.nodup_cons, List.nodup_cons, nd_map_on r fun x hx y hy => inj x (List.mem_cons_of_mem _ hx) y (List.mem_cons_of_mem _ hy)]
    have e : f a ∈ r.map f ↔ a ∈ r := ⟨fun h => by
      obtain ⟨b, hb, eb⟩ := List.mem_map.mp h
      rw [← inj b (List.mem_cons_of_mem _ hb) a List.mem_cons_self eb]
      exact hb, fun h => List.mem_map.mpr ⟨a, h, rfl⟩⟩
    rw [e]
/-! ### numbers for lists -/
def encR : List Nat → Nat
  | [] => 0
  | d :: r => d + 16 * encR r
theorem encR_inj : ∀ {a b : List Nat}, a.length = b.length → (∀ d ∈ a, d < 16) → (∀ d ∈ b, d < 16) → encR a = encR b → a = b
  | [], [], _, _, _, _ => rfl
  | x :: r, y :: s, hl, ha, hb, h => by
    have h1 := ha x List.mem_cons_self
    have h2 := hb y List.mem_cons_self
    have h3 : x + 16 * encR r = y + 16 * encR s := h
    have e1 : x = y := by omega
    have e2 : encR r = encR s := by omega
    rw [e1, encR_inj (Nat.succ.inj hl) (fun d hd => ha d (List.mem_cons_of_mem _ hd)) (fun d hd => hb d (List.mem_cons_of_mem _ hd)) e2]
def subs : List Nat → List (List Nat)
  | [] => [[]]
  | a :: r => subs r ++ (subs r).map (a :: ·)
theorem subs_mem : ∀ (n s : Nat) (ls : List Nat), ls.Pairwise (· < ·) → (∀ l ∈ ls, s ≤ l ∧ l < s + n) → ls ∈ subs (List.range' s n)
  | 0, s, ls, _, hb => by
    cases ls with
    | nil => exact List.mem_singleton.mpr rfl
    | cons a r =>
      have := hb a List.mem_cons_self
      omega
  | n + 1, s, ls, hp, hb => by
    show ls ∈ subs (List.range' (s + 1) n) ++ (subs (List.range' (s + 1) n)).map (s :: ·)
    rw [List.mem_append]
    cases ls with
    | nil => exact .inl (subs_mem n (s + 1) [] List.Pairwise.nil fun l hl => (nomatch hl))
    | cons a r =>
      have pr := List.pairwise_cons.mp hp
      have ha := hb a List.mem_cons_self
      by_cases c : a = s
      · subst c
        refine .inr (List.mem_map.mpr ⟨r, subs_mem n (a + 1) r pr.2 fun l hl => ?_, rfl⟩)
        have h1 := pr.1 l hl
        have h2 := hb l (List.mem_cons_of_mem _ hl)
        omega
      · refine .inl (subs_mem n (s + 1) (a :: r) hp fun l hl => ?_)
        have h2 := hb l hl
        rcases List.mem_cons.mp hl with e | hl
        · omega
        · have h1 := pr.1 l hl
          omega
theorem nat_list : ∀ {ls : List Int}, (∀ l ∈ ls, 0 ≤ l) → ∃ ns : List Nat, ls = ns.map Int.ofNat
  | [], _ => ⟨[], rfl⟩
  | a :: r, h => by
    obtain ⟨n, rfl⟩ := Int.eq_ofNat_of_zero_le (h a List.mem_cons_self)
    obtain ⟨ns, rfl⟩ := nat_list (ls := r) fun l hl => h l (List.mem_cons_of_mem _ hl)
    exact ⟨n :: ns, rfl⟩
theorem ofNat_list_inj : ∀ {a b : List Nat}, a.map Int.ofNat = b.map Int.ofNat → a = b
  | [], [], _ => rfl
  | [], _ :: _, h => by cases h
  | _ :: _, [], h => by cases h
  | x :: r, y :: s, h => by
    have h1 := List.cons.inj h
    rw [Int.ofNat.inj h1.1, ofNat_list_inj h1.2]
theorem beq_dec (a b : Nat) : Nat.beq a b = decide (a = b) := by
  rw [Bool.eq_iff_iff, decide_eq_true_iff]
  exact ⟨Nat.eq_of_beq_eq_true, fun h => by rw [h]; exact Nat.beq_refl b⟩
theorem blt_dec (a b : Nat) : Nat.blt a b = decide (a < b) := by
  rw [Bool.eq_iff_iff, decide_eq_true_iff]
  exact ⟨Nat.le_of_ble_eq_true, Nat.ble_eq_true_of_le⟩
def onN (m l p : Nat) : Nat := (p + m - l) % m
def rfN (m l p : Nat) : Nat := if Nat.blt (m - onN m l p) (onN m l p) then m - onN m l p else onN m l p
def ownN (m : Nat) (ls : List Nat) (p : Nat) : List Nat := ls.map fun l => rfN m l p
def besN (m : Nat) (ls : List Nat) (p : Nat) : List Nat := ls.map fun l => Nat.min (rfN m l p) (rfN m l (p + 1))
def codN (m : Nat) (ls : List Nat) (j p : Nat) : List (List Nat) := if Nat.beq j 0 then [ownN m ls p] else if Nat.beq j 1 then [besN m ls p] else [ownN m ls p, besN m ls p]
def cdsN (m : Nat) (ls : List Nat) (j n : Nat) : List (List Nat) := (List.range n).flatMap (codN m ls j)
def stpN (m : Nat) (ls : List Nat) : List Nat := List.zipWith (fun l a => (a + m - l) % m) ls (ls.drop 1 ++ ls.take 1)
def rkN (m : Nat) (ls : List Nat) (j : Nat) : Bool := if Nat.beq j 2 then Nat.blt 2 ls.length && (stpN m ls).all (fun x => Nat.ble x (m / 2)) else Nat.blt 2 ls.length || (Nat.beq ls.length 2 && !Nat.beq (2 * (ls.getD 1 0 - ls.getD 0 0)) m)
def chk1 (m : Nat) (ls : List Nat) (j : Nat) : Bool := nodupB ((cdsN m ls j m).map encR) == rkN m ls j
def chk (m : Nat) : Bool := (subs (List.range' 0 m)).all fun ls => Nat.blt 4 ls.length || (chk1 m ls 0 && (chk1 m ls 1 && chk1 m ls 2))
theorem chk_all : ([3, 4, 5, 6, 7, 8, 9, 10].all chk) = true := by decide +kernel
end K31

set_option Elab.async false
set_option linter.all false
set_option maxRecDepth 100000
set_option maxHeartbeats 4000000
namespace K31
open PySem L2 PySem.W
theorem on_N {m l p : Nat} (hl : l ≤ m) : ((p : Int) - (l : Int)) % (m : Int) = ((onN m l p : Nat) : Int) := by
  unfold onN
  rw [Int.natCast_emod]
  have e : ((p + m - l : Nat) : Int) = ((p : Int) - (l : Int)) + (m : Int) := by omega
  rw [e, Int.add_emod_right]
theorem rf_N {m l p : Nat} (m0 : 0 < m) (hl : l ≤ m) : rf (m : Int) (Int.ofNat l) (p : Int) = Int.ofNat (rfN m l p) := by
  have lt : onN m l p < m := Nat.mod_lt _ m0
  unfold rf rfN
  have e : ((p : Int) - Int.ofNat l) % (m : Int) = ((onN m l p : Nat) : Int) := on_N hl
  rw [e]
  by_cases c : m - onN m l p < onN m l p
  · rw [if_pos (by omega), if_pos (by rw [blt_dec]; exact decide_eq_true c)]
    show (m : Int) - ((onN m l p : Nat) : Int) = ((m - onN m l p : Nat) : Int)
    omega
  · rw [if_neg (by omega), if_neg (by rw [blt_dec]; exact fun z => c (of_decide_eq_true z))]
    rfl
theorem own_N {m : Nat} (m0 : 0 < m) {ns : List Nat} (hb : ∀ l ∈ ns, l < m) (p : Nat) : own (m : Int) (ns.map Int.ofNat) (p : Int) = (ownN m ns p).map Int.ofNat := by
  unfold own ownN
  rw [List.map_map, List.map_map]
  exact List.map_congr_left fun l hl => rf_N m0 (Nat.le_of_lt (hb l hl))
theorem bes_N {m : Nat} (m0 : 0 < m) {ns : List Nat} (hb : ∀ l ∈ ns, l < m) (p : Nat) : bes (m : Int) (ns.map Int.ofNat) (p : Int) = (besN m ns p).map Int.ofNat := by
  unfold bes besN
  rw [List.map_map, List.map_map]
  refine List.map_congr_left fun l hl => ?_
  have hl := Nat.le_of_lt (hb l hl)
  show mn (rf (m : Int) (Int.ofNat l) (p : Int)) (rf (m : Int) (Int.ofNat l) ((p : Int) + 1)) = Int.ofNat (Nat.min (rfN m l p) (rfN m l (p + 1)))
  have e : ((p : Int) + 1) = ((p + 1 : Nat) : Int) := by omega
  rw [e, rf_N m0 hl, rf_N m0 hl]
  unfold mn
  show (if ((rfN m l (p + 1) : Nat) : Int) < ((rfN m l p : Nat) : Int) then ((rfN m l (p + 1) : Nat) : Int) else ((rfN m l p : Nat) : Int)) = ((min (rfN m l p) (rfN m l (p + 1)) : Nat) : Int)
  split <;> omega
theorem cod_N {m : Nat} (m0 : 0 < m) {ns : List Nat} (hb : ∀ l ∈ ns, l < m) (j p : Nat) : cod (m : Int) (ns.map Int.ofNat) j (p : Int) = (codN m ns j p).map (List.map Int.ofNat) := by
  unfold cod codN
  rw [beq_dec, beq_dec, own_N m0 hb, bes_N m0 hb]
  by_cases c : j = 0
  · rw [if_pos c, if_pos (decide_eq_true c)]
    rfl
  · rw [if_neg c, if_neg (fun z => c (of_decide_eq_true z))]
    by_cases c1 : j = 1
    · rw [if_pos c1, if_pos (decide_eq_true c1)]
      rfl
    · rw [if_neg c1, if_neg (fun z => c1 (of_decide_eq_true z))]
      rfl
theorem cds_N {m : Nat} (m0 : 0 < m) {ns : List Nat} (hb : ∀ l ∈ ns, l < m) (j : Nat) : ∀ n, cds m (ns.map Int.ofNat) j n = (cdsN m ns j n).map (List.map Int.ofNat)
  | 0 => rfl
  | n + 1 => by
    have ih := cds_N m0 hb j n
    rw [cds_succ, ih, cod_N m0 hb]
    unfold cdsN
    rw [List.range_succ, List.flatMap_append, List.map_append, List.flatMap_singleton]
theorem rfN_lt {m l p : Nat} (m0 : 0 < m) (m10 : m ≤ 10) : rfN m l p < 16 := by
  have lt : onN m l p < m := Nat.mod_lt _ m0
  unfold rfN
  split <;> omega
theorem codN_mem {m : Nat} (m0 : 0 < m) (m10 : m ≤ 10) {ns : List Nat} {j p : Nat} {c : List Nat} (h : c ∈ codN m ns j p) : c.length = ns.length ∧ ∀ d ∈ c, d < 16 := by
  have o : (ownN m ns p).length = ns.length ∧ ∀ d ∈ ownN m ns p, d < 16 := ⟨by unfold ownN; rw [List.length_map], fun d hd => by
    obtain ⟨l, _, rfl⟩ := List.mem_map.mp hd
    exact rfN_lt m0 m10⟩
  have b : (besN m ns p).length = ns.length ∧ ∀ d ∈ besN m ns p, d < 16 := ⟨by unfold besN; rw [List.length_map], fun d hd => by
    obtain ⟨l, _, rfl⟩ := List.mem_map.mp hd
    have h1 := rfN_lt (l := l) (p := p) m0 m10
    show min (rfN m l p) (rfN m l (p + 1)) < 16
    omega⟩
  unfold codN at h
  split at h
  · rw [List.mem_singleton.mp h]
    exact o
  · split at h
    · rw [List.mem_singleton.mp h]
      exact b
    · rcases List.mem_cons.mp h with rfl | h
      · exact o
      · rw [List.mem_singleton.mp h]
        exact b
theorem cdsN_mem {m : Nat} (m0 : 0 < m) (m10 : m ≤ 10) {ns : List Nat} {j n : Nat} {c : List Nat} (h : c ∈ cdsN m ns j n) : c.length = ns.length ∧ ∀ d ∈ c, d < 16 := by
  obtain ⟨p, _, hp⟩ := List.mem_flatMap.mp h
  exact codN_mem m0 m10 hp
theorem stp_N {m : Nat} : ∀ (ns zs : List Nat), (∀ l ∈ ns, l < m) → List.zipWith (st1 (m : Int)) (ns.map Int.ofNat) (zs.map Int.ofNat) = (List.zipWith (fun l a => (a + m - l) % m) ns zs).map Int.ofNat
  | [], _, _ => by simp
  | _ :: _, [], _ => by simp
  | l :: r, a :: s, hb => by
    have ih := stp_N r s fun x hx => hb x (List.mem_cons_of_mem _ hx)
    have hl := Nat.le_of_lt (hb l List.mem_cons_self)
    show ((Int.ofNat a - Int.ofNat l) % (m : Int)) :: List.zipWith (st1 (m : Int)) (r.map Int.ofNat) (s.map Int.ofNat) = Int.ofNat ((a + m - l) % m) :: (List.zipWith (fun l a => (a + m - l) % m) r s).map Int.ofNat
    rw [ih, show (Int.ofNat a - Int.ofNat l) % (m : Int) = Int.ofNat ((a + m - l) % m) from on_N hl]
theorem ble_dec (a b : Nat) : Nat.ble a b = decide (a ≤ b) := by
  rw [Bool.eq_iff_iff, decide_eq_true_iff]
  exact ⟨Nat.le_of_ble_eq_true, Nat.ble_eq_true_of_le⟩
theorem all_N (m : Nat) : ∀ l : List Nat, (l.map Int.ofNat).all (fun x => decide (x ≤ (m : Int) / 2)) = l.all (fun x => Nat.ble x (m / 2))
  | [] => rfl
  | a :: r => by
    show (decide (Int.ofNat a ≤ (m : Int) / 2) && (r.map Int.ofNat).all (fun x => decide (x ≤ (m : Int) / 2))) = (Nat.ble a (m / 2) && r.all (fun x => Nat.ble x (m / 2)))
    rw [all_N m r, ble_dec]
    congr 1
    rw [Bool.eq_iff_iff, decide_eq_true_iff, decide_eq_true_iff]
    show (a : Int) ≤ (m : Int) / 2 ↔ a ≤ m / 2
    omega
theorem kix_all {k : Str} (h : k ∈ kinds) : isS k "all" = Nat.beq (kix k) 2 := by
  unfold kinds at h
  rcases List.mem_cons.mp h with rfl | h
  · decide +kernel
  · rcases List.mem_cons.mp h with rfl | h
    · decide +kernel
    · rw [List.mem_singleton.mp h]
      decide +kernel
theorem rk_N {m : Nat} {ns : List Nat} (hb : ∀ l ∈ ns, l < m) (hp : ns.Pairwise (· < ·)) {k : Str} (hk : k ∈ kinds) : rk (m : Int) (ns.map Int.ofNat) k = rkN m ns (kix k) := by
  unfold rk rkN
  rw [kix_all hk, List.length_map, blt_dec, beq_dec ns.length 2, beq_dec (2 * _) m]
  have e1 : stp (m : Int) (ns.map Int.ofNat) = (stpN m ns).map Int.ofNat := by
    unfold stp stpN
    rw [← List.map_drop, ← List.map_take, ← List.map_append]
    exact stp_N ns _ hb
  rw [e1, all_N]
  split
  · rfl
  · congr 1
    by_cases c : ns.length = 2
    · rw [decide_eq_true c, Bool.true_and, Bool.true_and]
      congr 1
      match ns, c, hp with
      | [a, b], _, hp =>
        have lt : a < b := (List.pairwise_cons.mp hp).1 b List.mem_cons_self
        rw [Bool.eq_iff_iff, decide_eq_true_iff, decide_eq_true_iff]
        show 2 * ((b : Int) - (a : Int)) = (m : Int) ↔ 2 * (b - a) = m
        omega
    · rw [decide_eq_false c, Bool.false_and, Bool.false_and]
theorem small {m : Nat} (m1 : 3 ≤ m) (m9 : m ≤ 10) {ls : List Int} (hr : Rises m ls) (hl : ls.length ≤ 4) {k : Str} (hk : k ∈ kinds) : decide (dn (cds m ls (kix k) m) = (cds m ls (kix k) m).length) = rk m ls k := by
  obtain ⟨ns, rfl⟩ := nat_list fun l hl => (hr.2 l hl).1
  rw [List.length_map] at hl
  have m0 : 0 < m := by omega
  have hb : ∀ l ∈ ns, l < m := fun l h => by
    have := (hr.2 (Int.ofNat l) (List.mem_map.mpr ⟨l, h, rfl⟩)).2
    have : (l : Int) < (m : Int) := this
    omega
  have hp : ns.Pairwise (· < ·) := by
    have := List.pairwise_map.mp hr.1
    exact this.imp fun {a b} h => by
      have : (a : Int) < (b : Int) := h
      omega
  have mem := subs_mem m 0 ns hp fun l h => ⟨Nat.zero_le _, by have := hb l h; omega⟩
  have z := chk_all
  rw [List.all_eq_true] at z
  have z1 := z m (by simp only [List.mem_cons, List.not_mem_nil, or_false]; omega)
  unfold chk at z1
  rw [List.all_eq_true] at z1
  have z2 := z1 ns mem
  rw [blt_dec, decide_eq_false (by omega), Bool.false_or, Bool.and_eq_true, Bool.and_eq_true] at z2
  have key : ∀ j, chk1 m ns j = true → nodupB ((cdsN m ns j m).map encR) = rkN m ns j := fun j h => eq_of_beq h
  have nd : ∀ j, ((cdsN m ns j m).map encR).Nodup ↔ ((cdsN m ns j m).map (List.map Int.ofNat)).Nodup := fun j => by
    rw [nd_map_on _ fun a ha b hb' h => ?_, nd_map_on _ fun a _ b _ h => ofNat_list_inj h]
    have h1 := cdsN_mem m0 m9 ha
    have h2 := cdsN_mem m0 m9 hb'
    exact encR_inj (h1.1.trans h2.1.symm) h1.2 h2.2 h
  rw [rk_N hb hp hk, cds_N m0 hb, Bool.eq_iff_iff, decide_eq_true_iff, dn_iff, ← nd, ← nodupB_iff]
  have j3 : kix k = 0 ∨ kix k = 1 ∨ kix k = 2 := by
    have := (kix_at hk).1
    omega
  rcases j3 with e | e | e
  · rw [e, key _ z2.1]
  · rw [e, key _ z2.2.1]
  · rw [e, key _ z2.2.2]
theorem rf_sym {m : Int} (m0 : 0 < m) (a b : Int) : rf m b a = rf m a b := by
  have h1 := Int.emod_nonneg (b - a) (show m ≠ 0 by omega)
  have h2 := Int.emod_lt_of_pos (b - a) m0
  have e : (a - b) % m = if (b - a) % m = 0 then 0 else m - (b - a) % m := by
    have q : a - b = -(b - a) := by omega
    rw [q]
    split
    · next c =>
      rw [Int.neg_emod, if_pos (Int.dvd_of_emod_eq_zero c)]
    · next c =>
      rw [Int.neg_emod, if_neg (fun d => c (Int.emod_eq_zero_of_dvd d))]
      omega
  unfold rf
  rw [e]
  split
  · next c =>
    rw [c]
  · split <;> split <;> omega
end K31

set_option Elab.async false
set_option linter.all false
set_option maxRecDepth 100000
set_option maxHeartbeats 4000000
namespace K31
open PySem L2 PySem.W PySem.SeqAt
def spLaw (K : Frag) : Sp := fun vs H Q _ => ∃ (a : Addr) (ns : List Int), vs = [.ref a] ∧ SqL K H a (ns.map V.int) ∧ ns.length ≤ 63 ∧ ∀ H', Q (.bl true) H'
theorem pickT {r : Int} (r0 : 0 ≤ r) (r1 : r < 4) : ∃ z, atI [V.int 8, V.int ((10 : Int) ^ (3 : Int).toNat), V.int ((10 : Int) ^ (20 : Int).toNat), V.int ((10 : Int) ^ (60 : Int).toNat - 2)] r = some (.int z) ∧ 0 < z := by
  have : r = 0 ∨ r = 1 ∨ r = 2 ∨ r = 3 := by omega
  rcases this with rfl | rfl | rfl | rfl
  · exact ⟨_, rfl, by decide⟩
  · exact ⟨_, rfl, by decide⟩
  · exact ⟨_, rfl, by decide⟩
  · exact ⟨_, rfl, by decide⟩
theorem pickO {r : Int} (r0 : 0 ≤ r) (r1 : r < 4) : ∃ z : Nat, atI [V.int 2, V.int 3, V.int 3, V.int 20] r = some (.int z) ∧ z ≤ 20 := by
  have : r = 0 ∨ r = 1 ∨ r = 2 ∨ r = 3 := by omega
  rcases this with rfl | rfl | rfl | rfl
  · exact ⟨2, rfl, by decide⟩
  · exact ⟨3, rfl, by decide⟩
  · exact ⟨3, rfl, by decide⟩
  · exact ⟨20, rfl, by decide⟩
/-! ### lists of numbers as data -/
theorem rd_ints {K : Frag} {H : Hp} : ∀ ns : List Int, RdDs K H (ns.map V.int) (ns.map PyData.int)
  | [] => .nil
  | n :: r => .cons (.int n) (rd_ints r)
theorem lay_ints : ∀ ns : List Int, PyData.canLayAll0 (ns.map PyData.int) = true
  | [] => rfl
  | n :: r => by
    show (PyData.canLay0 (.int n) && PyData.canLayAll0 (r.map PyData.int)) = true
    rw [lay_ints r]
    rfl
theorem mix_ints : ∀ ns : List Int, noMixAll (ns.map PyData.int) (ns.map PyData.int) = true
  | [] => rfl
  | n :: r => by
    show (noMix (.int n) (.int n) && noMixAll (r.map PyData.int) (r.map PyData.int)) = true
    rw [mix_ints r]
    rfl
theorem same_ints : ∀ ns : List Int, Spec.sameAll (ns.map PyData.int) (ns.map PyData.int) = true
  | [] => rfl
  | n :: r => by
    show (Spec.same (.int n) (.int n) && Spec.sameAll (r.map PyData.int) (r.map PyData.int)) = true
    rw [same_ints r, show Spec.same (.int n) (.int n) = (n == n) from rfl, beq_self_eq_true]
    rfl
theorem depth_ints : ∀ ns : List Int, PyData.depthAll (ns.map PyData.int) ≤ 1
  | [] => by
    show PyData.depthAll [] ≤ 1
    decide
  | n :: r => by
    have ih := depth_ints r
    show max (PyData.depth (.int n)) (PyData.depthAll (r.map PyData.int)) ≤ 1
    have e : PyData.depth (.int n) ≤ 1 := Nat.zero_le 1
    omega
abbrev two (ns ms : List Int) : PyData := .list [.list (ns.map PyData.int), .list (ms.map PyData.int)]
theorem two_shaped (ns ms : List Int) : shaped (two ns ms) = true := by
  unfold shaped
  have e1 : (two ns ms).canLay0 = true := by
    show (PyData.canLayAll0 (ns.map PyData.int) && (PyData.canLayAll0 (ms.map PyData.int) && true)) = true
    rw [lay_ints, lay_ints]
    rfl
  have e2 : (two ns ms).depth ≤ 64 := by
    have h1 := depth_ints ns
    have h2 := depth_ints ms
    show max (PyData.depthAll (ns.map PyData.int) + 1) (max (PyData.depthAll (ms.map PyData.int) + 1) 0) + 1 ≤ 64
    omega
  rw [e1, decide_eq_true e2]
  rfl
theorem two_mix (ns ms : List Int) : noMix (two ns ms) (two ns ms) = true := by
  show (noMixAll (ns.map PyData.int) (ns.map PyData.int) && (noMixAll (ms.map PyData.int) (ms.map PyData.int) && true)) = true
  rw [mix_ints, mix_ints]
  rfl
theorem two_same (ns ms : List Int) : Spec.same (two ns ms) (two ns ms) = true := by
  show (Spec.sameAll (ns.map PyData.int) (ns.map PyData.int) && (Spec.sameAll (ms.map PyData.int) (ms.map PyData.int) && true)) = true
  rw [same_ints, same_ints]
  rfl
section
variable {P : Program} {w : World} {K : Frag} {mg : Str → Option Value} {base : Heap}
def lawN : List Str := ["script", "cell", "state", "many", "looks", "top", "others", "kind", "handed", "found", "one", "other", "told"]
theorem scLaw : FnScope lawN ["script"] (defScope sLaw) := ⟨rfl, rfl, rfl, by decide +kernel, rfl, by decide +kernel, by decide +kernel⟩
theorem ok_law {f : Addr} {fd : FuncData} (F : Fun K "law" "law" sLaw f fd) (T : Txt K mg) (hF : Has P w K mg base 2 "_law_folded" ["script", "many"] (spFold K)) (hS : Has P w K mg base 1 "_law_state" ["cell"] spState) (hN : Has P w K mg base 1 "_law_next" ["state", "many"] spNext)
    (hG : Has P w K mg base 2 "_law_great" ["state", "top"] spGreat) (hL : Has P w K mg base 3 "_law_looks" ["state", "many", "most"] spLooks) (hU : Has P w K mg base 2 "_law_unlike" ["many", "looks", "kind"] (spUnlike K))
    (hW : Has P w K mg base 1 "_law_words" ["many", "looks", "kind"] (spRing K)) (hR : Has P w K mg base 2 "ring_known" ["many", "looks", "kind"] (spRing K)) (hFa : Has P w K mg base 1 "_law_far" ["many", "one", "other"] spFar) (hRF : Has P w K mg base 1 "ring_far" ["many", "one", "other"] spFar) : FnOk P w K mg base CX0 4 f fd ["script"] (spLaw K) := by
  refine F.ok scLaw (fun vs H Q E h => ?_) (fun cdv A outer s H vs Q E hr h => ?_)
  · obtain ⟨a, ns, rfl, _⟩ := h
    rfl
  · obtain ⟨a, ns, rfl, hA, hlen, q⟩ := h
    have hr1 : Room 1 _ := hr.mono (by decide)
    have hr2 : Room 2 _ := hr.mono (by decide)
    have hu := hr.units
    refine ⟨_, pss_cons (ps_for PassesOwn.never rfl (pi_list (pe_has hF hr2 rfl (pa_cons (pv 0) (pa_cons pe_int pa_nil)))) (pg_name (i := 1) scLaw.nd rfl (Or.inl rfl))
        (pss_cons (ps_set (i := 2) scLaw.nd rfl (Or.inl rfl) (pe_has hS hr1 rfl (pa_cons (pv 1) pa_nil)))
        (pss_cons (ps_set (i := 3) scLaw.nd rfl (Or.inl rfl) (pe_op op_add pe_int (pe_has hN hr1 rfl (pa_cons (pv 2) (pa_cons pe_int pa_nil)))))
        (pss_cons (ps_set (i := 4) scLaw.nd rfl (Or.inl rfl) (pe_has hL hr rfl (pa_cons (pv 2) (pa_cons (pv 3) (pa_cons pe_int pa_nil)))))
        (pss_cons (ps_set (i := 5) scLaw.nd rfl (Or.inl rfl) (pe_op op_add pe_int (pe_has hG hr2 rfl (pa_cons (pv 2) (pa_cons (pe_ix ix_list (pe_lst (pa_cons pe_int (pa_cons (pe_op op_pow pe_int pe_int) (pa_cons (pe_op op_pow pe_int pe_int) (pa_cons (pe_op op_sub (pe_op op_pow pe_int pe_int) pe_int) pa_nil))))) (pe_has hN hr1 rfl (pa_cons (pv 2) (pa_cons pe_int pa_nil))) (fun _ _ => rfl)) pa_nil)))))
        (pss_cons (ps_set (i := 6) scLaw.nd rfl (Or.inl rfl) (pe_has hL hr rfl (pa_cons (pv 2) (pa_cons (pv 5) (pa_cons (pe_ix ix_list (pe_lst (pa_cons pe_int (pa_cons pe_int (pa_cons pe_int (pa_cons pe_int pa_nil))))) (pe_has hN hr1 rfl (pa_cons (pv 2) (pa_cons pe_int pa_nil))) (fun _ _ => rfl)) pa_nil)))))
        (pss_cons (ps_for PassesOwn.never rfl (pi_list (pe_lst (pa_cons pe_str (pa_cons pe_str (pa_cons pe_str pa_nil))))) (pg_name (i := 7) scLaw.nd rfl (Or.inl rfl))
          (pss_cons (ps_set (i := 8) scLaw.nd rfl (Or.inl rfl) (pe_lst (pa_cons (pe_callTy call_list_of (by rfl) T.list PyProof.Rows.boot_list (pa_cons (pv 4) pa_nil)) (pa_cons (pe_callTy call_list_of (by rfl) T.list PyProof.Rows.boot_list (pa_cons (pv 6) pa_nil)) pa_nil))))
          (pss_cons (ps_set (i := 9) scLaw.nd rfl (Or.inl rfl) (pe_lst (pa_cons (pe_has hR hr2 rfl (pa_cons (pv 3) (pa_cons (pe_ix ix_list (pv 8) pe_int (fun _ _ => rfl)) (pa_cons (pv 7) pa_nil)))) (pa_cons (pe_has hR hr2 rfl (pa_cons (pv 5) (pa_cons (pe_ix ix_list (pv 8) pe_int (fun _ _ => rfl)) (pa_cons (pv 7) pa_nil)))) pa_nil))))
          (pss_cons (ps_if (PW.pt (pw_or (pt_not (pt_val (pe_callB call_isT (by rfl) T.isi PyProof.Rows.boot_isinstance (pa_cons (pe_ix ix_list (pv 9) pe_int (fun _ _ => rfl)) (pa_cons (pe_bltn (v := .ty "bool") rfl T.bool PyProof.Rows.boot_bool rfl) pa_nil)))))
            (pw_or (pt_not (pt_val (pe_callB call_isT (by rfl) T.isi PyProof.Rows.boot_isinstance (pa_cons (pe_ix ix_list (pv 9) pe_int (fun _ _ => rfl)) (pa_cons (pe_bltn (v := .ty "bool") rfl T.bool PyProof.Rows.boot_bool rfl) pa_nil)))))
            (pw_or1 (pt_cmpR (op_neD hu) (pv 8) (pe_lst (pa_cons (pv 4) (pa_cons (pv 6) pa_nil))) (nomark _)))))) (pss_one (ps_ret pe_bl)) pss_nil)
          (pss_cons (ps_if (pt_cmpR (op_neD hu) (pv 9) (pe_lst (pa_cons (pe_has hU hr2 rfl (pa_cons (pv 3) (pa_cons (pv 4) (pa_cons (pv 7) pa_nil)))) (pa_cons (pe_has hW hr1 rfl (pa_cons (pv 5) (pa_cons (pv 6) (pa_cons (pv 7) pa_nil)))) pa_nil))) (nomark _)) (pss_one (ps_ret pe_bl)) pss_nil)
          (pss_one (ps_if (pt_cmpR op_ne (pe_ix ix_list (pv 9) pe_int (fun _ _ => rfl)) (pe_has hW hr1 rfl (pa_cons (pv 3) (pa_cons (pv 4) (pa_cons (pv 7) pa_nil)))) (nomark _)) (pss_one (ps_ret pe_bl)) pss_nil)))))))
        (pss_one (ps_for PassesOwn.never rfl (pi_list (pe_op op_cat (pv 6) (pe_lst (pa_cons pe_int pa_nil)))) (pg_name (i := 10) scLaw.nd rfl (Or.inl rfl))
          (pss_cons (ps_set (i := 11) scLaw.nd rfl (Or.inl rfl) (pe_has hG hr2 rfl (pa_cons (pv 2) (pa_cons (pv 5) pa_nil))))
          (pss_cons (ps_set (i := 12) scLaw.nd rfl (Or.inl rfl) (pe_has hRF hr1 rfl (pa_cons (pv 5) (pa_cons (pv 10) (pa_cons (pv 11) pa_nil)))))
          (pss_one (ps_if (PW.pt (pw_or (pt_val (pe_callB call_isT (by rfl) T.isi PyProof.Rows.boot_isinstance (pa_cons (pv 12) (pa_cons (pe_bltn (v := .ty "bool") rfl T.bool PyProof.Rows.boot_bool rfl) pa_nil))))
            (pw_or (pt_cmpR op_ne (pv 12) (pe_has hFa hr1 rfl (pa_cons (pv 5) (pa_cons (pv 10) (pa_cons (pv 11) pa_nil)))) (nomark _))
            (pw_or1 (pt_cmpR op_ne (pe_has hRF hr1 rfl (pa_cons (pv 5) (pa_cons (pv 11) (pa_cons (pv 10) pa_nil)))) (pv 12) (nomark _)))))) (pss_one (ps_ret pe_bl)) pss_nil)))))))))))))
      (pss_one (ps_ret pe_bl)), ?_⟩
    refine ⟨_, rfl, a, ns, rfl, hA, hlen, fun cs p H1 s1 hp hcs => ⟨p, rfl, ⟨_, SqL.of hp⟩, for_list (xs := cs.map V.int) (fun i σ H2 => ∃ v1 v2 v3 v4 v5 v6 v7 v8 v9 v10 v11 v12 : Option V, σ = [some (.ref a), v1, v2, v3, v4, v5, v6, v7, v8, v9, v10, v11, v12] ∧ Same H1 H2) ⟨none, none, none, none, none, none, none, none, none, none, none, none, rfl, Same.refl _⟩ ?_ ?_ ?_⟩⟩
    · rintro i σ H2 hi ⟨_, _, _, _, _, _, _, _, _, _, _, _, _, s2⟩
      exact SqL.of (s2 _ _ hp)
    · rintro i x σ H2 hx ⟨v1, v2, v3, v4, v5, v6, v7, v8, v9, v10, v11, v12, rfl, s2⟩
      obtain ⟨c, rfl⟩ : ∃ c, x = .int c := by
        rw [List.getElem?_map] at hx
        cases e : cs[i]? with
        | none => rw [e] at hx; cases hx
        | some c => rw [e] at hx; cases hx; exact ⟨c, rfl⟩
      refine ⟨_, rfl, c, rfl, fun t o ht st3 => ?_⟩
      refine ⟨_, rfl, t, 8, rfl, (by decide), (by decide), st3, fun r1 H4 r10 r11 st4 mv4 => ⟨_, _, rfl, rfl, ?_⟩⟩
      -- looks
      refine ⟨_, rfl, _, rfl, t, 3 + r1, 4, rfl, (by omega), (by decide), st4, fun ls p1 H5 ris1 len1 np1 st5 mv5 e5 => ?_⟩
      -- top
      refine ⟨_, rfl, _, _, rfl, rfl, ⟨by decide, by decide, by decide⟩, _, _, rfl, rfl, ⟨by decide, by decide, by decide⟩, _, _, rfl, rfl, ⟨by decide, by decide, by decide⟩, _, _, rfl, rfl, (by show 4 ≤ sizeLine; decide), fun u hu2 => ?_⟩
      have nu : u ≠ t := st_ne st5 hu2
      refine ⟨_, rfl, t, 4, rfl, (by decide), (by decide), st_new st5 hu2, fun r3 H6 r30 r31 st6 mv6 => ?_⟩
      obtain ⟨z1, ez1, z10⟩ := pickT r30 r31
      refine ⟨u, _, _, .int z1, rfl, rfl, SqL.of (mv6 _ _ nu upd_same), ez1, t, z1, rfl, z10, st6, fun g1 H7 g10 g11 st7 mv7 => ⟨_, _, rfl, rfl, ?_⟩⟩
      -- others
      refine ⟨_, rfl, _, rfl, (by show 4 ≤ sizeLine; decide), fun u3 hu3 => ?_⟩
      have nu3 : u3 ≠ t := st_ne st7 hu3
      refine ⟨_, rfl, t, 4, rfl, (by decide), (by decide), st_new st7 hu3, fun r4 H8 r40 r41 st8 mv8 => ?_⟩
      obtain ⟨mo, ez2, mo20⟩ := pickO r40 r41
      refine ⟨u3, _, _, .int mo, rfl, rfl, SqL.of (mv8 _ _ nu3 upd_same), ez2, t, 3 + g1, mo, rfl, (by omega), mo20, st8, fun os p2 H9 ris2 len2 np2 st9 mv9 e9 => ?_⟩
      have k1 : H9 p1 = some (.lst (ls.map V.int)) := mv9 _ _ np1 (mv8 _ _ np1 (new_same hu3 _ _ (mv7 _ _ np1 (mv6 _ _ np1 (new_same hu2 _ _ e5)))))
      have mvz : Mv t H2 H9 := ((((((((Mv.of (new_same ht)).trans mv4).trans mv5).trans (Mv.of (new_same hu2))).trans mv6).trans mv7).trans (Mv.of (new_same hu3))).trans mv8).trans mv9
      have s9 : Same H2 H9 := mvz.same ht
      obtain ⟨n1, rfl⟩ := Int.eq_ofNat_of_zero_le r10
      have c1 : (3 : Int) + (n1 : Int) = ((3 + n1 : Nat) : Int) := by omega
      -- the kinds
      refine ⟨(by show 3 ≤ sizeLine; decide), fun kl hkl => ⟨kl, rfl, ⟨_, SqL.of upd_same⟩, for_list (xs := [.str "places", .str "ties", .str "all"]) (fun j σ H10 => ∃ w7 w8 w9 : Option V, σ = [some (.ref a), some (.int c), some (.ref t), some (.int (3 + (n1 : Int))), some (.ref p1), some (.int (3 + g1)), some (.ref p2), w7, w8, w9, v10, v11, v12] ∧ Same (upd H9 kl (.lst [.str "places", .str "ties", .str "all"])) H10) ⟨_, _, _, rfl, Same.refl _⟩ ?_ ?_ ?_⟩⟩
      · rintro j σ H10 hj ⟨_, _, _, _, s10⟩
        exact SqL.of (s10 _ _ upd_same)
      · rintro j x σ H10 hx2 ⟨w7, w8, w9, rfl, s10⟩
        obtain ⟨k, hk, rfl⟩ : ∃ k, k ∈ kinds ∧ x = .str k := by
          match j, hx2 with
          | 0, hx2 => cases hx2; exact ⟨_, by unfold kinds; simp, rfl⟩
          | 1, hx2 => cases hx2; exact ⟨_, by unfold kinds; simp, rfl⟩
          | 2, hx2 => cases hx2; exact ⟨_, by unfold kinds; simp, rfl⟩
        have sA := (new_same (o := .lst [.str "places", .str "ties", .str "all"]) hkl).trans s10
        have a1 := sA _ _ k1
        have a2 := sA _ _ e9
        -- handed
        refine ⟨_, rfl, p1, _, rfl, .inl (SqL.of a1), fun l1 hl1 => ⟨_, rfl, p2, _, rfl, .inl (SqL.of (new_same hl1 _ _ a2)), fun l2 hl2 => ⟨(by show 2 ≤ sizeLine; decide), fun hd hhd => ?_⟩⟩⟩
        have sB := ((new_same (o := .lst (ls.map V.int)) hl1).trans (new_same (o := .lst (os.map V.int)) hl2)).trans (new_same (o := .lst [.ref l1, .ref l2]) hhd)
        have b1 := new_same (o := .lst [.ref l1, .ref l2]) hhd _ _ (new_same (o := .lst (os.map V.int)) hl2 _ _ (upd_same : upd H10 l1 (.lst (ls.map V.int)) l1 = _))
        have b2 := new_same (o := .lst [.ref l1, .ref l2]) hhd _ _ (upd_same : upd (upd H10 l1 (.lst (ls.map V.int))) l2 (.lst (os.map V.int)) l2 = _)
        have b3 : upd (upd (upd H10 l1 (.lst (ls.map V.int))) l2 (.lst (os.map V.int))) hd (.lst [.ref l1, .ref l2]) hd = some (.lst [.ref l1, .ref l2]) := upd_same
        -- found
        refine ⟨_, rfl, _, rfl, hd, _, 0, .ref l1, rfl, rfl, SqL.of b3, atI_nat (j := 0) rfl, _, rfl, 3 + (n1 : Int), l1, ls, k, rfl, (by omega), SqL.of b1, (by omega), fun H11 s11 => ⟨_, rfl, _, rfl, hd, _, 1, .ref l2, rfl, rfl, SqL.of (s11 _ _ b3), atI_nat (j := 1) rfl, _, rfl, 3 + g1, l2, os, k, rfl, (by omega), SqL.of (s11 _ _ b2), (by omega), fun H12 s12 => ⟨(by show 2 ≤ sizeLine; decide), fun fo hfo => ?_⟩⟩⟩
        have f1 : upd H12 fo (.lst [.bl (rk (3 + (n1 : Int)) ls k), .bl (rk (3 + g1) os k)]) fo = some (.lst [.bl (rk (3 + (n1 : Int)) ls k), .bl (rk (3 + g1) os k)]) := upd_same
        have sF := new_same (o := .lst [.bl (rk (3 + (n1 : Int)) ls k), .bl (rk (3 + g1) os k)]) hfo
        have sC := (s11.trans s12).trans sF
        have sD := sB.trans sC
        generalize hH13 : upd H12 fo (.lst [.bl (rk (3 + (n1 : Int)) ls k), .bl (rk (3 + g1) os k)]) = H13 at f1 sF sC sD
        have d1 := sC _ _ b1
        have d2 := sC _ _ b2
        have d3 := sC _ _ b3
        have d4 := sD _ _ a1
        have d5 := sD _ _ a2
        subst hH13
        refine ⟨_, rfl, fo, _, 0, .bl (rk (3 + (n1 : Int)) ls k), rfl, rfl, SqL.of f1, atI_nat (j := 0) rfl, .bl (rk (3 + (n1 : Int)) ls k), .ty "bool", _, true, rfl, .bl _, (fun u ru => by cases ru; exact T.kb), true, rfl, ?_⟩
        refine iteF ?_
        refine ⟨_, rfl, fo, _, 1, .bl (rk (3 + g1) os k), rfl, rfl, SqL.of f1, atI_nat (j := 1) rfl, .bl (rk (3 + g1) os k), .ty "bool", _, true, rfl, .bl _, (fun u ru => by cases ru; exact T.kb), true, rfl, ?_⟩
        refine iteF ?_
        refine ⟨_, rfl, _, rfl, _, rfl, (by show 2 ≤ sizeLine; decide), fun nl hnl => ?_⟩
        have sG := new_same (o := .lst [.ref p1, .ref p2]) hnl
        refine ⟨two ls os, two ls os, .lst (SqL.of (sG _ _ d3)) (.cons (.lst (SqL.of (sG _ _ d1)) (rd_ints ls)) (.cons (.lst (SqL.of (sG _ _ d2)) (rd_ints os)) .nil)), .lst (SqL.of upd_same) (.cons (.lst (SqL.of (sG _ _ d4)) (rd_ints ls)) (.cons (.lst (SqL.of (sG _ _ d5)) (rd_ints os)) .nil)), two_shaped ls os, two_shaped ls os, two_mix ls os, _, rfl, ?_⟩
        show if (!Spec.same (two ls os) (two ls os)) = true then _ else _
        rw [two_same]
        refine iteF ?_
        -- found != [unlike, words]
        refine ⟨_, rfl, _, rfl, _, rfl, _, rfl, 3 + n1, p1, ls, k, (by show [V.int (3 + (n1 : Int)), V.ref p1, V.str k] = _; rw [c1]), (by omega), (by omega), SqL.of (sG _ _ d4), (by omega), hk, fun H14 s14 => ⟨_, rfl, _, rfl, _, rfl, 3 + g1, p2, os, k, rfl, (by omega), SqL.of (s14 _ _ (sG _ _ d5)), (by omega), fun H15 s15 => ⟨(by show 2 ≤ sizeLine; decide), fun nm hnm => ?_⟩⟩⟩
        have sm := small (m := 3 + n1) (by omega) (by omega) (ls := ls) (by rw [← c1]; exact ris1) len1 hk
        rw [← c1] at sm
        rw [sm]
        have sH := (s14.trans s15).trans (new_same (o := .lst [.bl (rk (3 + (n1 : Int)) ls k), .bl (rk (3 + g1) os k)]) hnm)
        have g2 := sH _ _ (sG _ _ f1)
        have rb : ∀ (H : Hp) (x y : Bool), RdDs K H [V.bl x, V.bl y] [.bool x, .bool y] := fun _ x y => .cons (.bl x) (.cons (.bl y) .nil)
        refine ⟨.list [.bool (rk (3 + (n1 : Int)) ls k), .bool (rk (3 + g1) os k)], .list [.bool (rk (3 + (n1 : Int)) ls k), .bool (rk (3 + g1) os k)], .lst (SqL.of g2) (rb _ _ _), .lst (SqL.of upd_same) (rb _ _ _), rfl, rfl, rfl, _, rfl, ?_⟩
        have e : ∀ x y : Bool, (!Spec.same (.list [.bool x, .bool y]) (.list [.bool x, .bool y])) = false := fun x y => by
          cases x <;> cases y <;> rfl
        show if (!Spec.same (.list [.bool (rk (3 + (n1 : Int)) ls k), .bool (rk (3 + g1) os k)]) (.list [.bool (rk (3 + (n1 : Int)) ls k), .bool (rk (3 + g1) os k)])) = true then _ else _
        rw [e]
        refine iteF ?_
        have sZ := (sD.trans sG).trans sH
        refine ⟨_, rfl, fo, _, 0, .bl (rk (3 + (n1 : Int)) ls k), rfl, rfl, SqL.of g2, atI_nat (j := 0) rfl, _, rfl, _, rfl, _, rfl, 3 + (n1 : Int), p1, ls, k, rfl, (by omega), SqL.of (sH _ _ (sG _ _ d4)), (by omega), fun H16 s16 => ⟨rfl, _, rfl, ?_⟩⟩
        refine iteNS rfl ?_
        exact ⟨_, _, _, rfl, s10.trans (sZ.trans s16)⟩
      · rintro σ H10 ⟨w7, w8, w9, rfl, s10⟩
        have sK := (new_same (o := .lst [.str "places", .str "ties", .str "all"]) hkl).trans s10
        have st10 : StA H10 t := by
          obtain ⟨x, y, e, r⟩ := st9
          exact ⟨x, y, sK _ _ e, r⟩
        have e10 := sK _ _ e9
        -- the fars
        refine ⟨_, rfl, (by show 1 ≤ sizeLine; decide), fun zl hzl => ?_⟩
        have sL := new_same (o := .lst [.int 0]) hzl
        refine ⟨p2, zl, os.map V.int, [.int 0], rfl, rfl, sL _ _ e10, upd_same, (by rw [List.length_map]; exact Nat.le_trans (show os.length + 1 ≤ 21 by omega) (by decide)), fun zc hzc => ?_⟩
        have sM := new_same (o := .lst (os.map V.int ++ [.int 0])) hzc
        have stM : StA (upd (upd H10 zl (.lst [.int 0])) zc (.lst (os.map V.int ++ [.int 0]))) t := st_new (st_new st10 hzl) hzc
        have nzt : zc ≠ t := st_ne (st_new st10 hzl) hzc
        have sP := (sK.trans sL).trans sM
        have ez : os.map V.int ++ [.int 0] = (os ++ [0]).map V.int := by rw [List.map_append]; rfl
        refine ⟨zc, rfl, ⟨_, SqL.of upd_same⟩, ?_⟩
        refine for_list (xs := os.map V.int ++ [.int 0]) (fun j σ H20 => ∃ w10 w11 w12 : Option V, σ = [some (.ref a), some (.int c), some (.ref t), some (.int (3 + (n1 : Int))), some (.ref p1), some (.int (3 + g1)), some (.ref p2), w7, w8, w9, w10, w11, w12] ∧ StA H20 t ∧ Mv t H9 H20 ∧ H20 zc = some (.lst (os.map V.int ++ [.int 0]))) ⟨_, _, _, rfl, stM, Mv.of sP, upd_same⟩ ?_ ?_ ?_
        · rintro j σ H20 hj ⟨_, _, _, _, _, _, ez2⟩
          exact SqL.of ez2
        · rintro j x σ H20 hx2 ⟨w10, w11, w12, rfl, st20, mv20, ez2⟩
          obtain ⟨o1, rfl⟩ : ∃ o1, x = .int o1 := by
            rw [ez, List.getElem?_map] at hx2
            cases e : (os ++ [0])[j]? with
            | none => rw [e] at hx2; cases hx2
            | some o1 => rw [e] at hx2; cases hx2; exact ⟨o1, rfl⟩
          have t0 : (0 : Int) < 3 + g1 := by omega
          refine ⟨_, rfl, _, rfl, t, 3 + g1, rfl, t0, st20, fun oth H21 _ _ st21 mv21 => ?_⟩
          refine ⟨_, rfl, _, rfl, _, rfl, 3 + g1, o1, oth, rfl, t0, ?_⟩
          refine ⟨_, rfl, .int (rf (3 + g1) o1 oth), .ty "bool", _, false, rfl, .int _, (fun u ru => by cases ru; exact T.ki), false, rfl, ?_⟩
          refine iteF ?_
          refine ⟨_, rfl, _, rfl, _, rfl, _, rfl, 3 + g1, o1, oth, rfl, t0, rfl, _, rfl, ?_⟩
          refine iteNS rfl ?_
          refine ⟨_, rfl, _, rfl, _, rfl, 3 + g1, oth, o1, rfl, t0, _, rfl, rfl, _, rfl, ?_⟩
          refine iteNS (by rw [rf_sym t0]) ?_
          exact ⟨_, _, _, rfl, st21, mv20.trans mv21, mv21 _ _ nzt ez2⟩
        · rintro σ H20 ⟨w10, w11, w12, rfl, st20, mv20, ez2⟩
          exact ⟨_, _, _, _, _, _, _, _, _, _, _, _, rfl, s2.trans ((mvz.trans mv20).same ht)⟩
    · rintro σ H2 ⟨_, _, _, _, _, _, _, _, _, _, _, _, rfl, s2⟩
      exact q _
end
end K31

set_option Elab.async false
set_option linter.all false
set_option maxRecDepth 100000
set_option maxHeartbeats 4000000
namespace K31
open PySem L2 PySem.W
theorem all_mk {l : OpenLaw} {w : World} {K : Frag} {h : Heap} {mg : Str → Option Value} {fa fSp fRi fRf fAt fFo fSt fNe fGa fLo fFa fUn fWo fLa : Addr} (X : K.In h) (G : h.Ns mainGlobals mg) (hfa : mg "law" = some (.ref fa))
    {odSp anSp : Option Addr} {slSp : Array (Option Value)} {ocSp kVSp dcSp pmSp cdSp ctSp : Value}
    {odRi anRi : Option Addr} {slRi : Array (Option Value)} {ocRi kVRi dcRi pmRi cdRi ctRi : Value}
    {odRf anRf : Option Addr} {slRf : Array (Option Value)} {ocRf kVRf dcRf pmRf cdRf ctRf : Value}
    {odAt anAt : Option Addr} {slAt : Array (Option Value)} {ocAt kVAt dcAt pmAt cdAt ctAt : Value}
    {odFo anFo : Option Addr} {slFo : Array (Option Value)} {ocFo kVFo dcFo pmFo cdFo ctFo : Value}
    {odSt anSt : Option Addr} {slSt : Array (Option Value)} {ocSt kVSt dcSt pmSt cdSt ctSt : Value}
    {odNe anNe : Option Addr} {slNe : Array (Option Value)} {ocNe kVNe dcNe pmNe cdNe ctNe : Value}
    {odGa anGa : Option Addr} {slGa : Array (Option Value)} {ocGa kVGa dcGa pmGa cdGa ctGa : Value}
    {odLo anLo : Option Addr} {slLo : Array (Option Value)} {ocLo kVLo dcLo pmLo cdLo ctLo : Value}
    {odFa anFa : Option Addr} {slFa : Array (Option Value)} {ocFa kVFa dcFa pmFa cdFa ctFa : Value}
    {odUn anUn : Option Addr} {slUn : Array (Option Value)} {ocUn kVUn dcUn pmUn cdUn ctUn : Value}
    {odWo anWo : Option Addr} {slWo : Array (Option Value)} {ocWo kVWo dcWo pmWo cdWo ctWo : Value}
    {odLa anLa : Option Addr} {slLa : Array (Option Value)} {ocLa kVLa dcLa pmLa cdLa ctLa : Value}
    (nSp : nsIn K mainGlobals "ring_steps" = some (some (.ref fSp)))
    (lSp : K.lookup fSp = some ⟨ocSp, odSp, .func (fnOf "ring_steps" "ring_steps" (defArgs sSteps) (defBody sSteps) (defScope sSteps) .none kVSp dcSp pmSp anSp cdSp ctSp), slSp⟩)
    (eSp : codeIn K cdSp "ring_steps" = true)
    (pSp : keepIn K (.ref fSp) = true)
    (nRi : nsIn K mainGlobals "ring_known" = some (some (.ref fRi)))
    (lRi : K.lookup fRi = some ⟨ocRi, odRi, .func (fnOf "ring_known" "ring_known" (defArgs sRing) (defBody sRing) (defScope sRing) .none kVRi dcRi pmRi anRi cdRi ctRi), slRi⟩)
    (eRi : codeIn K cdRi "ring_known" = true)
    (pRi : keepIn K (.ref fRi) = true)
    (nRf : nsIn K mainGlobals "ring_far" = some (some (.ref fRf)))
    (lRf : K.lookup fRf = some ⟨ocRf, odRf, .func (fnOf "ring_far" "ring_far" (defArgs sRFar) (defBody sRFar) (defScope sRFar) .none kVRf dcRf pmRf anRf cdRf ctRf), slRf⟩)
    (eRf : codeIn K cdRf "ring_far" = true)
    (pRf : keepIn K (.ref fRf) = true)
    (nAt : nsIn K mainGlobals "_law_cell_at" = some (some (.ref fAt)))
    (lAt : K.lookup fAt = some ⟨ocAt, odAt, .func (fnOf "_law_cell_at" "_law_cell_at" (defArgs sAt) (defBody sAt) (defScope sAt) .none kVAt dcAt pmAt anAt cdAt ctAt), slAt⟩)
    (eAt : codeIn K cdAt "_law_cell_at" = true)
    (pAt : keepIn K (.ref fAt) = true)
    (nFo : nsIn K mainGlobals "_law_folded" = some (some (.ref fFo)))
    (lFo : K.lookup fFo = some ⟨ocFo, odFo, .func (fnOf "_law_folded" "_law_folded" (defArgs sFold) (defBody sFold) (defScope sFold) .none kVFo dcFo pmFo anFo cdFo ctFo), slFo⟩)
    (eFo : codeIn K cdFo "_law_folded" = true)
    (pFo : keepIn K (.ref fFo) = true)
    (nSt : nsIn K mainGlobals "_law_state" = some (some (.ref fSt)))
    (lSt : K.lookup fSt = some ⟨ocSt, odSt, .func (fnOf "_law_state" "_law_state" (defArgs sState) (defBody sState) (defScope sState) .none kVSt dcSt pmSt anSt cdSt ctSt), slSt⟩)
    (eSt : codeIn K cdSt "_law_state" = true)
    (pSt : keepIn K (.ref fSt) = true)
    (nNe : nsIn K mainGlobals "_law_next" = some (some (.ref fNe)))
    (lNe : K.lookup fNe = some ⟨ocNe, odNe, .func (fnOf "_law_next" "_law_next" (defArgs sNext) (defBody sNext) (defScope sNext) .none kVNe dcNe pmNe anNe cdNe ctNe), slNe⟩)
    (eNe : codeIn K cdNe "_law_next" = true)
    (pNe : keepIn K (.ref fNe) = true)
    (nGa : nsIn K mainGlobals "_law_great" = some (some (.ref fGa)))
    (lGa : K.lookup fGa = some ⟨ocGa, odGa, .func (fnOf "_law_great" "_law_great" (defArgs sGreat) (defBody sGreat) (defScope sGreat) .none kVGa dcGa pmGa anGa cdGa ctGa), slGa⟩)
    (eGa : codeIn K cdGa "_law_great" = true)
    (pGa : keepIn K (.ref fGa) = true)
    (nLo : nsIn K mainGlobals "_law_looks" = some (some (.ref fLo)))
    (lLo : K.lookup fLo = some ⟨ocLo, odLo, .func (fnOf "_law_looks" "_law_looks" (defArgs sLooks) (defBody sLooks) (defScope sLooks) .none kVLo dcLo pmLo anLo cdLo ctLo), slLo⟩)
    (eLo : codeIn K cdLo "_law_looks" = true)
    (pLo : keepIn K (.ref fLo) = true)
    (nFa : nsIn K mainGlobals "_law_far" = some (some (.ref fFa)))
    (lFa : K.lookup fFa = some ⟨ocFa, odFa, .func (fnOf "_law_far" "_law_far" (defArgs sFar) (defBody sFar) (defScope sFar) .none kVFa dcFa pmFa anFa cdFa ctFa), slFa⟩)
    (eFa : codeIn K cdFa "_law_far" = true)
    (pFa : keepIn K (.ref fFa) = true)
    (nUn : nsIn K mainGlobals "_law_unlike" = some (some (.ref fUn)))
    (lUn : K.lookup fUn = some ⟨ocUn, odUn, .func (fnOf "_law_unlike" "_law_unlike" (defArgs sUnlike) (defBody sUnlike) (defScope sUnlike) .none kVUn dcUn pmUn anUn cdUn ctUn), slUn⟩)
    (eUn : codeIn K cdUn "_law_unlike" = true)
    (pUn : keepIn K (.ref fUn) = true)
    (nWo : nsIn K mainGlobals "_law_words" = some (some (.ref fWo)))
    (lWo : K.lookup fWo = some ⟨ocWo, odWo, .func (fnOf "_law_words" "_law_words" (defArgs sWords) (defBody sWords) (defScope sWords) .none kVWo dcWo pmWo anWo cdWo ctWo), slWo⟩)
    (eWo : codeIn K cdWo "_law_words" = true)
    (pWo : keepIn K (.ref fWo) = true)
    (nLa : nsIn K mainGlobals "law" = some (some (.ref fLa)))
    (lLa : K.lookup fLa = some ⟨ocLa, odLa, .func (fnOf "law" "law" (defArgs sLaw) (defBody sLaw) (defScope sLaw) .none kVLa dcLa pmLa anLa cdLa ctLa), slLa⟩)
    (eLa : codeIn K cdLa "law" = true)
    (pLa : keepIn K (.ref fLa) = true)
    (zl : nsIn K mainGlobals "len" = some none)
    (zm : nsIn K mainGlobals "min" = some none)
    (zM : nsIn K mainGlobals "max" = some none)
    (zr : nsIn K mainGlobals "range" = some none)
    (zs : nsIn K mainGlobals "set" = some none)
    (zt : nsIn K mainGlobals "tuple" = some none)
    (zi : nsIn K mainGlobals "isinstance" = some none)
    (zx : nsIn K mainGlobals "list" = some none)
    (zo : nsIn K mainGlobals "sorted" = some none)
    (zz : nsIn K mainGlobals "zip" = some none)
    (ze : nsIn K mainGlobals "enumerate" = some none)
    (zb : nsIn K mainGlobals "bool" = some none)
    (kb : kitOne K (.type "bool") (.type "bool") = some true)
    (ki : kitOne K (.type "int") (.type "bool") = some false) :
    ∃ fd : FuncData, (∀ (s : Shared) (v : Value), BindsTo s fd ⟨[v], []⟩ [("script", v)]) ∧ ∀ base : Heap, K.In base → base.Ns mainGlobals mg → FnOk l.prog w K mg base CX0 4 fa fd ["script"] (spLaw K) := by
  have e := hfa.symm.trans (mg_of X G nLa)
  cases e
  have T : Txt K mg := ⟨mg_none_of X G zl, mg_none_of X G zm, mg_none_of X G zM, mg_none_of X G zr, mg_none_of X G zs, mg_none_of X G zt, mg_none_of X G zi, mg_none_of X G zx, mg_none_of X G zo, mg_none_of X G zz, mg_none_of X G ze, mg_none_of X G zb, kb, ki⟩
  have FSp := fun_mk (st := sSteps) lSp eSp pSp
  have FRi := fun_mk (st := sRing) lRi eRi pRi
  have FRf := fun_mk (st := sRFar) lRf eRf pRf
  have FAt := fun_mk (st := sAt) lAt eAt pAt
  have FFo := fun_mk (st := sFold) lFo eFo pFo
  have FSt := fun_mk (st := sState) lSt eSt pSt
  have FNe := fun_mk (st := sNext) lNe eNe pNe
  have FGa := fun_mk (st := sGreat) lGa eGa pGa
  have FLo := fun_mk (st := sLooks) lLo eLo pLo
  have FFa := fun_mk (st := sFar) lFa eFa pFa
  have FUn := fun_mk (st := sUnlike) lUn eUn pUn
  have FWo := fun_mk (st := sWords) lWo eWo pWo
  have FLa := fun_mk (st := sLaw) lLa eLa pLa
  have bSp := FSp.binds (ps := ["many", "looks"]) fun _ _ _ _ _ _ us hl => match us, hl with | [_, _], _ => rfl
  have bRi := FRi.binds (ps := ["many", "looks", "kind"]) fun _ _ _ _ _ _ us hl => match us, hl with | [_, _, _], _ => rfl
  have bRf := FRf.binds (ps := ["many", "one", "other"]) fun _ _ _ _ _ _ us hl => match us, hl with | [_, _, _], _ => rfl
  have bAt := FAt.binds (ps := ["script", "k"]) fun _ _ _ _ _ _ us hl => match us, hl with | [_, _], _ => rfl
  have bFo := FFo.binds (ps := ["script", "many"]) fun _ _ _ _ _ _ us hl => match us, hl with | [_, _], _ => rfl
  have bSt := FSt.binds (ps := ["cell"]) fun _ _ _ _ _ _ us hl => match us, hl with | [_], _ => rfl
  have bNe := FNe.binds (ps := ["state", "many"]) fun _ _ _ _ _ _ us hl => match us, hl with | [_, _], _ => rfl
  have bGa := FGa.binds (ps := ["state", "top"]) fun _ _ _ _ _ _ us hl => match us, hl with | [_, _], _ => rfl
  have bLo := FLo.binds (ps := ["state", "many", "most"]) fun _ _ _ _ _ _ us hl => match us, hl with | [_, _, _], _ => rfl
  have bFa := FFa.binds (ps := ["many", "one", "other"]) fun _ _ _ _ _ _ us hl => match us, hl with | [_, _, _], _ => rfl
  have bUn := FUn.binds (ps := ["many", "looks", "kind"]) fun _ _ _ _ _ _ us hl => match us, hl with | [_, _, _], _ => rfl
  have bWo := FWo.binds (ps := ["many", "looks", "kind"]) fun _ _ _ _ _ _ us hl => match us, hl with | [_, _, _], _ => rfl
  refine ⟨fnOf "law" "law" (defArgs sLaw) (defBody sLaw) (defScope sLaw) .none kVLa dcLa pmLa anLa cdLa ctLa, fun s v => .of_eq rfl, fun base _ _ => ?_⟩
  have HSp : Has l.prog w K mg base 1 "ring_steps" ["many", "looks"] (spSteps K) := ⟨_, _, mg_of X G nSp, pSp, bSp, ok_steps FSp T⟩
  have HRi : Has l.prog w K mg base 2 "ring_known" ["many", "looks", "kind"] (spRing K) := ⟨_, _, mg_of X G nRi, pRi, bRi, ok_ring FRi T HSp⟩
  have HRf : Has l.prog w K mg base 1 "ring_far" ["many", "one", "other"] spFar := ⟨_, _, mg_of X G nRf, pRf, bRf, ok_rfar FRf T⟩
  have HAt : Has l.prog w K mg base 1 "_law_cell_at" ["script", "k"] (spAt K) := ⟨_, _, mg_of X G nAt, pAt, bAt, ok_at FAt T⟩
  have HFo : Has l.prog w K mg base 2 "_law_folded" ["script", "many"] (spFold K) := ⟨_, _, mg_of X G nFo, pFo, bFo, ok_fold FFo T HAt⟩
  have HSt : Has l.prog w K mg base 1 "_law_state" ["cell"] spState := ⟨_, _, mg_of X G nSt, pSt, bSt, ok_state FSt⟩
  have HNe : Has l.prog w K mg base 1 "_law_next" ["state", "many"] spNext := ⟨_, _, mg_of X G nNe, pNe, bNe, ok_next FNe⟩
  have HGa : Has l.prog w K mg base 2 "_law_great" ["state", "top"] spGreat := ⟨_, _, mg_of X G nGa, pGa, bGa, ok_great FGa T HNe⟩
  have HLo : Has l.prog w K mg base 3 "_law_looks" ["state", "many", "most"] spLooks := ⟨_, _, mg_of X G nLo, pLo, bLo, ok_looks FLo T HNe HGa⟩
  have HFa : Has l.prog w K mg base 1 "_law_far" ["many", "one", "other"] spFar := ⟨_, _, mg_of X G nFa, pFa, bFa, ok_far FFa⟩
  have HUn : Has l.prog w K mg base 2 "_law_unlike" ["many", "looks", "kind"] (spUnlike K) := ⟨_, _, mg_of X G nUn, pUn, bUn, ok_unlike FUn T HFa⟩
  have HWo : Has l.prog w K mg base 1 "_law_words" ["many", "looks", "kind"] (spRing K) := ⟨_, _, mg_of X G nWo, pWo, bWo, ok_words FWo T⟩
  exact ok_law FLa T HFo HSt HNe HGa HLo HUn HWo HRi HFa HRf
theorem walk {l : OpenLaw} {q : Program} {loose : List Str} {XP : (Str → Option Value) → Heap → Prop} {YP : World → Heap → Prop} {d : DefRec} {K : Params → Frag} (hn : l.most = some 63) (hdf : d.params.defaults = [])
    (hY : ∀ (w : World) (h : Heap), YP w h → (K w.params).In h)
    (F : ∀ (w : World) (mg : Str → Option Value) (fa : Addr) (h : Heap), (K w.params).In h → h.Ns mainGlobals mg → mg d.name = some (.ref fa) →
      ∃ fd : FuncData, (∀ (s : Shared) (u : Value), BindsTo s fd ⟨[u], []⟩ [("script", u)]) ∧ ∀ base : Heap, (K w.params).In base → base.Ns mainGlobals mg → FnOk l.prog w (K w.params) mg base CX0 4 fa fd ["script"] (spLaw (K w.params))) :
    WalkO q loose XP YP l.row.toRowW d [] (fun f vs => PySem.call f vs) :=
  L2.walk_of (n := 63) (k := 4) (x := "script") (CX := fun _ => CX0) (sp := fun w => spLaw (K w.params)) hn (by decide) hdf ⟨rfl, by decide, by decide⟩ hY F (fun _ _ a ns hl _ hS => ⟨a, ns, rfl, hS, hl, fun _ => rfl⟩) fun _ _ _ _ _ z => z
end K31
open PySem PySem.W PyProof.Rows
set_option maxRecDepth 100000 in
set_option maxHeartbeats 0 in
theorem PySem.Challenge.cw_farhail_k31_rings_known_at_once_holds : PySem.Challenge.rw_farhail_k31_rings_known_at_once.Holds := by
  w_on; o_law; k_head; (case hw => w_witness2)
  k_fill
  refine K31.walk (l := PySem.Challenge.rw_farhail_k31_rings_known_at_once) rfl rfl (fun w h Y => PySem.W.kIn_of Y) ?F
  case F =>
    intro w mg fa h KX G hmg
    refine' K31.all_mk KX G hmg ?nSp ?lSp ?eSp ?pSp ?nRi ?lRi ?eRi ?pRi ?nRf ?lRf ?eRf ?pRf ?nAt ?lAt ?eAt ?pAt ?nFo ?lFo ?eFo ?pFo ?nSt ?lSt ?eSt ?pSt ?nNe ?lNe ?eNe ?pNe ?nGa ?lGa ?eGa ?pGa ?nLo ?lLo ?eLo ?pLo ?nFa ?lFa ?eFa ?pFa ?nUn ?lUn ?eUn ?pUn ?nWo ?lWo ?eWo ?pWo ?nLa ?lLa ?eLa ?pLa ?zl ?zm ?zM ?zr ?zs ?zt ?zi ?zx ?zo ?zz ?ze ?zb ?kb ?ki
    (case nSp => first | k_is | kernel_rfl)
    (case lSp => first | k_is | kernel_rfl)
    (case eSp => first | k_is | kernel_rfl)
    (case pSp => first | k_is | kernel_rfl)
    (case nRi => first | k_is | kernel_rfl)
    (case lRi => first | k_is | kernel_rfl)
    (case eRi => first | k_is | kernel_rfl)
    (case pRi => first | k_is | kernel_rfl)
    (case nRf => first | k_is | kernel_rfl)
    (case lRf => first | k_is | kernel_rfl)
    (case eRf => first | k_is | kernel_rfl)
    (case pRf => first | k_is | kernel_rfl)
    (case nAt => first | k_is | kernel_rfl)
    (case lAt => first | k_is | kernel_rfl)
    (case eAt => first | k_is | kernel_rfl)
    (case pAt => first | k_is | kernel_rfl)
    (case nFo => first | k_is | kernel_rfl)
    (case lFo => first | k_is | kernel_rfl)
    (case eFo => first | k_is | kernel_rfl)
    (case pFo => first | k_is | kernel_rfl)
    (case nSt => first | k_is | kernel_rfl)
    (case lSt => first | k_is | kernel_rfl)
    (case eSt => first | k_is | kernel_rfl)
    (case pSt => first | k_is | kernel_rfl)
    (case nNe => first | k_is | kernel_rfl)
    (case lNe => first | k_is | kernel_rfl)
    (case eNe => first | k_is | kernel_rfl)
    (case pNe => first | k_is | kernel_rfl)
    (case nGa => first | k_is | kernel_rfl)
    (case lGa => first | k_is | kernel_rfl)
    (case eGa => first | k_is | kernel_rfl)
    (case pGa => first | k_is | kernel_rfl)
    (case nLo => first | k_is | kernel_rfl)
    (case lLo => first | k_is | kernel_rfl)
    (case eLo => first | k_is | kernel_rfl)
    (case pLo => first | k_is | kernel_rfl)
    (case nFa => first | k_is | kernel_rfl)
    (case lFa => first | k_is | kernel_rfl)
    (case eFa => first | k_is | kernel_rfl)
    (case pFa => first | k_is | kernel_rfl)
    (case nUn => first | k_is | kernel_rfl)
    (case lUn => first | k_is | kernel_rfl)
    (case eUn => first | k_is | kernel_rfl)
    (case pUn => first | k_is | kernel_rfl)
    (case nWo => first | k_is | kernel_rfl)
    (case lWo => first | k_is | kernel_rfl)
    (case eWo => first | k_is | kernel_rfl)
    (case pWo => first | k_is | kernel_rfl)
    (case nLa => first | k_is | kernel_rfl)
    (case lLa => first | k_is | kernel_rfl)
    (case eLa => first | k_is | kernel_rfl)
    (case pLa => first | k_is | kernel_rfl)
    (case zl => first | k_is | kernel_rfl)
    (case zm => first | k_is | kernel_rfl)
    (case zM => first | k_is | kernel_rfl)
    (case zr => first | k_is | kernel_rfl)
    (case zs => first | k_is | kernel_rfl)
    (case zt => first | k_is | kernel_rfl)
    (case zi => first | k_is | kernel_rfl)
    (case zx => first | k_is | kernel_rfl)
    (case zo => first | k_is | kernel_rfl)
    (case zz => first | k_is | kernel_rfl)
    (case ze => first | k_is | kernel_rfl)
    (case zb => first | k_is | kernel_rfl)
    (case kb => first | k_is | kernel_rfl)
    (case ki => first | k_is | kernel_rfl)

