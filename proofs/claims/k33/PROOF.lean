import PyProof.Rows.All
import Wide.All
import OpenK.AllK
import Wide.FinOn
import Lean
import PyProof.EqAt
import PyProof.EqKinds
import PyProof.TupleCall
import PyProof.RaisesMany
import PyProof.RulesTry
import PyProof.ExcClass2
import KE.KTryMore
import PyProof.RulesAs
import PyProof.NsDelKeeps
import PyProof.WalkInts
import PyProof.SeqI3
import PyProof.SetKind
import PyProof.SetRoads
import KE.KDictList
import PyProof.ListRange
import OpenK.KEqL
import PySem.Challenge.RW_farhail_k33_things_by_their_codes
set_option Elab.async false
set_option linter.all false
set_option maxHeartbeats 4000000
set_option maxRecDepth 100000
/-! THE HAND LAYER, for ints, bools, texts, own classes, LISTS and tuples (index, slices, in, append, pop ..), calls, loops. Paste it whole ahead of your own text; what your proof does not reach may be deleted. -/
namespace L2
open PySem PySem.Spec PyProof.Rows

/-- a key: an int or a str -/
abbrev Key := Sum Int Str
def keyIs : Key → Value → Bool
  | .inl k, v => Value.isInt k v
  | .inr x, v => Value.isStrOf x v
def keyH (w : World) : Key → Int
  | .inl k => hashInt k
  | .inr x => hashStr w x
theorem keyIs_shape : ∀ {k : Key} {v : Value}, keyIs k v = true → (∃ i t, k = Sum.inl i ∧ v = Value.int i t) ∨ (∃ x t, k = Sum.inr x ∧ v = Value.str x t)
  | .inl i, v, h => by
    obtain ⟨t, e⟩ := Value.isInt_shape (k := i) (v := v) h
    exact .inl ⟨i, t, rfl, e⟩
  | .inr x, v, h => by
    obtain ⟨t, e⟩ := Value.isStrOf_shape (x := x) (v := v) h
    exact .inr ⟨x, t, rfl, e⟩
theorem key_ll (a b : Int) : decide ((Sum.inl a : Key) = Sum.inl b) = (a == b) := by
  by_cases e : a = b
  · subst e; simp
  · have h : ¬ (Sum.inl a : Key) = Sum.inl b := fun q => e (Sum.inl.inj q)
    rw [decide_eq_false h]
    exact (beq_eq_false_iff_ne.mpr e).symm
theorem key_rr (a b : Str) : decide ((Sum.inr a : Key) = Sum.inr b) = decide (a = b) := by
  by_cases e : a = b
  · subst e; simp
  · have h : ¬ (Sum.inr a : Key) = Sum.inr b := fun q => e (Sum.inr.inj q)
    rw [decide_eq_false h, decide_eq_false e]
theorem key_lr (a : Int) (b : Str) : decide ((Sum.inl a : Key) = Sum.inr b) = false := decide_eq_false (fun q => nomatch q)
theorem key_rl (a : Str) (b : Int) : decide ((Sum.inr a : Key) = Sum.inl b) = false := decide_eq_false (fun q => nomatch q)

def mixKind (prog : Program) (w : World) : PySem.KeyKind prog w Key where
  is := keyIs
  hash := keyH w
  inj := fun v a b ha hb => by
    rcases keyIs_shape ha with ⟨i, t, rfl, rfl⟩ | ⟨x, t, rfl, rfl⟩
    · rcases keyIs_shape hb with ⟨j, u, rfl, e⟩ | ⟨y, u, rfl, e⟩
      · injection e with e1 _; rw [e1]
      · exact nomatch e
    · rcases keyIs_shape hb with ⟨j, u, rfl, e⟩ | ⟨y, u, rfl, e⟩
      · exact nomatch e
      · injection e with e1 _; rw [e1]
  byValue := fun k v h => by
    rcases keyIs_shape h with ⟨i, t, rfl, rfl⟩ | ⟨x, t, rfl, rfl⟩ <;> rfl
  pyHash := fun hv h => by
    rcases keyIs_shape hv with ⟨i, t, rfl, rfl⟩ | ⟨x, t, rfl, rfl⟩
    · exact wpAny_pyHash_int h
    · exact wpAny_pyHash_str h
  eqBool := fun hu hv h => by
    rcases keyIs_shape hu with ⟨i, t, rfl, rfl⟩ | ⟨x, t, rfl, rfl⟩
    · rcases keyIs_shape hv with ⟨j, u, rfl, rfl⟩ | ⟨y, u, rfl, rfl⟩
      · rw [key_ll] at h; exact wpAny_eqBool_int h
      · rw [key_lr] at h; exact SeqAt.EqAt.int_str i t y u _ _ _ _ h
    · rcases keyIs_shape hv with ⟨j, u, rfl, rfl⟩ | ⟨y, u, rfl, rfl⟩
      · rw [key_rl] at h; exact SeqAt.EqAt.str_int x t j u _ _ _ _ h
      · rw [key_rr] at h; exact wpAny_eqBool_str h
  «strs» := fun k x t v h => by
    rcases keyIs_shape h with ⟨i, u, rfl, e⟩ | ⟨y, u, rfl, e⟩
    · exact nomatch e
    · injection e with e1 _
      subst e1
      cases v <;> rfl

end L2

namespace L2
open PySem PySem.Spec PyProof.Rows

/-- a value, without the heap -/
inductive V where
  | non | bl (b : Bool) | int (i : Int) | str (x : Str) | byt (b : Array UInt8) | flt (b : UInt64) | ref (a : Addr) | ty (n : String)
  deriving DecidableEq

def RelV : V → Value → Prop
  | .non, u => u = Value.none
  | .bl b, u => u = Value.bool b
  | .int i, u => ∃ t, u = Value.int i t
  | .str x, u => ∃ t, u = Value.str x t
  | .byt b, u => ∃ t, u = Value.bytes b t
  | .flt b, u => ∃ t, u = Value.float b t
  | .ref a, u => u = Value.ref a
  | .ty n, u => u = Value.type n

abbrev Vals : List V → List Value → Prop := Paired RelV
theorem Vals.length {xs : List V} {us : List Value} (r : Vals xs us) : xs.length = us.length := Paired.length r
theorem Vals.get : ∀ {xs : List V} {us : List Value} {i : Nat} {x : V}, Vals xs us → xs[i]? = some x → ∃ u, us[i]? = some u ∧ RelV x u
  | _, _, _, _, .nil, e => by simp at e
  | _, _, 0, _, .cons r _, e => by simp at e; subst e; exact ⟨_, rfl, r⟩
  | _, _, i + 1, x, .cons _ t, e => by
    obtain ⟨u, h1, h2⟩ := Vals.get (i := i) (x := x) t (by simpa using e)
    exact ⟨u, by simpa using h1, h2⟩
theorem Vals.set {x : V} {u : Value} (r : RelV x u) : ∀ {xs : List V} {us : List Value} (i : Nat), Vals xs us → Vals (xs.set i x) (us.set i u)
  | _, _, _, .nil => .nil
  | _, _, 0, .cons _ t => .cons r t
  | _, _, i + 1, .cons q t => .cons q (Vals.set r i t)
theorem Vals.append : ∀ {xs ys : List V} {us ws : List Value}, Vals xs us → Vals ys ws → Vals (xs ++ ys) (us ++ ws)
  | _, _, _, _, .nil, s => s
  | _, _, _, _, .cons r t, s => .cons r (Vals.append t s)
theorem Vals.take : ∀ {xs : List V} {us : List Value} (n : Nat), Vals xs us → Vals (xs.take n) (us.take n)
  | _, _, 0, _ => .nil
  | _, _, _ + 1, .nil => .nil
  | _, _, n + 1, .cons r t => .cons r (Vals.take n t)
theorem Vals.drop : ∀ {xs : List V} {us : List Value} (n : Nat), Vals xs us → Vals (xs.drop n) (us.drop n)
  | _, _, 0, r => r
  | _, _, _ + 1, .nil => .nil
  | _, _, n + 1, .cons _ t => Vals.drop n t
def RelO : Option V → Option Value → Prop
  | some v, some u => RelV v u
  | none, none => True
  | _, _ => False
def KV {κ : Type} : List (κ × V) → List (κ × Value) → Prop := Paired fun (p : κ × V) (q : κ × Value) => p.1 = q.1 ∧ RelV p.2 q.2

/-- a key of a dict (00_mix): an int or a text -/
def kV : Key → V
  | .inl i => .int i
  | .inr x => .str x

/-- what stands at a tracked address -/
inductive HO where
  /-- a list -/
  | lst (xs : List V)
  /-- a tuple (never changes) -/
  | tup (xs : List V)
  /-- a dict whose keys are ints and texts; one whose keys are tuples of ints and texts (the empty one is both) -/
  | dK (kvs : List (Key × V)) | dT (kvs : List (List Key × V))
  /-- a set of ints: its members, its size -/
  | set (S : Int → Bool) (n : Nat)
  /-- an instance of the class at C, its dict at dx, its attributes -/
  | ins (C dx : Addr) (fs : List (Str × V))
  /-- the dict of the instance at x -/
  | own (x : Addr)
  /-- the dict of an exception -/
  | xd (fs : List (Str × V))
  /-- a bound method, f of x -/
  | met (f x : Addr)
  /-- a range object lo, lo + 1, .. below hi -/
  | rng (lo hi : Int)
  /-- a thing that is known to the object (the script; a dict while a loop walks it): read, never written while it is so -/
  | frz (o : Obj) (u : HO)
  /-- a code object's table -/
  | tbl (ps : Array Value)
  /-- any other thing, by what is true of its one object (a def of one's own: SetO a S n := HO.ext fun h => ..) -/
  | ext (φ : Heap → Prop)

abbrev Hp := Addr → Option HO
def upd (H : Hp) (a : Addr) (o : HO) : Hp := fun b => if b = a then some o else H b
theorem upd_same {H : Hp} {a : Addr} {o : HO} : upd H a o a = some o := by unfold upd; rw [if_pos rfl]
theorem upd_ne {H : Hp} {a b : Addr} {o : HO} (h : b ≠ a) : upd H a o b = H b := by unfold upd; rw [if_neg h]
theorem ne_of_none {H : Hp} {a b : Addr} {o : HO} (h : H a = some o) (h' : H b = none) : a ≠ b := by
  intro e; subst e; rw [h] at h'; cases h'

section
variable (P : Program) (w : World)
def ObjOk (H : Hp) (h : Heap) (a : Addr) : HO → Prop
  | .lst xs => xs.length ≤ sizeLine ∧ ∃ (its : List Value) (n : Nat), Vals xs its ∧ h.get? a = some { cls := .type "list", data := .seq its.toArray n }
  | .tup xs => xs.length ≤ sizeLine ∧ ∃ its : List Value, Vals xs its ∧ IsTup h a its.toArray
  | .dK kvs => kvs.length ≤ sizeLine ∧ (a == sysModules) = false ∧ ∃ vs, KV kvs vs ∧ h.DictOf (mixKind P w) a vs
  | .dT kvs => kvs.length ≤ sizeLine ∧ (a == sysModules) = false ∧ ∃ xs : List (List Key × Addr × Value),
      Paired (fun (p : List Key × V) (q : List Key × Addr × Value) => p.1 = q.1 ∧ H q.2.1 = some (.tup (p.1.map kV)) ∧ RelV p.2 q.2.2) kvs xs ∧
      ∃ o es ep, h.get? a = some o ∧ o.ExactDict ∧ o.data = .dict es ep ∧ es.toList = xs.map (entryOfKey (tupleKind (mixKind P w))) ∧ (xs.map (·.1)).Nodup
  | .set S n => h.SetOf (intKind P w) a S n
  | .ins C dx fs => H dx = some (.own a) ∧ fs.length ≤ 1000 ∧ dx ≠ a ∧ h.get? a = some (PySem.W.instObj C dx) ∧
      ∃ mA, h.Ns1 dx mA ∧ (∀ f, RelO (fs.lookup f) (mA f)) ∧ PySem.Within mA (fs.map (·.1))
  | .own _ => ∃ o, h.get? a = some o
  | .xd fs => ∃ mA, h.Ns1 a mA ∧ ∀ f, RelO (fs.lookup f) (mA f)
  | .rng lo hi => ∃ t u v, h.get? a = some { cls := .type "range", data := .fields #[.int lo t, .int hi u, .int 1 v] }
  | .frz o u => h.get? a = some o ∧ ObjOk H h a u
  | .tbl ps => h.get? a = some { cls := .none, data := .fields ps }
  | .met f x => h.get? a = some (PySem.W.methodObj (.ref f) (.ref x))
  | .ext φ => φ h ∧ (∃ o, h.get? a = some o) ∧ ∀ h1 h2 : Heap, φ h1 → (∀ o, h1.get? a = some o → h2.get? a = some o) → φ h2
/-- the abstract heap is held -/
def HOk (H : Hp) (h : Heap) : Prop := ∀ a o, H a = some o → ObjOk P w H h a o
end

section
variable {P : Program} {w : World} {H H' : Hp} {h h' : Heap} {a : Addr} {o : HO}
theorem ObjOk.lt (x : ObjOk P w H h a o) : a < h.objs.size := by
  cases o with
  | lst xs => obtain ⟨_, _, _, _, e⟩ := x; exact Heap.lt_size e
  | tup xs => obtain ⟨_, _, _, p⟩ := x; exact p.lt
  | dK kvs => obtain ⟨_, _, _, _, o, _, _, e, _⟩ := x; exact Heap.lt_size e
  | dT kvs => obtain ⟨_, _, _, _, o, _, _, e, _⟩ := x; exact Heap.lt_size e
  | set S n => obtain ⟨o, _, _, _, e, _⟩ := x; exact Heap.lt_size e
  | ins C dx fs => obtain ⟨_, _, _, e, _⟩ := x; exact Heap.lt_size e
  | own y => obtain ⟨_, e⟩ := x; exact Heap.lt_size e
  | xd fs => obtain ⟨_, ⟨_, _, _, e, _⟩, _⟩ := x; exact Heap.lt_size e
  | rng lo hi => obtain ⟨_, _, _, e⟩ := x; exact Heap.lt_size e
  | frz ob u => obtain ⟨e, _⟩ := x; exact Heap.lt_size e
  | tbl ps => exact Heap.lt_size (show h.get? a = some _ from x)
  | met f y => exact Heap.lt_size (show h.get? a = some _ from x)
  | ext φ => obtain ⟨_, ⟨_, e⟩, _⟩ := x; exact Heap.lt_size e
theorem Paired.mapP {α β : Type} {F G : α → β → Prop} : ∀ {l₁ : List α} {l₂ : List β}, Paired F l₁ l₂ → (∀ a b, F a b → G a b) → Paired G l₁ l₂
  | _, _, .nil, _ => .nil
  | _, _, .cons r t, f => .cons (f _ _ r) (Paired.mapP t f)
/-- what an object's description leans on: its own object, its own dict, the tuples -/
theorem ObjOk.stay (x : ObjOk P w H h a o) (k : ∀ b u, (b = a ∨ H b = some (.own a)) → h.get? b = some u → h'.get? b = some u)
    (ho : ∀ b, H b = some (.own a) → H' b = some (.own a)) (ht : ∀ b xs, H b = some (.tup xs) → H' b = some (.tup xs)) : ObjOk P w H' h' a o := by
  induction o with
  | lst xs => obtain ⟨z, its, n, r, e⟩ := x; exact ⟨z, its, n, r, k _ _ (.inl rfl) e⟩
  | tup xs => obtain ⟨z, its, r, ob, e, c⟩ := x; exact ⟨z, its, r, ob, k _ _ (.inl rfl) e, c⟩
  | dK kvs => obtain ⟨z, y, vs, r, ob, es, ep, e, c⟩ := x; exact ⟨z, y, vs, r, ob, es, ep, k _ _ (.inl rfl) e, c⟩
  | dT kvs =>
    obtain ⟨z, y, xs, r, ob, es, ep, e, c⟩ := x
    exact ⟨z, y, xs, Paired.mapP r fun p q z => ⟨z.1, ht _ _ z.2.1, z.2.2⟩, ob, es, ep, k _ _ (.inl rfl) e, c⟩
  | set S n => obtain ⟨ob, es, ep, t, e, c⟩ := x; exact ⟨ob, es, ep, t, k _ _ (.inl rfl) e, c⟩
  | ins C dx fs =>
    obtain ⟨d, z, ne, e, mA, ⟨od, es, ep, e2, c⟩, r⟩ := x
    exact ⟨ho _ d, z, ne, k _ _ (.inl rfl) e, mA, ⟨od, es, ep, k _ _ (.inr d) e2, c⟩, r⟩
  | own y => obtain ⟨ob, e⟩ := x; exact ⟨ob, k _ _ (.inl rfl) e⟩
  | xd fs => obtain ⟨mA, ⟨od, es, ep, e, c⟩, r⟩ := x; exact ⟨mA, ⟨od, es, ep, k _ _ (.inl rfl) e, c⟩, r⟩
  | rng lo hi => obtain ⟨t, u, v, e⟩ := x; exact ⟨t, u, v, k _ _ (.inl rfl) e⟩
  | frz ob u ih => obtain ⟨e, q⟩ := x; exact ⟨k _ _ (.inl rfl) e, ih q⟩
  | tbl ps =>
    have e : h.get? a = some { cls := .none, data := .fields ps } := x
    show h'.get? a = some { cls := .none, data := .fields ps }
    exact k a _ (.inl rfl) e
  | met f y =>
    have e : h.get? a = some (PySem.W.methodObj (.ref f) (.ref y)) := x
    show h'.get? a = some (PySem.W.methodObj (.ref f) (.ref y))
    exact k a _ (.inl rfl) e
  | ext φ => obtain ⟨p, ⟨o, e⟩, st⟩ := x; exact ⟨st _ _ p fun o q => k _ _ (.inl rfl) q, ⟨o, k _ _ (.inl rfl) e⟩, st⟩
theorem HOk.lt (x : HOk P w H h) (e : H a = some o) : a < h.objs.size := (x a o e).lt
theorem HOk.fresh (x : HOk P w H h) (e : h.objs.size ≤ a) : H a = none := by
  cases q : H a with
  | none => rfl
  | some u => exact absurd (Nat.lt_of_lt_of_le (x.lt q) e) (Nat.lt_irrefl _)
/-- every object of the heap is kept -/
theorem HOk.kept (x : HOk P w H h) (k : ∀ b u, h.get? b = some u → h'.get? b = some u) : HOk P w H h' := fun a o e =>
  (x a o e).stay (fun b u _ q => k b u q) (fun _ q => q) fun _ _ q => q
/-- a new object is laid and tracked -/
theorem HOk.laid (x : HOk P w H h) (k : ∀ b u, h.get? b = some u → h'.get? b = some u) (hp : h.objs.size ≤ a) (new : ObjOk P w (upd H a o) h' a o) : HOk P w (upd H a o) h' := fun b u e => by
  have hn := x.fresh hp
  by_cases hb : b = a
  · subst hb; rw [upd_same] at e; cases e; exact new
  · rw [upd_ne hb] at e
    exact (x b u e).stay (fun c v _ q => k c v q) (fun c q => by rw [upd_ne (ne_of_none q hn)]; exact q) fun c xs q => by rw [upd_ne (ne_of_none q hn)]; exact q
end

/-- what may be read as u: it is u, or a known u -/
def Rd (H : Hp) (a : Addr) (u : HO) : Prop := H a = some u ∨ ∃ o, H a = some (.frz o u)
theorem Rd.ok {P : Program} {w : World} {H : Hp} {h : Heap} {a : Addr} {u : HO} (r : Rd H a u) (x : HOk P w H h) : ObjOk P w H h a u := by
  rcases r with r | ⟨o, r⟩
  · exact x a u r
  · obtain ⟨_, q⟩ := x a _ r
    exact q
/-- what may be written -/
def Mut : Option HO → Prop
  | some (.lst _) => True
  | some (.dK _) => True
  | some (.dT _) => True
  | some (.set _ _) => True
  | some (.ins _ _ _) => True
  | some (.ext _) => True
  | _ => False
section
variable {P : Program} {w : World} {H : Hp} {h h' : Heap} {x e : Addr} {o' : HO}
/-- the object at e is changed: x itself, or the dict of the instance x -/
theorem HOk.write (ok : HOk P w H h) (mu : Mut (H x)) (he : e = x ∨ H e = some (.own x)) (k : ∀ b u, b ≠ e → h.get? b = some u → h'.get? b = some u) (heo : ∃ u, h'.get? e = some u)
    (new : ObjOk P w (upd H x o') h' x o') : HOk P w (upd H x o') h' := fun b u q => by
  have nown : ∀ c y, H c = some (.own y) → c ≠ x := fun c y r z => by subst z; rw [r] at mu; exact mu
  have ntup : ∀ c xs, H c = some (.tup xs) → c ≠ x := fun c xs r z => by subst z; rw [r] at mu; exact mu
  by_cases hb : b = x
  · subst hb; rw [upd_same] at q; cases q; exact new
  · rw [upd_ne hb] at q
    by_cases hbe : b = e
    · have q' : H b = some (.own x) := by
        rcases he with z | z
        · exact absurd (hbe.trans z) hb
        · rw [hbe]; exact z
      rw [q] at q'; cases q'
      obtain ⟨v, hv⟩ := heo
      exact ⟨v, by rw [hbe]; exact hv⟩
    · refine (ok b u q).stay (fun c v hc r => k c v ?_ r) (fun c r => by rw [upd_ne (nown c b r)]; exact r) fun c xs r => by rw [upd_ne (ntup c xs r)]; exact r
      rcases hc with rfl | hc
      · exact hbe
      · rintro rfl
        rcases he with z | z
        · exact nown c b hc z
        · rw [hc] at z; cases z; exact hb rfl
end

/-! ### kept unless tracked; of the frames at fs (the callers') the slots may change (an exception that passes writes there); of the records at ex (iterators) nothing is said -/
structure Un (fs ex : List Addr) (H H' : Hp) (h h' : Heap) : Prop where
  keep : ∀ b o, h.get? b = some o → H b = none → b ∉ fs → b ∉ ex → h'.get? b = some o
  slot : ∀ b o, h.get? b = some o → H b = none → b ∈ fs → b ∉ ex → ∃ sl, h'.get? b = some { o with slots := sl }
  free : ∀ b o, h.get? b = some o → H b = none → b ∉ ex → H' b = none
  there : ∀ b o, h.get? b = some o → b ∉ ex → ∃ o', h'.get? b = some o'
  tups : ∀ b xs, H b = some (.tup xs) → H' b = some (.tup xs)
  frzs : ∀ b o u, H b = some (.frz o u) → H' b = some (.frz o u)
  tbls : ∀ b ps, H b = some (.tbl ps) → ∃ more, H' b = some (.tbl (ps ++ more))
section
variable {fs fs' ex ex' : List Addr} {H H1 H2 : Hp} {h h1 h2 h' : Heap} {a x e : Addr} {o : HO}
theorem Un.any (u : Un fs ex H H1 h h1) {b : Addr} {ob : Obj} (q : h.get? b = some ob) (n : H b = none) (hx : b ∉ ex) : ∃ sl, h1.get? b = some { ob with slots := sl } := by
  by_cases hb : b ∈ fs
  · exact u.slot b ob q n hb hx
  · exact ⟨ob.slots, u.keep b ob q n hb hx⟩
theorem Un.kept (k : ∀ b u, h.get? b = some u → h'.get? b = some u) : Un fs ex H H h h' :=
  ⟨fun b ob q _ _ _ => k b ob q, fun b ob q _ _ _ => ⟨ob.slots, k b ob q⟩, fun _ _ _ n _ => n, fun b ob q _ => ⟨ob, k b ob q⟩, fun _ _ q => q, fun _ _ _ q => q, fun _ ps q => ⟨#[], by rw [q]; simp⟩⟩
theorem Un.refl : Un fs ex H H h h := Un.kept fun _ _ q => q
theorem Un.laid (k : ∀ b u, h.get? b = some u → h'.get? b = some u) (hp : h.objs.size ≤ a) (hn : H a = none) : Un fs ex H (upd H a o) h h' where
  keep := fun b u q _ _ _ => k b u q
  slot := fun b u q _ _ _ => ⟨u.slots, k b u q⟩
  free := fun b u q n _ => by rw [upd_ne (Nat.ne_of_lt (Nat.lt_of_lt_of_le (Heap.lt_size q) hp))]; exact n
  there := fun b u q _ => ⟨u, k b u q⟩
  tups := fun b xs q => by rw [upd_ne (ne_of_none q hn)]; exact q
  frzs := fun b u xs q => by rw [upd_ne (ne_of_none q hn)]; exact q
  tbls := fun b ps q => ⟨#[], by rw [upd_ne (ne_of_none q hn), q]; simp⟩
theorem Un.write (mu : Mut (H x)) (he : e = x ∨ H e = some (.own x)) (k : ∀ b u, b ≠ e → h.get? b = some u → h'.get? b = some u) (heo : ∃ u, h'.get? e = some u) : Un fs ex H (upd H x o) h h' := by
  have hx : ∀ b, H b = none → b ≠ x := fun b n z => by subst z; rw [n] at mu; exact mu
  have hb : ∀ b, H b = none → b ≠ e := fun b n z => by
    subst z
    rcases he with r | r
    · exact hx b n r
    · rw [n] at r; cases r
  have hm : ∀ b u, H b = some u → ¬ Mut (some u) → b ≠ x := fun b u q nm z => by subst z; rw [q] at mu; exact nm mu
  refine ⟨fun b u q n _ _ => k b u (hb b n) q, fun b u q n _ _ => ⟨u.slots, k b u (hb b n) q⟩, fun b u q n _ => by rw [upd_ne (hx b n)]; exact n, fun b u q _ => ?_,
    fun b xs q => by rw [upd_ne (hm b _ q fun z => z)]; exact q, fun b u xs q => by rw [upd_ne (hm b _ q fun z => z)]; exact q, fun b ps q => ⟨#[], by rw [upd_ne (hm b _ q fun z => z), q]; simp⟩⟩
  by_cases hbe : b = e
  · subst hbe; exact heo
  · exact ⟨u, k b u hbe q⟩
end

/-! ### the heap without what is tracked -/
def trk (h : Heap) (H : Hp) : List Addr := (List.range h.objs.size).filter fun a => (H a).isSome
def hidT (h : Heap) (H : Hp) : Heap := PySem.W.hideAll h (trk h H)
theorem hidT_size (h : Heap) (H : Hp) : (hidT h H).objs.size = h.objs.size := PySem.W.hideAll_size _ _
theorem hidT_get {h : Heap} {H : Hp} {b : Addr} {o : Obj} (e : h.get? b = some o) (n : H b = none) : (hidT h H).get? b = some o :=
  PySem.W.hideAll_get _ e fun hm => by
    have q : (H b).isSome = true := (List.mem_filter.mp hm).2
    rw [n] at q; simp at q
theorem of_hidT {h : Heap} {H : Hp} {b : Addr} {o : Obj} (e : (hidT h H).get? b = some o) : h.get? b = some o ∧ H b = none := by
  have e' : h.get? b = some o := PySem.W.of_hideAll (trk h H) e
  refine ⟨e', ?_⟩
  cases q : H b with
  | none => rfl
  | some x =>
    have hm : b ∈ trk h H := List.mem_filter.mpr ⟨List.mem_range.mpr (Heap.lt_size e'), by simp [q]⟩
    have z : (hidT h H).get? b = none := PySem.W.hideAll_none (trk h H) hm
    rw [z] at e; cases e

/-! ### OpenK's ledger, filled with every new object but one -/
def allNews (g h : Heap) (L : Addr) : List (Addr × Obj) := (List.range h.objs.size).filterMap fun a => if a = L ∨ (g.get? a).isSome = true then none else (h.get? a).map fun o => (a, o)
def rest (g h : Heap) (L d : Addr) : List (Addr × Obj) := (allNews g h L).filter fun p => decide (p.1 ≠ d)
end L2

namespace L2
open PySem PySem.Spec PyProof.Rows

/-- the module's facts, over the base: the heap at the law's entry without what is tracked there -/
structure Mod (K : PySem.W.Frag) (mg : Str → Option Value) (base : Heap) : Prop where
  kin : K.In base
  glob : base.Ns mainGlobals mg
  blt : ∃ mb, base.Ns builtinsNs mb ∧ ∀ x : Str, x ≠ "__name__" → mb x = bootBuiltins x
  nolimit : base.NoLimit

/-- the context: a def's body (or a comprehension's block) running. base: fixed through the whole law; s₀, H₀: the entry; outer: the frames whose slots others may change (a def's callers); stack: all frames that run;
   ex: iterators that were made ahead of the entry and are walked here (a comprehension's); fn: the names whose cells were made at the entry (a def: all; a comprehension's block: its own); calm: not within an except suite; pn: pins that every state bears; xe: what is wanted of an exception that leaves the code -/
structure Cx where
  prog : Program
  w : World
  K : PySem.W.Frag
  mg : Str → Option Value
  base : Heap
  A : Around
  N : List Str
  s₀ : Shared
  H₀ : Hp
  env : Env
  outer : List Env
  stack : List Env
  ex : List Addr
  fn : Str → Bool
  calm : Bool
  pn : List (Addr × Obj)
  xe : Value → Shared → Prop
/-- the callers' frames -/
def frs (l : List Env) : List Addr := l.filterMap (·.frame)
abbrev Cx.fs (X : Cx) : List Addr := frs X.outer

def Vis (sc : Scope) (x : Str) : Prop := sc.names.lookup x = some .local ∨ sc.names.lookup x = some .cell ∨ sc.names.lookup x = some .free
def Loc (sc : Scope) (x : Str) : Prop := sc.names.lookup x = some .local ∨ sc.names.lookup x = some .cell
def Look (env : Env) (h : Heap) (m : Str → Option Value) (x : Str) (u : Value) : Prop :=
  (env.kindOf x = some .local ∧ m x = some u) ∨ ((env.kindOf x = some .cell ∨ env.kindOf x = some .free) ∧ ∃ c, env.cells.lookup x = some c ∧ h.IsCell c (some u))

structure Cx.Ok (X : Cx) : Prop where
  mod : Mod X.K X.mg X.base
  kind : X.env.scope.kind = .function
  glob : X.env.globals = mainGlobals
  blt : X.env.builtins = builtinsNs
  above : X.s₀.heap.objs.size ≤ X.env.locals
  inj : ∀ x y c, X.env.cells.lookup x = some c → X.env.cells.lookup y = some c → x = y
  has : ∀ x, (X.env.kindOf x = some .cell ∨ X.env.kindOf x = some .free) → ∃ c, X.env.cells.lookup x = some c
  cab : ∀ x c, X.fn x = true → X.env.cells.lookup x = some c → X.s₀.heap.objs.size ≤ c
  hd : X.calm = true → X.A.handled = none
  frames : X.A.frames = some X.stack
  stk : X.stack = X.outer ∨ (X.stack = X.env :: X.outer ∧ X.env.frame = some X.env.locals)
  exf : ∀ b ∈ X.ex, b ≠ X.env.locals ∧ ∀ x c, X.env.cells.lookup x = some c → c ≠ b
  bs : ∀ b o, X.base.get? b = some o → X.s₀.heap.get? b = some o ∧ X.H₀ b = none
  bsz : X.base.objs.size ≤ X.s₀.heap.objs.size
  noex : ∀ b o, X.base.get? b = some o → b ∉ X.ex
  exfs : ∀ b ∈ X.ex, b ∉ X.fs
  funs : X.s₀.heap.FunFrames X.base X.outer
  frf : ∀ b ∈ X.fs, X.H₀ b = none

structure Inv (X : Cx) (pins : List (Addr × Obj)) (σ : List (Option V)) (H : Hp) (s : Shared) : Prop where
  ok : X.Ok
  os : s.os = X.s₀.os
  bare : AllBare s.gens
  base : Un X.fs X.ex X.H₀ H X.s₀.heap s.heap
  loc : ∃ m, s.heap.Ns X.env.locals m ∧ ∀ (i : Nat) (x : Str) (v : V), X.N[i]? = some x → σ[i]? = some (some v) → Vis X.env.scope x → ∃ u, RelV v u ∧ Look X.env s.heap m x u
  cell : ∀ x c, X.env.cells.lookup x = some c → ∃ v, s.heap.IsCell c v
  free : H X.env.locals = none
  freeC : ∀ x c, X.env.cells.lookup x = some c → H c = none
  pin : ∀ p ∈ X.pn ++ pins, s.heap.get? p.1 = some p.2 ∧ H p.1 = none ∧ p.1 ≠ X.env.locals ∧ p.1 ∉ X.fs ∧ ∀ v, p.2.data ≠ .cell v
  hok : HOk X.prog X.w H s.heap
  len : σ.length = X.N.length

section
variable {X : Cx} {pins : List (Addr × Obj)} {σ : List (Option V)} {H H' : Hp} {s : Shared} {h' : Heap}

theorem Cx.Ok.nofr (ok : X.Ok) {b : Addr} {o : Obj} (e : X.base.get? b = some o) : b ∉ X.fs := fun hb => by
  have := (ok.funs.mem hb).1
  rw [e] at this; cases this
theorem Inv.bs (I : Inv X pins σ H s) : ∀ b o, X.base.get? b = some o → s.heap.get? b = some o ∧ H b = none := fun b o e =>
  ⟨I.base.keep b o (I.ok.bs b o e).1 (I.ok.bs b o e).2 (I.ok.nofr e) (I.ok.noex b o e), I.base.free b o (I.ok.bs b o e).1 (I.ok.bs b o e).2 (I.ok.noex b o e)⟩
theorem Inv.bk (I : Inv X pins σ H s) : ∀ b o, X.base.get? b = some o → s.heap.get? b = some o := fun b o e => (I.bs b o e).1
theorem Inv.mod (I : Inv X pins σ H s) : Mod X.K X.mg X.base := I.ok.mod
theorem Inv.kIn (I : Inv X pins σ H s) : X.K.In s.heap := I.ok.mod.kin.keeps I.bk
theorem Inv.lt (I : Inv X pins σ H s) : X.env.locals < s.heap.objs.size := let ⟨_, hn, _⟩ := I.loc; hn.lt
theorem Inv.sz (I : Inv X pins σ H s) : X.s₀.heap.objs.size ≤ s.heap.objs.size := Nat.le_trans I.ok.above (Nat.le_of_lt I.lt)
theorem Inv.nofs (I : Inv X pins σ H s) {a : Addr} (h : s.heap.objs.size ≤ a) : a ∉ X.fs := fun hb => by
  obtain ⟨_, o, ho, _⟩ := I.ok.funs.mem hb
  exact absurd (Nat.lt_of_lt_of_le (Heap.lt_size ho) (Nat.le_trans I.sz h)) (Nat.lt_irrefl _)
theorem Inv.cne (I : Inv X pins σ H s) : ∀ x c, X.env.cells.lookup x = some c → c ≠ X.env.locals := fun x c e z => by
  obtain ⟨v, o, ho, hd⟩ := I.cell x c e
  obtain ⟨m, ⟨o', es, ep, ho', hd', _⟩, _⟩ := I.loc
  rw [z, ho'] at ho; cases ho; rw [hd'] at hd; cases hd
theorem Inv.funs (I : Inv X pins σ H s) : s.heap.FunFrames X.base X.outer := by
  have all : ∀ (l : List Env), (∀ b ∈ frs l, b ∈ X.fs) → X.s₀.heap.FunFrames X.base l → s.heap.FunFrames X.base l := by
    intro l
    induction l with
    | nil => intro _ _; trivial
    | cons env r ih =>
      intro hs hl
      obtain ⟨hk, ⟨L, o, hf, hn, ho, hd⟩, hr⟩ := hl
      have hL : L ∈ X.fs := hs L (by unfold frs; rw [List.filterMap_cons, hf]; exact List.mem_cons_self)
      obtain ⟨sl, e⟩ := I.base.slot L o ho (I.ok.frf L hL) hL fun z => I.ok.exfs L z hL
      exact ⟨hk, ⟨L, _, hf, hn, e, hd⟩, ih (fun b hb => hs b (by unfold frs; rw [List.filterMap_cons, hf]; exact List.mem_cons_of_mem _ hb)) hr⟩
  exact all X.outer (fun _ hb => hb) I.ok.funs

/-- the frames that run, for a call -/
theorem Inv.stack (I : Inv X pins σ H s) : s.heap.FunFrames X.base X.stack := by
  rcases I.ok.stk with e | ⟨e, hf⟩
  · rw [e]; exact I.funs
  · rw [e]
    obtain ⟨m, hn, _⟩ := I.loc
    refine .cons (by rw [I.ok.kind]; decide) hf hn ?_ I.funs
    exact Heap.get?_none_of_le (Nat.le_trans I.ok.bsz I.ok.above)
theorem Inv.stkSub (I : Inv X pins σ H s) : ∀ b ∈ frs X.stack, b ∈ X.env.locals :: X.fs := fun b hb => by
  rcases I.ok.stk with e | ⟨e, hf⟩
  · rw [e] at hb; exact List.mem_cons_of_mem _ hb
  · rw [e] at hb
    unfold frs at hb
    rw [List.filterMap_cons, hf] at hb
    exact hb
theorem Inv.stkFree (I : Inv X pins σ H s) : ∀ b ∈ frs X.stack, H b = none := fun b hb => by
  rcases List.mem_cons.mp (I.stkSub b hb) with e | hb
  · rw [e]; exact I.free
  · obtain ⟨_, o, ho, _⟩ := I.ok.funs.mem hb
    exact I.base.free b o ho (I.ok.frf b hb) fun z => I.ok.exfs b z hb

/-- THE STEP: the untracked objects but the frame and the records at ch are kept (the callers' frames up to slots), the frame's map is kept, the new abstract heap is held -/
theorem Inv.step {g' : Array GenState} {t' : Nat} {d' : Drawn} {ch : List Addr} (I : Inv X pins σ H s)
    (hch : ∀ b ∈ ch, (b ∈ X.ex ∨ X.s₀.heap.objs.size ≤ b) ∧ b ≠ X.env.locals ∧ (∀ x c, X.env.cells.lookup x = some c → c ≠ b) ∧ ∀ p ∈ X.pn ++ pins, p.1 ≠ b)
    (keep : ∀ b o, b ≠ X.env.locals → b ∉ X.fs → b ∉ ch → s.heap.get? b = some o → H b = none → h'.get? b = some o)
    (slot : ∀ b o, b ≠ X.env.locals → b ∈ X.fs → b ∉ ch → s.heap.get? b = some o → H b = none → ∃ sl, h'.get? b = some { o with slots := sl }) (free : ∀ b o, b ∉ ch → s.heap.get? b = some o → H b = none → H' b = none)
    (there : ∀ b o, b ∉ ch → s.heap.get? b = some o → ∃ o', h'.get? b = some o')
    (tups : ∀ b xs, H b = some (.tup xs) → H' b = some (.tup xs)) (frzs : ∀ b o u, H b = some (.frz o u) → H' b = some (.frz o u)) (tbls : ∀ b ps, H b = some (.tbl ps) → ∃ more, H' b = some (.tbl (ps ++ more)))
    (ns : ∀ m, s.heap.Ns X.env.locals m → h'.Ns X.env.locals m) (hok : HOk X.prog X.w H' h') (hg : AllBare g') :
    Inv X pins σ H' { s with heap := h', gens := g', drawn := d', toks := t' } := by
  have neL : ∀ b o, X.s₀.heap.get? b = some o → b ≠ X.env.locals := fun b o e => Nat.ne_of_lt (Nat.lt_of_lt_of_le (Heap.lt_size e) I.ok.above)
  have neC : ∀ b o, X.s₀.heap.get? b = some o → b ∉ X.ex → b ∉ ch := fun b o e hx hb => by
    rcases (hch b hb).1 with z | z
    · exact hx z
    · exact absurd (Nat.lt_of_lt_of_le (Heap.lt_size e) z) (Nat.lt_irrefl _)
  have cellK : ∀ x c, X.env.cells.lookup x = some c → ∀ v, s.heap.IsCell c v → h'.IsCell c v := fun x c e v ⟨o, ho, hd⟩ => by
    have nch : c ∉ ch := fun z => (hch c z).2.2.1 x c e rfl
    by_cases hc : c ∈ X.fs
    · obtain ⟨sl, q⟩ := slot c o (I.cne x c e) hc nch ho (I.freeC x c e)
      exact ⟨_, q, hd⟩
    · exact ⟨o, keep c o (I.cne x c e) hc nch ho (I.freeC x c e), hd⟩
  refine ⟨I.ok, I.os, hg, ⟨fun b o e n hb hx => ?_, fun b o e n hb hx => ?_, fun b o e n hx => ?_, fun b o e hx => ?_, fun b xs e => tups b xs (I.base.tups b xs e), fun b o xs e => frzs b o xs (I.base.frzs b o xs e), fun b ps e => ?_⟩, ?_, fun x c e => ?_, ?_, fun x c e => ?_, fun p hp => ?_, hok, I.len⟩
  · exact keep b o (neL b o e) hb (neC b o e hx) (I.base.keep b o e n hb hx) (I.base.free b o e n hx)
  · obtain ⟨sl, e1⟩ := I.base.slot b o e n hb hx
    obtain ⟨sl', e2⟩ := slot b _ (neL b o e) hb (neC b o e hx) e1 (I.base.free b o e n hx)
    exact ⟨sl', e2⟩
  · obtain ⟨o', e1⟩ := I.base.there b o e hx
    exact free b o' (neC b o e hx) e1 (I.base.free b o e n hx)
  · obtain ⟨o', e1⟩ := I.base.there b o e hx
    exact there b o' (neC b o e hx) e1
  · obtain ⟨m1, e1⟩ := I.base.tbls b ps e
    obtain ⟨m2, e2⟩ := tbls b _ e1
    exact ⟨m1 ++ m2, by rw [e2, Array.append_assoc]⟩
  · obtain ⟨m, hn, hl⟩ := I.loc
    refine ⟨m, ns m hn, fun i x v e1 e2 e3 => ?_⟩
    obtain ⟨u, r, l⟩ := hl i x v e1 e2 e3
    refine ⟨u, r, ?_⟩
    rcases l with l | ⟨k, c, e, z⟩
    · exact .inl l
    · exact .inr ⟨k, c, e, cellK x c e _ z⟩
  · obtain ⟨v, z⟩ := I.cell x c e
    exact ⟨v, cellK x c e v z⟩
  · obtain ⟨m, ⟨o, _, _, ho, _⟩, _⟩ := I.loc
    exact free _ o (fun z => (hch _ z).2.1 rfl) ho I.free
  · obtain ⟨v, o, ho, hd⟩ := I.cell x c e
    exact free c o (fun z => (hch c z).2.2.1 x c e rfl) ho (I.freeC x c e)
  · obtain ⟨e, n, ne, nf, d⟩ := I.pin p hp
    have nch : p.1 ∉ ch := fun z => (hch p.1 z).2.2.2 p hp rfl
    exact ⟨keep p.1 p.2 ne nf nch e n, free p.1 p.2 nch e n, ne, nf, d⟩
/-- .. where the frame's own object is kept too -/
theorem Inv.un {t' : Nat} (I : Inv X pins σ H s) (u : Un X.fs [] H H' s.heap h') (hok : HOk X.prog X.w H' h') : Inv X pins σ H' { s with heap := h', toks := t' } := by
  obtain ⟨m, ⟨o, es, ep, ho, r⟩, _⟩ := id I.loc
  obtain ⟨sl, hL⟩ := u.any ho I.free (by simp)
  exact I.step (g' := s.gens) (d' := s.drawn) (ch := []) (fun _ z => nomatch z) (fun b o _ hb _ e n => u.keep b o e n hb (by simp)) (fun b o _ hb _ e n => u.slot b o e n hb (by simp)) (fun b o _ e n => u.free b o e n (by simp)) (fun b o _ e => u.there b o e (by simp)) u.tups u.frzs u.tbls (fun m' hm => by
    obtain ⟨o', es', ep', ho', r'⟩ := hm
    rw [ho] at ho'; cases ho'
    exact ⟨_, es', ep', hL, r'⟩) hok I.bare
/-- behind a call (or a comprehension's block): the slots of this frame may have changed too, the records at ch may have turned -/
theorem Inv.call {g' : Array GenState} {t' : Nat} {d' : Drawn} {ch : List Addr} (I : Inv X pins σ H s) (u : Un (frs X.stack) ch H H' s.heap h') (hok : HOk X.prog X.w H' h') (hg : AllBare g')
    (hch : ∀ b ∈ ch, (b ∈ X.ex ∨ X.s₀.heap.objs.size ≤ b) ∧ b ≠ X.env.locals ∧ (∀ x c, X.env.cells.lookup x = some c → c ≠ b) ∧ ∀ p ∈ X.pn ++ pins, p.1 ≠ b) :
    Inv X pins σ H' { s with heap := h', gens := g', drawn := d', toks := t' } := by
  obtain ⟨m, ⟨o, es, ep, ho, r⟩, _⟩ := id I.loc
  obtain ⟨sl, hL⟩ := u.any ho I.free fun z => (hch _ z).2.1 rfl
  exact I.step (ch := ch) hch (fun b o hL hb hc e n => u.keep b o e n (fun z => (List.mem_cons.mp (I.stkSub b z)).elim hL hb) hc) (fun b o _ _ hc e n => u.any e n hc) (fun b o hc e n => u.free b o e n hc) (fun b o hc e => u.there b o e hc) u.tups u.frzs u.tbls (fun m' hm => by
    obtain ⟨o', es', ep', ho', r'⟩ := hm
    rw [ho] at ho'; cases ho'
    exact ⟨_, es', ep', hL, r'⟩) hok hg
/-- an untracked record of ours (an iterator) has turned -/
theorem Inv.turned {t' : Nat} {it : Addr} (I : Inv X pins σ H s) (k : ∀ b o, b ≠ it → s.heap.get? b = some o → h'.get? b = some o) (hn : H it = none) (hL : it ≠ X.env.locals)
    (h1 : it ∈ X.ex ∨ X.s₀.heap.objs.size ≤ it) (h2 : ∀ x c, X.env.cells.lookup x = some c → c ≠ it) (h3 : ∀ p ∈ X.pn ++ pins, p.1 ≠ it) : Inv X pins σ H { s with heap := h', toks := t' } := by
  have nit : ∀ b u, H b = some u → b ≠ it := fun b u e z => by rw [z, hn] at e; cases e
  refine I.step (g' := s.gens) (d' := s.drawn) (ch := [it]) (fun b hb => ?_) (fun b o _ _ hc e _ => k b o (fun z => hc (by simp [z])) e) (fun b o _ _ hc e _ => ⟨o.slots, k b o (fun z => hc (by simp [z])) e⟩) (fun _ _ _ _ n => n)
    (fun b o hc e => ⟨o, k b o (fun z => hc (by simp [z])) e⟩) (fun _ _ e => e) (fun _ _ _ e => e) (fun b ps e => ⟨#[], by rw [e]; simp⟩) (fun m hm => ?_) (fun b u e => ?_) I.bare
  · have e : b = it := by simpa using hb
    subst e
    exact ⟨h1, hL, h2, h3⟩
  · obtain ⟨o, es, ep, ho, r⟩ := hm
    exact ⟨o, es, ep, k _ o (Ne.symm hL) ho, r⟩
  · refine (I.hok b u e).stay (fun c v hc q => k c v ?_ q) (fun _ q => q) fun _ _ q => q
    rcases hc with z | z
    · rw [z]; exact nit b u e
    · exact nit c _ z
theorem Inv.tok (I : Inv X pins σ H s) (t : Nat) : Inv X pins σ H { s with toks := t } := I.un (h' := s.heap) (t' := t) Un.refl I.hok
/-- all objects kept -/
theorem Inv.kept {t' : Nat} (I : Inv X pins σ H s) (k : ∀ b u, s.heap.get? b = some u → h'.get? b = some u) : Inv X pins σ H { s with heap := h', toks := t' } := I.un (Un.kept k) (I.hok.kept k)
/-- a new object laid and tracked -/
theorem Inv.laid {a : Addr} {o : HO} {t' : Nat} (I : Inv X pins σ H s) (k : ∀ b u, s.heap.get? b = some u → h'.get? b = some u) (hp : s.heap.objs.size ≤ a) (new : ObjOk X.prog X.w (upd H a o) h' a o) :
    Inv X pins σ (upd H a o) { s with heap := h', toks := t' } := I.un (Un.laid k hp (I.hok.fresh hp)) (I.hok.laid k hp new)
/-- an object written -/
theorem Inv.write {x e : Addr} {o : HO} {t' : Nat} (I : Inv X pins σ H s) (mu : Mut (H x)) (he : e = x ∨ H e = some (.own x)) (k : ∀ b u, b ≠ e → s.heap.get? b = some u → h'.get? b = some u) (heo : ∃ u, h'.get? e = some u)
    (new : ObjOk X.prog X.w (upd H x o) h' x o) : Inv X pins σ (upd H x o) { s with heap := h', toks := t' } := I.un (Un.write mu he k heo) (I.hok.write mu he k heo new)
theorem Inv.pins_of {pins' : List (Addr × Obj)} (I : Inv X pins σ H s) (h : ∀ p ∈ pins', s.heap.get? p.1 = some p.2 ∧ H p.1 = none ∧ p.1 ≠ X.env.locals ∧ p.1 ∉ X.fs ∧ ∀ v, p.2.data ≠ .cell v) : Inv X pins' σ H s :=
  ⟨I.ok, I.os, I.bare, I.base, I.loc, I.cell, I.free, I.freeC, fun p hp => (List.mem_append.mp hp).elim (fun z => I.pin p (List.mem_append_left _ z)) (h p), I.hok, I.len⟩

theorem nodup_ix {N : List Str} (hN : N.Nodup) {i j : Nat} {x : Str} (a : N[i]? = some x) (b : N[j]? = some x) : i = j := by
  obtain ⟨h1, e1⟩ := List.getElem?_eq_some_iff.mp a
  obtain ⟨h2, e2⟩ := List.getElem?_eq_some_iff.mp b
  exact (List.getElem_inj hN).mp (e1.trans e2.symm)

/-- a name is stored; what changed -/
theorem store_ok2 {M : Model} {A : Around} {E : Value → Shared → Prop} {i : Nat} {x : Str} {v : V} {u : Value} {Q : Unit → Shared → Prop} (I : Inv X pins σ H s) (hN : X.N.Nodup) (hi : X.N[i]? = some x) (hx : Loc X.env.scope x) (r : RelV v u)
    (h : ∀ s', Inv X pins (σ.set i (some v)) H s' → (∃ a, Heap.SameBut a s.heap s'.heap ∧ (a = X.env.locals ∨ X.env.cells.lookup x = some a)) → Q () s') (hf : X.fn x = true ∨ X.env.scope.names.lookup x = some .local := by first | exact .inl rfl | exact .inr rfl | assumption) : wpAny M A (storeName X.env x u) Q E s := by
  obtain ⟨m, hn, hl⟩ := id I.loc
  have hcls : (X.env.scope.kind == .class || (X.env.scope.kind == .module && X.env.locals != X.env.globals)) = false := by rw [I.ok.kind]; rfl
  have hiσ : i < σ.length := by rw [I.len]; exact (List.getElem?_eq_some_iff.mp hi).1
  have cne := I.cne
  have tracked : ∀ {a : Addr} {h' : Heap}, (∃ o, s.heap.get? a = some o ∧ H a = none) → Heap.SameBut a s.heap h' → HOk X.prog X.w H h' := fun {a h'} ha hs b ob e => by
    obtain ⟨_, _, hfree⟩ := ha
    refine (I.hok b ob e).stay (fun c w' hc q => (hs.2 c ?_).trans q) (fun _ q => q) fun _ _ q => q
    rintro rfl
    rcases hc with rfl | hc
    · rw [hfree] at e; cases e
    · rw [hfree] at hc; cases hc
  rcases hx with hk | hk
  · refine wpAny_storeName_local hk hn (fun h' hn' hs => ?_) hcls
    obtain ⟨oL, _, _, hoL, _⟩ := id hn
    refine h _ ⟨I.ok, I.os, I.bare, ⟨fun b o e n hb hx => ?_, fun b o e n hb hx => ?_, I.base.free, fun b o e hx => ?_, I.base.tups, I.base.frzs, I.base.tbls⟩, ⟨_, hn', fun j y v' e1 e2 e3 => ?_⟩, fun y c e => ?_, I.free, I.freeC, fun p hp => ?_, tracked ⟨oL, hoL, I.free⟩ hs, by simpa using I.len⟩ ⟨_, hs, .inl rfl⟩
    · exact (hs.2 b (Nat.ne_of_lt (Nat.lt_of_lt_of_le (Heap.lt_size e) I.ok.above))).trans (I.base.keep b o e n hb hx)
    · obtain ⟨sl, e1⟩ := I.base.slot b o e n hb hx
      exact ⟨sl, (hs.2 b (Nat.ne_of_lt (Nat.lt_of_lt_of_le (Heap.lt_size e) I.ok.above))).trans e1⟩
    · obtain ⟨o', e1⟩ := I.base.there b o e hx
      exact ⟨o', (hs.2 b (Nat.ne_of_lt (Nat.lt_of_lt_of_le (Heap.lt_size e) I.ok.above))).trans e1⟩
    · by_cases hj : j = i
      · subst hj
        rw [hi] at e1; cases e1
        rw [List.getElem?_set_self hiσ] at e2
        cases e2
        exact ⟨u, r, .inl ⟨hk, by simp⟩⟩
      · rw [List.getElem?_set_ne (Ne.symm hj)] at e2
        obtain ⟨u', r', q⟩ := hl j y v' e1 e2 e3
        refine ⟨u', r', ?_⟩
        rcases q with ⟨k, e⟩ | ⟨k, c, e, z⟩
        · refine .inl ⟨k, ?_⟩
          have : y ≠ x := fun e => hj (nodup_ix hN e1 (e ▸ hi))
          simp [this, e]
        · exact .inr ⟨k, c, e, z.sameBut hs (cne y c e)⟩
    · obtain ⟨w', z⟩ := I.cell y c e
      exact ⟨w', z.sameBut hs (cne y c e)⟩
    · obtain ⟨e, n, ne, nf, d⟩ := I.pin p hp
      exact ⟨(hs.2 p.1 ne).trans e, n, ne, nf, d⟩
  · have hfn : X.fn x = true := by
      rcases hf with z | z
      · exact z
      · rw [z] at hk; cases hk
    obtain ⟨c, hc⟩ := I.ok.has x (.inl hk)
    obtain ⟨w', z⟩ := I.cell x c hc
    refine wpAny_storeName_cell I.ok.kind hk hc z (fun h' hc' hs => ?_)
    obtain ⟨oc, hoc, hocd⟩ := id z
    refine h { s with heap := h' } ⟨I.ok, I.os, I.bare, ⟨fun b o e n hb hx => ?_, fun b o e n hb hx => ?_, I.base.free, fun b o e hx => ?_, I.base.tups, I.base.frzs, I.base.tbls⟩, ⟨m, hn.sameBut hs (Ne.symm (cne x c hc)), fun j y v' e1 e2 e3 => ?_⟩, fun y c' e => ?_, I.free, I.freeC, fun p hp => ?_, tracked ⟨oc, hoc, I.freeC x c hc⟩ hs, by simpa using I.len⟩ ⟨c, hs, .inr hc⟩
    · exact (hs.2 b (Nat.ne_of_lt (Nat.lt_of_lt_of_le (Heap.lt_size e) (I.ok.cab x c hfn hc)))).trans (I.base.keep b o e n hb hx)
    · obtain ⟨sl, e1⟩ := I.base.slot b o e n hb hx
      exact ⟨sl, (hs.2 b (Nat.ne_of_lt (Nat.lt_of_lt_of_le (Heap.lt_size e) (I.ok.cab x c hfn hc)))).trans e1⟩
    · obtain ⟨o', e1⟩ := I.base.there b o e hx
      exact ⟨o', (hs.2 b (Nat.ne_of_lt (Nat.lt_of_lt_of_le (Heap.lt_size e) (I.ok.cab x c hfn hc)))).trans e1⟩
    · by_cases hj : j = i
      · subst hj
        rw [hi] at e1; cases e1
        rw [List.getElem?_set_self hiσ] at e2
        cases e2
        exact ⟨u, r, .inr ⟨.inl hk, c, hc, hc'⟩⟩
      · rw [List.getElem?_set_ne (Ne.symm hj)] at e2
        obtain ⟨u', r', q⟩ := hl j y v' e1 e2 e3
        refine ⟨u', r', ?_⟩
        rcases q with q | ⟨k, c', e, z'⟩
        · exact .inl q
        · refine .inr ⟨k, c', e, z'.sameBut hs ?_⟩
          rintro rfl
          exact hj (nodup_ix hN e1 (I.ok.inj _ _ _ e hc ▸ hi))
    · by_cases hcc : c' = c
      · subst hcc; exact ⟨_, hc'⟩
      · obtain ⟨w2, z2⟩ := I.cell y c' e
        exact ⟨w2, z2.sameBut hs hcc⟩
    · obtain ⟨e, n, ne, nf, d⟩ := I.pin p hp
      refine ⟨(hs.2 p.1 ?_).trans e, n, ne, nf, d⟩
      intro q
      rw [q, hoc] at e
      have q' : oc = p.2 := Option.some.inj e
      exact d w' (by rw [← q']; exact hocd)
theorem store_ok {M : Model} {A : Around} {E : Value → Shared → Prop} {i : Nat} {x : Str} {v : V} {u : Value} {Q : Unit → Shared → Prop} (I : Inv X pins σ H s) (hN : X.N.Nodup) (hi : X.N[i]? = some x) (hx : Loc X.env.scope x) (r : RelV v u)
    (h : ∀ s', Inv X pins (σ.set i (some v)) H s' → Q () s') (hf : X.fn x = true ∨ X.env.scope.names.lookup x = some .local := by first | exact .inl rfl | exact .inr rfl | assumption) : wpAny M A (storeName X.env x u) Q E s :=
  store_ok2 I hN hi hx r (fun s' I' _ => h s' I') hf
/-- behind a call or a block, the state as it is -/
theorem Inv.call' {s' : Shared} {ch : List Addr} (I : Inv X pins σ H s) (ho : s'.os = s.os) (u : Un (frs X.stack) ch H H' s.heap s'.heap) (hok : HOk X.prog X.w H' s'.heap) (hg : AllBare s'.gens)
    (hch : ∀ b ∈ ch, (b ∈ X.ex ∨ X.s₀.heap.objs.size ≤ b) ∧ b ≠ X.env.locals ∧ (∀ x c, X.env.cells.lookup x = some c → c ≠ b) ∧ ∀ p ∈ X.pn ++ pins, p.1 ≠ b) : Inv X pins σ H' s' := by
  obtain ⟨h', g', d', t', o'⟩ := s'
  have e : o' = s.os := ho
  subst e
  exact I.call (g' := g') (t' := t') (d' := d') u hok hg hch
end

/-! ### the judgements -/
/-- an exception: its class, its own dict's address (where it has one), the abstract heap behind it -/
abbrev XK := Value → Option Addr → Hp → Prop
abbrev St := List (Option V)
abbrev VK := V → Hp → Prop
/-- an expression's reading; a test's; an argument list's -/
abbrev TE := St → Hp → VK → Prop
abbrev TT := St → Hp → (Bool → Hp → Prop) → Prop
abbrev TA := St → Hp → (List V → Hp → Prop) → Prop
/-- what is wanted behind a statement -/
structure Ends where
  nx : St → Hp → Prop
  rt : VK
  bk : St → Hp → Prop := fun _ _ => False
  ct : St → Hp → Prop := fun _ _ => False
abbrev TS := Ends → St → Hp → Prop

def EP (X : Cx) (pins : List (Addr × Obj)) (σ : St) (Q : VK) (u : Value) (s' : Shared) : Prop := ∃ v H', Inv X pins σ H' s' ∧ RelV v u ∧ Q v H'
def TP (X : Cx) (pins : List (Addr × Obj)) (σ : St) (Q : Bool → Hp → Prop) (b : Bool) (s' : Shared) : Prop := ∃ H', Inv X pins σ H' s' ∧ Q b H'
def AP (X : Cx) (pins : List (Addr × Obj)) (σ : St) (Q : List V → Hp → Prop) (us : List Value) (s' : Shared) : Prop := ∃ vs H', Inv X pins σ H' s' ∧ Vals vs us ∧ Q vs H'
def SP (X : Cx) (pins : List (Addr × Obj)) (D : Ends) (f : Flow) (s' : Shared) : Prop :=
  match f with
  | .next => ∃ σ' H', Inv X pins σ' H' s' ∧ D.nx σ' H'
  | .brk => ∃ σ' H', Inv X pins σ' H' s' ∧ D.bk σ' H'
  | .cont => ∃ σ' H', Inv X pins σ' H' s' ∧ D.ct σ' H'
  | .ret u => ∃ v σ' H', Inv X pins σ' H' s' ∧ RelV v u ∧ D.rt v H'

def PE (X : Cx) (e : Expr) (t : TE) : Prop :=
  ∀ (pins : List (Addr × Obj)) (s : Shared) (σ : St) (H : Hp) (Q : VK), Inv X pins σ H s → t σ H Q → wpAny (model X.prog X.w) X.A (eval e X.env) (EP X pins σ Q) X.xe s
def PT (X : Cx) (e : Expr) (t : TT) : Prop :=
  ∀ (pins : List (Addr × Obj)) (s : Shared) (σ : St) (H : Hp) (Q : Bool → Hp → Prop), Inv X pins σ H s → t σ H Q → wpAny (model X.prog X.w) X.A (isTrue e X.env (eval e X.env)) (TP X pins σ Q) X.xe s
/-- a test whatever its 'whole' is (and, or) -/
def PW (X : Cx) (e : Expr) (t : TT) : Prop :=
  ∀ (whole : Sem Value) (pins : List (Addr × Obj)) (s : Shared) (σ : St) (H : Hp) (Q : Bool → Hp → Prop), Inv X pins σ H s → t σ H Q → wpAny (model X.prog X.w) X.A (isTrue e X.env whole) (TP X pins σ Q) X.xe s
theorem PW.pt {X : Cx} {e : Expr} {t : TT} (h : PW X e t) : PT X e t := h _
/-- an argument list (no star), from the left -/
def PA (X : Cx) (es : List Expr) (t : TA) : Prop :=
  ∀ (pos : Pos) (pins : List (Addr × Obj)) (s : Shared) (σ : St) (H : Hp) (Q : List V → Hp → Prop), Inv X pins σ H s → t σ H Q → wpAny (model X.prog X.w) X.A (spliced (backTo pos (starEach es X.env))) (AP X pins σ Q) X.xe s
def PS (X : Cx) (st : Stmt) (t : TS) : Prop :=
  ∀ (pins : List (Addr × Obj)) (s : Shared) (σ : St) (H : Hp) (D : Ends), Inv X pins σ H s → t D σ H → wpAny (model X.prog X.w) X.A (exec st X.env) (SP X pins D) X.xe s
def PSs (X : Cx) (st : List Stmt) (t : TS) : Prop :=
  ∀ (pins : List (Addr × Obj)) (s : Shared) (σ : St) (H : Hp) (D : Ends), Inv X pins σ H s → t D σ H → wpAny (model X.prog X.w) X.A (execs st X.env) (SP X pins D) X.xe s
/-- weaken the end -/
theorem thn {α : Type} {t : Sem α} {Q Q' : α → Shared → Prop} {M : Model} {A : Around} {E : Value → Shared → Prop} {s : Shared} (h : wpAny M A t Q E s) (hQ : ∀ a s, Q a s → Q' a s) : wpAny M A t Q' E s := wpAny_mono h hQ fun _ _ x => x
end L2

namespace L2
open PySem PySem.Spec PyProof.Rows
section
variable {X : Cx}

/-! ### names and constants -/
def tVar (i : Nat) : TE := fun σ H Q => ∃ v, σ[i]? = some (some v) ∧ Q v H
def tC (v : V) : TE := fun _ H Q => Q v H
theorem pe_var {i : Nat} {x : Str} {pos : Pos} (hN : X.N[i]? = some x) (hv : Vis X.env.scope x) (hd : (x == ("__debug__" : Str)) = false := by decide) (hcd : (x == ("__classdict__" : Str)) = false := by decide) : PE X (.Name x pos) (tVar i) := by
  intro pins s σ H Q I h
  obtain ⟨v, e, h⟩ := h
  obtain ⟨m, hn, hl⟩ := I.loc
  obtain ⟨u, r, l⟩ := hl i x v hN e hv
  have fin : EP X pins σ Q u s := ⟨v, H, I, r, h⟩
  rcases l with ⟨hk, hm⟩ | ⟨hk, c, hc, hcell⟩
  · exact wpAny_Name (wpAny_loadName_local I.ok.kind hk hn hm fin) hd
  · rcases hk with hk | hk
    · exact wpAny_Name (wpAny_loadName_cell I.ok.kind hk hc hcell fin) hd
    · exact wpAny_Name (wpAny_loadName_free I.ok.kind hk hc hcell fin hcd) hd
theorem pe_int {i j pos} : PE X (.Constant (.int i) j pos) (tC (.int i)) := fun _ _ _ H _ I h => wpAny_Constant_int ⟨.int i, H, I.tok _, ⟨_, rfl⟩, h⟩
theorem pe_bl {b j pos} : PE X (.Constant (.bool b) j pos) (tC (.bl b)) := fun _ _ _ H _ I h => Constant_bool ⟨.bl b, H, I, rfl, h⟩
theorem pe_non {j pos} : PE X (.Constant .none j pos) (tC .non) := fun _ _ _ H _ I h => Constant_none ⟨.non, H, I, rfl, h⟩
theorem pe_str {x j pos} : PE X (.Constant (.str x) j pos) (tC (.str x)) := fun _ _ _ H _ I h => Calls.Constant_str ⟨.str x, H, I.tok _, ⟨_, rfl⟩, h⟩

/-- a global name of the def -/
def Gl (X : Cx) (x : Str) : Prop := X.env.kindOf x = some .globalImplicit
theorem ld_glob {E : Value → Shared → Prop} {pins : List (Addr × Obj)} {s : Shared} {σ : St} {H : Hp} {x : Str} {u : Value} {pos : Pos} {Q : Value → Shared → Prop} (I : Inv X pins σ H s) (hg : Gl X x) (hm : X.mg x = some u) (h : Q u s)
    (hd : (x == ("__debug__" : Str)) = false := by decide) : wpAny (model X.prog X.w) X.A (eval (.Name x pos) X.env) Q E s :=
  Calls.Name_function_global I.ok.kind hg (Calls.loadGlobal_global (by rw [I.ok.glob]; exact I.mod.glob.keeps I.bk) hm h) hd
theorem ld_blt {E : Value → Shared → Prop} {pins : List (Addr × Obj)} {s : Shared} {σ : St} {H : Hp} {x : Str} {u : Value} {pos : Pos} {Q : Value → Shared → Prop} (I : Inv X pins σ H s) (hg : Gl X x) (hm : X.mg x = none) (hv : bootBuiltins x = some u) (h : Q u s)
    (hn : x ≠ "__name__" := by decide) (hd : (x == ("__debug__" : Str)) = false := by decide) : wpAny (model X.prog X.w) X.A (eval (.Name x pos) X.env) Q E s := by
  obtain ⟨mb, h1, h2⟩ := I.mod.blt
  exact Calls.Name_function_global I.ok.kind hg (Calls.loadGlobal_builtin (by rw [I.ok.glob]; exact I.mod.glob.keeps I.bk) hm (by rw [I.ok.blt]; exact h1.keeps I.bk) ((h2 x hn).trans hv) h) hd
/-- a module's constant, a class, a function, as a value -/
theorem pe_glob {x : Str} {v : V} {u : Value} {pos : Pos} (hg : Gl X x) (hm : X.mg x = some u) (r : RelV v u) (hd : (x == ("__debug__" : Str)) = false := by decide) : PE X (.Name x pos) (tC v) :=
  fun _ _ _ H _ I h => ld_glob I hg hm ⟨v, H, I, r, h⟩ hd
theorem pe_bltn {x : Str} {v : V} {u : Value} {pos : Pos} (hg : Gl X x) (hm : X.mg x = none) (hv : bootBuiltins x = some u) (r : RelV v u) (hn : x ≠ "__name__" := by decide) (hd : (x == ("__debug__" : Str)) = false := by decide) : PE X (.Name x pos) (tC v) :=
  fun _ _ _ H _ I h => ld_blt I hg hm hv ⟨v, H, I, r, h⟩ hn hd

/-! ### arithmetic -/
/-- two ints -/
def t2I (ta tb : TE) (k : Int → Int → Hp → Prop) : St → Hp → Prop := fun σ H => ta σ H fun x H1 => tb σ H1 fun y H2 => ∃ i j, x = .int i ∧ y = .int j ∧ k i j H2
def tAdd (ta tb : TE) : TE := fun σ H Q => t2I ta tb (fun i j H2 => Q (.int (i + j)) H2) σ H
def tSub (ta tb : TE) : TE := fun σ H Q => t2I ta tb (fun i j H2 => Q (.int (i - j)) H2) σ H
/-- the left factor below 2^64 -/
def tMul (ta tb : TE) : TE := fun σ H Q => t2I ta tb (fun i j H2 => (-(2 ^ 64) < i ∧ i < 2 ^ 64) ∧ Q (.int (i * j)) H2) σ H
variable {a b : Expr} {ta tb : TE} {pos : Pos}
/-! ### comparisons -/
def PC (X : Cx) (op : CmpOp) (a b : Expr) (t : TE) : Prop :=
  ∀ (pins : List (Addr × Obj)) (s : Shared) (σ : St) (H : Hp) (Q : VK), Inv X pins σ H s → t σ H Q →
    wpAny (model X.prog X.w) X.A (eval a X.env) (fun v s₁ => wpAny (model X.prog X.w) X.A (eval b X.env) (fun u s₂ => wpAny (model X.prog X.w) X.A (compareOp op v u) (EP X pins σ Q) X.xe s₂) X.xe s₁) X.xe s
theorem nobehind (b : Expr) {op : CmpOp} (h : op ≠ .In) (h2 : op ≠ .NotIn) : behindInMarks op b = false := by
  have e1 : (op == CmpOp.In) = false := by cases op <;> first | rfl | exact absurd rfl h
  have e2 : (op == CmpOp.NotIn) = false := by cases op <;> first | rfl | exact absurd rfl h2
  cases b <;> simp [behindInMarks, e1, e2]
def tCmp (p : Int → Int → Bool) (ta tb : TE) : TE := fun σ H Q => t2I ta tb (fun i j H2 => Q (.bl (p i j)) H2) σ H
abbrev tLt : TE → TE → TE := tCmp fun i j => decide (i < j)
abbrev tLe : TE → TE → TE := tCmp fun i j => decide (i ≤ j)
abbrev tGt : TE → TE → TE := tCmp fun i j => decide (j < i)
abbrev tGe : TE → TE → TE := tCmp fun i j => decide (j ≤ i)
abbrev tEqI : TE → TE → TE := tCmp fun i j => decide (i = j)
abbrev tNeI : TE → TE → TE := tCmp fun i j => !decide (i = j)
/-- is None -/
def tIsN (ta : TE) : TE := fun σ H Q => ta σ H fun x H1 => Q (.bl (decide (x = .non))) H1
def tNotN (ta : TE) : TE := fun σ H Q => ta σ H fun x H1 => Q (.bl (!decide (x = .non))) H1
theorem RelV.none_iff {x : V} {v : Value} (r : RelV x v) : (v == Value.none) = decide (x = .non) := by
  cases x with
  | non => cases r; rfl
  | bl _ => cases r; rfl
  | int _ => obtain ⟨t, rfl⟩ := r; rfl
  | str _ => obtain ⟨t, rfl⟩ := r; rfl
  | byt _ => obtain ⟨t, rfl⟩ := r; rfl
  | flt _ => obtain ⟨t, rfl⟩ := r; rfl
  | ref _ => cases r; rfl
  | ty _ => cases r; rfl
theorem pc_isN {j pos'} (ha : PE X a ta) : PC X .Is a (.Constant .none j pos') (tIsN ta) := by
  intro pins s σ H Q I h
  refine thn (ha pins s σ H _ I h) fun v s1 ⟨x, H1, I1, r1, q1⟩ => ?_
  exact Constant_none (is_none_gen ⟨.bl _, H1, I1, by rw [r1.none_iff]; rfl, q1⟩)
/-- a comparison as a value, as a test -/
def tB (t : TE) : TT := fun σ H Q => t σ H fun x H1 => ∃ c, x = .bl c ∧ Q c H1
theorem pt_cmp {op : CmpOp} {t : TE} (h : PC X op a b t) (h1 : behindInMarks op b = false := by first | exact nobehind _ (by decide) (by decide) | rfl) : PT X (.Compare a [op] [b] pos) (tB t) := by
  intro pins s σ H Q I hw
  refine wpAny_isTrue_Compare1 (thn (h pins s σ H _ I hw) fun v s1 h1 => thn h1 fun u s2 h2 => thn h2 fun c s3 ⟨x, H1, I1, r1, q1⟩ => ?_) h1
  obtain ⟨d, rfl, q⟩ := q1
  cases r1
  exact wpAny_truthy_bool ⟨H1, I1, q⟩
/-- an expression whose value is a bool, as a test -/
theorem pt_val {e : Expr} {t : TE} (h : PE X e t) (he : ∀ whole, isTrue e X.env whole = (do let v ← whole; standAt e.pos; holding [v] (truthy v)) := by intro _; rfl) : PT X e (tB t) := by
  intro pins s σ H Q I hw
  refine isTrue_plain (thn (h pins s σ H _ I hw) fun v s1 ⟨x, H1, I1, r1, q1⟩ => ?_) (he _)
  obtain ⟨d, rfl, q⟩ := q1
  cases r1
  exact wpAny_truthy_bool ⟨H1, I1, q⟩

/-! ### and, or, not -/
variable {tA tB' : TT} {rest : List Expr}
def tAnd (t u : TT) : TT := fun σ H Q => t σ H fun c H1 => if c = true then u σ H1 Q else Q false H1
def tOr (t u : TT) : TT := fun σ H Q => t σ H fun c H1 => if c = true then Q true H1 else u σ H1 Q
def tNot (t : TT) : TT := fun σ H Q => t σ H fun c H1 => Q (!c) H1
theorem pw_and1 (ha : PT X a tA) : PW X (.BoolOp .And [a] pos) tA := by
  intro wh pins s σ H Q I h
  refine isTrue_and (thn (ha pins s σ H Q I h) fun c s1 e => ?_)
  cases c with
  | true => exact isTrue_and_nil e
  | false => exact e
theorem pw_or1 (ha : PT X a tA) : PW X (.BoolOp .Or [a] pos) tA := by
  intro wh pins s σ H Q I h
  refine isTrue_or (thn (ha pins s σ H Q I h) fun c s1 e => ?_)
  cases c with
  | false => exact isTrue_or_nil e
  | true => exact e
theorem pw_and (ha : PT X a tA) (hb : PW X (.BoolOp .And (b :: rest) pos) tB') : PW X (.BoolOp .And (a :: b :: rest) pos) (tAnd tA tB') := by
  intro wh pins s σ H Q I h
  refine isTrue_and (thn (ha pins s σ H _ I h) fun c s1 ⟨H1, I1, q1⟩ => ?_)
  cases c with
  | true => exact hb wh pins s1 σ H1 Q I1 q1
  | false => exact ⟨H1, I1, q1⟩
theorem pw_or (ha : PT X a tA) (hb : PW X (.BoolOp .Or (b :: rest) pos) tB') : PW X (.BoolOp .Or (a :: b :: rest) pos) (tOr tA tB') := by
  intro wh pins s σ H Q I h
  refine isTrue_or (thn (ha pins s σ H _ I h) fun c s1 ⟨H1, I1, q1⟩ => ?_)
  cases c with
  | true => exact ⟨H1, I1, q1⟩
  | false => exact hb wh pins s1 σ H1 Q I1 q1
theorem pt_not (ha : PT X a tA) : PT X (.UnaryOp .Not a pos) (tNot tA) := by
  intro pins s σ H Q I h
  exact isTrue_not (ha pins s σ H (fun c H1 => Q (!c) H1) I h)
/-- .. as values (bools) -/
def tAndV (ta tb : TE) : TE := fun σ H Q => ta σ H fun x H1 => ∃ c, x = .bl c ∧ if c = true then tb σ H1 Q else Q (.bl false) H1
def tOrV (ta tb : TE) : TE := fun σ H Q => ta σ H fun x H1 => ∃ c, x = .bl c ∧ if c = true then Q (.bl true) H1 else tb σ H1 Q
def tNotV (ta : TE) : TE := fun σ H Q => ta σ H fun x H1 => ∃ c, x = .bl c ∧ Q (.bl (!c)) H1
theorem pe_one {op} {t : TE} (h : PE X a t) : PE X (.BoolOp op [a] pos) t := fun pins s σ H Q I hw => BoolOp_one (h pins s σ H Q I hw)
theorem pe_and (ha : PE X a ta) (hb : PE X (.BoolOp .And (b :: rest) pos) tb) : PE X (.BoolOp .And (a :: b :: rest) pos) (tAndV ta tb) := by
  intro pins s σ H Q I h
  refine BoolOp_and (thn (ha pins s σ H _ I h) fun v s1 ⟨x, H1, I1, r1, q1⟩ => ?_)
  obtain ⟨c, rfl, q1⟩ := q1
  cases r1
  refine wpAny_truthy_bool ?_
  cases c with
  | true => exact hb pins s1 σ H1 Q I1 q1
  | false => exact ⟨.bl false, H1, I1, rfl, q1⟩
/-- a if t else b -/
def tIf (t : TT) (ta tb : TE) : TE := fun σ H Q => t σ H fun c H1 => if c = true then ta σ H1 Q else tb σ H1 Q
theorem pe_ifExp {c : Expr} (hc : PT X c tA) (ha : PE X a ta) (hb : PE X b tb) : PE X (.IfExp c a b pos) (tIf tA ta tb) := by
  intro pins s σ H Q I h
  refine wpAny_IfExp (thn (hc pins s σ H _ I h) fun d s1 ⟨H1, I1, q1⟩ => ?_)
  cases d with
  | true => exact ha pins s1 σ H1 Q I1 q1
  | false => exact hb pins s1 σ H1 Q I1 q1
end
end L2

namespace L2
open PySem PySem.Spec PyProof.Rows

/-! ### a list, a tuple that is read: tracked, frozen, or an object of the module -/
def SqL (K : PySem.W.Frag) (H : Hp) (a : Addr) (xs : List V) : Prop :=
  Rd H a (.lst xs) ∨
    ∃ (o : Obj) (its : Array Value) (n : Nat), K.lookup a = some o ∧ o.cls = .type "list" ∧ o.dict = none ∧ o.data = .seq its n ∧ its.size ≤ sizeLine ∧ Vals xs its.toList
def SqT (K : PySem.W.Frag) (H : Hp) (a : Addr) (xs : List V) : Prop :=
  Rd H a (.tup xs) ∨
    ∃ (o : Obj) (its : Array Value) (n : Nat), K.lookup a = some o ∧ o.cls = .type "tuple" ∧ o.data = .seq its n ∧ its.size ≤ sizeLine ∧ Vals xs its.toList
def absV : Value → Option V
  | .none => some .non
  | .bool b => some (.bl b)
  | .int i _ => some (.int i)
  | .str x _ => some (.str x)
  | .bytes b _ => some (.byt b)
  | .float b _ => some (.flt b)
  | .ref a => some (.ref a)
  | .type n => some (.ty n)
  | _ => none
theorem RelV.abs {x : V} {u : Value} (r : RelV x u) : absV u = some x := by
  cases x with
  | non => cases r; rfl
  | bl _ => cases r; rfl
  | int _ => obtain ⟨t, rfl⟩ := r; rfl
  | str _ => obtain ⟨t, rfl⟩ := r; rfl
  | byt _ => obtain ⟨t, rfl⟩ := r; rfl
  | flt _ => obtain ⟨t, rfl⟩ := r; rfl
  | ref _ => cases r; rfl
  | ty _ => cases r; rfl
theorem RelV.inj {x y : V} {u : Value} (r : RelV x u) (q : RelV y u) : x = y := Option.some.inj (r.abs.symm.trans q.abs)
theorem Vals.inj : ∀ {xs ys : List V} {us : List Value}, Vals xs us → Vals ys us → xs = ys
  | _, _, _, .nil, .nil => rfl
  | _, _, _, .cons r t, .cons r' t' => by rw [r.inj r', Vals.inj t t']
section
variable {X : Cx} {pins : List (Addr × Obj)} {σ : St} {H : Hp} {s : Shared} {a : Addr} {xs ys : List V}
theorem SqL.of {K : PySem.W.Frag} (h : H a = some (.lst xs)) : SqL K H a xs := .inl (.inl h)
theorem SqT.of {K : PySem.W.Frag} (h : H a = some (.tup xs)) : SqT K H a xs := .inl (.inl h)
theorem Inv.list (I : Inv X pins σ H s) (h : SqL X.K H a xs) : ∃ its : List Value, Vals xs its ∧ PlainL s.heap a its.toArray ∧ xs.length ≤ sizeLine := by
  rcases h with h | ⟨o, its, n, hk, hc, hd, hs, hz, r⟩
  · obtain ⟨z, its, n, r, e⟩ := h.ok I.hok
    exact ⟨its, r, ⟨_, n, e, rfl, rfl, rfl⟩, z⟩
  · refine ⟨its.toList, r, ⟨o, n, I.kIn a o hk, hc, hd, by simpa using hs⟩, ?_⟩
    have e := r.length
    simp only [Array.length_toList] at e
    omega
theorem Inv.tuple (I : Inv X pins σ H s) (h : SqT X.K H a xs) : ∃ its : List Value, Vals xs its ∧ IsTup s.heap a its.toArray ∧ xs.length ≤ sizeLine := by
  rcases h with h | ⟨o, its, n, hk, hc, hs, hz, r⟩
  · obtain ⟨z, its, r, p⟩ := h.ok I.hok
    exact ⟨its, r, p, z⟩
  · refine ⟨its.toList, r, ⟨o, I.kIn a o hk, hc, n, by simpa using hs⟩, ?_⟩
    have e := r.length
    simp only [Array.length_toList] at e
    omega
theorem Inv.list_inj (I : Inv X pins σ H s) (h : SqL X.K H a xs) (h' : SqL X.K H a ys) : xs = ys := by
  obtain ⟨its, r, ⟨o, n, e, _, _, d⟩, _⟩ := I.list h
  obtain ⟨its', r', ⟨o', n', e', _, _, d'⟩, _⟩ := I.list h'
  rw [e] at e'; cases e'
  rw [d] at d'
  injection d' with d1 _
  have : its = its' := by simpa using congrArg Array.toList d1
  subst this
  exact r.inj r'
theorem Inv.tuple_inj (I : Inv X pins σ H s) (h : SqT X.K H a xs) (h' : SqT X.K H a ys) : xs = ys := by
  obtain ⟨its, r, ⟨o, e, _, n, d⟩, _⟩ := I.tuple h
  obtain ⟨its', r', ⟨o', e', _, n', d'⟩, _⟩ := I.tuple h'
  rw [e] at e'; cases e'
  rw [d] at d'
  injection d' with d1 _
  have : its = its' := by simpa using congrArg Array.toList d1
  subst this
  exact r.inj r'
end

/-! ### another wish about exceptions -/
abbrev Cx.wish (X : Cx) (E : Value → Shared → Prop) : Cx := { X with xe := E }
/-- no exception leaves -/
abbrev Cx.nox (X : Cx) : Cx := X.wish fun _ _ => False
theorem Cx.Ok.wish {X : Cx} (ok : X.Ok) (E : Value → Shared → Prop) : (X.wish E).Ok :=
  ⟨ok.mod, ok.kind, ok.glob, ok.blt, ok.above, ok.inj, ok.has, ok.cab, ok.hd, ok.frames, ok.stk, ok.exf, ok.bs, ok.bsz, ok.noex, ok.exfs, ok.funs, ok.frf⟩
theorem Cx.Ok.unwish {X : Cx} {E : Value → Shared → Prop} (ok : (X.wish E).Ok) : X.Ok :=
  ⟨ok.mod, ok.kind, ok.glob, ok.blt, ok.above, ok.inj, ok.has, ok.cab, ok.hd, ok.frames, ok.stk, ok.exf, ok.bs, ok.bsz, ok.noex, ok.exfs, ok.funs, ok.frf⟩
section
variable {X : Cx} {pins : List (Addr × Obj)} {σ : St} {H : Hp} {s : Shared} {E : Value → Shared → Prop}
theorem Inv.wish (I : Inv X pins σ H s) (E : Value → Shared → Prop) : Inv (X.wish E) pins σ H s := ⟨I.ok.wish E, I.os, I.bare, I.base, I.loc, I.cell, I.free, I.freeC, I.pin, I.hok, I.len⟩
theorem Inv.unwish (I : Inv (X.wish E) pins σ H s) : Inv X pins σ H s := ⟨I.ok.unwish, I.os, I.bare, I.base, I.loc, I.cell, I.free, I.freeC, I.pin, I.hok, I.len⟩
theorem SP.unwish {D : Ends} {f : Flow} {s' : Shared} (h : SP (X.wish E) pins D f s') : SP X pins D f s' := by
  cases f with
  | next => obtain ⟨σ', H', I, q⟩ := h; exact ⟨σ', H', I.unwish, q⟩
  | brk => obtain ⟨σ', H', I, q⟩ := h; exact ⟨σ', H', I.unwish, q⟩
  | cont => obtain ⟨σ', H', I, q⟩ := h; exact ⟨σ', H', I.unwish, q⟩
  | ret u => obtain ⟨v, σ', H', I, r, q⟩ := h; exact ⟨v, σ', H', I.unwish, r, q⟩
theorem PSs.nox {st : List Stmt} {t : TS} (h : PSs X.nox st t) : PSs X st t := fun pins s σ H D I hw =>
  wpAny_mono (h pins s σ H D (I.wish _) hw) (fun _ _ q => q.unwish) fun _ _ z => False.elim z
end

/-! ### blocks and small statements -/
section
variable {X : Cx} {st : Stmt} {rest : List Stmt} {t u : TS} {e : Expr} {te : TE} {pos : Pos}
def tNext : TS := fun D σ H => D.nx σ H
def tSeq (t u : TS) : TS := fun D σ H => t { D with nx := u D } σ H
theorem pss_nil : PSs X [] tNext := fun _ _ σ H _ I h => wpAny_execs_nil ⟨σ, H, I, h⟩
theorem pss_cons (h1 : PS X st t) (h2 : PSs X rest u) : PSs X (st :: rest) (tSeq t u) := by
  intro pins s σ H D I h
  refine wpAny_execs_cons (thn (h1 pins s σ H { D with nx := u D } I h) fun f s1 q => ?_)
  cases f with
  | next =>
    obtain ⟨σ', H', I', q⟩ := q
    exact h2 pins s1 σ' H' D I' q
  | ret v => exact q
  | brk => exact q
  | cont => exact q
theorem pss_one (h1 : PS X st t) : PSs X [st] t := by
  intro pins s σ H D I h
  refine wpAny_execs_cons (thn (h1 pins s σ H D I h) fun f s1 q => ?_)
  cases f with
  | next => exact wpAny_execs_nil q
  | ret v => exact q
  | brk => exact q
  | cont => exact q
def tBreak : TS := fun D σ H => D.bk σ H
def tCont : TS := fun D σ H => D.ct σ H
/-- in a def's body nothing is shown -/
theorem Inv.quiet {pins : List (Addr × Obj)} {σ : St} {H : Hp} {s : Shared} (I : Inv X pins σ H s) : interactive X.env = false := by simp [interactive, I.ok.kind]
/-- an expression whose value is dropped -/
def tDrop (te : TE) : TS := fun D σ H => te σ H fun _ H1 => D.nx σ H1
theorem ps_expr (he : PE X e te) (hs : swapsWith e none pos.line X.env = pure false := by rfl) : PS X (.Expr e pos) (tDrop te) := by
  intro pins s σ H D I h
  exact wpAny_Expr_any (thn (he pins s σ H _ I h) fun v s1 ⟨x, H1, I1, r1, q1⟩ => ⟨σ, H1, I1, q1⟩) I.quiet hs
def tRet (te : TE) : TS := fun D σ H => te σ H D.rt
theorem ps_ret (he : PE X e te) : PS X (.Return (some e) pos) (tRet te) := by
  intro pins s σ H D I h
  exact wpAny_Return_some (thn (he pins s σ H _ I h) fun v s1 ⟨x, H1, I1, r1, q1⟩ => ⟨x, σ, H1, I1, r1, q1⟩)
def tRetN : TS := fun D _ H => D.rt .non H
def tIfS (c : TT) (t u : TS) : TS := fun D σ H => c σ H fun b H1 => if b = true then t D σ H1 else u D σ H1
theorem ps_if {c : Expr} {a b : List Stmt} {tc : TT} (hc : PT X c tc) (ha : PSs X a t) (hb : PSs X b u) : PS X (.If c a b pos) (tIfS tc t u) := by
  intro pins s σ H D I h
  refine wpAny_If (thn (hc pins s σ H _ I h) fun d s1 ⟨H1, I1, q1⟩ => ?_)
  cases d with
  | true => exact ha pins s1 σ H1 D I1 q1
  | false => exact hb pins s1 σ H1 D I1 q1
/-- code that the proof never comes to -/
def tNever : TS := fun _ _ _ => False
end

/-! ### targets -/
abbrev TG := V → St → Hp → (St → Hp → Prop) → Prop
abbrev TGs := List V → St → Hp → (St → Hp → Prop) → Prop
def PG (X : Cx) (target : Expr) (t : TG) : Prop :=
  ∀ (pins : List (Addr × Obj)) (s : Shared) (σ : St) (H : Hp) (v : V) (u : Value) (Q : St → Hp → Prop), Inv X pins σ H s → RelV v u → t v σ H Q →
    wpAny (model X.prog X.w) X.A (assign target X.env u) (fun _ s' => ∃ σ' H', Inv X pins σ' H' s' ∧ Q σ' H') X.xe s
/-- several targets, one after another -/
def PGs (X : Cx) (ts : List Expr) (t : TGs) : Prop :=
  ∀ (pins : List (Addr × Obj)) (s : Shared) (σ : St) (H : Hp) (vs : List V) (us : List Value) (Q : St → Hp → Prop), Inv X pins σ H s → Vals vs us → t vs σ H Q →
    wpAny (model X.prog X.w) X.A (assignInOrder ((assignEach ts X.env).map (·.2)) us) (fun _ s' => ∃ σ' H', Inv X pins σ' H' s' ∧ Q σ' H') X.xe s
/-- o[i] = v, by values -/
abbrev TSet := V → V → V → Hp → (Hp → Prop) → Prop
def PSet (X : Cx) (t : TSet) : Prop :=
  ∀ (pins : List (Addr × Obj)) (s : Shared) (σ : St) (H : Hp) (o i v : V) (ov iv u : Value) (Q : Hp → Prop), Inv X pins σ H s → RelV o ov → RelV i iv → RelV v u → t o i v H Q →
    wpAny (model X.prog X.w) X.A (setItem ov iv u) (fun _ s' => ∃ H', Inv X pins σ H' s' ∧ Q H') X.xe s
/-- a op= b, by values -/
abbrev TIp := V → V → Hp → VK → Prop
def PIp (X : Cx) (op : Operator) (t : TIp) : Prop :=
  ∀ (pins : List (Addr × Obj)) (s : Shared) (σ : St) (H : Hp) (x y : V) (v u : Value) (Q : VK), Inv X pins σ H s → RelV x v → RelV y u → t x y H Q →
    wpAny (model X.prog X.w) X.A (inplaceOp op v u) (EP X pins σ Q) X.xe s
section
variable {X : Cx} {pos : Pos}
def gName (i : Nat) : TG := fun v σ H Q => Q (σ.set i (some v)) H
theorem pg_name {i : Nat} {x : Str} (hN : X.N.Nodup) (hi : X.N[i]? = some x) (hx : Loc X.env.scope x) (hf : X.fn x = true ∨ X.env.scope.names.lookup x = some .local := by first | exact .inl rfl | exact .inr rfl | assumption) : PG X (.Name x pos) (gName i) := by
  intro pins s σ H v u Q I r h
  exact wpAny_assign_Name (store_ok I hN hi hx r (fun s' I' => ⟨_, H, I', h⟩) hf)
def gNil : TGs := fun vs σ H Q => vs = [] ∧ Q σ H
def gCons (t : TG) (u : TGs) : TGs := fun vs σ H Q => ∃ v r, vs = v :: r ∧ t v σ H fun σ' H' => u r σ' H' Q
theorem pgs_nil : PGs X [] gNil := by
  intro pins s σ H vs us Q I r h
  obtain ⟨e, h⟩ := h
  subst e
  cases r
  exact assignInOrder_nil ⟨σ, H, I, h⟩
theorem pgs_cons {e : Expr} {es : List Expr} {t : TG} {u : TGs} (h1 : PG X e t) (h2 : PGs X es u)
    (hs : (assignEach (e :: es) X.env).map (·.2) = assign e X.env :: (assignEach es X.env).map (·.2) := by rfl) : PGs X (e :: es) (gCons t u) := by
  intro pins s σ H vs us Q I r h
  obtain ⟨v, vr, e1, h⟩ := h
  subst e1
  cases r with
  | cons r rr =>
    rw [hs]
    refine assignInOrder_cons (thn (h1 pins s σ H _ _ _ I r h) fun _ s1 ⟨σ1, H1, I1, q1⟩ => ?_)
    exact h2 pins s1 σ1 H1 _ _ Q I1 rr q1
/-- (a, b, ..) = a tuple of that length -/
def gTup (K : PySem.W.Frag) (n : Nat) (t : TGs) : TG := fun v σ H Q => ∃ a xs, v = .ref a ∧ SqT K H a xs ∧ xs.length = n ∧ t xs σ H Q
theorem pg_tup {es : List Expr} {k : Nat} {t : TGs} {n : Nat} (hc : X.calm = true) (h : PGs X es t)
    (hn : (assignEach es X.env).length = n := by rfl) (hst : (assignEach es X.env).findIdx? (·.1) = none := by rfl) : PG X (.Tuple es k pos) (gTup X.K n t) := by
  intro pins s σ H v u Q I r hw
  obtain ⟨a, xs, e1, hq, hl, hw⟩ := hw
  subst e1
  cases r
  obtain ⟨its, rv, ht, hz⟩ := I.tuple hq
  refine assign_Tuple_tuple (I.ok.hd hc) ht (by simp [hn, ← hl, rv.length]) hst fun h' hx => ?_
  have I1 : Inv X pins σ H { s with heap := h' } := I.kept (t' := s.toks) fun b o e => hx b o (Nat.ne_of_lt (Heap.lt_size e)) e
  exact h pins _ σ H xs _ Q I1 (by simpa using rv) hw
/-- o[i] = .. -/
def gSub (to ti : TE) (t : TSet) : TG := fun v σ H Q => to σ H fun o H1 => ti σ H1 fun i H2 => t o i v H2 fun H3 => Q σ H3
theorem pg_sub {o i : Expr} {to ti : TE} {t : TSet} (ho : PE X o to) (hi : PE X i ti) (hs : PSet X t)
    (ha : ∀ v, assign (.Subscript o i pos) X.env v = (do
      let ov ← holding [v] (eval o X.env)
      let iv ← holding [v, ov] (eval i X.env)
      standAt pos
      holding [v, ov, iv] (setItem ov iv v)
      release [v, ov, iv] []) := by intro _; rfl) : PG X (.Subscript o i pos) (gSub to ti t) := by
  intro pins s σ H v u Q I r h
  rw [ha]
  refine wpAny_bind (wpAny_holding (thn (ho pins s σ H _ I h) fun ov s1 ⟨x, H1, I1, r1, q1⟩ => ?_))
  refine wpAny_bind (wpAny_holding (thn (hi pins s1 σ H1 _ I1 q1) fun iv s2 ⟨y, H2, I2, r2, q2⟩ => ?_))
  refine wpAny_bind (wpAny_standAt (wpAny_bind (wpAny_holding (thn (hs pins s2 σ H2 x y v ov iv u _ I2 r1 r2 r q2) fun _ s3 ⟨H3, I3, q3⟩ => ?_))))
  exact wpAny_release ⟨σ, H3, I3, q3⟩
/-- target = value -/
def tAsg (te : TE) (g : TG) : TS := fun D σ H => te σ H fun x H1 => g x σ H1 D.nx
theorem ps_asg {tg e : Expr} {te : TE} {g : TG} (he : PE X e te) (hg : PG X tg g) (hs : swapsWithSole [tg] e pos.line X.env = pure false := by rfl) (hw : swappedStores [tg] e X.env = pure none := by rfl)
    (h1 : (assignEach [tg] X.env).map (·.2) = [assign tg X.env] := by rfl) : PS X (.Assign [tg] e pos) (tAsg te g) := by
  intro pins s σ H D I h
  refine wpAny_Assign_stores (thn (he pins s σ H _ I h) fun v s1 ⟨x, H1, I1, r1, q1⟩ => ?_) hs hw
  rw [h1]
  exact thn (hg pins s1 σ H1 x v _ I1 r1 q1) fun _ s2 q => q
/-- name = value -/
theorem ps_set {i : Nat} {x : Str} {e : Expr} {te : TE} {pos' : Pos} (hN : X.N.Nodup) (hi : X.N[i]? = some x) (hx : Loc X.env.scope x) (he : PE X e te) (hs : swapsWith e (some (.Name x pos')) pos.line X.env = pure false := by rfl) (hf : X.fn x = true ∨ X.env.scope.names.lookup x = some .local := by first | exact .inl rfl | exact .inr rfl | assumption) :
    PS X (.Assign [.Name x pos'] e pos) (tAsg te (gName i)) := by
  intro pins s σ H D I h
  refine wpAny_Assign_Name (thn (he pins s σ H _ I h) fun v s1 ⟨y, H1, I1, r1, q1⟩ => ?_) hs
  exact store_ok I1 hN hi hx r1 (fun s2 I2 => ⟨_, H1, I2, q1⟩) hf
/-- a, b = x, y with plain local names: stored from the right; the pair itself is not tracked (the opening rows as in PyProof/Rows/TupAssign.lean:23) -/
def tPar (i j : Nat) (ta : TA) : TS := fun D σ H => ta σ H fun vs H1 => ∃ v w, vs = [v, w] ∧ D.nx ((σ.set i (some v)).set j (some w)) H1
theorem ps_par {i j : Nat} {x y : Str} {a b : Expr} {ta : TA} {px py pt : Pos} {kt k2 pt2} (hc : X.calm = true) (hN : X.N.Nodup) (hi : X.N[i]? = some x) (hj : X.N[j]? = some y) (hij : i ≠ j)
    (hx : X.env.scope.names.lookup x = some .local) (hy : X.env.scope.names.lookup y = some .local) (ha : PA X [a, b] ta)
    (hw : swappedStores [.Tuple [.Name x px, .Name y py] kt pt] (.Tuple [a, b] k2 pt2) X.env = pure (some [x, y]))
    (hs : swapsWithSole [.Tuple [.Name x px, .Name y py] kt pt] (.Tuple [a, b] k2 pt2) pos.line X.env = pure false := by rfl) :
    PS X (.Assign [.Tuple [.Name x px, .Name y py] kt pt] (.Tuple [a, b] k2 pt2) pos) (tPar i j ta) := by
  intro pins s σ H D I h
  rw [exec_Assign_arm]
  refine wpAny_bind (wpAny_standAt ?_)
  rw [hs]
  refine wpAny_bind (wpAny_pure ?_)
  rw [if_neg (by decide)]
  refine wpAny_bind (Tuple_ (thn (ha _ pins s σ H _ I h) fun us s1 ⟨vs, H1, I1, r1, q1⟩ => ?_))
  obtain ⟨v, w, e1, q1⟩ := q1
  subst e1
  obtain ⟨u1, u2, rfl, rv, rw'⟩ : ∃ u1 u2, us = [u1, u2] ∧ RelV v u1 ∧ RelV w u2 := by
    cases r1 with
    | cons p q =>
      cases q with
      | cons p' q' =>
        cases q'
        exact ⟨_, _, rfl, p, p'⟩
  refine wpAny_newObj_type ?_ (by show 2 ≤ sizeLine; decide)
  have I2 : Inv X pins σ H1 { s1 with heap := s1.heap.push { cls := .type "tuple", data := .seq [u1, u2].toArray } } := I1.kept (t' := s1.toks) fun b o e => Heap.get?_push_of_some _ e
  rw [hw]
  refine wpAny_bind (wpAny_pure ?_)
  show wpAny (model X.prog X.w) X.A (do rule "assign.swapped-stores"; let items ← unpackItems (.ref s1.heap.objs.size) 2 none; assignInOrder [fun v => bindName X.env y v, fun v => bindName X.env x v] items.reverse; pure Flow.next) _ _ _
  refine wpAny_bind (wpAny_rule (wpAny_bind (unpackItems_tuple (items := #[u1, u2]) (I.ok.hd hc) (IsTup.new s1.heap _) fun h' hx' => ?_)))
  have I3 := I2.kept (h' := h') (t' := s1.toks) fun b o e => hx' b o (Nat.ne_of_lt (Heap.lt_size e)) e
  show wpAny _ _ (assignInOrder [fun v => bindName X.env y v, fun v => bindName X.env x v] [u2, u1] >>= fun _ => pure Flow.next) _ _ _
  refine wpAny_bind (assignInOrder_cons (wpAny_bindName (store_ok I3 hN hj (.inl hy) rw' (fun s2 I4 => ?_) (.inr hy))))
  refine assignInOrder_cons (wpAny_bindName (store_ok I4 hN hi (.inl hx) rv (fun s3 I5 => assignInOrder_nil (wpAny_pure ?_)) (.inr hx)))
  rw [List.set_comm _ _ (Ne.symm hij)] at I5
  exact ⟨_, H1, I5, q1⟩
/-- name op= e -/
def tAug (i : Nat) (te : TE) (ti : TIp) : TS := fun D σ H => ∃ x, σ[i]? = some (some x) ∧ te σ H fun y H1 => ti x y H1 fun z H2 => D.nx (σ.set i (some z)) H2
/-- o[i] op= e -/
def tAugS (to ti te : TE) (tget : V → V → Hp → VK → Prop) (tip : TIp) (tset : TSet) : TS := fun D σ H => to σ H fun o H1 => ti σ H1 fun i H2 => tget o i H2 fun x H3 => te σ H3 fun y H4 => tip x y H4 fun z H5 => tset o i z H5 fun H6 => D.nx σ H6
/-- o[i], by values -/
def PGet (X : Cx) (t : V → V → Hp → VK → Prop) : Prop :=
  ∀ (pins : List (Addr × Obj)) (s : Shared) (σ : St) (H : Hp) (o i : V) (ov iv : Value) (Q : VK), Inv X pins σ H s → RelV o ov → RelV i iv → t o i H Q →
    wpAny (model X.prog X.w) X.A (getItem ov iv) (EP X pins σ Q) X.xe s
/-- ints -/
def ipI (f : Int → Int → Int) : TIp := fun x y H Q => ∃ i j, x = .int i ∧ y = .int j ∧ Q (.int (f i j)) H
end

/-! ### while -/
section
variable {X : Cx} {pos : Pos}
/-- the invariant W with its measure -/
def tWhile (c : TT) (tb : TS) : TS := fun D σ H => ∃ W : Nat → St → Hp → Prop, (∃ m, W m σ H) ∧ ∀ m σ H, W m σ H →
  c σ H fun b H1 => if b = true then ∃ N : St → Hp → Prop, (∀ σ' H', N σ' H' → ∃ m', m' < m ∧ W m' σ' H') ∧ tb { D with nx := N, ct := N, bk := D.nx } σ H1 else D.nx σ H1
end

/-! ### what a loop or a comprehension walks -/
/-- at turn i: it yields x (the heap may grow), or it stops -/
structure It where
  go : Nat → Hp → Prop
  yld : Nat → Hp → V → Hp → Prop
  stop : Nat → Hp → Prop
/-- the iterator's own objects may turn: they are not the frame's, not pinned, younger than the entry (or a comprehension's own) -/
def FpOk (X : Cx) (pins : List (Addr × Obj)) (H : Hp) (b : Addr) : Prop :=
  H b = none ∧ b ≠ X.env.locals ∧ b ∉ X.fs ∧ (b ∈ X.ex ∨ X.s₀.heap.objs.size ≤ b) ∧ (∀ x c, X.env.cells.lookup x = some c → c ≠ b) ∧ ∀ p ∈ X.pn ++ pins, p.1 ≠ b
theorem Inv.fpOk {X : Cx} {pins : List (Addr × Obj)} {σ : St} {H H' : Hp} {s : Shared} {b : Addr} (I : Inv X pins σ H s) (hb : s.heap.objs.size ≤ b) (hn : H' b = none) : FpOk X pins H' b := by
  refine ⟨hn, Nat.ne_of_gt (Nat.lt_of_lt_of_le I.lt hb), I.nofs hb, .inr (Nat.le_trans I.sz hb), fun x c e z => ?_, fun p hp z => ?_⟩
  · obtain ⟨v, q⟩ := I.cell x c e
    exact absurd (Nat.lt_of_lt_of_le q.lt (by rw [z]; exact hb)) (Nat.lt_irrefl _)
  · exact absurd (Nat.lt_of_lt_of_le (Heap.lt_size (I.pin p hp).1) (by rw [z]; exact hb)) (Nat.lt_irrefl _)
structure Turn (P : Program) (w : World) (K : PySem.W.Frag) (tg : Expr) (J : It) (fp : List Addr) (it : Addr) (tn : Nat → Heap → Prop) : Prop where
  mem : it ∈ fp
  obj : ∀ i h, tn i h → ∀ b ∈ fp, ∃ o, h.get? b = some o ∧ ∀ v, o.data ≠ .cell v
  keep : ∀ i h h', tn i h → (∀ b ∈ fp, ∀ o, h.get? b = some o → h'.get? b = some o) → tn i h'
  item : ∀ (X : Cx), X.prog = P → X.w = w → X.K = K → X.calm = true → ∀ (i : Nat) (pins : List (Addr × Obj)) (s : Shared) (σ : St) (H : Hp) (E : Value → Shared → Prop), Inv X pins σ H s → (∀ b ∈ fp, FpOk X pins H b) → tn i s.heap → J.go i H →
    wpAny (model P w) X.A (pyNext (.ref it)) (fun r s1 => ∃ u, r = some u ∧
      wpAny (model P w) X.A (letOwnedTupleGo tg (.ref it) u) (fun _ s2 => ∃ x H', Inv X pins σ H' s2 ∧ RelV x u ∧ J.yld i H x H' ∧ tn (i + 1) s2.heap ∧ ∀ b ∈ fp, H' b = none) E s1) E s
  done : ∀ (X : Cx), X.prog = P → X.w = w → X.K = K → X.calm = true → ∀ (i : Nat) (pins : List (Addr × Obj)) (s : Shared) (σ : St) (H : Hp) (E : Value → Shared → Prop), Inv X pins σ H s → (∀ b ∈ fp, FpOk X pins H b) → tn i s.heap → J.stop i H →
    wpAny (model P w) X.A (pyNext (.ref it)) (fun r s1 => r = none ∧ Inv X pins σ H s1) E s
  self : ∀ (A : Around) (i : Nat) (s : Shared) (Q : Value → Shared → Prop) (E : Value → Shared → Prop), tn i s.heap → Q (.ref it) s → wpAny (model P w) A (pyIter (.ref it)) Q E s
abbrev TI := St → Hp → (It → Hp → Prop) → Prop
/-- an iterator has come -/
def PIE (X : Cx) (pins : List (Addr × Obj)) (σ : St) (tg : Expr) (R : It → Hp → Prop) (itv : Value) (s2 : Shared) : Prop :=
  ∃ (it : Addr) (fp : List Addr) (tn : Nat → Heap → Prop) (J : It) (H' : Hp), itv = .ref it ∧ Inv X pins σ H' s2 ∧ Turn X.prog X.w X.K tg J fp it tn ∧ tn 0 s2.heap ∧ (∀ b ∈ fp, FpOk X pins H' b) ∧ R J H'
def PI (X : Cx) (tg iter : Expr) (wi : TI) : Prop :=
  ∀ (pins : List (Addr × Obj)) (s : Shared) (σ : St) (H : Hp) (R : It → Hp → Prop), Inv X pins σ H s → wi σ H R →
    wpAny (model X.prog X.w) X.A (eval iter X.env) (fun v s1 => wpAny (model X.prog X.w) X.A (pyIter v) (PIE X pins σ tg R) X.xe s1) X.xe s

/-- the step ahead of the store is nothing for an iterator that keeps no tuple -/
theorem go_of {M : Model} {A : Around} {E : Value → Shared → Prop} {s : Shared} {tg : Expr} {it : Addr} {u : Value} {o : Obj} {n : String} {vs : Array Value} {Q : Unit → Shared → Prop} (ho : s.heap.get? it = some o) (hc : o.cls = .type n) (hd : o.data = .fields vs)
    (hn : ["enumerate", "zip", "dict_itemiterator", "dict_reverseitemiterator", "odict_iterator", "itertools.zip_longest", "itertools.pairwise"].contains n = false) (hQ : Q () s) : wpAny M A (letOwnedTupleGo tg (.ref it) u) Q E s := by
  unfold letOwnedTupleGo
  cases tg <;> first
    | exact wpAny_pure hQ
    | (cases u <;> first
        | exact wpAny_pure hQ
        | (refine wpAny_bind (wpAny_load ho ?_)
           rw [hc, hd]
           show wpAny M A (if (["enumerate", "zip", "dict_itemiterator", "dict_reverseitemiterator", "odict_iterator", "itertools.zip_longest", "itertools.pairwise"].contains n && vs[0]? == some (rawInt _)) = true then _ else _) Q E s
           rw [if_neg (by intro h; rw [hn, Bool.false_and] at h; cases h)]
           exact wpAny_pure hQ))

/-- the list at a, as it stands at each turn (a loop may append to it) -/
def Itl (K : PySem.W.Frag) (a : Addr) : It :=
  ⟨fun i H => ∃ xs x, SqL K H a xs ∧ xs[i]? = some x, fun i H x H' => H' = H ∧ ∀ xs, SqL K H a xs → xs[i]? = some x, fun i H => ∃ xs, SqL K H a xs ∧ xs.length ≤ i⟩
def Itt (K : PySem.W.Frag) (a : Addr) : It :=
  ⟨fun i H => ∃ xs x, SqT K H a xs ∧ xs[i]? = some x, fun i H x H' => H' = H ∧ ∀ xs, SqT K H a xs → xs[i]? = some x, fun i H => ∃ xs, SqT K H a xs ∧ xs.length ≤ i⟩
/-- lo, lo + 1, .. (n of them) -/
def Itr (lo : Int) (n : Nat) : It := ⟨fun i _ => i < n, fun i H x H' => H' = H ∧ x = .int (lo + i), fun i _ => n ≤ i⟩
theorem turn_list {P : Program} {w : World} {K : PySem.W.Frag} {tg : Expr} (a it : Addr) : Turn P w K tg (Itl K a) [it] it (fun i h => h.IsListIter it a i) where
  mem := by simp
  obj := fun i h st b hb => by
    have e : b = it := by simpa using hb
    subst e
    obtain ⟨o, e, c, d⟩ := st
    exact ⟨o, e, fun v z => by rw [d] at z; cases z⟩
  keep := fun i h h' st k => st.at fun o e => k it (by simp) o e
  item := by
    intro X hP hw hK hc i pins s σ H E I hf st hg
    subst hP hw hK
    obtain ⟨xs, x, hq, hx⟩ := hg
    obtain ⟨its, rv, p, hz⟩ := I.list hq
    obtain ⟨u, hu, ru⟩ := rv.get hx
    obtain ⟨f0, f1, f2, f3, f4, f5⟩ := hf it (by simp)
    refine wpAny_pyNext_list_item st p.isList (x := u) (by simpa using hu) fun h' st' sb => ?_
    have I1 : Inv X pins σ H { s with heap := h' } := I.turned (t' := s.toks) (fun b o hb e => (sb.2 b hb).trans e) f0 f1 f3 f4 f5
    obtain ⟨o, e, c, d⟩ := id st'
    exact ⟨u, rfl, go_of (s := { s with heap := h' }) e c d (by decide) ⟨x, H, I1, ru, ⟨rfl, fun ys hy => by rw [I.list_inj hy hq]; exact hx⟩, st', fun b hb => (hf b hb).1⟩⟩
  done := by
    intro X hP hw hK hc i pins s σ H E I hf st hg
    subst hP hw hK
    obtain ⟨xs, hq, hx⟩ := hg
    obtain ⟨its, rv, p, hz⟩ := I.list hq
    obtain ⟨f0, f1, f2, f3, f4, f5⟩ := hf it (by simp)
    have hl := rv.length
    exact wpAny_pyNext_list_end (I.ok.hd hc) st p.isList (by simp; omega) fun h' eb => ⟨rfl, I.turned (t' := s.toks) (fun b o hb e => eb b o hb e) f0 f1 f3 f4 f5⟩
  self := fun _ _ _ _ _ st h => wpAny_pyIter_listiter st h
theorem turn_tuple {P : Program} {w : World} {K : PySem.W.Frag} {tg : Expr} (a it : Addr) : Turn P w K tg (Itt K a) [it] it (fun i h => h.IsTupleIter it a i) where
  mem := by simp
  obj := fun i h st b hb => by
    have e : b = it := by simpa using hb
    subst e
    obtain ⟨o, e, c, d⟩ := st
    exact ⟨o, e, fun v z => by rw [d] at z; cases z⟩
  keep := fun i h h' st k => st.at fun o e => k it (by simp) o e
  item := by
    intro X hP hw hK hc i pins s σ H E I hf st hg
    subst hP hw hK
    obtain ⟨xs, x, hq, hx⟩ := hg
    obtain ⟨its, rv, p, hz⟩ := I.tuple hq
    obtain ⟨u, hu, ru⟩ := rv.get hx
    obtain ⟨f0, f1, f2, f3, f4, f5⟩ := hf it (by simp)
    refine wpAny_pyNext_tuple_item st (show s.heap.IsTuple a its.toArray from p) (x := u) (by simpa using hu) fun h' st' sb => ?_
    have I1 : Inv X pins σ H { s with heap := h' } := I.turned (t' := s.toks) (fun b o hb e => (sb.2 b hb).trans e) f0 f1 f3 f4 f5
    obtain ⟨o, e, c, d⟩ := id st'
    exact ⟨u, rfl, go_of (s := { s with heap := h' }) e c d (by decide) ⟨x, H, I1, ru, ⟨rfl, fun ys hy => by rw [I.tuple_inj hy hq]; exact hx⟩, st', fun b hb => (hf b hb).1⟩⟩
  done := by
    intro X hP hw hK hc i pins s σ H E I hf st hg
    subst hP hw hK
    obtain ⟨xs, hq, hx⟩ := hg
    obtain ⟨its, rv, p, hz⟩ := I.tuple hq
    obtain ⟨f0, f1, f2, f3, f4, f5⟩ := hf it (by simp)
    have hl := rv.length
    exact wpAny_pyNext_tuple_end (I.ok.hd hc) st (show s.heap.IsTuple a its.toArray from p) (by simp; omega) fun h' eb => ⟨rfl, I.turned (t' := s.toks) (fun b o hb e => eb b o hb e) f0 f1 f3 f4 f5⟩
  self := fun _ _ _ _ _ st h => wpAny_pyIter_tupleiter st h
theorem turn_range {P : Program} {w : World} {K : PySem.W.Frag} {tg : Expr} (it : Addr) (lo : Int) (n : Nat) : Turn P w K tg (Itr lo n) [it] it (fun i h => IsRangeIter h it (lo + (i : Nat) * 1) ((n : Int) - (i : Nat)) 1) where
  mem := by simp
  obj := fun i h st b hb => by
    have e : b = it := by simpa using hb
    subst e
    exact ⟨_, st, fun v z => by
      have z' : Data.fields _ = Data.cell v := z
      cases z'⟩
  keep := fun i h h' st k => k it (by simp) _ st
  item := by
    intro X hP hw hK hc i pins s σ H E I hf st hg
    subst hP hw hK
    obtain ⟨f0, f1, f2, f3, f4, f5⟩ := hf it (by simp)
    have W := Walks.range (prog := X.prog) (w := X.w) (I.ok.hd hc) it lo 1 n
    refine W.item i s _ _ hg st fun v h' tk hv st' kk => ?_
    obtain ⟨t, rfl⟩ := hv
    have I1 : Inv X pins σ H { s with heap := h', toks := tk } := I.turned (fun b o hb e => kk b o (by simpa using hb) e) f0 f1 f3 f4 f5
    refine ⟨_, rfl, go_of (s := { s with heap := h', toks := tk }) (n := "range_iterator") st' rfl rfl (by decide) ⟨.int (lo + i), H, I1, ⟨t, ?_⟩, ⟨rfl, rfl⟩, st', fun b hb => (hf b hb).1⟩⟩
    rw [Int.mul_one]
  done := by
    intro X hP hw hK hc i pins s σ H E I hf st hg
    subst hP hw hK
    obtain ⟨f0, f1, f2, f3, f4, f5⟩ := hf it (by simp)
    exact wpAny_pyNext_range_end (I.ok.hd hc) st (by have : n ≤ i := hg; omega) fun h' eb => ⟨rfl, I.turned (t' := s.toks) (fun b o hb e => eb b o hb e) f0 f1 f3 f4 f5⟩
  self := fun _ _ _ _ _ st h => wpAny_pyIter_rangeiter st h
end L2

namespace L2
open PySem PySem.Spec PyProof.Rows
section
variable {X : Cx} {tg : Expr}
def iList (K : PySem.W.Frag) (tl : TE) : TI := fun σ H R => tl σ H fun x H1 => ∃ a, x = .ref a ∧ (∃ xs, SqL K H1 a xs) ∧ R (Itl K a) H1
def iTup (K : PySem.W.Frag) (tl : TE) : TI := fun σ H R => tl σ H fun x H1 => ∃ a, x = .ref a ∧ (∃ xs, SqT K H1 a xs) ∧ R (Itt K a) H1
theorem pi_list {l : Expr} {tl : TE} (hl : PE X l tl) : PI X tg l (iList X.K tl) := by
  intro pins s σ H R I h
  refine thn (hl pins s σ H _ I h) fun v s1 ⟨x, H1, I1, r1, q1⟩ => ?_
  obtain ⟨a, e, ⟨xs, hq⟩, q⟩ := q1
  subst e
  cases r1
  obtain ⟨its, rv, p, hz⟩ := I1.list hq
  refine wpAny_pyIter_list p.isList ?_
  refine ⟨s1.heap.objs.size, [s1.heap.objs.size], _, _, H1, rfl, I1.kept (t' := s1.toks) fun b o e => Heap.get?_push_of_some _ e, turn_list a _, ⟨_, Heap.get?_push_size _ rfl, rfl, rfl⟩, fun b hb => ?_, q⟩
  have e : b = s1.heap.objs.size := by simpa using hb
  subst e
  exact I1.fpOk (Nat.le_refl _) (I1.hok.fresh (Nat.le_refl _))
theorem pi_tup {l : Expr} {tl : TE} (hl : PE X l tl) : PI X tg l (iTup X.K tl) := by
  intro pins s σ H R I h
  refine thn (hl pins s σ H _ I h) fun v s1 ⟨x, H1, I1, r1, q1⟩ => ?_
  obtain ⟨a, e, ⟨xs, hq⟩, q⟩ := q1
  subst e
  cases r1
  obtain ⟨its, rv, p, hz⟩ := I1.tuple hq
  refine wpAny_pyIter_tuple (show s1.heap.IsTuple a its.toArray from p) ?_
  refine ⟨s1.heap.objs.size, [s1.heap.objs.size], _, _, H1, rfl, I1.kept (t' := s1.toks) fun b o e => Heap.get?_push_of_some _ e, turn_tuple a _, ⟨_, Heap.get?_push_size _ rfl, rfl, rfl⟩, fun b hb => ?_, q⟩
  have e : b = s1.heap.objs.size := by simpa using hb
  subst e
  exact I1.fpOk (Nat.le_refl _) (I1.hok.fresh (Nat.le_refl _))
/-- a range object just made, walked -/
theorem range_it {pins : List (Addr × Obj)} {σ : St} {H : Hp} {s : Shared} {R : It → Hp → Prop} {E : Value → Shared → Prop} {lo hi : Int} {t u v : Tok} {tk : Nat} (I : Inv X pins σ H s) (h1 : -(2 ^ 62) ≤ lo) (h2 : lo < 2 ^ 62) (h3 : -(2 ^ 62) ≤ hi) (h4 : hi < 2 ^ 62)
    (q : R (Itr lo (hi - lo).toNat) H) : wpAny (model X.prog X.w) X.A (pyIter (.ref s.heap.objs.size)) (PIE X pins σ tg R) E { s with heap := s.heap.push { cls := .type "range", data := .fields #[.int lo t, .int hi u, .int 1 v] }, toks := tk } := by
  refine wpAny_pyIter_range (IsRange.new ..) (small_one h1 h2 h3 h4) ?_
  have I1 : Inv X pins σ H { s with heap := s.heap.push { cls := .type "range", data := .fields #[.int lo t, .int hi u, .int 1 v] }, toks := tk } := I.kept fun b o e => Heap.get?_push_of_some _ e
  refine ⟨(s.heap.push { cls := .type "range", data := .fields #[.int lo t, .int hi u, .int 1 v] }).objs.size, [(s.heap.push { cls := .type "range", data := .fields #[.int lo t, .int hi u, .int 1 v] }).objs.size], _, _, H, rfl,
    I1.kept (t' := tk) fun b o e => Heap.get?_push_of_some _ e, turn_range _ lo (hi - lo).toNat, ?_, fun b hb => ?_, q⟩
  · have e1 : lo + ((0 : Nat) : Int) * 1 = lo := by simp
    have e2 : (((hi - lo).toNat : Nat) : Int) - ((0 : Nat) : Int) = Builtin.Range.rangeSize lo hi 1 := by rw [rangeSize_one]; split <;> omega
    show IsRangeIter _ _ (lo + ((0 : Nat) : Int) * 1) ((((hi - lo).toNat : Nat) : Int) - ((0 : Nat) : Int)) 1
    rw [e1, e2]
    exact Heap.get?_push_size _ rfl
  · have e : b = (s.heap.push { cls := .type "range", data := .fields #[.int lo t, .int hi u, .int 1 v] }).objs.size := by simpa using hb
    subst e
    exact I1.fpOk (Nat.le_refl _) (I1.hok.fresh (Nat.le_refl _))
def iRng1 (ta : TA) : TI := fun σ H R => ta σ H fun vs H1 => ∃ j : Int, vs = [.int j] ∧ -(2 ^ 62) ≤ j ∧ j < 2 ^ 62 ∧ R (Itr 0 j.toNat) H1
def iRng2 (ta : TA) : TI := fun σ H R => ta σ H fun vs H1 => ∃ i j : Int, vs = [.int i, .int j] ∧ (-(2 ^ 62) ≤ i ∧ i < 2 ^ 62 ∧ -(2 ^ 62) ≤ j ∧ j < 2 ^ 62) ∧ R (Itr i (j - i).toNat) H1
theorem pi_range1 {a : Expr} {ta : TA} {p pos : Pos} (hg : Gl X "range") (hm : X.mg "range" = none) (ha : PA X [a] ta) (hs : starEach [a] X.env = [(false, eval a X.env)] := by rfl) : PI X tg (.Call (.Name "range" p) [a] [] pos) (iRng1 ta) := by
  intro pins s σ H R I h
  refine Call_ (ld_blt I hg hm boot_range (PyProof.Rows.callWith_type1 (thn (ha pos pins s σ H _ I h) fun us s1 ⟨vs, H1, I1, r1, q1⟩ => ?_) hs rfl))
  obtain ⟨j, e, q1, q2, q⟩ := q1
  subst e
  cases r1 with
  | cons r rr =>
    cases rr
    obtain ⟨t, rfl⟩ := r
    exact call_range_1 (range_it I1 (by omega) (by omega) q1 q2 (by simpa using q))
theorem pi_range2 {a b : Expr} {ta : TA} {p pos : Pos} (hg : Gl X "range") (hm : X.mg "range" = none) (ha : PA X [a, b] ta) (hs : starEach [a, b] X.env = [(false, eval a X.env), (false, eval b X.env)] := by rfl) (hs2 : starEach [b] X.env = [(false, eval b X.env)] := by rfl) :
    PI X tg (.Call (.Name "range" p) [a, b] [] pos) (iRng2 ta) := by
  intro pins s σ H R I h
  refine Call_ (ld_blt I hg hm boot_range (PyProof.Rows.callWith_type1 (thn (ha pos pins s σ H _ I h) fun us s1 ⟨vs, H1, I1, r1, q1⟩ => ?_) (by rw [hs, hs2]) (by rw [hs2]; rfl)))
  obtain ⟨i, j, e, ⟨q1, q2, q3, q4⟩, q⟩ := q1
  subst e
  cases r1 with
  | cons r rr =>
    cases rr with
    | cons r' rr =>
      cases rr
      obtain ⟨t, rfl⟩ := r
      obtain ⟨t', rfl⟩ := r'
      exact call_range_2 (range_it I1 q1 q2 q3 q4 q)

/-! ### for -/
/-- W: the invariant by the turn and a measure; N: what the body is to reach -/
def tFor (wi : TI) (g : TG) (tb : TS) : TS := fun D σ H => wi σ H fun J H1 => ∃ W : Nat → Nat → St → Hp → Prop, (∃ m, W 0 m σ H1) ∧ ∀ i m σ H, W i m σ H →
  (J.stop i H ∧ D.nx σ H) ∨ (J.go i H ∧ ∃ N : St → Hp → Prop, (∀ σ' H', N σ' H' → ∃ m', m' < m ∧ W (i + 1) m' σ' H') ∧ ∀ x H', J.yld i H x H' → g x σ H' fun σ2 H2 => tb { D with nx := N, ct := N, bk := D.nx } σ2 H2)
/-- the records at fp as they stand -/
def pinsAt (fp : List Addr) (h : Heap) : List (Addr × Obj) := fp.filterMap fun b => (h.get? b).map fun o => (b, o)
theorem mem_pinsAt {fp : List Addr} {h : Heap} {b : Addr} {o : Obj} (hb : b ∈ fp) (e : h.get? b = some o) : (b, o) ∈ pinsAt fp h := List.mem_filterMap.mpr ⟨b, hb, by rw [e]; rfl⟩
theorem of_pinsAt {fp : List Addr} {h : Heap} {p : Addr × Obj} (hp : p ∈ pinsAt fp h) : p.1 ∈ fp ∧ h.get? p.1 = some p.2 := by
  obtain ⟨b, hb, e⟩ := List.mem_filterMap.mp hp
  cases q : h.get? b with
  | none => rw [q] at e; cases e
  | some o =>
    rw [q] at e
    have e' : (b, o) = p := Option.some.inj e
    subst e'
    exact ⟨hb, q⟩
theorem Inv.pinned {pins : List (Addr × Obj)} {σ : St} {H : Hp} {s : Shared} {fp : List Addr} (I : Inv X pins σ H s) (hf : ∀ b ∈ fp, FpOk X pins H b) (ho : ∀ b ∈ fp, ∃ o, s.heap.get? b = some o ∧ ∀ v, o.data ≠ .cell v) : Inv X (pins ++ pinsAt fp s.heap) σ H s :=
  I.pins_of fun p hp => (List.mem_append.mp hp).elim (fun z => I.pin p (List.mem_append_right _ z)) fun z => by
    obtain ⟨hb, e⟩ := of_pinsAt z
    obtain ⟨f0, f1, f2, _⟩ := hf p.1 hb
    obtain ⟨o, e', d⟩ := ho p.1 hb
    rw [e] at e'; cases e'
    exact ⟨e, f0, f1, f2, d⟩
theorem Inv.unpinned {pins pl : List (Addr × Obj)} {σ : St} {H : Hp} {s : Shared} (I : Inv X (pins ++ pl) σ H s) : Inv X pins σ H s := I.pins_of fun p hp => I.pin p (List.mem_append_right _ (List.mem_append_left _ hp))
theorem ps_for {iter : Expr} {body : List Stmt} {wi : TI} {g : TG} {tb : TS} {pos : Pos} (hp : PassesOwn (model X.prog X.w) X.A X.env X.xe) (hc : X.calm = true) (hi : PI X tg iter wi) (hg : PG X tg g) (hb : PSs X body tb)
    (hs : ∀ x, foldedSetIterable iter X.env x = pure x := by intro _; rfl) : PS X (.For tg iter body [] pos) (tFor wi g tb) := by
  intro pins s σ H D I h
  refine wpAny_For (thn (hi pins s σ H _ I h) fun v s1 h1 => thn h1 fun itv s2 h2 => ?_) hs
  obtain ⟨it, fp, tn, J, H2, e, I2, T, st2, f2, W, ⟨m0, w0⟩, turn⟩ := h2
  subst e
  -- what stays true of the iterator's objects through the loop
  have stat : ∀ {H' : Hp}, (∀ b ∈ fp, H' b = none) → ∀ b ∈ fp, FpOk X pins H' b := fun hn b hb => ⟨hn b hb, (f2 b hb).2⟩
  refine codeAny_forLoop_any (fun n s' => ∃ i σ' H', Inv X pins σ' H' s' ∧ tn i s'.heap ∧ (∀ b ∈ fp, H' b = none) ∧ W i n σ' H') ?_ m0 ⟨0, σ, H2, I2, st2, fun b hb => (f2 b hb).1, w0⟩
  rintro n s3 ⟨i, σ3, H3, I3, st3, fr3, w3⟩
  rcases turn i n σ3 H3 w3 with ⟨stop, qn⟩ | ⟨go, N, hN, step⟩
  · refine wpAny_passesOwn hp (thn (T.done X rfl rfl rfl hc i pins s3 σ3 H3 X.xe I3 (stat fr3) st3 stop) fun r s4 ⟨hr, I4⟩ => ?_)
    subst hr
    exact wpAny_execs_nil ⟨σ3, H3, I4, qn⟩
  · refine wpAny_passesOwn hp (thn (T.item X rfl rfl rfl hc i pins s3 σ3 H3 X.xe I3 (stat fr3) st3 go) fun r s4 ⟨u, hr, h4⟩ => ?_)
    subst hr
    refine wpAny_passesOwn hp (thn h4 fun _ s5 ⟨x, H5, I5, r5, y5, st5, fr5⟩ => ?_)
    have I5' := I5.pinned (stat fr5) (T.obj _ _ st5)
    refine wpAny_passesOwn hp (thn (hg _ s5 σ3 H5 x u _ I5' r5 (step x H5 y5)) fun _ s6 ⟨σ6, H6, I6, q6⟩ => ?_)
    refine wpAny_passesOwn hp (thn (hb _ s6 σ6 H6 _ I6 q6) fun f s7 q7 => ?_)
    have again : ∀ {σ7 : St} {H7 : Hp}, Inv X (pins ++ pinsAt fp s5.heap) σ7 H7 s7 → N σ7 H7 → ∃ m, m < n ∧ ∃ i σ' H', Inv X pins σ' H' s7 ∧ tn i s7.heap ∧ (∀ b ∈ fp, H' b = none) ∧ W i m σ' H' := fun {σ7 H7} I7 n7 => by
      obtain ⟨m', hm, w7⟩ := hN σ7 H7 n7
      refine ⟨m', hm, i + 1, σ7, H7, I7.unpinned, T.keep _ _ _ st5 fun b hb o e => (I7.pin (b, o) (List.mem_append_right _ (List.mem_append_right _ (mem_pinsAt hb e)))).1, fun b hb => ?_, w7⟩
      obtain ⟨o, e, d⟩ := T.obj _ _ st5 b hb
      exact (I7.pin (b, o) (List.mem_append_right _ (List.mem_append_right _ (mem_pinsAt hb e)))).2.1
    cases f with
    | next => obtain ⟨σ7, H7, I7, n7⟩ := q7; exact again I7 n7
    | cont => obtain ⟨σ7, H7, I7, n7⟩ := q7; exact again I7 n7
    | brk => obtain ⟨σ7, H7, I7, q7⟩ := q7; exact ⟨σ7, H7, I7.unpinned, q7⟩
    | ret v => obtain ⟨x7, σ7, H7, I7, r7, q7⟩ := q7; exact ⟨x7, σ7, H7, I7.unpinned, r7, q7⟩
end

/-! ### the forms one uses -/
/-- over a list that the body leaves as it is -/
theorem for_list {K : PySem.W.Frag} {a : Addr} {xs : List V} {g : TG} {tb : TS} {D : Ends} {σ : St} {H : Hp} (Pv : Nat → St → Hp → Prop) (h0 : Pv 0 σ H) (hl : ∀ i σ H, i ≤ xs.length → Pv i σ H → SqL K H a xs)
    (hs : ∀ i x σ H, xs[i]? = some x → Pv i σ H → g x σ H fun σ2 H2 => tb { D with nx := Pv (i + 1), ct := Pv (i + 1), bk := D.nx } σ2 H2) (hd : ∀ σ H, Pv xs.length σ H → D.nx σ H) :
    ∃ W : Nat → Nat → St → Hp → Prop, (∃ m, W 0 m σ H) ∧ ∀ i m σ H, W i m σ H →
      ((Itl K a).stop i H ∧ D.nx σ H) ∨ ((Itl K a).go i H ∧ ∃ N : St → Hp → Prop, (∀ σ' H', N σ' H' → ∃ m', m' < m ∧ W (i + 1) m' σ' H') ∧ ∀ x H', (Itl K a).yld i H x H' → g x σ H' fun σ2 H2 => tb { D with nx := N, ct := N, bk := D.nx } σ2 H2) := by
  refine ⟨fun i m σ H => m = xs.length - i ∧ i ≤ xs.length ∧ Pv i σ H, ⟨xs.length, by simp, Nat.zero_le _, h0⟩, ?_⟩
  rintro i m σ H ⟨rfl, hi, p⟩
  have q := hl i σ H hi p
  by_cases hlt : i < xs.length
  · refine .inr ⟨⟨xs, xs[i], q, by simp [hlt]⟩, Pv (i + 1), fun σ' H' p' => ⟨xs.length - (i + 1), by omega, rfl, hlt, p'⟩, fun x H' y => ?_⟩
    obtain ⟨e, y⟩ := y
    subst e
    exact hs i x σ _ (y xs q) p
  · have e : i = xs.length := by omega
    subst e
    exact .inl ⟨⟨xs, q, Nat.le_refl _⟩, hd σ H p⟩
theorem for_tup {K : PySem.W.Frag} {a : Addr} {xs : List V} {g : TG} {tb : TS} {D : Ends} {σ : St} {H : Hp} (Pv : Nat → St → Hp → Prop) (h0 : Pv 0 σ H) (hl : ∀ i σ H, i ≤ xs.length → Pv i σ H → SqT K H a xs)
    (hs : ∀ i x σ H, xs[i]? = some x → Pv i σ H → g x σ H fun σ2 H2 => tb { D with nx := Pv (i + 1), ct := Pv (i + 1), bk := D.nx } σ2 H2) (hd : ∀ σ H, Pv xs.length σ H → D.nx σ H) :
    ∃ W : Nat → Nat → St → Hp → Prop, (∃ m, W 0 m σ H) ∧ ∀ i m σ H, W i m σ H →
      ((Itt K a).stop i H ∧ D.nx σ H) ∨ ((Itt K a).go i H ∧ ∃ N : St → Hp → Prop, (∀ σ' H', N σ' H' → ∃ m', m' < m ∧ W (i + 1) m' σ' H') ∧ ∀ x H', (Itt K a).yld i H x H' → g x σ H' fun σ2 H2 => tb { D with nx := N, ct := N, bk := D.nx } σ2 H2) := by
  refine ⟨fun i m σ H => m = xs.length - i ∧ i ≤ xs.length ∧ Pv i σ H, ⟨xs.length, by simp, Nat.zero_le _, h0⟩, ?_⟩
  rintro i m σ H ⟨rfl, hi, p⟩
  have q := hl i σ H hi p
  by_cases hlt : i < xs.length
  · refine .inr ⟨⟨xs, xs[i], q, by simp [hlt]⟩, Pv (i + 1), fun σ' H' p' => ⟨xs.length - (i + 1), by omega, rfl, hlt, p'⟩, fun x H' y => ?_⟩
    obtain ⟨e, y⟩ := y
    subst e
    exact hs i x σ _ (y xs q) p
  · have e : i = xs.length := by omega
    subst e
    exact .inl ⟨⟨xs, q, Nat.le_refl _⟩, hd σ H p⟩
theorem for_range {lo : Int} {n : Nat} {g : TG} {tb : TS} {D : Ends} {σ : St} {H : Hp} (Pv : Nat → St → Hp → Prop) (h0 : Pv 0 σ H)
    (hs : ∀ i σ H, i < n → Pv i σ H → g (.int (lo + i)) σ H fun σ2 H2 => tb { D with nx := Pv (i + 1), ct := Pv (i + 1), bk := D.nx } σ2 H2) (hd : ∀ σ H, Pv n σ H → D.nx σ H) :
    ∃ W : Nat → Nat → St → Hp → Prop, (∃ m, W 0 m σ H) ∧ ∀ i m σ H, W i m σ H →
      ((Itr lo n).stop i H ∧ D.nx σ H) ∨ ((Itr lo n).go i H ∧ ∃ N : St → Hp → Prop, (∀ σ' H', N σ' H' → ∃ m', m' < m ∧ W (i + 1) m' σ' H') ∧ ∀ x H', (Itr lo n).yld i H x H' → g x σ H' fun σ2 H2 => tb { D with nx := N, ct := N, bk := D.nx } σ2 H2) := by
  refine ⟨fun i m σ H => m = n - i ∧ i ≤ n ∧ Pv i σ H, ⟨n, by simp, Nat.zero_le _, h0⟩, ?_⟩
  rintro i m σ H ⟨rfl, hi, p⟩
  by_cases hlt : i < n
  · refine .inr ⟨hlt, Pv (i + 1), fun σ' H' p' => ⟨n - (i + 1), by omega, rfl, hlt, p'⟩, fun x H' y => ?_⟩
    obtain ⟨e, y⟩ := y
    subst e y
    exact hs i σ _ hlt p
  · have e : i = n := by omega
    subst e
    exact .inl ⟨Nat.le_refl _, hd σ H p⟩
end L2

namespace L2
open PySem PySem.Spec PyProof.Rows

abbrev R2 := V → V → Hp → VK → Prop
/-- a two-place operation on values: f is binaryOp op, inplaceOp op or compareOp op -/
def OpR (X : Cx) (f : Value → Value → Sem Value) (r : R2) : Prop :=
  ∀ (pins : List (Addr × Obj)) (s : Shared) (σ : St) (H : Hp) (x y : V) (v u : Value) (Q : VK), Inv X pins σ H s → RelV x v → RelV y u → r x y H Q →
    wpAny (model X.prog X.w) X.A (f v u) (EP X pins σ Q) X.xe s
/-- a one-place operation -/
def UnR (X : Cx) (f : Value → Sem Value) (r : V → Hp → VK → Prop) : Prop :=
  ∀ (pins : List (Addr × Obj)) (s : Shared) (σ : St) (H : Hp) (x : V) (v : Value) (Q : VK), Inv X pins σ H s → RelV x v → r x H Q →
    wpAny (model X.prog X.w) X.A (f v) (EP X pins σ Q) X.xe s
/-- a call of a value that is known (a builtin, a type) with values -/
def CallR (X : Cx) (f : Value) (r : List V → Hp → VK → Prop) : Prop :=
  ∀ (pins : List (Addr × Obj)) (s : Shared) (σ : St) (H : Hp) (xs : List V) (us : List Value) (Q : VK), Inv X pins σ H s → Vals xs us → r xs H Q →
    wpAny (model X.prog X.w) X.A (call f us) (EP X pins σ Q) X.xe s
/-- a value's truth -/
def TruR (X : Cx) (r : V → Hp → (Bool → Hp → Prop) → Prop) : Prop :=
  ∀ (pins : List (Addr × Obj)) (s : Shared) (σ : St) (H : Hp) (x : V) (v : Value) (Q : Bool → Hp → Prop), Inv X pins σ H s → RelV x v → r x H Q →
    wpAny (model X.prog X.w) X.A (truthy v) (TP X pins σ Q) X.xe s

def tOp (r : R2) (ta tb : TE) : TE := fun σ H Q => ta σ H fun x H1 => tb σ H1 fun y H2 => r x y H2 Q
def tUn (r : V → Hp → VK → Prop) (ta : TE) : TE := fun σ H Q => ta σ H fun x H1 => r x H1 Q
/-- ints in, under C, and a value out -/
def rI (C : Int → Int → Prop) (g : Int → Int → V) : R2 := fun x y H Q => ∃ i j, x = .int i ∧ y = .int j ∧ C i j ∧ Q (g i j) H
def rI0 (g : Int → Int → V) : R2 := fun x y H Q => ∃ i j, x = .int i ∧ y = .int j ∧ Q (g i j) H
def rU (g : Int → V) : V → Hp → VK → Prop := fun x H Q => ∃ i, x = .int i ∧ Q (g i) H

section
variable {X : Cx} {a b c : Expr} {ta tb tc : TE} {pos : Pos}

theorem binT (ha : PE X a ta) (hb : PE X b tb) {pins : List (Addr × Obj)} {s : Shared} {σ : St} {H : Hp} {R : V → V → Hp → Prop} (I : Inv X pins σ H s)
    (h : ta σ H fun x H1 => tb σ H1 fun y H2 => R x y H2) {Q : Value → Shared → Prop} {f : Value → Value → Sem Value}
    (hf : ∀ v u s2 x y H2, Inv X pins σ H2 s2 → RelV x v → RelV y u → R x y H2 → wpAny (model X.prog X.w) X.A (f v u) Q X.xe s2) :
    wpAny (model X.prog X.w) X.A (eval a X.env) (fun v s₁ => wpAny (model X.prog X.w) X.A (eval b X.env) (fun u s₂ => wpAny (model X.prog X.w) X.A (f v u) Q X.xe s₂) X.xe s₁) X.xe s := by
  refine thn (ha pins s σ H _ I h) fun v s1 ⟨x, H1, I1, r1, q1⟩ => ?_
  refine thn (hb pins s1 σ H1 _ I1 q1) fun u s2 ⟨y, H2, I2, r2, q2⟩ => ?_
  exact hf v u s2 x y H2 I2 r1 r2 q2

theorem pe_op {op : Operator} {r : R2} (ho : OpR X (binaryOp op) r) (ha : PE X a ta) (hb : PE X b tb) : PE X (.BinOp a op b pos) (tOp r ta tb) := by
  intro pins s σ H Q I h
  exact wpAny_BinOp (binT ha hb I h fun v u s2 x y H2 I2 rx ry q => ho pins s2 σ H2 x y v u Q I2 rx ry q)
theorem pe_un {op : UnaryOp} {r : V → Hp → VK → Prop} (ho : UnR X (unaryOp op) r) (ha : PE X a ta) : PE X (.UnaryOp op a pos) (tUn r ta) := by
  intro pins s σ H Q I h
  exact UnaryOp_ (thn (ha pins s σ H _ I h) fun v s1 ⟨x, H1, I1, r1, q1⟩ => ho pins s1 σ H1 x v Q I1 r1 q1)
/-! ### ints -/
theorem opI {f : Value → Value → Sem Value} {C : Int → Int → Prop} {g : Int → Int → Int}
    (rule : ∀ (i j : Int) (t u : Tok) (s : Shared) (Q : Value → Shared → Prop) (E : Value → Shared → Prop), C i j → Q (.int (g i j) s.toks) { s with toks := s.toks + 1 } → wpAny (model X.prog X.w) X.A (f (.int i t) (.int j u)) Q E s) :
    OpR X f (rI C fun i j => .int (g i j)) := by
  intro pins s σ H x y v u Q I rx ry h
  obtain ⟨i, j, rfl, rfl, hc, q⟩ := h
  obtain ⟨t, rfl⟩ := rx
  obtain ⟨t', rfl⟩ := ry
  exact rule i j t t' s _ _ hc ⟨.int (g i j), H, I.tok _, ⟨_, rfl⟩, q⟩
theorem opI0 {f : Value → Value → Sem Value} {g : Int → Int → Int}
    (rule : ∀ (i j : Int) (t u : Tok) (s : Shared) (Q : Value → Shared → Prop) (E : Value → Shared → Prop), Q (.int (g i j) s.toks) { s with toks := s.toks + 1 } → wpAny (model X.prog X.w) X.A (f (.int i t) (.int j u)) Q E s) :
    OpR X f (rI0 fun i j => .int (g i j)) := by
  intro pins s σ H x y v u Q I rx ry h
  obtain ⟨i, j, rfl, rfl, q⟩ := h
  obtain ⟨t, rfl⟩ := rx
  obtain ⟨t', rfl⟩ := ry
  exact rule i j t t' s _ _ ⟨.int (g i j), H, I.tok _, ⟨_, rfl⟩, q⟩
theorem opB0 {f : Value → Value → Sem Value} {g : Int → Int → Bool}
    (rule : ∀ (i j : Int) (t u : Tok) (s : Shared) (Q : Value → Shared → Prop) (E : Value → Shared → Prop), Q (.bool (g i j)) s → wpAny (model X.prog X.w) X.A (f (.int i t) (.int j u)) Q E s) :
    OpR X f (rI0 fun i j => .bl (g i j)) := by
  intro pins s σ H x y v u Q I rx ry h
  obtain ⟨i, j, rfl, rfl, q⟩ := h
  obtain ⟨t, rfl⟩ := rx
  obtain ⟨t', rfl⟩ := ry
  exact rule i j t t' s _ _ ⟨.bl (g i j), H, I, rfl, q⟩

def CDiv (i j : Int) : Prop := 0 < j ∧ j < 1073741824
def CDivN (i j : Int) : Prop := j ≠ 0 ∧ j.natAbs < 1073741824
def CPow (i j : Int) : Prop := 0 ≤ j ∧ j ≤ 1000000 ∧ i.natAbs < 2 ^ 64
def CMul (i j : Int) : Prop := (-(2 ^ 64) < i ∧ i < 2 ^ 64) ∨ (-(2 ^ 64) < j ∧ j < 2 ^ 64)
theorem CMul.ok {i j : Int} (h : CMul i j) : IntMulOk i j := by
  rcases h with ⟨h1, h2⟩ | ⟨h1, h2⟩
  · exact .of_left (intBits_le_64 h1 h2)
  · exact .of_right (intBits_le_64 h1 h2)
theorem op_add : OpR X (binaryOp .Add) (rI0 fun i j => .int (i + j)) := opI0 fun _ _ _ _ _ _ _ q => add_int q
theorem op_sub : OpR X (binaryOp .Sub) (rI0 fun i j => .int (i - j)) := opI0 fun _ _ _ _ _ _ _ q => sub_int q
theorem op_mul : OpR X (binaryOp .Mult) (rI CMul fun i j => .int (i * j)) := opI fun _ _ _ _ _ _ _ hc q => mul_int q hc.ok
/-- // by a positive divisor -/
theorem op_fdiv : OpR X (binaryOp .FloorDiv) (rI CDiv fun i j => .int (i / j)) := opI fun i j _ _ _ _ _ hc q => by
  have h1 : (0 : Int) < j := hc.1
  have h2 : j < 1073741824 := hc.2
  exact floordiv_int (by omega) (by rw [Int.fdiv_eq_ediv_of_nonneg i (by omega)]; exact q) (.inl (PyProof.noPylong_small (by omega)))
/-- % by a positive divisor of any size -/
theorem op_mod : OpR X (binaryOp .Mod) (rI (fun _ j => 0 < j) fun i j => .int (i % j)) := opI fun i j _ _ _ _ _ hc q => by
  have h1 : (0 : Int) < j := hc
  exact mod_int' (by omega) (by rw [Int.fmod_eq_emod_of_nonneg i (by omega)]; exact q)
theorem op_pow : OpR X (binaryOp .Pow) (rI CPow fun i j => .int (i ^ j.toNat)) := opI fun _ _ _ _ _ _ _ hc q => pow_int_small hc.1 hc.2.1 hc.2.2 q
theorem unI {f : Value → Sem Value} {g : Int → Int}
    (rule : ∀ (i : Int) (t : Tok) (s : Shared) (Q : Value → Shared → Prop) (E : Value → Shared → Prop), Q (.int (g i) s.toks) { s with toks := s.toks + 1 } → wpAny (model X.prog X.w) X.A (f (.int i t)) Q E s) :
    UnR X f (rU fun i => .int (g i)) := by
  intro pins s σ H x v Q I rx h
  obtain ⟨i, rfl, q⟩ := h
  obtain ⟨t, rfl⟩ := rx
  exact rule i t s _ _ ⟨.int (g i), H, I.tok _, ⟨_, rfl⟩, q⟩
theorem un_neg : UnR X (unaryOp .USub) (rU fun i => .int (-i)) := unI fun _ _ _ _ _ q => neg_int q
/-! ### bools among ints: n += (a < b) -/
end

/-! ### comparisons -/
/-- the scalars that == tells apart as data does -/
def scal : V → V → Bool
  | .non, .non => true | .non, .int _ => true | .int _, .non => true | .non, .bl _ => true | .bl _, .non => true | .non, .str _ => true | .str _, .non => true
  | .int _, .int _ => true | .bl _, .bl _ => true | .str _, .str _ => true | .byt _, .byt _ => true
  | .int _, .str _ => true | .str _, .int _ => true | .bl _, .str _ => true | .str _, .bl _ => true
  | _, _ => false
def rEq : R2 := fun x y H Q => scal x y = true ∧ Q (.bl (decide (x = y))) H
def rNe : R2 := fun x y H Q => scal x y = true ∧ Q (.bl (!decide (x = y))) H

theorem dec_int {i j : Int} : decide (V.int i = V.int j) = (i == j) := by
  rw [Bool.eq_iff_iff]
  simp
theorem dec_bl {i j : Bool} : decide (V.bl i = V.bl j) = (i == j) := by
  rw [Bool.eq_iff_iff]
  simp
theorem dec_str {i j : Str} : decide (V.str i = V.str j) = (i == j) := by
  rw [Bool.eq_iff_iff]
  simp
theorem dec_byt {i j : Array UInt8} : decide (V.byt i = V.byt j) = (i.toList == j.toList) := by
  rw [Bool.eq_iff_iff]
  cases i
  cases j
  simp

section
variable {X : Cx} {a b c : Expr} {ta tb tc : TE} {pos : Pos}
theorem fin_bl {pins : List (Addr × Obj)} {σ : St} {H : Hp} {s : Shared} {Q : VK} {k k' : Bool} (I : Inv X pins σ H s) (q : Q (.bl k) H) (e : k = k') : EP X pins σ Q (.bool k') s := by
  subst e
  exact ⟨.bl k, H, I, rfl, q⟩
theorem op_eq : OpR X (compareOp .Eq) rEq := by
  intro pins s σ H x y v u Q I rx ry h
  obtain ⟨hs, q⟩ := h
  cases x with
  | non =>
    cases rx
    cases y with
    | non => cases ry; exact PySem.EqNone.eq_none_none (fin_bl I q (by simp))
    | bl j => cases ry; exact PySem.EqNone.eq_none_bool (fin_bl I q (by simp))
    | int j => obtain ⟨t', rfl⟩ := ry; exact PySem.EqNone.eq_none_int (fin_bl I q (by simp))
    | str j => obtain ⟨t', rfl⟩ := ry; exact PySem.EqNone.eq_none_str (fin_bl I q (by simp))
    | _ => exact absurd (show false = true from hs) Bool.false_ne_true
  | bl i =>
    cases rx
    cases y with
    | non => cases ry; exact PySem.EqNone.eq_bool_none (fin_bl I q (by simp))
    | bl j => cases ry; exact eq_bool (fin_bl I q dec_bl)
    | str j => obtain ⟨t', rfl⟩ := ry; exact PySem.EqMixed.eq_bool_str (fin_bl I q (by simp))
    | _ => exact absurd (show false = true from hs) Bool.false_ne_true
  | int i =>
    obtain ⟨t, rfl⟩ := rx
    cases y with
    | non => cases ry; exact PySem.EqNone.eq_int_none (fin_bl I q (by simp))
    | int j => obtain ⟨t', rfl⟩ := ry; exact eq_int (fin_bl I q dec_int)
    | str j => obtain ⟨t', rfl⟩ := ry; exact PySem.EqMixed.eq_int_str (fin_bl I q (by simp))
    | _ => exact absurd (show false = true from hs) Bool.false_ne_true
  | str i =>
    obtain ⟨t, rfl⟩ := rx
    cases y with
    | non => cases ry; exact PySem.EqNone.eq_str_none (fin_bl I q (by simp))
    | bl j => cases ry; exact PySem.EqMixed.eq_str_bool (fin_bl I q (by simp))
    | int j => obtain ⟨t', rfl⟩ := ry; exact PySem.EqMixed.eq_str_int (fin_bl I q (by simp))
    | str j => obtain ⟨t', rfl⟩ := ry; exact eq_str (fin_bl I q dec_str)
    | _ => exact absurd (show false = true from hs) Bool.false_ne_true
  | byt i =>
    obtain ⟨t, rfl⟩ := rx
    cases y with
    | byt j => obtain ⟨t', rfl⟩ := ry; exact PySem.W.eq_bytes (fin_bl I q dec_byt)
    | _ => exact absurd (show false = true from hs) Bool.false_ne_true
  | _ => cases y <;> exact absurd (show false = true from hs) Bool.false_ne_true
theorem op_ne : OpR X (compareOp .NotEq) rNe := by
  intro pins s σ H x y v u Q I rx ry h
  obtain ⟨hs, q⟩ := h
  cases x with
  | non =>
    cases rx
    cases y with
    | non => cases ry; exact PySem.EqNone.ne_none_none (fin_bl I q (by simp))
    | bl j => cases ry; exact PySem.EqNone.ne_none_bool (fin_bl I q (by simp))
    | int j => obtain ⟨t', rfl⟩ := ry; exact PySem.EqNone.ne_none_int (fin_bl I q (by simp))
    | str j => obtain ⟨t', rfl⟩ := ry; exact PySem.EqNone.ne_none_str (fin_bl I q (by simp))
    | _ => exact absurd (show false = true from hs) Bool.false_ne_true
  | bl i =>
    cases rx
    cases y with
    | non => cases ry; exact PySem.EqNone.ne_bool_none (fin_bl I q (by simp))
    | bl j => cases ry; exact ne_bool (fin_bl I q (congrArg not dec_bl))
    | str j => obtain ⟨t', rfl⟩ := ry; exact PySem.EqMixed.ne_bool_str (fin_bl I q (by simp))
    | _ => exact absurd (show false = true from hs) Bool.false_ne_true
  | int i =>
    obtain ⟨t, rfl⟩ := rx
    cases y with
    | non => cases ry; exact PySem.EqNone.ne_int_none (fin_bl I q (by simp))
    | int j => obtain ⟨t', rfl⟩ := ry; exact ne_int (fin_bl I q (congrArg not dec_int))
    | str j => obtain ⟨t', rfl⟩ := ry; exact PySem.EqMixed.ne_int_str (fin_bl I q (by simp))
    | _ => exact absurd (show false = true from hs) Bool.false_ne_true
  | str i =>
    obtain ⟨t, rfl⟩ := rx
    cases y with
    | non => cases ry; exact PySem.EqNone.ne_str_none (fin_bl I q (by simp))
    | bl j => cases ry; exact PySem.EqMixed.ne_str_bool (fin_bl I q (by simp))
    | int j => obtain ⟨t', rfl⟩ := ry; exact PySem.EqMixed.ne_str_int (fin_bl I q (by simp))
    | str j => obtain ⟨t', rfl⟩ := ry; exact ne_str (fin_bl I q (congrArg not dec_str))
    | _ => exact absurd (show false = true from hs) Bool.false_ne_true
  | byt i =>
    obtain ⟨t, rfl⟩ := rx
    cases y with
    | byt j => obtain ⟨t', rfl⟩ := ry; exact PySem.W.ne_bytes (fin_bl I q (congrArg not dec_byt))
    | _ => exact absurd (show false = true from hs) Bool.false_ne_true
  | _ => cases y <;> exact absurd (show false = true from hs) Bool.false_ne_true

theorem op_lt : OpR X (compareOp .Lt) (rI0 fun i j => .bl (decide (i < j))) := opB0 fun _ _ _ _ _ _ _ q => lt_int q
theorem op_le : OpR X (compareOp .LtE) (rI0 fun i j => .bl (decide (i ≤ j))) := opB0 fun _ _ _ _ _ _ _ q => le_int q
theorem op_gt : OpR X (compareOp .Gt) (rI0 fun i j => .bl (decide (j < i))) := opB0 fun _ _ _ _ _ _ _ q => gt_int q
theorem op_ge : OpR X (compareOp .GtE) (rI0 fun i j => .bl (decide (j ≤ i))) := opB0 fun _ _ _ _ _ _ _ q => ge_int q
/-- is, is not of two objects that are tracked lists or instances -/
def isObj : HO → Bool
  | .lst _ => true
  | .ins _ _ _ => true
  | _ => false
theorem nomark (b : Expr) {op : CmpOp} (h : op ≠ .In := by decide) (h2 : op ≠ .NotIn := by decide) : behindInMarks op b = false := by
  have e1 : (op == CmpOp.In) = false := by cases op <;> first | rfl | exact absurd rfl h
  have e2 : (op == CmpOp.NotIn) = false := by cases op <;> first | rfl | exact absurd rfl h2
  cases b <;> simp [behindInMarks, e1, e2]
/-- a comparison as a value; hm: nomark b, or (for in, not in) by with_unfolding_all rfl -/
theorem pe_cmpR {op : CmpOp} {r : R2} (ho : OpR X (compareOp op) r) (ha : PE X a ta) (hb : PE X b tb) (hm : behindInMarks op b = false) : PE X (.Compare a [op] [b] pos) (tOp r ta tb) := by
  intro pins s σ H Q I h
  exact wpAny_Compare1 (binT ha hb I h fun v u s2 x y H2 I2 rx ry q => ho pins s2 σ H2 x y v u Q I2 rx ry q) hm
/-- a reading of a value as a test -/
def tTest (t : TE) : TT := fun σ H Q => t σ H fun x H' => ∃ k, x = .bl k ∧ Q k H'
theorem pt_cmpR {op : CmpOp} {r : R2} (ho : OpR X (compareOp op) r) (ha : PE X a ta) (hb : PE X b tb) (hm : behindInMarks op b = false) : PT X (.Compare a [op] [b] pos) (tTest (tOp r ta tb)) := by
  intro pins s σ H Q I h
  refine wpAny_isTrue_Compare1 (thn (ha pins s σ H _ I h) fun v s1 ⟨x, H1, I1, r1, q1⟩ => thn (hb pins s1 σ H1 _ I1 q1) fun u s2 ⟨y, H2, I2, r2, q2⟩ =>
    thn (ho pins s2 σ H2 x y v u _ I2 r1 r2 q2) fun c s3 ⟨z, H3, I3, r3, k, e, q3⟩ => ?_) hm
  subst e
  cases r3
  exact wpAny_truthy_bool ⟨H3, I3, q3⟩
/-- a op1 b op2 c -/
def tChain (r r' : R2) (ta tb tc : TE) : TE := fun σ H Q => ta σ H fun x H1 => tb σ H1 fun y H2 => r x y H2 fun z H3 => ∃ k, z = .bl k ∧
  (if k = true then tc σ H3 fun w' H4 => r' y w' H4 Q else Q (.bl false) H3)
theorem pt_chain {op op' : CmpOp} {r r' : R2} (ho : OpR X (compareOp op) r) (ho' : OpR X (compareOp op') r') (ha : PE X a ta) (hb : PE X b tb) (hc : PE X c tc)
    (hm : lastMarks [op, op'] [b, c] = false := by with_unfolding_all rfl) : PT X (.Compare a [op, op'] [b, c] pos) (tTest (tChain r r' ta tb tc)) := by
  intro pins s σ H Q I h
  refine isTrue_chain (thn (ha pins s σ H _ I h) fun v s1 ⟨x, H1, I1, r1, q1⟩ => test_link (thn (hb pins s1 σ H1 _ I1 q1) fun u s2 ⟨y, H2, I2, r2, q2⟩ =>
    thn (ho pins s2 σ H2 x y v u _ I2 r1 r2 q2) fun d s3 ⟨z, H3, I3, r3, k, e, q3⟩ => ?_)) hm
  subst e
  cases r3
  refine wpAny_truthy_bool ?_
  cases k with
  | false =>
    obtain ⟨k', e', q'⟩ := q3
    cases e'
    exact ite_ff ⟨H3, I3, q'⟩
  | true =>
    refine ite_tt (test_last (thn (hc pins s3 σ H3 _ I3 q3) fun w' s4 ⟨z', H4, I4, r4, q4⟩ => thn (ho' pins s4 σ H4 y z' u w' _ I4 r2 r4 q4) fun d' s5 ⟨z2, H5, I5, r5, k2, e2, q5⟩ => ?_))
    subst e2
    cases r5
    exact wpAny_truthy_bool ⟨H5, I5, q5⟩

/-! ### truth -/
/-- a value's truth by the abstract heap -/
def TruV (K : PySem.W.Frag) (x : V) (H : Hp) (k : Bool) : Prop :=
  match x with
  | .non => k = false
  | .bl b => k = b
  | .int i => k = (i != 0)
  | .str y => y.length ≤ sizeLine ∧ k = ((y.length : Int) != 0)
  | .byt y => y.size ≤ sizeLine ∧ k = ((y.size : Int) != 0)
  | .ref p => (∃ xs, SqL K H p xs ∧ k = !xs.isEmpty) ∨ (∃ xs, SqT K H p xs ∧ k = !xs.isEmpty) ∨ ∃ kvs, H p = some (.dK kvs) ∧ k = !kvs.isEmpty
  | _ => False
theorem line63 : (sizeLine : Nat) < 2 ^ 63 := by rw [sizeLine_eq]; decide
/-! ### strs and bytes -/
def PlainIxT (b : Expr) : Prop := ∀ o i, subscripted b false o i = operate [o, i] (getItem o i)
/-! ### scalar builtins, by CallR -/
theorem vals1 {x : V} {us : List Value} (r : Vals [x] us) : ∃ u, us = [u] ∧ RelV x u := by
  cases r with
  | cons r1 r2 => cases r2; exact ⟨_, rfl, r1⟩
theorem vals2 {x y : V} {us : List Value} (r : Vals [x, y] us) : ∃ u w', us = [u, w'] ∧ RelV x u ∧ RelV y w' := by
  cases r with
  | cons r1 r2 =>
    cases r2 with
    | cons r3 r4 => cases r4; exact ⟨_, _, rfl, r1, r3⟩
theorem call_abs : CallR X (.builtin "abs") (fun xs H Q => ∃ i, xs = [.int i] ∧ Q (.int (if i < 0 then -i else i)) H) := by
  intro pins s σ H xs us Q I r h
  obtain ⟨i, rfl, q⟩ := h
  obtain ⟨u, rfl, t, rfl⟩ := vals1 r
  exact call_abs_int fun u tk => ⟨.int (if i < 0 then -i else i), H, I.tok _, ⟨_, rfl⟩, q⟩
theorem call_max2 (hc : X.calm = true) : CallR X (.builtin "max") (fun xs H Q => ∃ i j, xs = [.int i, .int j] ∧ Q (.int (if j > i then j else i)) H) := by
  intro pins s σ H xs us Q I r h
  obtain ⟨i, j, rfl, q⟩ := h
  obtain ⟨u, w', rfl, ⟨t, rfl⟩, ⟨t', rfl⟩⟩ := vals2 r
  refine max_two_ints (I.ok.hd hc) fun h' tk k => ⟨_, H, I.kept k, ?_, q⟩
  by_cases hj : j > i
  · rw [if_pos hj, if_pos hj]; exact ⟨_, rfl⟩
  · rw [if_neg hj, if_neg hj]; exact ⟨_, rfl⟩
theorem call_min2 (hc : X.calm = true) : CallR X (.builtin "min") (fun xs H Q => ∃ i j, xs = [.int i, .int j] ∧ Q (.int (if j < i then j else i)) H) := by
  intro pins s σ H xs us Q I r h
  obtain ⟨i, j, rfl, q⟩ := h
  obtain ⟨u, w', rfl, ⟨t, rfl⟩, ⟨t', rfl⟩⟩ := vals2 r
  refine min_two_ints (I.ok.hd hc) fun h' tk k => ⟨_, H, I.kept k, ?_, q⟩
  by_cases hj : j < i
  · rw [if_pos hj, if_pos hj]; exact ⟨_, rfl⟩
  · rw [if_neg hj, if_neg hj]; exact ⟨_, rfl⟩
theorem call_int1 : CallR X (.type "int") (fun xs H Q => (∃ i, xs = [.int i] ∧ Q (.int i) H) ∨ ∃ k, xs = [.bl k] ∧ Q (.int (if k then 1 else 0)) H) := by
  intro pins s σ H xs us Q I r h
  rcases h with ⟨i, rfl, q⟩ | ⟨k, rfl, q⟩
  · obtain ⟨u, rfl, t, rfl⟩ := vals1 r
    exact call_int_int ⟨.int i, H, I, ⟨_, rfl⟩, q⟩
  · obtain ⟨u, rfl, r1⟩ := vals1 r
    cases r1
    exact call_int_bool ⟨.int (if k then 1 else 0), H, I.tok _, ⟨_, rfl⟩, q⟩
/-- len of a str, a bytes, a list, a tuple -/
def LenV (K : PySem.W.Frag) (x : V) (H : Hp) (n : Nat) : Prop :=
  match x with
  | .str y => y.length ≤ sizeLine ∧ n = y.length
  | .byt y => y.size ≤ sizeLine ∧ n = y.size
  | .ref p => (∃ xs, SqL K H p xs ∧ n = xs.length) ∨ ∃ xs, SqT K H p xs ∧ n = xs.length
  | _ => False
end
end L2

namespace L2
open PySem PySem.Spec PyProof.Rows

/-! ### an instance, its attributes a map -/
structure ObjM (h : Heap) (x dx C : Addr) (mA : Str → Option Value) : Prop where
  obj : h.get? x = some (PySem.W.instObj C dx)
  ns : h.Ns1 dx mA
  ne : dx ≠ x

theorem lookIn_ns {h : Heap} {dx : Addr} {mA : Str → Option Value} (n : h.Ns1 dx mA) : ∃ od, h.get? dx = some od ∧ ∀ name, PySem.W.lookIn name od = some (mA name) := by
  obtain ⟨o, es, ep, ho, hd, hk, _, hm⟩ := n
  refine ⟨o, ho, fun name => ?_⟩
  have e := hm name
  unfold nsFind findBy at e
  rw [← Array.find?_toList] at e
  unfold PySem.W.lookIn
  rw [hd]
  dsimp only
  split
  · rename_i y q
    rw [q] at e
    exact congrArg some e
  · rename_i q
    rw [q] at e
    have a : es.toList.any (·.refKey) = false := by
      rw [List.any_eq_false]
      intro y hy
      obtain ⟨z, t, hkey⟩ := hk y (Array.mem_toList_iff.mp hy)
      simp [DictEntry.refKey, hkey]
    have a' : ¬ es.toList.any (·.refKey) = true := by rw [a]; exact Bool.false_ne_true
    rw [if_neg a']
    exact congrArg some e

theorem ObjM.look {h : Heap} {x dx C : Addr} {mA : Str → Option Value} (I : ObjM h x dx C mA) : ∃ od, PySem.W.InstAt h x (PySem.W.instObj C dx) C (some od) ∧ ∀ name, PySem.W.lookIn name od = some (mA name) :=
  let ⟨od, ho, hl⟩ := lookIn_ns I.ns
  ⟨od, ⟨I.obj, rfl, rfl, ho⟩, hl⟩

section
variable {prog : Program} {w : World} {A : Around} {E : Value → Shared → Prop} {s : Shared} {K : PySem.W.Frag} {x dx C f : Addr} {mA : Str → Option Value} {name : Str} {v : Value}

end

/-! ### the attributes as a list of pairs -/
def putF (f : Str) (v : V) : List (Str × V) → List (Str × V)
  | [] => [(f, v)]
  | (g, x) :: r => if g = f then (g, v) :: r else (g, x) :: putF f v r
section
variable {P : Program} {w : World} {H H' : Hp} {h h' : Heap} {a C dx : Addr} {fs fs' : List (Str × V)}
theorem ins_get (hok : HOk P w H h) (e : H a = some (.ins C dx fs)) : ∃ mA, ObjM h a dx C mA ∧ (∀ f, RelO (fs.lookup f) (mA f)) ∧ PySem.Within mA (fs.map (·.1)) ∧ fs.length ≤ 1000 ∧ H dx = some (.own a) := by
  obtain ⟨d, z, ne, ob, mA, n, r, q⟩ := (show ObjOk P w H h a (.ins C dx fs) from hok a _ e)
  exact ⟨mA, ⟨ob, n, ne⟩, r, q, z, d⟩
end

/-! ### what of the text a class must have -/
structure Cls (K : PySem.W.Frag) (C : Addr) : Prop where
  pg : PySem.W.plainGet K C Str.empty = true
  hd : PySem.W.hasDictIn K C = true
  po : PySem.W.plainOver K C = true
  sa : PySem.W.findIn K (.ref C) "__setattr__" = some (some (.builtin "object.__setattr__"))
theorem Cls.get {K : PySem.W.Frag} {C : Addr} (c : Cls K C) (f : Str) : PySem.W.plainGet K C f = true := c.pg
/-- no class of it has the name -/
def NoAttr (K : PySem.W.Frag) (C : Addr) (f : Str) : Prop := PySem.W.findIn K (.ref C) f = some none
/-- a constant of the class -/
structure Con (K : PySem.W.Frag) (C : Addr) (f : Str) (v : V) (u : Value) : Prop where
  at_ : PySem.W.findIn K (.ref C) f = some (some u)
  rel : RelV v u
  get : PySem.W.specialIn K u "__get__" = some none
  cp : PySem.W.copiedNames.contains f = false
/-- a method: a plain def of the class or of one above it -/
structure Meth (K : PySem.W.Frag) (C : Addr) (m : Str) (f : Addr) : Prop where
  at_ : PySem.W.findIn K (.ref C) m = some (some (.ref f))
  fn : PySem.W.isFn K (.ref f) = true
  kp : PySem.W.keepIn K (.ref f) = true

section
variable {X : Cx} {pins : List (Addr × Obj)} {σ : St} {H : Hp} {s : Shared} {a C dx : Addr} {fs : List (Str × V)} {f : Str} {v : V} {A : Around} {E : Value → Shared → Prop}

end

/-! ### readings and rules -/
/-- e.f, an attribute of the instance -/
def tFld (K : PySem.W.Frag) (ta : TE) (f : Str) : TE := fun σ H Q => ta σ H fun x H1 => ∃ a C dx fs v, x = .ref a ∧ H1 a = some (.ins C dx fs) ∧ Cls K C ∧ NoAttr K C f ∧ fs.lookup f = some v ∧ Q v H1
/-- e.f, a constant of the class -/
def tCon (K : PySem.W.Frag) (ta : TE) (f : Str) : TE := fun σ H Q => ta σ H fun x H1 => ∃ a C dx fs v u, x = .ref a ∧ H1 a = some (.ins C dx fs) ∧ Cls K C ∧ Con K C f v u ∧ fs.lookup f = none ∧ Q v H1
/-- e.f = value -/
def sFld (K : PySem.W.Frag) (ta tv : TE) (f : Str) : TS := fun D σ H => tv σ H fun y H1 => ta σ H1 fun x H2 => ∃ a C dx fs, x = .ref a ∧ H2 a = some (.ins C dx fs) ∧ Cls K C ∧ NoAttr K C f ∧ fs.length < 1000 ∧
  D.nx σ (upd H2 a (.ins C dx (putF f y fs)))
/-- an augmented operator on two values -/
def InOp (X : Cx) (op : Operator) (rd : V → V → Hp → VK → Prop) : Prop :=
  ∀ (pins : List (Addr × Obj)) (s : Shared) (σ : St) (H : Hp) (x y : V) (u v : Value) (Q : VK), Inv X pins σ H s → RelV x u → RelV y v → rd x y H Q → wpAny (model X.prog X.w) X.A (inplaceOp op u v) (EP X pins σ Q) X.xe s
/-- e.f op= value -/
def sFldAug (K : PySem.W.Frag) (ta tv : TE) (rd : V → V → Hp → VK → Prop) (f : Str) : TS := fun D σ H => ta σ H fun x H1 => ∃ a C dx fs v, x = .ref a ∧ H1 a = some (.ins C dx fs) ∧ Cls K C ∧ NoAttr K C f ∧ fs.lookup f = some v ∧
  tv σ H1 fun y H2 => rd v y H2 fun z H3 => ∃ dx' fs', H3 a = some (.ins C dx' fs') ∧ fs'.length < 1000 ∧ D.nx σ (upd H3 a (.ins C dx' (putF f z fs')))

section
variable {X : Cx} {o e value : Expr} {f : Str} {pos pos' tpos : Pos} {ta tv : TE}
def rAdd : V → V → Hp → VK → Prop := fun x y H Q => ∃ i j, x = .int i ∧ y = .int j ∧ Q (.int (i + j)) H
def rSub : V → V → Hp → VK → Prop := fun x y H Q => ∃ i j, x = .int i ∧ y = .int j ∧ Q (.int (i - j)) H
end

/-! ### isinstance -/
section
variable {X : Cx} {pins : List (Addr × Obj)} {σ : St} {H : Hp} {s : Shared} {A : Around} {E : Value → Shared → Prop} {Q : Value → Shared → Prop} {c : Value} {b : Bool}
/-- the type of a value, as the fragment's deciders take it; for an instance its class -/
inductive TyOf (K : PySem.W.Frag) (H : Hp) : V → Value → Prop where
  | non : TyOf K H .non (.type "NoneType")
  | bl (x : Bool) : TyOf K H (.bl x) (.type "bool")
  | int (i : Int) : TyOf K H (.int i) (.type "int")
  | str (x : Str) : TyOf K H (.str x) (.type "str")
  | flt (x : UInt64) : TyOf K H (.flt x) (.type "float")
  | lst {a : Addr} {xs : List V} (e : H a = some (.lst xs)) : TyOf K H (.ref a) (.type "list")
  | frz {a : Addr} {o : Obj} {xs : List V} (e : H a = some (.frz o (.lst xs))) : TyOf K H (.ref a) (.type "list")
  | tup {a : Addr} {xs : List V} (e : H a = some (.tup xs)) : TyOf K H (.ref a) (.type "tuple")
  | dK {a : Addr} {kvs : List (Key × V)} (e : H a = some (.dK kvs)) : TyOf K H (.ref a) (.type "dict")
  | dT {a : Addr} {kvs : List (List Key × V)} (e : H a = some (.dT kvs)) : TyOf K H (.ref a) (.type "dict")
  | ins {a C dx : Addr} {fs : List (Str × V)} (e : H a = some (.ins C dx fs)) (cl : Cls K C) (ha : PySem.W.findIn K (.ref C) "__class__" = some (some (.builtin "object.__class__")))
      (hn : PySem.W.specialIn K (.builtin "object.__class__") "__get__" = some (some (.builtin "getset_descriptor.__get__"))) (htk : PySem.W.takesIn K (.builtin "object.__class__") = some true)
      (hm : PySem.W.mroIn K C (.type "object") = some true) : TyOf K H (.ref a) (.ref C)
/-- isinstance(x, c) for one class c, a built-in or an own one: kitOne's answer -/
theorem isinst_ok {x : V} {u t : Value} (I : Inv X pins σ H s) (rx : RelV x u) (ty : TyOf X.K H x t) (e : PySem.W.kitOne X.K t c = some b) (h : ∀ tk, Q (.bool b) { s with toks := tk }) :
    wpAny (model X.prog X.w) A (call (.builtin "isinstance") [u, c]) Q E s := by
  cases ty with
  | non => cases (show u = Value.none from rx); exact PySem.W.kia_one PySem.W.kitx_none I.kIn True.intro e (fun z => nomatch z) h
  | bl y => cases (show u = Value.bool y from rx); exact PySem.W.kia_one PySem.W.kitx_bool I.kIn True.intro e (fun z => nomatch z) h
  | int i => obtain ⟨t, q⟩ := (show ∃ t, u = Value.int i t from rx); cases q; exact PySem.W.kia_one PySem.W.kitx_int I.kIn True.intro e (fun z => nomatch z) h
  | str y => obtain ⟨t, q⟩ := (show ∃ t, u = Value.str y t from rx); cases q; exact PySem.W.kia_one PySem.W.kitx_str I.kIn True.intro e (fun z => nomatch z) h
  | flt y => obtain ⟨t, q⟩ := (show ∃ t, u = Value.float y t from rx); cases q; exact PySem.W.kia_one PySem.W.kitx_float I.kIn True.intro e (fun z => nomatch z) h
  | @lst a xs ea =>
    cases (show u = Value.ref a from rx)
    obtain ⟨_, _, n, _, h1⟩ := (show ObjOk X.prog X.w H s.heap a (.lst xs) from I.hok a _ ea)
    exact PySem.W.kia_one PySem.W.kitx_list I.kIn ⟨_, h1, rfl⟩ e (fun z => nomatch z) h
  | @frz a ob xs ea =>
    cases (show u = Value.ref a from rx)
    obtain ⟨_, _, _, n, _, h1⟩ := (show ObjOk X.prog X.w H s.heap a (.frz ob (.lst xs)) from I.hok a _ ea)
    exact PySem.W.kia_one PySem.W.kitx_list I.kIn ⟨_, h1, rfl⟩ e (fun z => nomatch z) h
  | @tup a xs ea =>
    cases (show u = Value.ref a from rx)
    obtain ⟨_, _, _, p⟩ := (show ObjOk X.prog X.w H s.heap a (.tup xs) from I.hok a _ ea)
    obtain ⟨o, h1, h2, _⟩ := p
    exact PySem.W.kia_one PySem.W.kitx_tuple I.kIn ⟨o, h1, h2⟩ e (fun z => nomatch z) h
  | @dK a kvs ea =>
    cases (show u = Value.ref a from rx)
    obtain ⟨_, _, vs, _, p⟩ := (show ObjOk X.prog X.w H s.heap a (.dK kvs) from I.hok a _ ea)
    obtain ⟨o, es, ep, h1, h2, _⟩ := p
    exact PySem.W.kia_one PySem.W.kitx_dict I.kIn ⟨o, h1, h2.1⟩ e (fun z => nomatch z) h
  | @dT a kvs ea =>
    cases (show u = Value.ref a from rx)
    obtain ⟨_, _, xs, _, o, es, ep, h1, h2, _⟩ := (show ObjOk X.prog X.w H s.heap a (.dT kvs) from I.hok a _ ea)
    exact PySem.W.kia_one PySem.W.kitx_dict I.kIn ⟨o, h1, h2.1⟩ e (fun z => nomatch z) h
  | @ins a C dx fs ea cl ha hn htk hm =>
    cases (show u = Value.ref a from rx)
    obtain ⟨mA, O, _⟩ := ins_get I.hok ea
    obtain ⟨od, J, _⟩ := O.look
    exact PySem.W.kia_one (PySem.W.kitx_own (cl.get _) cl.hd ha hn htk hm) I.kIn J e (fun z => nomatch z) h
end
end L2

namespace L2
open PySem PySem.Spec PyProof.Rows

/-! ### room -/
structure Room (k : Nat) (A : Around) : Prop where
  hd : A.handled = none
  dp : A.depth + 3 * k + 5 < recursionLimit
  un : A.units + 16 * k + 200 < cLine
theorem Room.mono {j k : Nat} {A : Around} (r : Room k A) (h : j ≤ k) : Room j A := ⟨r.hd, by have := r.dp; omega, by have := r.un; omega⟩
theorem Room.deeper {k : Nat} {A : Around} (r : Room (k + 1) A) (env : Env) : Room k (A.deeper env) :=
  ⟨r.hd, by have := r.dp; show A.depth + 1 + 3 * k + 5 < _; omega, by have := r.un; show A.units + 3 + 16 * k + 200 < _; omega⟩
theorem Room.depth {k : Nat} {A : Around} (r : Room k A) : A.depth < recursionLimit := by have := r.dp; omega
theorem Room.units {k : Nat} {A : Around} (r : Room k A) : A.units + 64 < cLine := by have := r.un; omega
/-! ### argument lists and displays -/
def tNil : TA := fun _ H Q => Q [] H
def tCons (ta : TE) (tr : TA) : TA := fun σ H Q => ta σ H fun x H1 => tr σ H1 fun xs H2 => Q (x :: xs) H2
section
variable {X : Cx} {e : Expr} {es : List Expr} {te : TE} {t : TA} {pos : Pos}
theorem pa_nil : PA X [] tNil := fun _ _ _ _ H Q I h => Calls.spliced_nil ⟨[], H, I, .nil, h⟩
theorem pa_cons (ha : PE X e te) (hr : PA X es t) (hs : starEach (e :: es) X.env = (false, eval e X.env) :: starEach es X.env := by rfl) : PA X (e :: es) (tCons te t) := by
  intro pos pins s σ H Q I h
  rw [hs]
  show wpAny _ _ (spliced ((false, eval e X.env) :: backTo pos (starEach es X.env))) _ _ s
  refine Calls.spliced_cons (thn (ha pins s σ H _ I h) fun u s1 ⟨x, H1, I1, r1, q1⟩ => ?_)
  exact thn (hr pos pins s1 σ H1 _ I1 q1) fun us s2 ⟨xs, H2, I2, r2, q2⟩ => ⟨x :: xs, H2, I2, .cons r1 r2, q2⟩

/-- a tuple, a list of written items -/
def tTup (t : TA) : TE := fun σ H Q => t σ H fun xs H1 => xs.length ≤ sizeLine ∧ ∀ p, H1 p = none → Q (.ref p) (upd H1 p (.tup xs))
def tLst (t : TA) : TE := fun σ H Q => t σ H fun xs H1 => xs.length ≤ sizeLine ∧ ∀ p, H1 p = none → Q (.ref p) (upd H1 p (.lst xs))
theorem pe_tup {x1} (h : PA X es t) : PE X (.Tuple es x1 pos) (tTup t) := by
  intro pins s σ H Q I hq
  refine wpAny_Tuple_spliced (thn (h pos pins s σ H _ I hq) fun us s1 ⟨xs, H1, I1, r, z, q⟩ => ⟨by rw [← r.length]; exact z, ?_⟩)
  have hf : H1 s1.heap.objs.size = none := I1.hok.fresh (Nat.le_refl _)
  refine ⟨.ref s1.heap.objs.size, upd H1 s1.heap.objs.size (.tup xs), I1.laid (t' := s1.toks) (fun b u e => Heap.get?_push_of_some _ e) (Nat.le_refl _) ?_, rfl, q _ hf⟩
  exact ⟨z, us, r, ⟨_, Heap.get?_push_size _ rfl, rfl, _, rfl⟩⟩
theorem pe_lst (h : PA X es t) : PE X (.List es pos) (tLst t) := by
  intro pins s σ H Q I hq
  refine wpAny_List_spliced (thn (h pos pins s σ H _ I hq) fun us s1 ⟨xs, H1, I1, r, z, q⟩ => ⟨by rw [← r.length]; exact z, ?_⟩)
  have hf : H1 s1.heap.objs.size = none := I1.hok.fresh (Nat.le_refl _)
  refine ⟨.ref s1.heap.objs.size, upd H1 s1.heap.objs.size (.lst xs), I1.laid (t' := s1.toks) (fun b u e => Heap.get?_push_of_some _ e) (Nat.le_refl _) ?_, rfl, q _ hf⟩
  exact ⟨z, us, 0, r, Heap.get?_push_size _ rfl⟩
end

/-! ### what a def promises -/
/-- a def's promise: the bound arguments in the parameters' order, the heap, the wanted end, the wanted exception -/
abbrev Sp := List V → Hp → VK → XK → Prop
/-- how an exception lies behind a call (file 08 gives it): the callers' frames, abstract heap and state ahead of the call, the wish, the exception, the state -/
abbrev CXT := List Env → Hp → Shared → XK → Value → Shared → Prop

/-- the state at a call -/
structure Env0 (P : Program) (w : World) (K : PySem.W.Frag) (mg : Str → Option Value) (base : Heap) (A : Around) (outer : List Env) (s : Shared) (H : Hp) : Prop where
  frames : A.frames = some outer
  mod : Mod K mg base
  bs : ∀ b o, base.get? b = some o → s.heap.get? b = some o ∧ H b = none
  bsz : base.objs.size ≤ s.heap.objs.size
  funs : s.heap.FunFrames base outer
  frf : ∀ b ∈ frs outer, H b = none
  hok : HOk P w H s.heap
  bare : AllBare s.gens
/-- a call's end -/
def CE (outer : List Env) (P : Program) (w : World) (H : Hp) (s : Shared) (Q : VK) (u : Value) (s' : Shared) : Prop :=
  ∃ v H', s'.os = s.os ∧ AllBare s'.gens ∧ Un (frs outer) [] H H' s.heap s'.heap ∧ HOk P w H' s'.heap ∧ RelV v u ∧ Q v H'
def CR (CX : CXT) (outer : List Env) (P : Program) (w : World) (H : Hp) (s : Shared) (Q : VK) (E : XK) (r : Result) (s' : Shared) : Prop :=
  match r with
  | .ok (.ret u) => CE outer P w H s Q u s'
  | .ok _ => False
  | .error e => CX outer H s E e s'
structure FnOk (P : Program) (w : World) (K : PySem.W.Frag) (mg : Str → Option Value) (base : Heap) (CX : CXT) (k : Nat) (f : Addr) (fd : FuncData) (ps : List Str) (sp : Sp) : Prop where
  len : ∀ vs H Q E, sp vs H Q E → vs.length = ps.length
  run : ∀ (A : Around) (outer : List Env) (s : Shared) (H : Hp) (args : Args) (us : List Value) (vs : List V) (Q : VK) (E : XK), Room k A → Env0 P w K mg base A outer s H → BindsTo s fd args (ps.zip us) → Vals vs us → sp vs H Q E →
    codeAny (model P w) A (.call (.ref f) args) (CR CX outer P w H s Q E) s
theorem FnOk.mono {P : Program} {w : World} {K : PySem.W.Frag} {mg : Str → Option Value} {base : Heap} {CX : CXT} {j k : Nat} {f : Addr} {fd : FuncData} {ps : List Str} {sp : Sp} (F : FnOk P w K mg base CX j f fd ps sp) (h : j ≤ k) :
    FnOk P w K mg base CX k f fd ps sp := ⟨F.len, fun A outer s H args us vs Q E hr => F.run A outer s H args us vs Q E (hr.mono h)⟩
section
variable {X : Cx} {pins : List (Addr × Obj)} {σ : St} {H : Hp} {s s' : Shared}
/-- from a body: what a callee wants -/
theorem Inv.env0 (I : Inv X pins σ H s) : Env0 X.prog X.w X.K X.mg X.base X.A X.stack s H :=
  ⟨I.ok.frames, I.ok.mod, I.bs, Nat.le_trans I.ok.bsz I.sz, I.stack, I.stkFree, I.hok, I.bare⟩
/-- behind a call -/
theorem Inv.after {Q : VK} {u : Value} (I : Inv X pins σ H s) (h : CE X.stack X.prog X.w H s Q u s') : EP X pins σ Q u s' := by
  obtain ⟨v, H', os, bare, un, hok, r, q⟩ := h
  obtain ⟨hh, g, d, t, os'⟩ := s'
  obtain rfl : os' = s.os := os
  exact ⟨v, H', I.call (h' := hh) (g' := g) (d' := d) (t' := t) (ch := []) un hok bare (fun b z => absurd z (by simp)), r, q⟩
end

/-! ### calls -/
/-- f(..): the written arguments, then the defaults dvs; E: what is wanted of an exception -/
def tCall (sp : Sp) (dvs : List V) (E : XK) (t : TA) : TE := fun σ H Q => t σ H fun vs H1 => sp (vs ++ dvs) H1 Q E
/-- o.m(..) of an instance of the class at C -/
def tMeth (C : Addr) (m : Str) (sp : Sp) (dvs : List V) (E : XK) (ta : TE) (t : TA) : TE := fun σ H Q => ta σ H fun x H1 => ∃ a dx fs, x = .ref a ∧ H1 a = some (.ins C dx fs) ∧ fs.lookup m = none ∧
  t σ H1 fun vs H2 => sp (x :: (vs ++ dvs)) H2 Q E
/-- C(..): a new instance and its dict, then __init__ -/
def tMake (C : Addr) (sp : Sp) (dvs : List V) (E : XK) (t : TA) : TE := fun σ H Q => t σ H fun vs H1 => ∀ x dx, H1 x = none → H1 dx = none → dx ≠ x →
  sp (.ref x :: (vs ++ dvs)) (upd (upd H1 dx (.own x)) x (.ins C dx [])) (fun v H2 => v = .non ∧ Q (.ref x) H2) E

/-- how the parameters are bound: us the positional arguments, kw the keywords' values by name, ds the defaults that fill up -/
def Binds (K : PySem.W.Frag) (fd : FuncData) (ps : List Str) (ds : List Value) : Prop :=
  ∀ (s : Shared) (us : List Value), K.In s.heap → (us ++ ds).length = ps.length → BindsTo s fd ⟨us, []⟩ (ps.zip (us ++ ds))
/-- every parameter is given -/
theorem Binds.all {K : PySem.W.Frag} {fd : FuncData} {ps : List Str} (h : ∀ us : List Value, us.length = ps.length → bindArgs fd ⟨us, []⟩ = pure (ps.zip us)) : Binds K fd ps [] := fun s us _ hl => by
  rw [List.append_nil] at hl ⊢
  exact .of_eq (h us hl)

/-- an exception of a callee reaches what this body wants of exceptions -/
def Passes (CX : CXT) (X : Cx) (E : XK) : Prop := ∀ (pins : List (Addr × Obj)) (σ : St) (H : Hp) (s : Shared) (e : Value) (s' : Shared), Inv X pins σ H s → CX X.stack H s E e s' → X.xe e s'

section
variable {X : Cx} {CX : CXT} {k : Nat} {f C : Addr} {fd : FuncData} {ps : List Str} {sp : Sp} {dvs : List V} {ds : List Value} {E : XK} {x m : Str} {p pos apos : Pos} {e o : Expr} {es : List Expr} {ta : TE} {t : TA}

/-- the callee runs -/
theorem run_fn {pins : List (Addr × Obj)} {σ : St} {H : Hp} {s : Shared} {Q : VK} {us : List Value} {vs : List V} (F : FnOk X.prog X.w X.K X.mg X.base CX k f fd ps sp) (hr : Room k X.A) (hb : Binds X.K fd ps ds) (hd : Vals dvs ds) (hx : Passes CX X E)
    (I : Inv X pins σ H s) (r : Vals vs us) (h : sp (vs ++ dvs) H Q E) : wpAny (model X.prog X.w) X.A (call (.ref f) us) (EP X pins σ Q) X.xe s := by
  have r2 : Vals (vs ++ dvs) (us ++ ds) := r.append hd
  have hl : (us ++ ds).length = ps.length := by rw [← r2.length]; exact F.len _ _ _ _ h
  refine wpAny_call (codeAny_mono (F.run X.A X.stack s H ⟨us, []⟩ (us ++ ds) (vs ++ dvs) Q E hr I.env0 (hb s us I.kIn hl) r2 h) fun r s' hq => ?_)
  cases r with
  | error e => exact hx pins σ H s e s' I hq
  | ok fl =>
    cases fl with
    | ret u => exact I.after hq
    | next => exact False.elim hq
    | brk => exact False.elim hq
    | cont => exact False.elim hq

theorem pe_call (F : FnOk X.prog X.w X.K X.mg X.base CX k f fd ps sp) (hr : Room k X.A) (hg : Gl X x) (hm : X.mg x = some (.ref f)) (hk : PySem.W.keepIn X.K (.ref f) = true) (hb : Binds X.K fd ps ds) (hd : Vals dvs ds) (hx : Passes CX X E)
    (ha : PA X (e :: es) t) (hdb : (x == ("__debug__" : Str)) = false := by decide) (he : starEach (e :: es) X.env = (false, eval e X.env) :: starEach es X.env := by rfl) (hpl : (backTo pos (starEach es X.env)).any (·.1) = false := by rfl) :
    PE X (.Call (.Name x p) (e :: es) [] pos) (tCall sp dvs E t) := by
  intro pins s σ H Q I h
  refine wpAny_Call_Name_kw (ld_glob I hg hm ?_ hdb)
  refine PySem.W.callWith_K (h₀ := X.base) I.ok.mod.kin hk (thn (ha pos pins s σ H _ I h) fun us s1 ⟨vs, H1, I1, r, q⟩ => ⟨I1.kIn, ?_⟩) he hpl
  exact run_fn F hr hb hd hx I1 r q
/-- what a class must have to be made -/
structure Mk (K : PySem.W.Frag) (C f : Addr) : Prop where
  makes : PySem.W.makesIn K C = true
  init : PySem.W.findIn K (.ref C) "__init__" = some (some (.ref f))
  fn : PySem.W.isFn K (.ref f) = true
  kp : PySem.W.keepIn K (.ref C) = true

end

/-! ### keywords -/
/-- the values of the keywords, from the left -/
def PK (X : Cx) (kws : List Keyword) (t : TA) : Prop :=
  ∀ (pos : Pos) (pins : List (Addr × Obj)) (s : Shared) (σ : St) (H : Hp) (Q : List V → Hp → Prop), Inv X pins σ H s → t σ H Q → wpAny (model X.prog X.w) X.A (evalAll ((backToKw pos (keywordEach kws X.env)).map (·.2))) (AP X pins σ Q) X.xe s
section
variable {X : Cx} {CX : CXT} {k : Nat} {f C : Addr} {fd : FuncData} {ps ks : List Str} {sp : Sp} {E : XK} {x m : Str} {p pos apos kpos : Pos} {e o : Expr} {es : List Expr} {kws : List Keyword} {te ta : TE} {t tk : TA} {nm : Option Str}
/-- how a call with keywords binds: g puts the positional values us and the keywords' values ws (names ks) in the parameters' order, defaults among them -/
structure KBinds (K : PySem.W.Frag) (fd : FuncData) (ps ks : List Str) (g : List Value → List Value → List Value) (gV : List V → List V → List V) : Prop where
  to : ∀ (s : Shared) (us ws : List Value), K.In s.heap → (g us ws).length = ps.length → BindsTo s fd ⟨us, ks.zip ws⟩ (ps.zip (g us ws))
  rel : ∀ {vs : List V} {us : List Value} {zs : List V} {ws : List Value}, Vals vs us → Vals zs ws → Vals (gV vs zs) (g us ws)
def tCallK (sp : Sp) (gV : List V → List V → List V) (E : XK) (t tk : TA) : TE := fun σ H Q => t σ H fun vs H1 => tk σ H1 fun zs H2 => sp (gV vs zs) H2 Q E
variable {g : List Value → List Value → List Value} {gV : List V → List V → List V}
end

/-! ### a def's body keeps its promise -/
/-- names: the parameters first -/
structure FnScope (N P : List Str) (sc : Scope) : Prop where
  kind : sc.kind = .function
  co : sc.isCoroutine = false
  gen : sc.isGenerator = false
  nd : N.Nodup
  pre : N.take P.length = P
  par : ∀ x ∈ P, sc.names.lookup x = some .local ∨ sc.names.lookup x = some .cell
  nofree : ∀ y ∈ sc.names, y.2 ≠ .free

theorem bindL_out {kindOf : Str → Option NameKind} {x : Str} : ∀ {binds : List (Str × Value)} {m : Str → Option Value}, (∀ v, (x, v) ∉ binds) → bindL kindOf binds m x = m x
  | [], _, _ => rfl
  | (n, v) :: r, m, h => by
    unfold bindL
    rw [bindL_out fun w hw => h w (List.mem_cons_of_mem _ hw)]
    split
    · have : x ≠ n := by rintro rfl; exact h v List.mem_cons_self
      simp [this]
    · rfl
theorem bindC_out {kindOf : Str → Option NameKind} {x : Str} : ∀ {binds : List (Str × Value)} {m : Str → Option Value}, (∀ v, (x, v) ∉ binds) → bindC kindOf binds m x = m x
  | [], _, _ => rfl
  | (n, v) :: r, m, h => by
    unfold bindC
    rw [bindC_out fun w hw => h w (List.mem_cons_of_mem _ hw)]
    split
    · rfl
    · have : x ≠ n := by rintro rfl; exact h v List.mem_cons_self
      simp [this]
theorem bindL_get {kindOf : Str → Option NameKind} {x : Str} {v : Value} : ∀ {P : List Str} {vs : List Value} {i : Nat} {m : Str → Option Value}, P.Nodup → P[i]? = some x → vs[i]? = some v → kindOf x = some .local →
    bindL kindOf (P.zip vs) m x = some v
  | [], _, _, _, _, h, _, _ => by simp at h
  | _ :: _, [], _, _, _, _, h, _ => by simp at h
  | p :: P, w :: vs, 0, m, nd, h1, h2, hk => by
    simp at h1 h2; subst h1; subst h2
    show bindL kindOf ((p, w) :: P.zip vs) m p = _
    unfold bindL
    rw [bindL_out fun v hv => (List.nodup_cons.mp nd).1 (List.of_mem_zip hv).1, if_pos hk]
    simp
  | p :: P, w :: vs, i + 1, m, nd, h1, h2, hk => by
    show bindL kindOf ((p, w) :: P.zip vs) m x = _
    unfold bindL
    exact bindL_get (i := i) (List.nodup_cons.mp nd).2 (by simpa using h1) (by simpa using h2) hk
theorem bindC_get {kindOf : Str → Option NameKind} {x : Str} {v : Value} : ∀ {P : List Str} {vs : List Value} {i : Nat} {m : Str → Option Value}, P.Nodup → P[i]? = some x → vs[i]? = some v → kindOf x ≠ some .local →
    bindC kindOf (P.zip vs) m x = some v
  | [], _, _, _, _, h, _, _ => by simp at h
  | _ :: _, [], _, _, _, _, h, _ => by simp at h
  | p :: P, w :: vs, 0, m, nd, h1, h2, hk => by
    simp at h1 h2; subst h1; subst h2
    show bindC kindOf ((p, w) :: P.zip vs) m p = _
    unfold bindC
    rw [bindC_out fun v hv => (List.nodup_cons.mp nd).1 (List.of_mem_zip hv).1, if_neg hk]
    simp
  | p :: P, w :: vs, i + 1, m, nd, h1, h2, hk => by
    show bindC kindOf ((p, w) :: P.zip vs) m x = _
    unfold bindC
    exact bindC_get (i := i) (List.nodup_cons.mp nd).2 (by simpa using h1) (by simpa using h2) hk

/-- the names' values at the entry -/
def start (N : List Str) (vs : List V) : St := vs.map some ++ List.replicate (N.length - vs.length) none

/-- the context of a def's body, at its entry; an exception leaves the frame, then lies as CX says -/
def cxOf (CX : CXT) (P : Program) (w : World) (K : PySem.W.Frag) (mg : Str → Option Value) (base : Heap) (N : List Str) (qual : Str) (scope : Scope) (f : Addr) (cd : Value) (A : Around) (outer : List Env) (s : Shared) (H : Hp) (E : XK) : Cx where
  prog := P
  w := w
  K := K
  mg := mg
  base := base
  A := A.deeper (envOfC qual scope s.heap.objs.size f cd)
  N := N
  s₀ := s
  H₀ := H
  env := envOfC qual scope s.heap.objs.size f cd
  outer := outer
  stack := envOfC qual scope s.heap.objs.size f cd :: outer
  ex := []
  calm := true
  fn := fun _ => true
  pn := []
  xe := fun e s' => wpAny (model P w) (A.deeper (envOfC qual scope s.heap.objs.size f cd)) (leaving (envOfC qual scope s.heap.objs.size f cd) e) (fun _ s'' => CX outer H s E e s'') (fun e' s'' => CX outer H s E e' s'') s'

theorem cell_has {sc : Scope} {n : Nat} {x : Str} (h : sc.names.lookup x = some .cell) : ∃ c, (cellsFrom n sc.names []).lookup x = some c := by
  have q := PySem.W.cellsFrom_some sc.names n [] (.inl h)
  exact Option.isSome_iff_exists.mp q

theorem inv_start {CX : CXT} {P : Program} {w : World} {K : PySem.W.Frag} {mg : Str → Option Value} {base : Heap} {N ps : List Str} {qual : Str} {scope : Scope} {f : Addr} {cd : Value} {A : Around} {outer : List Env} {s s1 : Shared} {H : Hp} {E : XK} {us : List Value} {vs : List V}
    (S : FnScope N ps scope) (hd : A.handled = none) (e0 : Env0 P w K mg base A outer s H) (hl : vs.length = ps.length) (r : Vals vs us)
    (x : InCallC s s.heap.objs.size (bindL (envOfC qual scope s.heap.objs.size f cd).kindOf (ps.zip us) fun _ => none) (cellsFrom (s.heap.objs.size + 1) scope.names []) (bindC (envOfC qual scope s.heap.objs.size f cd).kindOf (ps.zip us) fun _ => none) s1) :
    Inv (cxOf CX P w K mg base N qual scope f cd A outer s H E) [] (start N vs) H s1 := by
  have hpl : ps.length ≤ N.length := by have := congrArg List.length S.pre; rw [List.length_take] at this; omega
  obtain ⟨h1, tk, rfl, hk⟩ := x.done
  have noA : ∀ b : Addr, b ∉ (cxOf CX P w K mg base N qual scope f cd A outer s H E).ex := fun b z => absurd (show b ∈ ([] : List Addr) from z) (by simp)
  refine ⟨⟨e0.mod, S.kind, rfl, rfl, Nat.le_refl _, fun y z c h1 h2 => ?_, fun y hy => ?_, fun y c _ h => ?_, fun _ => hd, Around.frames_deeper e0.frames, .inr ⟨rfl, rfl⟩, fun b z => absurd z (noA b), e0.bs, e0.bsz, fun b _ _ => noA b, fun b z => absurd z (noA b), e0.funs, e0.frf⟩,
    rfl, e0.bare, Un.kept hk, ⟨_, x.toInCall.ns, fun i y v h1 h2 h3 => ?_⟩, fun y c h => ⟨_, x.cell y c h⟩, e0.hok.fresh (Nat.le_refl _), fun y c h => ?_, fun p hp => absurd (show p ∈ ([] : List (Addr × Obj)) from hp) (by simp), e0.hok.kept hk, ?_⟩
  · exact name_of_addr x.apart (PySem.mem_of_lookup h1) (PySem.mem_of_lookup h2)
  · have hy : scope.names.lookup y = some .cell ∨ scope.names.lookup y = some .free := hy
    rcases hy with hy | hy
    · exact cell_has hy
    · exact absurd rfl (S.nofree _ (PySem.mem_of_lookup hy))
  · exact Nat.le_of_lt (x.above y c (PySem.mem_of_lookup h))
  · have hi : i < vs.length := by
      unfold start at h2
      by_cases hi : i < vs.length
      · exact hi
      · rw [List.getElem?_append_right (by simpa using hi)] at h2
        rw [List.getElem?_replicate] at h2
        split at h2 <;> cases h2
    have ha : vs[i]? = some v := by
      unfold start at h2
      rw [List.getElem?_append_left (by simpa using hi), List.getElem?_map] at h2
      cases e : vs[i]? with
      | none => rw [e] at h2; cases h2
      | some a => rw [e] at h2; cases h2; rfl
    obtain ⟨u, hu, rv⟩ := r.get ha
    have hp : ps[i]? = some y := by
      rw [← S.pre, List.getElem?_take_of_lt (by omega)]; exact h1
    have ndP : ps.Nodup := by rw [← S.pre]; exact S.nd.sublist (List.take_sublist _ _)
    refine ⟨u, rv, ?_⟩
    rcases S.par y (List.mem_of_getElem? hp) with k | k
    · exact .inl ⟨k, bindL_get ndP hp hu k⟩
    · obtain ⟨c, e⟩ := cell_has (n := s.heap.objs.size + 1) k
      refine .inr ⟨.inl k, c, e, ?_⟩
      have q := x.cell y c e
      rw [bindC_get ndP hp hu (by show scope.names.lookup y ≠ _; rw [k]; decide)] at q
      exact q
  · exact e0.hok.fresh (Nat.le_of_lt (x.above y c (PySem.mem_of_lookup h)))
  · unfold start
    show _ = N.length
    rw [List.length_append, List.length_map, List.length_replicate]
    omega

/-- THE RULE: a def (or a method) of the text, by its body. The body's reading t is chosen for each entry; it is run at the parameters' values -/
theorem fn_of {CX : CXT} {P : Program} {w : World} {K : PySem.W.Frag} {mg : Str → Option Value} {base : Heap} {k : Nat} {f : Addr} {name qual : Str} {params : Arguments} {body : List Stmt} {scope : Scope} {dV kV doc pm cdv ct oc : Value} {an od : Option Addr}
    {osl : Array (Option Value)} {N ps : List Str} {sp : Sp} (lk : K.lookup f = some ⟨oc, od, .func (PySem.W.fnOf name qual params body scope dV kV doc pm an cdv ct), osl⟩) (hcd : PySem.W.codeIn K cdv qual = true) (S : FnScope N ps scope)
    (len : ∀ vs H Q E, sp vs H Q E → vs.length = ps.length)
    (hbody : ∀ (A : Around) (outer : List Env) (s : Shared) (H : Hp) (vs : List V) (Q : VK) (E : XK), Room k (A.deeper (envOfC qual scope s.heap.objs.size f cdv)) → sp vs H Q E →
      ∃ t, PSs (cxOf CX P w K mg base N qual scope f cdv A outer s H E) body t ∧ t { nx := fun _ H' => Q .non H', rt := Q } (start N vs) H) :
    FnOk P w K mg base CX (k + 1) f (PySem.W.fnOf name qual params body scope dV kV doc pm an cdv ct) ps sp := by
  refine ⟨len, fun A outer s H args us vs Q E hr e0 hb r hsp => ?_⟩
  have hl := len _ _ _ _ hsp
  have KX : K.In s.heap := e0.mod.kin.keeps fun b o e => (e0.bs b o e).1
  have lim : s.heap.NoLimit := e0.mod.nolimit.keeps fun b o e => (e0.bs b o e).1
  have hkind : ∀ y ∈ ps.zip us, scope.names.lookup y.1 = some .local ∨ (scope.names.lookup y.1 = some .cell ∧ ((cellsFrom (s.heap.objs.size + 1) scope.names []).lookup y.1).isSome = true) := fun ⟨n, v⟩ hy => by
    rcases S.par n (List.of_mem_zip hy).1 with q | q
    · exact .inl q
    · exact .inr ⟨q, PySem.W.cellsFrom_some _ _ _ (.inl q)⟩
  refine codeAny_call_function hr.depth (KX _ _ lk) rfl S.co S.gen rfl (PySem.W.codeRec_of KX hcd) (hb _ _ _ _ ?_)
  refine wpAny_newFunctionEnv_cells S.kind hkind fun env he s1 x => ?_
  subst he
  refine ⟨lim.keeps x.toInCall.keep, codeAny_func ?_⟩
  obtain ⟨t, ht, hq⟩ := hbody A outer s H vs Q E (hr.deeper _) hsp
  have I : Inv (cxOf CX P w K mg base N qual scope f cdv A outer s H E) [] (start N vs) H s1 := inv_start S hr.hd e0 hl r x
  refine wpAny_mono (ht [] s1 (start N vs) H _ I hq) (fun fl s' hs => ?_) fun e s' hs => hs
  have fin : ∀ {σ' : St} {H' : Hp} {v : V} {u : Value}, Inv (cxOf CX P w K mg base N qual scope f cdv A outer s H E) [] σ' H' s' → RelV v u → Q v H' → CE outer P w H s Q u s' :=
    fun {σ' H' v u} J rv q => ⟨v, H', J.os, J.bare, J.base, J.hok, rv, q⟩
  cases fl with
  | ret u =>
    obtain ⟨v, σ', H', J, rv, q⟩ := hs
    exact fin J rv q
  | next =>
    obtain ⟨σ', H', J, q⟩ := hs
    exact fin (v := V.non) (u := Value.none) J rfl q
  | brk =>
    obtain ⟨_, _, _, q⟩ := hs
    exact False.elim q
  | cont =>
    obtain ⟨_, _, _, q⟩ := hs
    exact False.elim q
end L2

namespace L2
open PySem PySem.Spec PyProof.Rows
section
variable {X : Cx} {x : Str} {p pos : Pos} {e : Expr} {es : List Expr} {t : TA} {id T : String} {r : List V → Hp → VK → Prop}

def tCB (r : List V → Hp → VK → Prop) (t : TA) : TE := fun σ H Q => t σ H fun vs H1 => r vs H1 Q
/-- f(e, ..), f a built-in function -/
theorem pe_callB (hc : CallR X (.builtin id) r) (hg : Gl X x) (hm : X.mg x = none) (hv : bootBuiltins x = some (.builtin id)) (ha : PA X (e :: es) t) (hn : x ≠ "__name__" := by decide) (hdb : (x == ("__debug__" : Str)) = false := by decide)
    (he : starEach (e :: es) X.env = (false, eval e X.env) :: starEach es X.env := by rfl) (hpl : (backTo pos (starEach es X.env)).any (·.1) = false := by rfl) : PE X (.Call (.Name x p) (e :: es) [] pos) (tCB r t) := by
  intro pins s σ H Q I h
  refine wpAny_Call_Name_kw (ld_blt I hg hm hv ?_ hn hdb)
  exact PyProof.Rows.callWith_builtin1 (thn (ha pos pins s σ H _ I h) fun us s1 ⟨vs, H1, I1, r1, q1⟩ => hc pins s1 σ H1 vs us Q I1 r1 q1) he hpl
/-- T(e, ..), T a built-in type -/
theorem pe_callTy (hc : CallR X (.type T) r) (hg : Gl X x) (hm : X.mg x = none) (hv : bootBuiltins x = some (.type T)) (ha : PA X (e :: es) t) (hn : x ≠ "__name__" := by decide) (hdb : (x == ("__debug__" : Str)) = false := by decide)
    (he : starEach (e :: es) X.env = (false, eval e X.env) :: starEach es X.env := by rfl) (hpl : (backTo pos (starEach es X.env)).any (·.1) = false := by rfl) : PE X (.Call (.Name x p) (e :: es) [] pos) (tCB r t) := by
  intro pins s σ H Q I h
  refine wpAny_Call_Name_kw (ld_blt I hg hm hv ?_ hn hdb)
  exact PyProof.Rows.callWith_type1 (thn (ha pos pins s σ H _ I h) fun us s1 ⟨vs, H1, I1, r1, q1⟩ => hc pins s1 σ H1 vs us Q I1 r1 q1) he hpl
end
end L2

namespace HT
open PySem PyProof.Rows

/-- t < u of tuples of ints -/
def lexLt : List Int → List Int → Bool
  | [], [] => false
  | [], _ :: _ => true
  | _ :: _, [] => false
  | x :: xs, y :: ys => if x = y then lexLt xs ys else decide (x < y)
section
open PySem.SeqAt
open PySem.AutoSeq1 (wpAny_loadPart')
open PySem.MeetsSeq PySem.MeetsSeq2 PySem.MeetsSeq3

end

section
variable {prog : Program} {w : World} {A : Around} {E : Value → Shared → Prop} {s : Shared}

/-! ### t[a:b], not the whole -/
/-- a slice's bound as a place among n (d where it is left out) -/
def sIx (n d : Nat) : Option Int → Nat
  | none => d
  | some v => if v < 0 then (v + (n : Int)).toNat else min v.toNat n
theorem sIx_nat (n d k : Nat) : sIx n d (some (k : Int)) = min k n := by
  show (if (k : Int) < 0 then ((k : Int) + (n : Int)).toNat else min (k : Int).toNat n) = min k n
  rw [if_neg (by omega), Int.toNat_natCast]
end
end HT

namespace L2
open PySem PySem.Spec PyProof.Rows

/-! ### the parts of a slice -/
abbrev TO := St → Hp → (Option Int → Hp → Prop) → Prop
/-- a slice's part (left out, or an int) -/
def PO (X : Cx) (e : Option Expr) (t : TO) : Prop :=
  ∀ (pins : List (Addr × Obj)) (s : Shared) (σ : St) (H : Hp) (Q : Option Int → Hp → Prop), Inv X pins σ H s → t σ H Q →
    wpAny (model X.prog X.w) X.A (evalPart e X.env) (fun u s' => ∃ o H', Inv X pins σ H' s' ∧ IsPart u o ∧ Q o H') X.xe s
def tNoPart : TO := fun _ H Q => Q none H
def tPart (t : TE) : TO := fun σ H Q => t σ H fun x H1 => ∃ i, x = .int i ∧ Q (some i) H1

theorem intsAre_of {ns : List Int} : ∀ {us : List Value}, Vals (ns.map V.int) us → IntsAre us ns := by
  induction ns with
  | nil => intro us r; rw [List.map_nil] at r; cases r; exact .nil
  | cons n ns ih =>
    intro us r
    rw [List.map_cons] at r
    cases r with
    | cons r1 r2 =>
      obtain ⟨t, e⟩ := r1
      subst e
      exact .cons n t (ih r2)

section
variable {X : Cx} {e : Expr} {te : TE} {lo hi : Option Expr} {tl th : TO} {pos p2 : Pos}

theorem po_none : PO X none tNoPart := by
  intro pins s σ H Q I h
  rw [evalPart_none]
  exact wpAny_pure ⟨none, H, I, .none, h⟩
theorem po_some (h : PE X e te) : PO X (some e) (tPart te) := by
  intro pins s σ H Q I hw
  rw [evalPart_some]
  refine thn (h pins s σ H _ I hw) fun u s1 ⟨x, H1, I1, r1, q1⟩ => ?_
  obtain ⟨i, rfl, q⟩ := q1
  obtain ⟨t, rfl⟩ := r1
  exact ⟨some i, H1, I1, .int i t, q⟩

/-- what a slice of a value is, by values: the slice object stands at sl -/
def SlR (X : Cx) (r : V → Option Int → Option Int → Hp → VK → Prop) : Prop :=
  ∀ (pins : List (Addr × Obj)) (s : Shared) (σ : St) (H : Hp) (x : V) (v vl vu : Value) (lo hi : Option Int) (sl : Addr) (Q : VK), Inv X pins σ H s → RelV x v → s.heap.IsSliceOf sl vl vu .none → IsPart vl lo → IsPart vu hi → r x lo hi H Q →
    ∃ T id, typeLookup (.type T) "__getitem__" = pure (some (.builtin id)) ∧ s.TypeIs v T ∧ wpAny (model X.prog X.w) X.A (getItem v (.ref sl)) (EP X pins σ Q) X.xe s
def tSl (r : V → Option Int → Option Int → Hp → VK → Prop) (te : TE) (tl th : TO) : TE := fun σ H Q => te σ H fun x H1 => tl σ H1 fun l H2 => th σ H2 fun u H3 => r x l u H3 Q
/-- a[lo:hi], any a -/
theorem pe_slice {r : V → Option Int → Option Int → Hp → VK → Prop} (hr : SlR X r) (he : PE X e te) (hl : PO X lo tl) (hu : PO X hi th) : PE X (.Subscript e (.Slice lo hi none p2) pos) (tSl r te tl th) := by
  intro pins s σ H Q I h
  refine Subscript_ (thn (he pins s σ H _ I h) fun v s1 ⟨x, H1, I1, r1, q1⟩ => ?_)
  refine wpAny_Slice (thn (hl pins s1 σ H1 _ I1 q1) fun vl s2 ⟨l, H2, I2, pl, q2⟩ => thn (hu pins s2 σ H2 _ I2 q2) fun vu s3 ⟨u, H3, I3, pu, q3⟩ => ?_)
  rw [evalPart_none]
  refine wpAny_pure ?_
  have I4 : Inv X pins σ H3 { s3 with heap := s3.heap.push { cls := .type "slice", data := .fields #[vl, vu, .none] } } := I3.kept (t' := s3.toks) fun b ob q => Heap.get?_push_of_some _ q
  obtain ⟨T, id, hT, ht, hg⟩ := hr pins { s3 with heap := s3.heap.push { cls := .type "slice", data := .fields #[vl, vu, .none] } } σ H3 x v vl vu l u s3.heap.objs.size Q I4 r1 (Heap.IsSliceOf.new ..) pl pu q3
  show wpAny (model X.prog X.w) X.A (subscriptTail e (.Slice lo hi none p2) v (.ref s3.heap.objs.size)) (EP X pins σ Q) X.xe { s3 with heap := s3.heap.push { cls := .type "slice", data := .fields #[vl, vu, .none] } }
  exact tail_any (ops := [.ref s3.heap.objs.size, v]) ht hT hg (by with_unfolding_all rfl)

/-- the items of xs[lo:hi] -/
def cutV (xs : List V) (lo hi : Option Int) : List V := (xs.drop (HT.sIx xs.length 0 lo)).take (HT.sIx xs.length xs.length hi - HT.sIx xs.length 0 lo)
theorem cutV_length (xs : List V) (lo hi : Option Int) : (cutV xs lo hi).length ≤ xs.length := by
  unfold cutV
  rw [List.length_take, List.length_drop]
  omega
/-- t[lo:hi], not the whole of it (the whole would be t itself) -/
def rSlT (K : PySem.W.Frag) : V → Option Int → Option Int → Hp → VK → Prop := fun x lo hi H Q => ∃ a xs, x = .ref a ∧ SqT K H a xs ∧
  ¬ (HT.sIx xs.length 0 lo = 0 ∧ HT.sIx xs.length xs.length hi = xs.length) ∧ ∀ p, H p = none → Q (.ref p) (upd H p (.tup (cutV xs lo hi)))
/-! ### t < u, t + u -/
def rLtT (K : PySem.W.Frag) : R2 := fun x y H Q => ∃ a b ns ms, x = .ref a ∧ y = .ref b ∧ SqT K H a (ns.map V.int) ∧ SqT K H b (ms.map V.int) ∧ Q (.bl (HT.lexLt ns ms)) H
/-- t + u, t not empty: u empty gives t itself -/
def rCatT (K : PySem.W.Frag) : R2 := fun x y H Q => ∃ a b xs ys, x = .ref a ∧ y = .ref b ∧ SqT K H a xs ∧ SqT K H b ys ∧ xs ≠ [] ∧ xs.length + ys.length ≤ sizeLine ∧
  (ys = [] → Q (.ref a) H) ∧ (ys ≠ [] → ∀ p, H p = none → Q (.ref p) (upd H p (.tup (xs ++ ys))))
end
end L2

namespace L2
open PySem PySem.Spec PyProof.Rows

/-! ### places -/
/-- the place that an index of any sign means -/
def ixN (n : Nat) (i : Int) : Option Nat := if 0 ≤ i then (if i < n then some i.toNat else none) else if -(n : Int) ≤ i then some (i + n).toNat else none
def atI {α : Type} (xs : List α) (i : Int) : Option α := (ixN xs.length i).bind fun j => xs[j]?
theorem ixN_seq {n : Nat} {i : Int} {j : Nat} (h : ixN n i = some j) : seqIndex? i n = some j ∧ j < n ∧ -(n : Int) ≤ i ∧ i < n := by
  unfold ixN at h
  by_cases h0 : 0 ≤ i
  · rw [if_pos h0] at h
    by_cases h1 : i < n
    · rw [if_pos h1] at h
      have e : i.toNat = j := Option.some.inj h
      exact ⟨by rw [seqIndex_of h0 h1, e], by omega, by omega, h1⟩
    · rw [if_neg h1] at h; cases h
  · rw [if_neg h0] at h
    by_cases h1 : -(n : Int) ≤ i
    · rw [if_pos h1] at h
      have e : (i + n).toNat = j := Option.some.inj h
      exact ⟨by rw [seqIndex_neg (by omega) h1, e], by omega, h1, by omega⟩
    · rw [if_neg h1] at h; cases h
theorem atI_get {α : Type} {xs : List α} {i : Int} {v : α} (h : atI xs i = some v) : ∃ j, seqIndex? i xs.length = some j ∧ xs[j]? = some v ∧ j < xs.length ∧ -(xs.length : Int) ≤ i ∧ i < xs.length := by
  unfold atI at h
  cases e : ixN xs.length i with
  | none => rw [e] at h; cases h
  | some j =>
    rw [e] at h
    obtain ⟨h1, h2, h3, h4⟩ := ixN_seq e
    exact ⟨j, h1, h, h2, h3, h4⟩
theorem atI_nat {α : Type} {xs : List α} {j : Nat} {v : α} (h : xs[j]? = some v) : atI xs (j : Int) = some v := by
  have hj : j < xs.length := (List.getElem?_eq_some_iff.mp h).1
  have e : ixN xs.length (j : Int) = some j := by
    unfold ixN
    rw [if_pos (by omega), if_pos (by omega)]; simp
  unfold atI; rw [e]; exact h
theorem atI_last {α : Type} (xs : List α) (v : α) : atI (xs ++ [v]) (-1) = some v := by
  have hl : (xs ++ [v]).length = xs.length + 1 := by simp
  have e : ixN (xs ++ [v]).length (-1) = some xs.length := by
    unfold ixN
    rw [hl, if_neg (by decide), if_pos (by omega)]
    congr 1
    omega
  unfold atI
  rw [e]
  show (xs ++ [v])[xs.length]? = some v
  simp

/-! ### what may be subscripted -/
/-- what stands as an index of a plain subscript -/
def PlainIx (b : Expr) : Prop := ∀ o i, subscripted b false o i = operate [o, i] (getItem o i)
/-- a subscript by values -/
def IxR (X : Cx) (r : R2) : Prop :=
  ∀ (value slice : Expr) (pins : List (Addr × Obj)) (s : Shared) (σ : St) (H : Hp) (x y : V) (v u : Value) (Q : VK), Inv X pins σ H s → RelV x v → RelV y u → r x y H Q →
    subscripted slice false v u = operate [v, u] (getItem v u) → wpAny (model X.prog X.w) X.A (subscriptTail value slice v u) (EP X pins σ Q) X.xe s
/-- a call of a builtin's method by values: the receiver, the arguments -/
def MtR (X : Cx) (id : String) (r : V → List V → Hp → VK → Prop) : Prop :=
  ∀ (pins : List (Addr × Obj)) (s : Shared) (σ : St) (H : Hp) (x : V) (xs : List V) (v : Value) (us : List Value) (Q : VK), Inv X pins σ H s → RelV x v → Vals xs us → r x xs H Q →
    wpAny (model X.prog X.w) X.A (call (.builtin id) (v :: us)) (EP X pins σ Q) X.xe s
section
variable {X : Cx} {a b : Expr} {ta tb : TE} {pos : Pos}
/-- a[b] -/
theorem pe_ix {r : R2} (hr : IxR X r) (ha : PE X a ta) (hb : PE X b tb) (hs : PlainIx b) : PE X (.Subscript a b pos) (tOp r ta tb) := by
  intro pins s σ H Q I h
  exact Subscript_ (binT ha hb I h fun v u s2 x y H2 I2 rx ry q => hr a b pins s2 σ H2 x y v u Q I2 rx ry q (hs _ _))

def rIxL (K : PySem.W.Frag) : R2 := fun x y H Q => ∃ p xs i v, x = .ref p ∧ y = .int i ∧ SqL K H p xs ∧ atI xs i = some v ∧ Q v H
def rIxT (K : PySem.W.Frag) : R2 := fun x y H Q => ∃ p xs i v, x = .ref p ∧ y = .int i ∧ SqT K H p xs ∧ atI xs i = some v ∧ Q v H
def rIxS : R2 := fun x y H Q => ∃ z i c, x = .str z ∧ y = .int i ∧ z.length ≤ sizeLine ∧ atI z.cps.toList i = some c ∧ Q (.str ⟨#[c]⟩) H
theorem ix_list : IxR X (rIxL X.K) := by
  intro value slice pins s σ H x y v u Q I rx ry h hs
  obtain ⟨p, xs, i, z, rfl, rfl, hq, he, q⟩ := h
  cases rx
  obtain ⟨t, rfl⟩ := ry
  obtain ⟨its, r, pl, hz⟩ := I.list hq
  obtain ⟨j, h1, h2, h3, h4, h5⟩ := atI_get he
  obtain ⟨w, ew, rw'⟩ := r.get h2
  have hl := r.length
  have hn := line63
  have fin : EP X pins σ Q w s := ⟨z, H, I, rw', q⟩
  by_cases h0 : 0 ≤ i
  · have hj : i.toNat = j := by
      rw [seqIndex_of h0 h5] at h1
      exact Option.some.inj h1
    exact item_listR pl.isList h0 (by omega) (by rw [hj]; simpa using ew) fin hs
  · have hj : (i + (its.toArray.size : Int)).toNat = j := by
      rw [seqIndex_neg (by omega) h4] at h1
      rw [List.size_toArray, ← hl]
      exact Option.some.inj h1
    exact subscriptTail_builtinR (x := w) pl.isList.typeIs slot_list_getitem.lookup
      (wpAny_getItem_list_neg (Q := fun r s' => r = w ∧ EP X pins σ Q r s') pl.isList (by omega) (by rw [List.size_toArray] <;> omega) (by omega) (by rw [hj]; simpa using ew) ⟨rfl, fin⟩) hs
theorem ix_tup : IxR X (rIxT X.K) := by
  intro value slice pins s σ H x y v u Q I rx ry h hs
  obtain ⟨p, xs, i, z, rfl, rfl, hq, he, q⟩ := h
  cases rx
  obtain ⟨t, rfl⟩ := ry
  obtain ⟨its, r, pl, hz⟩ := I.tuple hq
  obtain ⟨j, h1, h2, h3, h4, h5⟩ := atI_get he
  obtain ⟨w, ew, rw'⟩ := r.get h2
  have hl := r.length
  have hn := line63
  have fin : EP X pins σ Q w s := ⟨z, H, I, rw', q⟩
  exact subscriptTail_builtinR (x := w) pl.typeIs slot_tuple_getitem.lookup
    (getItem_tuple (j := j) (Q := fun r s' => r = w ∧ EP X pins σ Q r s') pl (by omega) (by omega) (by rw [List.size_toArray, ← hl]; exact h1) (by simpa using ew) ⟨rfl, fin⟩) hs
/-- list, tuple or str -/
def rIx (K : PySem.W.Frag) : R2 := fun x y H Q => rIxL K x y H Q ∨ rIxT K x y H Q ∨ rIxS x y H Q
/-! ### xs[i] = v, any sign -/
/-- the list's object behind a store -/
theorem mapSeq_set (its : List Value) (n j : Nat) (u : Value) : Obj.mapSeq (·.setIfInBounds j u) { cls := .type "list", data := .seq its.toArray n } = { cls := .type "list", data := .seq (its.set j u).toArray n } := by
  simp [Obj.mapSeq]
theorem Inv.lst {pins : List (Addr × Obj)} {σ : St} {H : Hp} {s : Shared} {p : Addr} {xs : List V} (I : Inv X pins σ H s) (h : H p = some (.lst xs)) :
    ∃ (its : List Value) (n : Nat), Vals xs its ∧ s.heap.get? p = some { cls := .type "list", data := .seq its.toArray n } ∧ xs.length ≤ sizeLine := by
  obtain ⟨z, its, n, r, e⟩ := I.hok p _ h
  exact ⟨its, n, r, e, z⟩
/-- the list at p is written by an update of its object -/
theorem Inv.lstUpd {pins : List (Addr × Obj)} {σ : St} {H : Hp} {s : Shared} {p : Addr} {xs ys : List V} {its its' : List Value} {n n' : Nat} {f : Obj → Obj} (I : Inv X pins σ H s) (h : H p = some (.lst xs))
    (ho : s.heap.get? p = some { cls := .type "list", data := .seq its.toArray n }) (hf : f { cls := .type "list", data := .seq its.toArray n } = { cls := .type "list", data := .seq its'.toArray n' }) (r : Vals ys its') (hz : ys.length ≤ sizeLine) (t : Nat) :
    Inv X pins σ (upd H p (.lst ys)) { s with heap := s.heap.update p f, toks := t } := by
  have e : (s.heap.update p f).get? p = some { cls := .type "list", data := .seq its'.toArray n' } := by
    rw [Heap.get?_update_self f ho (by rw [hf] <;> rfl), hf]
  refine I.write (x := p) (e := p) (by rw [h]; trivial) (.inl rfl) (fun b u hb q => (Heap.get?_update_other _ _ (Ne.symm hb)).trans q) ⟨_, e⟩ ?_
  exact ⟨hz, its', n', r, e⟩
def rSetL : V → V → V → Hp → (Hp → Prop) → Prop := fun o i v H Q => ∃ p xs k j, o = .ref p ∧ i = .int k ∧ H p = some (.lst xs) ∧ ixN xs.length k = some j ∧ Q (upd H p (.lst (xs.set j v)))
theorem set_list : PSet X rSetL := by
  intro pins s σ H o i v ov iv u Q I ro ri rv h
  obtain ⟨p, xs, k, j, rfl, rfl, hp, hj, q⟩ := h
  cases ro
  obtain ⟨t, rfl⟩ := ri
  obtain ⟨its, n, r, ho, hz⟩ := I.lst hp
  obtain ⟨h1, h2, h3, h4⟩ := ixN_seq hj
  have hl := r.length
  have hn := line63
  have I' : Inv X pins σ (upd H p (.lst (xs.set j v))) { s with heap := s.heap.update p (Obj.mapSeq (·.setIfInBounds j u)) } :=
    I.lstUpd hp ho (mapSeq_set its n j u) (r.set rv j) (by rw [List.length_set]; exact hz) s.toks
  by_cases h0 : 0 ≤ k
  · have hk : k.toNat = j := by
      rw [seqIndex_of h0 h4] at h1
      exact Option.some.inj h1
    exact PySem.W.ki_setAt ho h0 (by omega) (by rw [List.size_toArray, ← hl]; exact h4) (by rw [hk]; exact ⟨_, I', q⟩)
  · have hk : (k + (its.toArray.size : Int)).toNat = j := by
      rw [seqIndex_neg (by omega) h3] at h1
      rw [List.size_toArray, ← hl]
      exact Option.some.inj h1
    exact PySem.W.ki_setBack ho (by omega) (by rw [List.size_toArray, ← hl]; exact h3) (by omega) (by rw [hk]; exact ⟨_, I', q⟩)

/-! ### slices -/
theorem slice_bounds (lo hi : Option Int) (n : Nat) : (sliceBounds lo hi none n).1 = ((HT.sIx n 0 lo : Nat) : Int) ∧ (sliceBounds lo hi none n).2.1 = ((HT.sIx n n hi : Nat) : Int) ∧ (sliceBounds lo hi none n).2.2 = 1 := by
  refine ⟨?_, ?_, rfl⟩
  · cases lo with
    | none => simp [sliceBounds, HT.sIx]
    | some i =>
      simp only [sliceBounds, HT.sIx, Option.getD_none, show (1 : Int) > 0 by decide, if_true]
      by_cases h : i < 0
      · simp only [h, if_true] <;> omega
      · simp only [h, if_false] <;> omega
  · cases hi with
    | none => simp [sliceBounds, HT.sIx]
    | some i =>
      simp only [sliceBounds, HT.sIx, Option.getD_none, show (1 : Int) > 0 by decide, if_true]
      by_cases h : i < 0
      · simp only [h, if_true] <;> omega
      · simp only [h, if_false] <;> omega
theorem slicePick_cut (its : List Value) (lo hi : Option Int) : slicePick its.toArray lo hi none = ((its.drop (HT.sIx its.length 0 lo)).take (HT.sIx its.length its.length hi - HT.sIx its.length 0 lo)).toArray := by
  obtain ⟨h1, h2, h3⟩ := slice_bounds lo hi its.toArray.size
  unfold slicePick
  rw [h1, h2, h3]
  simp only [sliceRange_one, pick_run, List.size_toArray] <;> rfl
/-- xs[lo:hi] of a list: a new list -/
def rSlL (K : PySem.W.Frag) : V → Option Int → Option Int → Hp → VK → Prop := fun x lo hi H Q => ∃ a xs, x = .ref a ∧ SqL K H a xs ∧ ∀ p, H p = none → Q (.ref p) (upd H p (.lst (cutV xs lo hi)))
theorem sl_list : SlR X (rSlL X.K) := by
  intro pins s σ H x v vl vu lo hi sl Q I rx hs pl pu h
  obtain ⟨a, xs, rfl, hx, q⟩ := h
  cases rx
  obtain ⟨its, r, ht, hz⟩ := I.list hx
  have hlen := r.length
  refine ⟨"list", _, slot_list_getitem.lookup, ht.isList.typeIs, ?_⟩
  refine wpAny_getItem_list_slice ht.isList hs pl pu .none (by simp) ?_ (by rw [List.size_toArray] <;> omega)
  rw [slicePick_cut, ← hlen]
  refine ⟨.ref s.heap.objs.size, _, I.laid (t' := s.toks) (o := .lst (cutV xs lo hi)) (fun b ob q => Heap.get?_push_of_some _ q) (Nat.le_refl _) ?_, rfl, q _ (I.hok.fresh (Nat.le_refl _))⟩
  exact ⟨Nat.le_trans (cutV_length xs lo hi) hz, _, 0, (r.drop (HT.sIx xs.length 0 lo)).take (HT.sIx xs.length xs.length hi - HT.sIx xs.length 0 lo), Heap.get?_push_size _ rfl⟩

/-! ### in, not in: flat items -/
def flatV : V → Bool
  | .non => true
  | .bl _ => true
  | .int _ => true
  | .str _ => true
  | _ => false
/-- == of flat values -/
def eqV : V → V → Bool
  | .non, .non => true
  | .bl a, .bl b => a == b
  | .bl a, .int b => (if a then 1 else 0) == b
  | .int a, .bl b => a == (if b then 1 else 0)
  | .int a, .int b => a == b
  | .str a, .str b => a == b
  | _, _ => false
theorem eqAt_V {A : Around} {s : Shared} {y x : V} {u v : Value} (ry : RelV y u) (rx : RelV x v) (fy : flatV y = true) (fx : flatV x = true) : SeqAt.EqAt A s u v (eqV y x) := by
  cases y with
  | non =>
    cases ry
    cases x with
    | non => cases rx; exact SeqAt.EqAt.same _
    | bl b => cases rx; exact SeqAt.EqAt.none_bool b
    | int b => obtain ⟨t, rfl⟩ := rx; exact SeqAt.EqAt.none_int b t
    | str b => obtain ⟨t, rfl⟩ := rx; exact SeqAt.EqAt.none_str b t
    | _ => exact absurd (show false = true from fx) Bool.false_ne_true
  | bl a =>
    cases ry
    cases x with
    | non => cases rx; exact SeqAt.EqAt.bool_none a
    | bl b => cases rx; exact SeqAt.EqAt.bool_bool a b
    | int b => obtain ⟨t, rfl⟩ := rx; exact SeqAt.EqAt.bool_int a b t
    | str b => obtain ⟨t, rfl⟩ := rx; exact SeqAt.EqAt.bool_str a b t
    | _ => exact absurd (show false = true from fx) Bool.false_ne_true
  | int a =>
    obtain ⟨t', rfl⟩ := ry
    cases x with
    | non => cases rx; exact SeqAt.EqAt.int_none a t'
    | bl b => cases rx; exact SeqAt.EqAt.int_bool a t' b
    | int b => obtain ⟨t, rfl⟩ := rx; exact SeqAt.EqAt.int_int a t' b t
    | str b => obtain ⟨t, rfl⟩ := rx; exact SeqAt.EqAt.int_str a t' b t
    | _ => exact absurd (show false = true from fx) Bool.false_ne_true
  | str a =>
    obtain ⟨t', rfl⟩ := ry
    cases x with
    | non => cases rx; exact SeqAt.EqAt.str_none a t'
    | bl b => cases rx; exact SeqAt.EqAt.str_bool a t' b
    | int b => obtain ⟨t, rfl⟩ := rx; exact SeqAt.EqAt.str_int a t' b t
    | str b => obtain ⟨t, rfl⟩ := rx; exact SeqAt.EqAt.str_str a t' b t
    | _ => exact absurd (show false = true from fx) Bool.false_ne_true
  | _ => exact absurd (show false = true from fy) Bool.false_ne_true
/-- the items' answers, read off the values (a value's own answer does not lean on its token) -/
def eqU (x : V) (u : Value) : Bool := match u with
  | .none => eqV .non x
  | .bool b => eqV (.bl b) x
  | .int i _ => eqV (.int i) x
  | .str z _ => eqV (.str z) x
  | _ => false
theorem eqU_of {x y : V} {u : Value} (r : RelV y u) (f : flatV y = true) : eqU x u = eqV y x := by
  cases y with
  | non => cases r; rfl
  | bl b => cases r; rfl
  | int i => obtain ⟨t, rfl⟩ := r; rfl
  | str z => obtain ⟨t, rfl⟩ := r; rfl
  | _ => exact absurd (show false = true from f) Bool.false_ne_true
theorem any_eqU {x : V} : ∀ {xs : List V} {us : List Value}, Vals xs us → xs.all flatV = true → us.any (eqU x) = xs.any fun y => eqV y x
  | _, _, .nil, _ => rfl
  | y :: xs, u :: us, .cons r t, f => by
    rw [List.all_cons, Bool.and_eq_true] at f
    rw [List.any_cons, List.any_cons, eqU_of r f.1, any_eqU t f.2]
theorem mem_eqAt {A : Around} {s : Shared} {x : V} {v : Value} (rx : RelV x v) (fx : flatV x = true) : ∀ {xs : List V} {us : List Value}, Vals xs us → xs.all flatV = true → ∀ u ∈ us, SeqAt.EqAt A s u v (eqU x u)
  | _, _, .nil, _ => fun u hu => by cases hu
  | y :: xs, u :: us, .cons r t, f => fun u' hu => by
    rw [List.all_cons, Bool.and_eq_true] at f
    rcases List.mem_cons.mp hu with rfl | hu
    · rw [eqU_of r f.1]; exact eqAt_V r rx f.1 fx
    · exact mem_eqAt rx fx t f.2 u' hu
def inV (x : V) (xs : List V) : Bool := xs.any fun y => eqV y x
/-- x in a list or tuple of flat items -/
def rIn (K : PySem.W.Frag) (neg : Bool) : R2 := fun x y H Q => ∃ p xs, y = .ref p ∧ (SqL K H p xs ∨ SqT K H p xs) ∧ flatV x = true ∧ xs.all flatV = true ∧ Q (.bl (if neg then !inV x xs else inV x xs)) H
theorem op_notIn_seq : OpR X (compareOp .NotIn) (rIn X.K true) := by
  intro pins s σ H x y v u Q I rx ry h
  obtain ⟨p, xs, rfl, hq, fx, fs, q⟩ := h
  cases ry
  rcases hq with hq | hq
  · obtain ⟨its, r, pl, hz⟩ := I.list hq
    refine SeqAt.notIn_listAt (eqU x) pl.isList (fun w hw => mem_eqAt rx fx r fs w (by simpa using hw)) ⟨.bl _, H, I, rfl, ?_⟩
    rw [show its.toArray.any (eqU x) = its.any (eqU x) by simp, any_eqU r fs]
    exact q
  · obtain ⟨its, r, pl, hz⟩ := I.tuple hq
    refine SeqAt.notIn_tupleAt (eqU x) pl (fun w hw => mem_eqAt rx fx r fs w (by simpa using hw)) ⟨.bl _, H, I, rfl, ?_⟩
    rw [show its.toArray.any (eqU x) = its.any (eqU x) by simp, any_eqU r fs]
    exact q
/-! ### len, list(x), tuple(x) of any list or tuple that is read -/
theorem call_len_seq : CallR X (.builtin "len") (fun xs H Q => ∃ p ys, xs = [.ref p] ∧ (SqL X.K H p ys ∨ SqT X.K H p ys) ∧ Q (.int ys.length) H) := by
  intro pins s σ H xs us Q I r h
  obtain ⟨p, ys, rfl, hq, q⟩ := h
  obtain ⟨u, rfl, rx⟩ := vals1 r
  cases rx
  have hn := line63
  rcases hq with hq | hq
  · obtain ⟨its, r', pl, hz⟩ := I.list hq
    have hlen := r'.length
    exact Calls.call_len_list pl.isList (by simp only [List.size_toArray] <;> omega) ⟨.int ys.length, H, I.tok _, ⟨s.toks + 1, by rw [List.size_toArray, hlen]⟩, q⟩
  · obtain ⟨its, r', pl, hz⟩ := I.tuple hq
    have hlen := r'.length
    exact len_tuple pl (by simp only [List.size_toArray] <;> omega) ⟨.int ys.length, H, I.tok _, ⟨s.toks + 1, by rw [List.size_toArray, hlen]⟩, q⟩
theorem call_list_of : CallR X (.type "list") (fun xs H Q => ∃ p ys, xs = [.ref p] ∧ (SqL X.K H p ys ∨ SqT X.K H p ys) ∧ ∀ l, H l = none → Q (.ref l) (upd H l (.lst ys))) := by
  intro pins s σ H xs us Q I r h
  obtain ⟨p, ys, rfl, hq, q⟩ := h
  obtain ⟨u, rfl, rx⟩ := vals1 r
  cases rx
  have fin : ∀ (its : List Value), Vals ys its → ys.length ≤ sizeLine → ∀ (h' : Heap) (c' : Nat), (∀ b o', s.heap.get? b = some o' → h'.get? b = some o') →
      h'.get? s.heap.objs.size = some { cls := .type "list", dict := none, data := .seq its.toArray c', slots := #[] } → EP X pins σ Q (.ref s.heap.objs.size) { s with heap := h' } := fun its r' hz h' c' kp e =>
    ⟨.ref s.heap.objs.size, _, I.laid (t' := s.toks) kp (Nat.le_refl _) (show ObjOk X.prog X.w _ h' _ (.lst ys) from ⟨hz, its, c', r', e⟩), rfl, q _ (I.hok.fresh (Nat.le_refl _))⟩
  rcases hq with hq | hq
  · obtain ⟨its, r', pl, hz⟩ := I.list hq
    have hlen := r'.length
    obtain ⟨o, ho, hc, n, hd⟩ := pl.isList
    exact call_list_seq p (.inl rfl) ho hc hd (fun h' c' kp e => fin its r' hz h' c' kp e) (by simp only [List.size_toArray] <;> omega)
  · obtain ⟨its, r', pl, hz⟩ := I.tuple hq
    have hlen := r'.length
    obtain ⟨o, ho, hc, n, hd⟩ := pl
    exact call_list_seq p (.inr rfl) ho hc hd (fun h' c' kp e => fin its r' hz h' c' kp e) (by simp only [List.size_toArray] <;> omega)
theorem call_tuple_of : CallR X (.type "tuple") (fun xs H Q => ∃ p ys, xs = [.ref p] ∧ ((SqL X.K H p ys ∧ ∀ l, H l = none → Q (.ref l) (upd H l (.tup ys))) ∨ (SqT X.K H p ys ∧ Q (.ref p) H))) := by
  intro pins s σ H xs us Q I r h
  obtain ⟨p, ys, rfl, h⟩ := h
  obtain ⟨u, rfl, rx⟩ := vals1 r
  cases rx
  rcases h with ⟨hq, q⟩ | ⟨hq, q⟩
  · obtain ⟨its, r', pl, hz⟩ := I.list hq
    have hlen := r'.length
    refine call_tuple_list pl.isList (fun h' kp => ?_) (by simp only [List.size_toArray] <;> omega)
    have I1 : Inv X pins σ H { s with heap := h' } := I.kept (t' := s.toks) kp
    have I2 : Inv X pins σ (upd H h'.objs.size (.tup ys)) { s with heap := h'.push { cls := .type "tuple", data := .seq its.toArray } } :=
      I1.laid (t' := s.toks) (fun b o e => Heap.get?_push_of_some _ e) (Nat.le_refl _) (show ObjOk X.prog X.w _ _ _ (.tup ys) from ⟨hz, its, r', IsTup.new _ _⟩)
    exact ⟨.ref h'.objs.size, _, I2, rfl, q _ (I1.hok.fresh (Nat.le_refl _))⟩
  · obtain ⟨its, r', pl, hz⟩ := I.tuple hq
    exact call_tuple_same pl ⟨.ref p, H, I, rfl, q⟩

/-! ### the call of a builtin's method: o.m(..) -/
/-- the value is of that builtin type -/
def tyV (K : PySem.W.Frag) (T : String) (x : V) (H : Hp) : Prop := match x with
  | .str _ => T = "str"
  | .int _ => T = "int"
  | .ref p => (T = "list" ∧ ∃ xs, SqL K H p xs) ∨ (T = "tuple" ∧ ∃ o, K.lookup p = some o ∧ o.cls = .type "tuple" ∧ o.dict = none) ∨
      (T = "dict" ∧ ((∃ kvs, H p = some (.dK kvs)) ∨ ∃ kvs, H p = some (.dT kvs))) ∨ (T = "set" ∧ ∃ S n, H p = some (.set S n))
  | _ => False
theorem tyV_is {pins : List (Addr × Obj)} {σ : St} {H : Hp} {s : Shared} {T : String} {x : V} {v : Value} (I : Inv X pins σ H s) (r : RelV x v) (ty : tyV X.K T x H) :
    s.TypeIs v T ∧ ∀ a, v = .ref a → ∃ ob, s.heap.get? a = some ob ∧ ob.dict = none := by
  cases x with
  | str z =>
    obtain ⟨t, rfl⟩ := r
    cases (show T = "str" from ty)
    exact ⟨typeIs_str s z t, fun _ e => nomatch e⟩
  | int i =>
    obtain ⟨t, rfl⟩ := r
    cases (show T = "int" from ty)
    exact ⟨typeIs_int s i t, fun _ e => nomatch e⟩
  | ref p =>
    cases r
    rcases ty with ⟨rfl, xs, hq⟩ | ⟨rfl, o, hk, hc, hd⟩ | ⟨rfl, hk⟩ | ⟨rfl, S, n, hk⟩
    · obtain ⟨its, _, pl, _⟩ := I.list hq
      refine ⟨pl.isList.typeIs, fun a e => ?_⟩
      cases e
      obtain ⟨o, n, e, c, hd, _⟩ := pl
      exact ⟨o, e, hd⟩
    · refine ⟨⟨o, I.kIn p o hk, hc⟩, fun a e => ?_⟩
      cases e
      exact ⟨o, I.kIn _ o hk, hd⟩
    · have z : ∃ o, s.heap.get? p = some o ∧ o.ExactDict := by
        rcases hk with ⟨kvs, hk⟩ | ⟨kvs, hk⟩
        · obtain ⟨_, _, _, _, o, _, _, e, ex, _⟩ := I.hok p _ hk
          exact ⟨o, e, ex⟩
        · obtain ⟨_, _, _, _, o, _, _, e, ex, _⟩ := I.hok p _ hk
          exact ⟨o, e, ex⟩
      obtain ⟨o, e, ex⟩ := z
      refine ⟨⟨o, e, ex.1⟩, fun a e2 => ?_⟩
      cases e2
      exact ⟨o, e, ex.2.1⟩
    · obtain ⟨o, _, _, _, e, ex, _⟩ := I.hok p _ hk
      refine ⟨⟨o, e, ex.1⟩, fun a e2 => ?_⟩
      cases e2
      exact ⟨o, e, ex.2.1⟩
  | _ => exact False.elim ty
def tBM0 (K : PySem.W.Frag) (T : String) (r : V → List V → Hp → VK → Prop) (to : TE) : TE := fun σ H Q => to σ H fun x H1 => tyV K T x H1 ∧ r x [] H1 Q
def tBM (K : PySem.W.Frag) (T : String) (r : V → List V → Hp → VK → Prop) (to : TE) (t : TA) : TE := fun σ H Q => to σ H fun x H1 => tyV K T x H1 ∧ t σ H1 fun xs H2 => r x xs H2 Q
variable {o e : Expr} {es : List Expr} {to : TE} {t : TA} {name : Str} {apos cpos : Pos} {T id : String} {r : V → List V → Hp → VK → Prop}
theorem pe_bm0 (pa : PlainAttrs T) (slot : Slot T name id) (hty : typeOf (.builtin id) = pure (.type "method_descriptor")) (hm : MtR X id r) (ho : PE X o to)
    (hbase : attributeBase o name X.env (eval o X.env) = eval o X.env := by rfl) (hline : (apos.endLine == cpos.line) = true := by rfl) : PE X (.Call (.Attribute o name apos) [] [] cpos) (tBM0 X.K T r to) := by
  intro pins s σ H Q I h
  refine wpAny_Call_method0_late hbase hline (thn (ho pins s σ H _ I h) fun v s1 ⟨x, H1, I1, r1, ty, q1⟩ => ?_)
  obtain ⟨h1, h2⟩ := tyV_is I1 r1 ty
  exact ⟨T, id, pa, slot, hty, h1, h2, Calls.callWith_builtin rfl (PySem.evalArgs_none (hm pins s1 σ H1 x [] v [] Q I1 r1 .nil q1))⟩
theorem pe_bm (pa : PlainAttrs T) (slot : Slot T name id) (hty : typeOf (.builtin id) = pure (.type "method_descriptor")) (hm : MtR X id r) (ho : PE X o to) (ha : PA X (e :: es) t)
    (hbase : attributeBase o name X.env (eval o X.env) = eval o X.env := by rfl)
    (hfew : ((backTo cpos (starEach (e :: es) X.env)).all (fun x => !x.1) && (backToKw cpos (keywordEach [] X.env)).all (fun x => x.1.isSome)
      && decide ((e :: es).length + ([] : List Keyword).length + (if ([] : List Keyword).isEmpty then 0 else 1) < 30)) = true := by rfl)
    (hline : (apos.endLine == cpos.line) = true := by rfl) (hs : starEach (e :: es) X.env = (false, eval e X.env) :: starEach es X.env := by rfl) (hplain : (backTo cpos (starEach es X.env)).any (·.1) = false := by rfl) :
    PE X (.Call (.Attribute o name apos) (e :: es) [] cpos) (tBM X.K T r to t) := by
  intro pins s σ H Q I h
  refine wpAny_Call_method_late hbase hfew hline rfl (thn (ho pins s σ H _ I h) fun v s1 ⟨x, H1, I1, r1, ty, q1⟩ => ?_)
  obtain ⟨h1, h2⟩ := tyV_is I1 r1 ty
  refine ⟨T, id, pa, slot, hty, h1, h2, ?_⟩
  have hA := ha cpos pins s1 σ H1 _ I1 q1
  rw [hs] at hA ⊢
  refine Calls.callWith_builtin (by show (false || (backTo cpos (starEach es X.env)).any (·.1)) = false; rw [hplain] <;> rfl) (Calls.evalArgs_plain ?_)
  exact thn hA fun us s2 ⟨vs, H2, I2, r2, q2⟩ => hm pins s2 σ H2 x vs v us Q I2 r1 r2 q2
/- xs.append(e), list.index on a module's tuple .. are MtR facts of 06m -/
end
end L2

namespace L2
open PySem PySem.Spec PyProof.Rows

def MtM (X : Cx) (id : String) (r : V → List V → Hp → VK → Prop) : Prop :=
  ∀ (pins : List (Addr × Obj)) (s : Shared) (σ : St) (H : Hp) (x : V) (xs : List V) (v : Value) (us : List Value) (Q : VK), Inv X pins σ H s → RelV x v → Vals xs us → r x xs H Q →
    wpAny (model X.prog X.w) X.A (call (.builtin id) (v :: us)) (EP X pins σ Q) X.xe s

/-! ### lists of values -/
theorem Vals.one : ∀ {x : V} {us : List Value}, Vals [x] us → ∃ u, us = [u] ∧ RelV x u
  | _, _, .cons r .nil => ⟨_, rfl, r⟩
theorem Vals.two : ∀ {x y : V} {us : List Value}, Vals [x, y] us → ∃ u v, us = [u, v] ∧ RelV x u ∧ RelV y v
  | _, _, _, .cons r (.cons q .nil) => ⟨_, _, rfl, r, q⟩
theorem Vals.zero : ∀ {us : List Value}, Vals [] us → us = []
  | _, .nil => rfl
theorem Vals.reverse {xs : List V} {us : List Value} (h : Vals xs us) : Vals xs.reverse us.reverse := by
  induction h with
  | nil => exact .nil
  | cons r t ih => rw [List.reverse_cons, List.reverse_cons]; exact Vals.append ih (.cons r .nil)
section
variable {X : Cx} {pins : List (Addr × Obj)} {σ : St} {H : Hp} {s : Shared} {l b : Addr} {xs ys zs : List V}

/-! ### the two steps: a tracked list is rewritten, a new list is laid -/
theorem Inv.lset {its its' : List Value} {n : Nat} {f : Array Value → Array Value} {t' : Nat} (I : Inv X pins σ H s) (hH : H l = some (.lst xs))
    (e : s.heap.get? l = some { cls := .type "list", data := .seq its.toArray n }) (hf : f its.toArray = its'.toArray) (hv : Vals ys its') (hz : ys.length ≤ sizeLine) :
    Inv X pins σ (upd H l (.lst ys)) { s with heap := s.heap.update l (Obj.mapSeq f), toks := t' } := by
  have q := PySem.IsL.update e f
  rw [hf] at q
  refine I.write (x := l) (e := l) (by rw [hH]; exact trivial) (.inl rfl) (fun b' u hb hu => (Heap.get?_update_other s.heap (Obj.mapSeq f) (Ne.symm hb)).trans hu) ⟨_, q⟩ ?_
  exact ⟨hz, its', _, hv, q⟩
theorem Inv.lnew {its : List Value} {t' : Nat} (I : Inv X pins σ H s) (hv : Vals ys its) (hz : ys.length ≤ sizeLine) :
    Inv X pins σ (upd H s.heap.objs.size (.lst ys)) { s with heap := s.heap.push { cls := .type "list", data := .seq its.toArray }, toks := t' } :=
  I.laid (fun _ _ q => Heap.get?_push_of_some _ q) (Nat.le_refl _) ⟨hz, its, 0, hv, Heap.get?_push_size _ rfl⟩
theorem Inv.fresh (I : Inv X pins σ H s) : H s.heap.objs.size = none := I.hok.fresh (Nat.le_refl _)
theorem Inv.lstM (I : Inv X pins σ H s) (hH : H l = some (.lst xs)) : xs.length ≤ sizeLine ∧ ∃ (its : List Value) (n : Nat), Vals xs its ∧ xs.length = its.length ∧ s.heap.get? l = some { cls := .type "list", data := .seq its.toArray n } := by
  obtain ⟨z, its, n, r, e⟩ := I.hok l _ hH
  exact ⟨z, its, n, r, r.length, e⟩

theorem notLongL {n : Nat} (h : n ≤ sizeLine) : Builtin.List.listTooLong n = false := by
  unfold Builtin.List.listTooLong
  exact decide_eq_false (by omega)
end

section
variable {X : Cx}

/-! ### methods -/
def rAppend : V → List V → Hp → VK → Prop := fun x vs H Q => ∃ l xs y, x = .ref l ∧ vs = [y] ∧ H l = some (.lst xs) ∧ xs.length < sizeLine ∧ Q .non (upd H l (.lst (xs ++ [y])))
theorem mt_append : MtM X "list.append" rAppend := by
  intro pins s σ H x vs v us Q I rx rv h
  obtain ⟨l, xs, y, rfl, rfl, hH, hz, q⟩ := h
  cases rx
  obtain ⟨u, rfl, ru⟩ := rv.one
  obtain ⟨z, its, n, r, hl, e⟩ := I.lstM hH
  refine call_meets F.slot_list_append ⟨_, e, rfl⟩ F.entry_list_append (F.args_list_append_2 _ _) (PySem.list_append l its.toArray n u (by rw [List.size_toArray]; omega)) ⟨e, ?_⟩
  refine ⟨.non, _, I.lset (its' := its ++ [u]) hH e (by simp) (r.append (.cons ru .nil)) ?_, rfl, q⟩
  rw [List.length_append, List.length_singleton]
  omega

def rExtend : V → List V → Hp → VK → Prop := fun x vs H Q => ∃ l b xs zs, x = .ref l ∧ vs = [.ref b] ∧ H l = some (.lst xs) ∧ H b = some (.lst zs) ∧ xs.length + zs.length ≤ sizeLine ∧ Q .non (upd H l (.lst (xs ++ zs)))
theorem mt_extend : MtM X "list.extend" rExtend := by
  intro pins s σ H x vs v us Q I rx rv h
  obtain ⟨l, b, xs, zs, rfl, rfl, hH, hB, hz, q⟩ := h
  cases rx
  obtain ⟨u, rfl, ru⟩ := rv.one
  cases ru
  obtain ⟨z, its, n, r, hl, e⟩ := I.lstM hH
  obtain ⟨z2, its2, n2, r2, hl2, e2⟩ := I.lstM hB
  have hsz : its.toArray.size + its2.toArray.size ≤ sizeLine := by rw [List.size_toArray, List.size_toArray]; omega
  have hlong : ¬ (!its.toArray.isEmpty && Builtin.List.listTooLong (its.toArray.size + its2.toArray.size)) = true := by
    rw [notLongL hsz, Bool.and_false]
    exact Bool.false_ne_true
  refine call_meets F.slot_list_extend ⟨_, e, rfl⟩ F.entry_list_extend (F.args_list_extend_2 _ _)
    (AutoSeq1.list_extend_list_list_0 l its.toArray n b its2.toArray n2 hlong (by rw [List.size_toArray]; omega) (by omega)) ⟨e, e2, ?_⟩
  refine ⟨.non, _, I.lset (its' := its ++ its2) hH e (by simp) (r.append r2) ?_, rfl, q⟩
  rw [List.length_append]
  omega

def rPop : V → List V → Hp → VK → Prop := fun x vs H Q => ∃ l xs y, x = .ref l ∧ vs = [] ∧ H l = some (.lst xs) ∧ xs[xs.length - 1]? = some y ∧ Q y (upd H l (.lst xs.dropLast))
def rPopAt : V → List V → Hp → VK → Prop := fun x vs H Q => ∃ l xs i k y, x = .ref l ∧ vs = [.int i] ∧ H l = some (.lst xs) ∧ -(2 ^ 63) ≤ i ∧ i < 2 ^ 63 ∧ seqIndex? i xs.length = some k ∧ xs[k]? = some y ∧ Q y (upd H l (.lst (xs.eraseIdx k)))
def rReverse : V → List V → Hp → VK → Prop := fun x vs H Q => ∃ l xs, x = .ref l ∧ vs = [] ∧ H l = some (.lst xs) ∧ Q .non (upd H l (.lst xs.reverse))
theorem mt_reverse : MtM X "list.reverse" rReverse := by
  intro pins s σ H x vs v us Q I rx rv h
  obtain ⟨l, xs, rfl, rfl, hH, q⟩ := h
  cases rx
  have hus := rv.zero
  subst hus
  obtain ⟨z, its, n, r, hl, e⟩ := I.lstM hH
  refine call_meets F.slot_list_reverse ⟨_, e, rfl⟩ F.entry_list_reverse (F.args_list_reverse_1 _) (AutoSeq1.list_reverse_list_0 l its.toArray n (by rw [List.size_toArray]; omega)) ⟨e, ?_⟩
  refine ⟨.non, _, I.lset (its' := its.reverse) hH e (by simp) r.reverse ?_, rfl, q⟩
  rw [List.length_reverse]
  omega

def rClear : V → List V → Hp → VK → Prop := fun x vs H Q => ∃ l xs, x = .ref l ∧ vs = [] ∧ H l = some (.lst xs) ∧ Q .non (upd H l (.lst []))
/-! ### list + list, list += list, list * int -/
def rCat : R2 := fun x y H Q => ∃ l b xs zs, x = .ref l ∧ y = .ref b ∧ H l = some (.lst xs) ∧ H b = some (.lst zs) ∧ xs.length + zs.length ≤ sizeLine ∧ ∀ p, H p = none → Q (.ref p) (upd H p (.lst (xs ++ zs)))
theorem op_cat : OpR X (binaryOp .Add) rCat := by
  intro pins s σ H x y v u Q I rx ry h
  obtain ⟨l, b, xs, zs, rfl, rfl, hH, hB, hz, q⟩ := h
  cases rx
  cases ry
  obtain ⟨z, its, n, r, hl, e⟩ := I.lstM hH
  obtain ⟨z2, its2, n2, r2, hl2, e2⟩ := I.lstM hB
  refine PySem.P.add_list e e2 ?_ (by rw [List.size_toArray, List.size_toArray]; omega)
  have ea : its.toArray ++ its2.toArray = (its ++ its2).toArray := by simp
  rw [ea]
  exact ⟨.ref _, _, I.lnew (t' := s.toks) (r.append r2) (by rw [List.length_append]; omega), rfl, q _ I.fresh⟩
/-- a list times an int (a negative one is nothing) -/
def rRep : R2 := fun x y H Q => ∃ l k xs, x = .ref l ∧ y = .int k ∧ H l = some (.lst xs) ∧ -(2 ^ 63) ≤ k ∧ k < 2 ^ 63 ∧ xs.length * k.toNat ≤ sizeLine ∧
  ∀ p, H p = none → Q (.ref p) (upd H p (.lst (List.replicate k.toNat xs).flatten))
/-! ### del xs[i] -/
end

/-! ### xs[a:b] = ys -/
section
variable {prog : Program} {w : World} {A : Around} {E : Value → Shared → Prop} {s : Shared}
end

section
variable {X : Cx}
end
end L2

namespace Att
open PySem PySem.W PySem.Calls PyProof.Rows

/-! ### the script -/
theorem ints_of_wellAll {P : Params} {h : Heap} : ∀ (ns : List Int) (vs : List Value), WellAll P h vs (ns.map WData.int) → IntsAre vs ns := by
  intro ns
  induction ns with
  | nil =>
    intro vs w
    rw [List.map_nil] at w
    cases w
    exact .nil
  | cons n ns ih =>
    intro vs w
    rw [List.map_cons] at w
    cases w with
    | cons a b =>
      cases a
      exact .cons _ _ (ih _ b)

theorem script_of {l : OpenLaw} {n : Nat} (hn : l.most = some n) {P : Params} {h : Heap} {args : List WData} {vals : List Value}
    (hpre : l.row.toRowW.claim.pre args = true) (hwl : WellAll P h vals args) :
    ∃ a vs ns, vals = [Value.ref a] ∧ args = [WData.list (ns.map WData.int)] ∧ h.get? a = some { cls := .type "list", data := .seq vs.toArray } ∧ IntsAre vs ns ∧ ns.length ≤ n := by
  have hsh : WShape.hasAll [] args [.list .int] = true := (pre_splitW hpre).1
  have hc : l.pre.holds [] { args := args } = true := (pre_splitW hpre).2
  obtain ⟨d, r, rfl, h1, h2⟩ := hasAllW_cons hsh
  obtain rfl := hasAllW_nil h2
  obtain ⟨xs, rfl, h3⟩ := hasW_list h1
  obtain ⟨ns, rfl⟩ := items_int h3
  have hlen : ns.length ≤ n := by
    unfold OpenLaw.pre at hc
    have h4 : (WTm.not (.lt (.lit (.int (n : Int))) (.len (.arg 0)))).holds [] { args := [.list (ns.map .int)] } = true := by
      have h4 := (holds_andW hc).1
      rw [hn] at h4
      exact h4
    have h5 := condW_of h4 (w_not (w_lt w_lit (w_len_list (w_arg rfl))))
    rw [List.length_map] at h5
    refine Nat.le_of_not_lt fun q => ?_
    have q' : (n : Int) < ((ns.length : Nat) : Int) := by omega
    first
      | (rw [decide_eq_true q'] at h5; exact absurd h5 (by decide))
      | (simp at h5; omega)
  cases hwl with
  | cons w1 w2 =>
    cases w2
    cases w1 with
    | list ho hall => exact ⟨_, _, ns, rfl, rfl, ho, ints_of_wellAll ns _ hall, hlen⟩

theorem post_true (l : OpenLaw) (args : List WData) : l.row.toRowW.claim.post args (.bool true) args = true :=
  postW_of (r := l.row.toRowW) (X := (true == true))
    (show WShape.has [] (.bool true) .bool = true by first | rfl | decide | simp [WShape.has, WShape.arms, WShape.armsAll])
    (show (WTm.eq .res (.lit (.bool true))).value [] { args := args, res := some (.bool true), after := args } = some (.bool (true == true)) from w_eq_bool (w_res rfl) w_lit) rfl

/-! ### the attachment: holds_open's last premise (the goal 'hc' behind k_head) from a wpAny of the law's body -/
/-- the same from a codeAny of the CALL (for a layer whose function contracts speak of calls) -/
theorem attach_call {l : OpenLaw} {n : Nat} {q : Program} {loose : List Str} {XP : (Str → Option Value) → Heap → Prop} {YP : World → Heap → Prop} {d : DefRec}
    (hn : l.most = some n) (hdf : d.params.defaults = [])
    (call : ∀ (w : World) (s₀ s₁ : Shared) (mg mb : Str → Option Value) (fa : Addr) (o : Obj) (pm cd doc : Value) (a : Addr) (vs : List Value) (ns : List Int),
      Ground q loose [] XP w s₀ mg mb s₁.heap → YP w s₁.heap →
      s₁.heap.get? fa = some o → o.data = .func (docDef d.name d.params d.body d.scope pm cd doc) → s₁.heap.CodeRec cd d.name → mg d.name = some (.ref fa) →
      s₁.heap.get? a = some { cls := .type "list", data := .seq vs.toArray } → IntsAre vs ns → ns.length ≤ n → s₁.gens = #[] →
      codeAny (model l.prog w) callerA (.call (.ref fa) ⟨[.ref a], []⟩) (fun r s' => r = .ok (.ret (.bool true)) ∧ OldK s₁.heap s'.heap ∧ s'.os = s₁.os ∧ AllBare s'.gens) s₁) :
    WalkO q loose XP YP l.row.toRowW d [] (fun f vs => PySem.call f vs) := by
  intro w s₀ s₁ mg mb G Y fa o pm cd doc dV kV ho hd hcd hD hmg hg args vals as hpre hlay hrd hwl hlo
  obtain rfl : dV = .none := Dflts.none hD hdf
  obtain rfl : kV = .none := Dflts.noKw hD
  obtain ⟨a, vs, ns, rfl, rfl, hobj, hints, hlen⟩ := script_of hn hpre hwl
  refine enter_call (codeAny_mono (call w s₀ s₁ mg mb fa o pm cd doc a vs ns G Y ho (fd_plain hd) hcd hmg hobj hints hlen hg) fun r s' hq => ?_)
  obtain ⟨rfl, h2, h3, h4⟩ := hq
  exact ⟨.inl ⟨.bool true, .bool true, [], rfl, fun _ => rfl, .bool true, post_true l _, fun _ => ⟨List.Pairwise.nil, fun _ hm => (nomatch hm)⟩⟩, h2, h3, h4⟩

/-! ### rules over ANY heap (no ledger) from facts about the written part K: the library's own take a ledger (News) for what they write -/
section
variable {prog : Program} {w : World} {A : Around} {E : Value → Shared → Prop} {s : Shared} {K : Frag}

/-! the whole heap as the ledger: makes every rule that writes through a ledger a rule over any heap -/
def noObjs (h : Heap) : Heap := { h with objs := #[] }
def ledger (h : Heap) (L d : Addr) : List (Addr × Obj) := (List.range h.objs.size).filterMap fun a => if a = L ∨ a = d then none else (h.get? a).map fun o => (a, o)
end
end Att

namespace L2
open PySem PySem.Spec PyProof.Rows

theorem vals_ints : ∀ {vs : List Value} {ns : List Int}, IntsAre vs ns → Vals (ns.map V.int) vs
  | _, _, .nil => .nil
  | _, _, .cons n t h => .cons ⟨t, rfl⟩ (vals_ints h)

/-- nothing is tracked but the script, known to the object (or it is an object of the module) -/
def Only (H : Hp) : Prop := ∀ b, H b = none ∨ ∃ o xs, H b = some (.frz o (.lst xs))

/-- THE HEAD: the law's promise, at the heap behind the top. F, the promise of the law's def, may use that base is part of the heap (so K.In base, base.Ns mainGlobals mg stand in Mod) -/
theorem law_call {P : Program} {w : World} {K : PySem.W.Frag} {mg mb : Str → Option Value} {CX : CXT} {k : Nat} {fa a : Addr} {fd : FuncData} {x : Str} {sp : Sp} {s₁ : Shared} {vs : List Value} {ns : List Int}
    (KX : K.In s₁.heap) (hns : s₁.heap.Ns mainGlobals mg) (hb : s₁.heap.Ns builtinsNs mb) (hbb : ∀ x : Str, x ≠ "__name__" → mb x = bootBuiltins x) (hlim : s₁.heap.NoLimit) (hg : s₁.gens = #[])
    (ha : s₁.heap.get? a = some { cls := .type "list", data := .seq vs.toArray }) (hi : IntsAre vs ns) (hl : ns.length ≤ sizeLine) (hr : Room k callerA)
    (F : ∀ base : Heap, K.In base → base.Ns mainGlobals mg → FnOk P w K mg base CX k fa fd [x] sp) (hbind : ∀ (s : Shared) (u : Value), BindsTo s fd ⟨[u], []⟩ [(x, u)])
    (hsp : ∀ H : Hp, Only H → SqL K H a (ns.map V.int) → sp [.ref a] H (fun v _ => v = .bl true) fun _ _ _ => False)
    (hCX : ∀ H e s', CX [] H s₁ (fun _ _ _ => False) e s' → False) :
    codeAny (model P w) callerA (.call (.ref fa) ⟨[.ref a], []⟩) (fun r s' => r = .ok (.ret (.bool true)) ∧ OldK s₁.heap s'.heap ∧ s'.os = s₁.os ∧ AllBare s'.gens) s₁ := by
  have rv := vals_ints hi
  have lenV := hi.length
  -- from an abstract heap in which nothing but the script may be tracked
  have core : ∀ H : Hp, Only H → SqL K H a (ns.map V.int) → HOk P w H s₁.heap → (∀ b, H b ≠ none → b = a) → (H a ≠ none → K.lookup a = none) →
      codeAny (model P w) callerA (.call (.ref fa) ⟨[.ref a], []⟩) (fun r s' => r = .ok (.ret (.bool true)) ∧ OldK s₁.heap s'.heap ∧ s'.os = s₁.os ∧ AllBare s'.gens) s₁ := by
    intro H hO hS hok hA hK
    have base_of : ∀ {b : Addr} {o : Obj}, s₁.heap.get? b = some o → H b = none → (hidT s₁.heap H).get? b = some o := fun e n => hidT_get e n
    have noA : ∀ {b : Addr} {o : Obj} {es : Array DictEntry} {ep : Nat}, s₁.heap.get? b = some o → o.data = .dict es ep → H b = none := fun {b o es ep} e d => by
      cases q : H b with
      | none => rfl
      | some u =>
        have e' : b = a := hA b (by rw [q]; simp)
        subst e'
        rw [ha] at e; cases e
        have d' : Data.seq vs.toArray _ = Data.dict es ep := d
        cases d'
    have nsK : ∀ {b : Addr} {m : Str → Option Value}, s₁.heap.Ns b m → (hidT s₁.heap H).Ns b m := fun {b m} ⟨o, es, ep, e, d, r⟩ => ⟨o, es, ep, base_of e (noA e d), d, r⟩
    have hKb : K.In (hidT s₁.heap H) := fun b o e => base_of (KX b o e) (by
      cases q : H b with
      | none => rfl
      | some u =>
        have e' : b = a := hA b (by rw [q]; simp)
        subst e'
        rw [hK (by rw [q]; simp)] at e; cases e)
    have hM : Mod K mg (hidT s₁.heap H) := ⟨hKb, nsK hns, ⟨mb, nsK hb, hbb⟩, let ⟨mc, h1, h2⟩ := hlim; ⟨mc, nsK h1, h2⟩⟩
    have e0 : Env0 P w K mg (hidT s₁.heap H) callerA [] s₁ H := ⟨rfl, hM, fun b o e => of_hidT e, Nat.le_of_eq (hidT_size _ _), trivial, fun b hb => absurd (show b ∈ ([] : List Addr) from hb) (by simp), hok, .of_eq hg⟩
    refine codeAny_mono ((F _ hKb (nsK hns)).run callerA [] s₁ H ⟨[.ref a], []⟩ [.ref a] [.ref a] _ _ hr e0 (hbind s₁ (.ref a)) (.cons rfl .nil) (hsp H hO hS)) fun r s' h => ?_
    cases r with
    | error e => exact (hCX H e s' h).elim
    | ok fl =>
      cases fl with
      | next => exact False.elim h
      | brk => exact False.elim h
      | cont => exact False.elim h
      | ret u =>
        obtain ⟨v, H', os, bare, un, hok', r', q⟩ := h
        have q' : v = .bl true := q
        subst q'
        obtain rfl : u = Value.bool true := r'
        refine ⟨rfl, OldK.of_keep fun b o e => ?_, os, bare⟩
        cases q : H b with
        | none => exact un.keep b o e q (by intro z; exact absurd (show b ∈ ([] : List Addr) from z) (by simp)) (by simp)
        | some u =>
          rcases hO b with z | ⟨ob, xs, z⟩
          · rw [q] at z; cases z
          · have z2 := un.frzs b ob _ z
            obtain ⟨e1, _⟩ := hok b _ z
            obtain ⟨e2, _⟩ := hok' b _ z2
            rw [e] at e1; cases e1
            exact e2
  cases hk : K.lookup a with
  | some o =>
    -- the script is one of the module's own objects
    have e := KX a o hk
    rw [ha] at e
    cases e
    refine core (fun _ => none) (fun _ => .inl rfl) (.inr ⟨_, vs.toArray, _, hk, rfl, rfl, rfl, by rw [List.size_toArray, lenV]; exact hl, by simpa using rv⟩) (fun b u z => by have z' : (none : Option HO) = some u := z; cases z') (fun b z => absurd rfl z) fun z => absurd rfl z
  | none =>
    refine core (fun b => if b = a then some (.frz { cls := .type "list", data := .seq vs.toArray } (.lst (ns.map V.int))) else none) (fun b => ?_) (.inl (.inr ⟨{ cls := .type "list", data := .seq vs.toArray }, if_pos rfl⟩)) (fun b u z => ?_) (fun b z => ?_) fun _ => hk
    · by_cases hb : b = a
      · exact .inr ⟨_, _, if_pos hb⟩
      · exact .inl (if_neg hb)
    · by_cases hb : b = a
      · have z' := (if_pos hb).symm.trans z
        cases z'
        subst hb
        exact ⟨ha, by rw [List.length_map]; exact hl, vs, _, rv, ha⟩
      · have z' := (if_neg hb).symm.trans z
        cases z'
    · by_cases hb : b = a
      · exact hb
      · exact absurd (if_neg hb) z
end L2

namespace L2
open PySem PySem.Spec PyProof.Rows

abbrev KOf {K : PySem.W.Frag} {h : Heap} (_ : K.In h) : PySem.W.Frag := K

/-- the goal that k_head leaves (case hc), from the law's promise. F gives the function object fd (K's own) once, then the promise over every base -/
theorem walk_of {l : PySem.W.OpenLaw} {n k : Nat} {q : Program} {loose : List Str} {XP : (Str → Option Value) → Heap → Prop} {YP : World → Heap → Prop} {d : DefRec} {K : Params → PySem.W.Frag} {CX : World → CXT} {sp : World → Sp} {x : Str}
    (hn : l.most = some n) (hn2 : n ≤ sizeLine) (hdf : d.params.defaults = []) (hr : Room k callerA)
    (hY : ∀ (w : World) (h : Heap), YP w h → (K w.params).In h)
    (F : ∀ (w : World) (mg : Str → Option Value) (fa : Addr) (h : Heap), (K w.params).In h → h.Ns mainGlobals mg → mg d.name = some (.ref fa) →
      ∃ fd : FuncData, (∀ (s : Shared) (u : Value), BindsTo s fd ⟨[u], []⟩ [(x, u)]) ∧
        ∀ base : Heap, (K w.params).In base → base.Ns mainGlobals mg → FnOk l.prog w (K w.params) mg base (CX w) k fa fd [x] (sp w))
    (hsp : ∀ (w : World) (H : Hp) (a : Addr) (ns : List Int), ns.length ≤ n → Only H → SqL (K w.params) H a (ns.map V.int) → sp w [.ref a] H (fun v _ => v = .bl true) fun _ _ _ => False)
    (hCX : ∀ (w : World) (H : Hp) (s : Shared) (e : Value) (s' : Shared), CX w [] H s (fun _ _ _ => False) e s' → False) :
    PySem.W.WalkO q loose XP YP l.row.toRowW d [] (fun f vs => PySem.call f vs) := by
  refine Att.attach_call hn hdf fun w s₀ s₁ mg mb fa o pm cd doc a vs ns G Y ho hd hcd hmg hobj hints hlen hg => ?_
  have KX := hY w _ Y
  obtain ⟨fd, hb, hF⟩ := F w mg fa _ KX G.T.g hmg
  exact law_call KX G.T.g G.T.b G.T.builtins G.T.nolimit hg hobj hints (Nat.le_trans hlen hn2) hr hF hb (fun H hO hS => hsp w H a ns hlen hO hS) fun H e s' => hCX w H s₁ e s'
end L2

/- THE LAST THEOREM (shape; LID, My.* are yours):
   My.Adr: a structure of the addresses that your layer names (classes, functions); My.Txt K t: a structure (Prop) of the equations over K;
   My.txt_mk : {K} {implicit addresses ..} (e1 : nsIn K mainGlobals "law" = some (some (.ref f))) (e2 : K.lookup f = some ⟨oc, od, .func (fnOf "law" "law" params body scope dV kV doc pm an cdv ct), sl⟩) (e3 : codeIn K cdv "law" = true) .. : ∃ t, My.Txt K t

set_option maxRecDepth 100000 in
set_option maxHeartbeats 0 in
theorem PySem.Challenge.cw_LID_holds : PySem.Challenge.rw_LID.Holds := by
  w_on; o_law; k_head; (case hw => w_witness2)
  k_fill
  refine L2.walk_of (l := PySem.Challenge.rw_LID) (n := 63) (k := 40) (x := "script") (CX := fun w => ..) (sp := fun _ => My.sp_law) rfl (by decide) rfl ⟨rfl, by decide, by decide⟩ (fun w h Y => PySem.W.kIn_of Y) ?F ?S ?C
  case F =>
    intro w mg fa h KX G hmg
    have T : ∃ t, My.Txt (L2.KOf KX) t := by
      dsimp only [L2.KOf]                          -- K must stand as «<heap const> w.params» for k_is
      refine' My.txt_mk ?e1 ?e2 ?e3 ..
      (case e1 => PySem.W.k_is)                    -- in the order: a name -> its address -> its object -> its parts
      (case e2 => PySem.W.k_is)
      ..
    obtain ⟨t, T⟩ := T
    have e0 := hmg.symm.trans (PySem.W.mg_of KX G T.law)
    cases e0                                       -- fa is the law's own address
    exact ⟨_, fun s u => .of_eq rfl, fun base kb nb => My.law_fn T kb nb⟩     -- if «.of_eq rfl» comes too early: refine' ⟨_, ?b, fun base kb nb => My.law_fn T kb nb⟩; exact fun s u => .of_eq rfl
  case S => exact fun w H a ns hl hO hS => ..
  case C => exact ..
(the tactic k_is has no namespace: write k_is) -/

/-! SHORT WORDS over the layer: a def of the text, its body, what a loop and a test want. -/
namespace L2
open PySem PySem.Spec PyProof.Rows

/-! ### the text by places -/
/-- the j-th statement of a class's body -/
def inClass (s : Stmt) (j : Nat) : Stmt := match s with
  | .ClassDef _ _ _ body _ _ _ _ _ _ _ => body.getD j (.Pass ⟨0, 0, 0, 0⟩)
  | _ => .Pass ⟨0, 0, 0, 0⟩
def defArgs (s : Stmt) : Arguments := match s with
  | .FunctionDef _ a _ _ _ _ _ _ _ _ => a
  | _ => { posonlyargs := [], args := [], vararg := none, kwonlyargs := [], kw_defaults := [], kwarg := none, defaults := [] }
def defBody (s : Stmt) : List Stmt := match s with
  | .FunctionDef _ _ b _ _ _ _ _ _ _ => b
  | _ => []
def defScope (s : Stmt) : Scope := match s with
  | .FunctionDef _ _ _ _ _ _ sc _ _ _ => sc
  | _ => { kind := .function, names := [], isGenerator := false, isCoroutine := false }

/-! ### no exception leaves a def -/
abbrev CX0 : CXT := fun _ _ _ _ _ _ => False
abbrev E0 : XK := fun _ _ _ => False
theorem pass0 {X : Cx} : Passes CX0 X E0 := fun _ _ _ _ _ _ _ h => h.elim

/-! ### a def (or method) of the text as it stands behind the top -/
structure Fun (K : PySem.W.Frag) (x qual : Str) (st : Stmt) (f : Addr) (fd : FuncData) : Prop where
  ex : ∃ (oc : Value) (od : Option Addr) (kV doc pm : Value) (an : Option Addr) (cdv ct : Value) (osl : Array (Option Value)),
    fd = PySem.W.fnOf x qual (defArgs st) (defBody st) (defScope st) .none kV doc pm an cdv ct ∧ K.lookup f = some ⟨oc, od, .func fd, osl⟩ ∧ PySem.W.codeIn K cdv qual = true
  kp : PySem.W.keepIn K (.ref f) = true
section
variable {P : Program} {w : World} {K : PySem.W.Frag} {mg : Str → Option Value} {base : Heap}
/-- THE RULE for a def: its body as a term of rules, and the reading of that term -/
theorem Fun.ok {x qual : Str} {st : Stmt} {f : Addr} {fd : FuncData} {N ps : List Str} {k : Nat} {sp : Sp} (F : Fun K x qual st f fd) (S : FnScope N ps (defScope st)) (len : ∀ vs H Q E, sp vs H Q E → vs.length = ps.length)
    (hbody : ∀ (cdv : Value) (A : Around) (outer : List Env) (s : Shared) (H : Hp) (vs : List V) (Q : VK) (E : XK), Room k (A.deeper (envOfC qual (defScope st) s.heap.objs.size f cdv)) → sp vs H Q E →
      ∃ t, PSs (cxOf CX0 P w K mg base N qual (defScope st) f cdv A outer s H E).nox (defBody st) t ∧ t { nx := fun _ H' => Q .non H', rt := Q } (start N vs) H) : FnOk P w K mg base CX0 (k + 1) f fd ps sp := by
  obtain ⟨oc, od, kV, doc, pm, an, cdv, ct, osl, rfl, lk, hcd⟩ := F.ex
  refine fn_of lk hcd S len fun A outer s H vs Q E hr hsp => ?_
  obtain ⟨t, h, q⟩ := hbody cdv A outer s H vs Q E hr hsp
  exact ⟨t, h.nox, q⟩
/-- how its arguments bind (no defaults): h is «fun _ _ _ _ _ _ us hl => match us, hl with | [_, _], _ => rfl», one _ a parameter -/
theorem Fun.binds {x qual : Str} {st : Stmt} {f : Addr} {fd : FuncData} {ps : List Str} (F : Fun K x qual st f fd)
    (h : ∀ (kV doc pm : Value) (an : Option Addr) (cdv ct : Value) (us : List Value), us.length = ps.length → bindArgs (PySem.W.fnOf x qual (defArgs st) (defBody st) (defScope st) .none kV doc pm an cdv ct) ⟨us, []⟩ = pure (ps.zip us)) : Binds K fd ps [] := by
  obtain ⟨oc, od, kV, doc, pm, an, cdv, ct, osl, rfl, lk, hcd⟩ := F.ex
  exact .all (h kV doc pm an cdv ct)
theorem fun_mk {x qual : Str} {st : Stmt} {f : Addr} {oc : Value} {od an : Option Addr} {osl : Array (Option Value)} {kV doc pm cdv ct : Value} (l : K.lookup f = some ⟨oc, od, .func (PySem.W.fnOf x qual (defArgs st) (defBody st) (defScope st) .none kV doc pm an cdv ct), osl⟩)
    (c : PySem.W.codeIn K cdv qual = true) (k : PySem.W.keepIn K (.ref f) = true) : Fun K x qual st f (PySem.W.fnOf x qual (defArgs st) (defBody st) (defScope st) .none kV doc pm an cdv ct) := ⟨⟨oc, od, kV, doc, pm, an, cdv, ct, osl, rfl, l, c⟩, k⟩
end
/-! ### expressions in short: the name that stands in the i-th slot -/
section
variable {X : Cx}
theorem pv (i : Nat) {x : Str} {pos : Pos} (hN : X.N[i]? = some x := by rfl) (hv : Vis X.env.scope x := by first | exact Or.inl rfl | exact Or.inr (Or.inl rfl) | exact Or.inr (Or.inr rfl)) (hd : (x == ("__debug__" : Str)) = false := by decide)
    (hcd : (x == ("__classdict__" : Str)) = false := by decide) : PE X (.Name x pos) (tVar i) := pe_var hN hv hd hcd
end

/-! ### tests -/
theorem iteF {A B : Prop} (h : B) : if false = true then A else B := by
  rw [if_neg Bool.false_ne_true]
  exact h
theorem iteT {A B : Prop} (h : A) : if true = true then A else B := by
  rw [if_pos rfl]
  exact h
theorem ite2 {c A B : Prop} [Decidable c] (h1 : c → A) (h2 : ¬ c → B) : if c then A else B := by
  by_cases h : c
  · rw [if_pos h]
    exact h1 h
  · rw [if_neg h]
    exact h2 h
/-! ### heaps -/
/-- all that was tracked is as it was -/
def Same (H H' : Hp) : Prop := ∀ b o, H b = some o → H' b = some o
theorem Same.refl (H : Hp) : Same H H := fun _ _ h => h
theorem Same.trans {H H1 H2 : Hp} (a : Same H H1) (b : Same H1 H2) : Same H H2 := fun c o h => b c o (a c o h)
theorem Same.seq {K : PySem.W.Frag} {H H' : Hp} {a : Addr} {xs : List V} (e : Same H H') (h : SqL K H a xs) : SqL K H' a xs := by
  rcases h with (h | ⟨o, h⟩) | h
  · exact .inl (.inl (e _ _ h))
  · exact .inl (.inr ⟨o, e _ _ h⟩)
  · exact .inr h

end L2

namespace L2
open PySem PySem.Spec PyProof.Rows

/-! ### a comprehension's block: what it captures -/
def closOf (cells : List (Str × Addr)) : List (Str × NameKind) → List (Str × Addr) → List (Str × Addr)
  | [], acc => acc
  | (n, k) :: r, acc => closOf cells r (if (k == NameKind.free) = true then (n, (cells.lookup n).getD 0) :: acc else acc)
theorem closOf_look {cells : List (Str × Addr)} {y : Str} {c : Addr} : ∀ (names : List (Str × NameKind)) (acc : List (Str × Addr)), (closOf cells names acc).lookup y = some c →
    ((y, NameKind.free) ∈ names ∧ (cells.lookup y).getD 0 = c) ∨ acc.lookup y = some c
  | [], _, h => .inr h
  | (n, k) :: r, acc, h => by
    rcases closOf_look r _ h with ⟨a, b⟩ | z
    · exact .inl ⟨List.mem_cons_of_mem _ a, b⟩
    · clear h
      by_cases e : (k == NameKind.free) = true
      · rw [if_pos e] at z
        rw [List.lookup_cons] at z
        cases q : (y == n) with
        | true =>
          rw [q] at z
          have ek : k = NameKind.free := by simpa using e
          have en : y = n := by simpa using q
          subst ek en
          exact .inl ⟨List.mem_cons_self, Option.some.inj z⟩
        | false =>
          rw [q] at z
          exact .inr z
      · rw [if_neg e] at z
        exact .inr z
theorem closOf_has {cells : List (Str × Addr)} {y : Str} : ∀ (names : List (Str × NameKind)) (acc : List (Str × Addr)), ((y, NameKind.free) ∈ names ∨ ∃ c, acc.lookup y = some c) → ∃ c, (closOf cells names acc).lookup y = some c
  | [], _, h => by
    rcases h with h | h
    · cases h
    · exact h
  | (n, k) :: r, acc, h => by
    refine closOf_has r _ ?_
    rcases h with h | ⟨c, h⟩
    · rcases List.mem_cons.mp h with e | h
      · cases e
        refine .inr ⟨(cells.lookup y).getD 0, ?_⟩
        rw [if_pos (by decide), List.lookup_cons, beq_self_eq_true]
      · exact .inl h
    · by_cases e : (k == NameKind.free) = true
      · rw [if_pos e, List.lookup_cons]
        cases q : (y == n) with
        | true => exact .inr ⟨_, rfl⟩
        | false => exact .inr ⟨c, h⟩
      · rw [if_neg e]
        exact .inr ⟨c, h⟩
theorem closureFor_clos {scope : Scope} {env : Env} (h : ∀ n, (n, NameKind.free) ∈ scope.names → ∃ c, env.cells.lookup n = some c) : closureFor scope env = pure (closOf env.cells scope.names []) := by
  have key : ∀ (names : List (Str × NameKind)) (cs : List (Str × Addr)), (∀ n, (n, NameKind.free) ∈ names → ∃ c, env.cells.lookup n = some c) →
      (forIn names cs fun (x : Str × NameKind) (r : List (Str × Addr)) => (if (x.2 == NameKind.free) = true then (cellOf env x.1 >>= fun a => pure (ForInStep.yield ((x.1, a) :: r))) else pure (ForInStep.yield r) : Sem _)) = pure (closOf env.cells names cs) := by
    intro names
    induction names with
    | nil => intro cs _; rfl
    | cons p r ih =>
      intro cs hp
      obtain ⟨n, k⟩ := p
      rw [List.forIn_cons]
      by_cases e : (k == NameKind.free) = true
      · have ek : k = NameKind.free := by simpa using e
        obtain ⟨c, hc⟩ := hp n (by rw [ek]; exact List.mem_cons_self)
        rw [if_pos e]
        have e2 : cellOf env n = pure c := by unfold cellOf; rw [hc]
        show ((cellOf env n >>= fun a => pure (ForInStep.yield ((n, a) :: cs))) >>= _) = _
        rw [e2]
        show (forIn r ((n, c) :: cs) _ : Sem _) = _
        rw [ih _ fun n' h' => hp n' (List.mem_cons_of_mem _ h')]
        show _ = pure (closOf env.cells r (if (k == NameKind.free) = true then (n, (env.cells.lookup n).getD 0) :: cs else cs))
        rw [if_pos e, hc]
        rfl
      · rw [if_neg e]
        show (forIn r cs _ : Sem _) = _
        rw [ih _ fun n' h' => hp n' (List.mem_cons_of_mem _ h')]
        show _ = pure (closOf env.cells r (if (k == NameKind.free) = true then (n, (env.cells.lookup n).getD 0) :: cs else cs))
        rw [if_neg e]
  unfold closureFor
  have e := key scope.names [] h
  show ((forIn scope.names [] fun (x : Str × NameKind) (r : List (Str × Addr)) => (if (x.2 == NameKind.free) = true then (cellOf env x.1 >>= fun a => pure (ForInStep.yield ((x.1, a) :: r))) else pure (ForInStep.yield r) : Sem _)) >>= fun r => pure r) = _
  rw [e]
  rfl
end L2

namespace L2
open PySem PySem.Spec PyProof.Rows

theorem look_mem {α : Type} {y : Str} {k : α} : ∀ {l : List (Str × α)}, l.lookup y = some k → (y, k) ∈ l
  | [], h => by cases h
  | (n, j) :: r, h => by
    rw [List.lookup_cons] at h
    cases q : (y == n) with
    | true =>
      rw [q] at h
      have en : y = n := by simpa using q
      cases h
      rw [en]
      exact List.mem_cons_self
    | false =>
      rw [q] at h
      exact List.mem_cons_of_mem _ (look_mem h)
theorem relab_some {env : Env} {x : Str} {k : NameKind} : ∀ {names : List (Str × NameKind)}, names.lookup x = some k →
    (relabel { (default : Scope) with names := names } env).names.lookup x = some k ∨ (k = .free ∧ (relabel { (default : Scope) with names := names } env).names.lookup x = some .cell)
  | [], h => by cases h
  | (n, j) :: r, h => by
    have ih := @relab_some env x k r
    rw [List.lookup_cons] at h
    show List.lookup x ((if (j == NameKind.free && env.scope.kind == .function && env.kindOf n == some .cell) = true then (n, NameKind.cell) else (n, j)) :: _) = _ ∨ (_ ∧ List.lookup x ((if (j == NameKind.free && env.scope.kind == .function && env.kindOf n == some .cell) = true then (n, NameKind.cell) else (n, j)) :: _) = _)
    cases q : (x == n) with
    | true =>
      rw [q] at h
      cases h
      by_cases e : (k == NameKind.free && env.scope.kind == .function && env.kindOf n == some .cell) = true
      · rw [if_pos e, List.lookup_cons, q]
        refine .inr ⟨?_, rfl⟩
        have z := (Bool.and_eq_true _ _ ▸ (Bool.and_eq_true _ _ ▸ e).1 : _ ∧ _).1
        simpa using z
      · rw [if_neg e, List.lookup_cons, q]
        exact .inl rfl
    | false =>
      rw [q] at h
      by_cases e : (j == NameKind.free && env.scope.kind == .function && env.kindOf n == some .cell) = true
      · rw [if_pos e, List.lookup_cons, q]
        exact ih h
      · rw [if_neg e, List.lookup_cons, q]
        exact ih h
theorem relab_of {env : Env} {x : Str} {k : NameKind} : ∀ {names : List (Str × NameKind)}, (relabel { (default : Scope) with names := names } env).names.lookup x = some k → names.lookup x = some k ∨ (names.lookup x = some .free ∧ k = .cell)
  | [], h => by cases h
  | (n, j) :: r, h => by
    have ih := @relab_of env x k r
    have h : List.lookup x ((if (j == NameKind.free && env.scope.kind == .function && env.kindOf n == some .cell) = true then (n, NameKind.cell) else (n, j)) :: (relabel { (default : Scope) with names := r } env).names) = some k := h
    rw [List.lookup_cons]
    cases q : (x == n) with
    | true =>
      by_cases e : (j == NameKind.free && env.scope.kind == .function && env.kindOf n == some .cell) = true
      · rw [if_pos e, List.lookup_cons, q] at h
        cases h
        have z := (Bool.and_eq_true _ _ ▸ (Bool.and_eq_true _ _ ▸ e).1 : _ ∧ _).1
        exact .inr ⟨by simpa using z, rfl⟩
      · rw [if_neg e, List.lookup_cons, q] at h
        exact .inl h
    | false =>
      by_cases e : (j == NameKind.free && env.scope.kind == .function && env.kindOf n == some .cell) = true
      · rw [if_pos e, List.lookup_cons, q] at h
        exact ih h
      · rw [if_neg e, List.lookup_cons, q] at h
        exact ih h

/-! ### the block's context -/
def caps (ix : List Nat) (σ : St) : St := ix.map fun i => (σ[i]?).join
def Cx.block (X : Cx) (scope : Scope) (C : Addr) (NB : List Str) (s2 : Shared) (H2 : Hp) (fp : List Addr) : Cx :=
  { X with N := NB, s₀ := s2, H₀ := H2, env := compEnvC scope (closOf X.env.cells scope.names []) C X.env, outer := X.stack, ex := fp, fn := fun _ => false, pn := [], xe := fun _ _ => False }
/-- what is looked at in the texts: the names of the def, its scope, the block's scope, its variable, its names (the variable first, then those at the places ix of the def's) -/
def blockB (N : List Str) (fs scope : Scope) (x : Str) (NB : List Str) (ix : List Nat) : Bool :=
  decide (scope.kind = .function) && scope.names.all (fun y => decide (y.2 ≠ .cell)) && scope.names.all (fun y => decide (y.2 ≠ .local) || decide (scope.names.lookup y.1 = some .local)) &&
  scope.names.all (fun y => decide (y.2 ≠ .free) || (decide (fs.names.lookup y.1 = some .cell) || decide (fs.names.lookup y.1 = some .free))) && decide (scope.names.lookup x = some .local) &&
  decide (NB = x :: ix.map fun i => N.getD i x) && decide NB.Nodup && ix.all fun i => match N[i]? with | some y => decide (scope.names.lookup y = some .free) | none => false
structure BlockOk (X : Cx) (scope : Scope) (x : Str) (NB : List Str) (ix : List Nat) : Prop where
  kind : scope.kind = .function
  cell : ∀ y ∈ scope.names, y.2 ≠ .cell
  names : ∀ y ∈ scope.names, y.2 = .local → scope.names.lookup y.1 = some .local
  free : ∀ y, (y, NameKind.free) ∈ scope.names → (X.env.kindOf y = some .cell ∨ X.env.kindOf y = some .free)
  var : scope.names.lookup x = some .local
  nb : NB = x :: ix.map fun i => X.N.getD i x
  nd : NB.Nodup
  cap : ∀ i ∈ ix, ∃ y, X.N[i]? = some y ∧ scope.names.lookup y = some .free
theorem BlockOk.of {X : Cx} {N : List Str} {fs scope : Scope} {x : Str} {NB : List Str} {ix : List Nat} (h : blockB N fs scope x NB ix = true) (hN : X.N = N := by rfl) (hf : X.env.scope = fs := by rfl) : BlockOk X scope x NB ix := by
  subst hN hf
  unfold blockB at h
  simp only [Bool.and_eq_true] at h
  obtain ⟨⟨⟨⟨⟨⟨⟨h1, h2⟩, h3⟩, h4⟩, h5⟩, h6⟩, h7⟩, h8⟩ := h
  refine ⟨of_decide_eq_true h1, fun y hy => of_decide_eq_true (List.all_eq_true.mp h2 y hy), fun y hy e => ?_, fun y hy => ?_, of_decide_eq_true h5, of_decide_eq_true h6, of_decide_eq_true h7, fun i hi => ?_⟩
  · have z := List.all_eq_true.mp h3 y hy
    rw [Bool.or_eq_true] at z
    rcases z with z | z
    · exact absurd e (of_decide_eq_true z)
    · exact of_decide_eq_true z
  · have z := List.all_eq_true.mp h4 _ hy
    rw [Bool.or_eq_true, Bool.or_eq_true] at z
    rcases z with z | z | z
    · exact absurd rfl (of_decide_eq_true z)
    · exact .inl (of_decide_eq_true z)
    · exact .inr (of_decide_eq_true z)
  · have z := List.all_eq_true.mp h8 i hi
    cases e : X.N[i]? with
    | none => rw [e] at z; cases z
    | some y => rw [e] at z; exact ⟨y, rfl, of_decide_eq_true z⟩

def PTs (X : Cx) (ifs : List Expr) (t : TT) : Prop :=
  ∀ (pins : List (Addr × Obj)) (s : Shared) (σ : St) (H : Hp) (Q : Bool → Hp → Prop), Inv X pins σ H s → t σ H Q →
    wpAny (model X.prog X.w) X.A (forIn ifs true fun c r => if r = true then do let ok ← isTrue c X.env (eval c X.env); pure (ForInStep.yield ok) else pure (ForInStep.yield r)) (TP X pins σ Q) X.xe s
def tYes : TT := fun _ H Q => Q true H
theorem pts_nil {X : Cx} : PTs X [] tYes := fun _ _ _ H _ I h => wpAny_tests_nil ⟨H, I, h⟩
theorem pts_one {X : Cx} {c : Expr} {t : TT} (h : PT X c t) : PTs X [c] t := fun pins s σ H Q I hw => wpAny_tests_one (h pins s σ H Q I hw)

/-- what the turns do: W by the turn, a measure, the list so far -/
def CompW (J : It) (os : St) (tt : TT) (te : TE) (H1 : Hp) (Q : VK) : Prop :=
  ∃ W : Nat → Nat → List V → Hp → Prop, (∃ m, W 0 m [] H1) ∧ ∀ i m ys H, W i m ys H →
    (J.stop i H ∧ ∀ p, H p = none → Q (.ref p) (upd H p (.lst ys))) ∨
    (J.go i H ∧ ys.length < sizeLine ∧ ∃ N : List V → Hp → Prop, (∀ ys' H', N ys' H' → ∃ m', m' < m ∧ W (i + 1) m' ys' H') ∧ ∀ x H', J.yld i H x H' → tt (some x :: os) H' fun b H2 => if b = true then te (some x :: os) H2 fun v H3 => N (ys ++ [v]) H3 else N ys H2)
theorem comp_range {lo : Int} {n : Nat} {os : St} {tt : TT} {te : TE} {H : Hp} {Q : VK} (Pv : Nat → List V → Hp → Prop) (h0 : Pv 0 [] H) (hz : ∀ i ys H, i < n → Pv i ys H → ys.length < sizeLine)
    (hs : ∀ (i : Nat) ys H, i < n → Pv i ys H → tt (some (.int (lo + i)) :: os) H fun b H2 => if b = true then te (some (.int (lo + i)) :: os) H2 fun v H3 => Pv (i + 1) (ys ++ [v]) H3 else Pv (i + 1) ys H2)
    (hd : ∀ ys H, Pv n ys H → ∀ p, H p = none → Q (.ref p) (upd H p (.lst ys))) : CompW (Itr lo n) os tt te H Q := by
  refine ⟨fun i m ys H => m = n - i ∧ i ≤ n ∧ Pv i ys H, ⟨n, by simp, Nat.zero_le _, h0⟩, ?_⟩
  rintro i m ys H ⟨rfl, hi, p⟩
  by_cases hlt : i < n
  · refine .inr ⟨hlt, hz i ys H hlt p, Pv (i + 1), fun ys' H' p' => ⟨n - (i + 1), by omega, rfl, hlt, p'⟩, fun x H' y => ?_⟩
    obtain ⟨e, y⟩ := y
    subst e y
    exact hs i ys _ hlt p
  · have e : i = n := by omega
    subst e
    exact .inl ⟨Nat.le_refl _, hd ys H p⟩
theorem comp_list {K : PySem.W.Frag} {a : Addr} {xs : List V} {os : St} {tt : TT} {te : TE} {H : Hp} {Q : VK} (Pv : Nat → List V → Hp → Prop) (h0 : Pv 0 [] H) (hz : ∀ i ys H, i < xs.length → Pv i ys H → ys.length < sizeLine)
    (hl : ∀ i ys H, i ≤ xs.length → Pv i ys H → SqL K H a xs)
    (hs : ∀ (i : Nat) x ys H, xs[i]? = some x → Pv i ys H → tt (some x :: os) H fun b H2 => if b = true then te (some x :: os) H2 fun v H3 => Pv (i + 1) (ys ++ [v]) H3 else Pv (i + 1) ys H2)
    (hd : ∀ ys H, Pv xs.length ys H → ∀ p, H p = none → Q (.ref p) (upd H p (.lst ys))) : CompW (Itl K a) os tt te H Q := by
  refine ⟨fun i m ys H => m = xs.length - i ∧ i ≤ xs.length ∧ Pv i ys H, ⟨xs.length, by simp, Nat.zero_le _, h0⟩, ?_⟩
  rintro i m ys H ⟨rfl, hi, p⟩
  have q := hl i ys H hi p
  by_cases hlt : i < xs.length
  · refine .inr ⟨⟨xs, xs[i], q, by simp [hlt]⟩, hz i ys H hlt p, Pv (i + 1), fun ys' H' p' => ⟨xs.length - (i + 1), by omega, rfl, hlt, p'⟩, fun x H' y => ?_⟩
    obtain ⟨e, y⟩ := y
    subst e
    exact hs i x ys _ (y xs q) p
  · have e : i = xs.length := by omega
    subst e
    exact .inl ⟨⟨xs, q, Nat.le_refl _⟩, hd ys H p⟩
abbrev lstO (its : List Value) (n : Nat) : Obj := { cls := .type "list", data := .seq its.toArray n }

section
variable {X : Cx} {scope : Scope} {x : Str} {NB : List Str} {ix : List Nat} {pins : List (Addr × Obj)} {σ : St} {H2 : Hp} {s2 : Shared} {fp : List Addr}
theorem BlockOk.clos (B : BlockOk X scope x NB ix) (I2 : Inv X pins σ H2 s2) : closureFor scope X.env = pure (closOf X.env.cells scope.names []) :=
  closureFor_clos fun n hn => I2.ok.has n (B.free n hn)
theorem BlockOk.look (B : BlockOk X scope x NB ix) (I2 : Inv X pins σ H2 s2) {y : Str} {c : Addr} (h : (closOf X.env.cells scope.names []).lookup y = some c) : X.env.cells.lookup y = some c := by
  rcases closOf_look _ _ h with ⟨m, e⟩ | e
  · obtain ⟨c', hc⟩ := I2.ok.has y (B.free y m)
    rw [hc] at e ⊢
    exact congrArg some e
  · cases e
theorem block_ok (B : BlockOk X scope x NB ix) (I2 : Inv X pins σ H2 s2) {C : Addr} (hC : s2.heap.objs.size ≤ C) (f2 : ∀ b ∈ fp, FpOk X pins H2 b) (ft : ∀ b ∈ fp, b < s2.heap.objs.size) : (X.block scope C NB s2 H2 fp).Ok where
  mod := I2.ok.mod
  kind := B.kind
  glob := I2.ok.glob
  blt := I2.ok.blt
  above := hC
  inj := fun a b c h1 h2 => I2.ok.inj a b c (B.look I2 h1) (B.look I2 h2)
  has := fun y hy => by
    have key : ∀ k, (relabel scope X.env).names.lookup y = some k → (k = .cell ∨ k = .free) → ∃ c, (closOf X.env.cells scope.names []).lookup y = some c := fun k hk kk => by
      rcases relab_of (names := scope.names) hk with e | ⟨e, _⟩
      · rcases kk with rfl | rfl
        · exact absurd rfl (B.cell _ (look_mem e))
        · exact closOf_has _ _ (.inl (look_mem e))
      · exact closOf_has _ _ (.inl (look_mem e))
    rcases hy with e | e
    · exact key _ e (.inl rfl)
    · exact key _ e (.inr rfl)
  cab := fun _ _ z => by cases z
  hd := I2.ok.hd
  frames := I2.ok.frames
  stk := .inl rfl
  exf := fun b hb => ⟨Nat.ne_of_lt (Nat.lt_of_lt_of_le (ft b hb) hC), fun y c e => (f2 b hb).2.2.2.2.1 y c (B.look I2 e)⟩
  bs := I2.bs
  bsz := Nat.le_trans I2.ok.bsz I2.sz
  noex := fun b o e hb => by
    rcases (f2 b hb).2.2.2.1 with z | z
    · exact I2.ok.noex b o e z
    · exact absurd (Nat.lt_of_lt_of_le (Heap.lt_size (I2.ok.bs b o e).1) z) (Nat.lt_irrefl _)
  exfs := fun b hb z => by
    rcases List.mem_cons.mp (I2.stkSub b z) with e | e
    · exact (f2 b hb).2.1 e
    · exact (f2 b hb).2.2.1 e
  funs := I2.stack
  frf := I2.stkFree
theorem caps_len (ix : List Nat) (σ : St) : (caps ix σ).length = ix.length := by unfold caps; rw [List.length_map]

theorem block_inv (B : BlockOk X scope x NB ix) (I2 : Inv X pins σ H2 s2) {C D : Addr} {h1 : Heap} {tk : Nat} {m : Str → Option Value} {oD : Obj} (hC : s2.heap.objs.size ≤ C) (hD : s2.heap.objs.size ≤ D) (hDC : D ≠ C) (f2 : ∀ b ∈ fp, FpOk X pins H2 b) (ft : ∀ b ∈ fp, b < s2.heap.objs.size)
    (old : ∀ b o, s2.heap.get? b = some o → h1.get? b = some o) (hn : h1.Ns C m) (ho : h1.get? D = some oD) (hcl : ∀ v, oD.data ≠ .cell v) :
    Inv (X.block scope C NB s2 H2 fp) [(D, oD)] (none :: caps ix σ) H2 { s2 with heap := h1, toks := tk } where
  ok := block_ok B I2 hC f2 ft
  os := rfl
  bare := I2.bare
  base := Un.kept old
  loc := by
    refine ⟨m, hn, fun i y v e1 e2 _ => ?_⟩
    have e1 : NB[i]? = some y := e1
    cases i with
    | zero => cases e2
    | succ j =>
      have e2 : (caps ix σ)[j]? = some (some v) := e2
      rw [B.nb] at e1
      have e1 : (ix.map fun i => X.N.getD i x)[j]? = some y := e1
      rw [List.getElem?_map] at e1
      unfold caps at e2
      rw [List.getElem?_map] at e2
      cases q : ix[j]? with
      | none => rw [q] at e1; cases e1
      | some i =>
        rw [q] at e1 e2
        obtain ⟨z, hz, fz⟩ := B.cap i (List.mem_of_getElem? q)
        have ey : y = z := by
          have w : X.N.getD i x = y := Option.some.inj e1
          rw [← w, List.getD_eq_getElem?_getD, hz]
          rfl
        subst ey
        have e2 : (σ[i]?).join = some v := Option.some.inj e2
        have es : σ[i]? = some (some v) := by
          cases w : σ[i]? with
          | none => rw [w] at e2; cases e2
          | some o => rw [w] at e2; exact congrArg some e2
        have fk := B.free y (look_mem fz)
        have vis : Vis X.env.scope y := .inr fk
        obtain ⟨mm, _, hl⟩ := I2.loc
        obtain ⟨u, ru, lk⟩ := hl i y v hz es vis
        refine ⟨u, ru, .inr ⟨?_, ?_⟩⟩
        · rcases relab_some (env := X.env) (names := scope.names) fz with e | ⟨_, e⟩
          · exact .inr e
          · exact .inl e
        · rcases lk with ⟨lk, _⟩ | ⟨_, c, hc, hcell⟩
          · rcases fk with fk | fk
            · rw [lk] at fk; cases fk
            · rw [lk] at fk; cases fk
          · obtain ⟨c', hc'⟩ := closOf_has (cells := X.env.cells) scope.names [] (.inl (look_mem fz))
            have e3 := B.look I2 hc'
            rw [hc] at e3
            cases e3
            obtain ⟨oc, g1, g2⟩ := hcell
            exact ⟨c, hc', oc, old _ _ g1, g2⟩
  cell := fun y c e => by
    obtain ⟨v, o, g1, g2⟩ := I2.cell y c (B.look I2 e)
    exact ⟨v, o, old _ _ g1, g2⟩
  free := I2.hok.fresh hC
  freeC := fun y c e => I2.freeC y c (B.look I2 e)
  pin := fun p hp => by
    have e : p = (D, oD) := by simpa [Cx.block] using hp
    subst e
    refine ⟨ho, I2.hok.fresh hD, hDC, fun z => ?_, hcl⟩
    rcases List.mem_cons.mp (I2.stkSub D z) with e | e
    · have e : D = X.env.locals := e
      exact absurd (Nat.lt_of_lt_of_le I2.lt (e ▸ hD)) (Nat.lt_irrefl _)
    · exact I2.nofs hD e
  hok := I2.hok.kept old
  len := by
    show (none :: caps ix σ).length = NB.length
    rw [B.nb, List.length_cons, List.length_cons, caps_len, List.length_map]
end
end L2

namespace L2
open PySem PySem.Spec PyProof.Rows

section
variable {X : Cx} {scope : Scope} {x : Str} {NB : List Str} {ix : List Nat} {pins : List (Addr × Obj)} {σ : St} {H2 : Hp} {s2 : Shared} {fp : List Addr}
/-- the list that was hidden comes to light: what the def knows behind the block -/
theorem block_end {C D : Addr} {H' : Hp} {s4 : Shared} {σB : St} {its : List Value} {n : Nat} {ys : List V} (I2 : Inv X pins σ H2 s2) (f2 : ∀ b ∈ fp, FpOk X pins H2 b) (hD : s2.heap.objs.size ≤ D)
    (I4 : Inv (X.block scope C NB s2 H2 fp) [(D, lstO its n)] σB H' s4) (rv : Vals ys its) (hz : ys.length ≤ sizeLine) : Inv X pins σ (upd H' D (.lst ys)) s4 := by
  have hp := I4.pin (D, lstO its n) (by show _ ∈ [] ++ [(D, lstO its n)]; simp)
  have hfree : H' D = none := hp.2.1
  have neD : ∀ b o, s2.heap.get? b = some o → b ≠ D := fun b o e => Nat.ne_of_lt (Nat.lt_of_lt_of_le (Heap.lt_size e) hD)
  have neT : ∀ b o, H2 b = some o → b ≠ D := fun b o e => Nat.ne_of_lt (Nat.lt_of_lt_of_le (I2.hok.lt e) hD)
  have u : Un (frs X.stack) fp H2 H' s2.heap s4.heap := I4.base
  refine I2.call' (ch := fp) I4.os ⟨u.keep, u.slot, fun b o e n hx => ?_, u.there, fun b xs e => ?_, fun b o v e => ?_, fun b ps e => ?_⟩ (fun b o e => ?_) I4.bare fun b hb => ?_
  · rw [upd_ne (neD b o e)]
    exact u.free b o e n hx
  · rw [upd_ne (neT b _ e)]
    exact u.tups b xs e
  · rw [upd_ne (neT b _ e)]
    exact u.frzs b o v e
  · rw [upd_ne (neT b _ e)]
    exact u.tbls b ps e
  · by_cases hb : b = D
    · subst hb
      rw [upd_same] at e
      cases e
      exact ⟨hz, its, n, rv, hp.1⟩
    · rw [upd_ne hb] at e
      have ne : ∀ {c : Addr} {w : HO}, H' c = some w → c ≠ D := fun {c w} q z => by rw [z, hfree] at q; cases q
      exact (I4.hok b o e).stay (fun _ _ _ q => q) (fun c q => by rw [upd_ne (ne q)]; exact q) fun c xs q => by rw [upd_ne (ne q)]; exact q
  · obtain ⟨_, g1, g2, g3, g4, g5⟩ := f2 b hb
    exact ⟨g3, g1, g4, g5⟩

theorem comp_core {elt iter : Expr} {ifs : List Expr} {px pos : Pos} {tt : TT} {te : TE} {J : It} {it : Addr} {tn : Nat → Heap → Prop} {E : Value → Shared → Prop} {RR : Value → Addr → Result → Shared → Prop} {Qr : VK}
    (B : BlockOk X scope x NB ix) (hc : X.calm = true)
    (he : ∀ (C : Addr) (s : Shared) (H : Hp) (fp : List Addr), PE (X.block scope C NB s H fp) elt te) (ht : ∀ (C : Addr) (s : Shared) (H : Hp) (fp : List Addr), PTs (X.block scope C NB s H fp) ifs tt)
    (I2 : Inv X pins σ H2 s2) (T : Turn X.prog X.w X.K (.Name x px) J fp it tn) (st2 : tn 0 s2.heap) (f2 : ∀ b ∈ fp, FpOk X pins H2 b) (h : CompW J (caps ix σ) tt te H2 Qr)
    (hRR : ∀ (D C : Addr) (Hf : Hp) (s' : Shared) (m' : Str → Option Value), Inv X pins σ Hf s' → s'.heap.Ns C m' → FpOk X pins Hf C → Qr (.ref D) Hf → RR (.ref D) C (.ok .next) s') :
    wpAny (model X.prog X.w) X.A (newList []) (fun acc s3 => wpAny (model X.prog X.w) X.A (newFunctionEnv scope X.env.globals (closOf X.env.cells scope.names []) [] X.env.qual none .none (some X.env)) (fun cenv s4 =>
      codeAny (model X.prog X.w) X.A (.compStart (.ListComp elt [⟨.Name x px, iter, ifs, 0⟩] scope pos) 0 (.ref it) acc { cenv with scope := relabel scope X.env }) (RR acc cenv.locals) s4) E s3) E s2 := by
  obtain ⟨W, ⟨m0, w0⟩, turn⟩ := h
  refine wpAny_newObj_type (wpAny_newFunctionEnv B.cell (by intro y hy; simp at hy) (fun h1 hns hsb => ?_) B.kind)
  dsimp only at hns hsb ⊢
  generalize eG : s2.heap.push { cls := .type "list", dict := none, data := .seq ([] : List Value).toArray } = G at hns hsb ⊢
  have hC : G.objs.size = s2.heap.objs.size + 1 := by rw [← eG, Heap.size_push]
  have hDC : s2.heap.objs.size ≠ G.objs.size := by rw [hC]; exact Nat.ne_of_lt (Nat.lt_succ_self _)
  have hCle : s2.heap.objs.size ≤ G.objs.size := by rw [hC]; exact Nat.le_succ _
  have old : ∀ b o, s2.heap.get? b = some o → h1.get? b = some o := fun b o e => by
    have lt := Heap.lt_size e
    exact hsb.extBut b o (Nat.ne_of_lt (Nat.lt_of_lt_of_le lt hCle)) (Heap.get?_push_of_some _ (eG ▸ Heap.get?_push_of_some _ e))
  have hacc : h1.get? s2.heap.objs.size = some (lstO [] 0) := hsb.extBut _ _ hDC (Heap.get?_push_of_some _ (eG ▸ Heap.get?_push_size _ rfl))
  have ft : ∀ b ∈ fp, b < s2.heap.objs.size := fun b hb => by
    obtain ⟨o, e, _⟩ := T.obj _ _ st2 b hb
    exact Heap.lt_size e
  have loop : ∀ s3 : Shared, s3 = { s2 with heap := h1, toks := s2.toks + ([] : List (Str × Value)).length } →
      codeAny (model X.prog X.w) X.A (.compLoop (.ListComp elt [⟨.Name x px, iter, ifs, 0⟩] scope pos) 0 (.ref it) (.ref s2.heap.objs.size) (compEnvC scope (closOf X.env.cells scope.names []) G.objs.size X.env))
        (RR (.ref s2.heap.objs.size) G.objs.size) s3 := by
    rintro s3 rfl
    have I3 := block_inv (tk := s2.toks + ([] : List (Str × Value)).length) B I2 hCle (Nat.le_refl _) hDC f2 ft old hns hacc (fun v q => by cases q)
    have st3 : tn 0 h1 := T.keep _ _ _ st2 fun b _ o e => old b o e
    have fy : ∀ {H' : Hp} {oD : Obj}, (∀ b ∈ fp, H' b = none) → ∀ b ∈ fp, FpOk (X.block scope G.objs.size NB s2 H2 fp) [(s2.heap.objs.size, oD)] H' b := fun {H' oD} hn b hb => by
      refine ⟨hn b hb, Nat.ne_of_lt (Nat.lt_of_lt_of_le (ft b hb) hCle), fun z => ?_, .inl hb, fun y c e => (f2 b hb).2.2.2.2.1 y c (B.look I2 e), fun p hp => ?_⟩
      · rcases List.mem_cons.mp (I2.stkSub b z) with e | e
        · exact (f2 b hb).2.1 e
        · exact (f2 b hb).2.2.1 e
      · have e : p = (s2.heap.objs.size, oD) := by simpa [Cx.block] using hp
        subst e
        exact Ne.symm (Nat.ne_of_lt (ft b hb))
    refine codeAny_compLoop_tests (fun n s' => ∃ i ys its nn o H', W i n ys H' ∧ Inv (X.block scope G.objs.size NB s2 H2 fp) [(s2.heap.objs.size, lstO its nn)] (o :: caps ix σ) H' s' ∧ tn i s'.heap ∧ (∀ b ∈ fp, H' b = none) ∧ Vals ys its ∧ ys.length ≤ sizeLine)
      ?_ m0 ⟨0, [], [], 0, none, H2, w0, I3, st3, fun b hb => (f2 b hb).1, .nil, Nat.zero_le _⟩
    rintro n s' ⟨i, ys, its, nn, o, H', w', I', st', fr', rv, hz⟩
    rcases turn i n ys H' w' with ⟨stop, q⟩ | ⟨go, hlt, Nx, hNx, step⟩
    · refine wpAny_mono (T.done (X.block scope G.objs.size NB s2 H2 fp) rfl rfl rfl hc i _ s' _ H' (fun _ _ => False) I' (fy fr') st' stop) (fun r s4 ⟨hr, I4⟩ => ?_) fun _ _ z => z.elim
      subst hr
      have I5 := block_end I2 f2 (Nat.le_refl _) I4 rv hz
      obtain ⟨m4, hn4, _⟩ := I4.loc
      have hfree : H' s2.heap.objs.size = none := (I4.pin (s2.heap.objs.size, lstO its nn) (by show _ ∈ [] ++ [(s2.heap.objs.size, lstO its nn)]; simp)).2.1
      refine hRR _ _ _ s4 m4 I5 hn4 (I2.fpOk hCle ?_) (q _ hfree)
      rw [upd_ne (Ne.symm hDC)]
      exact I4.free
    · refine wpAny_mono (T.item (X.block scope G.objs.size NB s2 H2 fp) rfl rfl rfl hc i _ s' _ H' (fun _ _ => False) I' (fy fr') st' go) (fun r s4 ⟨u, hr, h4⟩ => ?_) fun _ _ z => z.elim
      subst hr
      intro Γ p hΓ
      obtain ⟨v, H5, I5, r5, y5, st5, fr5⟩ := h4 Γ p hΓ
      refine (?_ : wpAny (model X.prog X.w) X.A _ _ _ s4) Γ p hΓ
      have pIt : ∀ b ∈ fp, ∃ o, s4.heap.get? b = some o ∧ ∀ v, o.data ≠ .cell v := T.obj _ _ st5
      have I5' := I5.pinned (fy fr5) pIt
      have hg := pg_name (X := X.block scope G.objs.size NB s2 H2 fp) (i := 0) (x := x) (pos := px) B.nd (by show NB[0]? = some x; rw [B.nb]; rfl)
        (.inl (lookup_relabel_local B.var)) (.inr (lookup_relabel_local B.var))
      refine wpAny_mono (hg _ s4 _ H5 v u (fun σ' H' => σ' = some v :: caps ix σ ∧ H' = H5) I5' r5 ⟨rfl, rfl⟩) (fun _ s6 h6 => ?_) fun _ _ z => z.elim
      obtain ⟨σ6, H6, I6, e6, e7⟩ := h6
      subst e6 e7
      refine wpAny_mono (ht _ _ _ _ _ s6 _ _ _ I6 (step v H6 y5)) (fun b s7 ⟨H7, I7, q7⟩ => ?_) fun _ _ z => z.elim
      -- what stays of the iterator
      have stays : ∀ {s9 : Shared} {H9 : Hp} {σ9 : St} {oD : Obj}, Inv (X.block scope G.objs.size NB s2 H2 fp) ([(s2.heap.objs.size, oD)] ++ pinsAt fp s4.heap) σ9 H9 s9 → tn (i + 1) s9.heap ∧ ∀ b ∈ fp, H9 b = none := fun {s9 H9 σ9 oD} I9 => by
        refine ⟨T.keep _ _ _ st5 fun b hb o e => (I9.pin (b, o) (List.mem_append_right _ (List.mem_append_right _ (mem_pinsAt hb e)))).1, fun b hb => ?_⟩
        obtain ⟨o, e, d⟩ := pIt b hb
        exact (I9.pin (b, o) (List.mem_append_right _ (List.mem_append_right _ (mem_pinsAt hb e)))).2.1
      cases b with
      | false =>
        rw [if_neg Bool.false_ne_true] at q7 ⊢
        obtain ⟨m', hm, w7⟩ := hNx _ _ q7
        obtain ⟨g1, g2⟩ := stays I7
        exact ⟨m', hm, i + 1, ys, its, nn, some v, H7, w7, I7.unpinned, g1, g2, rv, hz⟩
      | true =>
        rw [if_pos rfl] at q7 ⊢
        refine wpAny_mono (he _ _ _ _ _ s7 _ _ _ I7 q7) (fun y s8 ⟨yv, H8, I8, r8, n8⟩ => ?_) fun _ _ z => z.elim
        obtain ⟨m', hm, w8⟩ := hNx _ _ n8
        obtain ⟨g1, g2⟩ := stays I8
        have pD := I8.pin (s2.heap.objs.size, lstO its nn) (by show _ ∈ [] ++ ([(s2.heap.objs.size, lstO its nn)] ++ pinsAt fp s4.heap); simp)
        refine append_at (hsz := by rw [List.size_toArray, ← rv.length]; exact hz) pD.1 fun h9 hs9 hD9 => ?_
        have hno : s2.heap.objs.size ∉ fp := fun z => Nat.lt_irrefl _ (ft _ z)
        have I8u := I8.unpinned
        have I8n := I8u.pins_of (pins' := []) (fun _ z => nomatch z)
        have I9 := I8n.turned (h' := h9) (t' := s8.toks) (it := s2.heap.objs.size) (fun b o hb e => hs9.extBut b o hb e) pD.2.1 pD.2.2.1 (.inr (Nat.le_refl _))
          (fun y c e z => by
            obtain ⟨w, q⟩ := I2.cell y c (B.look I2 e)
            exact Nat.lt_irrefl _ (z ▸ q.lt)) (fun p hp => by cases hp)
        have e9 : lstO (its ++ [y]) (nn + 1) = { cls := .type "list", data := .seq (its.toArray.push y) (nn + 1) } := by
          show ({ cls := .type "list", data := .seq (its ++ [y]).toArray (nn + 1) } : Obj) = _
          rw [List.push_toArray]
        have I10 : Inv (X.block scope G.objs.size NB s2 H2 fp) [(s2.heap.objs.size, lstO (its ++ [y]) (nn + 1))] (some v :: caps ix σ) H8 { s8 with heap := h9 } := by
          refine I9.pins_of fun p hp => ?_
          have e : p = (s2.heap.objs.size, lstO (its ++ [y]) (nn + 1)) := by simpa using hp
          subst e
          exact ⟨hD9.trans (congrArg some e9.symm), pD.2.1, pD.2.2.1, pD.2.2.2.1, fun v q => by cases q⟩
        refine ⟨m', hm, i + 1, ys ++ [yv], its ++ [y], nn + 1, some v, H8, w8, I10, T.keep _ _ _ g1 fun b hb o e => hs9.extBut b o (fun z => hno (z ▸ hb)) e, g2, Vals.append rv (.cons r8 .nil), ?_⟩
        rw [List.length_append]
        exact hlt
  exact codeAny_compStart_list (loop _ rfl) (T.self _ 0 _ _ _ (T.keep _ _ _ st2 fun b _ o e => old b o e) (loop _ rfl))

def tComp (wi : TI) (ix : List Nat) (tt : TT) (te : TE) : TE := fun σ H Q => wi σ H fun J H1 => CompW J (caps ix σ) tt te H1 Q
/-- [elt for x in iter if ..] -/
theorem pe_comp {elt iter : Expr} {ifs : List Expr} {px pos : Pos} {wi : TI} {tt : TT} {te : TE} (B : BlockOk X scope x NB ix) (hc : X.calm = true) (hi : PI X (.Name x px) iter wi)
    (he : ∀ (C : Addr) (s : Shared) (H : Hp) (fp : List Addr), PE (X.block scope C NB s H fp) elt te) (ht : ∀ (C : Addr) (s : Shared) (H : Hp) (fp : List Addr), PTs (X.block scope C NB s H fp) ifs tt)
    (hs : ∀ v, foldedSetIterable iter X.env v = pure v := by intro _; rfl) : PE X (.ListComp elt [⟨.Name x px, iter, ifs, 0⟩] scope pos) (tComp wi ix tt te) := by
  intro pins s σ H Q I h
  rw [eval_ListComp]
  refine wpAny_comprehension_free (use := none) rfl hs (B.clos I) B.kind B.names (thn (hi pins s σ H _ I h) fun v s1 h1 => thn h1 fun itv s2 h2 => ?_)
  obtain ⟨it, fp, tn, J, H2, e, I2, T, st2, f2, w⟩ := h2
  subst e
  refine comp_core (RR := fun acc C => compPost (model X.prog X.w) X.A X.xe none (EP X pins σ Q) acc C) B hc he ht I2 T st2 f2 w fun D C Hf s' m' I' hn' fC q => ?_
  refine ⟨m', hn', fun h'' hs'' => ⟨.ref D, Hf, ?_, rfl, q⟩⟩
  obtain ⟨c0, c1, c2, c3, c4, c5⟩ := fC
  exact I'.turned (it := C) (t' := s'.toks) (fun b o hb e => hs''.extBut b o hb e) c0 c1 c3 c4 c5
/-- name = [elt for x in iter if ..], the name a plain local one, on one line -/
theorem ps_comp {elt iter : Expr} {ifs : List Expr} {px pos py spos : Pos} {wi : TI} {tt : TT} {te : TE} {j : Nat} {y : Str} (hN : X.N.Nodup) (hj : X.N[j]? = some y) (hy : X.env.scope.names.lookup y = some .local)
    (B : BlockOk X scope x NB ix) (hc : X.calm = true) (hi : PI X (.Name x px) iter wi)
    (he : ∀ (C : Addr) (s : Shared) (H : Hp) (fp : List Addr), PE (X.block scope C NB s H fp) elt te) (ht : ∀ (C : Addr) (s : Shared) (H : Hp) (fp : List Addr), PTs (X.block scope C NB s H fp) ifs tt)
    (hsw : swapsWith (.ListComp elt [⟨.Name x px, iter, ifs, 0⟩] scope pos) (some (.Name y py)) spos.line X.env = pure true)
    (hs : ∀ v, foldedSetIterable iter X.env v = pure v := by intro _; rfl) : PS X (.Assign [.Name y py] (.ListComp elt [⟨.Name x px, iter, ifs, 0⟩] scope pos) spos) (tAsg (tComp wi ix tt te) (gName j)) := by
  intro pins s σ H Dn I h
  rw [exec_Assign_Name_used _ _ _ _ hsw]
  refine wpAny_bind (wpAny_standAt (wpAny_bind ?_))
  show wpAny (model X.prog X.w) X.A (comprehension (.ListComp elt [⟨.Name x px, iter, ifs, 0⟩] scope pos) scope X.env _ (newList []) false (eval iter X.env) (some (assign (.Name y py) X.env)) >>= fun _ => pure ()) _ _ s
  refine wpAny_bind (thn (wpAny_comprehension_free (use := some (assign (.Name y py) X.env)) (Q := fun _ s' => SP X pins Dn .next s') rfl hs (B.clos I) B.kind B.names (thn (hi pins s σ H _ I h) fun v s1 h1 => thn h1 fun itv s2 h2 => ?_)) fun _ s' q => wpAny_pure (wpAny_pure q))
  obtain ⟨it, fp, tn, J, H2, e, I2, T, st2, f2, w⟩ := h2
  subst e
  refine comp_core (RR := fun acc C => compPost (model X.prog X.w) X.A X.xe (some (assign (.Name y py) X.env)) (fun _ s' => SP X pins Dn .next s') acc C) B hc he ht I2 T st2 f2 w fun D C Hf s' m' I' hn' fC q => ?_
  obtain ⟨c0, c1, c2, c3, c4, c5⟩ := fC
  show wpAny (model X.prog X.w) X.A (assign (.Name y py) X.env (.ref D)) _ _ s'
  refine wpAny_assign_Name (store_ok2 I' hN hj (.inl hy) (v := .ref D) rfl (fun s'' I'' ⟨a, sb, ha⟩ => ?_) (.inr hy))
  have hCa : C ≠ a := by
    rcases ha with e | e
    · rw [e]; exact c1
    · exact fun z => c4 y a e z.symm
  refine ⟨m', hn'.sameBut sb hCa, fun h3 hs3 => ⟨_, Hf, ?_, q⟩⟩
  exact I''.turned (it := C) (t' := s''.toks) (fun b o hb e => hs3.extBut b o hb e) c0 c1 c3 c4 c5
end
end L2

namespace PySem
open PySem.W
section
variable {prog : Program} {w : World} {A : Around} {R : Result → Shared → Prop} {h : Heap} {g : Array GenState} {d : Drawn} {t : Nat} {os : OsState}
variable {nm q : Str} {C N : Addr} {bs bm bmB : List Value} {hdct : Bool} {sn : List Str} {sub : List Value} {ab : Bool} {col : Option Bool} {dd : Option Addr} {k0 k1 k2 k3 k5 : Option Value} {B newId initId : String}
abbrev xObj (C t0 : Addr) : Obj := { cls := .ref C, data := .fields #[.ref t0, .none, .none, .none, .bool false, .none] }
abbrev xTup (rest : List Value) : Obj := { cls := .type "tuple", data := .seq rest.toArray }
end
end PySem

namespace L2
open PySem PySem.Spec PyProof.Rows PySem.W

/-- an exception of the class at C stands at a, its own dict at dd -/
def XAt (a C : Addr) (dd : Option Addr) : Heap → Prop := fun h => ∃ (t0 : Addr) (v1 v2 v3 v4 v5 : Value) (sl : Array (Option Value)), h.get? a = some ⟨.ref C, dd, .fields #[.ref t0, v1, v2, v3, v4, v5], sl⟩
theorem xat_ok {P : Program} {w : World} {H : Hp} {h : Heap} {a C : Addr} {dd : Option Addr} (x : XAt a C dd h) : ObjOk P w H h a (.ext (XAt a C dd)) := by
  obtain ⟨t0, v1, v2, v3, v4, v5, sl, e⟩ := id x
  exact ⟨x, ⟨_, e⟩, fun h1 h2 ⟨t0, v1, v2, v3, v4, v5, sl, e⟩ k => ⟨t0, v1, v2, v3, v4, v5, sl, k _ e⟩⟩
theorem Inv.xat {X : Cx} {pins : List (Addr × Obj)} {σ : St} {H : Hp} {s : Shared} {a C : Addr} {dd : Option Addr} (I : Inv X pins σ H s) (e : H a = some (.ext (XAt a C dd))) : XAt a C dd s.heap := (I.hok a _ e).1

/-- an exception class of the text, by the head's part: mN "__init__" is r -/
def xclsIn (K : Frag) (C : Addr) (bmB : List Value) (newId : String) (r : Option Value) : Bool := match K.lookup C with
  | some ⟨.type "type", _, .cls cd, sl⟩ => (match cd.mro, sl.toList with
    | .ref C' :: bm, [_, _, _, _, some (.builtin n), _] => (C' == C && n == newId) && (!cd.hasDel && tailIn K bmB bm) && (nsOkIn K cd.ns && nsIn K cd.ns "__init__" == some r)
    | _, _ => false)
  | _ => false
structure XCls (C : Addr) (bmB : List Value) (newId : String) (r : Option Value) (h : Heap) : Prop where
  obj : ∃ bm N nm q bs hdct sn sub ab col dd k0 k1 k2 k3 k5 mN, h.get? C = some (excClassObj nm q C N bs bm hdct sn sub ab col dd k0 k1 k2 k3 k5 newId) ∧ h.Ns N mN ∧ mN "__init__" = r ∧ OwnTail h bmB bm
theorem ns_look_of {K : Frag} {h : Heap} {N : Addr} {mg : Str → Option Value} {n : Str} {r : Option Value} (X : K.In h) (G : h.Ns N mg) (e : nsIn K N n = some r) : mg n = r := by
  obtain ⟨o, es, ep, ho, hd, _, hf⟩ := G
  unfold nsIn at e
  split at e
  · rename_i c d es' n' sl q
    have z := X _ _ q
    rw [ho] at z
    cases z
    cases hd
    split at e
    · rename_i en he
      rw [← hf]
      unfold nsFind findBy
      rw [← Array.find?_toList, he]
      first
        | (cases e; rfl)
        | (split at e <;> cases e <;> rfl)
    · rename_i he
      rw [← hf]
      unfold nsFind findBy
      rw [← Array.find?_toList, he]
      split at e
      · cases e
      · cases e
        rfl
  · cases e
theorem xcls_of {K : Frag} {h : Heap} {C : Addr} {bmB : List Value} {newId : String} {r : Option Value} (X : K.In h) (q : xclsIn K C bmB newId r = true) : XCls C bmB newId r h := by
  unfold xclsIn at q
  split at q
  · rename_i dd cd sl ho
    split at q
    · rename_i C' bm k0 k1 k2 k3 n k5 hm hs
      simp only [Bool.and_eq_true, beq_iff_eq, Bool.not_eq_true'] at q
      obtain ⟨⟨⟨rfl, rfl⟩, hdel, ht⟩, hok, hni⟩ := q
      obtain ⟨nm, bs, mro, ns, qn, hd, sn, sub, ab, col, del⟩ := cd
      dsimp only at hm hdel hok hni
      subst hm hdel
      obtain ⟨l⟩ := sl
      have hs : l = _ := hs
      subst hs
      have G : h.Ns ns (h.nsMap ns) := .of_isNs (isNs_of_in X hok)
      exact ⟨bm, ns, nm, qn, bs, hd, sn, sub, ab, col, dd, k0, k1, k2, k3, k5, _, X _ _ ho, G, ns_look_of X G hni, tail_of_in X ht⟩
    · cases q
  · cases q

theorem there_of {P : Program} {w : World} {H : Hp} {h : Heap} {a : Addr} {o : HO} (x : ObjOk P w H h a o) : ∃ ob, h.get? a = some ob := by
  cases o with
  | lst xs => obtain ⟨_, _, _, _, e⟩ := x; exact ⟨_, e⟩
  | tup xs => obtain ⟨_, _, _, ob, e, _⟩ := x; exact ⟨_, e⟩
  | dK kvs => obtain ⟨_, _, _, _, ob, _, _, e, _⟩ := x; exact ⟨_, e⟩
  | dT kvs => obtain ⟨_, _, _, _, ob, _, _, e, _⟩ := x; exact ⟨_, e⟩
  | set S n => obtain ⟨ob, _, _, _, e, _⟩ := x; exact ⟨_, e⟩
  | ins C dx fs => obtain ⟨_, _, _, e, _⟩ := x; exact ⟨_, e⟩
  | own y => exact x
  | xd fs => obtain ⟨_, ⟨od, _, _, e, _⟩, _⟩ := x; exact ⟨_, e⟩
  | rng lo hi => obtain ⟨_, _, _, e⟩ := x; exact ⟨_, e⟩
  | frz ob u => obtain ⟨e, _⟩ := x; exact ⟨_, e⟩
  | tbl ps => exact ⟨_, x⟩
  | met f y => exact ⟨_, x⟩
  | ext φ => obtain ⟨_, e, _⟩ := x; exact e
section
variable {X : Cx} {pins : List (Addr × Obj)} {σ : St} {H : Hp} {s : Shared} {h' : Heap}
theorem Inv.free_of (I : Inv X pins σ H s) {a : Addr} (hn : s.heap.get? a = none) : H a = none := by
  cases z : H a with
  | none => rfl
  | some o =>
    obtain ⟨ob, e⟩ := there_of (I.hok a o z)
    rw [hn] at e
    cases e
/-- a new object, wherever it was laid, tracked -/
theorem Inv.laidN {a : Addr} {o : HO} {t' : Nat} (I : Inv X pins σ H s) (k : ∀ b u, s.heap.get? b = some u → h'.get? b = some u) (hn : s.heap.get? a = none) (new : ObjOk X.prog X.w (upd H a o) h' a o) :
    Inv X pins σ (upd H a o) { s with heap := h', toks := t' } := by
  have hf := I.free_of hn
  have neA : ∀ b u, s.heap.get? b = some u → b ≠ a := fun b u e z => by rw [z, hn] at e; cases e
  have neT : ∀ b u, H b = some u → b ≠ a := fun b u e z => by rw [z, hf] at e; cases e
  refine I.un ⟨fun b u e _ _ _ => k b u e, fun b u e _ _ _ => ⟨u.slots, k b u e⟩, fun b u e n _ => by rw [upd_ne (neA b u e)]; exact n, fun b u e _ => ⟨u, k b u e⟩, fun b xs e => by rw [upd_ne (neT b _ e)]; exact e,
    fun b u v e => by rw [upd_ne (neT b _ e)]; exact e, fun b ps e => ⟨#[], by rw [upd_ne (neT b _ e), e]; simp⟩⟩ fun b u e => ?_
  by_cases hb : b = a
  · subst hb
    rw [upd_same] at e
    cases e
    exact new
  · rw [upd_ne hb] at e
    exact (I.hok b u e).stay (fun c v _ q => k c v q) (fun c q => by rw [upd_ne (neT c _ q)]; exact q) fun c xs q => by rw [upd_ne (neT c _ q)]; exact q
end
abbrev veM : List Value := [.type "ValueError", .type "Exception", .type "BaseException", .type "object"]
section
variable {X : Cx} {x : Str} {p pos : Pos} {e : Expr} {es : List Expr} {t : TA} {C : Addr}
/-- C(..), an exception class without an own __init__ -/
def tExc (C : Addr) (t : TA) : TE := fun σ H Q => t σ H fun vs H1 => vs.length ≤ sizeLine ∧ ∀ a, H1 a = none → Q (.ref a) (upd H1 a (.ext (XAt a C none)))
variable {CX : CXT} {k : Nat} {f : Addr} {fd : FuncData} {ps : List Str} {sp : Sp} {E : XK}
/-- C(..), an exception class with an own __init__ -/
def tExcI (C : Addr) (sp : Sp) (E : XK) (t : TA) : TE := fun σ H Q => t σ H fun vs H1 => vs.length ≤ sizeLine ∧ ∀ a, H1 a = none → sp (.ref a :: vs) (upd H1 a (.ext (XAt a C none))) (fun v H2 => v = .non ∧ Q (.ref a) H2) E
end
end L2

namespace L2
open PySem PySem.Spec PyProof.Rows
section
variable {X : Cx}
theorem vals_at : ∀ {xs : List V} {us : List Value}, Vals xs us → ∀ (i : Nat) (u : Value), us[i]? = some u → ∃ x, xs[i]? = some x ∧ RelV x u
  | _, _, .nil, i, u, h => by cases h
  | _, _, .cons h r, 0, u, e => by
    cases e
    exact ⟨_, rfl, h⟩
  | _, _, .cons h r, i + 1, u, e => vals_at r i u e
end
end L2

namespace L2
open PySem PySem.Spec PyProof.Rows PySem.W
section
variable {prog : Program} {w : World} {A : Around} {E : Value → Shared → Prop} {h : Heap} {g : Array GenState} {d : Drawn} {t : Nat} {os : OsState} {a C : Addr} {dd : Option Addr} {t0 : Addr} {v1 v2 v3 v4 v5 : Value} {sl : Array (Option Value)} {r : Option Value}
end
end L2

namespace L2
open PySem PySem.Spec PyProof.Rows PySem.W Builtin Builtin.ObjectAttr
/-- own classes, then ValueError's own -/
def veTail (l : List Value) : Bool := match l with
  | .ref _ :: r => veTail r
  | l => l == veM
theorem ve_has (T : String) (hT : veM.contains (.type T) = true) : ∀ (l : List Value), veTail l = true → l.contains (.type T) = true
  | [], e => by cases e
  | v :: r, e => by
    cases v with
    | ref c => rw [List.contains_cons, ve_has T hT r e, Bool.or_true]
    | type n =>
      have e : (Value.type n :: r == veM) = true := e
      rw [beq_iff_eq.mp e]
      exact hT
    | _ => cases e
theorem ve_ne : ∀ (l : List Value), veTail l = true → l.isEmpty = false
  | [], e => by cases e
  | _ :: _, _ => rfl
def xdIn (K : Frag) (C : Addr) : Bool := (clsIn K C).any fun cd => veTail cd.mro && cd.hasDict
structure XFacts (K : Frag) (C : Addr) : Prop where
  cd : xdIn K C = true
  sa : findIn K (.ref C) "__setattr__" = some (some (.builtin "object.__setattr__"))
  ga : findIn K (.ref C) "__getattribute__" = some (some (.builtin "BaseException.__getattribute__"))
  ng : findIn K (.ref C) "__getattr__" = some none
section
variable {prog : Program} {w : World} {A : Around} {E : Value → Shared → Prop} {s : Shared} {K : Frag} {x C : Addr} {name : Str} {v : Value} {vs : Array Value} {sl : Array (Option Value)}
theorem x_sub {M : Model} {h : Heap} {ox : Obj} {od : Option Obj} (X : K.In h) (I : InstAt h x ox C od) (F : XFacts K C) (T : String) (hT : veM.contains (.type T) = true) : Looks M h (isInstance (.ref x) (.type T)) true := by
  obtain ⟨cd, hc, ho⟩ := any_some F.cd
  rw [Bool.and_eq_true] at ho
  exact I.type.andThen (looks_mroIn X (by unfold mroIn; rw [hc, Option.bind_some, if_neg (by rw [ve_ne _ ho.1]; decide), ve_has T hT _ ho.1]))
end
end L2

namespace L2
open PySem PySem.Spec PyProof.Rows PySem.W Builtin Builtin.ObjectAttr
section
variable {prog : Program} {w : World} {A : Around} {E : Value → Shared → Prop} {s : Shared} {K : Frag} {x C : Addr} {ox : Obj} {od : Option Obj} {name : Str} {v : Value} {tk : Tok} {fill expr : Bool}
theorem bga_kind : builtinKind "BaseException.__getattribute__" = some .slot := by decide +kernel
theorem bga_split : splitId "BaseException.__getattribute__" = some ("BaseException", "__getattribute__") := by decide +kernel
theorem x_getBy {Q : Value → Shared → Prop} (X : K.In s.heap) (I : InstAt s.heap x ox C od) (F : XFacts K C)
    (hb : wpAny (model prog w) A.in1 («object.__getattribute__» ⟨[.ref x, .str name tk], []⟩) (fun fin s' => match fin with
      | .done (.ret v) => wpAny (model prog w) A (handedOut v) Q E s'
      | .again c => c.quiet = true ∧ codeAny (model prog w) A c (fun r s'' => match r with | .ok (.ret v) => wpAny (model prog w) A (handedOut v) Q E s'' | _ => False) s'
      | _ => False) (fun _ _ => False) s) :
    wpAny (model prog w) A (getAttrBy (.ref x) (.str name tk) fill expr) Q E s := by
  have L0 := I.type (M := model prog w)
  have L1 := looks_findIn (M := model prog w) X F.ga
  have L2 := looks_findIn (M := model prog w) X F.ng
  have FB := PySem.F.excAttr_ValueError
  unfold getAttrBy
  refine wpAny_holding (wpAny_bind (L0.here (wpAny_bind (L1.here ?_))))
  have hx2 : (Value.builtin "BaseException.__getattribute__" == Value.builtin "object.__getattribute__") = false := by decide +kernel
  dsimp only
  rw [hx2, Bool.and_false, if_neg Bool.false_ne_true]
  unfold getAttrByItsOwn
  refine wpAny_bind (L2.here (wpAny_bind (wpAny_attempt (wpAny_holding ?_))))
  unfold callGetattribute
  rw [if_neg (by cases expr <;> decide)]
  unfold boundAndCalled
  rw [FB.ga.bind]
  refine wpAny_bind (wpAny_pure (wpAny_call ?_))
  refine codeAny_call_builtin FB.ga.plain PySem.F.entry_bexc_ga (@check_slot (model prog w) _ _ _ "BaseException.__getattribute__" "BaseException" "__getattribute__" (.ref x) [.str name tk] [] _ bga_kind bga_split (x_sub X I F "BaseException" (by decide)) (PySem.F.args_bexc_ga (.ref x) (.str name tk)) ?_)
  refine wpAny_mono hb (fun fin s' z => ?_) fun _ _ z => z.elim
  rcases fin with (_ | _ | _ | _) | _ <;> first | exact z | exact z.elim | skip
  · obtain ⟨z1, z2⟩ := z
    refine ⟨z1, codeAny_mono z2 fun r s'' y => ?_⟩
    rcases r with e | (_ | _ | _ | _) <;> first | exact y | exact y.elim
end
end L2

namespace L2
open PySem PySem.Spec PyProof.Rows PySem.W Builtin Builtin.ObjectAttr
section
variable {prog : Program} {w : World} {A : Around} {E : Value → Shared → Prop} {s : Shared} {K : Frag} {x C : Addr} {ox : Obj} {od : Option Obj} {name : Str} {v : Value} {tk : Tok} {fill expr : Bool}
theorem x_class {Q : Option Value → Shared → Prop} (X : K.In s.heap) (I : InstAt s.heap x ox C od) (F : XFacts K C) (hf : findObj K C od "__class__" = some (.bind (.builtin "getset_descriptor.__get__") (.builtin "object.__class__")))
    (hm : mroIn K C (.type "object") = some true) (h : Q (some (.ref C)) { s with toks := s.toks + 1 }) : wpAny (model prog w) A (getAttr? (.ref x) "__class__") Q E s := by
  have L0 := I.type (M := model prog w)
  have L1 := looks_find (M := model prog w) X I hf
  unfold getAttr? getAttrBy?
  refine wpAny_bind (wpAny_mkText (wpAny_bind (wpAny_attempt (x_getBy (s := { s with toks := s.toks + 1 }) X I F ?_))))
  unfold «object.__getattribute__»
  refine wpAny_bind (wpAny_pure (wpAny_bind (wpAny_pure (wpAny_bind (L0.here (s := { s with toks := s.toks + 1 }) (wpAny_bind (L1.here (s := { s with toks := s.toks + 1 }) ?_)))))))
  show wpAny _ _ (bindTo (.builtin "getset_descriptor.__get__") (.builtin "object.__class__") (.ref x) (.ref C)) _ _ _
  unfold bindTo
  dsimp only
  refine wpAny_bind (wpAny_holding (wpAny_call (class_get (s := { s with toks := s.toks + 1 }) (ox := ox) (od := od) X I hm ?_)))
  refine wpAny_pure ?_
  show wpAny _ _ (handedOut (.ref C)) _ _ _
  exact wpAny_pure (wpAny_pure h)
/-- for isinstance -/
structure XIs (K : Frag) (C : Addr) : Prop extends XFacts K C where
  ca : findIn K (.ref C) "__class__" = some (some (.builtin "object.__class__"))
  gt : specialIn K (.builtin "object.__class__") "__get__" = some (some (.builtin "getset_descriptor.__get__"))
  tk : takesIn K (.builtin "object.__class__") = some true
theorem XFacts.mro (F : XFacts K C) (T : String) (hT : veM.contains (.type T) = true) : mroIn K C (.type T) = some true := by
  obtain ⟨cd, hc, ho⟩ := any_some F.cd
  rw [Bool.and_eq_true] at ho
  unfold mroIn
  rw [hc, Option.bind_some, if_neg (by rw [ve_ne _ ho.1]; decide), ve_has T hT _ ho.1]
theorem kitx_exc (F : XIs K C) : KitX K (.ref x) (.ref C) (fun h => InstAt h x ox C od) where
  ty := fun _ _ _ I => I.type
  it := fun _ _ X _ => by
    obtain ⟨cdD, hcD, _⟩ := any_some F.cd
    unfold clsIn at hcD
    split at hcD
    · rename_i c' d' cd' sl' ho
      intro A' Q' E' s' k q
      unfold isType loadHead
      exact wpAny_bind (wpAny_loadPart (k _ _ (X _ _ ho)) (wpAny_pure q))
    · cases hcD
  ne := fun h tp dd its n sl X htp => by
    obtain ⟨cdD, hcD, _⟩ := any_some F.cd
    refine Bool.eq_false_iff.mpr fun q => ?_
    have e : C = tp := Value.ref.inj (beq_iff_eq.mp q)
    subst e
    unfold clsIn at hcD
    split at hcD
    · rename_i c' d' cd' sl' ho
      have z := (X _ _ ho).symm.trans htp
      cases z
    · cases hcD
  ca := fun X I k => by
    obtain ⟨cd, hc, _⟩ := any_some F.cd
    exact x_class X I F.toXFacts (by simp only [findObj, hc, Option.bind_some, F.ca, F.gt, F.tk]) (F.mro "object" (by decide)) k
end

/-! ### the layer's rules -/
section
variable {X : Cx} {pins : List (Addr × Obj)} {σ : St} {H : Hp} {s : Shared} {a C : Addr}
end
section
variable {X : Cx} {pins : List (Addr × Obj)} {σ : St} {H : Hp} {s : Shared} {a C : Addr} {dd : Option Addr}
theorem Inv.instX (I : Inv X pins σ H s) (e : H a = some (.ext (XAt a C none))) : ∃ ox, InstAt s.heap a ox C none := by
  obtain ⟨t0, v1, v2, v3, v4, v5, sl, h⟩ := I.xat e
  exact ⟨_, h, rfl, rfl, trivial⟩
theorem Inv.instD {d : Addr} {fs : List (Str × V)} (I : Inv X pins σ H s) (e : H a = some (.ext (XAt a C (some d)))) (hd : H d = some (.xd fs)) : ∃ (ox od : Obj) (mA : Str → Option Value), InstAt s.heap a ox C (some od) ∧ (∀ n, lookIn n od = some (mA n)) ∧ ∀ f, RelO (fs.lookup f) (mA f) := by
  obtain ⟨t0, v1, v2, v3, v4, v5, sl, h⟩ := I.xat e
  obtain ⟨mA, ns, rel⟩ := I.hok d _ hd
  obtain ⟨od, ho, hl⟩ := lookIn_ns ns
  exact ⟨_, od, mA, ⟨h, rfl, rfl, ho⟩, hl, rel⟩
/-- what an exception's class is asked: an exception without a dict, or with one -/
def XIn (H : Hp) (a C : Addr) : Prop := H a = some (.ext (XAt a C none)) ∨ ∃ d fs, H a = some (.ext (XAt a C (some d))) ∧ H d = some (.xd fs)
/-- isinstance(e, c) of an exception; c a class of the text, or a built-in one -/
theorem isinst_x {E : Value → Shared → Prop} {Q : Value → Shared → Prop} {c : Value} {b : Bool} {A : Around} (I : Inv X pins σ H s) (e : XIn H a C) (F : XIs X.K C) (k : kitOne X.K (.ref C) c = some b) (h : ∀ tk, Q (.bool b) { s with toks := tk }) :
    wpAny (model X.prog X.w) A (call (.builtin "isinstance") [.ref a, c]) Q E s := by
  rcases e with e | ⟨d, fs, e, hd⟩
  · obtain ⟨ox, J⟩ := I.instX e
    exact kia_one (kitx_exc F) I.kIn J k (fun z => nomatch z) h
  · obtain ⟨ox, od, mA, J, _, _⟩ := I.instD e hd
    exact kia_one (kitx_exc F) I.kIn J k (fun z => nomatch z) h
theorem call_isX : CallR X (.builtin "isinstance") (fun xs H Q => ∃ a C c b, xs = [.ref a, c] ∧ XIn H a C ∧ XIs X.K C ∧ (∀ u, RelV c u → kitOne X.K (.ref C) u = some b) ∧ Q (.bl b) H) := by
  intro pins s σ H xs us Q I r h
  obtain ⟨a, C, c, b, rfl, x, F, k, q⟩ := h
  obtain ⟨u1, u2, rfl, ru1, ru2⟩ := r.two
  cases ru1
  exact isinst_x I x F (k u2 ru2) fun tk => ⟨.bl b, H, I.tok tk, rfl, q⟩
/-- isinstance(x, c), x no exception -/
theorem call_isT : CallR X (.builtin "isinstance") (fun xs H Q => ∃ x c t b, xs = [x, c] ∧ TyOf X.K H x t ∧ (∀ u, RelV c u → kitOne X.K t u = some b) ∧ Q (.bl b) H) := by
  intro pins s σ H xs us Q I r h
  obtain ⟨x, c, t, b, rfl, ty, k, q⟩ := h
  obtain ⟨u1, u2, rfl, ru1, ru2⟩ := r.two
  exact isinst_ok I ru1 ty (k u2 ru2) fun tk => ⟨.bl b, H, I.tok tk, rfl, q⟩

variable {o e value : Expr} {f y : Str} {pos pos' yp apos : Pos} {ta tv : TE} {es : List Expr} {t : TA}
/-- e.f, e an exception with a dict -/
def tXFld (K : Frag) (ta : TE) (f : Str) : TE := fun σ H Q => ta σ H fun x H1 => ∃ a C d fs v, x = .ref a ∧ H1 a = some (.ext (XAt a C (some d))) ∧ H1 d = some (.xd fs) ∧ XFacts K C ∧ findIn K (.ref C) f = some none ∧ fs.lookup f = some v ∧ Q v H1
/-- e.f = value, e an exception without a dict -/
def sXFld (K : Frag) (ta tv : TE) (f : Str) : TS := fun D σ H => tv σ H fun y H1 => ta σ H1 fun x H2 => ∃ a C, x = .ref a ∧ H2 a = some (.ext (XAt a C none)) ∧ XFacts K C ∧ takerIn K C f = some none ∧
  ∀ d, H2 d = none → d ≠ a → D.nx σ (upd (upd H2 d (.xd [(f, y)])) a (.ext (XAt a C (some d))))
end
end L2

namespace L2
open PySem PySem.Spec PyProof.Rows PySem.W Builtin Builtin.ObjectAttr
section
variable {X : Cx}
def rNeL (K : Frag) : R2 := fun x y H Q => ∃ (a b : Addr) (ns ms : List Int), x = .ref a ∧ y = .ref b ∧ SqL K H a (ns.map V.int) ∧ SqL K H b (ms.map V.int) ∧ Q (.bl (!decide (ns = ms))) H
theorem op_neL (hu : X.A.units + 64 < cLine) : OpR X (compareOp .NotEq) (rNeL X.K) := by
  intro pins s σ H x y v u Q I rx ry h
  obtain ⟨a, b, ns, ms, rfl, rfl, ha, hb, q⟩ := h
  cases rx
  cases ry
  obtain ⟨its, r1, p1, _⟩ := I.list ha
  obtain ⟨its2, r2, p2, _⟩ := I.list hb
  exact ne_intsK p1.isList (intsAre_of r1) p2.isList (intsAre_of r2) hu ⟨.bl _, H, I, rfl, q⟩

variable {e : Expr} {es : List Expr} {t : TA} {y : Str} {yp apos pos : Pos}
/-- B.__init__(self, ..), B an exception class of the text above self's without an own __init__ -/
def tBaseInit (K : Frag) (t : TA) : TE := fun σ H Q => t σ H fun vs H1 => ∃ a C r rest, vs = .ref a :: rest ∧ rest.length ≤ sizeLine ∧ H1 a = some (.ext (XAt a C none)) ∧ xclsIn K C veM "ValueError.__new__" r = true ∧ Q .non H1
/-! ### f-strings of ints -/
abbrev TJ := Str → TE
def PJ (X : Cx) (es : List Expr) (t : TJ) : Prop :=
  ∀ (out : Str) (pins : List (Addr × Obj)) (s : Shared) (σ : St) (H : Hp) (Q : VK), Inv X pins σ H s → t out σ H Q → wpAny (model X.prog X.w) X.A (joinParts out (evalEach es X.env)) (EP X pins σ Q) X.xe s
def jNil : TJ := fun out _ H Q => out.length ≤ sizeLine ∧ Q (.str out) H
def jStr (x : Str) (t : TJ) : TJ := fun out σ H Q => (out ++ x).length ≤ sizeLine ∧ t (out ++ x) σ H Q
def jInt (te : TE) (t : TJ) : TJ := fun out σ H Q => te σ H fun v H1 => ∃ i, v = .int i ∧ i.natAbs.log2 < 1920 ∧ (out ++ toString i).length ≤ sizeLine ∧ t (out ++ toString i) σ H1 Q
end
end L2

namespace L2
open PySem PySem.Spec PyProof.Rows
theorem new_same {H : Hp} {a : Addr} {o : HO} (h : H a = none) : Same H (upd H a o) := fun b u e => by rw [upd_ne (ne_of_none e h)]; exact e
theorem Same.tup {K : PySem.W.Frag} {H H' : Hp} {a : Addr} {xs : List V} (e : Same H H') (h : SqT K H a xs) : SqT K H' a xs := by
  rcases h with (h | ⟨o, h⟩) | h
  · exact .inl (.inl (e _ _ h))
  · exact .inl (.inr ⟨o, e _ _ h⟩)
  · exact .inr h
/-- all stays but the list at a -/
def Mv (a : Addr) (H H' : Hp) : Prop := ∀ p o, p ≠ a → H p = some o → H' p = some o
theorem Mv.refl (a : Addr) (H : Hp) : Mv a H H := fun _ _ _ h => h
theorem Mv.trans {a : Addr} {H H1 H2 : Hp} (x : Mv a H H1) (y : Mv a H1 H2) : Mv a H H2 := fun p o n h => y p o n (x p o n h)
theorem Mv.of {a : Addr} {H H1 : Hp} (x : Same H H1) : Mv a H H1 := fun p o _ h => x p o h
theorem Mv.upd (a : Addr) (H : Hp) (o : HO) : Mv a H (upd H a o) := fun p u n h => by rw [upd_ne n]; exact h
theorem Mv.lst {K : PySem.W.Frag} {a b : Addr} {H H' : Hp} {xs : List V} (e : Mv a H H') (n : b ≠ a) (h : SqL K H b xs) : SqL K H' b xs := by
  rcases h with (h | ⟨o, h⟩) | h
  · exact .inl (.inl (e _ _ n h))
  · exact .inl (.inr ⟨o, e _ _ n h⟩)
  · exact .inr h
/-- a def of the text that is known by its promise -/
def Has (P : Program) (w : World) (K : PySem.W.Frag) (mg : Str → Option Value) (base : Heap) (k : Nat) (x : Str) (ps : List Str) (sp : Sp) : Prop :=
  ∃ f fd, mg x = some (.ref f) ∧ PySem.W.keepIn K (.ref f) = true ∧ Binds K fd ps [] ∧ FnOk P w K mg base CX0 k f fd ps sp
theorem pe_has {X : Cx} {k : Nat} {ps : List Str} {sp : Sp} {x : Str} {p pos : Pos} {e : Expr} {es : List Expr} {t : TA} (h : Has X.prog X.w X.K X.mg X.base k x ps sp) (hr : Room k X.A) (hg : Gl X x)
    (ha : PA X (e :: es) t) (hdb : (x == ("__debug__" : Str)) = false := by decide) (he : starEach (e :: es) X.env = (false, eval e X.env) :: starEach es X.env := by rfl) (hpl : (backTo pos (starEach es X.env)).any (·.1) = false := by rfl) :
    PE X (.Call (.Name x p) (e :: es) [] pos) (tCall sp [] E0 t) := by
  obtain ⟨f, fd, h1, h2, h3, h4⟩ := h
  exact pe_call h4 hr hg h1 h2 h3 .nil pass0 ha hdb he hpl
end L2

namespace L2
open PySem PySem.Spec PyProof.Rows
/-! ### an exception on its way: just it, its trail and the frames' slots change -/
/-- an exception of the class C with the trail T -/
def OnWay (h : Heap) (e C T : Addr) (dd : Option Addr) : Prop :=
  ∃ (t0 : Addr) (v2 v3 v4 v5 : Value) (sl : Array (Option Value)) (oT : Obj) (ts : Array Value), h.get? e = some ⟨.ref C, dd, .fields #[.ref t0, .ref T, v2, v3, v4, v5], sl⟩ ∧ T ≠ e ∧ h.get? T = some oT ∧ oT.data = .fields ts ∧ ts[3]? = some .none
/-- all stays but e, T and the frames' slots -/
structure Way (fs : List Addr) (e T : Addr) (h h' : Heap) : Prop where
  keep : ∀ b o, b ≠ e → b ≠ T → b ∉ fs → h.get? b = some o → h'.get? b = some o
  slot : ∀ b o, b ≠ e → b ≠ T → h.get? b = some o → ∃ sl, h'.get? b = some { o with slots := sl }
section
variable {M : Model} {A : Around} {E : Value → Shared → Prop} {s : Shared}
theorem entry_new {base : Heap} {env : Env} {outer : List Env} {L e C t0 T0 : Addr} {dd : Option Addr} {w1 v2 v3 v4 v5 : Value} {sl0 : Array (Option Value)} {head : Value} {hadNext : Bool} {Q : Unit → Shared → Prop}
    (hfr : A.frames = some (env :: outer)) (hl : s.heap.FunFrames base (env :: outer)) (hf : env.frame = some L) (he : s.heap.get? e = some ⟨.ref C, dd, .fields #[.ref t0, w1, v2, v3, v4, v5], sl0⟩)
    (q : ∀ h' T, s.heap.get? T = none → Way (frs (env :: outer)) e T s.heap h' → OnWay h' e C T dd → Q () { s with heap := h' }) :
    wpAny M A (do let a ← frameOf env; let pl ← entryPlaceOf L hadNext; let b ← EntryCells.newEntry head a .none (rawInt L) .none pl; setField (.ref e) 1 b) (fun _ s' => wpAny M A (setFlight (.ref e) none) Q E s') E s := by
  have ene : e ∉ frs (env :: outer) := fun hm => by
    obtain ⟨_, o, ho, hnf⟩ := hl.mem hm
    rw [he] at ho
    cases ho
    exact hnf _ rfl
  refine wpAny_bind (wpAny_frameOf_fun hfr hl hf fun h1 hs1 => wpAny_bind (wpAny_entryPlaceOf fun pl hpl => ?_))
  unfold EntryCells.newEntry newFields
  refine wpAny_bind (wpAny_newObj_type ?_ (hpl.sizeOk5 _ _ _ _ _))
  have he1 : h1.get? e = some ⟨.ref C, dd, .fields #[.ref t0, w1, v2, v3, v4, v5], sl0⟩ := (hs1.2.1 e ene).trans he
  generalize hO : ({ cls := .type "traceback", dict := none, data := .fields ([head, .ref L, .none, rawInt L, .none] ++ (if pl.isEmpty then List.replicate 6 Value.none else pl)).toArray } : Obj) = oT
  have he2 := Heap.get?_push_of_some (h := h1) oT he1
  refine wpAny_setField he2 rfl (by show 1 < 6; decide) ?_
  have ne : h1.objs.size ≠ e := Nat.ne_of_gt (Heap.lt_size he1)
  have hdT : oT.data = .fields ([head, .ref L, .none, rawInt L, .none] ++ (if pl.isEmpty then List.replicate 6 Value.none else pl)).toArray := by rw [← hO]
  have fr : oT.isFreed = false := by rw [← hO]; rfl
  have he3 : ((h1.push oT).update e (Obj.mapFields (·.setIfInBounds 1 (Value.ref h1.objs.size)))).get? e = some ⟨.ref C, dd, .fields #[.ref t0, .ref h1.objs.size, v2, v3, v4, v5], sl0⟩ := Heap.get?_update_self _ he2 rfl
  have hT3 : ((h1.push oT).update e (Obj.mapFields (·.setIfInBounds 1 (Value.ref h1.objs.size)))).get? h1.objs.size = some oT := (Heap.get?_update_other _ _ (Ne.symm ne)).trans (Heap.get?_push_size h1 fr)
  unfold setFlight
  refine wpAny_bind (wpAny_field he3 rfl (x := .ref h1.objs.size) rfl ?_)
  rw [if_pos (show (Value.ref h1.objs.size != Value.none) = true by simp)]
  have sz : s.heap.objs.size = h1.objs.size := hs1.1.symm
  refine wpAny_setField hT3 hdT (by simp only [List.size_toArray, List.length_append, List.length_cons, List.length_nil] <;> omega) (q _ h1.objs.size ?_ ⟨fun b o b1 b2 b3 hb => ?_, fun b o b1 b2 hb => ?_⟩ ?_)
  · exact Heap.get?_none_of_le (Nat.le_of_eq sz)
  · have hb1 : h1.get? b = some o := (hs1.2.1 b b3).trans hb
    rw [Heap.get?_update_other _ _ (Ne.symm b2), Heap.get?_update_other _ _ (Ne.symm b1)]
    exact Heap.get?_push_of_some _ hb1
  · obtain ⟨sl, hb1⟩ := hs1.2.2 b o hb
    refine ⟨sl, ?_⟩
    rw [Heap.get?_update_other _ _ (Ne.symm b2), Heap.get?_update_other _ _ (Ne.symm b1)]
    exact Heap.get?_push_of_some _ hb1
  · have dt := Obj.data_mapFields hdT (·.setIfInBounds 3 ((none : Option Addr).elim Value.none fun f => rawInt f))
    refine ⟨t0, v2, v3, v4, v5, sl0, _, _, ?_, ne, Heap.get?_update_self _ hT3 (Obj.isFreed_of_fields dt), dt, ?_⟩
    · rw [Heap.get?_update_other _ _ ne]
      exact he3
    · first | (simp; done) | (rcases hpl with rfl | ⟨_, _, _, _, _, _, _, rfl⟩ <;> simp)
/-- a new exception leaves its frame -/
theorem leave_new {base : Heap} {env : Env} {outer : List Env} {L e C t0 : Addr} {dd : Option Addr} {v2 v3 v4 v5 : Value} {sl0 : Array (Option Value)} {Q : Unit → Shared → Prop}
    (hfr : A.frames = some (env :: outer)) (hl : s.heap.FunFrames base (env :: outer)) (hf : env.frame = some L) (he : s.heap.get? e = some ⟨.ref C, dd, .fields #[.ref t0, .none, v2, v3, v4, v5], sl0⟩)
    (q : ∀ h' T, s.heap.get? T = none → Way (frs (env :: outer)) e T s.heap h' → OnWay h' e C T dd → Q () { s with heap := h' }) : wpAny M A (leaving env (.ref e)) Q E s := by
  unfold leaving noteFrame
  simp only [hf]
  refine wpAny_bind (wpAny_bind (wpAny_field he rfl (x := .none) rfl ?_))
  rw [if_neg (show ¬ ((Value.none != Value.none) = true) by decide)]
  exact entry_new (T0 := e) hfr hl hf he q
/-- an exception leaves one more -/
theorem leave_on {base : Heap} {env : Env} {outer : List Env} {L e C T : Addr} {dd : Option Addr} {Q : Unit → Shared → Prop}
    (hfr : A.frames = some (env :: outer)) (hl : s.heap.FunFrames base (env :: outer)) (hf : env.frame = some L) (ho : OnWay s.heap e C T dd)
    (q : ∀ h' T2, s.heap.get? T2 = none → (∀ b o, b ≠ e → b ≠ T → b ≠ T2 → b ∉ frs (env :: outer) → s.heap.get? b = some o → h'.get? b = some o) → (∀ b o, b ≠ e → b ≠ T → b ≠ T2 → s.heap.get? b = some o → ∃ sl, h'.get? b = some { o with slots := sl }) → OnWay h' e C T2 dd → Q () { s with heap := h' }) : wpAny M A (leaving env (.ref e)) Q E s := by
  obtain ⟨t0, v2, v3, v4, v5, sl0, oT, ts, he, hTe, hT, hdT, h3⟩ := ho
  unfold leaving noteFrame
  simp only [hf]
  refine wpAny_bind (wpAny_bind (wpAny_field he rfl (x := .ref T) rfl ?_))
  rw [if_pos (show (Value.ref T != Value.none) = true by simp)]
  refine wpAny_bind (wpAny_field hT hdT h3 ?_)
  rw [if_neg (show ¬ ((Value.none == rawInt L) = true) by simp [rawInt])]
  refine wpAny_bind (wpAny_setField hT hdT (Array.getElem?_eq_some_iff.mp h3).1 ?_)
  have other : ∀ b, b ≠ T → (s.heap.update T (Obj.mapFields (·.setIfInBounds 3 Value.none))).get? b = s.heap.get? b := fun b hb => Heap.get?_update_other _ _ (Ne.symm hb)
  have noRec : ∀ b o, s.heap.get? b = some o → (∀ vs, o.data ≠ .fields vs) → b ≠ T := fun b o hb hnf z => by
    rw [z, hT] at hb
    cases hb
    exact hnf ts hdT
  refine entry_new (s := { s with heap := s.heap.update T (Obj.mapFields (·.setIfInBounds 3 Value.none)) }) (T0 := T) hfr (hl.of_keeps fun b o hb hnf => ⟨o, (other b (noRec b o hb hnf)).trans hb, rfl⟩) hf ((other e (Ne.symm hTe)).trans he) fun h' T2 n2 W O => ?_
  have n2' : s.heap.get? T2 = none := by
    cases c : s.heap.get? T2 with
    | none => rfl
    | some o =>
      exfalso
      by_cases z : T2 = T
      · subst z
        rw [Heap.get?_update_self _ hT (Obj.isFreed_of_fields (Obj.data_mapFields hdT _))] at n2
        cases n2
      · rw [show ({ s with heap := s.heap.update T (Obj.mapFields (·.setIfInBounds 3 Value.none)) } : Shared).heap.get? T2 = s.heap.get? T2 from other T2 z, c] at n2
        cases n2
  exact q h' T2 n2' (fun b o b1 b2 b3 b4 hb => W.keep b o b1 b3 b4 ((other b b2).trans hb)) (fun b o b1 b2 b3 hb => W.slot b o b1 b3 ((other b b2).trans hb)) O
end
end L2

namespace L2
open PySem PySem.Spec PyProof.Rows PySem.W
/-- how an exception lies behind a call: it stands at a, known by its class; else as behind a return -/
def CX1 (P : Program) (w : World) : CXT := fun outer H s E e s' =>
  ∃ a C T H', e = .ref a ∧ s'.os = s.os ∧ AllBare s'.gens ∧ Un (frs outer) [] H H' s.heap s'.heap ∧ HOk P w H' s'.heap ∧ OnWay s'.heap a C T none ∧ s.heap.get? T = none ∧ H' T = none ∧ s.heap.get? a = none ∧ H' a = some (.ext (XAt a C none)) ∧ E (.ref C) (some a) H'
theorem OnWay.xat {h : Heap} {e C T : Addr} {dd : Option Addr} (o : OnWay h e C T dd) : XAt e C dd h := by
  obtain ⟨t0, v2, v3, v4, v5, sl, _, _, he, _⟩ := o
  exact ⟨t0, _, v2, v3, v4, v5, sl, he⟩
/-- what is tracked stays so -/
theorem hok_way {P : Program} {w : World} {H : Hp} {h h' : Heap} {a C : Addr} {fs : List Addr} {N : Addr → Prop} (ok : HOk P w H h) (ha : H a = some (.ext (XAt a C none))) (hN : ∀ b, N b → H b = none) (hf : ∀ b ∈ fs, H b = none)
    (k : ∀ b o, b ≠ a → ¬ N b → b ∉ fs → h.get? b = some o → h'.get? b = some o) (x : XAt a C none h') : HOk P w H h' := fun b u e => by
  by_cases z : b = a
  · subst z
    rw [ha] at e
    cases e
    exact xat_ok x
  · have nn : ∀ c v, H c = some v → ¬ N c ∧ c ∉ fs := fun c v q => ⟨fun y => (by rw [hN c y] at q; cases q), fun y => (by rw [hf c y] at q; cases q)⟩
    refine (ok b u e).stay (fun c v hc r => k c v ?_ ?_ ?_ r) (fun c r => r) fun c xs r => r
    · rcases hc with y | y
      · rw [y]; exact z
      · intro q
        rw [q, ha] at y
        cases y
    · rcases hc with y | y
      · rw [y]; exact (nn b u e).1
      · exact (nn c _ y).1
    · rcases hc with y | y
      · rw [y]; exact (nn b u e).2
      · exact (nn c _ y).2
section
variable {CX : CXT} {P : Program} {w : World} {K : Frag} {mg : Str → Option Value} {base : Heap} {N : List Str} {qual : Str} {scope : Scope} {f : Addr} {cd : Value} {A : Around} {outer : List Env} {s0 : Shared} {H0 : Hp} {E : XK}
/-- what lies behind a frame that an exception has left -/
theorem left_cx {pins : List (Addr × Obj)} {σ : St} {H : Hp} {s : Shared} {a C T : Addr} {h' : Heap} {Nw : Addr → Prop} (I : Inv (cxOf CX P w K mg base N qual scope f cd A outer s0 H0 E) pins σ H s) (ha : H a = some (.ext (XAt a C none))) (na : s0.heap.get? a = none)
    (hN : ∀ b, Nw b → H b = none) (hN0 : ∀ b, Nw b → s0.heap.get? b = none) (hT : Nw T)
    (k : ∀ b o, b ≠ a → ¬ Nw b → b ∉ frs (envOfC qual scope s0.heap.objs.size f cd :: outer) → s.heap.get? b = some o → h'.get? b = some o) (sl : ∀ b o, b ≠ a → ¬ Nw b → s.heap.get? b = some o → ∃ sl, h'.get? b = some { o with slots := sl })
    (O : OnWay h' a C T none) (q : E (.ref C) (some a) H) : CX1 P w outer H0 s0 E (.ref a) { s with heap := h' } := by
  have B : Un (frs outer) [] H0 H s0.heap s.heap := I.base
  have old : ∀ b o, s0.heap.get? b = some o → b ≠ a ∧ ¬ Nw b := fun b o e => ⟨(fun z => by rw [z, na] at e; cases e), fun z => by rw [hN0 b z] at e; cases e⟩
  have notloc : ∀ b o, s0.heap.get? b = some o → b ∉ frs outer → b ∉ frs (envOfC qual scope s0.heap.objs.size f cd :: outer) := fun b o e nb z => by
    have z2 : b ∈ (envOfC qual scope s0.heap.objs.size f cd).frame.toList ++ frs outer := by
      have : frs (envOfC qual scope s0.heap.objs.size f cd :: outer) = s0.heap.objs.size :: frs outer := rfl
      rw [this] at z
      exact z
    rcases List.mem_append.mp z2 with y | y
    · have y : some s0.heap.objs.size = some b := by
        have y0 : (envOfC qual scope s0.heap.objs.size f cd).frame = some b := by simpa using y
        exact y0
      have y : s0.heap.objs.size = b := Option.some.inj y
      exact absurd (Heap.lt_size e) (by rw [← y]; exact Nat.lt_irrefl _)
    · exact nb y
  refine ⟨a, C, T, H, rfl, I.os, I.bare, ⟨fun b o e n nf nx => ?_, fun b o e n nf nx => ?_, fun b o e n nx => B.free b o e n nx, fun b o e nx => ?_, B.tups, B.frzs, B.tbls⟩, ?_, O, hN0 T hT, hN T hT, na, ha, q⟩
  · exact k b o (old b o e).1 (old b o e).2 (notloc b o e nf) (B.keep b o e n nf nx)
  · obtain ⟨sl1, e1⟩ := B.slot b o e n nf nx
    obtain ⟨sl2, e2⟩ := sl b _ (old b o e).1 (old b o e).2 e1
    exact ⟨sl2, e2⟩
  · obtain ⟨o1, e1⟩ := B.there b o e nx
    obtain ⟨sl2, e2⟩ := sl b _ (old b o e).1 (old b o e).2 e1
    exact ⟨_, e2⟩
  · exact hok_way I.hok ha hN (I.stkFree) (fun b o b1 b2 b3 e => k b o b1 b2 b3 e) O.xat
/-- a new exception of this body -/
theorem xe_new {pins : List (Addr × Obj)} {σ : St} {H : Hp} {s : Shared} {a C t0 : Addr} {v2 v3 v4 v5 : Value} {sl0 : Array (Option Value)} (I : Inv (cxOf (CX1 P w) P w K mg base N qual scope f cd A outer s0 H0 E) pins σ H s) (ha : H a = some (.ext (XAt a C none)))
    (he : s.heap.get? a = some ⟨.ref C, none, .fields #[.ref t0, .none, v2, v3, v4, v5], sl0⟩) (na : s0.heap.get? a = none) (q : E (.ref C) (some a) H) : (cxOf (CX1 P w) P w K mg base N qual scope f cd A outer s0 H0 E).xe (.ref a) s := by
  refine leave_new (base := base) (L := s0.heap.objs.size) I.ok.frames I.stack rfl he fun h' T nT W O => ?_
  have nT0 : s0.heap.get? T = none := by
    cases c : s0.heap.get? T with
    | none => rfl
    | some o =>
      obtain ⟨o1, e1⟩ := I.base.there T o c (by show T ∉ ([] : List Addr); simp)
      rw [e1] at nT
      cases nT
  exact left_cx (Nw := fun b => b = T) I ha na (fun b z => by rw [z]; exact I.free_of nT) (fun b z => by rw [z]; exact nT0) rfl (fun b o b1 b2 b3 e => W.keep b o b1 b2 b3 e) (fun b o b1 b2 e => W.slot b o b1 b2 e) O q
/-- a callee's exception goes on -/
theorem pass1 : Passes (CX1 P w) (cxOf (CX1 P w) P w K mg base N qual scope f cd A outer s0 H0 E) E := by
  intro pins σ H s e s' I h
  obtain ⟨a, C, T, H', rfl, os, bare, un, hok, O, nT, hT, na, ha, q⟩ := h
  have I' := I.call' (s' := s') (ch := []) os un hok bare fun b z => absurd z (by simp)
  have up : ∀ b, s.heap.get? b = none → s0.heap.get? b = none := fun b n => by
    cases c : s0.heap.get? b with
    | none => rfl
    | some o =>
      obtain ⟨o1, e1⟩ := I.base.there b o c (by show b ∉ ([] : List Addr); simp)
      rw [e1] at n
      cases n
  refine leave_on (base := base) (L := s0.heap.objs.size) I'.ok.frames I'.stack rfl O fun h' T2 n2 k sl O2 => ?_
  have nT2 : s0.heap.get? T2 = none := by
    cases c : s0.heap.get? T2 with
    | none => rfl
    | some o =>
      obtain ⟨o1, e1⟩ := I'.base.there T2 o c (by show T2 ∉ ([] : List Addr); simp)
      rw [e1] at n2
      cases n2
  refine left_cx (Nw := fun b => b = T ∨ b = T2) I' ha (up a na) (fun b z => ?_) (fun b z => ?_) (.inr rfl) (fun b o b1 b2 b3 e => k b o b1 (fun z => b2 (.inl z)) (fun z => b2 (.inr z)) b3 e) (fun b o b1 b2 e => sl b o b1 (fun z => b2 (.inl z)) (fun z => b2 (.inr z)) e) O2 q
  · rcases z with rfl | rfl
    · exact hT
    · exact I'.free_of n2
  · rcases z with rfl | rfl
    · exact up _ nT
    · exact nT2
end
end L2

namespace L2
open PySem PySem.Spec PyProof.Rows PySem.W
section
variable {P : Program} {w : World} {K : Frag} {mg : Str → Option Value} {base : Heap} {N : List Str} {qual : Str} {scope : Scope} {f : Addr} {cd : Value} {A : Around} {outer : List Env} {s0 : Shared} {H0 : Hp} {E : XK}
/-- raise C(..), in a def's body -/
def sRaise (C : Addr) (E : XK) (t : TA) : TS := fun _ σ H => t σ H fun vs H1 => vs.length ≤ sizeLine ∧ ∀ a, H1 a = none → E (.ref C) (some a) (upd H1 a (.ext (XAt a C none)))
theorem ps_raise {x : Str} {np cpos pos : Pos} {e : Expr} {es : List Expr} {t : TA} {C : Addr}
    (hc : xclsIn K C veM "ValueError.__new__" none = true) (hg : Gl (cxOf (CX1 P w) P w K mg base N qual scope f cd A outer s0 H0 E) x) (hm : mg x = some (.ref C))
    (ha : PA (cxOf (CX1 P w) P w K mg base N qual scope f cd A outer s0 H0 E) (e :: es) t) (hdb : (x == ("__debug__" : Str)) = false := by decide)
    (he : starEach (e :: es) (envOfC qual scope s0.heap.objs.size f cd) = (false, eval e (envOfC qual scope s0.heap.objs.size f cd)) :: starEach es (envOfC qual scope s0.heap.objs.size f cd) := by rfl)
    (hpl : (backTo cpos (starEach es (envOfC qual scope s0.heap.objs.size f cd))).any (·.1) = false := by rfl) :
    PS (cxOf (CX1 P w) P w K mg base N qual scope f cd A outer s0 H0 E) (.Raise (some (.Call (.Name x np) (e :: es) [] cpos)) none pos) (sRaise C E t) := by
  intro pins s σ H D I h
  obtain ⟨bm, N0, nm, qn, bs, hd, sn, sub, ab, col, dd, k0, k1, k2, k3, k5, mN, hC, hN, hni, T⟩ := (xcls_of I.ok.mod.kin hc).obj
  refine wpAny_Raise_call_subT (C := C) (nm := nm) (q := qn) (N := N0) (bs := bs) (bm := bm) (hdct := hd) (sn := sn) (sub := sub) (ab := ab) (col := col) (dd := dd) (k0 := k0) (k1 := k1) (k2 := k2) (k3 := k3) (k5 := k5)
    PySem.F.excBase_ValueError (mN := mN) (T.hasType (by decide)) (I.ok.hd rfl) (by show (backTo cpos (starEach (e :: es) (envOfC qual scope s0.heap.objs.size f cd))).any (·.1) = false; rw [he]; show (false || (backTo cpos (starEach es (envOfC qual scope s0.heap.objs.size f cd))).any (·.1)) = false; rw [hpl]; rfl) hni (ld_glob I hg hm ⟨rfl, ?_⟩ hdb)
  have go := ha cpos pins s σ H _ I h
  show wpAny (model P w) _ (evalArgs (.ref C) true (backTo cpos (starEach (e :: es) (envOfC qual scope s0.heap.objs.size f cd))) []) _ _ _
  have go' : wpAny (model P w) _ (spliced (backTo cpos (starEach (e :: es) (envOfC qual scope s0.heap.objs.size f cd)))) _ _ _ := go
  rw [he] at go' ⊢
  refine Calls.evalArgs_plain (thn go' fun us s1 ⟨vs, H1, I1, r, hz, q⟩ => ?_)
  have kp : ∀ b o, base.get? b = some o → s1.heap.get? b = some o := I1.bk
  refine ⟨rfl, by rw [← r.length]; exact hz, kp _ _ hC, hN.keeps kp, T.keeps kp, fun h' a M => ?_⟩
  obtain ⟨hp, g, dr, tk, os⟩ := s1
  obtain ⟨keeps, new, t0, hx, _, _⟩ := M
  have I2 := I1.laidN (a := a) (o := .ext (XAt a C none)) (t' := tk) keeps new (xat_ok ⟨_, _, _, _, _, _, _, hx⟩)
  have na : s0.heap.get? a = none := by
    cases c : s0.heap.get? a with
    | none => rfl
    | some o =>
      obtain ⟨o1, e1⟩ := I1.base.there a o c (by show a ∉ ([] : List Addr); simp)
      rw [e1] at new
      cases new
  exact xe_new I2 (upd_same) hx na (q a (I1.free_of new))
end
end L2

namespace L2
open PySem PySem.Spec PyProof.Rows PySem.W
section
variable {M : Model} {A : Around} {E : Value → Shared → Prop} {s : Shared}
/-- an exception on its way comes to a try -/
theorem note_on {base : Heap} {env : Env} {outer : List Env} {L e C T : Addr} {dd : Option Addr} {Q : Unit → Shared → Prop}
    (hfr : A.frames = some (env :: outer)) (hl : s.heap.FunFrames base (env :: outer)) (hf : env.frame = some L) (ho : OnWay s.heap e C T dd)
    (q : ∀ h' T2, s.heap.get? T2 = none → (∀ b o, b ≠ e → b ≠ T → b ≠ T2 → b ∉ frs (env :: outer) → s.heap.get? b = some o → h'.get? b = some o) → (∀ b o, b ≠ e → b ≠ T → b ≠ T2 → s.heap.get? b = some o → ∃ sl, h'.get? b = some { o with slots := sl }) → OnWay h' e C T2 dd → Q () { s with heap := h' }) : wpAny M A (noteFrame (.ref e) env) (fun _ s' => wpAny M A (setFlight (.ref e) none) Q E s') E s := by
  obtain ⟨t0, v2, v3, v4, v5, sl0, oT, ts, he, hTe, hT, hdT, h3⟩ := ho
  unfold noteFrame
  simp only [hf]
  refine wpAny_bind (wpAny_field he rfl (x := .ref T) rfl ?_)
  rw [if_pos (show (Value.ref T != Value.none) = true by simp)]
  refine wpAny_bind (wpAny_field hT hdT h3 ?_)
  rw [if_neg (show ¬ ((Value.none == rawInt L) = true) by simp [rawInt])]
  refine wpAny_bind (wpAny_setField hT hdT (Array.getElem?_eq_some_iff.mp h3).1 ?_)
  have other : ∀ b, b ≠ T → (s.heap.update T (Obj.mapFields (·.setIfInBounds 3 Value.none))).get? b = s.heap.get? b := fun b hb => Heap.get?_update_other _ _ (Ne.symm hb)
  have noRec : ∀ b o, s.heap.get? b = some o → (∀ vs, o.data ≠ .fields vs) → b ≠ T := fun b o hb hnf z => by
    rw [z, hT] at hb
    cases hb
    exact hnf ts hdT
  refine entry_new (s := { s with heap := s.heap.update T (Obj.mapFields (·.setIfInBounds 3 Value.none)) }) (T0 := T) hfr (hl.of_keeps fun b o hb hnf => ⟨o, (other b (noRec b o hb hnf)).trans hb, rfl⟩) hf ((other e (Ne.symm hTe)).trans he) fun h' T2 n2 W O => ?_
  have n2' : s.heap.get? T2 = none := by
    cases c : s.heap.get? T2 with
    | none => rfl
    | some o =>
      exfalso
      by_cases z : T2 = T
      · subst z
        rw [Heap.get?_update_self _ hT (Obj.isFreed_of_fields (Obj.data_mapFields hdT _))] at n2
        cases n2
      · rw [show ({ s with heap := s.heap.update T (Obj.mapFields (·.setIfInBounds 3 Value.none)) } : Shared).heap.get? T2 = s.heap.get? T2 from other T2 z, c] at n2
        cases n2
  exact q h' T2 n2' (fun b o b1 b2 b3 b4 hb => W.keep b o b1 b3 b4 ((other b b2).trans hb)) (fun b o b1 b2 b3 hb => W.slot b o b1 b3 ((other b b2).trans hb)) O
end
section
variable {X : Cx} {pins : List (Addr × Obj)} {σ : St} {H : Hp} {s : Shared}
/-- an address that the state does not speak of -/
structure Mute (X : Cx) (pins : List (Addr × Obj)) (H : Hp) (b : Addr) : Prop where
  new : X.s₀.heap.get? b = none
  free : H b = none
  loc : b ≠ X.env.locals
  cell : ∀ x c, X.env.cells.lookup x = some c → c ≠ b
  pin : ∀ p ∈ X.pn ++ pins, p.1 ≠ b
theorem Inv.mute (I : Inv X pins σ H s) (hx : X.ex = []) {b : Addr} (n : s.heap.get? b = none) : Mute X pins H b := by
  refine ⟨?_, I.free_of n, fun z => ?_, fun x c e z => ?_, fun p hp z => ?_⟩
  · cases c : X.s₀.heap.get? b with
    | none => rfl
    | some o =>
      obtain ⟨o1, e1⟩ := I.base.there b o c (by rw [hx]; simp)
      rw [e1] at n
      cases n
  · obtain ⟨m, ⟨o, _, _, ho, _⟩, _⟩ := I.loc
    rw [← z, n] at ho
    cases ho
  · obtain ⟨v, o, ho, _⟩ := I.cell x c e
    rw [z, n] at ho
    cases ho
  · have := (I.pin p hp).1
    rw [z, n] at this
    cases this
/-- just an exception, what nothing is known of, and frames' slots change -/
theorem Inv.way {a C : Addr} {h' : Heap} {Nw : Addr → Prop} (I : Inv X pins σ H s) (ha : H a = some (.ext (XAt a C none))) (na : X.s₀.heap.get? a = none) (hN : ∀ b, Nw b → Mute X pins H b)
    (k : ∀ b o, b ≠ a → ¬ Nw b → b ∉ frs X.stack → s.heap.get? b = some o → h'.get? b = some o) (sl : ∀ b o, b ≠ a → ¬ Nw b → s.heap.get? b = some o → ∃ sl, h'.get? b = some { o with slots := sl })
    (x : XAt a C none h') : Inv X pins σ H { s with heap := h' } := by
  have B := I.base
  have old : ∀ b o, X.s₀.heap.get? b = some o → b ≠ a ∧ ¬ Nw b := fun b o e => ⟨(fun z => by rw [z, na] at e; cases e), fun z => by rw [(hN b z).new] at e; cases e⟩
  have fre : ∀ b, H b = none → b ≠ a := fun b n z => by rw [z, ha] at n; cases n
  have notst : ∀ b, b ≠ X.env.locals → b ∉ X.fs → b ∉ frs X.stack := fun b n1 n2 z => by
    rcases List.mem_cons.mp (I.stkSub b z) with y | y
    · exact n1 y
    · exact n2 y
  have cells : ∀ y c v, X.env.cells.lookup y = some c → s.heap.IsCell c v → h'.IsCell c v := fun y c v e z => by
    obtain ⟨o, ho, hd⟩ := z
    obtain ⟨sl1, e1⟩ := sl c o (fre c (I.freeC y c e)) (fun z => (hN c z).cell y c e rfl) ho
    exact ⟨_, e1, hd⟩
  refine ⟨I.ok, I.os, I.bare, ⟨fun b o e n nf nx => ?_, fun b o e n nf nx => ?_, fun b o e n nx => B.free b o e n nx, fun b o e nx => ?_, B.tups, B.frzs, B.tbls⟩, ?_, fun y c e => ?_, I.free, I.freeC, fun p hp => ?_, ?_, I.len⟩
  · refine k b o (old b o e).1 (old b o e).2 (notst b (fun z => ?_) nf) (B.keep b o e n nf nx)
    exact absurd (Nat.lt_of_lt_of_le (Heap.lt_size e) I.ok.above) (by rw [z]; exact Nat.lt_irrefl _)
  · obtain ⟨sl1, e1⟩ := B.slot b o e n nf nx
    obtain ⟨sl2, e2⟩ := sl b _ (old b o e).1 (old b o e).2 e1
    exact ⟨sl2, e2⟩
  · obtain ⟨o1, e1⟩ := B.there b o e nx
    obtain ⟨sl2, e2⟩ := sl b _ (old b o e).1 (old b o e).2 e1
    exact ⟨_, e2⟩
  · obtain ⟨m, ⟨o, es, ep, ho, hd, hs, hf⟩, hl⟩ := I.loc
    obtain ⟨sl1, e1⟩ := sl X.env.locals o (fre _ I.free) (fun z => (hN _ z).loc rfl) ho
    refine ⟨m, ⟨_, es, ep, e1, hd, hs, hf⟩, fun i y v h1 h2 h3 => ?_⟩
    obtain ⟨u, r, q⟩ := hl i y v h1 h2 h3
    refine ⟨u, r, ?_⟩
    rcases q with q | ⟨kk, c, e, z⟩
    · exact .inl q
    · exact .inr ⟨kk, c, e, cells y c _ e z⟩
  · obtain ⟨v, z⟩ := I.cell y c e
    exact ⟨v, cells y c v e z⟩
  · obtain ⟨e, n, ne, nf, d⟩ := I.pin p hp
    exact ⟨k p.1 p.2 (fre _ n) (fun z => (hN _ z).pin p hp rfl) (notst _ ne nf) e, n, ne, nf, d⟩
  · exact hok_way I.hok ha (fun b z => (hN b z).free) I.stkFree (fun b o b1 b2 b3 e => k b o b1 b2 b3 e) x
end
/-- what a try wants of its body's exceptions -/
abbrev HD := St → Addr → Addr → Hp → Prop
/-- the context of a try's body: the pins of the try are everybody's there -/
def tryX (X : Cx) (pins : List (Addr × Obj)) (Hd : HD) : Cx := { X with pn := X.pn ++ pins, xe := fun e s' => ∃ a C T σ H, e = .ref a ∧ Inv X pins σ H s' ∧ OnWay s'.heap a C T none ∧ Mute X pins H T ∧ X.s₀.heap.get? a = none ∧ H a = some (.ext (XAt a C none)) ∧ Hd σ C a H }
section
variable {X : Cx} {pins : List (Addr × Obj)} {σ : St} {H : Hp} {s : Shared} {Hd : HD}
theorem Inv.toTry (I : Inv X pins σ H s) : Inv (tryX X pins Hd) [] σ H s :=
  ⟨⟨I.ok.mod, I.ok.kind, I.ok.glob, I.ok.blt, I.ok.above, I.ok.inj, I.ok.has, I.ok.cab, I.ok.hd, I.ok.frames, I.ok.stk, I.ok.exf, I.ok.bs, I.ok.bsz, I.ok.noex, I.ok.exfs, I.ok.funs, I.ok.frf⟩, I.os, I.bare, I.base, I.loc, I.cell, I.free, I.freeC,
    fun p hp => I.pin p (by simpa [tryX] using hp), I.hok, I.len⟩
theorem Inv.ofTry {ps2 : List (Addr × Obj)} (I : Inv (tryX X pins Hd) ps2 σ H s) : Inv X pins σ H s :=
  ⟨⟨I.ok.mod, I.ok.kind, I.ok.glob, I.ok.blt, I.ok.above, I.ok.inj, I.ok.has, I.ok.cab, I.ok.hd, I.ok.frames, I.ok.stk, I.ok.exf, I.ok.bs, I.ok.bsz, I.ok.noex, I.ok.exfs, I.ok.funs, I.ok.frf⟩, I.os, I.bare, I.base, I.loc, I.cell, I.free, I.freeC,
    fun p hp => I.pin p (List.mem_append.mpr (.inl hp)), I.hok, I.len⟩
/-- what a callee raises, in a try's body -/
theorem passT {ps2 : List (Addr × Obj)} {e : Value} {s' : Shared} (hx : X.ex = []) (I : Inv (tryX X pins Hd) ps2 σ H s) (h : CX1 X.prog X.w X.stack H s (fun c o H' => ∃ C a, c = .ref C ∧ o = some a ∧ Hd σ C a H') e s') : (tryX X pins Hd).xe e s' := by
  obtain ⟨a, C, T, H', rfl, os, bare, un, hok, O, nT, hT, na, ha, C', a', ec, eo, q⟩ := h
  cases ec
  cases eo
  have J := I.ofTry
  have J' := J.call' (s' := s') (ch := []) os un hok bare fun b z => absurd z (by simp)
  have mT := J.mute hx nT
  exact ⟨a, C, T, σ, H', rfl, J', O, ⟨mT.new, hT, mT.loc, mT.cell, mT.pin⟩, (J.mute hx na).new, ha, q⟩
end
end L2

namespace L2
open PySem PySem.Spec PyProof.Rows PySem.W
/-- the context of an except suite: nothing may leave it by an exception -/
def hdX (X : Cx) (a : Addr) : Cx := { X with A := X.A.mark (some (.ref a)), calm := false, xe := fun _ _ => False }
section
variable {X : Cx} {pins : List (Addr × Obj)} {σ : St} {H : Hp} {s : Shared} {a : Addr}
theorem Inv.toHd (I : Inv X pins σ H s) : Inv (hdX X a) pins σ H s :=
  ⟨⟨I.ok.mod, I.ok.kind, I.ok.glob, I.ok.blt, I.ok.above, I.ok.inj, I.ok.has, I.ok.cab, fun z => (by cases z), I.ok.frames, I.ok.stk, I.ok.exf, I.ok.bs, I.ok.bsz, I.ok.noex, I.ok.exfs, I.ok.funs, I.ok.frf⟩, I.os, I.bare, I.base, I.loc, I.cell, I.free, I.freeC, I.pin, I.hok, I.len⟩
theorem Inv.ofHd (ok : X.Ok) (I : Inv (hdX X a) pins σ H s) : Inv X pins σ H s :=
  ⟨ok, I.os, I.bare, I.base, I.loc, I.cell, I.free, I.freeC, I.pin, I.hok, I.len⟩
/-- the name goes behind the suite -/
theorem goes_ok {M : Model} {A : Around} {E : Value → Shared → Prop} {i : Nat} {n : Str} {pos : Pos} {Q : Unit → Shared → Prop} (I : Inv X pins σ H s) (hN : X.N.Nodup) (hi : X.N[i]? = some n) (hk : X.env.scope.names.lookup n = some .local)
    (h : ∀ s', Inv X pins (σ.set i none) H s' → Q () s') : wpAny M A (do bindName X.env n .none; unbindBehindTheSuite X.env n pos) Q E s := by
  have hcls : (X.env.scope.kind == .class || (X.env.scope.kind == .module && X.env.locals != X.env.globals)) = false := by rw [I.ok.kind]; rfl
  have hl : X.env.kindOf n = some .local := hk
  refine wpAny_bind (wpAny_bindName (store_ok (v := .non) I hN hi (.inl hk) rfl (fun s1 I1 => ?_) (.inr hk)))
  obtain ⟨m, hn, hlk⟩ := id I1.loc
  have hiσ : i < σ.length := by rw [I.len]; exact (List.getElem?_eq_some_iff.mp hi).1
  unfold unbindBehindTheSuite
  refine wpAny_onRaise ?_
  obtain ⟨u, ru, lu⟩ := hlk i n .non hi (by rw [List.getElem?_set_self hiσ]) (.inl hk)
  have hv : m n = some u := by
    rcases lu with ⟨_, e⟩ | ⟨z | z, _⟩
    · exact e
    · rw [hl] at z; cases z
    · rw [hl] at z; cases z
  refine wpAny_unbindName_local hl hn hv hcls fun h' u' hn' hs => h _ ?_
  obtain ⟨oL, _, _, hoL, _⟩ := id hn
  refine ⟨I1.ok, I1.os, I1.bare, ⟨fun b o e n hb hx => ?_, fun b o e n hb hx => ?_, I1.base.free, fun b o e hx => ?_, I1.base.tups, I1.base.frzs, I1.base.tbls⟩, ⟨_, hn', fun j y v' e1 e2 e3 => ?_⟩, fun y c e => ?_, I1.free, I1.freeC, fun p hp => ?_, ?_, by simpa using I.len⟩
  · exact (hs.2 b (Nat.ne_of_lt (Nat.lt_of_lt_of_le (Heap.lt_size e) I1.ok.above))).trans (I1.base.keep b o e n hb hx)
  · obtain ⟨sl, e1⟩ := I1.base.slot b o e n hb hx
    exact ⟨sl, (hs.2 b (Nat.ne_of_lt (Nat.lt_of_lt_of_le (Heap.lt_size e) I1.ok.above))).trans e1⟩
  · obtain ⟨o', e1⟩ := I1.base.there b o e hx
    exact ⟨o', (hs.2 b (Nat.ne_of_lt (Nat.lt_of_lt_of_le (Heap.lt_size e) I1.ok.above))).trans e1⟩
  · by_cases hj : j = i
    · subst hj
      rw [List.getElem?_set_self hiσ] at e2
      cases e2
    · rw [List.getElem?_set_ne (Ne.symm hj)] at e2
      obtain ⟨u', r', q⟩ := hlk j y v' e1 (by rw [List.getElem?_set_ne (Ne.symm hj)]; exact e2) e3
      refine ⟨u', r', ?_⟩
      rcases q with ⟨k, e⟩ | ⟨k, c, e, z⟩
      · refine .inl ⟨k, ?_⟩
        have : y ≠ n := fun e => hj (nodup_ix hN e1 (e ▸ hi))
        simp [this, e]
      · exact .inr ⟨k, c, e, z.sameBut hs (I1.cne y c e)⟩
  · obtain ⟨w', z⟩ := I1.cell y c e
    exact ⟨w', z.sameBut hs (I1.cne y c e)⟩
  · obtain ⟨e, n, ne, nf, d⟩ := I1.pin p hp
    exact ⟨(hs.2 p.1 ne).trans e, n, ne, nf, d⟩
  · intro b ob e
    refine (I1.hok b ob e).stay (fun c w' hc q => (hs.2 c ?_).trans q) (fun _ q => q) fun _ _ q => q
    rintro rfl
    rcases hc with hc | hc
    · rw [← hc, I1.free] at e; cases e
    · rw [I1.free] at hc; cases hc
end
end L2

namespace L2
open PySem PySem.Spec PyProof.Rows PySem.W
/-- behind the suite its name is gone -/
def gone (i : Nat) (D : Ends) : Ends := ⟨fun σ H => D.nx (σ.set i none) H, D.rt, fun σ H => D.bk (σ.set i none) H, fun σ H => D.ct (σ.set i none) H⟩
/-- try: .. except B as n: .. -/
def sTry (K : Frag) (B : Addr) (i : Nat) (tb : List (Addr × Obj) → HD → TS) (th : Addr → TS) : TS := fun D σ H => ∀ pins, tb pins (fun σ1 C a H1 => exmOne K (.ref C) (.ref B) = some true ∧ th a (gone i D) (σ1.set i (some (.ref a))) H1) D σ H
section
variable {X : Cx} {x n : Str} {np hpos pos : Pos} {B : Addr} {i : Nat} {body suite : List Stmt} {b₀ : Stmt} {tb : List (Addr × Obj) → HD → TS} {th : Addr → TS}
theorem ps_try (hx : X.ex = []) (hst : X.stack = X.env :: X.outer) (hfr : X.env.frame = some X.env.locals) (hg : Gl X x) (hm : X.mg x = some (.ref B)) (hN : X.N.Nodup) (hi : X.N[i]? = some n) (hk : X.env.scope.names.lookup n = some .local)
    (hb : ∀ pins Hd, PSs (tryX X pins Hd) body (tb pins Hd)) (hh : ∀ a, PSs (hdX X a) (b₀ :: suite) (th a)) (hdb : (x == ("__debug__" : Str)) = false := by decide) :
    PS X (.Try body [.ExceptHandler (some (.Name x np)) (some n) (b₀ :: suite) hpos] [] [] pos) (sTry X.K B i tb th) := by
  intro pins s σ H D I h
  refine wpAny_Try_except (wpAny_mono (hb pins _ [] s σ H D I.toTry (h pins)) (fun f s1 h1 => ?_) fun e s1 h1 => ?_)
  · cases f with
    | next =>
      obtain ⟨σ', H', J, q⟩ := h1
      exact wpAny_execs_nil ⟨σ', H', J.ofTry, q⟩
    | brk =>
      obtain ⟨σ', H', J, q⟩ := h1
      exact ⟨σ', H', J.ofTry, q⟩
    | cont =>
      obtain ⟨σ', H', J, q⟩ := h1
      exact ⟨σ', H', J.ofTry, q⟩
    | ret u =>
      obtain ⟨v, σ', H', J, r, q⟩ := h1
      exact ⟨v, σ', H', J.ofTry, r, q⟩
  · obtain ⟨a, C, T, σ1, H1, rfl, J, O, mT, na, ha, hxm, q⟩ := h1
    refine note_on (base := X.base) (L := X.env.locals) (by rw [← hst]; exact J.ok.frames) (by rw [← hst]; exact J.stack) hfr O fun h' T2 n2 k sl O2 => ?_
    have m2 := J.mute hx n2
    have J2 : Inv X pins σ1 H1 { s1 with heap := h' } := J.way (Nw := fun b => b = T ∨ b = T2) ha na (fun b z => by rcases z with rfl | rfl; exact mT; exact m2)
      (fun b o b1 b2 b3 e => k b o b1 (fun z => b2 (.inl z)) (fun z => b2 (.inr z)) (by rw [← hst]; exact b3) e) (fun b o b1 b2 e => sl b o b1 (fun z => b2 (.inl z)) (fun z => b2 (.inr z)) e) O2.xat
    refine wpAny_handleBy_cons (codeAny_handlers_test ?_) (by intro z; cases z)
    refine ld_glob (X := hdX X a) J2.toHd hg hm ?_ hdb
    obtain ⟨t0, v2, v3, v4, v5, sl0, oT, ts, he, hTe, hT, hdT, h3⟩ := id O2
    have L : Looks (model X.prog X.w) h' (excMatches (.ref a) (.ref B)) true := exm_one J2.kIn ((Looks.ld he).andThen .now) hxm
    refine L.here ?_
    show codeAny _ _ _ _ _
    refine codeAny_handlers_suite_as ?_
    refine wpAny_setFlight_none he rfl (tb := T2) rfl hT hdT (Array.getElem?_eq_some_iff.mp h3).1 ?_
    have hup : ∀ b, b ≠ T2 → (h'.update T2 (Obj.mapFields (·.setIfInBounds 3 Value.none))).get? b = h'.get? b := fun b z => Heap.get?_update_other _ _ (Ne.symm z)
    have J3 : Inv X pins σ1 H1 { s1 with heap := h'.update T2 (Obj.mapFields (·.setIfInBounds 3 Value.none)) } := J2.way (s := { s1 with heap := h' }) (Nw := fun b => b = T2) ha na (fun b z => by rw [z]; exact m2)
      (fun b o b1 b2 b3 e => (hup b b2).trans e) (fun b o b1 b2 e => ⟨o.slots, (hup b b2).trans e⟩) ⟨t0, _, v2, v3, v4, v5, sl0, (hup a (Ne.symm hTe)).trans he⟩
    refine store_ok (X := hdX X a) (v := .ref a) J3.toHd hN hi (.inl hk) rfl (fun s4 J4 => ?_) (.inr hk)
    refine wpAny_mono (hh a pins s4 _ H1 (gone i D) J4 q) (fun f s5 h5 => ?_) fun _ _ z => z.elim
    cases f with
    | next =>
      obtain ⟨σ', H', J5, q5⟩ := h5
      exact goes_ok (J5.ofHd I.ok) hN hi hk fun s6 J6 => ⟨_, H', J6, q5⟩
    | brk =>
      obtain ⟨σ', H', J5, q5⟩ := h5
      exact goes_ok (J5.ofHd I.ok) hN hi hk fun s6 J6 => ⟨_, H', J6, q5⟩
    | cont =>
      obtain ⟨σ', H', J5, q5⟩ := h5
      exact goes_ok (J5.ofHd I.ok) hN hi hk fun s6 J6 => ⟨_, H', J6, q5⟩
    | ret u =>
      obtain ⟨v, σ', H', J5, r5, q5⟩ := h5
      exact goes_ok (J5.ofHd I.ok) hN hi hk fun s6 J6 => ⟨v, _, H', J6, r5, q5⟩
end
section
variable {X0 : Cx} {pins0 : List (Addr × Obj)} {Hd : HD} {k : Nat} {f : Addr} {fd : FuncData} {ps : List Str} {sp : Sp} {dvs : List V} {ds : List Value} {x : Str} {p pos : Pos} {e : Expr} {es : List Expr} {t : TA}
/-- a call in a try's body -/
def tCallT (sp : Sp) (dvs : List V) (Hd : HD) (t : TA) : TE := fun σ H Q => t σ H fun vs H1 => sp (vs ++ dvs) H1 Q (fun c o H' => ∃ C a, c = .ref C ∧ o = some a ∧ Hd σ C a H')
theorem pe_callT (hex : X0.ex = []) (F : FnOk X0.prog X0.w X0.K X0.mg X0.base (CX1 X0.prog X0.w) k f fd ps sp) (hr : Room k X0.A) (hg : Gl X0 x) (hm : X0.mg x = some (.ref f)) (hk : PySem.W.keepIn X0.K (.ref f) = true) (hb : Binds X0.K fd ps ds) (hd : Vals dvs ds)
    (ha : PA (tryX X0 pins0 Hd) (e :: es) t) (hdb : (x == ("__debug__" : Str)) = false := by decide) (he : starEach (e :: es) X0.env = (false, eval e X0.env) :: starEach es X0.env := by rfl) (hpl : (backTo pos (starEach es X0.env)).any (·.1) = false := by rfl) :
    PE (tryX X0 pins0 Hd) (.Call (.Name x p) (e :: es) [] pos) (tCallT sp dvs Hd t) := by
  intro pins s σ H Q I h
  refine wpAny_Call_Name_kw (ld_glob I hg hm ?_ hdb)
  refine PySem.W.callWith_K (h₀ := X0.base) I.ok.mod.kin hk (thn (ha pos pins s σ H _ I h) fun us s1 ⟨vs, H1, I1, r, q⟩ => ⟨I1.kIn, ?_⟩) he hpl
  have r2 : Vals (vs ++ dvs) (us ++ ds) := r.append hd
  have hl : (us ++ ds).length = ps.length := by rw [← r2.length]; exact F.len _ _ _ _ q
  refine wpAny_call (codeAny_mono (F.run X0.A X0.stack s1 H1 ⟨us, []⟩ (us ++ ds) (vs ++ dvs) Q _ hr I1.env0 (hb s1 us I1.kIn hl) r2 q) fun r s' hq => ?_)
  cases r with
  | error e => exact passT hex I1 hq
  | ok fl =>
    cases fl with
    | ret u => exact I1.after hq
    | next => exact False.elim hq
    | brk => exact False.elim hq
    | cont => exact False.elim hq
end
end L2

namespace L2
open PySem PySem.Spec PyProof.Rows PySem.W
section
variable {P : Program} {w : World} {K : PySem.W.Frag} {mg : Str → Option Value} {base : Heap}
/-- a def that may raise -/
theorem Fun.ok1 {x qual : Str} {st : Stmt} {f : Addr} {fd : FuncData} {N ps : List Str} {k : Nat} {sp : Sp} (F : Fun K x qual st f fd) (S : FnScope N ps (defScope st)) (len : ∀ vs H Q E, sp vs H Q E → vs.length = ps.length)
    (hbody : ∀ (cdv : Value) (A : Around) (outer : List Env) (s : Shared) (H : Hp) (vs : List V) (Q : VK) (E : XK), Room k (A.deeper (envOfC qual (defScope st) s.heap.objs.size f cdv)) → sp vs H Q E →
      ∃ t, PSs (cxOf (CX1 P w) P w K mg base N qual (defScope st) f cdv A outer s H E) (defBody st) t ∧ t { nx := fun _ H' => Q .non H', rt := Q } (start N vs) H) : FnOk P w K mg base (CX1 P w) (k + 1) f fd ps sp := by
  obtain ⟨oc, od, kV, doc, pm, an, cdv, ct, osl, rfl, lk, hcd⟩ := F.ex
  refine fn_of lk hcd S len fun A outer s H vs Q E hr hsp => ?_
  obtain ⟨t, h, q⟩ := hbody cdv A outer s H vs Q E hr hsp
  exact ⟨t, h, q⟩
/-- a def of the text that is known by its promise and may raise -/
def Has1 (P : Program) (w : World) (K : PySem.W.Frag) (mg : Str → Option Value) (base : Heap) (k : Nat) (x : Str) (ps : List Str) (sp : Sp) : Prop :=
  ∃ f fd, mg x = some (.ref f) ∧ PySem.W.keepIn K (.ref f) = true ∧ Binds K fd ps [] ∧ FnOk P w K mg base (CX1 P w) k f fd ps sp
/-- it is called in a def that may raise, too: what it raises goes on -/
theorem pe_has1 {N : List Str} {qual : Str} {scope : Scope} {f : Addr} {cd : Value} {A : Around} {outer : List Env} {s0 : Shared} {H0 : Hp} {E : XK} {k : Nat} {ps : List Str} {sp : Sp} {x : Str} {p pos : Pos} {e : Expr} {es : List Expr} {t : TA}
    (h : Has1 P w K mg base k x ps sp) (hr : Room k (A.deeper (envOfC qual scope s0.heap.objs.size f cd))) (hg : Gl (cxOf (CX1 P w) P w K mg base N qual scope f cd A outer s0 H0 E) x)
    (ha : PA (cxOf (CX1 P w) P w K mg base N qual scope f cd A outer s0 H0 E) (e :: es) t) (hdb : (x == ("__debug__" : Str)) = false := by decide)
    (he : starEach (e :: es) (envOfC qual scope s0.heap.objs.size f cd) = (false, eval e (envOfC qual scope s0.heap.objs.size f cd)) :: starEach es (envOfC qual scope s0.heap.objs.size f cd) := by rfl)
    (hpl : (backTo pos (starEach es (envOfC qual scope s0.heap.objs.size f cd))).any (·.1) = false := by rfl) :
    PE (cxOf (CX1 P w) P w K mg base N qual scope f cd A outer s0 H0 E) (.Call (.Name x p) (e :: es) [] pos) (tCall sp [] E t) := by
  obtain ⟨f, fd, h1, h2, h3, h4⟩ := h
  exact pe_call h4 hr hg h1 h2 h3 .nil pass1 ha hdb he hpl
end
/-- it is called in a try's body -/
theorem pe_hasT {X0 : Cx} {pins0 : List (Addr × Obj)} {Hd : HD} {k : Nat} {ps : List Str} {sp : Sp} {x : Str} {p pos : Pos} {e : Expr} {es : List Expr} {t : TA} (hex : X0.ex = []) (h : Has1 X0.prog X0.w X0.K X0.mg X0.base k x ps sp) (hr : Room k X0.A) (hg : Gl X0 x)
    (ha : PA (tryX X0 pins0 Hd) (e :: es) t) (hdb : (x == ("__debug__" : Str)) = false := by decide) (he : starEach (e :: es) X0.env = (false, eval e X0.env) :: starEach es X0.env := by rfl) (hpl : (backTo pos (starEach es X0.env)).any (·.1) = false := by rfl) :
    PE (tryX X0 pins0 Hd) (.Call (.Name x p) (e :: es) [] pos) (tCallT sp [] Hd t) := by
  obtain ⟨f, fd, h1, h2, h3, h4⟩ := h
  exact pe_callT hex h4 hr hg h1 h2 h3 .nil ha hdb he hpl
end L2

namespace L2
open PySem PySem.Spec PyProof.Rows PySem.W
/-- the def at f is known by its promise -/
def Kno (P : Program) (w : World) (K : PySem.W.Frag) (mg : Str → Option Value) (base : Heap) (k : Nat) (f : Addr) (sp : Sp) : Prop :=
  ∃ fd ps, PySem.W.keepIn K (.ref f) = true ∧ Binds K fd ps [] ∧ FnOk P w K mg base (CX1 P w) k f fd ps sp
section
variable {X0 : Cx} {pins0 : List (Addr × Obj)} {Hd : HD} {k : Nat} {fn : Expr} {tf : TE} {pos : Pos} {e : Expr} {es : List Expr} {t : TA}
/-- a call of a def that a value tells, in a try's body -/
def tCallV (X0 : Cx) (k : Nat) (Hd : HD) (tf : TE) (t : TA) : TE := fun σ H Q => tf σ H fun v H1 => ∃ f sp, v = .ref f ∧ Kno X0.prog X0.w X0.K X0.mg X0.base k f sp ∧ t σ H1 fun vs H2 => sp vs H2 Q (fun c o H' => ∃ C a, c = .ref C ∧ o = some a ∧ Hd σ C a H')
theorem pe_callV (hex : X0.ex = []) (hr : Room k X0.A) (hf : PE (tryX X0 pins0 Hd) fn tf) (ha : PA (tryX X0 pins0 Hd) (e :: es) t)
    (hcall : eval (.Call fn (e :: es) [] pos) X0.env = (do callWith pos (← eval fn X0.env) [] (backTo pos (starEach (e :: es) X0.env)) (backToKw pos (keywordEach [] X0.env))) := by rfl)
    (he : starEach (e :: es) X0.env = (false, eval e X0.env) :: starEach es X0.env := by rfl) (hpl : (backTo pos (starEach es X0.env)).any (·.1) = false := by rfl) :
    PE (tryX X0 pins0 Hd) (.Call fn (e :: es) [] pos) (tCallV X0 k Hd tf t) := by
  intro pins s σ H Q I h
  show wpAny _ _ (eval (.Call fn (e :: es) [] pos) X0.env) _ _ _
  rw [hcall]
  refine wpAny_bind (thn (hf pins s σ H _ I h) fun u s0 ⟨v, H1, I1, rv, f, sp, ev, ⟨fd, ps, hk, hb, F⟩, q⟩ => ?_)
  subst ev
  cases rv
  refine PySem.W.callWith_K (h₀ := X0.base) I1.ok.mod.kin hk (thn (ha pos pins s0 σ H1 _ I1 q) fun us s1 ⟨vs, H2, I2, r, q2⟩ => ⟨I2.kIn, ?_⟩) he hpl
  have hl : (us ++ []).length = ps.length := by rw [List.append_nil, ← r.length]; exact F.len _ _ _ _ q2
  have r2 : Vals vs (us ++ []) := by rw [List.append_nil]; exact r
  refine wpAny_call (codeAny_mono (F.run X0.A X0.stack s1 H2 ⟨us, []⟩ (us ++ []) vs Q _ hr I2.env0 (hb s1 us I2.kIn hl) r2 q2) fun r s' hq => ?_)
  cases r with
  | error e => exact passT hex I2 hq
  | ok fl =>
    cases fl with
    | ret u => exact I2.after hq
    | next => exact False.elim hq
    | brk => exact False.elim hq
    | cont => exact False.elim hq
end
end L2

namespace L2
open PySem PySem.Spec PyProof.Rows
/-- enumerate over the list at a: a new pair each time -/
def Ite (K : PySem.W.Frag) (a : Addr) : It :=
  ⟨fun i H => ∃ xs x, SqL K H a xs ∧ xs[i]? = some x, fun i H v H' => ∃ T, H T = none ∧ v = .ref T ∧ ∀ xs, SqL K H a xs → ∃ x, xs[i]? = some x ∧ H' = upd H T (.tup [.int i, x]), fun i H => ∃ xs, SqL K H a xs ∧ xs.length ≤ i⟩
theorem turn_enum {P : Program} {w : World} {K : PySem.W.Frag} {elts : List Expr} {x1 : Nat} {pos : Pos} (a e it : Addr) (hne : e ≠ it) :
    Turn P w K (.Tuple elts x1 pos) (Ite K a) [e, it] e (fun i h => (∃ old, IsEnum h e it i old) ∧ h.IsListIter it a i) where
  mem := by simp
  obj := fun i h st b hb => by
    obtain ⟨⟨old, he⟩, o, e1, c, d⟩ := st
    rcases List.mem_cons.mp hb with z | z
    · subst z
      exact ⟨_, he, fun v q => by cases q⟩
    · have z : b = it := by simpa using z
      subst z
      exact ⟨o, e1, fun v q => by rw [d] at q; cases q⟩
  keep := fun i h h' st k => by
    obtain ⟨⟨old, he⟩, li⟩ := st
    exact ⟨⟨old, k e (by simp) _ he⟩, li.at fun o q => k it (by simp) o q⟩
  item := by
    intro X hP hw hK hc i pins s σ H E I hf st hg
    subst hP hw hK
    obtain ⟨xs, x, hq, hx⟩ := hg
    obtain ⟨its, rv, p, hz⟩ := I.list hq
    obtain ⟨u, hu, ru⟩ := rv.get hx
    obtain ⟨⟨old, he⟩, hit⟩ := st
    have fe := hf e (by simp)
    have fi := hf it (by simp)
    refine wpAny_pyNext_enum_item he hit p.isList (x := u) (by simpa using hu) hne fun h1 heo hit1 ht1 hz1 hk1 => ⟨_, rfl, ?_⟩
    refine wpAny_letOwnedTupleGo_enum heo fun h2 he2 hs2 => ?_
    have elt : e < s.heap.objs.size := Heap.lt_size he
    have ht2 : h2.get? s.heap.objs.size = some { cls := .type "tuple", data := .seq #[.int i s.toks, u] } := (hs2.2 _ (Nat.ne_of_gt elt)).trans ht1
    have hfr : H s.heap.objs.size = none := I.hok.fresh (Nat.le_refl _)
    have k2 : ∀ b o, b ≠ e → b ≠ it → s.heap.get? b = some o → h2.get? b = some o := fun b o b1 b2 q => hs2.extBut b o b1 (hk1 b o b1 b2 q)
    have neT : ∀ b o, H b = some o → b ≠ s.heap.objs.size := fun b o q z => by rw [z, hfr] at q; cases q
    have neS : ∀ b o, s.heap.get? b = some o → b ≠ s.heap.objs.size := fun b o q => Nat.ne_of_lt (Heap.lt_size q)
    have nt : ∀ b o, H b = some o → b ≠ e ∧ b ≠ it := fun b o q => ⟨(fun z => by rw [z, fe.1] at q; cases q), (fun z => by rw [z, fi.1] at q; cases q)⟩
    have nin : ∀ b, b ∉ [e, it] → b ≠ e ∧ b ≠ it := fun b hb => ⟨fun z => hb (by simp [z]), fun z => hb (by simp [z])⟩
    have I2 : Inv X pins σ (upd H s.heap.objs.size (.tup [.int i, x])) { s with heap := h2, toks := s.toks + 1 } := by
      refine I.step (g' := s.gens) (d' := s.drawn) (ch := [e, it]) (fun b hb => ?_) (fun b o _ _ hc' q _ => k2 b o (nin b hc').1 (nin b hc').2 q) (fun b o _ _ hc' q _ => ⟨o.slots, k2 b o (nin b hc').1 (nin b hc').2 q⟩)
        (fun b o _ q n => by rw [upd_ne (neS b o q)]; exact n) (fun b o hc' q => ⟨o, k2 b o (nin b hc').1 (nin b hc').2 q⟩) (fun b ys q => by rw [upd_ne (neT b _ q)]; exact q) (fun b o v q => by rw [upd_ne (neT b _ q)]; exact q)
        (fun b ps q => ⟨#[], by rw [upd_ne (neT b _ q), q]; simp⟩) (fun m hm => ?_) (fun b o q => ?_) I.bare
      · rcases List.mem_cons.mp hb with z | z
        · subst z
          exact ⟨fe.2.2.2.1, fe.2.1, fe.2.2.2.2.1, fe.2.2.2.2.2⟩
        · have z : b = it := by simpa using z
          subst z
          exact ⟨fi.2.2.2.1, fi.2.1, fi.2.2.2.2.1, fi.2.2.2.2.2⟩
      · obtain ⟨o, es, ep, ho, r⟩ := hm
        exact ⟨o, es, ep, k2 _ o (Ne.symm fe.2.1) (Ne.symm fi.2.1) ho, r⟩
      · by_cases z : b = s.heap.objs.size
        · subst z
          rw [upd_same] at q
          cases q
          exact ⟨(by show 2 ≤ sizeLine; decide), [.int i s.toks, u], .cons ⟨_, rfl⟩ (.cons ru .nil), _, ht2, rfl, _, rfl⟩
        · rw [upd_ne z] at q
          refine (I.hok b o q).stay (fun c v hc' r => k2 c v ?_ ?_ r) (fun c r => by rw [upd_ne (neT c _ r)]; exact r) fun c ys r => by rw [upd_ne (neT c _ r)]; exact r
          · rcases hc' with y | y
            · rw [y]; exact (nt b o q).1
            · exact (nt c _ y).1
          · rcases hc' with y | y
            · rw [y]; exact (nt b o q).2
            · exact (nt c _ y).2
    refine ⟨.ref s.heap.objs.size, _, I2, rfl, ⟨s.heap.objs.size, hfr, rfl, fun ys hy => ⟨x, by rw [I.list_inj hy hq]; exact hx, rfl⟩⟩, ⟨⟨_, he2⟩, ?_⟩, fun b hb => ?_⟩
    · exact hit1.at fun o q => hs2.extBut it o (Ne.symm hne) q
    · rcases List.mem_cons.mp hb with z | z
      · subst z
        rw [upd_ne (Nat.ne_of_lt elt)]
        exact fe.1
      · have z : b = it := by simpa using z
        subst z
        obtain ⟨o, q, _⟩ := id hit
        rw [upd_ne (Nat.ne_of_lt (Heap.lt_size q))]
        exact fi.1
  done := by
    intro X hP hw hK hc i pins s σ H E I hf st hg
    subst hP hw hK
    obtain ⟨xs, hq, hx⟩ := hg
    obtain ⟨its, rv, p, hz⟩ := I.list hq
    obtain ⟨⟨old, he⟩, hit⟩ := st
    obtain ⟨f0, f1, f2, f3, f4, f5⟩ := hf it (by simp)
    have hl := rv.length
    exact wpAny_pyNext_enum_end (I.ok.hd hc) he hit p.isList (by simp; omega) fun h' eb => ⟨rfl, I.turned (t' := s.toks) (fun b o hb q => eb b o hb q) f0 f1 f3 f4 f5⟩
  self := fun _ _ _ _ _ st h => by
    obtain ⟨⟨old, he⟩, _⟩ := st
    exact wpAny_pyIter_enum he h
section
variable {X : Cx}
def iEnum (K : PySem.W.Frag) (ta : TA) : TI := fun σ H R => ta σ H fun vs H1 => ∃ a, vs = [.ref a] ∧ (∃ xs, SqL K H1 a xs) ∧ R (Ite K a) H1
theorem pi_enum {elts : List Expr} {x1 : Nat} {tp p pos : Pos} {e : Expr} {ta : TA} (hg : Gl X "enumerate") (hm : X.mg "enumerate" = none) (ha : PA X [e] ta) (hs : starEach [e] X.env = [(false, eval e X.env)] := by rfl) :
    PI X (.Tuple elts x1 tp) (.Call (.Name "enumerate" p) [e] [] pos) (iEnum X.K ta) := by
  intro pins s σ H R I h
  refine Call_ (ld_blt I hg hm boot_enumerate (PyProof.Rows.callWith_type1 (thn (ha pos pins s σ H _ I h) fun us s1 ⟨vs, H1, I1, r1, q1⟩ => ?_) hs rfl))
  obtain ⟨a, ev, ⟨xs, hq⟩, q⟩ := q1
  subst ev
  obtain ⟨u, rfl, ru⟩ := r1.one
  cases ru
  obtain ⟨its, rv, pl, hz⟩ := I1.list hq
  refine call_enumerate_list pl.isList fun h' he hit hsz hk => ?_
  refine wpAny_pyIter_enum he ?_
  have I2 : Inv X pins σ H1 { s1 with heap := h' } := I1.kept (t' := s1.toks) hk
  refine ⟨s1.heap.objs.size + 1, [s1.heap.objs.size + 1, s1.heap.objs.size], _, _, H1, rfl, I2, turn_enum a _ _ (Nat.succ_ne_self _), ⟨⟨_, he⟩, hit⟩, fun b hb => ?_, q⟩
  have hb : s1.heap.objs.size ≤ b := by
    rcases List.mem_cons.mp hb with z | z
    · rw [z]; exact Nat.le_succ _
    · have z : b = s1.heap.objs.size := by simpa using z
      rw [z]
      exact Nat.le_refl _
  exact I1.fpOk hb (I1.hok.fresh hb)
/-- over a list that the body leaves as it is -/
theorem for_enum {K : PySem.W.Frag} {a : Addr} {xs : List V} {g : TG} {tb : TS} {D : Ends} {σ : St} {H : Hp} (Pv : Nat → St → Hp → Prop) (h0 : Pv 0 σ H) (hl : ∀ i σ H, i ≤ xs.length → Pv i σ H → SqL K H a xs)
    (hs : ∀ (i : Nat) x σ H T, xs[i]? = some x → Pv i σ H → H T = none → g (.ref T) σ (upd H T (.tup [.int i, x])) fun σ2 H2 => tb { D with nx := Pv (i + 1), ct := Pv (i + 1), bk := D.nx } σ2 H2) (hd : ∀ σ H, Pv xs.length σ H → D.nx σ H) :
    ∃ W : Nat → Nat → St → Hp → Prop, (∃ m, W 0 m σ H) ∧ ∀ i m σ H, W i m σ H →
      ((Ite K a).stop i H ∧ D.nx σ H) ∨ ((Ite K a).go i H ∧ ∃ N : St → Hp → Prop, (∀ σ' H', N σ' H' → ∃ m', m' < m ∧ W (i + 1) m' σ' H') ∧ ∀ x H', (Ite K a).yld i H x H' → g x σ H' fun σ2 H2 => tb { D with nx := N, ct := N, bk := D.nx } σ2 H2) := by
  refine ⟨fun i m σ H => m = xs.length - i ∧ i ≤ xs.length ∧ Pv i σ H, ⟨xs.length, by simp, Nat.zero_le _, h0⟩, ?_⟩
  rintro i m σ H ⟨rfl, hi, p⟩
  have q := hl i σ H hi p
  by_cases hlt : i < xs.length
  · refine .inr ⟨⟨xs, xs[i], q, by simp [hlt]⟩, Pv (i + 1), fun σ' H' p' => ⟨xs.length - (i + 1), by omega, rfl, hlt, p'⟩, fun v H' y => ?_⟩
    obtain ⟨T, hT, rfl, y⟩ := y
    obtain ⟨x, hx, rfl⟩ := y xs q
    exact hs i x σ _ T hx p hT
  · have e : i = xs.length := by omega
    subst e
    exact .inl ⟨⟨xs, q, Nat.le_refl _⟩, hd σ H p⟩
end
end L2

namespace L2
open PySem PySem.Spec PyProof.Rows PySem.SeqAt PySem.W
mutual
/-- a value that is data through and through -/
inductive RdD (K : PySem.W.Frag) (H : Hp) : V → PyData → Prop
  | non : RdD K H .non .none
  | bl (b : Bool) : RdD K H (.bl b) (.bool b)
  | int (i : Int) : RdD K H (.int i) (.int i)
  | str (x : Str) : RdD K H (.str x) (.str x)
  | lst {a : Addr} {xs : List V} {ds : List PyData} : SqL K H a xs → RdDs K H xs ds → RdD K H (.ref a) (.list ds)
  | tup {a : Addr} {xs : List V} {ds : List PyData} : SqT K H a xs → RdDs K H xs ds → RdD K H (.ref a) (.tuple ds)
inductive RdDs (K : PySem.W.Frag) (H : Hp) : List V → List PyData → Prop
  | nil : RdDs K H [] []
  | cons {x : V} {d : PyData} {xs : List V} {ds : List PyData} : RdD K H x d → RdDs K H xs ds → RdDs K H (x :: xs) (d :: ds)
end
section
variable {X : Cx} {pins : List (Addr × Obj)} {σ : St} {H : Hp} {s : Shared}
mutual
theorem Inv.reads (I : Inv X pins σ H s) : ∀ {v : V} {d : PyData} {u : Value}, RdD X.K H v d → RelV v u → ∃ as, Reads s.heap u d as
  | _, _, _, .non, r => by cases r; exact ⟨_, .none⟩
  | _, _, _, .bl b, r => by cases r; exact ⟨_, .bool b⟩
  | _, _, _, .int i, r => by obtain ⟨t, rfl⟩ := r; exact ⟨_, .int i t⟩
  | _, _, _, .str x, r => by obtain ⟨t, rfl⟩ := r; exact ⟨_, .str x t⟩
  | _, _, _, .lst hq hs, r => by
    cases r
    obtain ⟨its, rv, p, _⟩ := I.list hq
    obtain ⟨as, ra⟩ := I.readsAll hs rv
    obtain ⟨o, ho, hc, n, hd⟩ := p.isList
    exact ⟨_, .list ho hc hd (by simpa using ra)⟩
  | _, _, _, .tup hq hs, r => by
    cases r
    obtain ⟨its, rv, p, _⟩ := I.tuple hq
    obtain ⟨as, ra⟩ := I.readsAll hs rv
    obtain ⟨o, ho, hc, n, hd⟩ := (show s.heap.IsTuple _ its.toArray from p)
    exact ⟨_, .tuple ho hc hd (by simpa using ra)⟩
theorem Inv.readsAll (I : Inv X pins σ H s) : ∀ {vs : List V} {ds : List PyData} {us : List Value}, RdDs X.K H vs ds → Vals vs us → ∃ as, ReadsAll s.heap us ds as
  | _, _, _, .nil, r => by cases r; exact ⟨_, .nil⟩
  | _, _, _, .cons h hs, r => by
    cases r with
    | cons r1 r2 =>
      obtain ⟨as, ra⟩ := I.reads h r1
      obtain ⟨bs, rb⟩ := I.readsAll hs r2
      exact ⟨_, .cons ra rb⟩
end
/-- == and != of data, however deep (to 64) -/
def rEqD (K : PySem.W.Frag) (neg : Bool) : R2 := fun x y H Q => ∃ d e, RdD K H x d ∧ RdD K H y e ∧ shaped d = true ∧ shaped e = true ∧ noMix d e = true ∧ Q (.bl (if neg then !same d e else same d e)) H
theorem op_eqD (hu : X.A.units + 64 < cLine) : OpR X (compareOp .Eq) (rEqD X.K false) := by
  intro pins s σ H x y v u Q I rx ry h
  obtain ⟨d, e, h1, h2, s1, s2, nm, q⟩ := h
  obtain ⟨as, ra⟩ := I.reads h1 rx
  obtain ⟨bs, rb⟩ := I.reads h2 ry
  exact eq_dataH_same ra rb s1 s2 hu nm ⟨.bl _, H, I, rfl, q⟩
theorem op_neD (hu : X.A.units + 64 < cLine) : OpR X (compareOp .NotEq) (rEqD X.K true) := by
  intro pins s σ H x y v u Q I rx ry h
  obtain ⟨d, e, h1, h2, s1, s2, nm, q⟩ := h
  obtain ⟨as, ra⟩ := I.reads h1 rx
  obtain ⟨bs, rb⟩ := I.reads h2 ry
  exact ne_dataH_same ra rb s1 s2 hu nm ⟨.bl _, H, I, rfl, q⟩
end
end L2

namespace L2
open PySem PySem.Spec PyProof.Rows
theorem vals_of_ints : ∀ {us : List Value} {ns : List Int}, IntsAre us ns → Vals (ns.map V.int) us
  | _, _, .nil => .nil
  | _, _, .cons k t r => .cons ⟨t, rfl⟩ (vals_of_ints r)
section
variable {X : Cx}
/-- sorted of a list of fewer than 64 ints -/
theorem call_sortedI : CallR X (.builtin "sorted") (fun xs H Q => ∃ (a : Addr) (ns : List Int), xs = [.ref a] ∧ SqL X.K H a (ns.map V.int) ∧ ns.length < 64 ∧ ∀ (ms : List Int) (p : Addr), ms.Perm ns → ms.Pairwise (· ≤ ·) → H p = none → Q (.ref p) (upd H p (.lst (ms.map V.int)))) := by
  intro pins s σ H xs us Q I r h
  obtain ⟨a, ns, rfl, hq, hl, q⟩ := h
  obtain ⟨u, rfl, ru⟩ := r.one
  cases ru
  obtain ⟨its, rv, p, _⟩ := I.list hq
  have hlen : its.length = ns.length := by rw [← rv.length, List.length_map]
  refine sorted_ints p.isList (intsAre_of rv) (by omega) fun out ms h1 h2 h3 => ?_
  obtain ⟨e, he⟩ := sortedAll_at s.heap its out
  have new : s.heap.get? (s.heap.objs.size + 1) = none := Heap.get?_none_of_le (Nat.le_succ _)
  have rm := vals_of_ints h1
  have ml : ms.length = ns.length := h2.length_eq
  have I2 := I.laidN (a := s.heap.objs.size + 1) (o := .lst (ms.map V.int)) (t' := s.toks) (h' := sortedAll s.heap its out) (fun b o hb => sortedAll_old hb) new
    ⟨by rw [List.length_map, ml]; exact Nat.le_of_lt (Nat.lt_of_lt_of_le hl (by decide)), out.toList, e, rm, by simpa using he⟩
  exact ⟨.ref (s.heap.objs.size + 1), _, I2, rfl, q ms _ h2 h3 (I.free_of new)⟩
end
end L2

namespace L2
open PySem PySem.Spec PyProof.Rows
/-! ### a comprehension with two names for its target -/
section
variable {prog : Program} {w : World} {A : Around} {R : Result → Shared → Prop} {s : Shared}
abbrev nb2 (prog : Program) (w : World) (A : Around) (env : Env) (R : Result → Shared → Prop) : Value → Shared → Prop := notedBy (model prog w) A env fun e s' => R (.error e) s'
theorem comp_loopT {elt tg iter : Expr} {ifs : List Expr} {scope : Scope} {pos : Pos} {it acc : Value} {env : Env} (I : Nat → Shared → Prop)
    (turn : ∀ n s, I n s → wpAny (model prog w) A (pyNext it) (fun r s1 => match r with
      | none => R (.ok .next) s1
      | some v => wpAny (model prog w) A (letOwnedTupleGo tg it v) (fun _ s0 => wpAny (model prog w) A (assign tg env v) (fun _ s2 => wpAny (model prog w) A (forIn ifs true fun c r => if r = true then do let ok ← isTrue c env (eval c env); pure (ForInStep.yield ok) else pure (ForInStep.yield r)) (fun ok s3 =>
            if ok = true then wpAny (model prog w) A (eval elt env) (fun x s4 => wpAny (model prog w) A (call (.builtin "list.append") [acc, x]) (fun _ s5 => ∃ m, m < n ∧ I m s5) (nb2 prog w A env R) s4) (nb2 prog w A env R) s3
            else ∃ m, m < n ∧ I m s3) (nb2 prog w A env R) s2) (nb2 prog w A env R) s0) (nb2 prog w A env R) s1) (nb2 prog w A env R) s)
    (n : Nat) (h : I n s) : codeAny (model prog w) A (.compLoop (.ListComp elt [⟨tg, iter, ifs, 0⟩] scope pos) 0 it acc env) R s := by
  refine codeAny_loop rfl I (fun n s hI => ?_) n h
  refine (wpAny_noted (?_ : _) : wpAny _ A ((compTurn (.ListComp elt [⟨tg, iter, ifs, 0⟩] scope pos) 0 it acc env).onRaise (fun x => do noteFrame x env; theTreesLotGoes x)) _ _ s)
  rw [compTurn_list]
  refine wpAny_bind (wpAny_standAt (wpAny_bind (wpAny_mono (turn n s hI) (fun r s1 h1 => ?_) fun _ _ z => z)))
  cases r with
  | none => exact wpAny_pure h1
  | some v =>
    refine wpAny_bind (wpAny_mono h1 (fun _ s0 h0 => wpAny_bind (wpAny_mono h0 (fun _ s2 h2 => wpAny_bind (wpAny_mono h2 (fun ok s3 h3 => ?_) fun _ _ z => z)) fun _ _ z => z)) fun _ _ z => z)
    cases ok with
    | false => exact wpAny_pure ⟨rfl, h3⟩
    | true => exact wpAny_bind (wpAny_bind (wpAny_mono h3 (fun x s4 h4 => wpAny_bind (wpAny_mono h4 (fun _ s5 h5 => wpAny_pure (wpAny_pure ⟨rfl, h5⟩)) fun _ _ z => z)) fun _ _ z => z))
end
structure Block2 (X : Cx) (scope : Scope) (x y0 : Str) (NB : List Str) (ix : List Nat) : Prop where
  kind : scope.kind = .function
  cell : ∀ y ∈ scope.names, y.2 ≠ .cell
  names : ∀ y ∈ scope.names, y.2 = .local → scope.names.lookup y.1 = some .local
  free : ∀ y, (y, NameKind.free) ∈ scope.names → (X.env.kindOf y = some .cell ∨ X.env.kindOf y = some .free)
  var : scope.names.lookup x = some .local
  var2 : scope.names.lookup y0 = some .local
  nb : NB = x :: y0 :: ix.map fun i => X.N.getD i x
  nd : NB.Nodup
  cap : ∀ i ∈ ix, ∃ y, X.N[i]? = some y ∧ scope.names.lookup y = some .free
/-- what the turns do: the two of a pair -/
def CompW2 (K : PySem.W.Frag) (J : It) (os : St) (tt : TT) (te : TE) (H1 : Hp) (Q : VK) : Prop :=
  ∃ W : Nat → Nat → List V → Hp → Prop, (∃ m, W 0 m [] H1) ∧ ∀ i m ys H, W i m ys H →
    (J.stop i H ∧ ∀ p, H p = none → Q (.ref p) (upd H p (.lst ys))) ∨
    (J.go i H ∧ ys.length < sizeLine ∧ ∃ N : List V → Hp → Prop, (∀ ys' H', N ys' H' → ∃ m', m' < m ∧ W (i + 1) m' ys' H') ∧ ∀ x H', J.yld i H x H' → ∃ T a b, x = .ref T ∧ SqT K H' T [a, b] ∧ tt (some a :: some b :: os) H' fun b2 H2 => if b2 = true then te (some a :: some b :: os) H2 fun v H3 => N (ys ++ [v]) H3 else N ys H2)
section
variable {X : Cx} {scope : Scope} {x y0 : Str} {NB : List Str} {ix : List Nat} {pins : List (Addr × Obj)} {σ : St} {H2 : Hp} {s2 : Shared} {fp : List Addr}
theorem Block2.clos (B : Block2 X scope x y0 NB ix) (I2 : Inv X pins σ H2 s2) : closureFor scope X.env = pure (closOf X.env.cells scope.names []) :=
  closureFor_clos fun n hn => I2.ok.has n (B.free n hn)
theorem Block2.look (B : Block2 X scope x y0 NB ix) (I2 : Inv X pins σ H2 s2) {y : Str} {c : Addr} (h : (closOf X.env.cells scope.names []).lookup y = some c) : X.env.cells.lookup y = some c := by
  rcases closOf_look _ _ h with ⟨m, e⟩ | e
  · obtain ⟨c', hc⟩ := I2.ok.has y (B.free y m)
    rw [hc] at e ⊢
    exact congrArg some e
  · cases e
theorem block2_ok (B : Block2 X scope x y0 NB ix) (I2 : Inv X pins σ H2 s2) {C : Addr} (hC : s2.heap.objs.size ≤ C) (f2 : ∀ b ∈ fp, FpOk X pins H2 b) (ft : ∀ b ∈ fp, b < s2.heap.objs.size) : (X.block scope C NB s2 H2 fp).Ok where
  mod := I2.ok.mod
  kind := B.kind
  glob := I2.ok.glob
  blt := I2.ok.blt
  above := hC
  inj := fun a b c h1 h2 => I2.ok.inj a b c (B.look I2 h1) (B.look I2 h2)
  has := fun y hy => by
    have key : ∀ k, (relabel scope X.env).names.lookup y = some k → (k = .cell ∨ k = .free) → ∃ c, (closOf X.env.cells scope.names []).lookup y = some c := fun k hk kk => by
      rcases relab_of (names := scope.names) hk with e | ⟨e, _⟩
      · rcases kk with rfl | rfl
        · exact absurd rfl (B.cell _ (look_mem e))
        · exact closOf_has _ _ (.inl (look_mem e))
      · exact closOf_has _ _ (.inl (look_mem e))
    rcases hy with e | e
    · exact key _ e (.inl rfl)
    · exact key _ e (.inr rfl)
  cab := fun _ _ z => by cases z
  hd := I2.ok.hd
  frames := I2.ok.frames
  stk := .inl rfl
  exf := fun b hb => ⟨Nat.ne_of_lt (Nat.lt_of_lt_of_le (ft b hb) hC), fun y c e => (f2 b hb).2.2.2.2.1 y c (B.look I2 e)⟩
  bs := I2.bs
  bsz := Nat.le_trans I2.ok.bsz I2.sz
  noex := fun b o e hb => by
    rcases (f2 b hb).2.2.2.1 with z | z
    · exact I2.ok.noex b o e z
    · exact absurd (Nat.lt_of_lt_of_le (Heap.lt_size (I2.ok.bs b o e).1) z) (Nat.lt_irrefl _)
  exfs := fun b hb z => by
    rcases List.mem_cons.mp (I2.stkSub b z) with e | e
    · exact (f2 b hb).2.1 e
    · exact (f2 b hb).2.2.1 e
  funs := I2.stack
  frf := I2.stkFree
theorem block2_inv (B : Block2 X scope x y0 NB ix) (I2 : Inv X pins σ H2 s2) {C D : Addr} {h1 : Heap} {tk : Nat} {m : Str → Option Value} {oD : Obj} (hC : s2.heap.objs.size ≤ C) (hD : s2.heap.objs.size ≤ D) (hDC : D ≠ C) (f2 : ∀ b ∈ fp, FpOk X pins H2 b) (ft : ∀ b ∈ fp, b < s2.heap.objs.size)
    (old : ∀ b o, s2.heap.get? b = some o → h1.get? b = some o) (hn : h1.Ns C m) (ho : h1.get? D = some oD) (hcl : ∀ v, oD.data ≠ .cell v) :
    Inv (X.block scope C NB s2 H2 fp) [(D, oD)] (none :: none :: caps ix σ) H2 { s2 with heap := h1, toks := tk } where
  ok := block2_ok B I2 hC f2 ft
  os := rfl
  bare := I2.bare
  base := Un.kept old
  loc := by
    refine ⟨m, hn, fun i y v e1 e2 _ => ?_⟩
    have e1 : NB[i]? = some y := e1
    match i with
    | 0 => cases e2
    | 1 => cases e2
    | j + 2 =>
      have e2 : (caps ix σ)[j]? = some (some v) := e2
      rw [B.nb] at e1
      have e1 : (ix.map fun i => X.N.getD i x)[j]? = some y := e1
      rw [List.getElem?_map] at e1
      unfold caps at e2
      rw [List.getElem?_map] at e2
      cases q : ix[j]? with
      | none => rw [q] at e1; cases e1
      | some i =>
        rw [q] at e1 e2
        obtain ⟨z, hz, fz⟩ := B.cap i (List.mem_of_getElem? q)
        have ey : y = z := by
          have w : X.N.getD i x = y := Option.some.inj e1
          rw [← w, List.getD_eq_getElem?_getD, hz]
          rfl
        subst ey
        have e2 : (σ[i]?).join = some v := Option.some.inj e2
        have es : σ[i]? = some (some v) := by
          cases w : σ[i]? with
          | none => rw [w] at e2; cases e2
          | some o => rw [w] at e2; exact congrArg some e2
        have fk := B.free y (look_mem fz)
        have vis : Vis X.env.scope y := .inr fk
        obtain ⟨mm, _, hl⟩ := I2.loc
        obtain ⟨u, ru, lk⟩ := hl i y v hz es vis
        refine ⟨u, ru, .inr ⟨?_, ?_⟩⟩
        · rcases relab_some (env := X.env) (names := scope.names) fz with e | ⟨_, e⟩
          · exact .inr e
          · exact .inl e
        · rcases lk with ⟨lk, _⟩ | ⟨_, c, hc, hcell⟩
          · rcases fk with fk | fk
            · rw [lk] at fk; cases fk
            · rw [lk] at fk; cases fk
          · obtain ⟨c', hc'⟩ := closOf_has (cells := X.env.cells) scope.names [] (.inl (look_mem fz))
            have e3 := B.look I2 hc'
            rw [hc] at e3
            cases e3
            obtain ⟨oc, g1, g2⟩ := hcell
            exact ⟨c, hc', oc, old _ _ g1, g2⟩
  cell := fun y c e => by
    obtain ⟨v, o, g1, g2⟩ := I2.cell y c (B.look I2 e)
    exact ⟨v, o, old _ _ g1, g2⟩
  free := I2.hok.fresh hC
  freeC := fun y c e => I2.freeC y c (B.look I2 e)
  pin := fun p hp => by
    have e : p = (D, oD) := by simpa [Cx.block] using hp
    subst e
    refine ⟨ho, I2.hok.fresh hD, hDC, fun z => ?_, hcl⟩
    rcases List.mem_cons.mp (I2.stkSub D z) with e | e
    · have e : D = X.env.locals := e
      exact absurd (Nat.lt_of_lt_of_le I2.lt (e ▸ hD)) (Nat.lt_irrefl _)
    · exact I2.nofs hD e
  hok := I2.hok.kept old
  len := by
    show (none :: none :: caps ix σ).length = NB.length
    rw [B.nb, List.length_cons, List.length_cons, List.length_cons, List.length_cons, caps_len, List.length_map]
theorem comp2_core {elt iter : Expr} {ifs : List Expr} {px py pt pos : Pos} {k1 : Nat} {tt : TT} {te : TE} {J : It} {it : Addr} {tn : Nat → Heap → Prop} {E : Value → Shared → Prop} {RR : Value → Addr → Result → Shared → Prop} {Qr : VK}
    (B : Block2 X scope x y0 NB ix) (hc : X.calm = true)
    (he : ∀ (C : Addr) (s : Shared) (H : Hp) (fp : List Addr), PE (X.block scope C NB s H fp) elt te) (ht : ∀ (C : Addr) (s : Shared) (H : Hp) (fp : List Addr), PTs (X.block scope C NB s H fp) ifs tt)
    (I2 : Inv X pins σ H2 s2) (T : Turn X.prog X.w X.K (.Tuple [.Name x px, .Name y0 py] k1 pt) J fp it tn) (st2 : tn 0 s2.heap) (f2 : ∀ b ∈ fp, FpOk X pins H2 b) (h : CompW2 X.K J (caps ix σ) tt te H2 Qr)
    (hRR : ∀ (D C : Addr) (Hf : Hp) (s' : Shared) (m' : Str → Option Value), Inv X pins σ Hf s' → s'.heap.Ns C m' → FpOk X pins Hf C → Qr (.ref D) Hf → RR (.ref D) C (.ok .next) s') :
    wpAny (model X.prog X.w) X.A (newList []) (fun acc s3 => wpAny (model X.prog X.w) X.A (newFunctionEnv scope X.env.globals (closOf X.env.cells scope.names []) [] X.env.qual none .none (some X.env)) (fun cenv s4 =>
      codeAny (model X.prog X.w) X.A (.compStart (.ListComp elt [⟨.Tuple [.Name x px, .Name y0 py] k1 pt, iter, ifs, 0⟩] scope pos) 0 (.ref it) acc { cenv with scope := relabel scope X.env }) (RR acc cenv.locals) s4) E s3) E s2 := by
  obtain ⟨W, ⟨m0, w0⟩, turn⟩ := h
  refine wpAny_newObj_type (wpAny_newFunctionEnv B.cell (by intro y hy; simp at hy) (fun h1 hns hsb => ?_) B.kind)
  dsimp only at hns hsb ⊢
  generalize eG : s2.heap.push { cls := .type "list", dict := none, data := .seq ([] : List Value).toArray } = G at hns hsb ⊢
  have hC : G.objs.size = s2.heap.objs.size + 1 := by rw [← eG, Heap.size_push]
  have hDC : s2.heap.objs.size ≠ G.objs.size := by rw [hC]; exact Nat.ne_of_lt (Nat.lt_succ_self _)
  have hCle : s2.heap.objs.size ≤ G.objs.size := by rw [hC]; exact Nat.le_succ _
  have old : ∀ b o, s2.heap.get? b = some o → h1.get? b = some o := fun b o e => by
    have lt := Heap.lt_size e
    exact hsb.extBut b o (Nat.ne_of_lt (Nat.lt_of_lt_of_le lt hCle)) (Heap.get?_push_of_some _ (eG ▸ Heap.get?_push_of_some _ e))
  have hacc : h1.get? s2.heap.objs.size = some (lstO [] 0) := hsb.extBut _ _ hDC (Heap.get?_push_of_some _ (eG ▸ Heap.get?_push_size _ rfl))
  have ft : ∀ b ∈ fp, b < s2.heap.objs.size := fun b hb => by
    obtain ⟨o, e, _⟩ := T.obj _ _ st2 b hb
    exact Heap.lt_size e
  have loop : ∀ s3 : Shared, s3 = { s2 with heap := h1, toks := s2.toks + ([] : List (Str × Value)).length } →
      codeAny (model X.prog X.w) X.A (.compLoop (.ListComp elt [⟨.Tuple [.Name x px, .Name y0 py] k1 pt, iter, ifs, 0⟩] scope pos) 0 (.ref it) (.ref s2.heap.objs.size) (compEnvC scope (closOf X.env.cells scope.names []) G.objs.size X.env))
        (RR (.ref s2.heap.objs.size) G.objs.size) s3 := by
    rintro s3 rfl
    have I3 := block2_inv (tk := s2.toks + ([] : List (Str × Value)).length) B I2 hCle (Nat.le_refl _) hDC f2 ft old hns hacc (fun v q => by cases q)
    have st3 : tn 0 h1 := T.keep _ _ _ st2 fun b _ o e => old b o e
    have fy : ∀ {H' : Hp} {oD : Obj}, (∀ b ∈ fp, H' b = none) → ∀ b ∈ fp, FpOk (X.block scope G.objs.size NB s2 H2 fp) [(s2.heap.objs.size, oD)] H' b := fun {H' oD} hn b hb => by
      refine ⟨hn b hb, Nat.ne_of_lt (Nat.lt_of_lt_of_le (ft b hb) hCle), fun z => ?_, .inl hb, fun y c e => (f2 b hb).2.2.2.2.1 y c (B.look I2 e), fun p hp => ?_⟩
      · rcases List.mem_cons.mp (I2.stkSub b z) with e | e
        · exact (f2 b hb).2.1 e
        · exact (f2 b hb).2.2.1 e
      · have e : p = (s2.heap.objs.size, oD) := by simpa [Cx.block] using hp
        subst e
        exact Ne.symm (Nat.ne_of_lt (ft b hb))
    refine comp_loopT (fun n s' => ∃ i ys its nn o o2 H', W i n ys H' ∧ Inv (X.block scope G.objs.size NB s2 H2 fp) [(s2.heap.objs.size, lstO its nn)] (o :: o2 :: caps ix σ) H' s' ∧ tn i s'.heap ∧ (∀ b ∈ fp, H' b = none) ∧ Vals ys its ∧ ys.length ≤ sizeLine)
      ?_ m0 ⟨0, [], [], 0, none, none, H2, w0, I3, st3, fun b hb => (f2 b hb).1, .nil, Nat.zero_le _⟩
    rintro n s' ⟨i, ys, its, nn, o, o2, H', w', I', st', fr', rv, hz⟩
    rcases turn i n ys H' w' with ⟨stop, q⟩ | ⟨go, hlt, Nx, hNx, step⟩
    · refine wpAny_mono (T.done (X.block scope G.objs.size NB s2 H2 fp) rfl rfl rfl hc i _ s' _ H' (fun _ _ => False) I' (fy fr') st' stop) (fun r s4 ⟨hr, I4⟩ => ?_) fun _ _ z => z.elim
      subst hr
      have I5 := block_end I2 f2 (Nat.le_refl _) I4 rv hz
      obtain ⟨m4, hn4, _⟩ := I4.loc
      have hfree : H' s2.heap.objs.size = none := (I4.pin (s2.heap.objs.size, lstO its nn) (by show _ ∈ [] ++ [(s2.heap.objs.size, lstO its nn)]; simp)).2.1
      refine hRR _ _ _ s4 m4 I5 hn4 (I2.fpOk hCle ?_) (q _ hfree)
      rw [upd_ne (Ne.symm hDC)]
      exact I4.free
    · refine wpAny_mono (T.item (X.block scope G.objs.size NB s2 H2 fp) rfl rfl rfl hc i _ s' _ H' (fun _ _ => False) I' (fy fr') st' go) (fun r s4 ⟨u, hr, h4⟩ => ?_) fun _ _ z => z.elim
      subst hr
      refine wpAny_mono h4 (fun _ s4 ⟨v, H5, I5, r5, y5, st5, fr5⟩ => ?_) fun _ _ z => z.elim
      have pIt : ∀ b ∈ fp, ∃ o, s4.heap.get? b = some o ∧ ∀ v, o.data ≠ .cell v := T.obj _ _ st5
      have I5' := I5.pinned (fy fr5) pIt
      have hg := pg_tup (X := X.block scope G.objs.size NB s2 H2 fp) (pos := pt) (k := k1) hc (pgs_cons (pg_name (i := 0) (x := x) (pos := px) B.nd (by show NB[0]? = some x; rw [B.nb]; rfl) (.inl (lookup_relabel_local B.var)) (.inr (lookup_relabel_local B.var)))
        (pgs_cons (pg_name (i := 1) (x := y0) (pos := py) B.nd (by show NB[1]? = some y0; rw [B.nb]; rfl) (.inl (lookup_relabel_local B.var2)) (.inr (lookup_relabel_local B.var2))) pgs_nil))
      obtain ⟨T5, va, vb, ev, sq, w5⟩ := step v H5 y5
      refine wpAny_mono (hg _ s4 _ H5 v u (fun σ' H' => σ' = some va :: some vb :: caps ix σ ∧ H' = H5) I5' r5 ⟨T5, [va, vb], ev, sq, rfl, va, [vb], rfl, vb, [], rfl, rfl, rfl, rfl⟩) (fun _ s6 h6 => ?_) fun _ _ z => z.elim
      obtain ⟨σ6, H6, I6, e6, e7⟩ := h6
      subst e6 e7
      refine wpAny_mono (ht _ _ _ _ _ s6 _ _ _ I6 w5) (fun b s7 ⟨H7, I7, q7⟩ => ?_) fun _ _ z => z.elim
      -- what stays of the iterator
      have stays : ∀ {s9 : Shared} {H9 : Hp} {σ9 : St} {oD : Obj}, Inv (X.block scope G.objs.size NB s2 H2 fp) ([(s2.heap.objs.size, oD)] ++ pinsAt fp s4.heap) σ9 H9 s9 → tn (i + 1) s9.heap ∧ ∀ b ∈ fp, H9 b = none := fun {s9 H9 σ9 oD} I9 => by
        refine ⟨T.keep _ _ _ st5 fun b hb o e => (I9.pin (b, o) (List.mem_append_right _ (List.mem_append_right _ (mem_pinsAt hb e)))).1, fun b hb => ?_⟩
        obtain ⟨o, e, d⟩ := pIt b hb
        exact (I9.pin (b, o) (List.mem_append_right _ (List.mem_append_right _ (mem_pinsAt hb e)))).2.1
      cases b with
      | false =>
        rw [if_neg Bool.false_ne_true] at q7 ⊢
        obtain ⟨m', hm, w7⟩ := hNx _ _ q7
        obtain ⟨g1, g2⟩ := stays I7
        exact ⟨m', hm, i + 1, ys, its, nn, some va, some vb, H7, w7, I7.unpinned, g1, g2, rv, hz⟩
      | true =>
        rw [if_pos rfl] at q7 ⊢
        refine wpAny_mono (he _ _ _ _ _ s7 _ _ _ I7 q7) (fun y s8 ⟨yv, H8, I8, r8, n8⟩ => ?_) fun _ _ z => z.elim
        obtain ⟨m', hm, w8⟩ := hNx _ _ n8
        obtain ⟨g1, g2⟩ := stays I8
        have pD := I8.pin (s2.heap.objs.size, lstO its nn) (by show _ ∈ [] ++ ([(s2.heap.objs.size, lstO its nn)] ++ pinsAt fp s4.heap); simp)
        refine append_at (hsz := by rw [List.size_toArray, ← rv.length]; exact hz) pD.1 fun h9 hs9 hD9 => ?_
        have hno : s2.heap.objs.size ∉ fp := fun z => Nat.lt_irrefl _ (ft _ z)
        have I8u := I8.unpinned
        have I8n := I8u.pins_of (pins' := []) (fun _ z => nomatch z)
        have I9 := I8n.turned (h' := h9) (t' := s8.toks) (it := s2.heap.objs.size) (fun b o hb e => hs9.extBut b o hb e) pD.2.1 pD.2.2.1 (.inr (Nat.le_refl _))
          (fun y c e z => by
            obtain ⟨w, q⟩ := I2.cell y c (B.look I2 e)
            exact Nat.lt_irrefl _ (z ▸ q.lt)) (fun p hp => by cases hp)
        have e9 : lstO (its ++ [y]) (nn + 1) = { cls := .type "list", data := .seq (its.toArray.push y) (nn + 1) } := by
          show ({ cls := .type "list", data := .seq (its ++ [y]).toArray (nn + 1) } : Obj) = _
          rw [List.push_toArray]
        have I10 : Inv (X.block scope G.objs.size NB s2 H2 fp) [(s2.heap.objs.size, lstO (its ++ [y]) (nn + 1))] (some va :: some vb :: caps ix σ) H8 { s8 with heap := h9 } := by
          refine I9.pins_of fun p hp => ?_
          have e : p = (s2.heap.objs.size, lstO (its ++ [y]) (nn + 1)) := by simpa using hp
          subst e
          exact ⟨hD9.trans (congrArg some e9.symm), pD.2.1, pD.2.2.1, pD.2.2.2.1, fun v q => by cases q⟩
        refine ⟨m', hm, i + 1, ys ++ [yv], its ++ [y], nn + 1, some va, some vb, H8, w8, I10, T.keep _ _ _ g1 fun b hb o e => hs9.extBut b o (fun z => hno (z ▸ hb)) e, g2, Vals.append rv (.cons r8 .nil), ?_⟩
        rw [List.length_append]
        exact hlt
  exact codeAny_compStart_list (loop _ rfl) (T.self _ 0 _ _ _ (T.keep _ _ _ st2 fun b _ o e => old b o e) (loop _ rfl))

end
end L2

namespace L2
open PySem PySem.Spec PyProof.Rows
section
variable {X : Cx} {scope : Scope} {x y0 : Str} {NB : List Str} {ix : List Nat} {pins : List (Addr × Obj)} {σ : St} {H2 : Hp} {s2 : Shared} {fp : List Addr}
def tComp2 (K : PySem.W.Frag) (wi : TI) (ix : List Nat) (tt : TT) (te : TE) : TE := fun σ H Q => wi σ H fun J H1 => CompW2 K J (caps ix σ) tt te H1 Q
/-- name = [elt for x in iter if ..], the name a plain local one, on one line -/
theorem ps_comp2 {elt iter : Expr} {ifs : List Expr} {px p2 pt pos py spos : Pos} {k1 : Nat} {wi : TI} {tt : TT} {te : TE} {j : Nat} {y : Str} (hN : X.N.Nodup) (hj : X.N[j]? = some y) (hy : X.env.scope.names.lookup y = some .local)
    (B : Block2 X scope x y0 NB ix) (hc : X.calm = true) (hi : PI X (.Tuple [.Name x px, .Name y0 p2] k1 pt) iter wi)
    (he : ∀ (C : Addr) (s : Shared) (H : Hp) (fp : List Addr), PE (X.block scope C NB s H fp) elt te) (ht : ∀ (C : Addr) (s : Shared) (H : Hp) (fp : List Addr), PTs (X.block scope C NB s H fp) ifs tt)
    (hsw : swapsWith (.ListComp elt [⟨.Tuple [.Name x px, .Name y0 p2] k1 pt, iter, ifs, 0⟩] scope pos) (some (.Name y py)) spos.line X.env = pure true)
    (hs : ∀ v, foldedSetIterable iter X.env v = pure v := by intro _; rfl) : PS X (.Assign [.Name y py] (.ListComp elt [⟨.Tuple [.Name x px, .Name y0 p2] k1 pt, iter, ifs, 0⟩] scope pos) spos) (tAsg (tComp2 X.K wi ix tt te) (gName j)) := by
  intro pins s σ H Dn I h
  rw [exec_Assign_Name_used _ _ _ _ hsw]
  refine wpAny_bind (wpAny_standAt (wpAny_bind ?_))
  show wpAny (model X.prog X.w) X.A (comprehension (.ListComp elt [⟨.Tuple [.Name x px, .Name y0 p2] k1 pt, iter, ifs, 0⟩] scope pos) scope X.env _ (newList []) false (eval iter X.env) (some (assign (.Name y py) X.env)) >>= fun _ => pure ()) _ _ s
  refine wpAny_bind (thn (wpAny_comprehension_free (use := some (assign (.Name y py) X.env)) (Q := fun _ s' => SP X pins Dn .next s') rfl hs (B.clos I) B.kind B.names (thn (hi pins s σ H _ I h) fun v s1 h1 => thn h1 fun itv s2 h2 => ?_)) fun _ s' q => wpAny_pure (wpAny_pure q))
  obtain ⟨it, fp, tn, J, H2, e, I2, T, st2, f2, w⟩ := h2
  subst e
  refine comp2_core (RR := fun acc C => compPost (model X.prog X.w) X.A X.xe (some (assign (.Name y py) X.env)) (fun _ s' => SP X pins Dn .next s') acc C) B hc he ht I2 T st2 f2 w fun D C Hf s' m' I' hn' fC q => ?_
  obtain ⟨c0, c1, c2, c3, c4, c5⟩ := fC
  show wpAny (model X.prog X.w) X.A (assign (.Name y py) X.env (.ref D)) _ _ s'
  refine wpAny_assign_Name (store_ok2 I' hN hj (.inl hy) (v := .ref D) rfl (fun s'' I'' ⟨a, sb, ha⟩ => ?_) (.inr hy))
  have hCa : C ≠ a := by
    rcases ha with e | e
    · rw [e]; exact c1
    · exact fun z => c4 y a e z.symm
  refine ⟨m', hn'.sameBut sb hCa, fun h3 hs3 => ⟨_, Hf, ?_, q⟩⟩
  exact I''.turned (it := C) (t' := s''.toks) (fun b o hb e => hs3.extBut b o hb e) c0 c1 c3 c4 c5
def block2B (N : List Str) (fs scope : Scope) (x y0 : Str) (NB : List Str) (ix : List Nat) : Bool :=
  decide (scope.kind = .function) && scope.names.all (fun y => decide (y.2 ≠ .cell)) && scope.names.all (fun y => decide (y.2 ≠ .local) || decide (scope.names.lookup y.1 = some .local)) &&
  scope.names.all (fun y => decide (y.2 ≠ .free) || (decide (fs.names.lookup y.1 = some .cell) || decide (fs.names.lookup y.1 = some .free))) && (decide (scope.names.lookup x = some .local) && decide (scope.names.lookup y0 = some .local)) &&
  decide (NB = x :: y0 :: ix.map fun i => N.getD i x) && decide NB.Nodup && ix.all fun i => match N[i]? with | some y => decide (scope.names.lookup y = some .free) | none => false
theorem Block2.of {N : List Str} {fs : Scope} (h : block2B N fs scope x y0 NB ix = true) (hN : X.N = N := by rfl) (hf : X.env.scope = fs := by rfl) : Block2 X scope x y0 NB ix := by
  subst hN hf
  unfold block2B at h
  simp only [Bool.and_eq_true] at h
  obtain ⟨⟨⟨⟨⟨⟨⟨h1, h2⟩, h3⟩, h4⟩, h5, h5'⟩, h6⟩, h7⟩, h8⟩ := h
  refine ⟨of_decide_eq_true h1, fun y hy => of_decide_eq_true (List.all_eq_true.mp h2 y hy), fun y hy e => ?_, fun y hy => ?_, of_decide_eq_true h5, of_decide_eq_true h5', of_decide_eq_true h6, of_decide_eq_true h7, fun i hi => ?_⟩
  · have z := List.all_eq_true.mp h3 y hy
    rw [Bool.or_eq_true] at z
    rcases z with z | z
    · exact absurd e (of_decide_eq_true z)
    · exact of_decide_eq_true z
  · have z := List.all_eq_true.mp h4 _ hy
    rw [Bool.or_eq_true, Bool.or_eq_true] at z
    rcases z with z | z | z
    · exact absurd rfl (of_decide_eq_true z)
    · exact .inl (of_decide_eq_true z)
    · exact .inr (of_decide_eq_true z)
  · have z := List.all_eq_true.mp h8 i hi
    cases e : X.N[i]? with
    | none => rw [e] at z; cases z
    | some y => rw [e] at z; exact ⟨y, rfl, of_decide_eq_true z⟩
end
/-! ### zip of two lists -/
def Itz (K : PySem.W.Frag) (a b : Addr) : It :=
  ⟨fun i H => ∃ xs ys x y, SqL K H a xs ∧ SqL K H b ys ∧ xs[i]? = some x ∧ ys[i]? = some y, fun i H v H' => ∃ T, H T = none ∧ v = .ref T ∧ ∀ xs ys, SqL K H a xs → SqL K H b ys → ∃ x y, xs[i]? = some x ∧ ys[i]? = some y ∧ H' = upd H T (.tup [x, y]),
    fun i H => ∃ xs ys, SqL K H a xs ∧ SqL K H b ys ∧ (xs.length ≤ i ∨ ys.length ≤ i)⟩
theorem turn_zip {P : Program} {w : World} {K : PySem.W.Frag} {elts : List Expr} {x1 : Nat} {pos : Pos} (a b z TI TO i1 i2 : Addr) (D : PySem.ZipApart z TI TO i1 i2 a b) :
    Turn P w K (.Tuple elts x1 pos) (Itz K a b) [z, TI, TO, i1, i2] z (fun i h => PySem.IsZip h z TI TO .none ∧ PySem.IsPair h TI (.ref i1) (.ref i2) ∧ (∃ u v, PySem.IsPair h TO u v) ∧ h.IsListIter i1 a i ∧ h.IsListIter i2 b i) where
  mem := by simp
  obj := fun i h st c hc => by
    obtain ⟨h1, h2, ⟨u, v, h3⟩, h4, h5⟩ := st
    simp only [List.mem_cons, List.not_mem_nil, or_false] at hc
    rcases hc with rfl | rfl | rfl | rfl | rfl
    · exact ⟨_, h1, fun v q => by cases q⟩
    · exact ⟨_, h2, fun v q => by cases q⟩
    · exact ⟨_, h3, fun v q => by cases q⟩
    · obtain ⟨o, e1, _, d⟩ := h4
      exact ⟨o, e1, fun v q => by rw [d] at q; cases q⟩
    · obtain ⟨o, e1, _, d⟩ := h5
      exact ⟨o, e1, fun v q => by rw [d] at q; cases q⟩
  keep := fun i h h' st k => by
    obtain ⟨h1, h2, ⟨u, v, h3⟩, h4, h5⟩ := st
    exact ⟨k z (by simp) _ h1, k TI (by simp) _ h2, ⟨u, v, k TO (by simp) _ h3⟩, h4.at fun o q => k i1 (by simp) o q, h5.at fun o q => k i2 (by simp) o q⟩
  item := by
    intro X hP hw hK hc i pins s σ H E I hf st hg
    subst hP hw hK
    obtain ⟨xs, ys, x, y, hq, hq2, hx, hy⟩ := hg
    obtain ⟨its, rv, p, _⟩ := I.list hq
    obtain ⟨its2, rv2, p2, _⟩ := I.list hq2
    obtain ⟨u, hu, ru⟩ := rv.get hx
    obtain ⟨u2, hu2, ru2⟩ := rv2.get hy
    obtain ⟨h1, h2, ⟨ua, ub, h3⟩, h4, h5⟩ := st
    have fz := hf z (by simp)
    have fI := hf TI (by simp)
    have fO := hf TO (by simp)
    have f1 := hf i1 (by simp)
    have f2 := hf i2 (by simp)
    refine PySem.wpAny_pyNext_zip_item D h1 h2 h3 h4 h5 p.isList p2.isList (x := u) (y := u2) (by simpa using hu) (by simpa using hu2) fun hA a1 a2 a3 a4 a5 a6 a7 => ⟨_, rfl, ?_⟩
    refine PySem.wpAny_letOwnedTupleGo_zip a1 fun hB b1 hs => ?_
    have zlt : z < s.heap.objs.size := Heap.lt_size h1
    have ht2 : hB.get? s.heap.objs.size = some { cls := .type "tuple", data := .seq #[u, u2] } := (hs.2 _ (Nat.ne_of_gt zlt)).trans a5
    have hfr : H s.heap.objs.size = none := I.hok.fresh (Nat.le_refl _)
    have k2 : ∀ c o, c ≠ z → c ≠ TO → c ≠ i1 → c ≠ i2 → s.heap.get? c = some o → hB.get? c = some o := fun c o c1 c2 c3 c4 q => hs.extBut c o c1 (a7 c o c1 c2 c3 c4 q)
    have neT : ∀ c o, H c = some o → c ≠ s.heap.objs.size := fun c o q z => by rw [z, hfr] at q; cases q
    have neS : ∀ c o, s.heap.get? c = some o → c ≠ s.heap.objs.size := fun c o q => Nat.ne_of_lt (Heap.lt_size q)
    have nt : ∀ c o, H c = some o → c ≠ z ∧ c ≠ TO ∧ c ≠ i1 ∧ c ≠ i2 := fun c o q => ⟨(fun e => by rw [e, fz.1] at q; cases q), (fun e => by rw [e, fO.1] at q; cases q), (fun e => by rw [e, f1.1] at q; cases q), (fun e => by rw [e, f2.1] at q; cases q)⟩
    have nin : ∀ c, c ∉ [z, TO, i1, i2] → c ≠ z ∧ c ≠ TO ∧ c ≠ i1 ∧ c ≠ i2 := fun c hc => ⟨fun e => hc (by simp [e]), fun e => hc (by simp [e]), fun e => hc (by simp [e]), fun e => hc (by simp [e])⟩
    have kk : ∀ c o, (c ≠ z ∧ c ≠ TO ∧ c ≠ i1 ∧ c ≠ i2) → s.heap.get? c = some o → hB.get? c = some o := fun c o n q => k2 c o n.1 n.2.1 n.2.2.1 n.2.2.2 q
    have I2 : Inv X pins σ (upd H s.heap.objs.size (.tup [x, y])) { s with heap := hB } := by
      refine I.step (g' := s.gens) (d' := s.drawn) (t' := s.toks) (ch := [z, TO, i1, i2]) (fun c hc => ?_) (fun c o _ _ hc' q _ => kk c o (nin c hc') q) (fun c o _ _ hc' q _ => ⟨o.slots, kk c o (nin c hc') q⟩)
        (fun c o _ q n => by rw [upd_ne (neS c o q)]; exact n) (fun c o hc' q => ⟨o, kk c o (nin c hc') q⟩) (fun c ys q => by rw [upd_ne (neT c _ q)]; exact q) (fun c o v q => by rw [upd_ne (neT c _ q)]; exact q)
        (fun c ps q => ⟨#[], by rw [upd_ne (neT c _ q), q]; simp⟩) (fun m hm => ?_) (fun c o q => ?_) I.bare
      · simp only [List.mem_cons, List.not_mem_nil, or_false] at hc
        rcases hc with rfl | rfl | rfl | rfl
        · exact ⟨fz.2.2.2.1, fz.2.1, fz.2.2.2.2.1, fz.2.2.2.2.2⟩
        · exact ⟨fO.2.2.2.1, fO.2.1, fO.2.2.2.2.1, fO.2.2.2.2.2⟩
        · exact ⟨f1.2.2.2.1, f1.2.1, f1.2.2.2.2.1, f1.2.2.2.2.2⟩
        · exact ⟨f2.2.2.2.1, f2.2.1, f2.2.2.2.2.1, f2.2.2.2.2.2⟩
      · obtain ⟨o, es, ep, ho, r⟩ := hm
        exact ⟨o, es, ep, kk _ o ⟨Ne.symm fz.2.1, Ne.symm fO.2.1, Ne.symm f1.2.1, Ne.symm f2.2.1⟩ ho, r⟩
      · by_cases e : c = s.heap.objs.size
        · subst e
          rw [upd_same] at q
          cases q
          exact ⟨(by show 2 ≤ sizeLine; decide), [u, u2], .cons ru (.cons ru2 .nil), _, ht2, rfl, _, rfl⟩
        · rw [upd_ne e] at q
          refine (I.hok c o q).stay (fun d v hd r => kk d v ?_ r) (fun d r => by rw [upd_ne (neT d _ r)]; exact r) fun d ys r => by rw [upd_ne (neT d _ r)]; exact r
          rcases hd with y | y
          · rw [y]; exact nt c o q
          · exact nt d _ y
    refine ⟨.ref s.heap.objs.size, _, I2, rfl, ⟨s.heap.objs.size, hfr, rfl, fun xs2 ys2 hx2 hy2 => ⟨x, y, by rw [I.list_inj hx2 hq]; exact hx, by rw [I.list_inj hy2 hq2]; exact hy, rfl⟩⟩, ⟨b1, ?_, ⟨_, _, hs.extBut _ _ D.TOz a2⟩, a3.at fun o q => hs.extBut _ _ D.i1z q, a4.at fun o q => hs.extBut _ _ D.i2z q⟩, fun c hc => ?_⟩
    · exact k2 _ _ D.TIz D.TITO D.TIi1 D.TIi2 h2
    · have old : ∀ c, (∃ o, s.heap.get? c = some o) → H c = none → upd H s.heap.objs.size (.tup [x, y]) c = none := fun c ⟨o, q⟩ hn => by rw [upd_ne (neS c o q)]; exact hn
      simp only [List.mem_cons, List.not_mem_nil, or_false] at hc
      rcases hc with rfl | rfl | rfl | rfl | rfl
      · exact old _ ⟨_, h1⟩ fz.1
      · exact old _ ⟨_, h2⟩ fI.1
      · exact old _ ⟨_, h3⟩ fO.1
      · obtain ⟨o, q, _⟩ := id h4
        exact old _ ⟨o, q⟩ f1.1
      · obtain ⟨o, q, _⟩ := id h5
        exact old _ ⟨o, q⟩ f2.1
  done := by
    intro X hP hw hK hc i pins s σ H E I hf st hg
    subst hP hw hK
    obtain ⟨xs, ys, hq, hq2, hx⟩ := hg
    obtain ⟨its, rv, p, _⟩ := I.list hq
    obtain ⟨its2, rv2, p2, _⟩ := I.list hq2
    obtain ⟨h1, h2, ⟨ua, ub, h3⟩, h4, h5⟩ := st
    have hl := rv.length
    have hl2 := rv2.length
    have fz := hf z (by simp)
    have fO := hf TO (by simp)
    have f1 := hf i1 (by simp)
    have f2 := hf i2 (by simp)
    refine PySem.wpAny_pyNext_zip_end (I.ok.hd hc) D h1 h2 h3 h4 h5 p.isList p2.isList (hx.imp (fun e => by simp; omega) (fun e => by simp; omega)) fun hA k => ⟨rfl, ?_⟩
    have nin : ∀ c, c ∉ [z, TO, i1, i2] → c ≠ z ∧ c ≠ TO ∧ c ≠ i1 ∧ c ≠ i2 := fun c hc => ⟨fun e => hc (by simp [e]), fun e => hc (by simp [e]), fun e => hc (by simp [e]), fun e => hc (by simp [e])⟩
    have kk : ∀ c o, (c ≠ z ∧ c ≠ TO ∧ c ≠ i1 ∧ c ≠ i2) → s.heap.get? c = some o → hA.get? c = some o := fun c o n q => k c o n.1 n.2.1 n.2.2.1 n.2.2.2 q
    have nt : ∀ c o, H c = some o → c ≠ z ∧ c ≠ TO ∧ c ≠ i1 ∧ c ≠ i2 := fun c o q => ⟨(fun e => by rw [e, fz.1] at q; cases q), (fun e => by rw [e, fO.1] at q; cases q), (fun e => by rw [e, f1.1] at q; cases q), (fun e => by rw [e, f2.1] at q; cases q)⟩
    refine I.step (g' := s.gens) (d' := s.drawn) (t' := s.toks) (ch := [z, TO, i1, i2]) (fun c hc => ?_) (fun c o _ _ hc' q _ => kk c o (nin c hc') q) (fun c o _ _ hc' q _ => ⟨o.slots, kk c o (nin c hc') q⟩)
      (fun c o _ q n => n) (fun c o hc' q => ⟨o, kk c o (nin c hc') q⟩) (fun c ys q => q) (fun c o v q => q) (fun c ps q => ⟨#[], by rw [q]; simp⟩) (fun m hm => ?_) (fun c o q => ?_) I.bare
    · simp only [List.mem_cons, List.not_mem_nil, or_false] at hc
      rcases hc with rfl | rfl | rfl | rfl
      · exact ⟨fz.2.2.2.1, fz.2.1, fz.2.2.2.2.1, fz.2.2.2.2.2⟩
      · exact ⟨fO.2.2.2.1, fO.2.1, fO.2.2.2.2.1, fO.2.2.2.2.2⟩
      · exact ⟨f1.2.2.2.1, f1.2.1, f1.2.2.2.2.1, f1.2.2.2.2.2⟩
      · exact ⟨f2.2.2.2.1, f2.2.1, f2.2.2.2.2.1, f2.2.2.2.2.2⟩
    · obtain ⟨o, es, ep, ho, r⟩ := hm
      exact ⟨o, es, ep, kk _ o ⟨Ne.symm fz.2.1, Ne.symm fO.2.1, Ne.symm f1.2.1, Ne.symm f2.2.1⟩ ho, r⟩
    · refine (I.hok c o q).stay (fun d v hd r => kk d v ?_ r) (fun d r => r) fun d ys r => r
      rcases hd with y | y
      · rw [y]; exact nt c o q
      · exact nt d _ y
  self := fun _ _ _ _ _ st h => PySem.wpAny_pyIter_zip st.1 h
end L2

namespace L2
open PySem PySem.Spec PyProof.Rows
section
variable {X : Cx}
def iZip (K : PySem.W.Frag) (ta : TA) : TI := fun σ H R => ta σ H fun vs H1 => ∃ a b, vs = [.ref a, .ref b] ∧ (∃ xs, SqL K H1 a xs) ∧ (∃ ys, SqL K H1 b ys) ∧ R (Itz K a b) H1
theorem pi_zip {elts : List Expr} {x1 : Nat} {tp p pos : Pos} {e1 e2 : Expr} {ta : TA} (hg : Gl X "zip") (hm : X.mg "zip" = none) (ha : PA X [e1, e2] ta) (hs : starEach [e1, e2] X.env = [(false, eval e1 X.env), (false, eval e2 X.env)] := by rfl) (hs2 : starEach [e2] X.env = [(false, eval e2 X.env)] := by rfl) :
    PI X (.Tuple elts x1 tp) (.Call (.Name "zip" p) [e1, e2] [] pos) (iZip X.K ta) := by
  intro pins s σ H R I h
  refine Call_ (ld_blt I hg hm PyProof.Rows.boot_zip (PyProof.Rows.callWith_type1 (thn (ha pos pins s σ H _ I h) fun us s1 ⟨vs, H1, I1, r1, q1⟩ => ?_) (by rw [hs, hs2]) (by rw [hs2]; rfl)))
  obtain ⟨a, b, ev, ⟨xs, hq⟩, ⟨ys, hq2⟩, q⟩ := q1
  subst ev
  obtain ⟨u1, u2, rfl, ru1, ru2⟩ := r1.two
  cases ru1
  cases ru2
  obtain ⟨its, rv, pl, _⟩ := I1.list hq
  obtain ⟨its2, rv2, pl2, _⟩ := I1.list hq2
  have la : a < s1.heap.objs.size := by
    obtain ⟨o, ho, _⟩ := pl.isList
    exact Heap.lt_size ho
  have lb : b < s1.heap.objs.size := by
    obtain ⟨o, ho, _⟩ := pl2.isList
    exact Heap.lt_size ho
  refine PySem.call_zip_2 pl.isList pl2.isList fun h' hz h2 h3 h4 h5 hsz hk => ?_
  refine PySem.wpAny_pyIter_zip hz ?_
  have I2 : Inv X pins σ H1 { s1 with heap := h' } := I1.kept (t' := s1.toks) hk
  have ga : ∀ k : Nat, a ≠ s1.heap.objs.size + k := fun k => Nat.ne_of_lt (Nat.lt_of_lt_of_le la (Nat.le_add_right _ _))
  have gb : ∀ k : Nat, b ≠ s1.heap.objs.size + k := fun k => Nat.ne_of_lt (Nat.lt_of_lt_of_le lb (Nat.le_add_right _ _))
  have D : PySem.ZipApart (s1.heap.objs.size + 4) (s1.heap.objs.size + 2) (s1.heap.objs.size + 3) s1.heap.objs.size (s1.heap.objs.size + 1) a b := by
    constructor <;> first | exact ga 4 | exact ga 3 | exact ga 1 | exact ga 0 | exact gb 4 | exact gb 3 | exact gb 1 | exact gb 0 | exact Nat.ne_of_lt (by omega) | exact Nat.ne_of_gt (by omega)
  refine ⟨s1.heap.objs.size + 4, [s1.heap.objs.size + 4, s1.heap.objs.size + 2, s1.heap.objs.size + 3, s1.heap.objs.size, s1.heap.objs.size + 1], _, _, H1, rfl, I2, turn_zip a b _ _ _ _ _ D, ⟨hz, h2, ⟨_, _, h3⟩, h4, h5⟩, fun c hc => ?_, q⟩
  have hb : s1.heap.objs.size ≤ c := by
    simp only [List.mem_cons, List.not_mem_nil, or_false] at hc
    rcases hc with rfl | rfl | rfl | rfl | rfl
    · exact Nat.le_add_right _ _
    · exact Nat.le_add_right _ _
    · exact Nat.le_add_right _ _
    · exact Nat.le_refl _
    · exact Nat.le_add_right _ _
  exact I1.fpOk hb (I1.hok.fresh hb)
theorem comp2_zip {K : PySem.W.Frag} {a b : Addr} {xs zs : List V} {os : St} {tt : TT} {te : TE} {H : Hp} {Q : VK} (same : zs.length = xs.length) (Pv : Nat → List V → Hp → Prop) (h0 : Pv 0 [] H) (hz : ∀ i ys H, i < xs.length → Pv i ys H → ys.length < sizeLine)
    (hl : ∀ i ys H, i ≤ xs.length → Pv i ys H → SqL K H a xs ∧ SqL K H b zs)
    (hs : ∀ (i : Nat) x z ys H T, xs[i]? = some x → zs[i]? = some z → Pv i ys H → H T = none → tt (some x :: some z :: os) (upd H T (.tup [x, z])) fun b H2 => if b = true then te (some x :: some z :: os) H2 fun v H3 => Pv (i + 1) (ys ++ [v]) H3 else Pv (i + 1) ys H2)
    (hd : ∀ ys H, Pv xs.length ys H → ∀ p, H p = none → Q (.ref p) (upd H p (.lst ys))) : CompW2 K (Itz K a b) os tt te H Q := by
  refine ⟨fun i m ys H => m = xs.length - i ∧ i ≤ xs.length ∧ Pv i ys H, ⟨xs.length, by simp, Nat.zero_le _, h0⟩, ?_⟩
  rintro i m ys H ⟨rfl, hi, p⟩
  obtain ⟨q, q2⟩ := hl i ys H hi p
  by_cases hlt : i < xs.length
  · refine .inr ⟨⟨xs, zs, xs[i], zs[i]'(by omega), q, q2, by simp [hlt], by rw [List.getElem?_eq_getElem (by omega)]⟩, hz i ys H hlt p, Pv (i + 1), fun ys' H' p' => ⟨xs.length - (i + 1), by omega, rfl, hlt, p'⟩, fun v H' y => ?_⟩
    obtain ⟨T, hT, rfl, y⟩ := y
    obtain ⟨x, z, hx, hz2, rfl⟩ := y xs zs q q2
    exact ⟨T, x, z, rfl, SqT.of upd_same, hs i x z ys _ T hx hz2 p hT⟩
  · have e : i = xs.length := by omega
    subst e
    exact .inl ⟨⟨xs, zs, q, q2, .inl (Nat.le_refl _)⟩, hd ys H p⟩
/-- list.index of flat things -/
def rIndex : V → List V → Hp → VK → Prop := fun x vs H Q => ∃ (l : Addr) (xs : List V) (y : V) (j : Nat) (z : V), x = .ref l ∧ vs = [y] ∧ H l = some (.lst xs) ∧ flatV y = true ∧ xs.all flatV = true ∧ xs[j]? = some z ∧ eqV z y = true ∧ (∀ (m : Nat) z, m < j → xs[m]? = some z → eqV z y = false) ∧ Q (.int j) H
end
end L2

namespace SM
open PySem PySem.SetTable

/-! ### the order in which a table's slots are looked at -/
/-- the run's first slot and what still disturbs, run by run -/
def run (M : Nat) (b : Nat) : Nat → Nat × Nat
  | 0 => (b % M, b)
  | k + 1 => (((run M b k).1 * 5 + 1 + (run M b k).2 / 32) % M, (run M b k).2 / 32)
theorem run_perturb (M b : Nat) : ∀ k, (run M b k).2 = b / 32 ^ k
  | 0 => by simp [run]
  | k + 1 => by
    show (run M b k).2 / 32 = _
    rw [run_perturb M b k, Nat.div_div_eq_div_mul, Nat.pow_succ]
theorem run_lt {M b : Nat} (hM : 0 < M) : ∀ k, (run M b k).1 < M
  | 0 => Nat.mod_lt _ hM
  | k + 1 => Nat.mod_lt _ hM
/-- five times and one -/
def lcg (M i : Nat) : Nat := (i * 5 + 1) % M
def orb (M : Nat) : Nat → Nat → Nat
  | i, 0 => i
  | i, r + 1 => lcg M (orb M i r)
theorem orb_add (M i a : Nat) : ∀ b, orb M i (a + b) = orb M (orb M i a) b
  | 0 => rfl
  | b + 1 => by
    show lcg M (orb M i (a + b)) = lcg M (orb M (orb M i a) b)
    rw [orb_add M i a b]
/-- all of an orbit, from nought on, as a list -/
def orbL (M : Nat) : Nat → Nat → List Nat
  | _, 0 => []
  | i, r + 1 => i :: orbL M (lcg M i) r
theorem orb_shift (M i : Nat) : ∀ r, orb M (lcg M i) r = orb M i (r + 1)
  | 0 => rfl
  | r + 1 => by
    show lcg M (orb M (lcg M i) r) = lcg M (orb M i (r + 1))
    rw [orb_shift M i r]
theorem orbL_get (M : Nat) : ∀ (n i j : Nat), j ∈ orbL M i n → ∃ r, r < n ∧ orb M i r = j
  | 0, _, _, h => by cases h
  | n + 1, i, j, h => by
    rcases List.mem_cons.mp h with e | h
    · exact ⟨0, Nat.zero_lt_succ _, e.symm⟩
    · obtain ⟨r, hr, e⟩ := orbL_get M n _ j h
      exact ⟨r + 1, Nat.succ_lt_succ hr, by rw [← orb_shift]; exact e⟩
def full (M : Nat) : Bool := (List.range M).all (fun j => (orbL M 0 M).contains j) && decide (orb M 0 M = 0)
theorem full_8 : full 8 = true := by decide +kernel
theorem full_32 : full 32 = true := by decide +kernel
theorem full_128 : full 128 = true := by decide +kernel
theorem full_512 : full 512 = true := by decide +kernel
theorem full_from {M : Nat} (h : full M = true) {j : Nat} (hj : j < M) : ∃ r, r < M ∧ orb M 0 r = j := by
  unfold full at h
  rw [Bool.and_eq_true] at h
  have z := List.all_eq_true.mp h.1 j (List.mem_range.mpr hj)
  exact orbL_get M M 0 j (by simpa using z)
theorem full_any {M : Nat} (h : full M = true) {i j : Nat} (hi : i < M) (hj : j < M) : ∃ r, r < M ∧ orb M i r = j := by
  obtain ⟨a, ha, ea⟩ := full_from h hi
  obtain ⟨b, hb, eb⟩ := full_from h hj
  have back : orb M 0 M = 0 := by
    unfold full at h
    rw [Bool.and_eq_true] at h
    exact of_decide_eq_true h.2
  by_cases q : a ≤ b
  · refine ⟨b - a, by omega, ?_⟩
    rw [← ea, ← orb_add, show a + (b - a) = b by omega, eb]
  · refine ⟨M - a + b, by omega, ?_⟩
    rw [← ea, ← orb_add, show a + (M - a + b) = M + b by omega, orb_add, back, eb]
theorem run_orb {M b k : Nat} (hb : b < 2 ^ 64) (hk : 12 ≤ k) : ∀ r, (run M b (k + r)).1 = orb M (run M b k).1 r
  | 0 => rfl
  | r + 1 => by
    show ((run M b (k + r)).1 * 5 + 1 + (run M b (k + r)).2 / 32) % M = lcg M (orb M (run M b k).1 r)
    rw [run_orb hb hk r, run_perturb]
    have e : b / 32 ^ (k + r) / 32 = 0 := by
      rw [Nat.div_div_eq_div_mul, ← Nat.pow_succ]
      refine Nat.div_eq_of_lt (Nat.lt_of_lt_of_le hb ?_)
      have h1 : (32 : Nat) ^ 13 ≤ 32 ^ (k + r).succ := Nat.pow_le_pow_right (by decide) (by omega)
      exact Nat.le_trans (by decide) h1
    rw [e, Nat.add_zero]
    rfl

/-! ### probes: one step after another -/
def adv (m : Nat) (p : Probe) : Probe :=
  if p.more > 0 then { p with j := p.j + 1, more := p.more - 1 } else
  { p with j := (leap m p.i p.perturb).1, more := runEnd m (leap m p.i p.perturb).1 - (leap m p.i p.perturb).1, i := (leap m p.i p.perturb).1, perturb := (leap m p.i p.perturb).2 }
def beg (m : Nat) (h : Int) : Probe := { j := bits h % (m + 1), more := runEnd m (bits h % (m + 1)) - bits h % (m + 1), i := bits h % (m + 1), perturb := bits h, dummy := none }
def pr (m : Nat) (h : Int) : Nat → Probe
  | 0 => beg m h
  | n + 1 => adv m (pr m h n)
theorem bits_lt (h : Int) : bits h < 2 ^ 64 := by
  unfold bits
  have := Int.emod_lt_of_pos h (show (0 : Int) < 2 ^ 64 by decide)
  have h0 := Int.emod_nonneg h (show (2 ^ 64 : Int) ≠ 0 by decide)
  omega
theorem pr_dummy (m : Nat) (h : Int) : ∀ n, (pr m h n).dummy = none
  | 0 => rfl
  | n + 1 => by
    show (adv m (pr m h n)).dummy = none
    unfold adv
    split <;> exact pr_dummy m h n
/-- at the head of a run -/
def atRun (m : Nat) (h : Int) (n k : Nat) : Prop := pr m h n = { j := (run (m + 1) (bits h) k).1, more := runEnd m (run (m + 1) (bits h) k).1 - (run (m + 1) (bits h) k).1, i := (run (m + 1) (bits h) k).1, perturb := (run (m + 1) (bits h) k).2, dummy := none }
theorem in_run {m : Nat} {h : Int} {n k : Nat} (a : atRun m h n k) : ∀ r, r ≤ runEnd m (run (m + 1) (bits h) k).1 - (run (m + 1) (bits h) k).1 →
    pr m h (n + r) = { j := (run (m + 1) (bits h) k).1 + r, more := runEnd m (run (m + 1) (bits h) k).1 - (run (m + 1) (bits h) k).1 - r, i := (run (m + 1) (bits h) k).1, perturb := (run (m + 1) (bits h) k).2, dummy := none }
  | 0, _ => a
  | r + 1, hr => by
    show adv m (pr m h (n + r)) = _
    rw [in_run a r (by omega)]
    unfold adv
    rw [if_pos (show runEnd m (run (m + 1) (bits h) k).1 - (run (m + 1) (bits h) k).1 - r > 0 by omega)]
    congr 1
theorem runEnd_le (m i : Nat) : runEnd m i - i ≤ 9 := by
  unfold runEnd
  split <;> omega
theorem next_run {m : Nat} {h : Int} {n k : Nat} (a : atRun m h n k) : ∃ n', n' ≤ n + 10 ∧ atRun m h n' (k + 1) := by
  have z := in_run a _ (Nat.le_refl _)
  refine ⟨n + (runEnd m (run (m + 1) (bits h) k).1 - (run (m + 1) (bits h) k).1) + 1, by have := runEnd_le m (run (m + 1) (bits h) k).1; omega, ?_⟩
  show adv m (pr m h (n + (runEnd m (run (m + 1) (bits h) k).1 - (run (m + 1) (bits h) k).1))) = _
  rw [z]
  unfold adv
  rw [if_neg (show ¬ (runEnd m (run (m + 1) (bits h) k).1 - (run (m + 1) (bits h) k).1 - (runEnd m (run (m + 1) (bits h) k).1 - (run (m + 1) (bits h) k).1) > 0) by omega)]
  rfl
theorem run_at (m : Nat) (h : Int) : ∀ k, ∃ n, n ≤ 10 * k ∧ atRun m h n k
  | 0 => ⟨0, Nat.zero_le _, rfl⟩
  | k + 1 => by
    obtain ⟨n, hn, a⟩ := run_at m h k
    obtain ⟨n', hn', a'⟩ := next_run a
    exact ⟨n', by omega, a'⟩
/-- every slot is looked at, in time -/
theorem covers {m : Nat} (hf : full (m + 1) = true) (h : Int) {j : Nat} (hj : j ≤ m) : ∃ n, n < 10 * turns m ∧ (pr m h n).j = j := by
  obtain ⟨r, hr, e⟩ := full_any hf (run_lt (b := bits h) (Nat.zero_lt_succ m) 12) (Nat.lt_succ_of_le hj)
  obtain ⟨n, hn, a⟩ := run_at m h (12 + r)
  refine ⟨n, ?_, ?_⟩
  · unfold turns
    omega
  · rw [a]
    show (run (m + 1) (bits h) (12 + r)).1 = j
    rw [run_orb (bits_lt h) (Nat.le_refl _), e]
end SM

namespace SM
open PySem PySem.SetTable

/-! ### rising places -/
def Rise (xs : Array Nat) : Prop := ∀ (i k x y : Nat), i < k → xs[i]? = some x → xs[k]? = some y → x < y
theorem Rise.inj {xs : Array Nat} (h : Rise xs) {i k x : Nat} (a : xs[i]? = some x) (b : xs[k]? = some x) : i = k := by
  rcases Nat.lt_trichotomy i k with z | z | z
  · exact absurd (h i k x x z a b) (Nat.lt_irrefl _)
  · exact z
  · exact absurd (h k i x x z b a) (Nat.lt_irrefl _)
theorem get_lt {α : Type} {xs : Array α} {i : Nat} {x : α} (h : xs[i]? = some x) : i < xs.size := (Array.getElem?_eq_some_iff.mp h).1
theorem below_go {xs : Array Nat} (hr : Rise xs) (j : Nat) : ∀ (fuel lo hi : Nat), lo ≤ hi → hi ≤ xs.size → hi - lo ≤ fuel → (∀ i x, xs[i]? = some x → i < lo → x < j) → (∀ i x, xs[i]? = some x → hi ≤ i → j ≤ x) →
    below.go xs j fuel lo hi ≤ xs.size ∧ ∀ i x, xs[i]? = some x → (i < below.go xs j fuel lo hi ↔ x < j)
  | 0, lo, hi, h1, h2, h3, h4, h5 => by
    have e : lo = hi := by omega
    subst e
    unfold below.go
    refine ⟨h2, fun i x hx => ⟨h4 i x hx, fun lt => ?_⟩⟩
    by_cases q : i < lo
    · exact q
    · exact absurd lt (Nat.not_lt.mpr (h5 i x hx (Nat.not_lt.mp q)))
  | fuel + 1, lo, hi, h1, h2, h3, h4, h5 => by
    unfold below.go
    by_cases q : lo < hi
    · rw [if_pos q]
      have hm : (lo + hi) / 2 < xs.size := by omega
      have gm : xs[(lo + hi) / 2]? = some xs[(lo + hi) / 2] := Array.getElem?_eq_getElem hm
      have gd : xs.getD ((lo + hi) / 2) j = xs[(lo + hi) / 2] := by rw [Array.getD_eq_getD_getElem?, gm]; rfl
      dsimp only
      rw [gd]
      by_cases c : xs[(lo + hi) / 2] < j
      · rw [if_pos c]
        refine below_go hr j fuel _ hi (by omega) h2 (by omega) (fun i x hx hi' => ?_) h5
        by_cases e : i = (lo + hi) / 2
        · subst e
          rw [gm] at hx
          cases hx
          exact c
        · exact Nat.lt_trans (hr i _ x _ (by omega) hx gm) c
      · rw [if_neg c]
        refine below_go hr j fuel lo _ (by omega) (by omega) (by omega) h4 fun i x hx hi' => ?_
        by_cases e : i = (lo + hi) / 2
        · subst e
          rw [gm] at hx
          cases hx
          exact Nat.not_lt.mp c
        · exact Nat.le_trans (Nat.not_lt.mp c) (Nat.le_of_lt (hr _ i _ x (by omega) gm hx))
    · rw [if_neg q]
      have e : lo = hi := by omega
      subst e
      refine ⟨h2, fun i x hx => ⟨h4 i x hx, fun lt => ?_⟩⟩
      by_cases q : i < lo
      · exact q
      · exact absurd lt (Nat.not_lt.mpr (h5 i x hx (Nat.not_lt.mp q)))
theorem below_spec {xs : Array Nat} (hr : Rise xs) (j : Nat) : below xs j ≤ xs.size ∧ ∀ i x, xs[i]? = some x → (i < below xs j ↔ x < j) :=
  below_go hr j xs.size 0 xs.size (Nat.zero_le _) (Nat.le_refl _) (by omega) (fun _ _ _ h => absurd h (Nat.not_lt_zero _)) fun i x hx h => absurd (get_lt hx) (Nat.not_lt.mpr h)
theorem below_at {xs : Array Nat} (hr : Rise xs) {i j : Nat} (h : xs[i]? = some j) : below xs j = i := by
  obtain ⟨h1, h2⟩ := below_spec hr j
  have a : ¬ i < below xs j := fun q => Nat.lt_irrefl _ ((h2 i j h).mp q)
  by_cases e : below xs j = i
  · exact e
  · have lt : below xs j < i := by omega
    have hb : below xs j < xs.size := Nat.lt_trans lt (get_lt h)
    have gb : xs[below xs j]? = some xs[below xs j] := Array.getElem?_eq_getElem hb
    have := hr _ _ _ _ lt gb h
    exact absurd ((h2 _ _ gb).mpr this) (Nat.lt_irrefl _)
theorem slot_live {t : SetTable} (hr : Rise t.place) {i j : Nat} (h : t.place[i]? = some j) : t.slot j = .live i := by
  unfold slot
  dsimp only
  rw [below_at hr h, h, if_pos (by simp)]
theorem slot_empty {t : SetTable} (hr : Rise t.place) (hd : t.dummies = #[]) {j : Nat} (h : ∀ i : Nat, t.place[i]? ≠ some j) : t.slot j = .empty := by
  unfold slot
  dsimp only
  rw [if_neg (by simpa using h _)]
  have : has t.dummies j = false := by
    unfold has
    rw [hd]
    simp
  rw [this]
  rfl
/-- a slot is free -/
theorem free_slot {xs : Array Nat} (hr : Rise xs) {m : Nat} (hs : xs.size ≤ m) : ∃ j, j ≤ m ∧ ∀ i : Nat, xs[i]? ≠ some j := by
  refine Classical.byContradiction fun no => ?_
  have all : ∀ j, j ≤ m → ∃ i : Nat, xs[i]? = some j := fun j hj => Classical.byContradiction fun q => no ⟨j, hj, fun i e => q ⟨i, e⟩⟩
  have ge : ∀ j, j ≤ m → ∀ i : Nat, xs[i]? = some j → j ≤ i := by
    intro j
    induction j with
    | zero => intro _ i _; exact Nat.zero_le _
    | succ j ih =>
      intro hj i hi
      obtain ⟨i0, h0⟩ := all j (by omega)
      have l0 := ih (by omega) i0 h0
      rcases Nat.lt_trichotomy i0 i with z | z | z
      · omega
      · subst z
        rw [h0] at hi
        have := Option.some.inj hi
        omega
      · have := hr i i0 _ _ z hi h0
        omega
  obtain ⟨i, hi⟩ := all m (Nat.le_refl _)
  have h1 := ge m (Nat.le_refl _) i hi
  have h2 := get_lt hi
  omega
theorem ins_get {α : Type} {xs : Array α} {p : Nat} (hp : p ≤ xs.size) (x : α) (i : Nat) : (insertAt xs p x)[i]? = if i < p then xs[i]? else if i = p then some x else xs[i - 1]? := by
  unfold insertAt
  have s1 : (xs.extract 0 p).size = p := by rw [Array.size_extract]; omega
  have s2 : ((xs.extract 0 p).push x).size = p + 1 := by rw [Array.size_push, s1]
  rw [Array.getElem?_append, s2]
  by_cases h1 : i < p
  · rw [if_pos (by omega), if_pos h1, Array.getElem?_push, s1, if_neg (by omega), Array.getElem?_extract, if_pos (by omega), Nat.zero_add]
  · rw [if_neg h1]
    by_cases h2 : i = p
    · subst h2
      rw [if_pos (by omega), if_pos rfl, Array.getElem?_push, s1, if_pos rfl]
    · rw [if_neg (by omega), if_neg h2, Array.getElem?_extract]
      by_cases h3 : i - (p + 1) < xs.size - p
      · rw [if_pos (by omega), show p + (i - (p + 1)) = i - 1 by omega]
      · rw [if_neg (by omega)]
        exact (Array.getElem?_eq_none (by omega)).symm
theorem ins_size {α : Type} {xs : Array α} {p : Nat} (hp : p ≤ xs.size) (x : α) : (insertAt xs p x).size = xs.size + 1 := by
  unfold insertAt
  rw [Array.size_append, Array.size_push, Array.size_extract, Array.size_extract]
  omega
end SM

namespace SM
open PySem PySem.SetTable
abbrev Ent := Int × Value
/-- some place of the table is j -/
def In (t : SetTable) (j : Nat) : Prop := ∃ i : Nat, t.place[i]? = some j
/-- the slots ahead of the m-th are all taken -/
def Way (t : SetTable) (h : Int) (m : Nat) : Prop := ∀ m', m' < m → In t (pr t.mask h m').j
structure TB (t : SetTable) (es : Array Ent) : Prop where
  sz : t.place.size = es.size
  ri : Rise t.place
  le : ∀ i j : Nat, t.place[i]? = some j → j ≤ t.mask
  du : t.dummies = #[]
  fu : full (t.mask + 1) = true
  od : t.mask % 2 = 1
  nf : t.place.size ≤ t.mask
  rc : ∀ (i j : Nat) (e : Ent), t.place[i]? = some j → es[i]? = some e → ∃ m, m < 10 * turns t.mask ∧ (pr t.mask e.1 m).j = j ∧ Way t e.1 m
section
variable {t : SetTable} {es : Array Ent}
theorem TB.fits (T : TB t es) : t.fits es.size = true := by
  unfold SetTable.fits fill
  rw [T.sz, T.du]
  have := T.nf
  rw [T.sz] at this
  simpa using this
/-- where a search ends at last -/
theorem TB.first (T : TB t es) (h : Int) : ∃ N, N < 10 * turns t.mask ∧ ¬ In t (pr t.mask h N).j ∧ Way t h N := by
  obtain ⟨j, hj, hn⟩ := free_slot T.ri T.nf
  obtain ⟨n, hlt, e⟩ := covers T.fu h hj
  have key : ∀ n, ¬ In t (pr t.mask h n).j → ∃ N, N ≤ n ∧ ¬ In t (pr t.mask h N).j ∧ Way t h N := by
    intro n
    induction n using Nat.strongRecOn with
    | ind n ih =>
      intro hq
      by_cases w : Way t h n
      · exact ⟨n, Nat.le_refl _, hq, w⟩
      · obtain ⟨m', q⟩ := Classical.not_forall.mp w
        obtain ⟨lt, q⟩ := Classical.not_imp.mp q
        obtain ⟨N, a, b, c⟩ := ih m' lt q
        exact ⟨N, by omega, b, c⟩
  obtain ⟨N, a, b, c⟩ := key n (by rw [e]; rintro ⟨i, hi⟩; exact hn i hi)
  exact ⟨N, by omega, b, c⟩
theorem go_spec (hr : Rise t.place) (hd : t.dummies = #[]) {hashAt : Nat → Int} {h : Int} {N : Nat} (hN : ¬ In t (pr t.mask h N).j) (hw : Way t h N) : ∀ (fuel n : Nat), n ≤ N → N - n < fuel →
    (probe.go t hashAt h fuel (pr t.mask h n) = some (.empty (pr t.mask h N).j none) ∧ ∀ m i : Nat, n ≤ m → m < N → t.place[i]? = some (pr t.mask h m).j → hashAt i ≠ h) ∨
    (∃ m i : Nat, n ≤ m ∧ m < N ∧ t.place[i]? = some (pr t.mask h m).j ∧ hashAt i = h ∧ probe.go t hashAt h fuel (pr t.mask h n) = some (.candidate (pr t.mask h m).j i (pr t.mask h (m + 1))) ∧ ∀ m' i' : Nat, n ≤ m' → m' < m → t.place[i']? = some (pr t.mask h m').j → hashAt i' ≠ h)
  | 0, n, h1, h2 => absurd h2 (Nat.not_lt_zero _)
  | fuel + 1, n, h1, h2 => by
    unfold probe.go
    by_cases e : n = N
    · subst e
      rw [slot_empty hr hd (fun i q => hN ⟨i, q⟩)]
      refine .inl ⟨?_, fun m i a b => by omega⟩
      show some (Met.empty (pr t.mask h n).j (pr t.mask h n).dummy) = _
      rw [pr_dummy]
    · obtain ⟨i, hi⟩ := hw n (by omega)
      rw [slot_live hr hi]
      dsimp only
      by_cases q : hashAt i = h
      · rw [if_pos (by rw [q]; exact beq_self_eq_true h)]
        exact .inr ⟨n, i, Nat.le_refl _, by omega, hi, q, rfl, fun m' i' a b => by omega⟩
      · rw [if_neg (by simpa using q)]
        show (probe.go t hashAt h fuel (pr t.mask h (n + 1)) = _ ∧ _) ∨ _
        have other : ∀ i' : Nat, t.place[i']? = some (pr t.mask h n).j → hashAt i' ≠ h := fun i' hi' => by
          rw [hr.inj hi' hi]
          exact q
        rcases go_spec hr hd (hashAt := hashAt) hN hw fuel (n + 1) (by omega) (by omega) with ⟨a, b⟩ | ⟨m, i', c1, c2, c3, c4, c5, c6⟩
        · refine .inl ⟨a, fun m i' u v x => ?_⟩
          by_cases z : m = n
          · subst z
            exact other i' x
          · exact b m i' (by omega) v x
        · refine .inr ⟨m, i', by omega, c2, c3, c4, c5, fun m' i'' u v x => ?_⟩
          by_cases z : m' = n
          · subst z
            exact other i'' x
          · exact c6 m' i'' (by omega) v x
/-- the slot for a new one -/
theorem TB.freeSlot (T : TB t es) {h : Int} {N : Nat} (hl : N < 10 * turns t.mask) (hN : ¬ In t (pr t.mask h N).j) (hw : Way t h N) : t.freeSlot h = some ((pr t.mask h N).j, false) := by
  unfold SetTable.freeSlot
  have z := go_spec T.ri T.du (hashAt := fun _ => h + 1) hN hw (10 * turns t.mask) 0 (Nat.zero_le _) (by omega)
  have e : t.probe (fun _ => h + 1) h (t.probeStart h) = some (.empty (pr t.mask h N).j none) := by
    rcases z with ⟨a, _⟩ | ⟨m, i, _, _, _, c, _⟩
    · exact a
    · exact absurd c (by omega)
  rw [e]
  rfl
theorem below_le {xs : Array Nat} (hr : Rise xs) (j : Nat) : below xs j ≤ xs.size := (below_spec hr j).1
/-- a new one is laid -/
theorem TB.put (T : TB t es) {e : Ent} {N : Nat} (hl : N < 10 * turns t.mask) (hN : ¬ In t (pr t.mask e.1 N).j) (hw : Way t e.1 N) (room : es.size + 1 ≤ t.mask) (hjm : (pr t.mask e.1 N).j ≤ t.mask) :
    TB (t.put (pr t.mask e.1 N).j).1 (insertAt es (t.put (pr t.mask e.1 N).j).2 e) := by
  obtain ⟨hb, hs⟩ := below_spec T.ri (pr t.mask e.1 N).j
  have hb2 : below t.place (pr t.mask e.1 N).j ≤ es.size := by rw [← T.sz]; exact hb
  have nd : has t.dummies (pr t.mask e.1 N).j = false := by
    unfold has
    rw [T.du]
    simp
  have ep : (t.put (pr t.mask e.1 N).j).1 = { t with place := insertAt t.place (below t.place (pr t.mask e.1 N).j) (pr t.mask e.1 N).j } := by
    unfold SetTable.put
    dsimp only
    rw [nd]
    rfl
  have ep2 : (t.put (pr t.mask e.1 N).j).2 = below t.place (pr t.mask e.1 N).j := rfl
  rw [ep, ep2]
  generalize hp : below t.place (pr t.mask e.1 N).j = p at *
  generalize hj : (pr t.mask e.1 N).j = j at *
  have g := ins_get hb j
  -- what was there is there
  have up : ∀ (i x : Nat), t.place[i]? = some x → ∃ i' : Nat, (insertAt t.place p j)[i']? = some x := fun i x hx => by
    by_cases q : i < p
    · exact ⟨i, by rw [g, if_pos q]; exact hx⟩
    · exact ⟨i + 1, by rw [g, if_neg (by omega), if_neg (by omega)]; exact hx⟩
  have mine : (insertAt t.place p j)[p]? = some j := by rw [g, if_neg (Nat.lt_irrefl _), if_pos rfl]
  have down : ∀ (i x : Nat), (insertAt t.place p j)[i]? = some x → (i < p ∧ t.place[i]? = some x) ∨ (i = p ∧ x = j) ∨ (p < i ∧ t.place[i - 1]? = some x) := fun i x hx => by
    rw [g] at hx
    by_cases q : i < p
    · rw [if_pos q] at hx
      exact .inl ⟨q, hx⟩
    · rw [if_neg q] at hx
      by_cases q2 : i = p
      · rw [if_pos q2] at hx
        exact .inr (.inl ⟨q2, (Option.some.inj hx).symm⟩)
      · rw [if_neg q2] at hx
        exact .inr (.inr ⟨by omega, hx⟩)
  have inUp : ∀ x, In t x → In { t with place := insertAt t.place p j } x := fun x ⟨i, hi⟩ => up i x hi
  have noJ : ∀ (i : Nat), t.place[i]? ≠ some j := fun i q => hN ⟨i, q⟩
  constructor
  · show (insertAt t.place p j).size = _
    rw [ins_size hb, ins_size hb2, T.sz]
  · intro i k x y hik hx hy
    rcases down i x hx with ⟨a1, a2⟩ | ⟨a1, a2⟩ | ⟨a1, a2⟩ <;> rcases down k y hy with ⟨b1, b2⟩ | ⟨b1, b2⟩ | ⟨b1, b2⟩
    · exact T.ri i k x y hik a2 b2
    · rw [b2]
      exact (hs i x a2).mp a1
    · exact T.ri i (k - 1) x y (by omega) a2 b2
    · omega
    · omega
    · rw [a2]
      have c : ¬ y < j := fun z => by
        have := (hs (k - 1) y b2).mpr z
        omega
      have d : y ≠ j := fun z => noJ _ (z ▸ b2)
      omega
    · omega
    · omega
    · exact T.ri (i - 1) (k - 1) x y (by omega) a2 b2
  · intro i x hx
    rcases down i x hx with ⟨_, a2⟩ | ⟨_, a2⟩ | ⟨_, a2⟩
    · exact T.le _ _ a2
    · rw [a2]
      exact hjm
    · exact T.le _ _ a2
  · exact T.du
  · exact T.fu
  · exact T.od
  · show (insertAt t.place p j).size ≤ t.mask
    rw [ins_size hb, T.sz]
    exact room
  · intro i x f hx hf
    have gf := ins_get hb2 e i
    rw [gf] at hf
    have old : ∀ i0 : Nat, t.place[i0]? = some x → es[i0]? = some f → ∃ m, m < 10 * turns t.mask ∧ (pr t.mask f.1 m).j = x ∧ Way { t with place := insertAt t.place p j } f.1 m := fun i0 u v => by
      obtain ⟨m, c1, c2, c3⟩ := T.rc i0 x f u v
      exact ⟨m, c1, c2, fun m' l => inUp _ (c3 m' l)⟩
    rcases down i x hx with ⟨a1, a2⟩ | ⟨a1, a2⟩ | ⟨a1, a2⟩
    · rw [if_pos a1] at hf
      exact old i a2 hf
    · rw [if_neg (by omega), if_pos a1] at hf
      cases hf
      exact ⟨N, hl, by rw [a2]; exact hj, fun m' l => inUp _ (hw m' l)⟩
    · rw [if_neg (by omega), if_neg (by omega)] at hf
      exact old (i - 1) a2 hf
end
end SM

namespace SM
open PySem PySem.SetTable
theorem run_end_le {m i : Nat} (hi : i ≤ m) : i + (runEnd m i - i) ≤ m := by
  unfold runEnd
  split <;> omega
theorem pr_in (m : Nat) (h : Int) : ∀ n, (pr m h n).j + (pr m h n).more ≤ m
  | 0 => by
    have z : bits h % (m + 1) < m + 1 := Nat.mod_lt (bits h) (Nat.zero_lt_succ m)
    show bits h % (m + 1) + (runEnd m (bits h % (m + 1)) - bits h % (m + 1)) ≤ m
    exact run_end_le (by omega)
  | n + 1 => by
    have ih := pr_in m h n
    show (adv m (pr m h n)).j + (adv m (pr m h n)).more ≤ m
    unfold adv
    split
    · dsimp only
      omega
    · dsimp only
      have : (leap m (pr m h n).i (pr m h n).perturb).1 < m + 1 := Nat.mod_lt _ (Nat.zero_lt_succ m)
      exact run_end_le (by omega)
theorem pr_le (m : Nat) (h : Int) (n : Nat) : (pr m h n).j ≤ m := by
  have := pr_in m h n
  omega
/-- every slot heads a run, in time -/
theorem heads {m : Nat} (hf : full (m + 1) = true) (h : Int) {j : Nat} (hj : j ≤ m) : ∃ k, k < turns m ∧ (run (m + 1) (bits h) k).1 = j := by
  obtain ⟨r, hr, e⟩ := full_any hf (run_lt (b := bits h) (Nat.zero_lt_succ m) 12) (Nat.lt_succ_of_le hj)
  refine ⟨12 + r, ?_, ?_⟩
  · unfold turns
    omega
  · rw [run_orb (bits_lt h) (Nat.le_refl _), e]

/-! ### a table laid anew -/
abbrev Own := Array (Option Nat)
def Tk (o : Own) (j : Nat) : Prop := ∃ k, o[j]? = some (some k)
def WayO (m : Nat) (o : Own) (h : Int) (n : Nat) : Prop := ∀ n', n' < n → Tk o (pr m h n').j
theorem getD_none {m : Nat} {o : Own} (hs : o.size = m + 1) {j : Nat} (hj : j ≤ m) : (o.getD j (some 0)).isNone = true ↔ ¬ Tk o j := by
  have g : o[j]? = some o[j] := Array.getElem?_eq_getElem (by omega)
  rw [Array.getD_eq_getD_getElem?, g]
  show (o[j]).isNone = true ↔ _
  constructor
  · rintro q ⟨k, e⟩
    rw [g] at e
    rw [Option.some.inj e] at q
    cases q
  · intro q
    cases z : o[j] with
    | none => rfl
    | some k => exact absurd ⟨k, by rw [g, z]⟩ q
theorem free_spec {m : Nat} {o : Own} {h : Int} (hs : o.size = m + 1) : ∀ (fuel k n : Nat), atRun m h n k → n ≤ 10 * k → WayO m o h n → (∃ k', k ≤ k' ∧ k' < k + fuel ∧ ¬ Tk o (run (m + 1) (bits h) k').1) →
    ∃ N, N < 10 * (k + fuel) ∧ layClean.free m o fuel (run (m + 1) (bits h) k).1 (run (m + 1) (bits h) k).2 = some (pr m h N).j ∧ ¬ Tk o (pr m h N).j ∧ WayO m o h N
  | 0, k, n, _, _, _, ⟨k', a, b, _⟩ => by omega
  | fuel + 1, k, n, a, hn, hw, ⟨k', q1, q2, q3⟩ => by
    have hi : (run (m + 1) (bits h) k).1 ≤ m := by have := run_lt (M := m + 1) (b := bits h) (Nat.zero_lt_succ m) k; omega
    have hre := run_end_le hi
    have hle9 := runEnd_le m (run (m + 1) (bits h) k).1
    have hge : (run (m + 1) (bits h) k).1 ≤ runEnd m (run (m + 1) (bits h) k).1 := by unfold runEnd; split <;> omega
    have pos : ∀ r, r ≤ runEnd m (run (m + 1) (bits h) k).1 - (run (m + 1) (bits h) k).1 → (pr m h (n + r)).j = (run (m + 1) (bits h) k).1 + r := fun r hr => by rw [in_run a r hr]
    unfold layClean.free
    cases f : (List.range (runEnd m (run (m + 1) (bits h) k).1 + 1 - (run (m + 1) (bits h) k).1)).find? (fun k_1 => (o.getD ((run (m + 1) (bits h) k).1 + k_1) (some 0)).isNone) with
    | some r =>
      obtain ⟨p1, i, hi', e1, e2⟩ := List.find?_eq_some_iff_getElem.mp f
      rw [List.getElem_range] at e1
      subst e1
      have hlen : i < runEnd m (run (m + 1) (bits h) k).1 + 1 - (run (m + 1) (bits h) k).1 := by simpa using hi'
      refine ⟨n + i, by omega, ?_, ?_, fun n' l => ?_⟩
      · rw [pos i (by omega)]
      · rw [pos i (by omega)]
        exact (getD_none hs (by omega)).mp p1
      · by_cases c : n' < n
        · exact hw n' c
        · have e3 := e2 (n' - n) (by omega)
          rw [List.getElem_range] at e3
          have e4 : (!(o.getD ((run (m + 1) (bits h) k).1 + (n' - n)) (some 0)).isNone) = true := e3
          have z : ¬ (o.getD ((run (m + 1) (bits h) k).1 + (n' - n)) (some 0)).isNone = true := fun q => by
            rw [q] at e4
            cases e4
          have z2 := fun q => z ((getD_none hs (by omega)).mpr q)
          have z3 := Classical.not_not.mp z2
          rw [show n' = n + (n' - n) by omega, pos (n' - n) (by omega)]
          exact z3
    | none =>
      have no : ∀ r, r ≤ runEnd m (run (m + 1) (bits h) k).1 - (run (m + 1) (bits h) k).1 → Tk o ((run (m + 1) (bits h) k).1 + r) := fun r hr => by
        have z := List.find?_eq_none.mp f r (List.mem_range.mpr (by omega))
        exact Classical.not_not.mp fun q => z ((getD_none hs (by omega)).mpr q)
      have z := in_run a _ (Nat.le_refl _)
      have a' : atRun m h (n + (runEnd m (run (m + 1) (bits h) k).1 - (run (m + 1) (bits h) k).1) + 1) (k + 1) := by
        show adv m (pr m h (n + (runEnd m (run (m + 1) (bits h) k).1 - (run (m + 1) (bits h) k).1))) = _
        rw [z]
        unfold adv
        rw [if_neg (show ¬ (runEnd m (run (m + 1) (bits h) k).1 - (run (m + 1) (bits h) k).1 - (runEnd m (run (m + 1) (bits h) k).1 - (run (m + 1) (bits h) k).1) > 0) by omega)]
        rfl
      have w' : WayO m o h (n + (runEnd m (run (m + 1) (bits h) k).1 - (run (m + 1) (bits h) k).1) + 1) := fun n' l => by
        by_cases c : n' < n
        · exact hw n' c
        · rw [show n' = n + (n' - n) by omega, pos (n' - n) (by omega)]
          exact no _ (by omega)
      have later : k + 1 ≤ k' := by
        rcases Nat.lt_or_ge k k' with c | c
        · exact c
        · have e : k' = k := by omega
          subst e
          exact absurd (by simpa using no 0 (Nat.zero_le _)) q3
      obtain ⟨N, c1, c2, c3, c4⟩ := free_spec hs fuel (k + 1) _ a' (by omega) w' ⟨k', later, by omega, q3⟩
      exact ⟨N, by omega, c2, c3, c4⟩
/-! the whole: what stands where, key by key -/
def liveL (o : Own) (M : Nat) : List (Nat × Nat) := (List.range M).filterMap fun j => (o.getD j none).map (j, ·)
structure OwnOk (m : Nat) (hs : List Int) (o : Own) : Prop where
  sz : o.size = m + 1
  pm : ((liveL o (m + 1)).map (·.2)).Perm (List.range hs.length)
  rc : ∀ (j k : Nat) (h : Int), o[j]? = some (some k) → hs[k]? = some h → ∃ n, n < 10 * turns m ∧ (pr m h n).j = j ∧ WayO m o h n
  kl : ∀ j k : Nat, o[j]? = some (some k) → k < hs.length
theorem range_split {M j : Nat} (hj : j < M) : List.range M = List.range j ++ j :: List.range' (j + 1) (M - j - 1) := by
  rw [List.range_eq_range', List.range_eq_range', show (j :: List.range' (j + 1) (M - j - 1)) = List.range' j (M - j - 1 + 1) from rfl]
  have e := List.range'_append (s := 0) (m := j) (n := M - j - 1 + 1) (step := 1)
  rw [Nat.one_mul, Nat.zero_add] at e
  rw [e, show j + (M - j - 1 + 1) = M by omega]
theorem getD_set {o : Own} {j x : Nat} {v : Option Nat} (hj : j < o.size) : (o.setIfInBounds j v).getD x none = if x = j then v else o.getD x none := by
  rw [Array.getD_eq_getD_getElem?, Array.getD_eq_getD_getElem?, Array.getElem?_setIfInBounds]
  by_cases e : j = x
  · subst e
    rw [if_pos rfl, if_pos hj, if_pos rfl]
    rfl
  · rw [if_neg e, if_neg (fun z => e z.symm)]
theorem fm_congr {f g : Nat → Option (Nat × Nat)} : ∀ {l : List Nat}, (∀ x ∈ l, f x = g x) → l.filterMap f = l.filterMap g
  | [], _ => rfl
  | a :: r, h => by
    rw [List.filterMap_cons, List.filterMap_cons, h a List.mem_cons_self, fm_congr fun x hx => h x (List.mem_cons_of_mem _ hx)]
theorem live_set {o : Own} {m j k : Nat} (hs : o.size = m + 1) (hj : j ≤ m) (hn : ¬ Tk o j) : ∃ A B, liveL o (m + 1) = A ++ B ∧ liveL (o.setIfInBounds j (some k)) (m + 1) = A ++ (j, k) :: B := by
  have hnone : o.getD j none = none := by
    have g : o[j]? = some o[j] := Array.getElem?_eq_getElem (by omega)
    rw [Array.getD_eq_getD_getElem?, g]
    show o[j] = none
    cases z : o[j] with
    | none => rfl
    | some k => exact absurd ⟨k, by rw [g, z]⟩ hn
  refine ⟨(List.range j).filterMap fun x => (o.getD x none).map (x, ·), (List.range' (j + 1) (m + 1 - j - 1)).filterMap fun x => (o.getD x none).map (x, ·), ?_, ?_⟩
  · unfold liveL
    rw [range_split (M := m + 1) (j := j) (by omega), List.filterMap_append, List.filterMap_cons, hnone]
    rfl
  · unfold liveL
    rw [range_split (M := m + 1) (j := j) (by omega), List.filterMap_append, List.filterMap_cons, getD_set (by omega), if_pos rfl]
    show _ ++ (j, k) :: _ = _
    congr 1
    · refine fm_congr fun x hx => ?_
      have := List.mem_range.mp hx
      rw [getD_set (by omega), if_neg (by omega)]
    · congr 1
      refine fm_congr fun x hx => ?_
      have := (List.mem_range'_1.mp hx).1
      rw [getD_set (by omega), if_neg (by omega)]
theorem tk_set {o : Own} {j k x : Nat} (h : Tk o x) (hn : ¬ Tk o j) : Tk (o.setIfInBounds j (some k)) x := by
  obtain ⟨k', e⟩ := h
  refine ⟨k', ?_⟩
  have ne : j ≠ x := fun z => hn ⟨k', by rw [z]; exact e⟩
  rw [Array.getElem?_setIfInBounds, if_neg ne]
  exact e
theorem OwnOk.more {m : Nat} {hs : List Int} {o : Own} {h : Int} {N : Nat} (O : OwnOk m hs o) (hl : N < 10 * turns m) (hn : ¬ Tk o (pr m h N).j) (hw : WayO m o h N) : OwnOk m (hs ++ [h]) (o.setIfInBounds (pr m h N).j (some hs.length)) := by
  have hj := pr_le m h N
  have hjs : (pr m h N).j < o.size := by rw [O.sz]; omega
  have set : ∀ x, (o.setIfInBounds (pr m h N).j (some hs.length))[x]? = if (pr m h N).j = x then some (some hs.length) else o[x]? := fun x => by
    rw [Array.getElem?_setIfInBounds]
    by_cases e : (pr m h N).j = x
    · rw [if_pos e, if_pos hjs, if_pos e]
    · rw [if_neg e, if_neg e]
  refine ⟨by rw [Array.size_setIfInBounds, O.sz], ?_, fun j k g hk hg => ?_, fun j k hk => ?_⟩
  · obtain ⟨A, B, e1, e2⟩ := live_set (k := hs.length) O.sz hj hn
    have p := O.pm
    rw [e1, List.map_append] at p
    rw [e2, List.map_append, List.map_cons, List.length_append, List.length_singleton, List.range_succ]
    exact (List.perm_middle.trans (List.Perm.cons _ p)).trans (List.perm_append_singleton _ _).symm
  · rw [set] at hk
    by_cases e : (pr m h N).j = j
    · rw [if_pos e] at hk
      cases hk
      rw [List.getElem?_append_right (Nat.le_refl _), Nat.sub_self] at hg
      cases hg
      exact ⟨N, hl, e, fun n' l => tk_set (hw n' l) hn⟩
    · rw [if_neg e] at hk
      have kl := O.kl j k hk
      rw [List.getElem?_append_left kl] at hg
      obtain ⟨n, c1, c2, c3⟩ := O.rc j k g hk hg
      exact ⟨n, c1, c2, fun n' l => tk_set (c3 n' l) hn⟩
  · rw [List.length_append, List.length_singleton]
    rw [set] at hk
    by_cases e : (pr m h N).j = j
    · rw [if_pos e] at hk
      cases hk
      omega
    · rw [if_neg e] at hk
      have := O.kl j k hk
      omega
end SM

namespace SM
open PySem PySem.SetTable
theorem fm_len {f : Nat → Option (Nat × Nat)} : ∀ {l : List Nat}, (∀ x ∈ l, ∃ y, f x = some y) → (l.filterMap f).length = l.length
  | [], _ => rfl
  | a :: r, h => by
    obtain ⟨y, e⟩ := h a List.mem_cons_self
    rw [List.filterMap_cons, e]
    show ((r.filterMap f).length + 1) = r.length + 1
    rw [fm_len fun x hx => h x (List.mem_cons_of_mem _ hx)]
theorem tk_getD {o : Own} {j k : Nat} : o.getD j none = some k ↔ o[j]? = some (some k) := by
  rw [Array.getD_eq_getD_getElem?]
  cases z : o[j]? with
  | none => exact ⟨fun q => (nomatch q), fun q => (nomatch q)⟩
  | some v => exact ⟨fun q => congrArg some q, fun q => Option.some.inj q⟩
theorem OwnOk.room {m : Nat} {hs : List Int} {o : Own} (O : OwnOk m hs o) (hl : hs.length ≤ m) : ∃ j, j ≤ m ∧ ¬ Tk o j := by
  refine Classical.byContradiction fun no => ?_
  have all : ∀ j, j ≤ m → Tk o j := fun j hj => Classical.byContradiction fun q => no ⟨j, hj, q⟩
  have e := O.pm.length_eq
  rw [List.length_map, List.length_range] at e
  unfold liveL at e
  rw [fm_len (fun x hx => by
    obtain ⟨k, hk⟩ := all x (by have := List.mem_range.mp hx; omega)
    exact ⟨(x, k), by rw [tk_getD.mpr hk]; rfl⟩), List.length_range] at e
  omega
def layStep (m : Nat) (acc : Option (Own × Nat)) (h : Int) : Option (Own × Nat) := do
  let (owner, k) ← acc
  let j ← layClean.free m owner (turns m) (bits h % (m + 1)) (bits h)
  pure (owner.setIfInBounds j (some k), k + 1)
theorem lay_fold {m : Nat} (hf : full (m + 1) = true) : ∀ (hs2 hs1 : List Int) (o : Own), OwnOk m hs1 o → hs1.length + hs2.length ≤ m → ∃ o', hs2.foldl (layStep m) (some (o, hs1.length)) = some (o', (hs1 ++ hs2).length) ∧ OwnOk m (hs1 ++ hs2) o'
  | [], hs1, o, O, _ => ⟨o, by rw [List.append_nil]; rfl, by rw [List.append_nil]; exact O⟩
  | h :: r, hs1, o, O, hl => by
    rw [List.length_cons] at hl
    obtain ⟨j0, hj0, n0⟩ := O.room (by omega)
    obtain ⟨k', hk', e'⟩ := heads hf h hj0
    obtain ⟨N, c1, c2, c3, c4⟩ := free_spec (h := h) O.sz (turns m) 0 0 rfl (Nat.le_refl _) (fun _ l => absurd l (Nat.not_lt_zero _)) ⟨k', Nat.zero_le _, by omega, by rw [e']; exact n0⟩
    have O2 := O.more (by omega) c3 c4
    obtain ⟨o', e1, O3⟩ := lay_fold hf r (hs1 ++ [h]) _ O2 (by rw [List.length_append, List.length_singleton]; omega)
    have st : layStep m (some (o, hs1.length)) h = some (o.setIfInBounds (pr m h N).j (some hs1.length), hs1.length + 1) := by
      show (layClean.free m o (turns m) (bits h % (m + 1)) (bits h)).bind _ = _
      have c2 : layClean.free m o (turns m) (bits h % (m + 1)) (bits h) = some (pr m h N).j := c2
      rw [c2]
      rfl
    rw [List.append_assoc] at e1 O3
    refine ⟨o', ?_, O3⟩
    rw [List.foldl_cons, st]
    rw [List.length_append, List.length_singleton] at e1
    exact e1
theorem getD_rep {n j : Nat} : (Array.replicate n (none : Option Nat)).getD j none = none := by
  rw [Array.getD_eq_getD_getElem?, Array.getElem?_replicate]
  split <;> rfl
theorem own_start (m : Nat) : OwnOk m [] (Array.replicate (m + 1) none) := by
  refine ⟨by rw [Array.size_replicate], ?_, fun j k h hk => ?_, fun j k hk => ?_⟩
  · have e : liveL (Array.replicate (m + 1) none) (m + 1) = [] := by
      unfold liveL
      rw [List.filterMap_eq_nil_iff]
      intro x _
      rw [getD_rep]
      rfl
    rw [e]
    exact List.Perm.refl _
  · have := tk_getD.mpr hk
    rw [getD_rep] at this
    cases this
  · have := tk_getD.mpr hk
    rw [getD_rep] at this
    cases this
theorem layClean_ok {m : Nat} (hf : full (m + 1) = true) {hs : Array Int} (hl : hs.size ≤ m) : ∃ o, layClean m hs = some o ∧ OwnOk m hs.toList o := by
  obtain ⟨o, e, O⟩ := lay_fold hf hs.toList [] _ (own_start m) (by simpa using hl)
  refine ⟨o, ?_, O⟩
  have e2 : layClean m hs = (hs.foldl (layStep m) (some (Array.replicate (m + 1) none, 0))).map (·.1) := rfl
  have e : hs.toList.foldl (layStep m) (some (Array.replicate (m + 1) none, 0)) = some (o, ([] ++ hs.toList).length) := e
  rw [e2, ← Array.foldl_toList, e]
  rfl
theorem live_mem {o : Own} {M j k : Nat} : (j, k) ∈ liveL o M ↔ j < M ∧ o[j]? = some (some k) := by
  unfold liveL
  rw [List.mem_filterMap]
  constructor
  · rintro ⟨x, hx, e⟩
    cases z : o.getD x none with
    | none => rw [z] at e; cases e
    | some k' =>
      rw [z] at e
      cases e
      exact ⟨List.mem_range.mp hx, tk_getD.mp z⟩
  · rintro ⟨h1, h2⟩
    exact ⟨j, List.mem_range.mpr h1, by rw [tk_getD.mpr h2]; rfl⟩
theorem live_fst {o : Own} : ∀ (l : List Nat), ((l.filterMap fun j => (o.getD j none).map (j, ·)).map (·.1)) = l.filter fun j => (o.getD j none).isSome
  | [] => rfl
  | a :: r => by
    rw [List.filterMap_cons, List.filter_cons]
    cases z : o.getD a none with
    | none => exact live_fst r
    | some k =>
      show a :: _ = a :: _
      rw [← live_fst r]
theorem live_rise (o : Own) (M : Nat) : Rise ((liveL o M).map (·.1)).toArray := by
  intro i k x y hik hx hy
  have p : ((liveL o M).map (·.1)).Pairwise (· < ·) := by
    unfold liveL
    rw [live_fst]
    exact (List.pairwise_lt_range).filter _
  rw [List.getElem?_toArray] at hx hy
  obtain ⟨h1, e1⟩ := List.getElem?_eq_some_iff.mp hx
  obtain ⟨h2, e2⟩ := List.getElem?_eq_some_iff.mp hy
  rw [← e1, ← e2]
  exact List.pairwise_iff_getElem.mp p i k h1 h2 hik
theorem fm_map {α β : Type} {f : α → Option β} {g : α → β} : ∀ {l : List α}, (∀ x ∈ l, f x = some (g x)) → l.filterMap f = l.map g
  | [], _ => rfl
  | a :: r, h => by
    rw [List.filterMap_cons, h a List.mem_cons_self, List.map_cons, fm_map fun x hx => h x (List.mem_cons_of_mem _ hx)]
theorem relay_ok {t : SetTable} {es : Array Ent} {wanted : Nat} (hf : full (sizeAbove wanted - 1 + 1) = true) (ho : (sizeAbove wanted - 1) % 2 = 1) (hl : es.size ≤ sizeAbove wanted - 1) :
    ∃ es' t', relayAll t es wanted = (es', t', false) ∧ TB t' es' ∧ es'.toList.Perm es.toList ∧ t'.led = t.led ∧ t'.plain = t.plain ∧ t'.mask = sizeAbove wanted - 1 := by
  obtain ⟨o, e, O⟩ := layClean_ok hf (hs := es.map (·.1)) (by simpa using hl)
  generalize hm : sizeAbove wanted - 1 = m at *
  have hn : (es.map (·.1)).toList.length = es.size := by simp
  have pm := O.pm
  rw [hn] at pm
  have order_lt : ∀ k ∈ (liveL o (m + 1)).map (·.2), k < es.size := fun k hk => List.mem_range.mp (pm.mem_iff.mp hk)
  have hg : ∀ k ∈ (liveL o (m + 1)).map (·.2), es[k]? = some (es.getD k (0, .none)) := fun k hk => by
    have := order_lt k hk
    rw [Array.getD_eq_getD_getElem?, Array.getElem?_eq_getElem this]
    rfl
  have esL : (((liveL o (m + 1)).map (·.2)).toArray.filterMap (es[·]?)).toList = ((liveL o (m + 1)).map (·.2)).map fun k => es.getD k (0, .none) := by
    rw [Array.toList_filterMap]
    exact fm_map hg
  have len : (liveL o (m + 1)).length = es.size := by
    have := pm.length_eq
    rw [List.length_map, List.length_range] at this
    exact this
  have es'sz : (((liveL o (m + 1)).map (·.2)).toArray.filterMap (es[·]?)).size = es.size := by
    rw [← Array.length_toList, esL, List.length_map, List.length_map, len]
  have rel : t.relaid (es.map (·.1)) wanted = some ({ mask := m, place := ((liveL o (m + 1)).map (·.1)).toArray, dummies := #[], finger := t.finger, led := t.led, moves := t.movedTo m, plain := t.plain }, ((liveL o (m + 1)).map (·.2)).toArray) := by
    unfold relaid laid
    rw [hm]
    show (layClean m (es.map (·.1))).bind _ = _
    rw [e]
    rfl
  have psz : ((liveL o (m + 1)).map (·.1)).toArray.size = es.size := by rw [List.size_toArray, List.length_map, len]
  have T : TB { mask := m, place := ((liveL o (m + 1)).map (·.1)).toArray, dummies := #[], finger := t.finger, led := t.led, moves := t.movedTo m, plain := t.plain } (((liveL o (m + 1)).map (·.2)).toArray.filterMap (es[·]?)) := by
    have at_ : ∀ (i j : Nat), ((liveL o (m + 1)).map (·.1)).toArray[i]? = some j → ∃ k, (liveL o (m + 1))[i]? = some (j, k) := fun i j h => by
      rw [List.getElem?_toArray, List.getElem?_map] at h
      cases z : (liveL o (m + 1))[i]? with
      | none => rw [z] at h; cases h
      | some p =>
        rw [z] at h
        obtain ⟨a, b⟩ := p
        cases h
        exact ⟨b, rfl⟩
    have inj : ∀ j k : Nat, o[j]? = some (some k) → j ≤ m → In { mask := m, place := ((liveL o (m + 1)).map (·.1)).toArray, dummies := #[], finger := t.finger, led := t.led, moves := t.movedTo m, plain := t.plain } j := fun j k h hj => by
      obtain ⟨i, hi⟩ := List.getElem?_of_mem (live_mem.mpr ⟨Nat.lt_succ_of_le hj, h⟩)
      refine ⟨i, ?_⟩
      show ((liveL o (m + 1)).map (·.1)).toArray[i]? = some j
      rw [List.getElem?_toArray, List.getElem?_map, hi]
      rfl
    refine ⟨by rw [es'sz]; exact psz, live_rise o (m + 1), fun i j h => ?_, rfl, hf, ho, by show _ ≤ m; rw [psz]; exact hl, fun i j f h hf' => ?_⟩
    · obtain ⟨k, hk⟩ := at_ i j h
      have := (live_mem.mp (List.mem_of_getElem? hk)).1
      show j ≤ m
      omega
    · obtain ⟨k, hk⟩ := at_ i j h
      have mem := live_mem.mp (List.mem_of_getElem? hk)
      have f1 : (((liveL o (m + 1)).map (·.2)).toArray.filterMap (es[·]?)).toList[i]? = some f := by rw [Array.getElem?_toList]; exact hf'
      rw [esL, List.getElem?_map, List.getElem?_map, hk] at f1
      have f2 : es.getD k (0, .none) = f := Option.some.inj f1
      have kin : k ∈ (liveL o (m + 1)).map (·.2) := List.mem_map.mpr ⟨_, List.mem_of_getElem? hk, rfl⟩
      have f3 := hg k kin
      rw [f2] at f3
      have f4 : (es.map (·.1)).toList[k]? = some f.1 := by
        rw [Array.getElem?_toList, Array.getElem?_map, f3]
        rfl
      obtain ⟨n, c1, c2, c3⟩ := O.rc j k f.1 mem.2 f4
      refine ⟨n, c1, c2, fun n' l => ?_⟩
      obtain ⟨k', z⟩ := c3 n' l
      exact inj _ k' z (pr_le m f.1 n')
  refine ⟨_, _, ?_, T, ?_, rfl, rfl, rfl⟩
  · unfold relayAll
    rw [rel]
    dsimp only
    rw [if_pos]
    rw [Bool.and_eq_true]
    refine ⟨?_, T.fits⟩
    unfold coversAll
    exact List.isPerm_iff.mpr pm
  · rw [esL]
    have p2 := pm.map fun k => es.getD k (0, .none)
    refine p2.trans (List.Perm.of_eq ?_)
    refine List.ext_getElem? fun i => ?_
    rw [List.getElem?_map]
    by_cases q : i < es.size
    · rw [List.getElem?_range q, Array.getElem?_toList, Array.getElem?_eq_getElem q]
      show some (es.getD i (0, .none)) = _
      rw [Array.getD_eq_getD_getElem?, Array.getElem?_eq_getElem q]
      rfl
    · rw [List.getElem?_eq_none (by rw [List.length_range]; omega), Array.getElem?_toList, Array.getElem?_eq_none (by omega)]
      rfl
theorem full_16 : full 16 = true := by decide +kernel
theorem full_64 : full 64 = true := by decide +kernel
theorem full_256 : full 256 = true := by decide +kernel
theorem grown_small : ∀ n, n ≤ 127 → [8, 16, 32, 64, 128, 256, 512].contains (sizeAbove (grown n)) = true ∧ n < sizeAbove (grown n) := by decide +kernel
theorem grow_ok {n : Nat} (hn : n ≤ 127) : full (sizeAbove (grown n) - 1 + 1) = true ∧ (sizeAbove (grown n) - 1) % 2 = 1 ∧ n ≤ sizeAbove (grown n) - 1 := by
  obtain ⟨h1, h2⟩ := grown_small n hn
  generalize sizeAbove (grown n) = z at *
  have : z = 8 ∨ z = 16 ∨ z = 32 ∨ z = 64 ∨ z = 128 ∨ z = 256 ∨ z = 512 := by simpa using h1
  rcases this with rfl | rfl | rfl | rfl | rfl | rfl | rfl
  · exact ⟨full_8, rfl, by omega⟩
  · exact ⟨full_16, rfl, by omega⟩
  · exact ⟨full_32, rfl, by omega⟩
  · exact ⟨full_64, rfl, by omega⟩
  · exact ⟨full_128, rfl, by omega⟩
  · exact ⟨full_256, rfl, by omega⟩
  · exact ⟨full_512, rfl, by omega⟩
end SM

namespace SM
open PySem PySem.SetTable
section
variable {t : SetTable} {es : Array Ent}
theorem ins_mem {p : Nat} (hp : p ≤ es.size) (e f : Ent) : f ∈ (insertAt es p e).toList ↔ f = e ∨ f ∈ es.toList := by
  constructor
  · intro h
    obtain ⟨i, hi⟩ := List.getElem?_of_mem h
    rw [Array.getElem?_toList, ins_get hp] at hi
    by_cases c : i < p
    · rw [if_pos c] at hi
      exact .inr (List.mem_of_getElem? (by rw [Array.getElem?_toList]; exact hi))
    · rw [if_neg c] at hi
      by_cases c2 : i = p
      · rw [if_pos c2] at hi
        exact .inl (Option.some.inj hi).symm
      · rw [if_neg c2] at hi
        exact .inr (List.mem_of_getElem? (by rw [Array.getElem?_toList]; exact hi))
  · intro h
    rcases h with rfl | h
    · refine List.mem_of_getElem? (i := p) ?_
      rw [Array.getElem?_toList, ins_get hp, if_neg (Nat.lt_irrefl _), if_pos rfl]
    · obtain ⟨i, hi⟩ := List.getElem?_of_mem h
      rw [Array.getElem?_toList] at hi
      by_cases c : i < p
      · refine List.mem_of_getElem? (i := i) ?_
        rw [Array.getElem?_toList, ins_get hp, if_pos c, hi]
      · refine List.mem_of_getElem? (i := i + 1) ?_
        rw [Array.getElem?_toList, ins_get hp, if_neg (by omega), if_neg (by omega), Nat.add_sub_cancel, hi]
theorem grown_far : ∀ n, n ≤ 127 → n * 5 < (sizeAbove (grown n) - 1) * 3 ∧ sizeAbove (grown n) ≤ 512 := by decide +kernel
end
end SM

namespace SM
open PySem PySem.SetTable
section
variable {prog : Program} {w : World} {K : Type} [DecidableEq K] {knd : KeyKind prog w K} {A : Around} {E : Value → Shared → Prop} {s : Shared} {t : SetTable} {es : Array Ent}
/-- an entry that is of the key k, by scan -/
def EntP (knd : KeyKind prog w K) (e : Ent) (k : K) : Prop := knd.is k e.2 = true ∧ e.1 = knd.hash k ∧ e.2.scannable = true
/-- the entries are of just the keys -/
structure SP (knd : KeyKind prog w K) (es : Array Ent) (ks : List K) : Prop where
  ok : ∀ e ∈ es.toList, ∃ k, k ∈ ks ∧ EntP knd e k
  on : ∀ k ∈ ks, ∃ e, e ∈ es.toList ∧ EntP knd e k
  len : es.size = ks.length
/-- a set whose things are plain keys -/
structure PTab (knd : KeyKind prog w K) (o : Obj) (ks : List K) : Prop where
  ex : o.ExactSet
  tb : ∃ es ep t, o.data = .set es ep t ∧ TB t es ∧ es.size * 5 < t.mask * 3 ∧ t.mask ≤ 511 ∧ t.plain = true ∧ t.led = (!(w.params.followText "set-order")) ∧ SP knd es ks
theorem SP.elems {ks : List K} (S : SP knd es ks) : ElemsOf knd es.toList := fun e he => by
  obtain ⟨k, _, h1, h2, h3⟩ := S.ok e he
  exact ⟨⟨k, h1, h2⟩, h3⟩
theorem SP.perm {ks : List K} {es' : Array Ent} (S : SP knd es ks) (p : es'.toList.Perm es.toList) : SP knd es' ks := by
  refine ⟨fun e he => S.ok e (p.mem_iff.mp he), fun k hk => ?_, ?_⟩
  · obtain ⟨e, h1, h2⟩ := S.on k hk
    exact ⟨e, p.mem_iff.mpr h1, h2⟩
  · have := p.length_eq
    rw [Array.length_toList, Array.length_toList] at this
    rw [this, S.len]
theorem SP.put {ks : List K} {k : K} {x : Value} {p : Nat} (S : SP knd es ks) (hp : p ≤ es.size) (hk : knd.is k x = true) (hs : x.scannable = true) : SP knd (insertAt es p (knd.hash k, x)) (ks ++ [k]) := by
  refine ⟨fun e he => ?_, fun k' hk' => ?_, by rw [ins_size hp, S.len, List.length_append, List.length_singleton]⟩
  · rcases (ins_mem hp _ _).mp he with rfl | he
    · exact ⟨k, by simp, hk, rfl, hs⟩
    · obtain ⟨k', h1, h2⟩ := S.ok e he
      exact ⟨k', by simp [h1], h2⟩
  · rcases List.mem_append.mp hk' with h1 | h1
    · obtain ⟨e, h2, h3⟩ := S.on k' h1
      exact ⟨e, (ins_mem hp _ _).mpr (.inr h2), h3⟩
    · have : k' = k := by simpa using h1
      subst this
      exact ⟨_, (ins_mem hp _ _).mpr (.inl rfl), hk, rfl, hs⟩
theorem SP.find {ks : List K} {k : K} (S : SP knd es ks) : (k ∈ ks → ∃ j, List.findIdx? (fun e => knd.is k e.2) es.toList = some j) ∧ (k ∉ ks → List.findIdx? (fun e => knd.is k e.2) es.toList = none) := by
  constructor
  · intro h
    obtain ⟨e, h1, h2, _⟩ := S.on k h
    cases z : List.findIdx? (fun e => knd.is k e.2) es.toList with
    | none =>
      have := List.findIdx?_eq_none_iff.mp z e h1
      rw [h2] at this
      cases this
    | some j => exact ⟨j, rfl⟩
  · intro h
    refine List.findIdx?_eq_none_iff.mpr fun e he => ?_
    obtain ⟨k', h1, h2, _⟩ := S.ok e he
    cases z : knd.is k e.2 with
    | false => rfl
    | true => exact absurd (knd.inj e.2 k k' z h2 ▸ h1) h
theorem lay_new {N : Nat} {h : Int} {x : Value} (T : TB t es) (hl : N < 10 * turns t.mask) (hN : ¬ In t (pr t.mask h N).j) (hw : Way t h N) (room : es.size + 1 ≤ t.mask) :
    layNew t es h x = (insertAt es (t.put (pr t.mask h N).j).2 (h, x), (t.put (pr t.mask h N).j).1, false, false) := by
  have T1 := T.put (e := (h, x)) hl hN hw room (pr_le t.mask h N)
  have f := T1.fits
  unfold layNew
  rw [T.freeSlot hl hN hw]
  dsimp only at f ⊢
  unfold orStandIn
  rw [f]
  rfl
/-- adding a plain key -/
theorem addP_wp {a : Addr} {x : Value} {o : Obj} {k : K} {ks : List K} {Q : Bool → Shared → Prop} (ha : s.heap.get? a = some o) (S : PTab knd o ks) (hk : knd.is k x = true) (hsc : x.scannable = true) (hpl : plainKind x = true) (few : ks.length + 1 ≤ 127)
    (q0 : k ∈ ks → Q false s) (q1 : k ∉ ks → ∀ h' o', Heap.SameBut a s.heap h' → h'.get? a = some o' → PTab knd o' (ks ++ [k]) → Q true { s with heap := h' }) :
    wpAny (model prog w) A (setAddHashed a x (knd.hash k)) Q E s := by
  obtain ⟨ex, es, ep, t, hd, T, nf, hm, pl, ld, sp⟩ := S
  have bnd : es.size < scanBound := by
    have z : scanBound = 4096 := rfl
    have := sp.len
    omega
  unfold setAddHashed setAddHashedIn
  refine wpAny_holding (wpAny_bind (wpAny_setState_of ha hd T.fits ?_))
  dsimp only
  rw [byScan_of hsc bnd sp.elems, if_pos rfl]
  unfold setAddByScan
  refine wpAny_bind ?_
  refine wpAny_bind (wpAny_rule ?_)
  refine wpAny_bind (wpAny_setScan_of hk ha hd T.fits sp.elems ?_)
  by_cases c : k ∈ ks
  · obtain ⟨j, hj⟩ := sp.find.1 c
    rw [hj]
    dsimp only
    exact wpAny_pure (wpAny_pure (q0 c))
  · rw [sp.find.2 c]
    dsimp only
    obtain ⟨N, hl, hN, hw⟩ := T.first (knd.hash k)
    have hj := pr_le t.mask (knd.hash k) N
    have T1 := T.put (e := (knd.hash k, x)) hl hN hw (by omega) hj
    have hp : (t.put (pr t.mask (knd.hash k) N).j).2 ≤ es.size := by rw [← T.sz]; exact below_le T.ri _
    have S1 := sp.put (x := x) hp hk hsc
    have z1 := ins_size hp ((knd.hash k, x) : Ent)
    have m1 : (t.put (pr t.mask (knd.hash k) N).j).1.mask = t.mask := rfl
    have m2 : (t.put (pr t.mask (knd.hash k) N).j).1.plain = t.plain := rfl
    have m3 : (t.put (pr t.mask (knd.hash k) N).j).1.led = t.led := rfl
    rw [lay_new T hl hN hw (by omega)]
    dsimp only at T1 ⊢
    generalize (t.put (pr t.mask (knd.hash k) N).j).1 = t1 at *
    generalize (t.put (pr t.mask (knd.hash k) N).j).2 = p1 at *
    have len1 : es.size + 1 ≤ 127 := by rw [sp.len]; exact few
    refine wpAny_bind (wpAny_pure ?_)
    rw [if_pos (m2.trans pl)]
    refine wpAny_bind ?_
    rw [hashByValue_scannable 8 hsc, hpl]
    refine wpAny_pure ?_
    rw [if_pos rfl]
    refine wpAny_bind (wpAny_storeSet_of ha hd ?_ ?_)
    · have po := putSet_of (insertAt es p1 (knd.hash k, x)) t1 hd
      have g1 : (s.heap.update a (Obj.putSet (insertAt es p1 (knd.hash k, x)) t1)).get? a = some { o with data := .set (insertAt es p1 (knd.hash k, x)) (ep + 1) t1 } := by
        rw [Heap.get?_update_self _ ha (by rw [po]; rfl), po]
      have sb := Heap.SameBut.update s.heap a (Obj.putSet (insertAt es p1 (knd.hash k, x)) t1)
      generalize s.heap.update a (Obj.putSet (insertAt es p1 (knd.hash k, x)) t1) = h1 at *
      split
      · obtain ⟨g2, g3, g4⟩ := grow_ok (n := es.size + 1) len1
        obtain ⟨g5, g6⟩ := grown_far (es.size + 1) len1
        rw [z1]
        obtain ⟨es3, t3, e3, T3, p3, l3, pl3, m3'⟩ := relay_ok (t := t1) (es := insertAt es p1 (knd.hash k, x)) (wanted := grown (es.size + 1)) g2 g3 (by rw [z1]; exact g4)
        rw [e3]
        dsimp only
        have l4 := p3.length_eq
        rw [Array.length_toList, Array.length_toList, z1] at l4
        refine wpAny_bind (wpAny_pure ?_)
        refine wpAny_bind (wpAny_storeSet_of (s := { s with heap := h1 }) g1 rfl ?_ (by rw [l4]; exact Nat.le_trans len1 (by decide)))
        have po3 := putSet_of (o := { o with data := .set (insertAt es p1 (knd.hash k, x)) (ep + 1) t1 }) es3 t3 rfl
        refine wpAny_pure (wpAny_pure (q1 c _ _ ⟨?_, fun y hy => ?_⟩ (Heap.get?_update_self _ g1 (by rw [po3]; rfl)) ?_))
        · exact (Heap.SameBut.update h1 a (Obj.putSet es3 t3)).1.trans sb.1
        · exact ((Heap.SameBut.update h1 a (Obj.putSet es3 t3)).2 y hy).trans (sb.2 y hy)
        · rw [po3]
          exact ⟨ex, es3, _, t3, rfl, T3, by rw [l4, m3']; exact g5, by rw [m3']; omega, pl3.trans (m2.trans pl), l3.trans (m3.trans ld), S1.perm p3⟩
      · next nt =>
        refine wpAny_pure (wpAny_pure (q1 c _ _ sb g1 ⟨ex, _, _, t1, rfl, T1, ?_, by omega, m2.trans pl, m3.trans ld, S1⟩))
        have e1 : ¬ (t1.fill * 5 ≥ t1.mask * 3) := fun q => nt (by
          unfold tooFull
          rw [decide_eq_true q]
          rfl)
        have e2 : t1.fill = (insertAt es p1 (knd.hash k, x)).size := by
          unfold fill
          rw [T1.sz, T1.du]
          rfl
        rw [e2] at e1
        omega
    · rw [z1]
      exact Nat.le_trans len1 (by decide)
end
end SM

namespace SM
open PySem PySem.SetTable
section
variable {prog : Program} {w : World} {K : Type} [DecidableEq K] {knd : KeyKind prog w K} {A : Around}
/-- what a list leaves in a set -/
def metP (f : Nat → K) : Nat → List K
  | 0 => []
  | i + 1 => if f i ∈ metP f i then metP f i else metP f i ++ [f i]
theorem metP_len (f : Nat → K) : ∀ i, (metP f i).length ≤ i
  | 0 => Nat.le_refl _
  | i + 1 => by
    have ih := metP_len f i
    unfold metP
    split
    · omega
    · rw [List.length_append, List.length_singleton]
      omega
theorem metP_mem (f : Nat → K) (k : K) : ∀ i, k ∈ metP f i ↔ ∃ j, j < i ∧ f j = k
  | 0 => ⟨fun h => (nomatch h), fun ⟨j, h, _⟩ => absurd h (Nat.not_lt_zero _)⟩
  | i + 1 => by
    have ih := metP_mem f k i
    have up : (∃ j, j < i + 1 ∧ f j = k) ↔ (∃ j, j < i ∧ f j = k) ∨ f i = k := by
      constructor
      · rintro ⟨j, h, e⟩
        rcases Nat.lt_succ_iff_lt_or_eq.mp h with h | h
        · exact .inl ⟨j, h, e⟩
        · subst h
          exact .inr e
      · rintro (⟨j, h, e⟩ | e)
        · exact ⟨j, Nat.lt_succ_of_lt h, e⟩
        · exact ⟨i, Nat.lt_succ_self i, e⟩
    rw [up, ← ih, show metP f (i + 1) = if f i ∈ metP f i then metP f i else metP f i ++ [f i] from rfl]
    split
    · next c =>
      exact ⟨.inl, fun h => h.elim id fun e => e ▸ c⟩
    · rw [List.mem_append, List.mem_singleton]
      exact ⟨fun h => h.elim .inl fun e => .inr e.symm, fun h => h.elim .inl fun e => .inr e.symm⟩
theorem freshP_ok : PTab knd { cls := .type "set", dict := none, data := .set #[] 0 (.fresh 0 0 (!(w.params.followText "set-order"))) } [] := by
  refine ⟨⟨rfl, rfl, rfl⟩, #[], 0, _, rfl, ⟨rfl, ?_, ?_, rfl, full_8, (by decide : 7 % 2 = 1), Nat.zero_le _, ?_⟩, (by decide : 0 * 5 < 7 * 3), (by decide : 7 ≤ 511), rfl, rfl, ⟨?_, ?_, rfl⟩⟩
  · intro i k x y _ hx
    cases hx
  · intro i j h
    cases h
  · intro i j e h
    cases h
  · intro e he
    cases he
  · intro k hk
    cases hk
section
variable {R : Result → Shared → Prop} {I : Addr} {fp wr : List Addr} {G : Array GenState → Array GenState → Prop} {n : Nat} {P : Nat → Value → Prop} {St : Nat → Shared → Prop}
/-- the loop of set(..) over plain keys -/
theorem loop_plain (W : PySem.WalksS prog w A.in1 I fp wr G n P St) (Z : Addr) (out : Z ∉ fp) (f : Nat → K) (is : ∀ i v, P i v → knd.is (f i) v = true ∧ v.scannable = true ∧ plainKind v = true) (few : n ≤ 126) : ∀ (d i : Nat) (s : Shared), n - i = d → i ≤ n → St i s → (∃ o, s.heap.get? Z = some o ∧ PTab knd o (metP f i)) →
      (∀ s', PySem.Moved (Z :: wr) G s s' → (∃ o, s'.heap.get? Z = some o ∧ PTab knd o (metP f n)) → R (.ok (.ret .none)) s') → codeAny (model prog w) A (.builtin "set.update.loop" ⟨[.ref Z, .ref I], []⟩) R s := by
  have zw : Z ∉ wr := fun h => out (W.sub _ h)
  have more : ∀ b ∈ wr, b ∈ Z :: wr := fun b hb => List.mem_cons_of_mem _ hb
  intro d
  induction d with
  | zero =>
    intro i s hd hi st so fin
    have e : i = n := by omega
    subst e
    refine codeAny_builtin PyProof.Rows.F.entry_set_update_loop ?_
    rw [Around.under_plainId PyProof.Rows.F.plain_set_update_loop _]
    refine wpAny_bind (m := pyNext (.ref I)) (W.done s _ _ st fun s' mv => ?_)
    obtain ⟨o, ho, so⟩ := so
    exact wpAny_pure (fin s' (mv.mono more) ⟨o, mv.heap Z o zw ho, so⟩)
  | succ d ih =>
    intro i s hd hi st so fin
    have lt : i < n := by omega
    refine codeAny_builtin PyProof.Rows.F.entry_set_update_loop ?_
    rw [Around.under_plainId PyProof.Rows.F.plain_set_update_loop _]
    refine wpAny_bind (m := pyNext (.ref I)) (W.item i s _ _ lt st fun v s' hP st' mv => ?_)
    obtain ⟨kb, ks, kp⟩ := is i v hP
    obtain ⟨o, ho, so⟩ := so
    have ho' := mv.heap Z o zw ho
    refine wpAny_bind (m := holding [v] (setAdd Z v)) (wpAny_holding ?_)
    unfold setAdd
    refine wpAny_holding (wpAny_bind (knd.pyHash kb ?_))
    have ml := metP_len f i
    have up : ∀ (h' : Heap) (o' : Obj), Heap.SameBut Z s'.heap h' → h'.get? Z = some o' → PTab knd o' (metP f (i + 1)) → ∀ {tk : Nat}, s'.toks ≤ tk → codeAny (model prog w) A (.builtin "set.update.loop" ⟨[.ref Z, .ref I], []⟩) R { s' with heap := h', toks := tk } := fun h' o' sb ho2 so2 {tk} tl => by
      refine ih (i + 1) _ (by omega) lt (W.frame _ s' _ _ st' tl fun c hc oc ec => ?_) ⟨o', ho2, so2⟩ fun s2 mv2 so3 => ?_
      · rw [sb.2 c (fun q => out (q ▸ hc))]
        exact ec
      · refine fin s2 (PySem.Moved.trans W.gtrans ((mv.mono more).then_heap tl fun c oc hc ec => ?_) mv2) so3
        rw [sb.2 c (fun q => hc (by rw [q]; exact List.mem_cons_self))]
        exact ec
    refine addP_wp (s := { s' with toks := s'.toks + 1 }) (A := A.in1) ho' so kb ks kp (by omega) (fun hin => ?_) fun hout h' o' sb ho2 so2 => ?_
    · refine wpAny_pure ⟨plainId_quiet PyProof.Rows.F.plain_set_update_loop _, ?_⟩
      refine up s'.heap o ⟨rfl, fun _ _ => rfl⟩ ho' ?_ (Nat.le_add_right _ _)
      rw [metP, if_pos hin]
      exact so
    · refine wpAny_pure ⟨plainId_quiet PyProof.Rows.F.plain_set_update_loop _, ?_⟩
      refine up h' o' sb ho2 ?_ (Nat.le_add_right _ _)
      rw [metP, if_neg hout]
      exact so2
end
end
end SM

namespace SM
open PySem PySem.SetTable
section
variable {prog : Program} {w : World} {K : Type} [DecidableEq K] {knd : KeyKind prog w K} {A : Around} {E : Value → Shared → Prop} {s : Shared}
abbrev setNew (w : World) : Obj := { cls := .type "set", dict := none, data := .set #[] 0 (.fresh 0 0 (!(w.params.followText "set-order"))) }
theorem code_new (l : Value) {Q : Value → Shared → Prop} (q : Q (.ref s.heap.objs.size) { s with heap := s.heap.push (setNew w) }) :
    codeAny (model prog w) A (.call (.builtin "set.__new__") ⟨[.type "set", l], []⟩) (wants Q E) s := by
  refine codeAny_of_tree (?_ : _)
  show wpAny _ A.in1 (do
    checkBuiltinCall "set.__new__" ⟨[.type "set", l], []⟩
    again (.builtin "set.__new__" ⟨[.type "set", l], []⟩)) _ _ s
  refine wpAny_bind (wpAny_of_eq (F.newCall_set_1 l) (wpAny_pure ⟨plainId_quiet F.plain_set_new _, codeAny_builtin F.entry_set_new (?_ : _)⟩))
  rw [Around.under_plainId F.plain_set_new (_ : Args)]
  unfold Builtin.«set.__new__»
  unfold Builtin.Frozenset.newClass
  have sub0 := sub_set_self
  obtain ⟨hp, g, d, tk, os⟩ := s
  dsimp only
  wp_walk
  refine wpAny_askSetting (wpAny_pure (?_ : _))
  dsimp only
  simp only [newObj]
  refine wpAny_bind (wpAny_alloc (wpAny_pure (?_ : _)))
  exact wpAny_pure q
/-- set(..) of a list of plain keys -/
theorem set_of_plain {l : Addr} {its : Array Value} {f : Nat → K} {Q : Value → Shared → Prop} (hh : A.handled = none) (hl : s.heap.IsList l its) (few : its.size ≤ 126) (is : ∀ i v, its[i]? = some v → knd.is (f i) v = true ∧ v.scannable = true ∧ plainKind v = true)
    (q : ∀ (h' : Heap) (tk : Nat) (o : Obj), (∀ b o', s.heap.get? b = some o' → h'.get? b = some o') → h'.get? s.heap.objs.size = some o → PTab knd o (metP f its.size) → Q (.ref s.heap.objs.size) { s with heap := h', toks := tk }) :
    wpAny (model prog w) A (call (.type "set") [.ref l]) Q E s := by
  obtain ⟨cc, tl, hmro⟩ := F.called_set.mro
  have made' := F.called_set.made
  have sub' := F.called_set.sub
  refine wpAny_call (codeAny_of_tree (?_ : wpAny _ _ (callAny (.type "set") _) _ _ _))
  refine wpAny_pure ⟨Code.quiet_builtin _ (by decide +kernel), codeAny_builtin F.entry_type_call (?_ : _)⟩
  rw [Around.under_plain (weight_type_call_type "set" [.ref l] []) rfl]
  have no' := F.called_set.notType
  have can' := F.called_set.canCreate
  have chk' := F.typeCall_set_1 (.ref l)
  repeat (any_goals (first | assumption | wp_step))
  refine codeAny_mono (code_new (.ref l) (E := E) (Q := fun ob s1 => ob = .ref s.heap.objs.size ∧ s1 = { s with heap := s.heap.push (setNew w) }) ⟨rfl, rfl⟩) fun r s1 hr1 => ?_
  cases r with
  | error e => exact hr1
  | ok fl =>
    cases fl with
    | ret ob =>
      obtain ⟨rfl, rfl⟩ := hr1
      have zs : (s.heap.push (setNew w)).get? s.heap.objs.size = some (setNew w) := Heap.get?_push_size _ rfl
      have ty : Shared.TypeIs { s with heap := s.heap.push (setNew w) } (.ref s.heap.objs.size) "set" := ⟨_, zs, rfl⟩
      have li' := F.called_set.init.lookup
      have bi' := F.called_set.init.bind (.ref s.heap.objs.size)
      repeat (any_goals (first | assumption | wp_step))
      refine codeAny_mono (codeAny_call_builtin (R := wants (fun r s2 => r = .none ∧ ∃ h' tk o, s2 = { s with heap := h', toks := tk } ∧ (∀ b o', s.heap.get? b = some o' → h'.get? b = some o') ∧ h'.get? s.heap.objs.size = some o ∧ PTab knd o (metP f its.size)) E) F.called_set.init.plain F.entry_set_init (check_set_init_1 ty ?_)) fun r2 s2 hr2 => ?_
      · obtain ⟨ol, hol, hcl, nl, hdl⟩ := hl
        obtain ⟨ocl, odi, oda, osl⟩ := ol
        simp only at hcl hdl
        subst hcl
        subst hdl
        have hol2 : (s.heap.push (setNew w)).get? l = some { cls := .type "list", dict := odi, data := .seq its nl, slots := osl } := Heap.get?_push_of_some _ hol
        have sl1 := F.sub_list_set
        have sl2 := F.sub_list_frozenset
        have nd' : (Value.type "list" == Value.type "dict") = false := by decide
        have hl1 : (s.heap.push (setNew w)).IsList l its := ⟨_, hol2, rfl, nl, rfl⟩
        unfold Builtin.«set.__init__» noKeywords Builtin.Frozenset.updateFrom
        generalize hPI : pyIter = PI
        wp_walk
        subst hPI
        refine wpAny_pyIter_list hl1 (wpAny_bind (wpAny_runValue ?_))
        have lz : l < s.heap.objs.size := Heap.lt_size hol
        have h3 : A.in1.in1.in1.handled = none := by simp [hh]
        have nI : l ≠ (s.heap.push (setNew w)).objs.size := by
          rw [Heap.size_push]
          exact Nat.ne_of_lt (Nat.lt_succ_of_lt lz)
        have out : s.heap.objs.size ∉ [(s.heap.push (setNew w)).objs.size, l] := by
          rw [Heap.size_push]
          simp only [List.mem_cons, List.not_mem_nil, or_false, not_or]
          exact ⟨Nat.ne_of_lt (Nat.lt_succ_self _), Nat.ne_of_gt lz⟩
        refine loop_plain (knd := knd) (Walks.list h3 _ l nI its).toS s.heap.objs.size out f is few its.size 0 _ rfl (Nat.zero_le _) ⟨⟨_, Heap.get?_push_size _ rfl, rfl, rfl⟩, hl1.push _⟩ ⟨setNew w, Heap.get?_push_of_some _ zs, freshP_ok⟩ ?fin
        case fin =>
          intro s' mv so
          obtain ⟨h', g', d', tk', os'⟩ := s'
          obtain rfl : g' = s.gens := mv.gens
          obtain rfl : d' = s.drawn := mv.drawn
          obtain rfl : os' = s.os := mv.os
          obtain ⟨o, ho, so⟩ := so
          refine wpAny_pure (?_ : wpAny _ _ _ _ _ _)
          refine id (?_ : wpAny _ _ (ret Value.none) _ _ _)
          refine wpAny_pure ⟨rfl, h', tk', o, rfl, fun b o' hb => ?_, ho, so⟩
          have bz := Heap.lt_size hb
          refine mv.heap b o' ?_ (Heap.get?_push_of_some _ (Heap.get?_push_of_some _ hb))
          rw [Heap.size_push]
          simp only [List.mem_cons, List.not_mem_nil, or_false, not_or]
          exact ⟨Nat.ne_of_lt bz, Nat.ne_of_lt (Nat.lt_succ_of_lt bz)⟩
      · cases r2 with
        | error e => exact hr2
        | ok fl2 =>
          cases fl2 with
          | ret r =>
            obtain ⟨rfl, h', tk, o, rfl, kp, ho, so⟩ := hr2
            repeat (any_goals (first | assumption | wp_step))
            exact q h' tk o kp ho so
          | _ => exact hr2.elim
    | _ => exact hr1.elim
end
end SM

namespace SM
open PySem PySem.SetTable
theorem below_zero {xs : Array Nat} (hr : Rise xs) : below xs 0 = 0 := by
  obtain ⟨h1, h2⟩ := below_spec hr 0
  rcases Nat.eq_zero_or_pos (below xs 0) with z | z
  · exact z
  · have hi : 0 < xs.size := by omega
    have := (h2 0 xs[0] (Array.getElem?_eq_getElem hi)).mp z
    omega
theorem below_next {xs : Array Nat} (hr : Rise xs) {i j : Nat} (h : xs[i]? = some j) : below xs (j + 1) = i + 1 := by
  obtain ⟨h1, h2⟩ := below_spec hr (j + 1)
  have a := (h2 i j h).mpr (Nat.lt_succ_self j)
  rcases Nat.lt_or_ge (i + 1) (below xs (j + 1)) with z | z
  · have hi : i + 1 < xs.size := by omega
    have e := Array.getElem?_eq_getElem hi
    have b := (h2 (i + 1) _ e).mp z
    have c := hr i (i + 1) j _ (Nat.lt_succ_self i) h e
    omega
  · omega
theorem erase_perm {α : Type} : ∀ (l : List α) (i : Nat) (h : i < l.length), (l[i] :: l.eraseIdx i).Perm l
  | x :: l, 0, _ => List.Perm.refl _
  | x :: l, i + 1, h => by
    have hi : i < l.length := by simpa using h
    have ih := erase_perm l i hi
    refine List.Perm.trans (List.Perm.swap x l[i] (l.eraseIdx i)) (List.Perm.cons x ih)
theorem pick_go {α : Type} (next : Nat → Nat) : ∀ (fuel k : Nat) (left : List α) (out : Array α), left.length = fuel → (pickOrder.go next fuel k left out).toList.Perm (out.toList ++ left)
  | 0, k, left, out, h => by
    have : left = [] := List.length_eq_zero_iff.mp h
    subst this
    unfold pickOrder.go
    simp
  | fuel + 1, k, left, out, h => by
    unfold pickOrder.go
    have lt : next k % left.length < left.length := Nat.mod_lt _ (by omega)
    rw [List.getElem?_eq_getElem lt]
    dsimp only
    refine (pick_go next fuel (k + 1) _ _ (by rw [List.length_eraseIdx_of_lt lt]; omega)).trans ?_
    rw [Array.toList_push, List.append_assoc]
    refine List.Perm.append_left _ ?_
    exact erase_perm _ _ lt
theorem pick_perm {α : Type} (next : Nat → Nat) (xs : Array α) : (pickOrder next xs).toList.Perm xs.toList := by
  have := pick_go next xs.size 0 xs.toList #[] (by simp)
  simpa [pickOrder] using this
/-- the entries in the order in which they are told -/
def ordOf (w : World) (a : Addr) (ep : Nat) (es : Array Ent) : Array Ent := if w.params.followText "set-order" = true then pickOrder (w.params.setOrder a ep) es else es
theorem ord_perm (w : World) (a : Addr) (ep : Nat) (es : Array Ent) : (ordOf w a ep es).toList.Perm es.toList := by
  unfold ordOf
  split
  · exact pick_perm _ _
  · exact List.Perm.refl _
theorem ord_size (w : World) (a : Addr) (ep : Nat) (es : Array Ent) : (ordOf w a ep es).size = es.size := by
  have := (ord_perm w a ep es).length_eq
  simpa using this
theorem slotNext : Slot "set_iterator" "__next__" "set_iterator.__next__" :=
  .of (owner := "set_iterator") (n := "__next__") (by
      rw [typeLookup_type, builtinLookup_eq_fast]
      kernel_rfl) (by decide +kernel) (by decide +kernel) (by decide +kernel)
    (by
      first
      | exact .inl (by decide +kernel)
      | exact .inr (by decide +kernel)) (by
      rw [isSubtype_type]
      kernel_rfl)
theorem slotSelf : Slot "set_iterator" "__iter__" "set_iterator.__iter__" :=
  .of (owner := "set_iterator") (n := "__iter__") (by
      rw [typeLookup_type, builtinLookup_eq_fast]
      kernel_rfl) (by decide +kernel) (by decide +kernel) (by decide +kernel)
    (by
      first
      | exact .inl (by decide +kernel)
      | exact .inr (by decide +kernel)) (by
      rw [isSubtype_type]
      kernel_rfl)
theorem entNext : entryFor table "set_iterator.__next__" = some Builtin.«set_iterator.__next__» := entryFor_of_tree (by kernel_rfl)
theorem argsNext (a : Value) : argsOk "set_iterator.__next__" ⟨[a], []⟩ := by
  unfold argsOk
  kernel_rfl
theorem argsSelf (a : Value) : argsOk "set_iterator.__iter__" ⟨[a], []⟩ := by
  unfold argsOk
  kernel_rfl
theorem entIter : entryFor table "set.__iter__" = some Builtin.«frozenset.__iter__» :=
  entryFor_alias (id' := "frozenset.__iter__") (by kernel_rfl) rfl (by decide +kernel) (by kernel_rfl)
theorem entSelf : entryFor table "set_iterator.__iter__" = some Builtin.«dict_keyiterator.__iter__» :=
  entryFor_alias (id' := "dict_keyiterator.__iter__") (by kernel_rfl) rfl (by decide +kernel) (by kernel_rfl)
end SM

namespace SM
open PySem PySem.SetTable
/-- an iterator of the set at a -/
def SetIt (h : Heap) (it a : Addr) (slot i n ep : Nat) : Prop := ∃ o, h.get? it = some o ∧ o.cls = .type "set_iterator" ∧ o.data = .fields #[.int slot 0, .int i 0, .ref a, .int n 0, .int ep 0]
/-- the set at a as it is while it is gone through -/
def SetAt (w : World) (h : Heap) (a : Addr) (es : Array Ent) (ep : Nat) : Prop := ∃ o t, h.get? a = some o ∧ o.ExactSet ∧ o.data = .set es ep t ∧ t.fits es.size = true ∧ Rise t.place ∧ t.place.size = es.size ∧ t.plain = true ∧ t.led = (!(w.params.followText "set-order"))
theorem SetIt.ty {s : Shared} {it a : Addr} {slot i n ep : Nat} (x : SetIt s.heap it a slot i n ep) : s.TypeIs (.ref it) "set_iterator" := by
  obtain ⟨o, h1, h2, _⟩ := x
  exact ⟨o, h1, h2⟩
section
variable {prog : Program} {w : World} {A : Around} {E : Value → Shared → Prop} {s : Shared} {es : Array Ent} {ep : Nat} {a it : Addr}
theorem iter_set {Q : Value → Shared → Prop} (S : SetAt w s.heap a es ep) (q : Q (.ref s.heap.objs.size) { s with heap := s.heap.push { cls := .type "set_iterator", data := .fields #[.int 0 0, .int 0 0, .ref a, .int es.size 0, .int ep 0] } }) :
    wpAny (model prog w) A (pyIter (.ref a)) Q E s := by
  obtain ⟨o, t, ho, ex, hd, fit, ri, sz, pl, ld⟩ := S
  have ty : s.TypeIs (.ref a) "set" := ⟨o, ho, ex.1⟩
  refine wpAny_pyIter_slot ty F.slot_set_iter (wpAny_call_entry F.slot_set_iter ty entIter ?_ (F.args_set_iter_1 _))
  unfold Builtin.«frozenset.__iter__»
  refine wpAny_bind (m := Builtin.Frozenset.slot0 "__iter__" _) (wpAny_pure (?_ : _))
  unfold Builtin.Frozenset.sizeOf
  refine wpAny_bind (wpAny_bind (wpAny_setEntries_of ho hd fit (wpAny_pure (?_ : _))))
  unfold setDrawn
  refine wpAny_bind ?_
  refine wpAny_bind (wpAny_setState_of ho hd fit ?_)
  dsimp only
  unfold setsByText
  refine wpAny_bind (wpAny_bind (wpAny_askSetting (wpAny_pure (?_ : _))))
  refine wpAny_pure ?_
  have nd : ¬ ((!(w.params.followText "set-order") && (!t.plain && decide (es.size > 1))) = true) := by
    rw [pl]
    simp
  refine wpAny_ite_split (fun z => absurd z nd) fun _ => ?_
  refine wpAny_bind (wpAny_pure (?_ : _))
  refine wpAny_bind (wpAny_setEpoch_of ho hd fit ?_)
  unfold newFields
  refine wpAny_bind (wpAny_newObj_type (wpAny_pure ⟨_, rfl, "set_iterator", _, ⟨_, Heap.get?_push_size _ rfl, rfl⟩, slotNext.lookup, ?_⟩))
  simpa [rawInt] using q
theorem iter_it {slot i n : Nat} {Q : Value → Shared → Prop} (hit : SetIt s.heap it a slot i n ep) (q : Q (.ref it) s) : wpAny (model prog w) A (pyIter (.ref it)) Q E s := by
  refine wpAny_pyIter_slot hit.ty slotSelf (wpAny_call_entry slotSelf hit.ty entSelf ?_ (argsSelf _))
  show wpAny _ _ (ret (.ref it)) _ _ s
  exact wpAny_pure ⟨_, rfl, "set_iterator", _, hit.ty, slotNext.lookup, q⟩
/-- what the next look into the set gives -/
theorem set_next {slot i : Nat} {Q : Option (Value × Nat) → Shared → Prop} (S : SetAt w s.heap a es ep) (hs : w.params.followText "set-order" = false → ∀ o es' ep' t, s.heap.get? a = some o → o.data = .set es' ep' t → below t.place slot = i)
    (q0 : (ordOf w a ep es)[i]? = none → Q none s) (q1 : ∀ e slot', (ordOf w a ep es)[i]? = some e → (w.params.followText "set-order" = false → ∀ o es' ep' t, s.heap.get? a = some o → o.data = .set es' ep' t → below t.place slot' = i + 1) → Q (some (e.2, slot')) s) :
    wpAny (model prog w) A (setNext a slot i ep) Q E s := by
  obtain ⟨o, t, ho, ex, hd, fit, ri, sz, pl, ld⟩ := S
  unfold setNext
  refine wpAny_bind (wpAny_setState_of ho hd fit ?_)
  dsimp only
  unfold setsByText
  refine wpAny_bind (wpAny_bind (wpAny_askSetting (wpAny_pure (?_ : _))))
  show wpAny _ _ (if w.params.followText "set-order" = true then _ else _) _ _ _
  cases c : w.params.followText "set-order" with
  | true =>
    rw [if_pos rfl]
    rw [if_neg (by simp)]
    refine wpAny_bind ?_
    unfold setWalk
    refine wpAny_bind (wpAny_setState_of ho hd fit ?_)
    dsimp only
    unfold setsByText
    refine wpAny_bind (wpAny_bind (wpAny_askSetting (wpAny_pure (?_ : _))))
    show wpAny _ _ (if w.params.followText "set-order" = true then _ else _) _ _ _
    rw [if_pos c]
    refine wpAny_bind (wpAny_askSetting (wpAny_pure (?_ : _)))
    refine wpAny_pure ?_
    have eo : ordOf w a ep es = pickOrder (w.params.setOrder a ep) es := by
      unfold ordOf
      rw [if_pos c]
    rw [eo] at q0 q1
    show Q (((pickOrder (w.params.setOrder a ep) es)[i]?).map fun e => (e.2, slot)) s
    cases z : (pickOrder (w.params.setOrder a ep) es)[i]? with
    | none => exact q0 z
    | some e => exact q1 e slot z (fun h => by rw [c] at h; cases h)
  | false =>
    rw [if_neg Bool.false_ne_true]
    have nd : ¬ ((!t.plain && decide (es.size > 1)) = true) := by
      rw [pl]
      simp
    refine wpAny_ite_split (fun z => absurd z nd) fun _ => ?_
    have nl : ¬ ((!t.led && !es.isEmpty) = true) := by
      rw [ld, c]
      simp
    refine wpAny_bind (?_ : wpAny _ _ (if (!t.led && !es.isEmpty) = true then (unsupported "set:maker-not-led" : Sem Unit) else pure ()) _ _ _)
    rw [if_neg nl]
    refine wpAny_pure (wpAny_pure (?_ : _))
    have eo : ordOf w a ep es = es := by
      unfold ordOf
      rw [if_neg (by rw [c]; exact Bool.false_ne_true)]
    rw [eo] at q0 q1
    rw [hs c o es ep t ho hd]
    cases z : es[i]? with
    | none => exact q0 z
    | some e =>
      have hi : i < t.place.size := by
        rw [sz]
        exact get_lt z
      have zp := Array.getElem?_eq_getElem hi
      rw [zp]
      obtain ⟨eh, ev⟩ := e
      refine q1 (eh, ev) _ z fun _ o' es' ep' t' h1 h2 => ?_
      rw [ho] at h1
      cases h1
      rw [hd] at h2
      cases h2
      exact below_next ri zp
end
end SM

namespace SM
open PySem PySem.SetTable
section
variable {prog : Program} {w : World} {A : Around} {E : Value → Shared → Prop} {s : Shared} {es : Array Ent} {ep : Nat} {a it : Addr}
/-- the slot fits the count -/
def Fit (w : World) (h : Heap) (a : Addr) (slot i : Nat) : Prop := w.params.followText "set-order" = false → ∀ o es' ep' t, h.get? a = some o → o.data = .set es' ep' t → below t.place slot = i
theorem SetAt.sz (S : SetAt w s.heap a es ep) {P : Array Ent → Shared → Prop} (h : P es s) : wpAny (model prog w) A (setEntries a) P E s := by
  obtain ⟨o, t, ho, ex, hd, fit, ri, sz, pl, ld⟩ := S
  exact wpAny_setEntries_of ho hd fit h
theorem next_item {slot i : Nat} {Q : Option Value → Shared → Prop} (ne : a ≠ it) (hit : SetIt s.heap it a slot i es.size ep) (S : SetAt w s.heap a es ep) (F : Fit w s.heap a slot i) {e : Ent} (he : (ordOf w a ep es)[i]? = some e)
    (q : ∀ h' slot', SetIt h' it a slot' (i + 1) es.size ep → Fit w h' a slot' (i + 1) → Heap.SameBut it s.heap h' → Q (some e.2) { s with heap := h' }) : wpAny (model prog w) A (pyNext (.ref it)) Q E s := by
  obtain ⟨o, ho, hc, hd⟩ := id hit
  unfold pyNext
  refine wpAny_bind (wpAny_attempt (wpAny_callSpecial?_slot (name := Str.ofString "__next__") hit.ty slotNext
    (wpAny_call_entry slotNext hit.ty entNext ?_ (argsNext _))))
  unfold Builtin.«set_iterator.__next__»
  refine wpAny_bind (m := slotArgs "__next__" 0 _) (wpAny_pure (?_ : _))
  refine wpAny_bind (wpAny_fieldsOf ho hd ?_)
  dsimp only
  refine wpAny_bind (S.sz ?_)
  rw [if_neg (by simp)]
  simp only [Int.toNat_natCast]
  refine wpAny_bind (set_next S F (fun z => by rw [he] at z; cases z) fun e' slot' z hF => ?_)
  rw [he] at z
  cases z
  dsimp only
  refine wpAny_bind (wpAny_setField ho hd (by simp) ?_)
  have g1 := Heap.get?_update_self (Obj.mapFields (·.setIfInBounds 0 (rawInt (slot' : Int)))) ho (Obj.isFreed_of_fields (Obj.data_mapFields hd _))
  have d1 := Obj.data_mapFields hd (·.setIfInBounds 0 (rawInt (slot' : Int)))
  have sb1 := Heap.SameBut.update s.heap it (Obj.mapFields (·.setIfInBounds 0 (rawInt (slot' : Int))))
  generalize s.heap.update it (Obj.mapFields (·.setIfInBounds 0 (rawInt (slot' : Int)))) = h1 at *
  refine wpAny_bind (wpAny_setField (s := { s with heap := h1 }) g1 d1 (by simp) ?_)
  have g2 := Heap.get?_update_self (Obj.mapFields (·.setIfInBounds 1 (rawInt ((i : Int) + 1)))) g1 (Obj.isFreed_of_fields (Obj.data_mapFields d1 _))
  have d2 := Obj.data_mapFields d1 (·.setIfInBounds 1 (rawInt ((i : Int) + 1)))
  have sb2 := Heap.SameBut.update h1 it (Obj.mapFields (·.setIfInBounds 1 (rawInt ((i : Int) + 1))))
  generalize h1.update it (Obj.mapFields (·.setIfInBounds 1 (rawInt ((i : Int) + 1)))) = h2 at *
  have sb : Heap.SameBut it s.heap h2 := sb1.trans sb2
  refine wpAny_pure ⟨_, rfl, wpAny_pure (q h2 slot' ⟨_, g2, ?_, ?_⟩ (fun c o' es' ep' t h1 h2' => ?_) sb)⟩
  · rw [Obj.cls_mapFields, Obj.cls_mapFields]
    exact hc
  · rw [d2]
    simp [rawInt]
  · rw [sb.2 a ne] at h1
    exact hF c o' es' ep' t h1 h2'
theorem next_end {slot i : Nat} {Q : Option Value → Shared → Prop} (hh : A.handled = none) (hit : SetIt s.heap it a slot i es.size ep) (S : SetAt w s.heap a es ep) (F : Fit w s.heap a slot i) (he : (ordOf w a ep es)[i]? = none)
    (q : ∀ h', Heap.ExtBut it s.heap h' → Q none { s with heap := h' }) : wpAny (model prog w) A (pyNext (.ref it)) Q E s := by
  obtain ⟨o, ho, hc, hd⟩ := id hit
  unfold pyNext
  refine wpAny_bind (wpAny_attempt (wpAny_callSpecial?_slot (name := Str.ofString "__next__") hit.ty slotNext
    (wpAny_call_entry slotNext hit.ty entNext ?_ (argsNext _))))
  unfold Builtin.«set_iterator.__next__»
  refine wpAny_bind (m := slotArgs "__next__" 0 _) (wpAny_pure (?_ : _))
  refine wpAny_bind (wpAny_fieldsOf ho hd ?_)
  dsimp only
  refine wpAny_bind (S.sz ?_)
  rw [if_neg (by simp)]
  simp only [Int.toNat_natCast]
  refine wpAny_bind (set_next S F (fun z => ?_) fun e' slot' z hF => by rw [he] at z; cases z)
  dsimp only
  refine wpAny_bind (wpAny_setField ho hd (by simp) ?_)
  refine wpAny_bind (m := newExc (.type "StopIteration") []) ?_
  simp only [newExc, newTuple]
  refine wpAny_bind (wpAny_newObj_type ?_ (by size_fits))
  refine wpAny_bind (m := firstArgMember _ _) (wpAny_of_eq (a := Value.none) (by
    first
    | rfl
    | (simp only [firstArgMember]; rfl)) ?_)
  refine wpAny_newObj_type (?_ : _) (by size_fits)
  simp only [raiseNew]
  refine wpAny_bind (wpAny_handled (?_ : _))
  rw [show A.in1.handled = none from hh]
  refine wpAny_bind (wpAny_pure (wpAny_throw (?_ : _)))
  refine wpAny_bind (wpAny_isInstance (T := "StopIteration") (b := true) ⟨_, Heap.get?_push_size _ rfl, rfl⟩ isSubtype_stop (?_ : _))
  exact wpAny_pure (q _ (((Heap.SameBut.update ..).extBut.push _).push _))
theorem SetAt.at {h h' : Heap} (S : SetAt w h a es ep) (k : ∀ o, h.get? a = some o → h'.get? a = some o) : SetAt w h' a es ep := by
  obtain ⟨o, t, ho, r⟩ := S
  exact ⟨o, t, k o ho, r⟩
/-- going through a set -/
theorem walk_set (hh : A.handled = none) (I a : Addr) (ne : a ≠ I) (es : Array Ent) (ep : Nat) :
    Walks prog w A I [I, a] [I] es.size (fun i v => ∃ e, (ordOf w a ep es)[i]? = some e ∧ v = e.2) (fun i h => (∃ slot, SetIt h I a slot i es.size ep ∧ Fit w h a slot i) ∧ SetAt w h a es ep) where
  sub := fun b hb => by
    simp at hb
    simp [hb]
  frame := fun i h h' st hk => by
    obtain ⟨⟨slot, ⟨o, ho, r⟩, F⟩, S⟩ := st
    refine ⟨⟨slot, ⟨o, hk I (by simp) o ho, r⟩, fun c o' es' ep' t h1 h2 => ?_⟩, S.at fun o e => hk a (by simp) o e⟩
    obtain ⟨ob, tb, hob, r2⟩ := S
    have := hk a (by simp) ob hob
    rw [this] at h1
    cases h1
    exact F c _ es' ep' t hob h2
  item := fun i s Q E hi st hQ => by
    obtain ⟨⟨slot, hit, F⟩, S⟩ := st
    have hi' : i < (ordOf w a ep es).size := by
      rw [ord_size]
      exact hi
    have he := Array.getElem?_eq_getElem hi'
    refine next_item ne hit S F he fun h' slot' hit' F' sb => ?_
    exact hQ _ h' s.toks ⟨_, he, rfl⟩ ⟨⟨slot', hit', F'⟩, S.at fun o e => by rw [sb.2 a ne]; exact e⟩ fun b o hb e => by rw [sb.2 b (fun z => hb (by simp [z]))]; exact e
  done := fun s Q E st hQ => by
    obtain ⟨⟨slot, hit, F⟩, S⟩ := st
    refine next_end hh hit S F (Array.getElem?_eq_none (by rw [ord_size]; exact Nat.le_refl _)) fun h' eb => hQ h' s.toks fun b o hb e => eb b o (fun z => hb (by simp [z])) e
  self := fun i s Q E st hQ => by
    obtain ⟨⟨slot, hit, F⟩, S⟩ := st
    exact iter_it hit hQ
end
end SM

namespace SM
open PySem PySem.SetTable PySem.W PyProof.Rows
section
variable {prog : Program} {w : World} {A : Around} {E : Value → Shared → Prop} {s : Shared} {es : Array Ent} {ep : Nat} {a it : Addr}
theorem hint_set {Q : Bool → Shared → Prop} (ty : s.TypeIs (.ref a) "set") (q : Q false s) : wpAny (model prog w) A (Builtin.List.listLengthHint (.ref a)) Q E s := by
  unfold Builtin.List.listLengthHint
  refine wpAny_bind (wpAny_specialOf ty F.slot_set_len.lookup (?_ : _))
  generalize hid : ("set.__len__" : String) = idl
  wp_delta
  rw [show splitId idl = some ("set", "__len__") from by
    subst hid
    decide +kernel]
  subst hid
  refine wpAny_bind (wpAny_isInstance (T := "set") (b := true) ty (by
    rw [isSubtype_type]
    kernel_rfl) (?_ : _))
  refine wpAny_ite_split (fun z => absurd z (by decide)) (fun _ => (?_ : _))
  refine wpAny_ite_split (fun _ => (?_ : _)) (fun z => absurd (by decide +kernel) z)
  refine wpAny_bind (wpAny_typeOf ty (?_ : _))
  exact wpAny_pure q
theorem src_set (a : Addr) (es : Array Ent) (ep : Nat) : KdlSrc prog w "set" a a es.size (fun i v => ∃ e, (ordOf w a ep es)[i]? = some e ∧ v = e.2) (fun h => SetAt w h a es ep) where
  type := fun s S => by
    obtain ⟨o, t, ho, ex, _⟩ := S
    exact ⟨o, ho, ex.1⟩
  there := fun h S => by
    obtain ⟨o, t, ho, _⟩ := S
    exact ⟨Heap.lt_size ho, Heap.lt_size ho⟩
  keep := fun h h' S hk => S.at fun o e => hk a (.inl rfl) o e
  notList := by decide
  notTuple := by decide
  hint := fun A E s Q S q => by
    obtain ⟨o, t, ho, ex, _⟩ := S
    exact hint_set ⟨o, ho, ex.1⟩ q
  iter := fun A s hh S => by
    refine ⟨_, _, fun E Q q => iter_set S q, walk_set hh _ a ?_ es ep, ⟨⟨0, ⟨_, Heap.get?_push_size _ rfl, rfl, rfl⟩, fun c o' es' ep' t h1 h2 => ?_⟩, S.at fun o e => Heap.get?_push_of_some _ e⟩⟩
    · obtain ⟨o, t, ho, _⟩ := S
      exact Nat.ne_of_lt (Heap.lt_size ho)
    · obtain ⟨o, t, ho, ex, hd, fit, ri, r⟩ := S
      rw [Heap.get?_push_of_some _ ho] at h1
      cases h1
      rw [hd] at h2
      cases h2
      exact below_zero ri
theorem collect_set {Q : List Value → Shared → Prop} (hh : A.handled = none) (S : SetAt w s.heap a es ep) (few : es.size ≤ 126)
    (q : ∀ h' tk, (∀ b o, s.heap.get? b = some o → h'.get? b = some o) → s.heap.objs.size < h'.objs.size → Q ((ordOf w a ep es).toList.map (·.2)) { s with heap := h', toks := tk }) : wpAny (model prog w) A (collect (.ref a)) Q E s := by
  unfold collect
  refine wpAny_bind (wpAny_runValue (codeAny_builtin entry_proto_collect' (?_ : _)))
  show wpAny _ _ (do
    again (.builtin "list.__iadd__" ⟨[← newList [], .ref a], []⟩)) _ _ s
  refine wpAny_bind (wpAny_newList (wpAny_pure ⟨Code.quiet_builtin _ (by decide +kernel), codeAny_builtin entry_list_iadd' (?_ : _)⟩))
  rw [Around.under_plainId (by decide +kernel) _]
  refine id (?_ : wpAny _ _ (Builtin.List.listExtendWith (.ref s.heap.objs.size) (.ref a) (.ref s.heap.objs.size)) _ _ _)
  have az : a < s.heap.objs.size := by
    obtain ⟨o, t, ho, _⟩ := S
    exact Heap.lt_size ho
  have ne := Nat.ne_of_gt az
  refine kdl_extend (prog := prog) (R := fun r s' => match r with
    | .ok (.ret v) => wpAny (model prog w) A (match v with
      | .ref a => do
        let o ← load a
        match o.data with
        | .seq xs _ => pure xs.toList
        | _ => unsupported "internal:collect"
      | _ => unsupported "internal:collect") Q E s'
    | .ok _ => False
    | .error e => E e s') (s := { s with heap := s.heap.push (seqObj "list" #[] 0) }) (A := A) (src_set a es ep) ?_ (S.at fun o e => Heap.get?_push_of_some _ e) s.heap.objs.size ne ne (.ref s.heap.objs.size) 0 (Heap.get?_push_size _ rfl) (fun h' tk acc c kp hS its => ?_) (Nat.le_trans few (by decide))
  · exact hh
  · have e : acc.toList = (ordOf w a ep es).toList.map (·.2) := by
      refine List.ext_getElem? fun j => ?_
      obtain ⟨z1, z2⟩ := its
      rw [List.getElem?_map, Array.getElem?_toList, Array.getElem?_toList]
      cases z : acc[j]? with
      | none =>
        have := Array.getElem?_eq_none_iff.mp z
        rw [Array.getElem?_eq_none (by rw [ord_size]; omega)]
        rfl
      | some v =>
        obtain ⟨e, h1, h2⟩ := z2 j v z
        rw [h1, h2]
        rfl
    refine id (?_ : wpAny _ _ (do
      let o ← load s.heap.objs.size
      match o.data with
      | .seq xs _ => pure xs.toList
      | _ => unsupported "internal:collect") _ _ _)
    refine wpAny_bind (wpAny_load hS (?_ : _))
    refine wpAny_pure ?_
    rw [e]
    exact q h' tk (fun b o hb => kp b o (Nat.ne_of_lt (Heap.lt_size hb)) (Heap.get?_push_of_some _ hb)) (Heap.lt_size hS)
/-- sorted(..) of a set of ints -/
theorem sorted_set {ks : List Int} {Q : Value → Shared → Prop} (hh : A.handled = none) {o : Obj} (ho : s.heap.get? a = some o) (T : PTab (intKind prog w) o ks) (few : ks.length ≤ 60)
    (q : ∀ (h' : Heap) (tk : Nat) (p : Addr) (out : Array Value) (ms : List Int) (n : Nat), (∀ b o', s.heap.get? b = some o' → h'.get? b = some o') → s.heap.get? p = none → h'.get? p = some (seqObj "list" out n) → L2.Vals (ms.map L2.V.int) out.toList → (∀ x, x ∈ ms ↔ x ∈ ks) → ms.length = ks.length → ms.Pairwise (· ≤ ·) → Q (.ref p) { s with heap := h', toks := tk }) :
    wpAny (model prog w) A (call (.builtin "sorted") [.ref a]) Q E s := by
  obtain ⟨ex, es, ep, t, hd, TBt, _, _, pl, ld, sp⟩ := T
  have S : SetAt w s.heap a es ep := ⟨o, t, ho, ex, hd, TBt.fits, TBt.ri, TBt.sz, pl, ld⟩
  have el := sp.len
  refine Calls.call_function_entry kind_sorted plain_sorted entry_sorted (args_sorted1 _) (?_ : _)
  unfold Builtin.«sorted»
  refine wpAny_bind (m := checkCount "sorted" 1 1 _) (wpAny_pure (?_ : _))
  refine wpAny_bind (collect_set (by simpa using hh) S (by omega) fun h' tk kp sz => ?_)
  have pe := ord_perm w a ep es
  have eint : ∀ l : List Ent, (∀ e ∈ l, ∃ k, k ∈ ks ∧ EntP (intKind prog w) e k) → ∃ ns : List Int, IntsAre (l.map (·.2)) ns ∧ ∀ x, x ∈ ns ↔ ∃ e ∈ l, EntP (intKind prog w) e x := fun l => by
    induction l with
    | nil => exact fun _ => ⟨[], .nil, fun x => ⟨fun h => (nomatch h), fun ⟨e, h, _⟩ => (nomatch h)⟩⟩
    | cons e l ih =>
      intro h
      obtain ⟨ns, h1, h2⟩ := ih fun e' he' => h e' (List.mem_cons_of_mem _ he')
      obtain ⟨k, _, h3, h4, h5⟩ := h e List.mem_cons_self
      obtain ⟨tk, h6⟩ := Value.isInt_shape h3
      obtain ⟨eh, ev⟩ := e
      dsimp only at h4 h6
      subst h6
      refine ⟨k :: ns, .cons k tk h1, fun x => ?_⟩
      rw [List.mem_cons, h2 x]
      constructor
      · rintro (rfl | ⟨e', h7, h8⟩)
        · exact ⟨_, List.mem_cons_self, h3, h4, h5⟩
        · exact ⟨e', List.mem_cons_of_mem _ h7, h8⟩
      · rintro ⟨e', h7, h8⟩
        rcases List.mem_cons.mp h7 with rfl | h7
        · exact .inl ((intKind prog w).inj _ _ _ h8.1 h3)
        · exact .inr ⟨e', h7, h8⟩
  obtain ⟨ns, hI, hns⟩ := eint (ordOf w a ep es).toList fun e he => sp.ok e (pe.mem_iff.mp he)
  have vl : ((ordOf w a ep es).toList.map (·.2)).length = ks.length := by
    rw [List.length_map, pe.length_eq]
    simpa using el
  have mem : ∀ x, x ∈ ns ↔ x ∈ ks := fun x => by
    rw [hns x]
    constructor
    · rintro ⟨e, h1, h2⟩
      obtain ⟨k, h3, h4⟩ := sp.ok e (pe.mem_iff.mp h1)
      exact (intKind prog w).inj _ _ _ h2.1 h4.1 ▸ h3
    · intro h
      obtain ⟨e, h1, h2⟩ := sp.on x h
      exact ⟨e, pe.mem_iff.mpr h1, h2⟩
  generalize (ordOf w a ep es).toList.map (·.2) = vs at *
  refine wpAny_bind (wpAny_newList (hsz := Nat.le_trans (show vs.length ≤ 60 by omega) (by decide)) (?_ : _))
  have g0 : (h'.push (seqObj "list" vs.toArray 0)).get? h'.objs.size = some (seqObj "list" vs.toArray 0) := Heap.get?_push_size _ rfl
  refine wpAny_bind (wpAny_holding (wpAny_call_entry slot_list_sort ⟨_, g0, rfl⟩ entry_list_sort (list_sort_tree g0 hI (by omega) fun out ms a1 a2 a3 => ⟨_, rfl, (?_ : _)⟩) (args_list_sort _)))
  obtain ⟨n, hn⟩ := sortedHeap_at (vs := vs) (out := out) g0
  have hlen : ns.length = ks.length := by
    rw [← vl]
    exact (L2.vals_of_ints hI).length.symm ▸ (by simp)
  refine wpAny_pure ⟨_, rfl, q _ _ h'.objs.size out ms n (fun b o' hb => ?_) (Heap.get?_none_of_le (Nat.le_of_lt sz)) hn (L2.vals_of_ints a1) (fun x => by rw [a2.mem_iff, mem x]) (a2.length_eq.trans hlen) a3⟩
  have hb' := kp b o' hb
  have lt := Heap.lt_size hb'
  rw [sortedHeap_old (Nat.ne_of_lt lt) (by rw [size_push']; exact Nat.lt_succ_of_lt lt)]
  exact Heap.get?_push_of_some _ hb'
end
end SM

namespace L2
open PySem PySem.Spec PyProof.Rows
/-- a set of these ints -/
def ISet (P : Program) (w : World) (a : Addr) (ks : List Int) : HO := .ext fun h => ∃ o, h.get? a = some o ∧ SM.PTab (intKind P w) o ks
section
variable {X : Cx}
theorem call_setI (hc : X.calm = true) : CallR X (.type "set") (fun xs H Q => ∃ (a : Addr) (ns : List Int), xs = [.ref a] ∧ SqL X.K H a (ns.map V.int) ∧ ns.length ≤ 60 ∧ ∀ (p : Addr) (ks : List Int), H p = none → (∀ x, x ∈ ks ↔ x ∈ ns) → ks.length ≤ ns.length → Q (.ref p) (upd H p (ISet X.prog X.w p ks))) := by
  intro pins s σ H xs us Q I r h
  obtain ⟨a, ns, rfl, hq, few, q⟩ := h
  obtain ⟨u, rfl, ru⟩ := vals1 r
  cases ru
  obtain ⟨its, rv, p, _⟩ := I.list hq
  have hlen : its.length = ns.length := by rw [← rv.length, List.length_map]
  refine SM.set_of_plain (knd := intKind X.prog X.w) (f := fun i => ns.getD i 0) (I.ok.hd hc) p.isList (by simp [hlen]; omega) (fun i v hv => ?_) fun h' tk o kp ho st => ?_
  · have hv' : its[i]? = some v := by simpa using hv
    obtain ⟨x, hx, rx⟩ := vals_at rv i v hv'
    rw [List.getElem?_map] at hx
    cases z : ns[i]? with
    | none =>
      rw [z] at hx
      cases hx
    | some n =>
      rw [z] at hx
      cases hx
      obtain ⟨t, rfl⟩ := rx
      rw [List.getD_eq_getElem?_getD, z]
      exact ⟨intKind_is _ _ n t, rfl, rfl⟩
  · rw [List.size_toArray, hlen] at st
    refine ⟨.ref s.heap.objs.size, _, I.laid (t' := tk) kp (Nat.le_refl _) (o := ISet X.prog X.w s.heap.objs.size (SM.metP (fun i => ns.getD i 0) ns.length)) ?_, rfl, q _ _ (I.hok.fresh (Nat.le_refl _)) (fun x => ?_) (SM.metP_len _ _)⟩
    · refine ⟨⟨o, ho, st⟩, ⟨o, ho⟩, fun h1 h2 z k => ?_⟩
      obtain ⟨o, z1, z2⟩ := z
      exact ⟨o, k o z1, z2⟩
    · rw [SM.metP_mem]
      constructor
      · rintro ⟨j, h1, rfl⟩
        rw [List.getD_eq_getElem?_getD, List.getElem?_eq_getElem h1]
        exact List.getElem_mem h1
      · intro h
        obtain ⟨j, h1, h2⟩ := List.getElem_of_mem h
        refine ⟨j, h1, ?_⟩
        rw [List.getD_eq_getElem?_getD, List.getElem?_eq_getElem h1]
        exact h2
theorem call_sortedS (hc : X.calm = true) : CallR X (.builtin "sorted") (fun xs H Q => ∃ (a : Addr) (ks : List Int), xs = [.ref a] ∧ H a = some (ISet X.prog X.w a ks) ∧ ks.length ≤ 60 ∧ ∀ (ms : List Int) (p : Addr), (∀ x, x ∈ ms ↔ x ∈ ks) → ms.length = ks.length → ms.Pairwise (· ≤ ·) → H p = none → Q (.ref p) (upd H p (.lst (ms.map V.int)))) := by
  intro pins s σ H xs us Q I r h
  obtain ⟨a, ks, rfl, ha, few, q⟩ := h
  obtain ⟨u, rfl, ru⟩ := vals1 r
  cases ru
  obtain ⟨⟨o, z1, z2⟩, _⟩ := I.hok a _ ha
  refine SM.sorted_set (I.ok.hd hc) z1 z2 few fun h' tk p out ms n kp new hp rm mem ml srt => ?_
  have I2 := I.laidN (a := p) (o := .lst (ms.map V.int)) (t' := tk) (h' := h') kp new
    ⟨by rw [List.length_map, ml]; exact Nat.le_trans few (by decide), out.toList, n, rm, by simpa using hp⟩
  exact ⟨.ref p, _, I2, rfl, q ms _ mem ml srt (I.free_of new)⟩
end
end L2

namespace L2
open PySem PySem.Spec PyProof.Rows
section
variable {X : Cx}
/-- range(j) -/
theorem call_range1 : CallR X (.type "range") (fun xs H Q => ∃ j : Int, xs = [.int j] ∧ ∀ p, H p = none → Q (.ref p) (upd H p (.rng 0 j))) := by
  intro pins s σ H xs us Q I r h
  obtain ⟨j, rfl, q⟩ := h
  obtain ⟨u, rfl, ru⟩ := vals1 r
  obtain ⟨t, rfl⟩ := ru
  refine call_range_1 (?_ : _)
  exact ⟨.ref s.heap.objs.size, _, I.laid (o := .rng 0 j) (fun b o e => Heap.get?_push_of_some _ e) (Nat.le_refl _) ⟨_, _, _, Heap.get?_push_size _ rfl⟩, rfl, q _ (I.hok.fresh (Nat.le_refl _))⟩
/-- list(..) of such a range -/
theorem call_listR (hc : X.calm = true) : CallR X (.type "list") (fun xs H Q => ∃ (a : Addr) (j : Int), xs = [.ref a] ∧ H a = some (.rng 0 j) ∧ 0 ≤ j ∧ j ≤ 1000 ∧ ∀ l, H l = none → Q (.ref l) (upd H l (.lst (((List.range j.toNat).map fun i : Nat => (i : Int)).map V.int)))) := by
  intro pins s σ H xs us Q I r h
  obtain ⟨a, j, rfl, ha, j0, j1, q⟩ := h
  obtain ⟨u, rfl, ru⟩ := vals1 r
  cases ru
  obtain ⟨t, u, v, e⟩ := I.hok a _ ha
  refine call_list_range (n := j.toNat) (I.ok.hd hc) e (small_one (by decide) (by decide) (by omega) (by omega)) (by rw [rangeSize_one]; split <;> omega) (by omega) fun h' tk acc c kp hS its => ?_
  obtain ⟨z1, z2⟩ := its
  have rv : Vals (((List.range j.toNat).map fun i : Nat => (i : Int)).map V.int) acc.toList := by
    have go : ∀ (l : List Value) (k : Nat), (∀ (i : Nat) (v : Value), l[i]? = some v → ∃ t : Tok, v = Value.int ((k + i : Nat) : Int) t) → Vals (((List.range' k l.length).map fun i : Nat => (i : Int)).map V.int) l := fun l => by
      induction l with
      | nil => exact fun k _ => .nil
      | cons x l ih =>
        intro k h
        obtain ⟨t, e⟩ := h 0 x rfl
        refine .cons ⟨t, by simpa using e⟩ (ih (k + 1) fun i v hv => ?_)
        obtain ⟨t, e⟩ := h (i + 1) v hv
        exact ⟨t, by rw [e, Nat.add_assoc, Nat.add_comm 1 i]⟩
    have := go acc.toList 0 fun i v hv => by
      obtain ⟨t, e⟩ := z2 i v (by simpa using hv)
      exact ⟨t, by rw [e]; simp⟩
    rw [List.range_eq_range']
    simpa [z1] using this
  exact ⟨.ref s.heap.objs.size, _, I.laid (t' := tk) kp (Nat.le_refl _) (o := .lst _) ⟨by rw [List.length_map, List.length_map, List.length_range]; exact Nat.le_trans (show j.toNat ≤ 1000 by omega) (by decide), acc.toList, c, rv, by simpa using hS⟩, rfl, q _ (I.hok.fresh (Nat.le_refl _))⟩
end
end L2

namespace L2
open PySem PySem.Spec PyProof.Rows
section
variable {prog : Program} {w : World} {A : Around} {E : Value → Shared → Prop}
theorem draw_walk {I : Addr} {fp wr : List Addr} {N : Nat} {P : Nat → Value → Prop} {St : Nat → Heap → Prop} (W : Walks prog w A I fp wr N P St) : ∀ (n i : Nat) (s : Shared) (Q : List Value → Shared → Prop), St i s.heap → i + n ≤ N →
    (∀ (vs : List Value) h' tk, vs.length = n → (∀ (j : Nat) v, vs[j]? = some v → P (i + j) v) → St (i + n) h' → (∀ b o, b ∉ wr → s.heap.get? b = some o → h'.get? b = some o) → Q vs { s with heap := h', toks := tk }) → wpAny (model prog w) A (draw (.ref I) n) Q E s
  | 0, i, s, Q, st, _, q => by
    refine id (?_ : wpAny _ _ (pure []) Q E s)
    exact wpAny_pure (q [] s.heap s.toks rfl (fun j v h => by cases h) st fun _ _ _ e => e)
  | n + 1, i, s, Q, st, le, q => by
    refine id (?_ : wpAny _ _ (pyNext (.ref I) >>= _) Q E s)
    refine wpAny_bind (W.item i s _ _ (by omega) st fun v h1 tk1 pv st1 k1 => ?_)
    refine wpAny_bind (wpAny_holding (draw_walk W n (i + 1) _ _ st1 (by omega) fun vs h2 tk2 hl hp st2 k2 => wpAny_pure ?_))
    refine q (v :: vs) h2 tk2 (by simp [hl]) (fun j u hu => ?_) (by rw [show i + (n + 1) = i + 1 + n by omega]; exact st2) fun b o hb e => k2 b o hb (k1 b o hb e)
    cases j with
    | zero =>
      cases hu
      exact pv
    | succ j =>
      have := hp j u hu
      rwa [show i + 1 + j = i + (j + 1) by omega] at this
theorem unpack_list {s : Shared} {t : Addr} {items : Array Value} {targets : List (Bool × (Value → Sem Unit))} {Q : Unit → Shared → Prop} (hh : A.handled = none) (ht : s.heap.IsList t items)
    (hn : targets.length = items.size) (hs : targets.findIdx? (·.1) = none)
    (h : ∀ h' tk, (∀ b o, s.heap.get? b = some o → h'.get? b = some o) → wpAny (model prog w) A (assignInOrder (targets.map (·.2)) items.toList) Q E { s with heap := h', toks := tk }) :
    wpAny (model prog w) A (unpack (.ref t) targets) Q E s := by
  have ty : s.TypeIs (.ref t) "list" := by
    obtain ⟨o, ho, hc, _⟩ := ht
    exact ⟨o, ho, hc⟩
  have lt : t < s.heap.objs.size := by
    obtain ⟨o, ho, _⟩ := ht
    exact Heap.lt_size ho
  unfold unpack
  rw [hn, hs]
  refine wpAny_bind (wpAny_holding (?_ : _))
  unfold unpackItems
  refine wpAny_bind (?_ : _)
  unfold notIterableAtAll
  refine wpAny_bind (wpAny_specialOf ty PySem.F.slot_list_iter.lookup (?_ : _))
  refine wpAny_pure (?_ : _)
  simp only [Bool.false_eq_true, if_false]
  refine wpAny_bind (wpAny_holding (wpAny_pyIter_list ht (?_ : _)))
  have W := Walks.list (prog := prog) (w := w) hh s.heap.objs.size t (Nat.ne_of_lt lt) items
  refine wpAny_bind (wpAny_holding (draw_walk W items.size 0 _ _ ⟨⟨_, Heap.get?_push_size _ rfl, rfl, rfl⟩, ht.push _⟩ (by omega) fun vs h1 tk1 hl hp st k1 => ?_))
  have ev : vs = items.toList := by
    refine List.ext_getElem? fun j => ?_
    cases z : vs[j]? with
    | none =>
      have := List.getElem?_eq_none_iff.mp z
      rw [List.getElem?_eq_none (by simp; omega)]
    | some v =>
      have := hp j v z
      rw [Nat.zero_add] at this
      rw [Array.getElem?_toList]
      exact this.symm
  subst ev
  rw [if_neg (by simp)]
  refine wpAny_bind (wpAny_holding (W.done _ _ _ (by simpa using st) fun h2 tk2 k2 => ?_))
  simp only [Option.isSome_none, Bool.false_eq_true, if_false]
  refine wpAny_pure (h h2 tk2 fun b o e => ?_)
  have nb : b ∉ [s.heap.objs.size] := by
    rw [List.mem_singleton]
    exact Nat.ne_of_lt (Heap.lt_size e)
  exact k2 b o nb (k1 b o nb (Heap.get?_push_of_some _ e))
end
section
variable {X : Cx} {pos : Pos}
/-- (a, b, ..) = a list of that length -/
def gLst (K : PySem.W.Frag) (n : Nat) (t : TGs) : TG := fun v σ H Q => ∃ a xs, v = .ref a ∧ SqL K H a xs ∧ xs.length = n ∧ t xs σ H Q
theorem pg_lst {es : List Expr} {k : Nat} {t : TGs} {n : Nat} (hc : X.calm = true) (h : PGs X es t)
    (hn : (assignEach es X.env).length = n := by rfl) (hst : (assignEach es X.env).findIdx? (·.1) = none := by rfl) : PG X (.Tuple es k pos) (gLst X.K n t) := by
  intro pins s σ H v u Q I r hw
  obtain ⟨a, xs, rfl, hq, hl, hw⟩ := hw
  cases r
  obtain ⟨its, rv, p, _⟩ := I.list hq
  rw [PyProof.Rows.assign_Tuple]
  refine wpAny_bind (wpAny_standAt (unpack_list (I.ok.hd hc) p.isList (by simp [hn, ← hl, rv.length]) hst fun h' tk kp => ?_))
  have I1 : Inv X pins σ H { s with heap := h', toks := tk } := I.kept kp
  exact h pins _ σ H xs _ Q I1 (by simpa using rv) hw
end
end L2

namespace L2
open PySem PySem.Spec PyProof.Rows
section
variable {X : Cx} {e : Expr} {te : TE}
/-- l[::-1] of a list of two -/
def tRevL (K : PySem.W.Frag) (te : TE) : TE := fun σ H Q => te σ H fun x H1 => ∃ a y z, x = .ref a ∧ SqL K H1 a [y, z] ∧ ∀ p, H1 p = none → Q (.ref p) (upd H1 p (.lst [z, y]))
theorem pe_revL {j : Nat} {p1 p2 p3 pos : Pos} (he : PE X e te) : PE X (.Subscript e (.Slice none none (some (.UnaryOp .USub (.Constant (.int 1) j p1) p2)) p3) pos) (tRevL X.K te) := by
  intro pins s σ H Q I h
  refine Subscript_ (thn (he pins s σ H _ I h) fun v s1 ⟨x, H1, I1, r1, q1⟩ => ?_)
  obtain ⟨a, y, z, rfl, hq, q⟩ := q1
  cases r1
  refine wpAny_Slice (?_ : _)
  rw [evalPart_none]
  refine wpAny_pure (wpAny_pure (?_ : _))
  rw [evalPart_some]
  refine thn (pe_un un_neg pe_int pins s1 σ H1 (fun x H2 => x = .int (-1) ∧ H2 = H1) I1 ⟨1, rfl, rfl, rfl⟩) fun u s2 ⟨x2, H2, I2, r2, e2, e3⟩ => ?_
  subst e2
  subst e3
  obtain ⟨tk, rfl⟩ := r2
  have I3 : Inv X pins σ H2 { s2 with heap := s2.heap.push { cls := .type "slice", data := .fields #[.none, .none, .int (-1) tk] } } := I2.kept (t' := s2.toks) fun b ob q => Heap.get?_push_of_some _ q
  obtain ⟨its, r, ht, _⟩ := I3.list hq
  obtain ⟨ua, ub, rfl, ra, rb⟩ : ∃ ua ub, its = [ua, ub] ∧ RelV y ua ∧ RelV z ub := by
    cases r with
    | cons p1 p2 =>
      cases p2 with
      | cons p3 p4 =>
        cases p4
        exact ⟨_, _, rfl, p1, p3⟩
  refine id (?_ : wpAny (model X.prog X.w) X.A (subscriptTail e (.Slice none none (some (.UnaryOp .USub (.Constant (.int 1) j p1) p2)) p3) (.ref a) (.ref s2.heap.objs.size)) (EP X pins σ Q) X.xe _)
  refine tail_any (T := "list") (ops := [.ref a, .ref s2.heap.objs.size]) ht.isList.typeIs slot_list_getitem.lookup (wpAny_getItem_list_slice ht.isList (Heap.IsSliceOf.new ..) .none .none (.int (-1) tk) (by simp) ?_ (by show 2 ≤ sizeLine; decide)) (by with_unfolding_all rfl)
  have ep : slicePick #[ua, ub] none none (some (-1)) = #[ub, ua] := by
    have er : sliceRange (sliceBounds none none (some (-1)) 2).1 (sliceBounds none none (some (-1)) 2).2.1 (sliceBounds none none (some (-1)) 2).2.2 = [1, 0] := by decide +kernel
    unfold slicePick
    refine (congrArg (fun l : List Nat => (l.filterMap (#[ua, ub][·]?)).toArray) er).trans ?_
    rfl
  rw [ep]
  refine ⟨.ref _, _, I3.laid (t' := s2.toks) (o := .lst [z, y]) (fun b ob q => Heap.get?_push_of_some _ q) (Nat.le_refl _) ?_, rfl, q _ (I3.hok.fresh (Nat.le_refl _))⟩
  exact ⟨(by show 2 ≤ sizeLine; decide), [ub, ua], 0, .cons rb (.cons ra .nil), Heap.get?_push_size _ rfl⟩
end
end L2

namespace K33
open PySem L2 PySem.W
def top (i : Nat) : Stmt := PySem.Challenge.pw_farhail_k33_things_by_their_codes.main.body.getD i (.Pass ⟨0, 0, 0, 0⟩)
abbrev sRFar : Stmt := top 5
abbrev sTFar : Stmt := top 6
abbrev sRPlace : Stmt := top 7
abbrev sRTie : Stmt := top 8
abbrev sGFar : Stmt := top 9
abbrev sGPlace : Stmt := top 10
abbrev sAt : Stmt := top 12
abbrev sFold : Stmt := top 13
abbrev sState : Stmt := top 14
abbrev sNext : Stmt := top 15
abbrev sGreat : Stmt := top 16
abbrev sLooks : Stmt := top 17
abbrev sFar : Stmt := top 18
abbrev sCode : Stmt := top 19
abbrev sHaving : Stmt := top 20
abbrev sOther : Stmt := top 21
abbrev sTold : Stmt := top 22
abbrev sRing : Stmt := top 23
abbrev sSide : Stmt := top 24
abbrev sSpans : Stmt := top 25
abbrev sHalves : Stmt := top 26
abbrev sGrid : Stmt := top 27
abbrev sLaw : Stmt := top 28
structure Txt (K : Frag) (mg : Str → Option Value) : Prop where
  len : mg "len" = none
  min : mg "min" = none
  max : mg "max" = none
  abs : mg "abs" = none
  int : mg "int" = none
  range : mg "range" = none
  set : mg "set" = none
  tuple : mg "tuple" = none
  isi : mg "isinstance" = none
  list : mg "list" = none
  sorted : mg "sorted" = none
  zip : mg "zip" = none
  enum : mg "enumerate" = none
  bool : mg "bool" = none
  kb : kitOne K (.type "bool") (.type "bool") = some true
  ki : kitOne K (.type "int") (.type "bool") = some false
end K33

namespace K33
open PySem L2 PySem.W
def spAt (K : Frag) : Sp := fun vs H Q _ => ∃ (a : Addr) (ns : List Int) (k : Nat), vs = [.ref a, .int k] ∧ SqL K H a (ns.map V.int) ∧ ∀ i H', Same H H' → Q (.int i) H'
section
variable {P : Program} {w : World} {K : Frag} {mg : Str → Option Value} {base : Heap}
theorem scAt : FnScope ["script", "k", "cell"] ["script", "k"] (defScope sAt) := ⟨rfl, rfl, rfl, by decide +kernel, rfl, by decide +kernel, by decide +kernel⟩
theorem at_ints {ns : List Int} {j : Nat} (h : j < ns.length) : ∃ i, atI (ns.map V.int) (j : Int) = some (.int i) := ⟨ns[j], atI_nat (by rw [List.getElem?_map, List.getElem?_eq_getElem h]; rfl)⟩
theorem ok_at {f : Addr} {fd : FuncData} (F : Fun K "_law_cell_at" "_law_cell_at" sAt f fd) (T : Txt K mg) : FnOk P w K mg base CX0 1 f fd ["script", "k"] (spAt K) := by
  refine F.ok scAt (fun vs H Q E h => ?_) (fun cdv A outer s H vs Q E hr h => ?_)
  · obtain ⟨a, ns, k, rfl, _⟩ := h
    rfl
  · obtain ⟨a, ns, k, rfl, hS, q⟩ := h
    have hu := hr.units
    refine ⟨_, pss_cons (ps_if (pt_cmpR op_lt (pv 1) (pe_callB call_len_seq (by rfl) T.len PySem.boot_len (pa_cons (pv 0) pa_nil)) (nomark _)) (pss_one (ps_ret (pe_ix ix_list (pv 0) (pv 1) (fun _ _ => rfl)))) pss_nil)
      (pss_cons (ps_set (i := 2) scAt.nd rfl (Or.inl rfl) pe_int)
      (pss_cons (ps_if (pt_cmpR (op_neL hu) (pv 0) (pe_lst pa_nil) (nomark _)) (pss_one (ps_set (i := 2) scAt.nd rfl (Or.inl rfl) (pe_op op_mod (pe_ix ix_list (pv 0) (pe_op op_mod (pv 1) (pe_callB call_len_seq (by rfl) T.len PySem.boot_len (pa_cons (pv 0) pa_nil))) (fun _ _ => rfl)) pe_int))) pss_nil)
      (pss_one (ps_ret (pe_op op_add (pe_op op_add (pv 2) (pe_op op_mul pe_int (pv 1))) pe_int))))), ?_⟩
    refine ⟨_, rfl, _, rfl, a, _, rfl, .inl hS, _, _, rfl, rfl, _, rfl, ?_⟩
    refine ite2 (fun hlt => ?_) (fun hge => ?_)
    · have hlt : (k : Int) < ((ns.map V.int).length : Nat) := of_decide_eq_true hlt
      rw [List.length_map] at hlt
      obtain ⟨i, hi⟩ := at_ints (ns := ns) (j := k) (by omega)
      exact ⟨_, rfl, _, rfl, a, _, k, .int i, rfl, rfl, hS, hi, q i _ (Same.refl _)⟩
    · refine ⟨_, rfl, (by show 0 ≤ sizeLine; decide), fun l hl => ?_⟩
      have s1 : Same H (upd H l (.lst [])) := new_same hl
      refine ⟨a, l, ns, [], rfl, rfl, s1.seq hS, SqL.of upd_same, _, rfl, ?_⟩
      have s2 : ∀ i : Int, Q (.int i) (upd H l (.lst [])) := fun i => q i _ s1
      refine ite2 (fun c => ?_) (fun c => ?_)
      · have hn : 0 < ns.length := by
          cases ns with
          | nil => exact absurd c (by decide)
          | cons _ _ => exact Nat.zero_lt_succ _
        have hlen : ((ns.map V.int).length : Int) = ns.length := by rw [List.length_map]
        obtain ⟨i, hi⟩ := at_ints (ns := ns) (j := k % ns.length) (Nat.mod_lt _ hn)
        refine ⟨_, rfl, _, rfl, _, rfl, a, _, rfl, .inl (s1.seq hS), _, _, rfl, rfl, (by rw [hlen]; omega), a, _, _, .int i, rfl, rfl, s1.seq hS, (by rw [hlen]; exact hi), _, _, rfl, rfl, (by show (0 : Int) < 1000003; decide), ?_⟩
        exact ⟨_, rfl, _, rfl, _, _, rfl, rfl, .inl ⟨by decide, by decide⟩, _, _, rfl, rfl, _, _, rfl, rfl, s2 _⟩
      · exact ⟨_, rfl, _, rfl, _, _, rfl, rfl, .inl ⟨by decide, by decide⟩, _, _, rfl, rfl, _, _, rfl, rfl, s2 _⟩
end
end K33

namespace K33
open PySem L2 PySem.W
/-- a state stands at a -/
def StA (H : Hp) (a : Addr) : Prop := ∃ x y : Int, H a = some (.lst [.int x, .int y]) ∧ 0 ≤ y ∧ y < 2147483647
def spState : Sp := fun vs H Q _ => ∃ c : Int, vs = [.int c] ∧ ∀ p o, H p = none → StA (upd H p o) p → Q (.ref p) (upd H p o)
def spNext : Sp := fun vs H Q _ => ∃ (a : Addr) (m : Int), vs = [.ref a, .int m] ∧ 0 < m ∧ m < 1073741824 ∧ StA H a ∧ ∀ r H', 0 ≤ r → r < m → StA H' a → Mv a H H' → Q (.int r) H'
def spGreat : Sp := fun vs H Q _ => ∃ (a : Addr) (m : Int), vs = [.ref a, .int m] ∧ 0 < m ∧ StA H a ∧ ∀ r H', 0 ≤ r → r < m → StA H' a → Mv a H H' → Q (.int r) H'
section
variable {P : Program} {w : World} {K : Frag} {mg : Str → Option Value} {base : Heap}
theorem scState : FnScope ["cell", "left"] ["cell"] (defScope sState) := ⟨rfl, rfl, rfl, by decide +kernel, rfl, by decide +kernel, by decide +kernel⟩
theorem ok_state {f : Addr} {fd : FuncData} (F : Fun K "_law_state" "_law_state" sState f fd) : FnOk P w K mg base CX0 1 f fd ["cell"] spState := by
  refine F.ok scState (fun vs H Q E h => ?_) (fun cdv A outer s H vs Q E hr h => ?_)
  · obtain ⟨c, rfl, _⟩ := h
    rfl
  · obtain ⟨c, rfl, q⟩ := h
    refine ⟨_, pss_cons (ps_set (i := 1) scState.nd rfl (Or.inl rfl) pe_int)
      (pss_cons (ps_if (pt_cmpR op_ge (pv 0) (pe_op op_pow pe_int pe_int) (nomark _)) (pss_one (ps_set (i := 1) scState.nd rfl (Or.inl rfl) (pv 0))) pss_nil)
      (pss_one (ps_ret (pe_lst (pa_cons (pv 1) (pa_cons (pe_op op_mod (pe_op op_mul (pe_op op_add (pe_op op_mod (pv 0) pe_int) pe_int) pe_int) pe_int) pa_nil)))))), ?_⟩
    have fin : ∀ (l : Int) (p : Addr), H p = none → Q (.ref p) (upd H p (.lst [.int l, .int ((c % 2147483629 + 11) * 48271 % 2147483647)])) := fun l p hp => q p _ hp ⟨l, _, upd_same, by omega, by omega⟩
    refine ⟨_, rfl, _, _, rfl, rfl, ⟨by decide, by decide, by decide⟩, _, _, rfl, rfl, _, rfl, ?_⟩
    refine ite2 (fun c1 => ?_) (fun c1 => ?_)
    · exact ⟨_, rfl, _, rfl, _, rfl, _, _, rfl, rfl, (by show (0 : Int) < 2147483629; decide), _, _, rfl, rfl, _, _, rfl, rfl, .inr ⟨by decide, by decide⟩, _, _, rfl, rfl, (by show (0 : Int) < 2147483647; decide), (by show 2 ≤ sizeLine; decide), fun p hp => fin c p hp⟩
    · exact ⟨_, rfl, _, rfl, _, _, rfl, rfl, (by show (0 : Int) < 2147483629; decide), _, _, rfl, rfl, _, _, rfl, rfl, .inr ⟨by decide, by decide⟩, _, _, rfl, rfl, (by show (0 : Int) < 2147483647; decide), (by show 2 ≤ sizeLine; decide), fun p hp => fin 0 p hp⟩
theorem scNext : FnScope ["state", "many", "found"] ["state", "many"] (defScope sNext) := ⟨rfl, rfl, rfl, by decide +kernel, rfl, by decide +kernel, by decide +kernel⟩
theorem ok_next {f : Addr} {fd : FuncData} (F : Fun K "_law_next" "_law_next" sNext f fd) : FnOk P w K mg base CX0 1 f fd ["state", "many"] spNext := by
  refine F.ok scNext (fun vs H Q E h => ?_) (fun cdv A outer s H vs Q E hr h => ?_)
  · obtain ⟨a, m, rfl, _⟩ := h
    rfl
  · obtain ⟨a, m, rfl, m0, m1, ⟨x, y, ha, y0, y1⟩, q⟩ := h
    refine ⟨_, pss_cons (ps_if (pt_cmpR op_gt (pe_ix ix_list (pv 0) pe_int (fun _ _ => rfl)) pe_int (nomark _))
        (pss_cons (ps_set (i := 2) scNext.nd rfl (Or.inl rfl) (pe_op op_mod (pe_ix ix_list (pv 0) pe_int (fun _ _ => rfl)) (pv 1)))
        (pss_cons (ps_asg (pe_op op_fdiv (pe_ix ix_list (pv 0) pe_int (fun _ _ => rfl)) (pv 1)) (pg_sub (pv 0) pe_int set_list)) (pss_one (ps_ret (pv 2))))) pss_nil)
      (pss_cons (ps_asg (pe_op op_mod (pe_op op_add (pe_op op_mul (pe_ix ix_list (pv 0) pe_int (fun _ _ => rfl)) pe_int) pe_int) pe_int) (pg_sub (pv 0) pe_int set_list))
      (pss_one (ps_ret (pe_op op_mod (pe_op op_fdiv (pe_op op_mod (pe_op op_mul (pe_ix ix_list (pv 0) pe_int (fun _ _ => rfl)) (pe_ix ix_list (pv 0) pe_int (fun _ _ => rfl))) pe_int) pe_int) (pv 1))))), ?_⟩
    refine ⟨_, rfl, a, _, 0, .int x, rfl, rfl, SqL.of ha, atI_nat (j := 0) rfl, _, _, rfl, rfl, _, rfl, ?_⟩
    refine ite2 (fun c => ?_) (fun c => ?_)
    · refine ⟨_, rfl, a, _, 0, .int x, rfl, rfl, SqL.of ha, atI_nat (j := 0) rfl, _, rfl, _, _, rfl, rfl, m0, ?_⟩
      refine ⟨_, rfl, a, _, 0, .int x, rfl, rfl, SqL.of ha, atI_nat (j := 0) rfl, _, rfl, _, _, rfl, rfl, ⟨m0, m1⟩, _, rfl, a, _, 0, 0, rfl, rfl, ha, rfl, ?_⟩
      exact ⟨_, rfl, q _ _ (Int.emod_nonneg _ (by omega)) (Int.emod_lt_of_pos _ m0) ⟨_, y, upd_same, y0, y1⟩ (Mv.upd a H _)⟩
    · refine ⟨_, rfl, a, _, 1, .int y, rfl, rfl, SqL.of ha, atI_nat (j := 1) rfl, _, _, rfl, rfl, .inr ⟨by decide, by decide⟩, _, _, rfl, rfl, _, _, rfl, rfl, (by show (0 : Int) < 2147483647; decide), _, rfl, a, _, 1, 1, rfl, rfl, ha, rfl, ?_⟩
      have z0 : 0 ≤ (y * 69621 + 40692) % 2147483647 := by omega
      have z1 : (y * 69621 + 40692) % 2147483647 < 2147483647 := by omega
      have hb : upd H a (.lst [.int x, .int ((y * 69621 + 40692) % 2147483647)]) a = some (.lst [.int x, .int ((y * 69621 + 40692) % 2147483647)]) := upd_same
      refine ⟨_, rfl, a, _, 1, .int ((y * 69621 + 40692) % 2147483647), rfl, rfl, SqL.of hb, atI_nat (j := 1) rfl, _, rfl, a, _, 1, .int ((y * 69621 + 40692) % 2147483647), rfl, rfl, SqL.of hb, atI_nat (j := 1) rfl, _, _, rfl, rfl, .inl ⟨by omega, by omega⟩, _, _, rfl, rfl, (by show (0 : Int) < 2147483629; decide), _, _, rfl, rfl, ⟨by decide, by decide⟩, _, rfl, _, _, rfl, rfl, m0, ?_⟩
      exact q _ _ (Int.emod_nonneg _ (by omega)) (Int.emod_lt_of_pos _ m0) ⟨x, _, hb, z0, z1⟩ (Mv.upd a H _)
theorem scGreat : FnScope ["state", "top", "found", "k"] ["state", "top"] (defScope sGreat) := ⟨rfl, rfl, rfl, by decide +kernel, rfl, by decide +kernel, by decide +kernel⟩
theorem ok_great {f : Addr} {fd : FuncData} (F : Fun K "_law_great" "_law_great" sGreat f fd) (T : Txt K mg) (hN : Has P w K mg base 1 "_law_next" ["state", "many"] spNext) : FnOk P w K mg base CX0 2 f fd ["state", "top"] spGreat := by
  refine F.ok scGreat (fun vs H Q E h => ?_) (fun cdv A outer s H vs Q E hr h => ?_)
  · obtain ⟨a, m, rfl, _⟩ := h
    rfl
  · obtain ⟨a, m, rfl, m0, st, q⟩ := h
    refine ⟨_, pss_cons (ps_set (i := 2) scGreat.nd rfl (Or.inl rfl) pe_int)
      (pss_cons (ps_for PassesOwn.never rfl (pi_range1 rfl T.range (pa_cons pe_int pa_nil)) (pg_name (i := 3) scGreat.nd rfl (Or.inl rfl))
        (pss_one (ps_set (i := 2) scGreat.nd rfl (Or.inl rfl) (pe_op op_add (pe_op op_mul (pv 2) (pe_op op_pow pe_int pe_int)) (pe_has hN hr rfl (pa_cons (pv 0) (pa_cons (pe_op op_pow pe_int pe_int) pa_nil)))))))
      (pss_one (ps_ret (pe_op op_mod (pv 2) (pv 1))))), ?_⟩
    refine ⟨9, rfl, (by decide), (by decide), for_range (lo := 0) (n := 9) (fun i σ H2 => ∃ (z : Int) (v : Option V), σ = [some (.ref a), some (.int m), some (.int z), v] ∧ StA H2 a ∧ Mv a H H2) ⟨0, none, rfl, st, Mv.refl _ _⟩ ?_ ?_⟩
    · rintro i σ H2 hi ⟨z, v, rfl, st2, mv⟩
      refine ⟨_, rfl, _, _, rfl, rfl, ⟨by decide, by decide, by decide⟩, _, _, rfl, rfl, .inr ⟨by decide, by decide⟩, _, rfl, _, _, rfl, rfl, ⟨by decide, by decide, by decide⟩, a, _, rfl, by decide, by decide, st2, fun r H3 r0 r1 st3 mv3 => ?_⟩
      exact ⟨_, _, rfl, rfl, _, _, rfl, st3, mv.trans mv3⟩
    · rintro σ H2 ⟨z, v, rfl, st2, mv⟩
      exact ⟨_, rfl, _, rfl, _, _, rfl, rfl, m0, q _ _ (Int.emod_nonneg _ (by omega)) (Int.emod_lt_of_pos _ m0) st2 mv⟩
end
end K33

namespace L2
theorem Mv.same {p : PySem.Addr} {H H' : Hp} (e : Mv p H H') (n : H p = none) : Same H H' := fun b o h => e b o (ne_of_none h n) h
end L2
namespace K33
open PySem L2 PySem.W
def spFold (K : Frag) : Sp := fun vs H Q _ => ∃ (a : Addr) (ns : List Int), vs = [.ref a, .int 10] ∧ SqL K H a (ns.map V.int) ∧ ns.length ≤ 63 ∧ ∀ (cs : List Int) (p : Addr) H', Same H H' → H' p = some (.lst (cs.map V.int)) → cs.length = 10 → Q (.ref p) H'
def foldN : List Str := ["script", "many", "cells", "k", "at"]
def asgScope : Stmt → Scope
  | .Assign _ (.ListComp _ _ sc _) _ => sc
  | _ => { kind := .function, names := [], isGenerator := false, isCoroutine := false }
abbrev scB : Scope := asgScope ((defBody sFold).getD 0 (.Pass ⟨0, 0, 0, 0⟩))
theorem blockF : blockB foldN (defScope sFold) scB "k" ["k", "script"] [0] = true := by decide +kernel
section
variable {P : Program} {w : World} {K : Frag} {mg : Str → Option Value} {base : Heap}
theorem scFold : FnScope foldN ["script", "many"] (defScope sFold) := ⟨rfl, rfl, rfl, by decide +kernel, rfl, by decide +kernel, by decide +kernel⟩
theorem ok_fold {f : Addr} {fd : FuncData} (F : Fun K "_law_folded" "_law_folded" sFold f fd) (T : Txt K mg) (hA : Has P w K mg base 1 "_law_cell_at" ["script", "k"] (spAt K)) : FnOk P w K mg base CX0 2 f fd ["script", "many"] (spFold K) := by
  refine F.ok scFold (fun vs H Q E h => ?_) (fun cdv A outer s H vs Q E hr h => ?_)
  · obtain ⟨a, ns, rfl, _⟩ := h
    rfl
  · obtain ⟨a, ns, rfl, hS, hlen, q⟩ := h
    refine ⟨_, pss_cons (ps_comp (j := 2) scFold.nd rfl rfl (NB := ["k", "script"]) (ix := [0]) (BlockOk.of blockF) rfl (pi_range1 rfl T.range (pa_cons (pv 1) pa_nil)) (fun _ _ _ _ => pe_has hA hr rfl (pa_cons (pv 1) (pa_cons (pv 0) pa_nil))) (fun _ _ _ _ => pts_nil) rfl)
      (pss_cons (ps_for PassesOwn.never rfl (pi_range2 rfl T.range (pa_cons (pv 1) (pa_cons (pe_callB call_len_seq (by rfl) T.len PySem.boot_len (pa_cons (pv 0) pa_nil)) pa_nil))) (pg_name (i := 3) scFold.nd rfl (Or.inl rfl))
        (pss_cons (ps_set (i := 4) scFold.nd rfl (Or.inl rfl) (pe_op op_mod (pv 3) (pv 1)))
        (pss_one (ps_asg (pe_op op_mod (pe_op op_add (pe_op op_mul (pe_op op_mod (pe_ix ix_list (pv 2) (pv 4) (fun _ _ => rfl)) (pe_op op_pow pe_int pe_int)) pe_int) (pe_ix ix_list (pv 0) (pv 3) (fun _ _ => rfl))) (pe_op op_add (pe_op op_pow pe_int pe_int) pe_int)) (pg_sub (pv 2) (pv 4) set_list)))))
      (pss_one (ps_ret (pv 2)))), ?_⟩
    refine ⟨_, rfl, 10, rfl, (by decide), (by decide), comp_range (lo := 0) (n := 10) (fun i ys Hc => Same H Hc ∧ ∃ cs : List Int, ys = cs.map V.int ∧ cs.length = i) ⟨Same.refl _, [], rfl, rfl⟩ ?_ ?_ ?_⟩
    · rintro i ys Hc hi ⟨_, cs, rfl, rfl⟩
      rw [List.length_map]
      exact Nat.lt_trans hi (by decide)
    · rintro i ys Hc hi ⟨s1, cs, rfl, rfl⟩
      unfold tYes
      refine @iteT (tCall (spAt K) [] E0 (tCons (tVar 1) (tCons (tVar 0) tNil)) _ Hc _) (Same H Hc ∧ _) ?_
      refine ⟨_, rfl, _, rfl, a, ns, cs.length, (by rw [Int.zero_add]; rfl), s1.seq hS, fun r H3 s3 => ⟨s1.trans s3, cs ++ [r], by rw [List.map_append]; rfl, by rw [List.length_append]; rfl⟩⟩
    · rintro ys Hc ⟨s1, cs, rfl, hcs⟩ p hp
      have hS1 : SqL K Hc a (ns.map V.int) := s1.seq hS
      refine ⟨_, rfl, _, rfl, a, _, rfl, .inl ((new_same hp).seq hS1), 10, _, rfl, ⟨by decide, by decide, by omega, by rw [List.length_map]; omega⟩, ?_⟩
      rw [List.length_map]
      refine for_range (lo := 10) (n := ((ns.length : Int) - 10).toNat) (fun i σ H2 => ∃ (v w : Option V) (ds : List Int), σ = [some (.ref a), some (.int 10), some (.ref p), v, w] ∧ Mv p Hc H2 ∧ H2 p = some (.lst (ds.map V.int)) ∧ ds.length = 10) ⟨none, none, cs, rfl, Mv.of (new_same hp), upd_same, hcs⟩ ?_ ?_
      · rintro i σ H2 hi ⟨v, w', ds, rfl, mv, h2, hds⟩
        have hS2 : SqL K H2 a (ns.map V.int) := (mv.same hp).seq hS1
        have hk : 10 + i < ns.length := by omega
        obtain ⟨r, hr'⟩ := at_ints (ns := ns) (j := 10 + i) hk
        obtain ⟨j, hj, ej⟩ : ∃ j : Nat, j < 10 ∧ ((10 : Int) + (i : Nat)) % 10 = j := ⟨(10 + i) % 10, Nat.mod_lt _ (by decide), by omega⟩
        obtain ⟨d, hd⟩ := at_ints (ns := ds) (j := j) (by omega)
        rw [← ej] at hd
        have hx : ixN (ds.map V.int).length (((10 : Int) + (i : Nat)) % 10) = some j := by
          rw [ej, List.length_map]
          unfold ixN
          rw [if_pos (by omega), if_pos (by omega), Int.toNat_natCast]
        refine ⟨_, rfl, _, rfl, _, _, rfl, rfl, (by show (0 : Int) < 10; decide), ?_⟩
        refine ⟨_, rfl, _, rfl, p, _, _, .int d, rfl, rfl, SqL.of h2, hd, _, _, rfl, rfl, ⟨by decide, by decide, by decide⟩, _, _, rfl, rfl, (by show (0 : Int) < 10 ^ Int.toNat 60; decide), _, _, rfl, rfl, .inr ⟨by decide, by decide⟩, _, rfl, _, rfl, a, _, _, .int r, rfl, rfl, hS2, hr', _, _, rfl, rfl, ?_⟩
        refine ⟨_, _, rfl, rfl, ⟨by decide, by decide, by decide⟩, _, _, rfl, rfl, _, _, rfl, rfl, (by show (0 : Int) < 10 ^ Int.toNat 60 + 7; decide), _, rfl, _, rfl, p, _, _, j, rfl, rfl, h2, hx, ?_⟩
        refine ⟨_, _, ds.set j ((d % (10 : Int) ^ (60 : Int).toNat * 48271 + r) % ((10 : Int) ^ (60 : Int).toNat + 7)), rfl, mv.trans (Mv.upd p H2 _), ?_, by rw [List.length_set]; exact hds⟩
        rw [upd_same, List.map_set]
      · rintro σ H2 ⟨v, w', ds, rfl, mv, h2, hds⟩
        exact ⟨_, rfl, q ds p H2 (s1.trans (mv.same hp)) h2 hds⟩
end
end K33

namespace K33
open PySem L2 PySem.W
/-- looks: rising places below m -/
def Rises (m : Int) (ls : List Int) : Prop := ls.Pairwise (· < ·) ∧ ∀ l ∈ ls, 0 ≤ l ∧ l < m
def spLooks : Sp := fun vs H Q _ => ∃ (a : Addr) (m : Int) (mo : Nat), vs = [.ref a, .int m, .int mo] ∧ 0 < m ∧ mo ≤ 20 ∧ StA H a ∧ ∀ (ls : List Int) (p : Addr) H', Rises m ls → ls.length ≤ mo → p ≠ a → StA H' a → Mv a H H' → H' p = some (.lst (ls.map V.int)) → Q (.ref p) H'
theorem inV_ints (z : Int) : ∀ fs : List Int, inV (.int z) (fs.map V.int) = decide (z ∈ fs)
  | [] => rfl
  | f :: r => by
    have ih := inV_ints z r
    show (eqV (.int f) (.int z) || inV (.int z) (r.map V.int)) = _
    rw [ih, show eqV (.int f) (.int z) = (f == z) from rfl, Bool.eq_iff_iff]
    simp only [Bool.or_eq_true, beq_iff_eq, decide_eq_true_iff, List.mem_cons]
    exact ⟨fun h => h.imp Eq.symm id, fun h => h.imp Eq.symm id⟩
theorem flat_ints (fs : List Int) : (fs.map V.int).all flatV = true := by
  rw [List.all_eq_true]
  intro x hx
  obtain ⟨i, _, rfl⟩ := List.mem_map.mp hx
  rfl
theorem last_ints {fs : List Int} (h : fs ≠ []) : ∃ i, atI (fs.map V.int) (-1) = some (.int i) := by
  have hl : 0 < fs.length := List.length_pos_iff.mpr h
  refine ⟨fs[fs.length - 1], ?_⟩
  unfold atI ixN
  rw [List.length_map, if_neg (by omega), if_pos (by omega)]
  show (fs.map V.int)[(-1 + (fs.length : Int)).toNat]? = _
  rw [show (-1 + (fs.length : Int)).toNat = fs.length - 1 by omega, List.getElem?_map, List.getElem?_eq_getElem (by omega)]
  rfl
theorem pick6 {z g r : Int} (r0 : 0 ≤ r) : ∃ i, atI [V.int 0, V.int (z - 1), V.int 1, V.int (z - 2), V.int (z / 2), V.int g] (if r < 5 then r else 5) = some (.int i) := by
  by_cases c : r < 5
  · rw [if_pos c]
    have : r = 0 ∨ r = 1 ∨ r = 2 ∨ r = 3 ∨ r = 4 := by omega
    rcases this with rfl | rfl | rfl | rfl | rfl
    · exact ⟨_, rfl⟩
    · exact ⟨_, rfl⟩
    · exact ⟨_, rfl⟩
    · exact ⟨_, rfl⟩
    · exact ⟨_, rfl⟩
  · rw [if_neg c]
    exact ⟨_, rfl⟩
theorem st_ne {H : Hp} {a p : Addr} (s : StA H a) (h : H p = none) : p ≠ a := by
  obtain ⟨x, y, e, _⟩ := s
  exact (ne_of_none e h).symm
theorem st_new {H : Hp} {a p : Addr} {o : HO} (s : StA H a) (h : H p = none) : StA (upd H p o) a := by
  obtain ⟨x, y, e, r⟩ := s
  exact ⟨x, y, by rw [upd_ne (ne_of_none e h)]; exact e, r⟩
theorem st_put {H : Hp} {a p : Addr} {o : HO} (s : StA H a) (h : p ≠ a) : StA (upd H p o) a := by
  obtain ⟨x, y, e, r⟩ := s
  exact ⟨x, y, by rw [upd_ne h.symm]; exact e, r⟩
section
variable {P : Program} {w : World} {K : Frag} {mg : Str → Option Value} {base : Heap}
theorem scLooks : FnScope ["state", "many", "most", "found", "k", "place"] ["state", "many", "most"] (defScope sLooks) := ⟨rfl, rfl, rfl, by decide +kernel, rfl, by decide +kernel, by decide +kernel⟩
/-- the place is put in, or is there -/
theorem looks_put {D : Ends} {a f : Addr} {m mo p : Int} {v : Option V} {fs : List Int} {i : Nat} {H H2 : Hp} (m0 : 0 < m) (st : StA H2 a) (mv : Mv a H H2) (nf : f ≠ a) (hf0 : H f = none) (hf : H2 f = some (.lst (fs.map V.int))) (hn : fs.Nodup) (hb : ∀ l ∈ fs, 0 ≤ l ∧ l < m) (hl : fs.length ≤ i) (hi : i < 20)
    (q : ∀ (fs : List Int) H2, StA H2 a → Mv a H H2 → H2 f = some (.lst (fs.map V.int)) → fs.Nodup → (∀ l ∈ fs, 0 ≤ l ∧ l < m) → fs.length ≤ i + 1 → D.nx [some (.ref a), some (.int m), some (.int mo), some (.ref f), v, some (.int p)] H2) :
    tIfS (tTest (tOp (rIn K true) (tOp (rI (fun _ j => 0 < j) fun i j => V.int (i % j)) (tVar 5) (tVar 1)) (tVar 3))) (tDrop (tBM K "list" rAppend (tVar 3) (tCons (tOp (rI (fun _ j => 0 < j) fun i j => V.int (i % j)) (tVar 5) (tVar 1)) tNil))) tNext
      D [some (.ref a), some (.int m), some (.int mo), some (.ref f), v, some (.int p)] H2 := by
  refine ⟨_, rfl, _, rfl, _, _, rfl, rfl, m0, _, rfl, f, _, rfl, .inl (SqL.of hf), rfl, flat_ints fs, _, rfl, ?_⟩
  show if (!inV (.int (p % m)) (fs.map V.int)) = true then _ else _
  rw [inV_ints]
  by_cases c : p % m ∈ fs
  · rw [decide_eq_true c]
    refine iteF ?_
    exact q fs H2 st mv hf hn hb (Nat.le_succ_of_le hl)
  · rw [decide_eq_false c]
    refine iteT ?_
    refine ⟨_, rfl, .inl ⟨rfl, _, SqL.of hf⟩, _, rfl, _, rfl, _, _, rfl, rfl, m0, f, _, _, rfl, rfl, hf, (by rw [List.length_map]; exact Nat.lt_of_le_of_lt (Nat.le_trans hl (Nat.le_of_lt hi)) (by decide)), ?_⟩
    refine q (fs ++ [p % m]) _ (st_put st nf) (fun b o nb hbo => ?_) ?_ ?_ ?_ ?_
    · rw [upd_ne (ne_of_none hbo hf0)]
      exact mv b o nb hbo
    · rw [upd_same, List.map_append]
      rfl
    · rw [List.nodup_append]
      refine ⟨hn, by simp, fun x hx y hy e => ?_⟩
      rw [List.mem_singleton.mp hy] at e
      exact c (e ▸ hx)
    · intro l hl2
      rcases List.mem_append.mp hl2 with h | h
      · exact hb l h
      · rw [List.mem_singleton.mp h]
        exact ⟨Int.emod_nonneg _ (by omega), Int.emod_lt_of_pos _ m0⟩
    · rw [List.length_append]
      exact Nat.succ_le_succ hl
theorem ok_looks {f : Addr} {fd : FuncData} (F : Fun K "_law_looks" "_law_looks" sLooks f fd) (T : Txt K mg) (hN : Has P w K mg base 1 "_law_next" ["state", "many"] spNext) (hG : Has P w K mg base 2 "_law_great" ["state", "top"] spGreat) : FnOk P w K mg base CX0 3 f fd ["state", "many", "most"] spLooks := by
  refine F.ok scLooks (fun vs H Q E h => ?_) (fun cdv A outer s H vs Q E hr h => ?_)
  · obtain ⟨a, m, mo, rfl, _⟩ := h
    rfl
  · obtain ⟨a, m, mo, rfl, m0, hmo, st, q⟩ := h
    have hr1 : Room 1 _ := hr.mono (by decide)
    have hu := hr.units
    refine ⟨_, pss_cons (ps_set (i := 3) scLooks.nd rfl (Or.inl rfl) (pe_lst pa_nil))
      (pss_cons (ps_for PassesOwn.never rfl (pi_range1 rfl T.range (pa_cons (pe_has hN hr1 rfl (pa_cons (pv 0) (pa_cons (pe_op op_add (pv 2) pe_int) pa_nil))) pa_nil)) (pg_name (i := 4) scLooks.nd rfl (Or.inl rfl))
        (pss_cons (ps_set (i := 5) scLooks.nd rfl (Or.inl rfl) (pe_ix ix_list (pe_lst (pa_cons pe_int (pa_cons (pe_op op_sub (pv 1) pe_int) (pa_cons pe_int (pa_cons (pe_op op_sub (pv 1) pe_int) (pa_cons (pe_op op_fdiv (pv 1) pe_int) (pa_cons (pe_has hG hr rfl (pa_cons (pv 0) (pa_cons (pv 1) pa_nil))) pa_nil))))))) (pe_callB (call_min2 rfl) (by rfl) T.min PyProof.Rows.boot_min (pa_cons pe_int (pa_cons (pe_has hN hr1 rfl (pa_cons (pv 0) (pa_cons pe_int pa_nil))) pa_nil))) (fun _ _ => rfl)))
        (pss_cons (ps_if (PW.pt (pw_and (pt_cmpR (op_neL hu) (pv 3) (pe_lst pa_nil) (nomark _)) (pw_and1 (pt_cmpR op_eq (pe_has hN hr1 rfl (pa_cons (pv 0) (pa_cons pe_int pa_nil))) pe_int (nomark _)))))
          (pss_one (ps_set (i := 5) scLooks.nd rfl (Or.inl rfl) (pe_op op_sub (pe_op op_add (pe_op op_add (pe_ix ix_list (pv 3) (pe_un un_neg pe_int) (fun _ _ => rfl)) (pe_op op_fdiv (pv 1) pe_int)) (pe_has hN hr1 rfl (pa_cons (pv 0) (pa_cons pe_int pa_nil)))) pe_int))) pss_nil)
        (pss_one (ps_if (pt_cmpR op_notIn_seq (pe_op op_mod (pv 5) (pv 1)) (pv 3) (by rfl)) (pss_one (ps_expr (pe_bm PySem.F.plainAttrs_list PySem.F.slot_list_append PySem.F.type_list_append mt_append (pv 3) (pa_cons (pe_op op_mod (pv 5) (pv 1)) pa_nil)))) pss_nil)))))
      (pss_one (ps_ret (pe_callB call_sortedI (by rfl) T.sorted PyProof.Rows.boot_sorted (pa_cons (pv 3) pa_nil))))), ?_⟩
    refine ⟨(by show 0 ≤ sizeLine; decide), fun l hl => ?_⟩
    have nla : l ≠ a := st_ne st hl
    refine ⟨_, rfl, _, rfl, _, _, rfl, rfl, a, _, rfl, (by omega), (by omega), st_new st hl, fun r H1 r0 r1 st1 mv1 => ?_⟩
    obtain ⟨n, rfl⟩ := Int.eq_ofNat_of_zero_le r0
    refine ⟨n, rfl, (by omega), (by omega), ?_⟩
    rw [Int.toNat_natCast]
    have l1 : H1 l = some (.lst (([] : List Int).map V.int)) := mv1 _ _ nla upd_same
    have mvH : Mv a H H1 := (Mv.of (new_same hl)).trans mv1
    refine for_range (lo := 0) (n := n) (fun i σ H2 => ∃ (v p : Option V) (fs : List Int), σ = [some (.ref a), some (.int m), some (.int mo), some (.ref l), v, p] ∧ StA H2 a ∧ Mv a H H2 ∧ H2 l = some (.lst (fs.map V.int)) ∧ fs.Nodup ∧ (∀ x ∈ fs, 0 ≤ x ∧ x < m) ∧ fs.length ≤ i) ⟨none, none, [], rfl, st1, mvH, l1, List.nodup_nil, fun x hx => (nomatch hx), Nat.le_refl _⟩ ?_ ?_
    · rintro i σ H2 hi ⟨v, p, fs, rfl, st2, mv2, l2, nd2, bd2, ln2⟩
      refine ⟨_, rfl, _, _, rfl, rfl, _, rfl, _, _, rfl, rfl, _, rfl, _, _, rfl, rfl, ⟨by decide, by decide⟩, _, rfl, _, rfl, a, m, rfl, m0, st2, fun g H3 g0 g1 st3 mv3 => ⟨(by show 6 ≤ sizeLine; decide), fun u hu2 => ?_⟩⟩
      have nua : u ≠ a := st_ne st3 hu2
      refine ⟨_, rfl, a, 9, rfl, (by decide), (by decide), st_new st3 hu2, fun d H4 d0 d1 st4 mv4 => ⟨5, d, rfl, ?_⟩⟩
      obtain ⟨z, ez⟩ := pick6 (z := m) (g := g) d0
      have mvA : Mv a H H4 := ((mv2.trans mv3).trans (Mv.of (new_same hu2))).trans mv4
      have l4 : H4 l = some (.lst (fs.map V.int)) := mv4 _ _ nla (new_same hu2 _ _ (mv3 _ _ nla l2))
      refine ⟨u, _, _, .int z, rfl, rfl, SqL.of (mv4 _ _ nua upd_same), ez, ?_⟩
      refine ⟨_, rfl, (by show 0 ≤ sizeLine; decide), fun u3 hu3 => ?_⟩
      have l5 := new_same (o := .lst []) hu3 _ _ l4
      refine ⟨l, u3, fs, [], rfl, rfl, SqL.of l5, SqL.of upd_same, _, rfl, ?_⟩
      have st5 := st_new (o := .lst []) st4 hu3
      have mvB := mvA.trans (Mv.of (new_same (o := .lst []) hu3))
      refine ite2 (fun c => ?_) (fun c => ?_)
      · have ne : fs ≠ [] := fun e => by
          rw [e] at c
          exact absurd c (by decide)
        refine ⟨_, rfl, a, 4, rfl, (by decide), (by decide), st5, fun d2 H6 _ _ st6 mv6 => ⟨rfl, _, rfl, ?_⟩⟩
        have l6 := mv6 _ _ nla l5
        refine ite2 (fun c2 => ?_) (fun c2 => ?_)
        · obtain ⟨b, eb⟩ := last_ints ne
          refine ⟨_, rfl, 1, rfl, l, _, _, .int b, rfl, rfl, SqL.of l6, eb, _, rfl, _, _, rfl, rfl, ⟨by decide, by decide⟩, _, _, rfl, rfl, _, rfl, a, 3, rfl, (by decide), (by decide), st6, fun d3 H7 _ _ st7 mv7 => ⟨_, _, rfl, rfl, _, _, rfl, rfl, ?_⟩⟩
          exact looks_put m0 st7 ((mvB.trans mv6).trans mv7) nla hl (mv7 _ _ nla l6) nd2 bd2 ln2 (by omega) fun fs H2 a1 a2 a3 a4 a5 a6 => ⟨_, _, fs, rfl, a1, a2, a3, a4, a5, a6⟩
        · exact looks_put m0 st6 (mvB.trans mv6) nla hl l6 nd2 bd2 ln2 (by omega) fun fs H2 a1 a2 a3 a4 a5 a6 => ⟨_, _, fs, rfl, a1, a2, a3, a4, a5, a6⟩
      · exact looks_put m0 st5 mvB nla hl l5 nd2 bd2 ln2 (by omega) fun fs H2 a1 a2 a3 a4 a5 a6 => ⟨_, _, fs, rfl, a1, a2, a3, a4, a5, a6⟩
    · rintro σ H2 ⟨v, p, fs, rfl, st2, mv2, l2, nd2, bd2, ln2⟩
      refine ⟨_, rfl, l, fs, rfl, SqL.of l2, (by omega), fun ms t pm pw ht => ?_⟩
      refine q ms t _ ⟨?_, fun x hx => bd2 x (pm.mem_iff.mp hx)⟩ (by rw [pm.length_eq]; omega) (st_ne st2 ht) (st_new st2 ht) (mv2.trans (Mv.of (new_same ht))) upd_same
      have nd := pm.symm.nodup nd2
      rw [List.nodup_iff_pairwise_ne] at nd
      exact (pw.and nd).imp fun h => by omega
end
end K33

namespace L2
open PySem PySem.Spec PyProof.Rows PySem.W
def rEqL (K : Frag) : R2 := fun x y H Q => ∃ (a b : Addr) (ns ms : List Int), x = .ref a ∧ y = .ref b ∧ SqL K H a (ns.map V.int) ∧ SqL K H b (ms.map V.int) ∧ Q (.bl (decide (ns = ms))) H
theorem op_eqL {X : Cx} (hu : X.A.units + 64 < cLine) : OpR X (compareOp .Eq) (rEqL X.K) := by
  intro pins s σ H x y v u Q I rx ry h
  obtain ⟨a, b, ns, ms, rfl, rfl, ha, hb, q⟩ := h
  cases rx
  cases ry
  obtain ⟨its, r1, p1, _⟩ := I.list ha
  obtain ⟨its2, r2, p2, _⟩ := I.list hb
  exact eq_intsK p1.isList (intsAre_of r1) p2.isList (intsAre_of r2) hu ⟨.bl _, H, I, rfl, q⟩
end L2
namespace K33
open PySem L2 PySem.W
def rf (m a b : Int) : Int := if m - (b - a) % m < (b - a) % m then m - (b - a) % m else (b - a) % m
def mn (a b : Int) : Int := if b < a then b else a
def tf (m p t : Int) : Int := mn (rf m p t) (rf m p (t + 1))
def spFar : Sp := fun vs H Q _ => ∃ m a b : Int, vs = [.int m, .int a, .int b] ∧ 0 < m ∧ Q (.int (rf m a b)) H
def spTFar : Sp := fun vs H Q _ => ∃ m a b : Int, vs = [.int m, .int a, .int b] ∧ 0 < m ∧ Q (.int (tf m a b)) H
section
variable {P : Program} {w : World} {K : Frag} {mg : Str → Option Value} {base : Heap}
theorem scRFar : FnScope ["many", "one", "other", "on"] ["many", "one", "other"] (defScope sRFar) := ⟨rfl, rfl, rfl, by decide +kernel, rfl, by decide +kernel, by decide +kernel⟩
theorem scFar : FnScope ["many", "one", "other", "on"] ["many", "one", "other"] (defScope sFar) := ⟨rfl, rfl, rfl, by decide +kernel, rfl, by decide +kernel, by decide +kernel⟩
theorem scTFar : FnScope ["many", "place", "tie"] ["many", "place", "tie"] (defScope sTFar) := ⟨rfl, rfl, rfl, by decide +kernel, rfl, by decide +kernel, by decide +kernel⟩
theorem ok_rfar {f : Addr} {fd : FuncData} (F : Fun K "ring_far" "ring_far" sRFar f fd) (T : Txt K mg) : FnOk P w K mg base CX0 1 f fd ["many", "one", "other"] spFar := by
  refine F.ok scRFar (fun vs H Q E h => ?_) (fun cdv A outer s H vs Q E hr h => ?_)
  · obtain ⟨m, a, b, rfl, _⟩ := h
    rfl
  · obtain ⟨m, a, b, rfl, m0, q⟩ := h
    refine ⟨_, pss_cons (ps_set (i := 3) scRFar.nd rfl (Or.inl rfl) (pe_op op_mod (pe_op op_sub (pv 2) (pv 1)) (pv 0))) (pss_one (ps_ret (pe_callB (call_min2 rfl) (by rfl) T.min PyProof.Rows.boot_min (pa_cons (pv 3) (pa_cons (pe_op op_sub (pv 0) (pv 3)) pa_nil))))), ?_⟩
    exact ⟨_, rfl, _, rfl, _, _, rfl, rfl, _, rfl, _, _, rfl, rfl, m0, _, rfl, _, rfl, _, rfl, _, _, rfl, rfl, _, _, rfl, q⟩
theorem ok_far {f : Addr} {fd : FuncData} (F : Fun K "_law_far" "_law_far" sFar f fd) (T : Txt K mg) : FnOk P w K mg base CX0 1 f fd ["many", "one", "other"] spFar := by
  refine F.ok scFar (fun vs H Q E h => ?_) (fun cdv A outer s H vs Q E hr h => ?_)
  · obtain ⟨m, a, b, rfl, _⟩ := h
    rfl
  · obtain ⟨m, a, b, rfl, m0, q⟩ := h
    refine ⟨_, pss_cons (ps_set (i := 3) scFar.nd rfl (Or.inl rfl) (pe_op op_mod (pe_op op_sub (pv 2) (pv 1)) (pv 0))) (pss_one (ps_ret (pe_callB (call_min2 rfl) (by rfl) T.min PyProof.Rows.boot_min (pa_cons (pv 3) (pa_cons (pe_op op_sub (pv 0) (pv 3)) pa_nil))))), ?_⟩
    exact ⟨_, rfl, _, rfl, _, _, rfl, rfl, _, rfl, _, _, rfl, rfl, m0, _, rfl, _, rfl, _, rfl, _, _, rfl, rfl, _, _, rfl, q⟩
theorem ok_tfar {f : Addr} {fd : FuncData} (F : Fun K "ring_tie_far" "ring_tie_far" sTFar f fd) (T : Txt K mg) (hF : Has P w K mg base 1 "ring_far" ["many", "one", "other"] spFar) : FnOk P w K mg base CX0 2 f fd ["many", "place", "tie"] spTFar := by
  refine F.ok scTFar (fun vs H Q E h => ?_) (fun cdv A outer s H vs Q E hr h => ?_)
  · obtain ⟨m, a, b, rfl, _⟩ := h
    rfl
  · obtain ⟨m, a, b, rfl, m0, q⟩ := h
    refine ⟨_, pss_one (ps_ret (pe_callB (call_min2 rfl) (by rfl) T.min PyProof.Rows.boot_min (pa_cons (pe_has hF hr rfl (pa_cons (pv 0) (pa_cons (pv 1) (pa_cons (pv 2) pa_nil)))) (pa_cons (pe_has hF hr rfl (pa_cons (pv 0) (pa_cons (pv 1) (pa_cons (pe_op op_add (pv 2) pe_int) pa_nil)))) pa_nil)))), ?_⟩
    exact ⟨_, rfl, _, rfl, _, rfl, m, a, b, rfl, m0, _, rfl, _, rfl, _, rfl, _, _, rfl, rfl, m, a, b + 1, rfl, m0, _, _, rfl, q⟩
end
end K33

namespace K33
open PySem L2 PySem.W
/-- the comprehension in the test of the loop -/
def loopSc : Stmt → Scope
  | .For _ _ (.If (.Compare (.ListComp _ _ sc _) _ _ _) _ _ _ :: _) _ _ => sc
  | _ => { kind := .function, names := [], isGenerator := false, isCoroutine := false }
abbrev scP : Scope := loopSc ((defBody sRPlace).getD 1 (.Pass ⟨0, 0, 0, 0⟩))
abbrev rpN : List Str := ["many", "looks", "told", "look", "far", "place"]
theorem blockP : blockB rpN (defScope sRPlace) scP "each" ["each", "many", "place"] [0, 5] = true := by decide +kernel
theorem map_take {ls : List Int} {f : Int → Int} {j : Nat} {z : Int} (h : ls[j]? = some z) : (ls.take (j + 1)).map f = (ls.take j).map f ++ [f z] := by
  rw [List.take_add_one, h, List.map_append]
  rfl
def two (d : Bool) (m l f : Int) : List Int := [(l + f) % m, if d then (l - f - 1) % m else (l - f) % m]
/-- what a code's thing is: the first of two that has the code -/
def spFind (K : Frag) (C : Addr) (d : Bool) (g : Int → Int → Int → Int) : Sp := fun vs H Q E => ∃ (m : Int) (p t : Addr) (ls ds : List Int), vs = [.int m, .ref p, .ref t] ∧ 0 < m ∧ SqL K H p (ls.map V.int) ∧ SqL K H t (ds.map V.int) ∧ 0 < ls.length ∧ ls.length ≤ 20 ∧ 0 < ds.length ∧
  match (two d m (ls.getD 0 0) (ds.getD 0 0)).find? (fun c => decide (ls.map (fun l => g m l c) = ds)) with
  | some c => ∀ H', Same H H' → Q (.int c) H'
  | none => ∀ H' a, Same H H' → H' a = some (.ext (XAt a C none)) → E (.ref C) (some a) H'
section
variable {P : Program} {w : World} {K : Frag} {mg : Str → Option Value} {base : Heap} {C : Addr}
theorem scRP : FnScope rpN ["many", "looks", "told"] (defScope sRPlace) := ⟨rfl, rfl, rfl, by decide +kernel, rfl, by decide +kernel, by decide +kernel⟩
theorem at_d {ls : List Int} {j : Nat} (h : j < ls.length) : atI (ls.map V.int) (j : Int) = some (.int (ls.getD j 0)) := atI_nat (by rw [List.getElem?_map, List.getElem?_eq_getElem h, List.getD_eq_getElem?_getD, List.getElem?_eq_getElem h]; rfl)
theorem ok_rplace {f : Addr} {fd : FuncData} (F : Fun K "ring_place" "ring_place" sRPlace f fd) (T : Txt K mg) (hC : mg "NoCode" = some (.ref C)) (hx : xclsIn K C veM "ValueError.__new__" none = true)
    (hF : Has P w K mg base 1 "ring_far" ["many", "one", "other"] spFar) : FnOk P w K mg base (CX1 P w) 2 f fd ["many", "looks", "told"] (spFind K C false rf) := by
  refine F.ok1 scRP (fun vs H Q E h => ?_) (fun cdv A outer s H vs Q E hr h => ?_)
  · obtain ⟨m, p, t, ls, ds, rfl, _⟩ := h
    rfl
  · obtain ⟨m, p, t, ls, ds, rfl, m0, hp, ht, l0, l20, d0, q⟩ := h
    have hu := hr.units
    refine ⟨_, pss_cons (ps_par (i := 3) (j := 4) rfl scRP.nd rfl rfl (by decide) rfl rfl (pa_cons (pe_ix ix_list (pv 1) pe_int (fun _ _ => rfl)) (pa_cons (pe_ix ix_list (pv 2) pe_int (fun _ _ => rfl)) pa_nil)) rfl)
      (pss_cons (ps_for PassesOwn.leaving rfl (pi_tup (pe_tup (pa_cons (pe_op op_mod (pe_op op_add (pv 3) (pv 4)) (pv 0)) (pa_cons (pe_op op_mod (pe_op op_sub (pv 3) (pv 4)) (pv 0)) pa_nil)))) (pg_name (i := 5) scRP.nd rfl (Or.inr rfl))
        (pss_one (ps_if (pt_cmpR (op_eqL hu) (pe_comp (NB := ["each", "many", "place"]) (ix := [0, 5]) (BlockOk.of blockP) rfl (pi_list (pv 1)) (fun _ _ _ _ => pe_has hF hr rfl (pa_cons (pv 1) (pa_cons (pv 0) (pa_cons (pv 2) pa_nil)))) (fun _ _ _ _ => pts_nil)) (pv 2) (nomark _)) (pss_one (ps_ret (pv 5))) pss_nil)))
      (pss_one (ps_raise hx rfl hC (pa_cons pe_str pa_nil)))), ?_⟩
    generalize el : ls.getD 0 0 = l at q
    generalize ef : ds.getD 0 0 = fr at q
    have hl1 : atI (ls.map V.int) 0 = some (.int l) := by rw [← el]; exact at_d l0
    have hf1 : atI (ds.map V.int) 0 = some (.int fr) := by rw [← ef]; exact at_d d0
    refine ⟨_, rfl, p, _, _, .int l, rfl, rfl, hp, hl1, _, rfl, t, _, _, .int fr, rfl, rfl, ht, hf1, _, _, rfl, ?_⟩
    refine ⟨_, rfl, _, rfl, _, _, rfl, rfl, _, rfl, _, _, rfl, rfl, m0, _, rfl, _, rfl, _, _, rfl, rfl, _, rfl, _, _, rfl, rfl, m0, (by show 2 ≤ sizeLine; decide), fun tp htp => ?_⟩
    have s1 := new_same (o := .tup [.int ((l + fr) % m), .int ((l - fr) % m)]) htp
    have t1 : SqT K (upd H tp (.tup [.int ((l + fr) % m), .int ((l - fr) % m)])) tp [.int ((l + fr) % m), .int ((l - fr) % m)] := .inl (.inl upd_same)
    generalize upd H tp (.tup [.int ((l + fr) % m), .int ((l - fr) % m)]) = H1 at s1 t1 ⊢
    refine ⟨tp, rfl, ⟨_, t1⟩, ?_⟩
    change match (two false m l fr).find? (fun c => decide (ls.map (fun l => rf m l c) = ds)) with | some c => ∀ H', Same H H' → Q (.int c) H' | none => ∀ H' a, Same H H' → H' a = some (.ext (XAt a C none)) → E (.ref C) (some a) H' at q
    have ecs : ([.int ((l + fr) % m), .int ((l - fr) % m)] : List V) = (two false m l fr).map V.int := rfl
    rw [ecs] at t1
    generalize two false m l fr = cs at q t1 ⊢
    refine for_tup (xs := cs.map V.int) (fun i σ H2 => ∃ v, σ = [some (.int m), some (.ref p), some (.ref t), some (.int l), some (.int fr), v] ∧ Same H1 H2 ∧ cs.find? (fun c => decide (ls.map (fun l => rf m l c) = ds)) = (cs.drop i).find? (fun c => decide (ls.map (fun l => rf m l c) = ds))) ⟨none, rfl, Same.refl _, rfl⟩ ?_ ?_ ?_
    · rintro i σ H2 hi ⟨v, rfl, s2, _⟩
      exact s2.tup t1
    · rintro i x σ H2 hx ⟨v, rfl, s2, e⟩
      rw [List.getElem?_map] at hx
      cases e1 : cs[i]? with
      | none => rw [e1] at hx; cases hx
      | some c =>
        rw [e1] at hx
        cases hx
        have dr : cs.drop i = c :: cs.drop (i + 1) := by
          obtain ⟨hlt, hc⟩ := List.getElem?_eq_some_iff.mp e1
          rw [← hc]
          exact List.drop_eq_getElem_cons hlt
        rw [dr, List.find?_cons] at e
        have hp2 := (s1.trans s2).seq hp
        refine ⟨_, rfl, p, rfl, ⟨_, hp2⟩, comp_list (xs := ls.map V.int) (fun j us Hd => Hd = H2 ∧ us = ((ls.take j).map fun l => rf m l c).map V.int) ⟨rfl, rfl⟩ ?_ ?_ ?_ ?_⟩
        · rintro j us Hd hj ⟨rfl, rfl⟩
          rw [List.length_map, List.length_map, List.length_take]
          exact Nat.lt_of_le_of_lt (Nat.le_trans (Nat.min_le_right _ _) l20) (by decide)
        · rintro j us Hd hj ⟨rfl, rfl⟩
          exact hp2
        · rintro j x us Hd hx ⟨rfl, rfl⟩
          rw [List.getElem?_map] at hx
          cases e2 : ls[j]? with
          | none => rw [e2] at hx; cases hx
          | some z =>
            rw [e2] at hx
            cases hx
            unfold tYes
            refine @iteT (tCall spFar [] E0 (tCons (tVar 1) (tCons (tVar 0) (tCons (tVar 2) tNil))) _ _ _) _ ?_
            refine ⟨_, rfl, _, rfl, _, rfl, m, z, c, rfl, m0, ?_⟩
            refine ⟨rfl, ?_⟩
            rw [map_take e2, List.map_append]
            rfl
        · rintro us Hd ⟨rfl, rfl⟩ u hu2
          rw [List.length_map, List.take_length]
          have s3 := new_same (o := .lst ((ls.map fun l => rf m l c).map V.int)) hu2
          refine ⟨_, rfl, u, t, _, ds, rfl, rfl, SqL.of upd_same, s3.seq ((s1.trans s2).seq ht), _, rfl, ?_⟩
          refine ite2 (fun hc => ?_) (fun hc => ?_)
          · rw [hc] at e
            rw [e] at q
            exact ⟨_, rfl, q _ ((s1.trans s2).trans s3)⟩
          · rw [Bool.not_eq_true _ |>.mp hc] at e
            exact ⟨_, rfl, s2.trans s3, e⟩
    · rintro σ H2 ⟨v, rfl, s2, e⟩
      rw [List.length_map, List.drop_length] at e
      rw [e] at q
      exact ⟨(by show 1 ≤ sizeLine; decide), fun a ha => q _ a ((s1.trans s2).trans (new_same ha)) upd_same⟩
end
end K33

namespace K33
open PySem L2 PySem.W
abbrev scT : Scope := loopSc ((defBody sRTie).getD 1 (.Pass ⟨0, 0, 0, 0⟩))
abbrev rtN : List Str := ["many", "looks", "told", "look", "far", "tie"]
theorem blockT : blockB rtN (defScope sRTie) scT "each" ["each", "many", "tie"] [0, 5] = true := by decide +kernel
section
variable {P : Program} {w : World} {K : Frag} {mg : Str → Option Value} {base : Heap} {C : Addr}
theorem scRT : FnScope rtN ["many", "looks", "told"] (defScope sRTie) := ⟨rfl, rfl, rfl, by decide +kernel, rfl, by decide +kernel, by decide +kernel⟩
theorem ok_rtie {f : Addr} {fd : FuncData} (F : Fun K "ring_tie" "ring_tie" sRTie f fd) (T : Txt K mg) (hC : mg "NoCode" = some (.ref C)) (hx : xclsIn K C veM "ValueError.__new__" none = true)
    (hF : Has P w K mg base 2 "ring_tie_far" ["many", "place", "tie"] spTFar) : FnOk P w K mg base (CX1 P w) 3 f fd ["many", "looks", "told"] (spFind K C true tf) := by
  refine F.ok1 scRT (fun vs H Q E h => ?_) (fun cdv A outer s H vs Q E hr h => ?_)
  · obtain ⟨m, p, t, ls, ds, rfl, _⟩ := h
    rfl
  · obtain ⟨m, p, t, ls, ds, rfl, m0, hp, ht, l0, l20, d0, q⟩ := h
    have hu := hr.units
    refine ⟨_, pss_cons (ps_par (i := 3) (j := 4) rfl scRT.nd rfl rfl (by decide) rfl rfl (pa_cons (pe_ix ix_list (pv 1) pe_int (fun _ _ => rfl)) (pa_cons (pe_ix ix_list (pv 2) pe_int (fun _ _ => rfl)) pa_nil)) rfl)
      (pss_cons (ps_for PassesOwn.leaving rfl (pi_tup (pe_tup (pa_cons (pe_op op_mod (pe_op op_add (pv 3) (pv 4)) (pv 0)) (pa_cons (pe_op op_mod (pe_op op_sub (pe_op op_sub (pv 3) (pv 4)) pe_int) (pv 0)) pa_nil)))) (pg_name (i := 5) scRT.nd rfl (Or.inr rfl))
        (pss_one (ps_if (pt_cmpR (op_eqL hu) (pe_comp (NB := ["each", "many", "tie"]) (ix := [0, 5]) (BlockOk.of blockT) rfl (pi_list (pv 1)) (fun _ _ _ _ => pe_has hF hr rfl (pa_cons (pv 1) (pa_cons (pv 0) (pa_cons (pv 2) pa_nil)))) (fun _ _ _ _ => pts_nil)) (pv 2) (nomark _)) (pss_one (ps_ret (pv 5))) pss_nil)))
      (pss_one (ps_raise hx rfl hC (pa_cons pe_str pa_nil)))), ?_⟩
    generalize el : ls.getD 0 0 = l at q
    generalize ef : ds.getD 0 0 = fr at q
    have hl1 : atI (ls.map V.int) 0 = some (.int l) := by rw [← el]; exact at_d l0
    have hf1 : atI (ds.map V.int) 0 = some (.int fr) := by rw [← ef]; exact at_d d0
    refine ⟨_, rfl, p, _, _, .int l, rfl, rfl, hp, hl1, _, rfl, t, _, _, .int fr, rfl, rfl, ht, hf1, _, _, rfl, ?_⟩
    refine ⟨_, rfl, _, rfl, _, _, rfl, rfl, _, rfl, _, _, rfl, rfl, m0, _, rfl, _, rfl, _, _, rfl, rfl, _, _, rfl, rfl, _, rfl, _, _, rfl, rfl, m0, (by show 2 ≤ sizeLine; decide), fun tp htp => ?_⟩
    have s1 := new_same (o := .tup [.int ((l + fr) % m), .int ((l - fr - 1) % m)]) htp
    have t1 : SqT K (upd H tp (.tup [.int ((l + fr) % m), .int ((l - fr - 1) % m)])) tp [.int ((l + fr) % m), .int ((l - fr - 1) % m)] := .inl (.inl upd_same)
    generalize upd H tp (.tup [.int ((l + fr) % m), .int ((l - fr - 1) % m)]) = H1 at s1 t1 ⊢
    refine ⟨tp, rfl, ⟨_, t1⟩, ?_⟩
    change match (two true m l fr).find? (fun c => decide (ls.map (fun l => tf m l c) = ds)) with | some c => ∀ H', Same H H' → Q (.int c) H' | none => ∀ H' a, Same H H' → H' a = some (.ext (XAt a C none)) → E (.ref C) (some a) H' at q
    have ecs : ([.int ((l + fr) % m), .int ((l - fr - 1) % m)] : List V) = (two true m l fr).map V.int := rfl
    rw [ecs] at t1
    generalize two true m l fr = cs at q t1 ⊢
    refine for_tup (xs := cs.map V.int) (fun i σ H2 => ∃ v, σ = [some (.int m), some (.ref p), some (.ref t), some (.int l), some (.int fr), v] ∧ Same H1 H2 ∧ cs.find? (fun c => decide (ls.map (fun l => tf m l c) = ds)) = (cs.drop i).find? (fun c => decide (ls.map (fun l => tf m l c) = ds))) ⟨none, rfl, Same.refl _, rfl⟩ ?_ ?_ ?_
    · rintro i σ H2 hi ⟨v, rfl, s2, _⟩
      exact s2.tup t1
    · rintro i x σ H2 hx ⟨v, rfl, s2, e⟩
      rw [List.getElem?_map] at hx
      cases e1 : cs[i]? with
      | none => rw [e1] at hx; cases hx
      | some c =>
        rw [e1] at hx
        cases hx
        have dr : cs.drop i = c :: cs.drop (i + 1) := by
          obtain ⟨hlt, hc⟩ := List.getElem?_eq_some_iff.mp e1
          rw [← hc]
          exact List.drop_eq_getElem_cons hlt
        rw [dr, List.find?_cons] at e
        have hp2 := (s1.trans s2).seq hp
        refine ⟨_, rfl, p, rfl, ⟨_, hp2⟩, comp_list (xs := ls.map V.int) (fun j us Hd => Hd = H2 ∧ us = ((ls.take j).map fun l => tf m l c).map V.int) ⟨rfl, rfl⟩ ?_ ?_ ?_ ?_⟩
        · rintro j us Hd hj ⟨rfl, rfl⟩
          rw [List.length_map, List.length_map, List.length_take]
          exact Nat.lt_of_le_of_lt (Nat.le_trans (Nat.min_le_right _ _) l20) (by decide)
        · rintro j us Hd hj ⟨rfl, rfl⟩
          exact hp2
        · rintro j x us Hd hx ⟨rfl, rfl⟩
          rw [List.getElem?_map] at hx
          cases e2 : ls[j]? with
          | none => rw [e2] at hx; cases hx
          | some z =>
            rw [e2] at hx
            cases hx
            unfold tYes
            refine @iteT (tCall spTFar [] E0 (tCons (tVar 1) (tCons (tVar 0) (tCons (tVar 2) tNil))) _ _ _) _ ?_
            refine ⟨_, rfl, _, rfl, _, rfl, m, z, c, rfl, m0, ?_⟩
            refine ⟨rfl, ?_⟩
            rw [map_take e2, List.map_append]
            rfl
        · rintro us Hd ⟨rfl, rfl⟩ u hu2
          rw [List.length_map, List.take_length]
          have s3 := new_same (o := .lst ((ls.map fun l => tf m l c).map V.int)) hu2
          refine ⟨_, rfl, u, t, _, ds, rfl, rfl, SqL.of upd_same, s3.seq ((s1.trans s2).seq ht), _, rfl, ?_⟩
          refine ite2 (fun hc => ?_) (fun hc => ?_)
          · rw [hc] at e
            rw [e] at q
            exact ⟨_, rfl, q _ ((s1.trans s2).trans s3)⟩
          · rw [Bool.not_eq_true _ |>.mp hc] at e
            exact ⟨_, rfl, s2.trans s3, e⟩
    · rintro σ H2 ⟨v, rfl, s2, e⟩
      rw [List.length_map, List.drop_length] at e
      rw [e] at q
      exact ⟨(by show 1 ≤ sizeLine; decide), fun a ha => q _ a ((s1.trans s2).trans (new_same ha)) upd_same⟩
end
end K33

namespace K33
open PySem L2 PySem.W
def ab (i : Int) : Int := if i < 0 then -i else i
def gf (x1 y1 x2 y2 : Int) : Int := ab (x1 - x2) + ab (y1 - y2)
def spGFar (K : Frag) : Sp := fun vs H Q _ => ∃ (a b : Addr) (x1 y1 x2 y2 : Int), vs = [.ref a, .ref b] ∧ SqT K H a [.int x1, .int y1] ∧ SqT K H b [.int x2, .int y2] ∧ Q (.int (gf x1 y1 x2 y2)) H
/-- the place of a grid whose side stands -/
def gpx (wd hg x1 d1 d2 : Int) : Int := if x1 = 0 then (d1 + d2 - (hg - 1)) / 2 else wd - 1 - (d1 + d2 - (hg - 1)) / 2
def gpy (hg y1 d1 d2 : Int) : Int := if y1 = 0 then d1 - (d1 + d2 - (hg - 1)) / 2 else hg - 1 - (d1 - (d1 + d2 - (hg - 1)) / 2)
def gpOk (wd hg x1 y1 x2 y2 d1 d2 x y : Int) : Bool := (decide (0 ≤ x) && decide (x < wd)) && (decide (0 ≤ y) && decide (y < hg)) && decide ([gf x1 y1 x y, gf x2 y2 x y] = [d1, d2])
/-- grid_place, S what is known of it where it asks itself -/
def spGr (K : Frag) (C : Addr) (S : Sp) : Sp := fun vs H Q E => ∃ (wd hg : Int) (a b t : Addr) (x1 y1 x2 y2 d1 d2 : Int), vs = [.int wd, .int hg, .ref a, .ref b, .ref t] ∧ SqT K H a [.int x1, .int y1] ∧ SqT K H b [.int x2, .int y2] ∧ SqL K H t [.int d1, .int d2] ∧
  if x1 = x2 then (if gpOk wd hg x1 y1 x2 y2 d1 d2 (gpx wd hg x1 d1 d2) (gpy hg y1 d1 d2) = true then ∀ H' r, Same H H' → H' r = some (.tup [.int (gpx wd hg x1 d1 d2), .int (gpy hg y1 d1 d2)]) → Q (.ref r) H'
      else ∀ H' e, Same H H' → H' e = some (.ext (XAt e C none)) → E (.ref C) (some e) H')
  else ∀ H' a' b', Same H H' → SqT K H' a' [.int y1, .int x1] → SqT K H' b' [.int y2, .int x2] → S [.int hg, .int wd, .ref a', .ref b', .ref t] H' (fun v H2 => ∃ (u : Addr) (y x : Int), v = .ref u ∧ SqT K H2 u [.int y, .int x] ∧ ∀ H3 r, Same H2 H3 → H3 r = some (.tup [.int x, .int y]) → Q (.ref r) H3) E
theorem chain_rd {σ : St} {H : Hp} {Q : Bool → Hp → Prop} {i x y : Int} {j k : Nat} (hj : σ[j]? = some (some (.int x))) (hk : σ[k]? = some (some (.int y))) (q : Q (decide (i ≤ x) && decide (x < y)) H) :
    tTest (tChain (rI0 fun i j => .bl (decide (i ≤ j))) (rI0 fun i j => .bl (decide (i < j))) (tC (.int i)) (tVar j) (tVar k)) σ H Q := by
  refine ⟨_, hj, _, _, rfl, rfl, _, rfl, ?_⟩
  refine ite2 (fun c => ?_) (fun c => ?_)
  · rw [c, Bool.true_and] at q
    exact ⟨_, hk, _, _, rfl, rfl, _, rfl, q⟩
  · rw [Bool.not_eq_true _ |>.mp c, Bool.false_and] at q
    exact ⟨_, rfl, q⟩
section
variable {P : Program} {w : World} {K : Frag} {mg : Str → Option Value} {base : Heap} {C : Addr} {S : Sp} {k : Nat}
theorem scGF : FnScope ["one", "other"] ["one", "other"] (defScope sGFar) := ⟨rfl, rfl, rfl, by decide +kernel, rfl, by decide +kernel, by decide +kernel⟩
abbrev gpN : List Str := ["wide", "high", "one", "other", "told", "y", "x", "away", "along"]
theorem scGP : FnScope gpN ["wide", "high", "one", "other", "told"] (defScope sGPlace) := ⟨rfl, rfl, rfl, by decide +kernel, rfl, by decide +kernel, by decide +kernel⟩
theorem ok_gfar {f : Addr} {fd : FuncData} (F : Fun K "grid_far" "grid_far" sGFar f fd) (T : Txt K mg) : FnOk P w K mg base CX0 1 f fd ["one", "other"] (spGFar K) := by
  refine F.ok scGF (fun vs H Q E h => ?_) (fun cdv A outer s H vs Q E hr h => ?_)
  · obtain ⟨a, b, x1, y1, x2, y2, rfl, _⟩ := h
    rfl
  · obtain ⟨a, b, x1, y1, x2, y2, rfl, ha, hb, q⟩ := h
    refine ⟨_, pss_one (ps_ret (pe_op op_add (pe_callB call_abs (by rfl) T.abs PyProof.Rows.boot_abs (pa_cons (pe_op op_sub (pe_ix ix_tup (pv 0) pe_int (fun _ _ => rfl)) (pe_ix ix_tup (pv 1) pe_int (fun _ _ => rfl))) pa_nil)) (pe_callB call_abs (by rfl) T.abs PyProof.Rows.boot_abs (pa_cons (pe_op op_sub (pe_ix ix_tup (pv 0) pe_int (fun _ _ => rfl)) (pe_ix ix_tup (pv 1) pe_int (fun _ _ => rfl))) pa_nil)))), ?_⟩
    exact ⟨_, rfl, a, _, _, .int x1, rfl, rfl, ha, rfl, _, rfl, b, _, _, .int x2, rfl, rfl, hb, rfl, _, _, rfl, rfl, _, rfl, _, rfl, a, _, _, .int y1, rfl, rfl, ha, rfl, _, rfl, b, _, _, .int y2, rfl, rfl, hb, rfl, _, _, rfl, rfl, _, rfl, _, _, rfl, rfl, q⟩
theorem ok_gplace {f : Addr} {fd : FuncData} (F : Fun K "grid_place" "grid_place" sGPlace f fd) (T : Txt K mg) (hC : mg "NoCode" = some (.ref C)) (hx : xclsIn K C veM "ValueError.__new__" none = true)
    (hF : Has P w K mg base (k + 1) "grid_far" ["one", "other"] (spGFar K)) (hS : Has1 P w K mg base (k + 1) "grid_place" ["wide", "high", "one", "other", "told"] S)
    (mono : ∀ vs H (Q Q' : VK) E, (∀ v H, Q v H → Q' v H) → S vs H Q E → S vs H Q' E) : FnOk P w K mg base (CX1 P w) (k + 2) f fd ["wide", "high", "one", "other", "told"] (spGr K C S) := by
  refine F.ok1 scGP (fun vs H Q E h => ?_) (fun cdv A outer s H vs Q E hr h => ?_)
  · obtain ⟨wd, hg, a, b, t, x1, y1, x2, y2, d1, d2, rfl, _⟩ := h
    rfl
  · obtain ⟨wd, hg, a, b, t, x1, y1, x2, y2, d1, d2, rfl, ha, hb, ht, q⟩ := h
    have hu := hr.units
    refine ⟨_, pss_cons (ps_if (pt_cmpR op_ne (pe_ix ix_tup (pv 2) pe_int (fun _ _ => rfl)) (pe_ix ix_tup (pv 3) pe_int (fun _ _ => rfl)) (nomark _))
        (pss_cons (ps_asg (pe_has1 hS hr rfl (pa_cons (pv 1) (pa_cons (pv 0) (pa_cons (pe_tup (pa_cons (pe_ix ix_tup (pv 2) pe_int (fun _ _ => rfl)) (pa_cons (pe_ix ix_tup (pv 2) pe_int (fun _ _ => rfl)) pa_nil))) (pa_cons (pe_tup (pa_cons (pe_ix ix_tup (pv 3) pe_int (fun _ _ => rfl)) (pa_cons (pe_ix ix_tup (pv 3) pe_int (fun _ _ => rfl)) pa_nil))) (pa_cons (pv 4) pa_nil))))))
            (pg_tup rfl (pgs_cons (pg_name (i := 5) scGP.nd rfl (Or.inl rfl)) (pgs_cons (pg_name (i := 6) scGP.nd rfl (Or.inl rfl)) pgs_nil))))
          (pss_one (ps_ret (pe_tup (pa_cons (pv 6) (pa_cons (pv 5) pa_nil)))))) pss_nil)
      (pss_cons (ps_set (i := 7) scGP.nd rfl (Or.inl rfl) (pe_op op_fdiv (pe_op op_sub (pe_op op_add (pe_ix ix_list (pv 4) pe_int (fun _ _ => rfl)) (pe_ix ix_list (pv 4) pe_int (fun _ _ => rfl))) (pe_op op_sub (pv 1) pe_int)) pe_int))
      (pss_cons (ps_set (i := 8) scGP.nd rfl (Or.inl rfl) (pe_op op_sub (pe_ix ix_list (pv 4) pe_int (fun _ _ => rfl)) (pv 7)))
      (pss_cons (ps_set (i := 6) scGP.nd rfl (Or.inl rfl) (pe_ifExp (pt_cmpR op_eq (pe_ix ix_tup (pv 2) pe_int (fun _ _ => rfl)) pe_int (nomark _)) (pv 7) (pe_op op_sub (pe_op op_sub (pv 0) pe_int) (pv 7))))
      (pss_cons (ps_set (i := 5) scGP.nd rfl (Or.inl rfl) (pe_ifExp (pt_cmpR op_eq (pe_ix ix_tup (pv 2) pe_int (fun _ _ => rfl)) pe_int (nomark _)) (pv 8) (pe_op op_sub (pe_op op_sub (pv 1) pe_int) (pv 8))))
      (pss_cons (ps_if (PW.pt (pw_or (pt_not (PW.pt (pw_and (pt_chain op_le op_lt pe_int (pv 6) (pv 0)) (pw_and1 (pt_chain op_le op_lt pe_int (pv 5) (pv 1)))))) (pw_or1 (pt_cmpR (op_neL hu) (pe_lst (pa_cons (pe_has hF hr rfl (pa_cons (pv 2) (pa_cons (pe_tup (pa_cons (pv 6) (pa_cons (pv 5) pa_nil))) pa_nil))) (pa_cons (pe_has hF hr rfl (pa_cons (pv 3) (pa_cons (pe_tup (pa_cons (pv 6) (pa_cons (pv 5) pa_nil))) pa_nil))) pa_nil))) (pv 4) (nomark _)))))
        (pss_one (ps_raise hx rfl hC (pa_cons pe_str pa_nil))) pss_nil)
      (pss_one (ps_ret (pe_tup (pa_cons (pv 6) (pa_cons (pv 5) pa_nil)))))))))), ?_⟩
    refine ⟨_, rfl, a, _, _, .int x1, rfl, rfl, ha, rfl, _, rfl, b, _, _, .int x2, rfl, rfl, hb, rfl, rfl, _, rfl, ?_⟩
    refine ite2 (fun c => ?_) (fun c => ?_)
    · have ne : ¬ x1 = x2 := fun z => by rw [z] at c; simp at c
      rw [if_neg ne] at q
      refine ⟨_, rfl, _, rfl, _, rfl, a, _, _, .int y1, rfl, rfl, ha, rfl, _, rfl, a, _, _, .int x1, rfl, rfl, ha, rfl, (by show 2 ≤ sizeLine; decide), fun a' ha' => ?_⟩
      have s1 := new_same (o := .tup [.int y1, .int x1]) ha'
      refine ⟨_, rfl, b, _, _, .int y2, rfl, rfl, s1.tup hb, rfl, _, rfl, b, _, _, .int x2, rfl, rfl, s1.tup hb, rfl, (by show 2 ≤ sizeLine; decide), fun b' hb' => ?_⟩
      have s2 := new_same (o := .tup [.int y2, .int x2]) hb'
      refine ⟨_, rfl, mono _ _ _ _ _ (fun v H2 hv => ?_) (q _ a' b' (s1.trans s2) (s2.tup (.inl (.inl upd_same))) (.inl (.inl upd_same)))⟩
      obtain ⟨u, y, x, rfl, hu', q3⟩ := hv
      exact ⟨u, _, rfl, hu', rfl, _, _, rfl, _, _, rfl, rfl, _, rfl, _, rfl, (by show 2 ≤ sizeLine; decide), fun r hr' => q3 _ r (new_same hr') upd_same⟩
    · have eq : x1 = x2 := Decidable.byContradiction fun z => c (by simp [z])
      rw [if_pos eq] at q
      refine ⟨_, rfl, t, _, _, .int d1, rfl, rfl, ht, rfl, _, rfl, t, _, _, .int d2, rfl, rfl, ht, rfl, _, _, rfl, rfl, _, rfl, _, _, rfl, rfl, _, _, rfl, rfl, _, _, rfl, rfl, ⟨by decide, by decide⟩, ?_⟩
      refine ⟨_, rfl, t, _, _, .int d1, rfl, rfl, ht, rfl, _, rfl, _, _, rfl, rfl, ?_⟩
      refine ⟨_, rfl, a, _, _, .int x1, rfl, rfl, ha, rfl, rfl, _, rfl, ?_⟩
      refine ite2 (fun c1 => ⟨_, rfl, ?_⟩) (fun c1 => ⟨_, rfl, _, _, rfl, rfl, _, rfl, _, _, rfl, rfl, ?_⟩)
      · have ex : gpx wd hg x1 d1 d2 = (d1 + d2 - (hg - 1)) / 2 := if_pos (by simpa using c1)
        rw [ex] at q
        refine ⟨_, rfl, a, _, _, .int y1, rfl, rfl, ha, rfl, rfl, _, rfl, ?_⟩
        refine ite2 (fun c2 => ⟨_, rfl, ?_⟩) (fun c2 => ⟨_, rfl, _, _, rfl, rfl, _, rfl, _, _, rfl, rfl, ?_⟩)
        · have ey : gpy hg y1 d1 d2 = d1 - (d1 + d2 - (hg - 1)) / 2 := if_pos (by simpa using c2)
          rw [ey] at q
          refine chain_rd rfl rfl ?_
          refine ite2 (fun b1 => ?_) (fun b1 => ?_)
          · refine chain_rd rfl rfl ?_
            refine ite2 (fun b2 => ?_) (fun b2 => ?_)
            · rw [if_neg (fun z => by unfold gpOk at z; rw [Bool.and_eq_true, Bool.and_eq_true] at z; rw [z.1.2] at b2; cases b2)] at q
              exact ⟨(by show 1 ≤ sizeLine; decide), fun e he => q _ e (new_same he) upd_same⟩
            · have b2' := Bool.not_eq_true _ |>.mp b2
              rw [Bool.not_eq_false'] at b2'
              refine ⟨_, rfl, _, rfl, _, rfl, (by show 2 ≤ sizeLine; decide), fun g1 hg1 => ?_⟩
              refine ⟨a, g1, x1, y1, _, _, rfl, (new_same hg1).tup ha, .inl (.inl upd_same), ?_⟩
              refine ⟨_, rfl, _, rfl, _, rfl, (by show 2 ≤ sizeLine; decide), fun g2 hg2 => ?_⟩
              refine ⟨b, g2, x2, y2, _, _, rfl, (new_same hg2).tup ((new_same hg1).tup hb), .inl (.inl upd_same), ?_⟩
              refine ⟨(by show 2 ≤ sizeLine; decide), fun li hli => ?_⟩
              refine ⟨_, rfl, li, t, [_, _], [d1, d2], rfl, rfl, SqL.of upd_same, (new_same hli).seq ((new_same hg2).seq ((new_same hg1).seq ht)), _, rfl, ?_⟩
              refine ite2 (fun b3 => ?_) (fun b3 => ?_)
              · rw [if_neg (fun z => by unfold gpOk at z; rw [Bool.and_eq_true] at z; rw [z.2] at b3; cases b3)] at q
                exact ⟨(by show 1 ≤ sizeLine; decide), fun e he => q _ e ((((new_same hg1).trans (new_same hg2)).trans (new_same hli)).trans (new_same he)) upd_same⟩
              · have b3' := Bool.not_eq_true _ |>.mp b3
                rw [Bool.not_eq_false'] at b3'
                rw [if_pos (by unfold gpOk; rw [b1, b2', b3']; rfl)] at q
                exact ⟨_, rfl, _, rfl, (by show 2 ≤ sizeLine; decide), fun r hr' => q _ r ((((new_same hg1).trans (new_same hg2)).trans (new_same hli)).trans (new_same hr')) upd_same⟩
          · rw [if_neg (fun z => by unfold gpOk at z; rw [Bool.and_eq_true, Bool.and_eq_true] at z; exact b1 z.1.1)] at q
            exact ⟨(by show 1 ≤ sizeLine; decide), fun e he => q _ e (new_same he) upd_same⟩
        · have ey : gpy hg y1 d1 d2 = hg - 1 - (d1 - (d1 + d2 - (hg - 1)) / 2) := if_neg (fun z => c2 (by rw [z]; rfl))
          rw [ey] at q
          refine chain_rd rfl rfl ?_
          refine ite2 (fun b1 => ?_) (fun b1 => ?_)
          · refine chain_rd rfl rfl ?_
            refine ite2 (fun b2 => ?_) (fun b2 => ?_)
            · rw [if_neg (fun z => by unfold gpOk at z; rw [Bool.and_eq_true, Bool.and_eq_true] at z; rw [z.1.2] at b2; cases b2)] at q
              exact ⟨(by show 1 ≤ sizeLine; decide), fun e he => q _ e (new_same he) upd_same⟩
            · have b2' := Bool.not_eq_true _ |>.mp b2
              rw [Bool.not_eq_false'] at b2'
              refine ⟨_, rfl, _, rfl, _, rfl, (by show 2 ≤ sizeLine; decide), fun g1 hg1 => ?_⟩
              refine ⟨a, g1, x1, y1, _, _, rfl, (new_same hg1).tup ha, .inl (.inl upd_same), ?_⟩
              refine ⟨_, rfl, _, rfl, _, rfl, (by show 2 ≤ sizeLine; decide), fun g2 hg2 => ?_⟩
              refine ⟨b, g2, x2, y2, _, _, rfl, (new_same hg2).tup ((new_same hg1).tup hb), .inl (.inl upd_same), ?_⟩
              refine ⟨(by show 2 ≤ sizeLine; decide), fun li hli => ?_⟩
              refine ⟨_, rfl, li, t, [_, _], [d1, d2], rfl, rfl, SqL.of upd_same, (new_same hli).seq ((new_same hg2).seq ((new_same hg1).seq ht)), _, rfl, ?_⟩
              refine ite2 (fun b3 => ?_) (fun b3 => ?_)
              · rw [if_neg (fun z => by unfold gpOk at z; rw [Bool.and_eq_true] at z; rw [z.2] at b3; cases b3)] at q
                exact ⟨(by show 1 ≤ sizeLine; decide), fun e he => q _ e ((((new_same hg1).trans (new_same hg2)).trans (new_same hli)).trans (new_same he)) upd_same⟩
              · have b3' := Bool.not_eq_true _ |>.mp b3
                rw [Bool.not_eq_false'] at b3'
                rw [if_pos (by unfold gpOk; rw [b1, b2', b3']; rfl)] at q
                exact ⟨_, rfl, _, rfl, (by show 2 ≤ sizeLine; decide), fun r hr' => q _ r ((((new_same hg1).trans (new_same hg2)).trans (new_same hli)).trans (new_same hr')) upd_same⟩
          · rw [if_neg (fun z => by unfold gpOk at z; rw [Bool.and_eq_true, Bool.and_eq_true] at z; exact b1 z.1.1)] at q
            exact ⟨(by show 1 ≤ sizeLine; decide), fun e he => q _ e (new_same he) upd_same⟩
      · have ex : gpx wd hg x1 d1 d2 = wd - 1 - (d1 + d2 - (hg - 1)) / 2 := if_neg (fun z => c1 (by rw [z]; rfl))
        rw [ex] at q
        refine ⟨_, rfl, a, _, _, .int y1, rfl, rfl, ha, rfl, rfl, _, rfl, ?_⟩
        refine ite2 (fun c2 => ⟨_, rfl, ?_⟩) (fun c2 => ⟨_, rfl, _, _, rfl, rfl, _, rfl, _, _, rfl, rfl, ?_⟩)
        · have ey : gpy hg y1 d1 d2 = d1 - (d1 + d2 - (hg - 1)) / 2 := if_pos (by simpa using c2)
          rw [ey] at q
          refine chain_rd rfl rfl ?_
          refine ite2 (fun b1 => ?_) (fun b1 => ?_)
          · refine chain_rd rfl rfl ?_
            refine ite2 (fun b2 => ?_) (fun b2 => ?_)
            · rw [if_neg (fun z => by unfold gpOk at z; rw [Bool.and_eq_true, Bool.and_eq_true] at z; rw [z.1.2] at b2; cases b2)] at q
              exact ⟨(by show 1 ≤ sizeLine; decide), fun e he => q _ e (new_same he) upd_same⟩
            · have b2' := Bool.not_eq_true _ |>.mp b2
              rw [Bool.not_eq_false'] at b2'
              refine ⟨_, rfl, _, rfl, _, rfl, (by show 2 ≤ sizeLine; decide), fun g1 hg1 => ?_⟩
              refine ⟨a, g1, x1, y1, _, _, rfl, (new_same hg1).tup ha, .inl (.inl upd_same), ?_⟩
              refine ⟨_, rfl, _, rfl, _, rfl, (by show 2 ≤ sizeLine; decide), fun g2 hg2 => ?_⟩
              refine ⟨b, g2, x2, y2, _, _, rfl, (new_same hg2).tup ((new_same hg1).tup hb), .inl (.inl upd_same), ?_⟩
              refine ⟨(by show 2 ≤ sizeLine; decide), fun li hli => ?_⟩
              refine ⟨_, rfl, li, t, [_, _], [d1, d2], rfl, rfl, SqL.of upd_same, (new_same hli).seq ((new_same hg2).seq ((new_same hg1).seq ht)), _, rfl, ?_⟩
              refine ite2 (fun b3 => ?_) (fun b3 => ?_)
              · rw [if_neg (fun z => by unfold gpOk at z; rw [Bool.and_eq_true] at z; rw [z.2] at b3; cases b3)] at q
                exact ⟨(by show 1 ≤ sizeLine; decide), fun e he => q _ e ((((new_same hg1).trans (new_same hg2)).trans (new_same hli)).trans (new_same he)) upd_same⟩
              · have b3' := Bool.not_eq_true _ |>.mp b3
                rw [Bool.not_eq_false'] at b3'
                rw [if_pos (by unfold gpOk; rw [b1, b2', b3']; rfl)] at q
                exact ⟨_, rfl, _, rfl, (by show 2 ≤ sizeLine; decide), fun r hr' => q _ r ((((new_same hg1).trans (new_same hg2)).trans (new_same hli)).trans (new_same hr')) upd_same⟩
          · rw [if_neg (fun z => by unfold gpOk at z; rw [Bool.and_eq_true, Bool.and_eq_true] at z; exact b1 z.1.1)] at q
            exact ⟨(by show 1 ≤ sizeLine; decide), fun e he => q _ e (new_same he) upd_same⟩
        · have ey : gpy hg y1 d1 d2 = hg - 1 - (d1 - (d1 + d2 - (hg - 1)) / 2) := if_neg (fun z => c2 (by rw [z]; rfl))
          rw [ey] at q
          refine chain_rd rfl rfl ?_
          refine ite2 (fun b1 => ?_) (fun b1 => ?_)
          · refine chain_rd rfl rfl ?_
            refine ite2 (fun b2 => ?_) (fun b2 => ?_)
            · rw [if_neg (fun z => by unfold gpOk at z; rw [Bool.and_eq_true, Bool.and_eq_true] at z; rw [z.1.2] at b2; cases b2)] at q
              exact ⟨(by show 1 ≤ sizeLine; decide), fun e he => q _ e (new_same he) upd_same⟩
            · have b2' := Bool.not_eq_true _ |>.mp b2
              rw [Bool.not_eq_false'] at b2'
              refine ⟨_, rfl, _, rfl, _, rfl, (by show 2 ≤ sizeLine; decide), fun g1 hg1 => ?_⟩
              refine ⟨a, g1, x1, y1, _, _, rfl, (new_same hg1).tup ha, .inl (.inl upd_same), ?_⟩
              refine ⟨_, rfl, _, rfl, _, rfl, (by show 2 ≤ sizeLine; decide), fun g2 hg2 => ?_⟩
              refine ⟨b, g2, x2, y2, _, _, rfl, (new_same hg2).tup ((new_same hg1).tup hb), .inl (.inl upd_same), ?_⟩
              refine ⟨(by show 2 ≤ sizeLine; decide), fun li hli => ?_⟩
              refine ⟨_, rfl, li, t, [_, _], [d1, d2], rfl, rfl, SqL.of upd_same, (new_same hli).seq ((new_same hg2).seq ((new_same hg1).seq ht)), _, rfl, ?_⟩
              refine ite2 (fun b3 => ?_) (fun b3 => ?_)
              · rw [if_neg (fun z => by unfold gpOk at z; rw [Bool.and_eq_true] at z; rw [z.2] at b3; cases b3)] at q
                exact ⟨(by show 1 ≤ sizeLine; decide), fun e he => q _ e ((((new_same hg1).trans (new_same hg2)).trans (new_same hli)).trans (new_same he)) upd_same⟩
              · have b3' := Bool.not_eq_true _ |>.mp b3
                rw [Bool.not_eq_false'] at b3'
                rw [if_pos (by unfold gpOk; rw [b1, b2', b3']; rfl)] at q
                exact ⟨_, rfl, _, rfl, (by show 2 ≤ sizeLine; decide), fun r hr' => q _ r ((((new_same hg1).trans (new_same hg2)).trans (new_same hli)).trans (new_same hr')) upd_same⟩
          · rw [if_neg (fun z => by unfold gpOk at z; rw [Bool.and_eq_true, Bool.and_eq_true] at z; exact b1 z.1.1)] at q
            exact ⟨(by show 1 ≤ sizeLine; decide), fun e he => q _ e (new_same he) upd_same⟩
end
end K33

namespace K33
open PySem L2 PySem.W
/-- the classes that _law_told asks for: B HailError, C NoCode, L NoLooks -/
structure Cls (K : Frag) (mg : Str → Option Value) (B C L : Addr) : Prop where
  mB : mg "HailError" = some (.ref B)
  mC : mg "NoCode" = some (.ref C)
  mL : mg "NoLooks" = some (.ref L)
  ve : mg "ValueError" = none
  xc : xclsIn K C veM "ValueError.__new__" none = true
  is : XIs K C
  exm : exmOne K (.ref C) (.ref B) = some true
  kC : kitOne K (.ref C) (.ref C) = some true
  kV : kitOne K (.ref C) (.type "ValueError") = some true
  kL : kitOne K (.ref C) (.ref L) = some false
/-- asked in the way wy: what is told, or "none" for NoCode -/
def spTold (K : Frag) (C : Addr) (S0 S1 S2 : Sp) : Sp := fun vs H Q _ => ∃ (wy : Nat) (p : Addr) (xs : List V), vs = [.int wy, .ref p] ∧ SqT K H p xs ∧ wy ≤ 2 ∧ xs.length = (if wy = 2 then 5 else 3) ∧
  ∀ (H1 : Hp) (Q' : VK) (E' : XK), Same H H1 → (∀ v H', Q v H' → Q' v H') → (∀ H' a, H' a = some (.ext (XAt a C none)) → Q (.str "none") H' → E' (.ref C) (some a) H') → (if wy = 2 then S2 else if wy = 1 then S1 else S0) xs H1 Q' E'
section
variable {P : Program} {w : World} {K : Frag} {mg : Str → Option Value} {base : Heap} {B C L : Addr} {S0 S1 S2 : Sp} {k : Nat}
abbrev toN : List Str := ["way", "args", "caught", "found", "e"]
theorem scTo : FnScope toN ["way", "args"] (defScope sTold) := ⟨rfl, rfl, rfl, by decide +kernel, rfl, by decide +kernel, by decide +kernel⟩
theorem ok_told {f f0 f1 : Addr} {fd : FuncData} (F : Fun K "_law_told" "_law_told" sTold f fd) (T : Txt K mg) (Z : Cls K mg B C L)
    (m0 : mg "ring_place" = some (.ref f0)) (m1 : mg "ring_tie" = some (.ref f1)) (k0 : Kno P w K mg base k f0 S0) (k1 : Kno P w K mg base k f1 S1)
    (hG : Has1 P w K mg base k "grid_place" ["wide", "high", "one", "other", "told"] S2) : FnOk P w K mg base CX0 (k + 1) f fd ["way", "args"] (spTold K C S0 S1 S2) := by
  refine F.ok scTo (fun vs H Q E h => ?_) (fun cdv A outer s H vs Q E hr h => ?_)
  · obtain ⟨wy, p, xs, rfl, _⟩ := h
    rfl
  · obtain ⟨wy, p, xs, rfl, hp, hw, hl, q⟩ := h
    refine ⟨_, pss_cons (ps_set (i := 2) scTo.nd rfl (Or.inl rfl) pe_non)
      (pss_cons (ps_set (i := 3) scTo.nd rfl (Or.inl rfl) pe_non)
      (pss_cons (ps_try (i := 4) rfl rfl rfl rfl Z.mB scTo.nd rfl rfl
          (fun pins Hd => pss_one (ps_if (pt_cmpR op_eq (pv 0) pe_int (nomark _))
            (pss_one (ps_set (i := 3) scTo.nd rfl (Or.inl rfl) (pe_hasT rfl hG hr rfl (pa_cons (pe_ix ix_tup (pv 1) pe_int (fun _ _ => rfl)) (pa_cons (pe_ix ix_tup (pv 1) pe_int (fun _ _ => rfl)) (pa_cons (pe_ix ix_tup (pv 1) pe_int (fun _ _ => rfl)) (pa_cons (pe_ix ix_tup (pv 1) pe_int (fun _ _ => rfl)) (pa_cons (pe_ix ix_tup (pv 1) pe_int (fun _ _ => rfl)) pa_nil))))))))
            (pss_one (ps_set (i := 3) scTo.nd rfl (Or.inl rfl) (pe_callV rfl hr (pe_ix ix_list (pe_lst (pa_cons (pe_glob (v := .ref f0) rfl m0 rfl) (pa_cons (pe_glob (v := .ref f1) rfl m1 rfl) pa_nil))) (pv 0) (fun _ _ => rfl)) (pa_cons (pe_ix ix_tup (pv 1) pe_int (fun _ _ => rfl)) (pa_cons (pe_ix ix_tup (pv 1) pe_int (fun _ _ => rfl)) (pa_cons (pe_ix ix_tup (pv 1) pe_int (fun _ _ => rfl)) pa_nil))))))))
          (fun a => pss_one (ps_set (i := 2) scTo.nd rfl (Or.inl rfl) (pv 4))))
      (pss_cons (ps_if (pt_cmp (pc_isN (pv 2))) (pss_one (ps_ret (pv 3))) pss_nil)
      (pss_cons (ps_if (PW.pt (pw_or (pt_not (pt_val (pe_callB call_isX (by rfl) T.isi PyProof.Rows.boot_isinstance (pa_cons (pv 2) (pa_cons (pe_glob (v := .ref C) rfl Z.mC rfl) pa_nil)))))
          (pw_or (pt_not (pt_val (pe_callB call_isX (by rfl) T.isi PyProof.Rows.boot_isinstance (pa_cons (pv 2) (pa_cons (pe_bltn (v := .ty "ValueError") rfl Z.ve (by decide +kernel) rfl) pa_nil)))))
          (pw_or1 (pt_val (pe_callB call_isX (by rfl) T.isi PyProof.Rows.boot_isinstance (pa_cons (pv 2) (pa_cons (pe_glob (v := .ref L) rfl Z.mL rfl) pa_nil)))))))) (pss_one (ps_ret pe_str)) pss_nil)
      (pss_one (ps_ret pe_str)))))), ?_⟩
    have three : ∀ {zs : List V}, zs.length = 3 → ∃ x0 x1 x2, zs = [x0, x1, x2] := fun {zs} h => match zs, h with | [x0, x1, x2], _ => ⟨x0, x1, x2, rfl⟩
    have five : ∀ {zs : List V}, zs.length = 5 → ∃ x0 x1 x2 x3 x4, zs = [x0, x1, x2, x3, x4] := fun {zs} h => match zs, h with | [x0, x1, x2, x3, x4], _ => ⟨x0, x1, x2, x3, x4, rfl⟩
    refine fun pins => ⟨_, rfl, rfl, _, rfl, ?_⟩
    refine ite2 (fun c => ?_) (fun c => ?_)
    · have e : wy = 2 := by
        have : (wy : Int) = 2 := by simpa using c
        omega
      subst e
      rw [if_pos rfl] at hl
      obtain ⟨x0, x1, x2, x3, x4, rfl⟩ := five hl
      refine ⟨_, rfl, p, _, _, x0, rfl, rfl, hp, rfl, _, rfl, p, _, _, x1, rfl, rfl, hp, rfl, _, rfl, p, _, _, x2, rfl, rfl, hp, rfl, _, rfl, p, _, _, x3, rfl, rfl, hp, rfl, _, rfl, p, _, _, x4, rfl, rfl, hp, rfl, ?_⟩
      refine (show S2 [x0, x1, x2, x3, x4] H _ _ from q _ _ _ (Same.refl _) (fun v H' hq => ?_) (fun H' a ha hq => ?_))
      · exact ⟨_, rfl, _, rfl, iteT ⟨_, rfl, hq⟩⟩
      · refine ⟨C, a, rfl, rfl, Z.exm, _, rfl, _, rfl, _, rfl, iteF ?_⟩
        refine ⟨_, rfl, a, C, .ref C, true, rfl, .inl ha, Z.is, (fun u r => by cases r; exact Z.kC), _, rfl, iteF ?_⟩
        refine ⟨_, rfl, a, C, .ty "ValueError", true, rfl, .inl ha, Z.is, (fun u r => by cases r; exact Z.kV), _, rfl, iteF ?_⟩
        refine ⟨_, rfl, a, C, .ref L, false, rfl, .inl ha, Z.is, (fun u r => by cases r; exact Z.kL), _, rfl, iteF ?_⟩
        exact hq
    · have ne : wy ≠ 2 := fun e => c (by subst e; rfl)
      rw [if_neg ne] at hl
      obtain ⟨x0, x1, x2, rfl⟩ := three hl
      refine ⟨(by show 2 ≤ sizeLine; decide), fun li hli => ?_⟩
      have s1 := new_same (o := .lst [.ref f0, .ref f1]) hli
      have l1 : upd H li (.lst [.ref f0, .ref f1]) li = some (.lst [.ref f0, .ref f1]) := upd_same
      generalize upd H li (.lst [.ref f0, .ref f1]) = H1 at s1 l1 ⊢
      have hp1 := s1.tup hp
      rcases (show wy = 0 ∨ wy = 1 by omega) with rfl | rfl
      · refine ⟨_, rfl, li, _, _, .ref f0, rfl, rfl, SqL.of l1, rfl, f0, S0, rfl, k0, ?_⟩
        refine ⟨_, rfl, p, _, _, x0, rfl, rfl, hp1, rfl, _, rfl, p, _, _, x1, rfl, rfl, hp1, rfl, _, rfl, p, _, _, x2, rfl, rfl, hp1, rfl, ?_⟩
        refine (show S0 [x0, x1, x2] H1 _ _ from q _ _ _ s1 (fun v H' hq => ?_) (fun H' a ha hq => ?_))
        · exact ⟨_, rfl, _, rfl, iteT ⟨_, rfl, hq⟩⟩
        · refine ⟨C, a, rfl, rfl, Z.exm, _, rfl, _, rfl, _, rfl, iteF ?_⟩
          refine ⟨_, rfl, a, C, .ref C, true, rfl, .inl ha, Z.is, (fun u r => by cases r; exact Z.kC), _, rfl, iteF ?_⟩
          refine ⟨_, rfl, a, C, .ty "ValueError", true, rfl, .inl ha, Z.is, (fun u r => by cases r; exact Z.kV), _, rfl, iteF ?_⟩
          refine ⟨_, rfl, a, C, .ref L, false, rfl, .inl ha, Z.is, (fun u r => by cases r; exact Z.kL), _, rfl, iteF ?_⟩
          exact hq
      · refine ⟨_, rfl, li, _, _, .ref f1, rfl, rfl, SqL.of l1, rfl, f1, S1, rfl, k1, ?_⟩
        refine ⟨_, rfl, p, _, _, x0, rfl, rfl, hp1, rfl, _, rfl, p, _, _, x1, rfl, rfl, hp1, rfl, _, rfl, p, _, _, x2, rfl, rfl, hp1, rfl, ?_⟩
        refine (show S1 [x0, x1, x2] H1 _ _ from q _ _ _ s1 (fun v H' hq => ?_) (fun H' a ha hq => ?_))
        · exact ⟨_, rfl, _, rfl, iteT ⟨_, rfl, hq⟩⟩
        · refine ⟨C, a, rfl, rfl, Z.exm, _, rfl, _, rfl, _, rfl, iteF ?_⟩
          refine ⟨_, rfl, a, C, .ref C, true, rfl, .inl ha, Z.is, (fun u r => by cases r; exact Z.kC), _, rfl, iteF ?_⟩
          refine ⟨_, rfl, a, C, .ty "ValueError", true, rfl, .inl ha, Z.is, (fun u r => by cases r; exact Z.kV), _, rfl, iteF ?_⟩
          refine ⟨_, rfl, a, C, .ref L, false, rfl, .inl ha, Z.is, (fun u r => by cases r; exact Z.kL), _, rfl, iteF ?_⟩
          exact hq
end
end K33

namespace K33
open PySem L2 PySem.W
def spSpans (K : Frag) : Sp := fun vs H Q _ => ∃ (a b : Addr) (x1 y1 x2 y2 : Int), vs = [.ref a, .ref b] ∧ SqT K H a [.int x1, .int y1] ∧ (SqT K H b [.int x2, .int y2] ∨ SqL K H b [.int x2, .int y2]) ∧ Q (.int (gf x1 y1 x2 y2)) H
/-- a thing's code -/
def cde (d : Bool) (m : Int) (ls : List Int) (t : Int) : List Int := ls.map fun l => if d then tf m l t else rf m l t
def spCode (K : Frag) : Sp := fun vs H Q _ => ∃ (m : Int) (p : Addr) (ls : List Int) (t : Int) (d : Bool), vs = [.int m, .ref p, .int t, .str (if d then "ties" else "places")] ∧ 0 < m ∧ SqL K H p (ls.map V.int) ∧ ls.length ≤ 20 ∧ ∀ u H', H u = none → Same H H' → H' u = some (.lst ((cde d m ls t).map V.int)) → Q (.ref u) H'
def asgSc : Stmt → Scope
  | .Assign _ (.ListComp _ _ sc _) _ => sc
  | _ => { kind := .function, names := [], isGenerator := false, isCoroutine := false }
def ifNth : Stmt → Stmt
  | .If _ (b :: _) _ _ => b
  | _ => .Pass ⟨0, 0, 0, 0⟩
abbrev coN : List Str := ["many", "looks", "thing", "kind", "found"]
abbrev scC1 : Scope := asgSc ((defBody sCode).getD 0 (.Pass ⟨0, 0, 0, 0⟩))
abbrev scC2 : Scope := asgSc (ifNth ((defBody sCode).getD 1 (.Pass ⟨0, 0, 0, 0⟩)))
theorem blockC1 : blockB coN (defScope sCode) scC1 "look" ["look", "many", "thing"] [0, 2] = true := by decide +kernel
theorem blockC2 : block2B coN (defScope sCode) scC2 "one" "look" ["one", "look", "many", "thing"] [0, 2] = true := by decide +kernel
section
variable {P : Program} {w : World} {K : Frag} {mg : Str → Option Value} {base : Heap}
theorem scSp : FnScope ["one", "spot"] ["one", "spot"] (defScope sSpans) := ⟨rfl, rfl, rfl, by decide +kernel, rfl, by decide +kernel, by decide +kernel⟩
theorem scCo : FnScope coN ["many", "looks", "thing", "kind"] (defScope sCode) := ⟨rfl, rfl, rfl, by decide +kernel, rfl, by decide +kernel, by decide +kernel⟩
theorem ok_spans {f : Addr} {fd : FuncData} (F : Fun K "_law_spans" "_law_spans" sSpans f fd) (T : Txt K mg) : FnOk P w K mg base CX0 1 f fd ["one", "spot"] (spSpans K) := by
  refine F.ok scSp (fun vs H Q E h => ?_) (fun cdv A outer s H vs Q E hr h => ?_)
  · obtain ⟨a, b, x1, y1, x2, y2, rfl, _⟩ := h
    rfl
  · obtain ⟨a, b, x1, y1, x2, y2, rfl, ha, hb, q⟩ := h
    rcases hb with hb | hb
    · refine ⟨_, pss_one (ps_ret (pe_op op_add (pe_callB call_abs (by rfl) T.abs PyProof.Rows.boot_abs (pa_cons (pe_op op_sub (pe_ix ix_tup (pv 0) pe_int (fun _ _ => rfl)) (pe_ix ix_tup (pv 1) pe_int (fun _ _ => rfl))) pa_nil)) (pe_callB call_abs (by rfl) T.abs PyProof.Rows.boot_abs (pa_cons (pe_op op_sub (pe_ix ix_tup (pv 0) pe_int (fun _ _ => rfl)) (pe_ix ix_tup (pv 1) pe_int (fun _ _ => rfl))) pa_nil)))), ?_⟩
      exact ⟨_, rfl, a, _, _, .int x1, rfl, rfl, ha, rfl, _, rfl, b, _, _, .int x2, rfl, rfl, hb, rfl, _, _, rfl, rfl, _, rfl, _, rfl, a, _, _, .int y1, rfl, rfl, ha, rfl, _, rfl, b, _, _, .int y2, rfl, rfl, hb, rfl, _, _, rfl, rfl, _, rfl, _, _, rfl, rfl, q⟩
    · refine ⟨_, pss_one (ps_ret (pe_op op_add (pe_callB call_abs (by rfl) T.abs PyProof.Rows.boot_abs (pa_cons (pe_op op_sub (pe_ix ix_tup (pv 0) pe_int (fun _ _ => rfl)) (pe_ix ix_list (pv 1) pe_int (fun _ _ => rfl))) pa_nil)) (pe_callB call_abs (by rfl) T.abs PyProof.Rows.boot_abs (pa_cons (pe_op op_sub (pe_ix ix_tup (pv 0) pe_int (fun _ _ => rfl)) (pe_ix ix_list (pv 1) pe_int (fun _ _ => rfl))) pa_nil)))), ?_⟩
      exact ⟨_, rfl, a, _, _, .int x1, rfl, rfl, ha, rfl, _, rfl, b, _, _, .int x2, rfl, rfl, hb, rfl, _, _, rfl, rfl, _, rfl, _, rfl, a, _, _, .int y1, rfl, rfl, ha, rfl, _, rfl, b, _, _, .int y2, rfl, rfl, hb, rfl, _, _, rfl, rfl, _, rfl, _, _, rfl, rfl, q⟩
theorem none_of {H H' : Hp} {u : Addr} (s : Same H H') (h : H' u = none) : H u = none := by
  cases e : H u with
  | none => rfl
  | some o =>
    rw [s _ _ e] at h
    cases h
theorem zw_take {f : Int → Int → Int} : ∀ {ls zs : List Int} {i : Nat} {x z : Int}, ls[i]? = some x → zs[i]? = some z → List.zipWith f (ls.take (i + 1)) (zs.take (i + 1)) = List.zipWith f (ls.take i) (zs.take i) ++ [f x z]
  | [], _, i, x, z, h1, h2 => by cases h1
  | _ :: _, [], i, x, z, h1, h2 => by cases h2
  | a :: r, b :: s, 0, x, z, h1, h2 => by
    cases h1
    cases h2
    simp
  | a :: r, b :: s, i + 1, x, z, h1, h2 => by
    have ih := zw_take (f := f) (ls := r) (zs := s) (i := i) h1 h2
    show f a b :: List.zipWith f (r.take (i + 1)) (s.take (i + 1)) = f a b :: (List.zipWith f (r.take i) (s.take i) ++ [f x z])
    rw [ih]
theorem ok_code {f : Addr} {fd : FuncData} (F : Fun K "_law_code" "_law_code" sCode f fd) (T : Txt K mg) (hF : Has P w K mg base 1 "_law_far" ["many", "one", "other"] spFar) : FnOk P w K mg base CX0 2 f fd ["many", "looks", "thing", "kind"] (spCode K) := by
  refine F.ok scCo (fun vs H Q E h => ?_) (fun cdv A outer s H vs Q E hr h => ?_)
  · obtain ⟨m, p, ls, t, d, rfl, _⟩ := h
    rfl
  · obtain ⟨m, p, ls, t, d, rfl, m0, hp, hl, q⟩ := h
    refine ⟨_, pss_cons (ps_comp (j := 4) scCo.nd rfl rfl (NB := ["look", "many", "thing"]) (ix := [0, 2]) (BlockOk.of blockC1) rfl (pi_list (pv 1)) (fun _ _ _ _ => pe_has hF hr rfl (pa_cons (pv 1) (pa_cons (pv 0) (pa_cons (pv 2) pa_nil)))) (fun _ _ _ _ => pts_nil) rfl)
      (pss_cons (ps_if (pt_cmpR op_eq (pv 3) pe_str (nomark _))
        (pss_one (ps_comp2 (j := 4) scCo.nd rfl rfl (NB := ["one", "look", "many", "thing"]) (ix := [0, 2]) (Block2.of blockC2) rfl (pi_zip rfl T.zip (pa_cons (pv 4) (pa_cons (pv 1) pa_nil)))
          (fun _ _ _ _ => pe_callB (call_min2 rfl) (by rfl) T.min PyProof.Rows.boot_min (pa_cons (pv 0) (pa_cons (pe_has hF hr rfl (pa_cons (pv 2) (pa_cons (pv 1) (pa_cons (pe_op op_add (pv 3) pe_int) pa_nil)))) pa_nil))) (fun _ _ _ _ => pts_nil) rfl)) pss_nil)
      (pss_one (ps_ret (pv 4)))), ?_⟩
    refine ⟨_, rfl, p, rfl, ⟨_, hp⟩, comp_list (xs := ls.map V.int) (fun j us Hd => Hd = H ∧ us = ((ls.take j).map fun l => rf m l t).map V.int) ⟨rfl, rfl⟩ ?_ ?_ ?_ ?_⟩
    · rintro j us Hd hj ⟨rfl, rfl⟩
      rw [List.length_map, List.length_map, List.length_take]
      exact Nat.lt_of_le_of_lt (Nat.le_trans (Nat.min_le_right _ _) hl) (by decide)
    · rintro j us Hd hj ⟨rfl, rfl⟩
      exact hp
    · rintro j x us Hd hx ⟨rfl, rfl⟩
      rw [List.getElem?_map] at hx
      cases e2 : ls[j]? with
      | none => rw [e2] at hx; cases hx
      | some z =>
        rw [e2] at hx
        cases hx
        unfold tYes
        refine @iteT (tCall spFar [] E0 (tCons (tVar 1) (tCons (tVar 0) (tCons (tVar 2) tNil))) _ _ _) _ ?_
        refine ⟨_, rfl, _, rfl, _, rfl, m, z, t, rfl, m0, ?_⟩
        refine ⟨rfl, ?_⟩
        rw [map_take e2, List.map_append]
        rfl
    · rintro us Hd ⟨rfl, rfl⟩ u hu2
      rw [List.length_map, List.take_length]
      have s1 := new_same (o := .lst ((ls.map fun l => rf m l t).map V.int)) hu2
      have u1 : upd Hd u (.lst ((ls.map fun l => rf m l t).map V.int)) u = some (.lst ((ls.map fun l => rf m l t).map V.int)) := upd_same
      generalize upd Hd u (.lst ((ls.map fun l => rf m l t).map V.int)) = H1 at s1 u1 ⊢
      refine ⟨_, rfl, rfl, _, rfl, ?_⟩
      cases d with
      | false =>
        refine ite2 (fun c => absurd c (by decide +kernel)) (fun _ => ?_)
        exact ⟨_, rfl, q u _ hu2 s1 u1⟩
      | true =>
        refine ite2 (fun _ => ?_) (fun c => absurd (by decide +kernel) c)
        refine ⟨_, rfl, _, rfl, u, p, rfl, ⟨_, SqL.of u1⟩, ⟨_, s1.seq hp⟩, ?_⟩
        refine comp2_zip (xs := (ls.map fun l => rf m l t).map V.int) (zs := ls.map V.int) (by simp) (fun i ys Hc => Same H1 Hc ∧ ys = (List.zipWith (fun o l => mn o (rf m l (t + 1))) ((ls.map fun l => rf m l t).take i) (ls.take i)).map V.int) ⟨Same.refl _, by simp⟩ ?_ ?_ ?_ ?_
        · rintro i ys Hc hi ⟨_, rfl⟩
          rw [List.length_map, List.length_zipWith, List.length_take, List.length_take]
          exact Nat.lt_of_le_of_lt (Nat.le_trans (Nat.min_le_right _ _) (Nat.le_trans (Nat.min_le_right _ _) hl)) (by decide)
        · rintro i ys Hc hi ⟨sc, rfl⟩
          exact ⟨SqL.of (sc _ _ u1), (s1.trans sc).seq hp⟩
        · rintro i x z ys Hc T5 hx hz ⟨sc, rfl⟩ hT
          rw [List.getElem?_map] at hx hz
          cases e4 : (ls.map fun l => rf m l t)[i]? with
          | none => rw [e4] at hx; cases hx
          | some o =>
            cases e5 : ls[i]? with
            | none => rw [e5] at hz; cases hz
            | some l =>
              rw [e4] at hx
              rw [e5] at hz
              cases hx
              cases hz
              unfold tYes
              rw [if_pos rfl]
              refine ⟨_, rfl, _, rfl, _, rfl, _, rfl, _, _, rfl, rfl, m, l, t + 1, rfl, m0, _, _, rfl, ?_⟩
              refine ⟨sc.trans (new_same hT), ?_⟩
              rw [zw_take e4 e5, List.map_append]
              rfl
        · rintro ys Hc ⟨sc, rfl⟩ v hv
          refine ⟨_, rfl, q v _ (none_of (s1.trans sc) hv) ((s1.trans sc).trans (new_same hv)) ?_⟩
          rw [upd_same, List.length_map, List.length_map, List.take_length, List.take_of_length_le (by simp)]
          have zm : ∀ (zs : List Int), List.zipWith (fun o l => mn o (rf m l (t + 1))) (zs.map fun l => rf m l t) zs = zs.map fun l => tf m l t := fun zs => by
            induction zs with
            | nil => rfl
            | cons a r ih =>
              show mn (rf m a t) (rf m a (t + 1)) :: _ = _ :: _
              rw [ih]
              rfl
          rw [zm]
          rfl
end
end K33

namespace K33
open PySem L2 PySem.W
/-- a code as it is, or with one answer changed -/
def spOther (K : Frag) : Sp := fun vs H Q _ => ∃ (a p : Addr) (ds : List Int), vs = [.ref a, .ref p] ∧ a ≠ p ∧ StA H a ∧ SqL K H p (ds.map V.int) ∧ 0 < ds.length ∧ ds.length ≤ 20 ∧
  ∀ (es : List Int) (u : Addr) H', es.length = ds.length → StA H' a → Mv a H H' → u ≠ a → H' u = some (.lst (es.map V.int)) → Q (.ref u) H'
theorem cut_lo (xs : List V) (n : Nat) (h : n ≤ xs.length) : cutV xs none (some (n : Int)) = xs.take n := by
  unfold cutV
  have e : HT.sIx xs.length xs.length (some (n : Int)) = min n xs.length := HT.sIx_nat xs.length xs.length n
  have e2 : HT.sIx xs.length 0 none = 0 := rfl
  rw [e, e2, Nat.sub_zero, List.drop_zero, Nat.min_eq_left h]
theorem cut_hi (xs : List V) (n : Nat) (h : n ≤ xs.length) : cutV xs (some (n : Int)) none = xs.drop n := by
  unfold cutV
  have e : HT.sIx xs.length 0 (some (n : Int)) = min n xs.length := HT.sIx_nat xs.length 0 n
  have e2 : HT.sIx xs.length xs.length none = xs.length := rfl
  rw [e, e2, Nat.min_eq_left h]
  exact List.take_of_length_le (by rw [List.length_drop]; omega)
section
variable {P : Program} {w : World} {K : Frag} {mg : Str → Option Value} {base : Heap}
theorem scOt : FnScope ["state", "told", "at", "way", "some"] ["state", "told"] (defScope sOther) := ⟨rfl, rfl, rfl, by decide +kernel, rfl, by decide +kernel, by decide +kernel⟩
theorem ok_other {f : Addr} {fd : FuncData} (F : Fun K "_law_other" "_law_other" sOther f fd) (T : Txt K mg) (hN : Has P w K mg base 1 "_law_next" ["state", "many"] spNext) (hG : Has P w K mg base 2 "_law_great" ["state", "top"] spGreat) : FnOk P w K mg base CX0 3 f fd ["state", "told"] (spOther K) := by
  refine F.ok scOt (fun vs H Q E h => ?_) (fun cdv A outer s H vs Q E hr h => ?_)
  · obtain ⟨a, p, ds, rfl, _⟩ := h
    rfl
  · obtain ⟨a, p, ds, rfl, nap, st, hp, l0, l20, q⟩ := h
    have hr1 : Room 1 _ := hr.mono (by decide)
    refine ⟨_, pss_cons (ps_set (i := 2) scOt.nd rfl (Or.inl rfl) (pe_has hN hr1 rfl (pa_cons (pv 0) (pa_cons (pe_callB call_len_seq (by rfl) T.len PySem.boot_len (pa_cons (pv 1) pa_nil)) pa_nil))))
      (pss_cons (ps_set (i := 3) scOt.nd rfl (Or.inl rfl) (pe_has hN hr1 rfl (pa_cons (pv 0) (pa_cons pe_int pa_nil))))
      (pss_cons (ps_set (i := 4) scOt.nd rfl (Or.inl rfl) (pe_lst (pa_cons pe_int (pa_cons pe_int (pa_cons (pe_op op_sub pe_int pe_int) (pa_cons pe_int (pa_cons (pe_op op_sub (pe_has hG hr rfl (pa_cons (pv 0) (pa_cons (pe_op op_pow pe_int pe_int) pa_nil))) (pe_ix ix_list (pv 1) (pv 2) (fun _ _ => rfl))) pa_nil)))))))
      (pss_one (ps_ret (pe_op op_cat (pe_op op_cat (pe_slice sl_list (pv 1) po_none (po_some (pv 2))) (pe_lst (pa_cons (pe_op op_add (pe_ix ix_list (pv 1) (pv 2) (fun _ _ => rfl)) (pe_ix ix_list (pv 4) (pv 3) (fun _ _ => rfl))) pa_nil))) (pe_slice sl_list (pv 1) (po_some (pe_op op_add (pv 2) pe_int)) po_none)))))), ?_⟩
    have hL : ((ds.map V.int).length : Int) = ds.length := by rw [List.length_map]
    refine ⟨_, rfl, _, rfl, p, _, rfl, .inl hp, a, _, rfl, (by rw [hL]; omega), (by rw [hL]; omega), st, fun r H1 r0 r1 st1 mv1 => ?_⟩
    refine ⟨_, rfl, a, _, rfl, (by decide), (by decide), st1, fun r2 H2 r20 r25 st2 mv2 => ?_⟩
    rw [hL] at r1
    obtain ⟨j, rfl⟩ : ∃ j : Nat, r = (j : Int) := ⟨r.toNat, by omega⟩
    have jl : j < ds.length := by omega
    have hp2 : SqL K H2 p (ds.map V.int) := (mv1.trans mv2).lst (Ne.symm nap) hp
    refine ⟨_, _, rfl, rfl, _, rfl, _, _, rfl, rfl, ⟨by decide, by decide, by decide⟩, a, _, rfl, (by show (0 : Int) < 10 ^ Int.toNat 60; decide), st2, fun g H3 g0 g1 st3 mv3 => ?_⟩
    have hp3 : SqL K H3 p (ds.map V.int) := mv3.lst (Ne.symm nap) hp2
    refine ⟨_, rfl, _, rfl, p, _, j, .int (ds.getD j 0), rfl, rfl, hp3, at_d jl, _, _, rfl, rfl, (by show 5 ≤ sizeLine; decide), fun so hso => ?_⟩
    have s4 := new_same (o := .lst [.int 0, .int 1, .int (0 - 1), .int 2, .int (g - ds.getD j 0)]) hso
    have l4 : upd H3 so (.lst [.int 0, .int 1, .int (0 - 1), .int 2, .int (g - ds.getD j 0)]) so = some (.lst ([0, 1, 0 - 1, 2, g - ds.getD j 0].map V.int)) := upd_same
    have na : so ≠ a := fun z => by
      obtain ⟨x, y, e, _⟩ := st3
      rw [z, e] at hso
      cases hso
    have st4 : StA (upd H3 so (.lst [.int 0, .int 1, .int (0 - 1), .int 2, .int (g - ds.getD j 0)])) a := by
      obtain ⟨x, y, e, h⟩ := st3
      exact ⟨x, y, s4 _ _ e, h⟩
    generalize upd H3 so (.lst [.int 0, .int 1, .int (0 - 1), .int 2, .int (g - ds.getD j 0)]) = H4 at s4 l4 st4 ⊢
    have hp4 := s4.seq hp3
    obtain ⟨j2, rfl⟩ : ∃ j2 : Nat, r2 = (j2 : Int) := ⟨r2.toNat, by omega⟩
    have i4 : ∃ c : Int, atI ([0, 1, 0 - 1, 2, g - ds.getD j 0].map V.int) (j2 : Int) = some (.int c) := ⟨_, at_d (by show j2 < 5; omega)⟩
    obtain ⟨c4, e4⟩ := i4
    refine ⟨_, rfl, _, rfl, (j : Int), rfl, p, _, rfl, hp4, fun u1 h1 => ?_⟩
    have s5 := new_same (o := .lst (cutV (ds.map V.int) none (some (j : Int)))) h1
    have e5 : upd H4 u1 (.lst (cutV (ds.map V.int) none (some (j : Int)))) u1 = some (.lst (cutV (ds.map V.int) none (some (j : Int)))) := upd_same
    generalize upd H4 u1 (.lst (cutV (ds.map V.int) none (some (j : Int)))) = H5 at s5 e5 ⊢
    have hp5 := s5.seq hp4
    refine ⟨_, rfl, _, rfl, p, _, (j : Int), .int (ds.getD j 0), rfl, rfl, hp5, at_d jl, _, rfl, _, rfl, so, _, (j2 : Int), .int c4, rfl, rfl, SqL.of (s5 _ _ l4), e4, _, _, rfl, rfl, (by show 1 ≤ sizeLine; decide), fun u2 h2 => ?_⟩
    have s6 := new_same (o := .lst [.int (ds.getD j 0 + c4)]) h2
    have e6 : upd H5 u2 (.lst [.int (ds.getD j 0 + c4)]) u2 = some (.lst [.int (ds.getD j 0 + c4)]) := upd_same
    generalize upd H5 u2 (.lst [.int (ds.getD j 0 + c4)]) = H6 at s6 e6 ⊢
    have c1 : cutV (ds.map V.int) none (some (j : Int)) = (ds.take j).map V.int := by rw [cut_lo _ _ (by rw [List.length_map]; omega), List.map_take]
    rw [c1] at e5
    refine ⟨u1, u2, (ds.take j).map V.int, _, rfl, rfl, s6 _ _ e5, e6, (by rw [List.length_map, List.length_take]; exact Nat.le_trans (show min j ds.length + 1 ≤ 21 by omega) (by decide)), fun u3 h3 => ?_⟩
    have s7 := new_same (o := .lst ((ds.take j).map V.int ++ [.int (ds.getD j 0 + c4)])) h3
    have e7 : upd H6 u3 (.lst ((ds.take j).map V.int ++ [.int (ds.getD j 0 + c4)])) u3 = some (.lst ((ds.take j ++ [ds.getD j 0 + c4]).map V.int)) := by rw [upd_same, List.map_append]; rfl
    generalize upd H6 u3 (.lst ((ds.take j).map V.int ++ [.int (ds.getD j 0 + c4)])) = H7 at s7 e7 ⊢
    have hp7 := s7.seq (s6.seq hp5)
    refine ⟨_, rfl, _, rfl, _, _, rfl, rfl, ((j + 1 : Nat) : Int), rfl, p, _, rfl, hp7, fun u4 h4 => ?_⟩
    have c2 : cutV (ds.map V.int) (some ((j + 1 : Nat) : Int)) none = (ds.drop (j + 1)).map V.int := by rw [cut_hi _ _ (by rw [List.length_map]; omega), List.map_drop]
    rw [c2] at ⊢
    have s8 := new_same (o := .lst ((ds.drop (j + 1)).map V.int)) h4
    have e8 : upd H7 u4 (.lst ((ds.drop (j + 1)).map V.int)) u4 = some (.lst ((ds.drop (j + 1)).map V.int)) := upd_same
    generalize upd H7 u4 (.lst ((ds.drop (j + 1)).map V.int)) = H8 at s8 e8 ⊢
    have eqn : (ds.take j ++ [ds.getD j 0 + c4] ++ ds.drop (j + 1)).length = ds.length := by
      rw [List.length_append, List.length_append, List.length_take, List.length_drop, List.length_singleton]
      omega
    refine ⟨u3, u4, _, _, rfl, rfl, s8 _ _ e7, e8, (by rw [List.length_map, List.length_map, ← List.length_append, eqn]; exact Nat.le_trans l20 (by decide)), fun u5 h5 => ?_⟩
    have all : Same H4 H8 := ((s5.trans s6).trans s7).trans s8
    obtain ⟨x, y, ea, hy⟩ := st4
    have ea8 := all _ _ ea
    have n5 : u5 ≠ a := fun z => by
      rw [z, ea8] at h5
      cases h5
    refine q _ u5 _ eqn ⟨x, y, (new_same h5) _ _ ea8, hy⟩ ?_ n5 (by simp only [upd_same, List.map_append])
    exact ((mv1.trans mv2).trans mv3).trans (Mv.of ((s4.trans all).trans (new_same h5)))
end
end K33

namespace K33
open PySem L2 PySem.W
/-- the things that are asked for a code: l the last look, t the last answer -/
def cnd (m l t : Int) : List Int := if 12 < m then [(l + t) % m, (l - t) % m, (l - t - 1) % m] else (List.range m.toNat).map fun i : Nat => (i : Int) % m
def spHaving (K : Frag) : Sp := fun vs H Q _ => ∃ (m : Int) (p q : Addr) (ls0 ts0 : List Int) (l t : Int) (d : Bool), vs = [.int m, .ref p, .ref q, .str (if d then "ties" else "places")] ∧ 0 < m ∧ SqL K H p ((ls0 ++ [l]).map V.int) ∧ SqL K H q ((ts0 ++ [t]).map V.int) ∧ (ls0 ++ [l]).length ≤ 20 ∧
  ∀ (hs : List Int) u H', (∀ x, x ∈ hs ↔ x ∈ cnd m l t ∧ cde d m (ls0 ++ [l]) x = ts0 ++ [t]) → hs.length ≤ 12 → Same H H' → H' u = some (.lst (hs.map V.int)) → Q (.ref u) H'
abbrev haN : List Str := ["many", "looks", "told", "kind", "some", "last"]
def argSc : Stmt → Scope
  | .Assign _ (.Call _ [.Call _ [.ListComp _ _ sc _] _ _] _ _) _ => sc
  | _ => { kind := .function, names := [], isGenerator := false, isCoroutine := false }
def retSc : Stmt → Scope
  | .Return (some (.ListComp _ _ sc _)) _ => sc
  | _ => { kind := .function, names := [], isGenerator := false, isCoroutine := false }
abbrev scH1 : Scope := argSc ((defBody sHaving).getD 2 (.Pass ⟨0, 0, 0, 0⟩))
abbrev scH2 : Scope := retSc ((defBody sHaving).getD 3 (.Pass ⟨0, 0, 0, 0⟩))
theorem blockH1 : blockB haN (defScope sHaving) scH1 "thing" ["thing", "many"] [0] = true := by decide +kernel
theorem blockH2 : blockB haN (defScope sHaving) scH2 "thing" ["thing", "many", "looks", "told", "kind"] [0, 1, 2, 3] = true := by decide +kernel
def rSetI (P : Program) (w : World) (K : Frag) : List V → Hp → VK → Prop := fun xs H Q => ∃ (a : Addr) (ns : List Int), xs = [.ref a] ∧ SqL K H a (ns.map V.int) ∧ ns.length ≤ 60 ∧ ∀ (p : Addr) (ks : List Int), H p = none → (∀ x, x ∈ ks ↔ x ∈ ns) → ks.length ≤ ns.length → Q (.ref p) (upd H p (ISet P w p ks))
def rSortS (P : Program) (w : World) : List V → Hp → VK → Prop := fun xs H Q => ∃ (a : Addr) (ks : List Int), xs = [.ref a] ∧ H a = some (ISet P w a ks) ∧ ks.length ≤ 60 ∧ ∀ (ms : List Int) (p : Addr), (∀ x, x ∈ ms ↔ x ∈ ks) → ms.length = ks.length → ms.Pairwise (· ≤ ·) → H p = none → Q (.ref p) (upd H p (.lst (ms.map V.int)))
section
variable {P : Program} {w : World} {K : Frag} {mg : Str → Option Value} {base : Heap}
theorem scHa : FnScope haN ["many", "looks", "told", "kind"] (defScope sHaving) := ⟨rfl, rfl, rfl, by decide +kernel, rfl, by decide +kernel, by decide +kernel⟩
theorem at_l (ls : List Int) (l : Int) : atI ((ls ++ [l]).map V.int) (-1) = some (.int l) := by
  rw [List.map_append]
  exact atI_last _ _
theorem ok_having {f : Addr} {fd : FuncData} (F : Fun K "_law_having" "_law_having" sHaving f fd) (T : Txt K mg) (hC : Has P w K mg base 2 "_law_code" ["many", "looks", "thing", "kind"] (spCode K)) : FnOk P w K mg base CX0 3 f fd ["many", "looks", "told", "kind"] (spHaving K) := by
  refine F.ok scHa (fun vs H Q E h => ?_) (fun cdv A outer s H vs Q E hr h => ?_)
  · obtain ⟨m, p, q, ls0, ts0, l, t, d, rfl, _⟩ := h
    rfl
  · obtain ⟨m, p, r, ls0, ts0, l, t, d, rfl, m0, hp, hq, l20, q⟩ := h
    have hu := hr.units
    refine ⟨_, pss_cons (ps_set (i := 4) scHa.nd rfl (Or.inl rfl) (pe_callTy (call_listR rfl) (by rfl) T.list PyProof.Rows.boot_list (pa_cons (pe_callTy call_range1 (by rfl) T.range PyProof.Rows.boot_range (pa_cons (pe_callB (call_min2 rfl) (by rfl) T.min PyProof.Rows.boot_min (pa_cons (pv 0) (pa_cons pe_int pa_nil))) pa_nil)) pa_nil)))
      (pss_cons (ps_if (pt_cmpR op_gt (pv 0) pe_int (nomark _))
        (pss_cons (ps_set (i := 5) scHa.nd rfl (Or.inl rfl) (pe_ix ix_list (pv 1) (pe_un un_neg pe_int) (fun _ _ => rfl)))
        (pss_one (ps_set (i := 4) scHa.nd rfl (Or.inl rfl) (pe_lst (pa_cons (pe_op op_add (pv 5) (pe_ix ix_list (pv 2) (pe_un un_neg pe_int) (fun _ _ => rfl))) (pa_cons (pe_op op_sub (pv 5) (pe_ix ix_list (pv 2) (pe_un un_neg pe_int) (fun _ _ => rfl))) (pa_cons (pe_op op_sub (pe_op op_sub (pv 5) (pe_ix ix_list (pv 2) (pe_un un_neg pe_int) (fun _ _ => rfl))) pe_int) pa_nil))))))) pss_nil)
      (pss_cons (ps_set (i := 4) scHa.nd rfl (Or.inl rfl) (pe_callB (show CallR _ (.builtin "sorted") (rSortS P w) from call_sortedS rfl) (by rfl) T.sorted PyProof.Rows.boot_sorted (pa_cons (pe_callTy (show CallR _ (.type "set") (rSetI P w K) from call_setI rfl) (by rfl) T.set PyProof.Rows.boot_set (pa_cons (pe_comp (NB := ["thing", "many"]) (ix := [0]) (BlockOk.of blockH1) rfl (pi_list (pv 4)) (fun _ _ _ _ => pe_op op_mod (pv 0) (pv 1)) (fun _ _ _ _ => pts_nil)) pa_nil)) pa_nil)))
      (pss_one (ps_ret (pe_comp (NB := ["thing", "many", "looks", "told", "kind"]) (ix := [0, 1, 2, 3]) (BlockOk.of blockH2) rfl (pi_list (pv 4)) (fun _ _ _ _ => pv 0) (fun _ _ _ _ => pts_one (pt_cmpR (show OpR _ (compareOp .Eq) (rEqL K) from op_eqL hu) (pe_has hC hr rfl (pa_cons (pv 1) (pa_cons (pv 2) (pa_cons (pv 0) (pa_cons (pv 4) pa_nil))))) (pv 3) (nomark _)))))))), ?_⟩
    refine ⟨_, rfl, m, 12, rfl, _, rfl, fun rg hrg => ?_⟩
    have s0 := new_same (o := .rng 0 (if 12 < m then 12 else m)) hrg
    have l0 : upd H rg (.rng 0 (if 12 < m then 12 else m)) rg = some (.rng 0 (if 12 < m then 12 else m)) := upd_same
    generalize upd H rg (.rng 0 (if 12 < m then 12 else m)) = H0 at s0 l0 ⊢
    refine ⟨rg, _, rfl, l0, (by split <;> omega), (by split <;> omega), fun so hso => ?_⟩
    have s1 := s0.trans (new_same (o := .lst (((List.range (if 12 < m then 12 else m : Int).toNat).map fun i : Nat => (i : Int)).map V.int)) hso)
    have l1 : upd H0 so (.lst (((List.range (if 12 < m then 12 else m : Int).toNat).map fun i : Nat => (i : Int)).map V.int)) so = some (.lst (((List.range (if 12 < m then 12 else m : Int).toNat).map fun i : Nat => (i : Int)).map V.int)) := upd_same
    generalize upd H0 so (.lst (((List.range (if 12 < m then 12 else m : Int).toNat).map fun i : Nat => (i : Int)).map V.int)) = H1 at s1 l1 ⊢
    refine ⟨_, rfl, _, _, rfl, rfl, _, rfl, ?_⟩
    refine ite2 (fun c => ?_) (fun c => ?_)
    · have c' : 12 < m := of_decide_eq_true c
      refine ⟨_, rfl, _, rfl, p, _, -1, .int l, rfl, rfl, s1.seq hp, at_l _ _, ?_⟩
      refine ⟨_, rfl, _, rfl, _, rfl, r, _, -1, .int t, rfl, rfl, s1.seq hq, at_l _ _, _, _, rfl, rfl, ?_⟩
      refine ⟨_, rfl, _, rfl, _, rfl, r, _, -1, .int t, rfl, rfl, s1.seq hq, at_l _ _, _, _, rfl, rfl, ?_⟩
      refine ⟨_, rfl, _, rfl, _, rfl, r, _, -1, .int t, rfl, rfl, s1.seq hq, at_l _ _, _, _, rfl, rfl, _, _, rfl, rfl, (by show 3 ≤ sizeLine; decide), fun so hso => ?_⟩
      have s1 := s1.trans (new_same (o := .lst [.int (l + t), .int (l - t), .int (l - t - 1)]) hso)
      have l1 : upd H1 so (.lst [.int (l + t), .int (l - t), .int (l - t - 1)]) so = some (.lst ([l + t, l - t, l - t - 1].map V.int)) := upd_same
      generalize upd H1 so (.lst [.int (l + t), .int (l - t), .int (l - t - 1)]) = H1 at s1 l1 ⊢
      have hss : [l + t, l - t, l - t - 1].length ≤ 12 := by
        show 3 ≤ 12
        decide
      have hmem : [l + t, l - t, l - t - 1].map (· % m) = cnd m l t := by
        unfold cnd
        rw [if_pos c']
        rfl
      generalize [l + t, l - t, l - t - 1] = ss at l1 hss hmem
      refine ⟨_, rfl, so, rfl, ⟨_, SqL.of l1⟩, comp_list (xs := ss.map V.int) (fun j us Hd => Hd = H1 ∧ us = ((ss.take j).map (· % m)).map V.int) ⟨rfl, rfl⟩ ?_ ?_ ?_ ?_⟩
      · rintro j us Hd hj ⟨rfl, rfl⟩
        rw [List.length_map, List.length_map, List.length_take]
        exact Nat.lt_of_le_of_lt (Nat.le_trans (Nat.min_le_right _ _) hss) (by decide)
      · rintro j us Hd hj ⟨rfl, rfl⟩
        exact SqL.of l1
      · rintro j x us Hd hx ⟨rfl, rfl⟩
        rw [List.getElem?_map] at hx
        cases e2 : ss[j]? with
        | none => rw [e2] at hx; cases hx
        | some z =>
          rw [e2] at hx
          cases hx
          unfold tYes
          dsimp only
          rw [if_pos rfl]
          refine ⟨_, rfl, _, rfl, _, _, rfl, rfl, m0, rfl, ?_⟩
          rw [map_take e2, List.map_append]
          rfl
      · rintro us Hd ⟨rfl, rfl⟩ u hu2
        rw [List.length_map, List.take_length, hmem]
        have s2 := new_same (o := .lst ((cnd m l t).map V.int)) hu2
        have l2 : upd Hd u (.lst ((cnd m l t).map V.int)) u = some (.lst ((cnd m l t).map V.int)) := upd_same
        generalize upd Hd u (.lst ((cnd m l t).map V.int)) = H2 at s2 l2 ⊢
        have cl : (cnd m l t).length ≤ 12 := by rw [← hmem, List.length_map]; exact hss
        refine ⟨u, cnd m l t, rfl, SqL.of l2, by omega, fun u3 ks h3 mk lk => ?_⟩
        have s3 := new_same (o := ISet P w u3 ks) h3
        have l3 : upd H2 u3 (ISet P w u3 ks) u3 = some (ISet P w u3 ks) := upd_same
        generalize upd H2 u3 (ISet P w u3 ks) = H3 at s3 l3 ⊢
        refine ⟨u3, ks, rfl, l3, by omega, fun ms u4 mm ml srt h4 => ?_⟩
        have s4 := new_same (o := .lst (ms.map V.int)) h4
        have l4 : upd H3 u4 (.lst (ms.map V.int)) u4 = some (.lst (ms.map V.int)) := upd_same
        generalize upd H3 u4 (.lst (ms.map V.int)) = H4 at s4 l4 ⊢
        have all : Same H H4 := ((s1.trans s2).trans s3).trans s4
        have len : ms.length ≤ 12 := by omega
        refine ⟨_, rfl, u4, rfl, ⟨_, SqL.of l4⟩, comp_list (xs := ms.map V.int) (fun j us Hd => Same H4 Hd ∧ us = ((ms.take j).filter fun x => decide (cde d m (ls0 ++ [l]) x = ts0 ++ [t])).map V.int) ⟨Same.refl _, rfl⟩ ?_ ?_ ?_ ?_⟩
        · rintro j us Hd hj ⟨_, rfl⟩
          rw [List.length_map]
          exact Nat.lt_of_le_of_lt (Nat.le_trans (List.length_filter_le _ _) (Nat.le_trans (by rw [List.length_take]; exact Nat.min_le_right _ _) len)) (by decide)
        · rintro j us Hd hj ⟨sd, rfl⟩
          exact SqL.of (sd _ _ l4)
        · rintro j x us Hd hx ⟨sd, rfl⟩
          rw [List.getElem?_map] at hx
          cases e2 : ms[j]? with
          | none => rw [e2] at hx; cases hx
          | some z =>
            rw [e2] at hx
            cases hx
            refine ⟨_, rfl, _, rfl, _, rfl, _, rfl, m, p, ls0 ++ [l], z, d, rfl, m0, (all.trans sd).seq hp, l20, fun v H5 _ s5 l5 => ?_⟩
            refine ⟨_, rfl, v, r, _, ts0 ++ [t], rfl, rfl, SqL.of l5, ((all.trans sd).trans s5).seq hq, _, rfl, ?_⟩
            have tk : ms.take (j + 1) = ms.take j ++ [z] := by rw [List.take_succ, e2]; rfl
            refine ite2 (fun hc => ?_) (fun hc => ?_)
            · refine ⟨_, rfl, sd.trans s5, ?_⟩
              rw [tk, List.filter_append, List.map_append, List.filter_cons, if_pos hc]
              rfl
            · refine ⟨sd.trans s5, ?_⟩
              rw [tk, List.filter_append, List.map_append, List.filter_cons, if_neg hc]
              simp
        · rintro us Hd ⟨sd, rfl⟩ v hv
          rw [List.length_map, List.take_length]
          refine q _ v _ (fun x => ?_) (Nat.le_trans (List.length_filter_le _ _) len) ((all.trans sd).trans (new_same hv)) upd_same
          rw [List.mem_filter, mm, mk, decide_eq_true_iff]
    · have c' : ¬ 12 < m := fun h => c (decide_eq_true h)
      have hss : (((List.range (if 12 < m then 12 else m : Int).toNat).map fun i : Nat => (i : Int))).length ≤ 12 := by
        rw [List.length_map, List.length_range]
        split <;> omega
      have hmem : (((List.range (if 12 < m then 12 else m : Int).toNat).map fun i : Nat => (i : Int))).map (· % m) = cnd m l t := by
        unfold cnd
        rw [if_neg c', if_neg c', List.map_map]
        rfl
      generalize ((List.range (if 12 < m then 12 else m : Int).toNat).map fun i : Nat => (i : Int)) = ss at l1 hss hmem
      refine ⟨_, rfl, so, rfl, ⟨_, SqL.of l1⟩, comp_list (xs := ss.map V.int) (fun j us Hd => Hd = H1 ∧ us = ((ss.take j).map (· % m)).map V.int) ⟨rfl, rfl⟩ ?_ ?_ ?_ ?_⟩
      · rintro j us Hd hj ⟨rfl, rfl⟩
        rw [List.length_map, List.length_map, List.length_take]
        exact Nat.lt_of_le_of_lt (Nat.le_trans (Nat.min_le_right _ _) hss) (by decide)
      · rintro j us Hd hj ⟨rfl, rfl⟩
        exact SqL.of l1
      · rintro j x us Hd hx ⟨rfl, rfl⟩
        rw [List.getElem?_map] at hx
        cases e2 : ss[j]? with
        | none => rw [e2] at hx; cases hx
        | some z =>
          rw [e2] at hx
          cases hx
          unfold tYes
          dsimp only
          rw [if_pos rfl]
          refine ⟨_, rfl, _, rfl, _, _, rfl, rfl, m0, rfl, ?_⟩
          rw [map_take e2, List.map_append]
          rfl
      · rintro us Hd ⟨rfl, rfl⟩ u hu2
        rw [List.length_map, List.take_length, hmem]
        have s2 := new_same (o := .lst ((cnd m l t).map V.int)) hu2
        have l2 : upd Hd u (.lst ((cnd m l t).map V.int)) u = some (.lst ((cnd m l t).map V.int)) := upd_same
        generalize upd Hd u (.lst ((cnd m l t).map V.int)) = H2 at s2 l2 ⊢
        have cl : (cnd m l t).length ≤ 12 := by rw [← hmem, List.length_map]; exact hss
        refine ⟨u, cnd m l t, rfl, SqL.of l2, by omega, fun u3 ks h3 mk lk => ?_⟩
        have s3 := new_same (o := ISet P w u3 ks) h3
        have l3 : upd H2 u3 (ISet P w u3 ks) u3 = some (ISet P w u3 ks) := upd_same
        generalize upd H2 u3 (ISet P w u3 ks) = H3 at s3 l3 ⊢
        refine ⟨u3, ks, rfl, l3, by omega, fun ms u4 mm ml srt h4 => ?_⟩
        have s4 := new_same (o := .lst (ms.map V.int)) h4
        have l4 : upd H3 u4 (.lst (ms.map V.int)) u4 = some (.lst (ms.map V.int)) := upd_same
        generalize upd H3 u4 (.lst (ms.map V.int)) = H4 at s4 l4 ⊢
        have all : Same H H4 := ((s1.trans s2).trans s3).trans s4
        have len : ms.length ≤ 12 := by omega
        refine ⟨_, rfl, u4, rfl, ⟨_, SqL.of l4⟩, comp_list (xs := ms.map V.int) (fun j us Hd => Same H4 Hd ∧ us = ((ms.take j).filter fun x => decide (cde d m (ls0 ++ [l]) x = ts0 ++ [t])).map V.int) ⟨Same.refl _, rfl⟩ ?_ ?_ ?_ ?_⟩
        · rintro j us Hd hj ⟨_, rfl⟩
          rw [List.length_map]
          exact Nat.lt_of_le_of_lt (Nat.le_trans (List.length_filter_le _ _) (Nat.le_trans (by rw [List.length_take]; exact Nat.min_le_right _ _) len)) (by decide)
        · rintro j us Hd hj ⟨sd, rfl⟩
          exact SqL.of (sd _ _ l4)
        · rintro j x us Hd hx ⟨sd, rfl⟩
          rw [List.getElem?_map] at hx
          cases e2 : ms[j]? with
          | none => rw [e2] at hx; cases hx
          | some z =>
            rw [e2] at hx
            cases hx
            refine ⟨_, rfl, _, rfl, _, rfl, _, rfl, m, p, ls0 ++ [l], z, d, rfl, m0, (all.trans sd).seq hp, l20, fun v H5 _ s5 l5 => ?_⟩
            refine ⟨_, rfl, v, r, _, ts0 ++ [t], rfl, rfl, SqL.of l5, ((all.trans sd).trans s5).seq hq, _, rfl, ?_⟩
            have tk : ms.take (j + 1) = ms.take j ++ [z] := by rw [List.take_succ, e2]; rfl
            refine ite2 (fun hc => ?_) (fun hc => ?_)
            · refine ⟨_, rfl, sd.trans s5, ?_⟩
              rw [tk, List.filter_append, List.map_append, List.filter_cons, if_pos hc]
              rfl
            · refine ⟨sd.trans s5, ?_⟩
              rw [tk, List.filter_append, List.map_append, List.filter_cons, if_neg hc]
              simp
        · rintro us Hd ⟨sd, rfl⟩ v hv
          rw [List.length_map, List.take_length]
          refine q _ v _ (fun x => ?_) (Nat.le_trans (List.length_filter_le _ _) len) ((all.trans sd).trans (new_same hv)) upd_same
          rw [List.mem_filter, mm, mk, decide_eq_true_iff]
end
end K33

namespace K33
open PySem L2 PySem.W
/-- two corners of one side -/
def Side (w h x1 y1 x2 y2 : Int) : Prop := (y1 = y2 ∧ (y1 = 0 ∨ y1 = h - 1) ∧ ((x1 = 0 ∧ x2 = w - 1) ∨ (x1 = w - 1 ∧ x2 = 0))) ∨ (x1 = x2 ∧ (x1 = 0 ∨ x1 = w - 1) ∧ ((y1 = 0 ∧ y2 = h - 1) ∨ (y1 = h - 1 ∧ y2 = 0)))
theorem Side.symm {w h x1 y1 x2 y2 : Int} (s : Side w h x1 y1 x2 y2) : Side w h x2 y2 x1 y1 := by
  unfold Side at *
  omega
def spSide : Sp := fun vs H Q _ => ∃ (a : Addr) (wd hg : Int), vs = [.ref a, .int wd, .int hg] ∧ StA H a ∧ ∀ u p1 p2 x1 y1 x2 y2 H', Side wd hg x1 y1 x2 y2 → H' u = some (.lst [.ref p1, .ref p2]) → H' p1 = some (.tup [.int x1, .int y1]) → H' p2 = some (.tup [.int x2, .int y2]) → StA H' a → Mv a H H' → u ≠ a → Q (.ref u) H'
/-- an expression that is just this number -/
def Pure (te : TE) (σ : St) (x : Int) : Prop := ∀ H (Q : VK), Q (.int x) H → te σ H Q
theorem two_tup {ta tb tc td : TE} {σ : St} {x1 y1 x2 y2 : Int} {H : Hp} {Q : VK} (ha : Pure ta σ x1) (hb : Pure tb σ y1) (hc : Pure tc σ x2) (hd : Pure td σ y2)
    (q : ∀ u p1 p2 H', H u = none → Same H H' → H' u = some (.lst [.ref p1, .ref p2]) → H' p1 = some (.tup [.int x1, .int y1]) → H' p2 = some (.tup [.int x2, .int y2]) → Q (.ref u) H') :
    tLst (tCons (tTup (tCons ta (tCons tb tNil))) (tCons (tTup (tCons tc (tCons td tNil))) tNil)) σ H Q := by
  refine ha _ _ (hb _ _ ⟨(by show 2 ≤ sizeLine; decide), fun p1 h1 => hc _ _ (hd _ _ ⟨(by show 2 ≤ sizeLine; decide), fun p2 h2 => ⟨(by show 2 ≤ sizeLine; decide), fun u hu => ?_⟩⟩)⟩)
  have s1 := new_same (o := .tup [.int x1, .int y1]) h1
  have s2 := new_same (o := .tup [.int x2, .int y2]) h2
  have s3 := new_same (o := .lst [.ref p1, .ref p2]) hu
  exact q u p1 p2 _ (none_of s1 (none_of s2 hu)) ((s1.trans s2).trans s3) upd_same (s3 _ _ (s2 _ _ upd_same)) (s3 _ _ upd_same)
theorem four {t1 t2 t3 t4 : TE} {σ : St} {H : Hp} {Q : VK} (h : t1 σ H fun x1 H1 => t2 σ H1 fun x2 H2 => t3 σ H2 fun x3 H3 => t4 σ H3 fun x4 H4 => [x1, x2, x3, x4].length ≤ sizeLine ∧ ∀ p, H4 p = none → Q (.ref p) (upd H4 p (.lst [x1, x2, x3, x4]))) :
    tLst (tCons t1 (tCons t2 (tCons t3 (tCons t4 tNil)))) σ H Q := h
section
variable {P : Program} {w : World} {K : Frag} {mg : Str → Option Value} {base : Heap}
abbrev siN : List Str := ["state", "wide", "high", "way", "ends"]
theorem scSi : FnScope siN ["state", "wide", "high"] (defScope sSide) := ⟨rfl, rfl, rfl, by decide +kernel, rfl, by decide +kernel, by decide +kernel⟩
theorem ok_side {f : Addr} {fd : FuncData} (F : Fun K "_law_side" "_law_side" sSide f fd) (T : Txt K mg) (hN : Has P w K mg base 1 "_law_next" ["state", "many"] spNext) : FnOk P w K mg base CX0 2 f fd ["state", "wide", "high"] spSide := by
  refine F.ok scSi (fun vs H Q E h => ?_) (fun cdv A outer s H vs Q E hr h => ?_)
  · obtain ⟨a, wd, hg, rfl, _⟩ := h
    rfl
  · obtain ⟨a, wd, hg, rfl, st, q⟩ := h
    refine ⟨_, pss_cons (ps_set (i := 3) scSi.nd rfl (Or.inl rfl) (pe_has hN hr rfl (pa_cons (pv 0) (pa_cons pe_int pa_nil))))
      (pss_cons (ps_set (i := 4) scSi.nd rfl (Or.inl rfl) (pe_ix ix_list (pe_lst
          (pa_cons (pe_lst (pa_cons (pe_tup (pa_cons pe_int (pa_cons pe_int pa_nil))) (pa_cons (pe_tup (pa_cons (pe_op op_sub (pv 1) pe_int) (pa_cons pe_int pa_nil))) pa_nil)))
          (pa_cons (pe_lst (pa_cons (pe_tup (pa_cons pe_int (pa_cons (pe_op op_sub (pv 2) pe_int) pa_nil))) (pa_cons (pe_tup (pa_cons (pe_op op_sub (pv 1) pe_int) (pa_cons (pe_op op_sub (pv 2) pe_int) pa_nil))) pa_nil)))
          (pa_cons (pe_lst (pa_cons (pe_tup (pa_cons pe_int (pa_cons pe_int pa_nil))) (pa_cons (pe_tup (pa_cons pe_int (pa_cons (pe_op op_sub (pv 2) pe_int) pa_nil))) pa_nil)))
          (pa_cons (pe_lst (pa_cons (pe_tup (pa_cons (pe_op op_sub (pv 1) pe_int) (pa_cons pe_int pa_nil))) (pa_cons (pe_tup (pa_cons (pe_op op_sub (pv 1) pe_int) (pa_cons (pe_op op_sub (pv 2) pe_int) pa_nil))) pa_nil))) pa_nil))))) (pv 3) (fun _ _ => rfl)))
      (pss_cons (ps_if (pt_cmpR op_eq (pe_has hN hr rfl (pa_cons (pv 0) (pa_cons pe_int pa_nil))) pe_int (nomark _)) (pss_one (ps_expr (pe_bm0 PySem.F.plainAttrs_list PySem.F.slot_list_reverse PySem.F.type_list_reverse mt_reverse (pv 4)))) pss_nil)
      (pss_one (ps_ret (pv 4))))), ?_⟩
    refine ⟨_, rfl, a, 4, rfl, (by decide), (by decide), st, fun r H1 r0 r1 st1 mv1 => ?_⟩
    have pi : ∀ (σ : St) (c : Int), Pure (tC (.int c)) σ c := fun _ _ _ _ h => h
    have p1 : ∀ {σ : St} {j : Nat} {z : Int}, σ[j]? = some (some (.int z)) → Pure (fun σ H Q => tVar j σ H fun x H1 => tC (.int 1) σ H1 fun y H2 => rI0 (fun i j => .int (i - j)) x y H2 Q) σ (z - 1) := fun e _ _ h => ⟨_, e, _, _, rfl, rfl, h⟩
    dsimp only [gName, tSeq, tAsg, tOp]
    refine four ?_
    refine two_tup (pi _ 0) (pi _ 0) (p1 (z := wd) (by rfl)) (pi _ 0) fun u1 a1 b1 H2 n1 s2 g1 ga1 gb1 => ?_
    refine two_tup (pi _ 0) (p1 (z := hg) (by rfl)) (p1 (z := wd) (by rfl)) (p1 (z := hg) (by rfl)) fun u2 a2 b2 H3 n2 s3 g2 ga2 gb2 => ?_
    refine two_tup (pi _ 0) (pi _ 0) (pi _ 0) (p1 (z := hg) (by rfl)) fun u3 a3 b3 H4 n3 s4 g3 ga3 gb3 => ?_
    refine two_tup (p1 (z := wd) (by rfl)) (pi _ 0) (p1 (z := wd) (by rfl)) (p1 (z := hg) (by rfl)) fun u4 a4 b4 H5 n4 s5 g4 ga4 gb4 => ?_
    refine ⟨(by show 4 ≤ sizeLine; decide), fun o ho => ?_⟩
    have s6 := new_same (o := .lst [.ref u1, .ref u2, .ref u3, .ref u4]) ho
    have l6 : upd H5 o (.lst [.ref u1, .ref u2, .ref u3, .ref u4]) o = some (.lst [.ref u1, .ref u2, .ref u3, .ref u4]) := upd_same
    generalize upd H5 o (.lst [.ref u1, .ref u2, .ref u3, .ref u4]) = H6 at s6 l6 ⊢
    have t2 : Same H2 H6 := ((s3.trans s4).trans s5).trans s6
    have t3 : Same H3 H6 := (s4.trans s5).trans s6
    have t4 : Same H4 H6 := s5.trans s6
    obtain ⟨j, rfl⟩ : ∃ j : Nat, r = (j : Int) := ⟨r.toNat, by omega⟩
    obtain ⟨u, b1, b2, x1, y1, x2, y2, eu, nu0, sd, gu, gp1, gp2⟩ : ∃ u b1 b2 x1 y1 x2 y2, atI [V.ref u1, .ref u2, .ref u3, .ref u4] (j : Int) = some (.ref u) ∧ H1 u = none ∧ Side wd hg x1 y1 x2 y2 ∧ H6 u = some (.lst [.ref b1, .ref b2]) ∧ H6 b1 = some (.tup [.int x1, .int y1]) ∧ H6 b2 = some (.tup [.int x2, .int y2]) := by
      rcases (show j = 0 ∨ j = 1 ∨ j = 2 ∨ j = 3 by omega) with rfl | rfl | rfl | rfl
      · exact ⟨u1, _, _, _, _, _, _, rfl, n1, by unfold Side; omega, t2 _ _ g1, t2 _ _ ga1, t2 _ _ gb1⟩
      · exact ⟨u2, _, _, _, _, _, _, rfl, none_of s2 n2, by unfold Side; omega, t3 _ _ g2, t3 _ _ ga2, t3 _ _ gb2⟩
      · exact ⟨u3, _, _, _, _, _, _, rfl, none_of (s2.trans s3) n3, by unfold Side; omega, t4 _ _ g3, t4 _ _ ga3, t4 _ _ gb3⟩
      · exact ⟨u4, _, _, _, _, _, _, rfl, none_of ((s2.trans s3).trans s4) n4, by unfold Side; omega, s6 _ _ g4, s6 _ _ ga4, s6 _ _ gb4⟩
    have all : Same H1 H6 := s2.trans t2
    have st6 : StA H6 a := by
      obtain ⟨x, y, e, h⟩ := st1
      exact ⟨x, y, all _ _ e, h⟩
    have nua : u ≠ a := fun z => by
      obtain ⟨x, y, e, _⟩ := st6
      rw [z, e] at gu
      cases gu
    refine ⟨_, rfl, o, _, (j : Int), .ref u, rfl, rfl, SqL.of l6, eu, ?_⟩
    refine ⟨_, rfl, a, 2, rfl, (by decide), (by decide), st6, fun r2 H7 _ _ st7 mv7 => ⟨rfl, _, rfl, ?_⟩⟩
    have mv : Mv a H H7 := (mv1.trans (Mv.of all)).trans mv7
    have nt : ∀ {b : Addr} {xs : List V}, H6 b = some (.tup xs) → b ≠ a := fun hb z => by
      obtain ⟨x, y, e, _⟩ := st6
      rw [z, e] at hb
      cases hb
    have gu7 := mv7 _ _ nua gu
    have gp17 := mv7 _ _ (nt gp1) gp1
    have gp27 := mv7 _ _ (nt gp2) gp2
    refine ite2 (fun c => ?_) (fun c => ?_)
    · refine ⟨_, rfl, ?_, u, _, rfl, rfl, gu7, ?_⟩
      · exact .inl ⟨rfl, _, SqL.of gu7⟩
      · have nu : ∀ {b : Addr} {xs : List V}, H7 b = some (.tup xs) → b ≠ u := fun hb z => by
          rw [z, gu7] at hb
          cases hb
        refine ⟨_, rfl, q u b2 b1 x2 y2 x1 y1 _ sd.symm upd_same (by rw [upd_ne (nu gp27)]; exact gp27) (by rw [upd_ne (nu gp17)]; exact gp17) ?_ ?_ nua⟩
        · obtain ⟨x, y, e, h⟩ := st7
          exact ⟨x, y, by rw [upd_ne (Ne.symm nua)]; exact e, h⟩
        · intro p o' np hp
          have ne : p ≠ u := fun z => by
            have e := mv1 _ _ np hp
            rw [z, nu0] at e
            cases e
          rw [upd_ne ne]
          exact mv _ _ np hp
    · exact ⟨_, rfl, q u b1 b2 x1 y1 x2 y2 _ sd gu7 gp17 gp27 st7 mv nua⟩
end
end K33

namespace K33
open PySem L2 PySem.W
/-- the place by halves, where the two ends' difference runs along u, and v is the way away -/
def hA (u1 u2 d0 d1 : Int) : Int := ((if u2 < u1 then d1 else d0) - (if u2 < u1 then d0 else d1) + (if u2 > u1 then u2 else u1)) / 2
def hB (u1 u2 v1 d0 d1 : Int) : Int := if 0 < v1 then v1 - ((if u2 < u1 then d1 else d0) + (if u2 < u1 then d0 else d1) - (if u2 > u1 then u2 else u1)) / 2 else ((if u2 < u1 then d1 else d0) + (if u2 < u1 then d0 else d1) - (if u2 > u1 then u2 else u1)) / 2
def hpx (x1 y1 x2 y2 d0 d1 : Int) : Int := if x1 = x2 then hB y1 y2 x1 d0 d1 else hA x1 x2 d0 d1
def hpy (x1 y1 x2 y2 d0 d1 : Int) : Int := if x1 = x2 then hA y1 y2 d0 d1 else hB x1 x2 y1 d0 d1
def spHalf (K : Frag) : Sp := fun vs H Q _ => ∃ (wd hg : Int) (a b t : Addr) (x1 y1 x2 y2 d0 d1 : Int), vs = [.int wd, .int hg, .ref a, .ref b, .ref t] ∧ SqT K H a [.int x1, .int y1] ∧ SqT K H b [.int x2, .int y2] ∧ SqL K H t [.int d0, .int d1] ∧
  if gpOk wd hg x1 y1 x2 y2 d0 d1 (hpx x1 y1 x2 y2 d0 d1) (hpy x1 y1 x2 y2 d0 d1) = true then ∀ H' r, Same H H' → H' r = some (.tup [.int (hpx x1 y1 x2 y2 d0 d1), .int (hpy x1 y1 x2 y2 d0 d1)]) → Q (.ref r) H' else ∀ H', Same H H' → Q (.str "none") H'
theorem chain_rx {σ : St} {H : Hp} {Q : Bool → Hp → Prop} {i x y : Int} {tm : TE} {k : Nat} (hm : ∀ Q' : VK, Q' (.int x) H → tm σ H Q') (hk : σ[k]? = some (some (.int y))) (q : Q (decide (i ≤ x) && decide (x < y)) H) :
    tTest (tChain (rI0 fun i j => .bl (decide (i ≤ j))) (rI0 fun i j => .bl (decide (i < j))) (tC (.int i)) tm (tVar k)) σ H Q := by
  refine hm _ ⟨_, _, rfl, rfl, _, rfl, ?_⟩
  refine ite2 (fun c => ?_) (fun c => ?_)
  · rw [c, Bool.true_and] at q
    exact ⟨_, hk, _, _, rfl, rfl, _, rfl, q⟩
  · rw [Bool.not_eq_true _ |>.mp c, Bool.false_and] at q
    exact ⟨_, rfl, q⟩
theorem same_upd {H H1 : Hp} {p : Addr} {o : HO} (s : Same H H1) (h : H p = none) : Same H (upd H1 p o) := fun q u e => by
  have ne : q ≠ p := fun z => by
    rw [z, h] at e
    cases e
  rw [upd_ne ne]
  exact s _ _ e
section
variable {P : Program} {w : World} {K : Frag} {mg : Str → Option Value} {base : Heap}
abbrev hvN : List Str := ["wide", "high", "one", "other", "told", "at", "low", "beyond", "last", "spot"]
theorem scHv : FnScope hvN ["wide", "high", "one", "other", "told"] (defScope sHalves) := ⟨rfl, rfl, rfl, by decide +kernel, rfl, by decide +kernel, by decide +kernel⟩
theorem ok_half {f : Addr} {fd : FuncData} (F : Fun K "_law_by_halves" "_law_by_halves" sHalves f fd) (T : Txt K mg) (hS : Has P w K mg base 1 "_law_spans" ["one", "spot"] (spSpans K)) : FnOk P w K mg base CX0 2 f fd ["wide", "high", "one", "other", "told"] (spHalf K) := by
  refine F.ok scHv (fun vs H Q E h => ?_) (fun cdv A outer s H vs Q E hr h => ?_)
  · obtain ⟨wd, hg, a, b, t, x1, y1, x2, y2, d0, d1, rfl, _⟩ := h
    rfl
  · obtain ⟨wd, hg, a, b, t, x1, y1, x2, y2, d0, d1, rfl, ha, hb, ht, q⟩ := h
    have hu := hr.units
    refine ⟨_, pss_cons (ps_set (i := 5) scHv.nd rfl (Or.inl rfl) (pe_callTy call_int1 (by rfl) T.int PyProof.Rows.boot_int (pa_cons (pe_cmpR op_eq (pe_ix ix_tup (pv 2) pe_int (fun _ _ => rfl)) (pe_ix ix_tup (pv 3) pe_int (fun _ _ => rfl)) (by rfl)) pa_nil)))
      (pss_cons (ps_asg (pv 4) (pg_lst rfl (pgs_cons (pg_name (i := 6) scHv.nd rfl (Or.inl rfl)) (pgs_cons (pg_name (i := 7) scHv.nd rfl (Or.inl rfl)) pgs_nil))))
      (pss_cons (ps_if (pt_cmpR op_gt (pe_ix ix_tup (pv 2) (pv 5) (fun _ _ => rfl)) (pe_ix ix_tup (pv 3) (pv 5) (fun _ _ => rfl)) (nomark _)) (pss_one (ps_par (i := 6) (j := 7) rfl scHv.nd rfl rfl (by decide) rfl rfl (pa_cons (pv 7) (pa_cons (pv 6) pa_nil)) rfl)) pss_nil)
      (pss_cons (ps_set (i := 8) scHv.nd rfl (Or.inl rfl) (pe_callB (call_max2 rfl) (by rfl) T.max PyProof.Rows.boot_max (pa_cons (pe_ix ix_tup (pv 2) (pv 5) (fun _ _ => rfl)) (pa_cons (pe_ix ix_tup (pv 3) (pv 5) (fun _ _ => rfl)) pa_nil))))
      (pss_cons (ps_set (i := 9) scHv.nd rfl (Or.inl rfl) (pe_lst (pa_cons (pe_op op_fdiv (pe_op op_add (pe_op op_sub (pv 6) (pv 7)) (pv 8)) pe_int) (pa_cons (pe_op op_fdiv (pe_op op_sub (pe_op op_add (pv 6) (pv 7)) (pv 8)) pe_int) pa_nil))))
      (pss_cons (ps_if (pt_cmpR op_gt (pe_ix ix_tup (pv 2) (pe_op op_sub pe_int (pv 5)) (fun _ _ => rfl)) pe_int (nomark _)) (pss_one (ps_asg (pe_op op_sub (pe_ix ix_tup (pv 2) (pe_op op_sub pe_int (pv 5)) (fun _ _ => rfl)) (pe_ix ix_list (pv 9) pe_int (fun _ _ => rfl))) (pg_sub (pv 9) pe_int set_list))) pss_nil)
      (pss_cons (ps_if (pt_cmpR op_eq (pv 5) pe_int (nomark _)) (pss_one (ps_set (i := 9) scHv.nd rfl (Or.inl rfl) (pe_revL (pv 9)))) pss_nil)
      (pss_cons (ps_if (PW.pt (pw_or (pt_not (pt_chain op_le op_lt pe_int (pe_ix ix_list (pv 9) pe_int (fun _ _ => rfl)) (pv 0))) (pw_or1 (pt_not (pt_chain op_le op_lt pe_int (pe_ix ix_list (pv 9) pe_int (fun _ _ => rfl)) (pv 1)))))) (pss_one (ps_ret pe_str)) pss_nil)
      (pss_cons (ps_if (pt_cmpR (op_neL hu) (pe_lst (pa_cons (pe_has hS hr rfl (pa_cons (pv 2) (pa_cons (pv 9) pa_nil))) (pa_cons (pe_has hS hr rfl (pa_cons (pv 3) (pa_cons (pv 9) pa_nil))) pa_nil))) (pv 4) (nomark _)) (pss_one (ps_ret pe_str)) pss_nil)
      (pss_one (ps_ret (pe_callTy call_tuple_of (by rfl) T.tuple PyProof.Rows.boot_tuple (pa_cons (pv 9) pa_nil)))))))))))), ?_⟩
    refine ⟨_, rfl, a, _, _, .int x1, rfl, rfl, ha, rfl, _, rfl, b, _, _, .int x2, rfl, rfl, hb, rfl, rfl, .inr ⟨_, rfl, ?_⟩⟩
    obtain ⟨A, eA⟩ : ∃ A : Int, (if decide (V.int x1 = V.int x2) = true then (1 : Int) else 0) = A := ⟨_, rfl⟩
    rw [eA]
    obtain ⟨u1, u2, v1, a1, a2, a3, hx1, hx0⟩ : ∃ u1 u2 v1 : Int, atI [V.int x1, V.int y1] A = some (.int u1) ∧ atI [V.int x2, V.int y2] A = some (.int u2) ∧ atI [V.int x1, V.int y1] (1 - A) = some (.int v1) ∧ (x1 = x2 → u1 = y1 ∧ u2 = y2 ∧ v1 = x1) ∧ (¬ x1 = x2 → u1 = x1 ∧ u2 = x2 ∧ v1 = y1) := by
      by_cases cx : x1 = x2
      · have eA1 : A = 1 := by rw [← eA, if_pos (by rw [cx]; exact decide_eq_true rfl)]
        subst eA1
        exact ⟨y1, y2, x1, rfl, rfl, rfl, fun _ => ⟨rfl, rfl, rfl⟩, fun z => absurd cx z⟩
      · have eA1 : A = 0 := by rw [← eA, if_neg (fun z => cx (V.int.inj (of_decide_eq_true z)))]
        subst eA1
        exact ⟨x1, x2, y1, rfl, rfl, rfl, fun z => absurd z cx, fun _ => ⟨rfl, rfl, rfl⟩⟩
    refine ⟨_, rfl, t, _, rfl, ht, rfl, _, _, rfl, _, _, rfl, rfl, ?_⟩
    refine ⟨_, rfl, _, rfl, a, _, _, .int u1, rfl, rfl, ha, a1, _, rfl, _, rfl, b, _, _, .int u2, rfl, rfl, hb, a2, _, _, rfl, rfl, _, rfl, ?_⟩
    refine ite2 (fun c => ?_) (fun c => ?_)
    · have csw : (u2 < u1) = True := eq_true (of_decide_eq_true c)
      refine ⟨_, rfl, _, rfl, _, _, rfl, ?_⟩
      refine ⟨_, rfl, _, rfl, a, _, _, .int u1, rfl, rfl, ha, a1, _, rfl, _, rfl, b, _, _, .int u2, rfl, rfl, hb, a2, u1, u2, rfl, ?_⟩
      refine ⟨_, rfl, _, rfl, _, _, rfl, rfl, _, rfl, _, _, rfl, rfl, _, _, rfl, rfl, ⟨by decide, by decide⟩, _, rfl, _, rfl, _, _, rfl, rfl, _, rfl, _, _, rfl, rfl, _, _, rfl, rfl, ⟨by decide, by decide⟩, (by show 2 ≤ sizeLine; decide), fun sp hsp => ?_⟩
      dsimp only
      have eAA : hA u1 u2 d0 d1 = (d1 - d0 + (if u2 > u1 then u2 else u1)) / 2 := by
        unfold hA
        simp only [csw, if_true, if_false]
      have eBB : (d1 + d0 - (if u2 > u1 then u2 else u1)) / 2 = ((if u2 < u1 then d1 else d0) + (if u2 < u1 then d0 else d1) - (if u2 > u1 then u2 else u1)) / 2 := by
        simp only [csw, if_true, if_false]
      generalize (d1 - d0 + (if u2 > u1 then u2 else u1)) / 2 = S0 at eAA ⊢
      generalize (d1 + d0 - (if u2 > u1 then u2 else u1)) / 2 = S1 at eBB ⊢
      have s4 := new_same (o := .lst [.int S0, .int S1]) hsp
      have l4 : upd H sp (.lst [.int S0, .int S1]) sp = some (.lst [.int S0, .int S1]) := upd_same
      generalize upd H sp (.lst [.int S0, .int S1]) = H4 at s4 l4 ⊢
      refine ⟨_, rfl, _, rfl, _, _, rfl, rfl, a, _, _, .int v1, rfl, rfl, s4.tup ha, a3, _, _, rfl, rfl, _, rfl, ?_⟩
      refine ite2 (fun c => ?_) (fun c => ?_)
      · have cv : 0 < v1 := of_decide_eq_true c
        refine ⟨_, rfl, _, rfl, _, _, rfl, rfl, a, _, _, .int v1, rfl, rfl, s4.tup ha, a3, _, rfl, sp, _, _, .int S1, rfl, rfl, SqL.of l4, rfl, _, _, rfl, rfl, _, rfl, sp, _, _, 1, rfl, rfl, l4, rfl, ?_⟩
        have s5 : Same H (upd H4 sp (.lst [.int S0, .int (v1 - S1)])) := same_upd s4 hsp
        have l5 : upd H4 sp (.lst [.int S0, .int (v1 - S1)]) sp = some (.lst [.int S0, .int (v1 - S1)]) := upd_same
        have eB : hB u1 u2 v1 d0 d1 = v1 - S1 := by
          unfold hB
          rw [if_pos cv, eBB]
        refine ⟨_, rfl, rfl, _, rfl, ?_⟩
        by_cases cx : x1 = x2
        · have eA1 : A = 1 := by rw [← eA, if_pos (by rw [cx]; exact decide_eq_true rfl)]
          obtain ⟨z1, z2, z3⟩ := hx1 cx
          refine ite2 (fun _ => ?_) (fun c => absurd (by rw [eA1]; exact decide_eq_true rfl) c)
          refine ⟨_, rfl, sp, _, _, rfl, SqL.of l5, fun sp2 hsp2 => ?_⟩
          have s9 := (s5).trans (new_same (o := .lst [.int (v1 - S1), .int S0]) hsp2)
          have l9 : upd (upd H4 sp (.lst [.int S0, .int (v1 - S1)])) sp2 (.lst [.int (v1 - S1), .int S0]) sp2 = some (.lst [.int (v1 - S1), .int S0]) := upd_same
          have epx : hpx x1 y1 x2 y2 d0 d1 = (v1 - S1) := by
            unfold hpx
            rw [if_pos cx, ← z1, ← z2, ← z3]
            exact eB
          have epy : hpy x1 y1 x2 y2 d0 d1 = S0 := by
            unfold hpy
            rw [if_pos cx, ← z1, ← z2]
            exact eAA
          rw [epx, epy] at q
          dsimp only [gName, tNext, tSeq, tIfS, tOr, tNot]
          refine chain_rx (i := 0) (x := (v1 - S1)) (y := wd) (k := 0) ?_ ?_ ?_
          · exact fun Q' h => ⟨_, rfl, sp2, _, _, .int (v1 - S1), rfl, rfl, SqL.of l9, rfl, h⟩
          · rfl
          refine ite2 (fun b1 => ?_) (fun b1 => ?_)
          · rw [if_neg (fun z => by unfold gpOk at z; rw [Bool.and_eq_true, Bool.and_eq_true] at z; rw [z.1.1] at b1; cases b1)] at q
            exact q _ s9
          · have b1' := Bool.not_eq_true _ |>.mp b1
            rw [Bool.not_eq_false'] at b1'
            refine chain_rx (i := 0) (x := S0) (y := hg) (k := 1) ?_ ?_ ?_
            · exact fun Q' h => ⟨_, rfl, sp2, _, _, .int S0, rfl, rfl, SqL.of l9, rfl, h⟩
            · rfl
            refine ite2 (fun b2 => ?_) (fun b2 => ?_)
            · rw [if_neg (fun z => by unfold gpOk at z; rw [Bool.and_eq_true, Bool.and_eq_true] at z; rw [z.1.2] at b2; cases b2)] at q
              exact q _ s9
            · have b2' := Bool.not_eq_true _ |>.mp b2
              rw [Bool.not_eq_false'] at b2'
              refine ⟨_, rfl, _, rfl, a, sp2, x1, y1, (v1 - S1), S0, rfl, (s9).tup ha, .inr (SqL.of l9), ?_⟩
              refine ⟨_, rfl, _, rfl, b, sp2, x2, y2, (v1 - S1), S0, rfl, (s9).tup hb, .inr (SqL.of l9), ?_⟩
              refine ⟨(by show 2 ≤ sizeLine; decide), fun li hli => ?_⟩
              refine ⟨_, rfl, li, t, [_, _], [d0, d1], rfl, rfl, SqL.of upd_same, (new_same hli).seq ((s9).seq ht), _, rfl, ?_⟩
              refine ite2 (fun b3 => ?_) (fun b3 => ?_)
              · rw [if_neg (fun z => by unfold gpOk at z; rw [Bool.and_eq_true] at z; rw [z.2] at b3; cases b3)] at q
                exact q _ ((s9).trans (new_same hli))
              · have b3' := Bool.not_eq_true _ |>.mp b3
                rw [Bool.not_eq_false'] at b3'
                rw [if_pos (by unfold gpOk; rw [b1', b2', b3']; rfl)] at q
                exact ⟨_, rfl, sp2, _, rfl, .inl ⟨SqL.of (new_same hli _ _ l9), fun r hr' => q _ r (((s9).trans (new_same hli)).trans (new_same hr')) upd_same⟩⟩
        · have eA1 : A = 0 := by rw [← eA, if_neg (fun z => cx (V.int.inj (of_decide_eq_true z)))]
          obtain ⟨z1, z2, z3⟩ := hx0 cx
          refine ite2 (fun c => absurd (of_decide_eq_true c) (by rw [eA1]; intro z; cases z)) (fun _ => ?_)
          have epx : hpx x1 y1 x2 y2 d0 d1 = S0 := by
            unfold hpx
            rw [if_neg cx, ← z1, ← z2]
            exact eAA
          have epy : hpy x1 y1 x2 y2 d0 d1 = (v1 - S1) := by
            unfold hpy
            rw [if_neg cx, ← z1, ← z2, ← z3]
            exact eB
          rw [epx, epy] at q
          dsimp only [gName, tNext, tSeq, tIfS, tOr, tNot]
          refine chain_rx (i := 0) (x := S0) (y := wd) (k := 0) ?_ ?_ ?_
          · exact fun Q' h => ⟨_, rfl, sp, _, _, .int S0, rfl, rfl, SqL.of l5, rfl, h⟩
          · rfl
          refine ite2 (fun b1 => ?_) (fun b1 => ?_)
          · rw [if_neg (fun z => by unfold gpOk at z; rw [Bool.and_eq_true, Bool.and_eq_true] at z; rw [z.1.1] at b1; cases b1)] at q
            exact q _ s5
          · have b1' := Bool.not_eq_true _ |>.mp b1
            rw [Bool.not_eq_false'] at b1'
            refine chain_rx (i := 0) (x := (v1 - S1)) (y := hg) (k := 1) ?_ ?_ ?_
            · exact fun Q' h => ⟨_, rfl, sp, _, _, .int (v1 - S1), rfl, rfl, SqL.of l5, rfl, h⟩
            · rfl
            refine ite2 (fun b2 => ?_) (fun b2 => ?_)
            · rw [if_neg (fun z => by unfold gpOk at z; rw [Bool.and_eq_true, Bool.and_eq_true] at z; rw [z.1.2] at b2; cases b2)] at q
              exact q _ s5
            · have b2' := Bool.not_eq_true _ |>.mp b2
              rw [Bool.not_eq_false'] at b2'
              refine ⟨_, rfl, _, rfl, a, sp, x1, y1, S0, (v1 - S1), rfl, (s5).tup ha, .inr (SqL.of l5), ?_⟩
              refine ⟨_, rfl, _, rfl, b, sp, x2, y2, S0, (v1 - S1), rfl, (s5).tup hb, .inr (SqL.of l5), ?_⟩
              refine ⟨(by show 2 ≤ sizeLine; decide), fun li hli => ?_⟩
              refine ⟨_, rfl, li, t, [_, _], [d0, d1], rfl, rfl, SqL.of upd_same, (new_same hli).seq ((s5).seq ht), _, rfl, ?_⟩
              refine ite2 (fun b3 => ?_) (fun b3 => ?_)
              · rw [if_neg (fun z => by unfold gpOk at z; rw [Bool.and_eq_true] at z; rw [z.2] at b3; cases b3)] at q
                exact q _ ((s5).trans (new_same hli))
              · have b3' := Bool.not_eq_true _ |>.mp b3
                rw [Bool.not_eq_false'] at b3'
                rw [if_pos (by unfold gpOk; rw [b1', b2', b3']; rfl)] at q
                exact ⟨_, rfl, sp, _, rfl, .inl ⟨SqL.of (new_same hli _ _ l5), fun r hr' => q _ r (((s5).trans (new_same hli)).trans (new_same hr')) upd_same⟩⟩
      · have cv : ¬ 0 < v1 := fun z => c (decide_eq_true z)
        have eB : hB u1 u2 v1 d0 d1 = S1 := by
          unfold hB
          rw [if_neg cv, eBB]
        refine ⟨_, rfl, rfl, _, rfl, ?_⟩
        by_cases cx : x1 = x2
        · have eA1 : A = 1 := by rw [← eA, if_pos (by rw [cx]; exact decide_eq_true rfl)]
          obtain ⟨z1, z2, z3⟩ := hx1 cx
          refine ite2 (fun _ => ?_) (fun c => absurd (by rw [eA1]; exact decide_eq_true rfl) c)
          refine ⟨_, rfl, sp, _, _, rfl, SqL.of l4, fun sp2 hsp2 => ?_⟩
          have s9 := (s4).trans (new_same (o := .lst [.int S1, .int S0]) hsp2)
          have l9 : upd H4 sp2 (.lst [.int S1, .int S0]) sp2 = some (.lst [.int S1, .int S0]) := upd_same
          have epx : hpx x1 y1 x2 y2 d0 d1 = S1 := by
            unfold hpx
            rw [if_pos cx, ← z1, ← z2, ← z3]
            exact eB
          have epy : hpy x1 y1 x2 y2 d0 d1 = S0 := by
            unfold hpy
            rw [if_pos cx, ← z1, ← z2]
            exact eAA
          rw [epx, epy] at q
          dsimp only [gName, tNext, tSeq, tIfS, tOr, tNot]
          refine chain_rx (i := 0) (x := S1) (y := wd) (k := 0) ?_ ?_ ?_
          · exact fun Q' h => ⟨_, rfl, sp2, _, _, .int S1, rfl, rfl, SqL.of l9, rfl, h⟩
          · rfl
          refine ite2 (fun b1 => ?_) (fun b1 => ?_)
          · rw [if_neg (fun z => by unfold gpOk at z; rw [Bool.and_eq_true, Bool.and_eq_true] at z; rw [z.1.1] at b1; cases b1)] at q
            exact q _ s9
          · have b1' := Bool.not_eq_true _ |>.mp b1
            rw [Bool.not_eq_false'] at b1'
            refine chain_rx (i := 0) (x := S0) (y := hg) (k := 1) ?_ ?_ ?_
            · exact fun Q' h => ⟨_, rfl, sp2, _, _, .int S0, rfl, rfl, SqL.of l9, rfl, h⟩
            · rfl
            refine ite2 (fun b2 => ?_) (fun b2 => ?_)
            · rw [if_neg (fun z => by unfold gpOk at z; rw [Bool.and_eq_true, Bool.and_eq_true] at z; rw [z.1.2] at b2; cases b2)] at q
              exact q _ s9
            · have b2' := Bool.not_eq_true _ |>.mp b2
              rw [Bool.not_eq_false'] at b2'
              refine ⟨_, rfl, _, rfl, a, sp2, x1, y1, S1, S0, rfl, (s9).tup ha, .inr (SqL.of l9), ?_⟩
              refine ⟨_, rfl, _, rfl, b, sp2, x2, y2, S1, S0, rfl, (s9).tup hb, .inr (SqL.of l9), ?_⟩
              refine ⟨(by show 2 ≤ sizeLine; decide), fun li hli => ?_⟩
              refine ⟨_, rfl, li, t, [_, _], [d0, d1], rfl, rfl, SqL.of upd_same, (new_same hli).seq ((s9).seq ht), _, rfl, ?_⟩
              refine ite2 (fun b3 => ?_) (fun b3 => ?_)
              · rw [if_neg (fun z => by unfold gpOk at z; rw [Bool.and_eq_true] at z; rw [z.2] at b3; cases b3)] at q
                exact q _ ((s9).trans (new_same hli))
              · have b3' := Bool.not_eq_true _ |>.mp b3
                rw [Bool.not_eq_false'] at b3'
                rw [if_pos (by unfold gpOk; rw [b1', b2', b3']; rfl)] at q
                exact ⟨_, rfl, sp2, _, rfl, .inl ⟨SqL.of (new_same hli _ _ l9), fun r hr' => q _ r (((s9).trans (new_same hli)).trans (new_same hr')) upd_same⟩⟩
        · have eA1 : A = 0 := by rw [← eA, if_neg (fun z => cx (V.int.inj (of_decide_eq_true z)))]
          obtain ⟨z1, z2, z3⟩ := hx0 cx
          refine ite2 (fun c => absurd (of_decide_eq_true c) (by rw [eA1]; intro z; cases z)) (fun _ => ?_)
          have epx : hpx x1 y1 x2 y2 d0 d1 = S0 := by
            unfold hpx
            rw [if_neg cx, ← z1, ← z2]
            exact eAA
          have epy : hpy x1 y1 x2 y2 d0 d1 = S1 := by
            unfold hpy
            rw [if_neg cx, ← z1, ← z2, ← z3]
            exact eB
          rw [epx, epy] at q
          dsimp only [gName, tNext, tSeq, tIfS, tOr, tNot]
          refine chain_rx (i := 0) (x := S0) (y := wd) (k := 0) ?_ ?_ ?_
          · exact fun Q' h => ⟨_, rfl, sp, _, _, .int S0, rfl, rfl, SqL.of l4, rfl, h⟩
          · rfl
          refine ite2 (fun b1 => ?_) (fun b1 => ?_)
          · rw [if_neg (fun z => by unfold gpOk at z; rw [Bool.and_eq_true, Bool.and_eq_true] at z; rw [z.1.1] at b1; cases b1)] at q
            exact q _ s4
          · have b1' := Bool.not_eq_true _ |>.mp b1
            rw [Bool.not_eq_false'] at b1'
            refine chain_rx (i := 0) (x := S1) (y := hg) (k := 1) ?_ ?_ ?_
            · exact fun Q' h => ⟨_, rfl, sp, _, _, .int S1, rfl, rfl, SqL.of l4, rfl, h⟩
            · rfl
            refine ite2 (fun b2 => ?_) (fun b2 => ?_)
            · rw [if_neg (fun z => by unfold gpOk at z; rw [Bool.and_eq_true, Bool.and_eq_true] at z; rw [z.1.2] at b2; cases b2)] at q
              exact q _ s4
            · have b2' := Bool.not_eq_true _ |>.mp b2
              rw [Bool.not_eq_false'] at b2'
              refine ⟨_, rfl, _, rfl, a, sp, x1, y1, S0, S1, rfl, (s4).tup ha, .inr (SqL.of l4), ?_⟩
              refine ⟨_, rfl, _, rfl, b, sp, x2, y2, S0, S1, rfl, (s4).tup hb, .inr (SqL.of l4), ?_⟩
              refine ⟨(by show 2 ≤ sizeLine; decide), fun li hli => ?_⟩
              refine ⟨_, rfl, li, t, [_, _], [d0, d1], rfl, rfl, SqL.of upd_same, (new_same hli).seq ((s4).seq ht), _, rfl, ?_⟩
              refine ite2 (fun b3 => ?_) (fun b3 => ?_)
              · rw [if_neg (fun z => by unfold gpOk at z; rw [Bool.and_eq_true] at z; rw [z.2] at b3; cases b3)] at q
                exact q _ ((s4).trans (new_same hli))
              · have b3' := Bool.not_eq_true _ |>.mp b3
                rw [Bool.not_eq_false'] at b3'
                rw [if_pos (by unfold gpOk; rw [b1', b2', b3']; rfl)] at q
                exact ⟨_, rfl, sp, _, rfl, .inl ⟨SqL.of (new_same hli _ _ l4), fun r hr' => q _ r (((s4).trans (new_same hli)).trans (new_same hr')) upd_same⟩⟩
    · have csw : (u2 < u1) = False := eq_false (fun z => c (decide_eq_true z))
      refine ⟨_, rfl, _, rfl, a, _, _, .int u1, rfl, rfl, ha, a1, _, rfl, _, rfl, b, _, _, .int u2, rfl, rfl, hb, a2, u1, u2, rfl, ?_⟩
      refine ⟨_, rfl, _, rfl, _, _, rfl, rfl, _, rfl, _, _, rfl, rfl, _, _, rfl, rfl, ⟨by decide, by decide⟩, _, rfl, _, rfl, _, _, rfl, rfl, _, rfl, _, _, rfl, rfl, _, _, rfl, rfl, ⟨by decide, by decide⟩, (by show 2 ≤ sizeLine; decide), fun sp hsp => ?_⟩
      dsimp only
      have eAA : hA u1 u2 d0 d1 = (d0 - d1 + (if u2 > u1 then u2 else u1)) / 2 := by
        unfold hA
        simp only [csw, if_true, if_false]
      have eBB : (d0 + d1 - (if u2 > u1 then u2 else u1)) / 2 = ((if u2 < u1 then d1 else d0) + (if u2 < u1 then d0 else d1) - (if u2 > u1 then u2 else u1)) / 2 := by
        simp only [csw, if_true, if_false]
      generalize (d0 - d1 + (if u2 > u1 then u2 else u1)) / 2 = S0 at eAA ⊢
      generalize (d0 + d1 - (if u2 > u1 then u2 else u1)) / 2 = S1 at eBB ⊢
      have s4 := new_same (o := .lst [.int S0, .int S1]) hsp
      have l4 : upd H sp (.lst [.int S0, .int S1]) sp = some (.lst [.int S0, .int S1]) := upd_same
      generalize upd H sp (.lst [.int S0, .int S1]) = H4 at s4 l4 ⊢
      refine ⟨_, rfl, _, rfl, _, _, rfl, rfl, a, _, _, .int v1, rfl, rfl, s4.tup ha, a3, _, _, rfl, rfl, _, rfl, ?_⟩
      refine ite2 (fun c => ?_) (fun c => ?_)
      · have cv : 0 < v1 := of_decide_eq_true c
        refine ⟨_, rfl, _, rfl, _, _, rfl, rfl, a, _, _, .int v1, rfl, rfl, s4.tup ha, a3, _, rfl, sp, _, _, .int S1, rfl, rfl, SqL.of l4, rfl, _, _, rfl, rfl, _, rfl, sp, _, _, 1, rfl, rfl, l4, rfl, ?_⟩
        have s5 : Same H (upd H4 sp (.lst [.int S0, .int (v1 - S1)])) := same_upd s4 hsp
        have l5 : upd H4 sp (.lst [.int S0, .int (v1 - S1)]) sp = some (.lst [.int S0, .int (v1 - S1)]) := upd_same
        have eB : hB u1 u2 v1 d0 d1 = v1 - S1 := by
          unfold hB
          rw [if_pos cv, eBB]
        refine ⟨_, rfl, rfl, _, rfl, ?_⟩
        by_cases cx : x1 = x2
        · have eA1 : A = 1 := by rw [← eA, if_pos (by rw [cx]; exact decide_eq_true rfl)]
          obtain ⟨z1, z2, z3⟩ := hx1 cx
          refine ite2 (fun _ => ?_) (fun c => absurd (by rw [eA1]; exact decide_eq_true rfl) c)
          refine ⟨_, rfl, sp, _, _, rfl, SqL.of l5, fun sp2 hsp2 => ?_⟩
          have s9 := (s5).trans (new_same (o := .lst [.int (v1 - S1), .int S0]) hsp2)
          have l9 : upd (upd H4 sp (.lst [.int S0, .int (v1 - S1)])) sp2 (.lst [.int (v1 - S1), .int S0]) sp2 = some (.lst [.int (v1 - S1), .int S0]) := upd_same
          have epx : hpx x1 y1 x2 y2 d0 d1 = (v1 - S1) := by
            unfold hpx
            rw [if_pos cx, ← z1, ← z2, ← z3]
            exact eB
          have epy : hpy x1 y1 x2 y2 d0 d1 = S0 := by
            unfold hpy
            rw [if_pos cx, ← z1, ← z2]
            exact eAA
          rw [epx, epy] at q
          dsimp only [gName, tNext, tSeq, tIfS, tOr, tNot]
          refine chain_rx (i := 0) (x := (v1 - S1)) (y := wd) (k := 0) ?_ ?_ ?_
          · exact fun Q' h => ⟨_, rfl, sp2, _, _, .int (v1 - S1), rfl, rfl, SqL.of l9, rfl, h⟩
          · rfl
          refine ite2 (fun b1 => ?_) (fun b1 => ?_)
          · rw [if_neg (fun z => by unfold gpOk at z; rw [Bool.and_eq_true, Bool.and_eq_true] at z; rw [z.1.1] at b1; cases b1)] at q
            exact q _ s9
          · have b1' := Bool.not_eq_true _ |>.mp b1
            rw [Bool.not_eq_false'] at b1'
            refine chain_rx (i := 0) (x := S0) (y := hg) (k := 1) ?_ ?_ ?_
            · exact fun Q' h => ⟨_, rfl, sp2, _, _, .int S0, rfl, rfl, SqL.of l9, rfl, h⟩
            · rfl
            refine ite2 (fun b2 => ?_) (fun b2 => ?_)
            · rw [if_neg (fun z => by unfold gpOk at z; rw [Bool.and_eq_true, Bool.and_eq_true] at z; rw [z.1.2] at b2; cases b2)] at q
              exact q _ s9
            · have b2' := Bool.not_eq_true _ |>.mp b2
              rw [Bool.not_eq_false'] at b2'
              refine ⟨_, rfl, _, rfl, a, sp2, x1, y1, (v1 - S1), S0, rfl, (s9).tup ha, .inr (SqL.of l9), ?_⟩
              refine ⟨_, rfl, _, rfl, b, sp2, x2, y2, (v1 - S1), S0, rfl, (s9).tup hb, .inr (SqL.of l9), ?_⟩
              refine ⟨(by show 2 ≤ sizeLine; decide), fun li hli => ?_⟩
              refine ⟨_, rfl, li, t, [_, _], [d0, d1], rfl, rfl, SqL.of upd_same, (new_same hli).seq ((s9).seq ht), _, rfl, ?_⟩
              refine ite2 (fun b3 => ?_) (fun b3 => ?_)
              · rw [if_neg (fun z => by unfold gpOk at z; rw [Bool.and_eq_true] at z; rw [z.2] at b3; cases b3)] at q
                exact q _ ((s9).trans (new_same hli))
              · have b3' := Bool.not_eq_true _ |>.mp b3
                rw [Bool.not_eq_false'] at b3'
                rw [if_pos (by unfold gpOk; rw [b1', b2', b3']; rfl)] at q
                exact ⟨_, rfl, sp2, _, rfl, .inl ⟨SqL.of (new_same hli _ _ l9), fun r hr' => q _ r (((s9).trans (new_same hli)).trans (new_same hr')) upd_same⟩⟩
        · have eA1 : A = 0 := by rw [← eA, if_neg (fun z => cx (V.int.inj (of_decide_eq_true z)))]
          obtain ⟨z1, z2, z3⟩ := hx0 cx
          refine ite2 (fun c => absurd (of_decide_eq_true c) (by rw [eA1]; intro z; cases z)) (fun _ => ?_)
          have epx : hpx x1 y1 x2 y2 d0 d1 = S0 := by
            unfold hpx
            rw [if_neg cx, ← z1, ← z2]
            exact eAA
          have epy : hpy x1 y1 x2 y2 d0 d1 = (v1 - S1) := by
            unfold hpy
            rw [if_neg cx, ← z1, ← z2, ← z3]
            exact eB
          rw [epx, epy] at q
          dsimp only [gName, tNext, tSeq, tIfS, tOr, tNot]
          refine chain_rx (i := 0) (x := S0) (y := wd) (k := 0) ?_ ?_ ?_
          · exact fun Q' h => ⟨_, rfl, sp, _, _, .int S0, rfl, rfl, SqL.of l5, rfl, h⟩
          · rfl
          refine ite2 (fun b1 => ?_) (fun b1 => ?_)
          · rw [if_neg (fun z => by unfold gpOk at z; rw [Bool.and_eq_true, Bool.and_eq_true] at z; rw [z.1.1] at b1; cases b1)] at q
            exact q _ s5
          · have b1' := Bool.not_eq_true _ |>.mp b1
            rw [Bool.not_eq_false'] at b1'
            refine chain_rx (i := 0) (x := (v1 - S1)) (y := hg) (k := 1) ?_ ?_ ?_
            · exact fun Q' h => ⟨_, rfl, sp, _, _, .int (v1 - S1), rfl, rfl, SqL.of l5, rfl, h⟩
            · rfl
            refine ite2 (fun b2 => ?_) (fun b2 => ?_)
            · rw [if_neg (fun z => by unfold gpOk at z; rw [Bool.and_eq_true, Bool.and_eq_true] at z; rw [z.1.2] at b2; cases b2)] at q
              exact q _ s5
            · have b2' := Bool.not_eq_true _ |>.mp b2
              rw [Bool.not_eq_false'] at b2'
              refine ⟨_, rfl, _, rfl, a, sp, x1, y1, S0, (v1 - S1), rfl, (s5).tup ha, .inr (SqL.of l5), ?_⟩
              refine ⟨_, rfl, _, rfl, b, sp, x2, y2, S0, (v1 - S1), rfl, (s5).tup hb, .inr (SqL.of l5), ?_⟩
              refine ⟨(by show 2 ≤ sizeLine; decide), fun li hli => ?_⟩
              refine ⟨_, rfl, li, t, [_, _], [d0, d1], rfl, rfl, SqL.of upd_same, (new_same hli).seq ((s5).seq ht), _, rfl, ?_⟩
              refine ite2 (fun b3 => ?_) (fun b3 => ?_)
              · rw [if_neg (fun z => by unfold gpOk at z; rw [Bool.and_eq_true] at z; rw [z.2] at b3; cases b3)] at q
                exact q _ ((s5).trans (new_same hli))
              · have b3' := Bool.not_eq_true _ |>.mp b3
                rw [Bool.not_eq_false'] at b3'
                rw [if_pos (by unfold gpOk; rw [b1', b2', b3']; rfl)] at q
                exact ⟨_, rfl, sp, _, rfl, .inl ⟨SqL.of (new_same hli _ _ l5), fun r hr' => q _ r (((s5).trans (new_same hli)).trans (new_same hr')) upd_same⟩⟩
      · have cv : ¬ 0 < v1 := fun z => c (decide_eq_true z)
        have eB : hB u1 u2 v1 d0 d1 = S1 := by
          unfold hB
          rw [if_neg cv, eBB]
        refine ⟨_, rfl, rfl, _, rfl, ?_⟩
        by_cases cx : x1 = x2
        · have eA1 : A = 1 := by rw [← eA, if_pos (by rw [cx]; exact decide_eq_true rfl)]
          obtain ⟨z1, z2, z3⟩ := hx1 cx
          refine ite2 (fun _ => ?_) (fun c => absurd (by rw [eA1]; exact decide_eq_true rfl) c)
          refine ⟨_, rfl, sp, _, _, rfl, SqL.of l4, fun sp2 hsp2 => ?_⟩
          have s9 := (s4).trans (new_same (o := .lst [.int S1, .int S0]) hsp2)
          have l9 : upd H4 sp2 (.lst [.int S1, .int S0]) sp2 = some (.lst [.int S1, .int S0]) := upd_same
          have epx : hpx x1 y1 x2 y2 d0 d1 = S1 := by
            unfold hpx
            rw [if_pos cx, ← z1, ← z2, ← z3]
            exact eB
          have epy : hpy x1 y1 x2 y2 d0 d1 = S0 := by
            unfold hpy
            rw [if_pos cx, ← z1, ← z2]
            exact eAA
          rw [epx, epy] at q
          dsimp only [gName, tNext, tSeq, tIfS, tOr, tNot]
          refine chain_rx (i := 0) (x := S1) (y := wd) (k := 0) ?_ ?_ ?_
          · exact fun Q' h => ⟨_, rfl, sp2, _, _, .int S1, rfl, rfl, SqL.of l9, rfl, h⟩
          · rfl
          refine ite2 (fun b1 => ?_) (fun b1 => ?_)
          · rw [if_neg (fun z => by unfold gpOk at z; rw [Bool.and_eq_true, Bool.and_eq_true] at z; rw [z.1.1] at b1; cases b1)] at q
            exact q _ s9
          · have b1' := Bool.not_eq_true _ |>.mp b1
            rw [Bool.not_eq_false'] at b1'
            refine chain_rx (i := 0) (x := S0) (y := hg) (k := 1) ?_ ?_ ?_
            · exact fun Q' h => ⟨_, rfl, sp2, _, _, .int S0, rfl, rfl, SqL.of l9, rfl, h⟩
            · rfl
            refine ite2 (fun b2 => ?_) (fun b2 => ?_)
            · rw [if_neg (fun z => by unfold gpOk at z; rw [Bool.and_eq_true, Bool.and_eq_true] at z; rw [z.1.2] at b2; cases b2)] at q
              exact q _ s9
            · have b2' := Bool.not_eq_true _ |>.mp b2
              rw [Bool.not_eq_false'] at b2'
              refine ⟨_, rfl, _, rfl, a, sp2, x1, y1, S1, S0, rfl, (s9).tup ha, .inr (SqL.of l9), ?_⟩
              refine ⟨_, rfl, _, rfl, b, sp2, x2, y2, S1, S0, rfl, (s9).tup hb, .inr (SqL.of l9), ?_⟩
              refine ⟨(by show 2 ≤ sizeLine; decide), fun li hli => ?_⟩
              refine ⟨_, rfl, li, t, [_, _], [d0, d1], rfl, rfl, SqL.of upd_same, (new_same hli).seq ((s9).seq ht), _, rfl, ?_⟩
              refine ite2 (fun b3 => ?_) (fun b3 => ?_)
              · rw [if_neg (fun z => by unfold gpOk at z; rw [Bool.and_eq_true] at z; rw [z.2] at b3; cases b3)] at q
                exact q _ ((s9).trans (new_same hli))
              · have b3' := Bool.not_eq_true _ |>.mp b3
                rw [Bool.not_eq_false'] at b3'
                rw [if_pos (by unfold gpOk; rw [b1', b2', b3']; rfl)] at q
                exact ⟨_, rfl, sp2, _, rfl, .inl ⟨SqL.of (new_same hli _ _ l9), fun r hr' => q _ r (((s9).trans (new_same hli)).trans (new_same hr')) upd_same⟩⟩
        · have eA1 : A = 0 := by rw [← eA, if_neg (fun z => cx (V.int.inj (of_decide_eq_true z)))]
          obtain ⟨z1, z2, z3⟩ := hx0 cx
          refine ite2 (fun c => absurd (of_decide_eq_true c) (by rw [eA1]; intro z; cases z)) (fun _ => ?_)
          have epx : hpx x1 y1 x2 y2 d0 d1 = S0 := by
            unfold hpx
            rw [if_neg cx, ← z1, ← z2]
            exact eAA
          have epy : hpy x1 y1 x2 y2 d0 d1 = S1 := by
            unfold hpy
            rw [if_neg cx, ← z1, ← z2, ← z3]
            exact eB
          rw [epx, epy] at q
          dsimp only [gName, tNext, tSeq, tIfS, tOr, tNot]
          refine chain_rx (i := 0) (x := S0) (y := wd) (k := 0) ?_ ?_ ?_
          · exact fun Q' h => ⟨_, rfl, sp, _, _, .int S0, rfl, rfl, SqL.of l4, rfl, h⟩
          · rfl
          refine ite2 (fun b1 => ?_) (fun b1 => ?_)
          · rw [if_neg (fun z => by unfold gpOk at z; rw [Bool.and_eq_true, Bool.and_eq_true] at z; rw [z.1.1] at b1; cases b1)] at q
            exact q _ s4
          · have b1' := Bool.not_eq_true _ |>.mp b1
            rw [Bool.not_eq_false'] at b1'
            refine chain_rx (i := 0) (x := S1) (y := hg) (k := 1) ?_ ?_ ?_
            · exact fun Q' h => ⟨_, rfl, sp, _, _, .int S1, rfl, rfl, SqL.of l4, rfl, h⟩
            · rfl
            refine ite2 (fun b2 => ?_) (fun b2 => ?_)
            · rw [if_neg (fun z => by unfold gpOk at z; rw [Bool.and_eq_true, Bool.and_eq_true] at z; rw [z.1.2] at b2; cases b2)] at q
              exact q _ s4
            · have b2' := Bool.not_eq_true _ |>.mp b2
              rw [Bool.not_eq_false'] at b2'
              refine ⟨_, rfl, _, rfl, a, sp, x1, y1, S0, S1, rfl, (s4).tup ha, .inr (SqL.of l4), ?_⟩
              refine ⟨_, rfl, _, rfl, b, sp, x2, y2, S0, S1, rfl, (s4).tup hb, .inr (SqL.of l4), ?_⟩
              refine ⟨(by show 2 ≤ sizeLine; decide), fun li hli => ?_⟩
              refine ⟨_, rfl, li, t, [_, _], [d0, d1], rfl, rfl, SqL.of upd_same, (new_same hli).seq ((s4).seq ht), _, rfl, ?_⟩
              refine ite2 (fun b3 => ?_) (fun b3 => ?_)
              · rw [if_neg (fun z => by unfold gpOk at z; rw [Bool.and_eq_true] at z; rw [z.2] at b3; cases b3)] at q
                exact q _ ((s4).trans (new_same hli))
              · have b3' := Bool.not_eq_true _ |>.mp b3
                rw [Bool.not_eq_false'] at b3'
                rw [if_pos (by unfold gpOk; rw [b1', b2', b3']; rfl)] at q
                exact ⟨_, rfl, sp, _, rfl, .inl ⟨SqL.of (new_same hli _ _ l4), fun r hr' => q _ r (((s4).trans (new_same hli)).trans (new_same hr')) upd_same⟩⟩
end
end K33

namespace K33
open PySem L2 PySem.W
theorem m_add {m a : Int} (hm : 1 < m) : (a + 1) % m = if a % m + 1 = m then 0 else a % m + 1 := by
  have h0 := Int.emod_nonneg a (show m ≠ 0 by omega)
  have h1 := Int.emod_lt_of_pos a (show 0 < m by omega)
  have e1 : (1 : Int) % m = 1 := Int.emod_eq_of_lt (by omega) hm
  rw [Int.add_emod, e1]
  split
  · next h => rw [h, Int.emod_self]
  · exact Int.emod_eq_of_lt (by omega) (by omega)
/-- how far a thing is from a look -/
def fr (d : Bool) (m l x : Int) : Int := if d then tf m l x else rf m l x
def ee (d : Bool) : Int := if d then 1 else 0
theorem fr_eq {d : Bool} {m l x : Int} (hm : 1 < m) : fr d m l x = if m - ee d - (x - l) % m < (x - l) % m then m - ee d - (x - l) % m else (x - l) % m := by
  have h0 := Int.emod_nonneg (x - l) (show m ≠ 0 by omega)
  have h1 := Int.emod_lt_of_pos (x - l) (show 0 < m by omega)
  cases d with
  | false =>
    show rf m l x = _
    unfold rf ee
    simp
  | true =>
    show tf m l x = _
    have e : (x + 1 - l) % m = if (x - l) % m + 1 = m then 0 else (x - l) % m + 1 := by
      rw [← m_add hm]
      congr 1
      omega
    unfold tf mn rf ee
    rw [e]
    generalize (x - l) % m = u at *
    simp only [if_true]
    split <;> split <;> split <;> split <;> omega
theorem mod_of {m x k : Int} (h0 : 0 ≤ x) (h1 : x < m) : (x + m * k) % m = x := by
  rw [Int.add_mul_emod_self_left]
  exact Int.emod_eq_of_lt h0 h1
theorem by_mod (m z : Int) : ∃ q, z = m * q + z % m := ⟨z / m, by have := Int.mul_ediv_add_emod z m; omega⟩
theorem cand_of {d : Bool} {m l x t : Int} (hm : 1 < m) (x0 : 0 ≤ x) (x1 : x < m) (h : fr d m l x = t) : x = (l + t) % m ∨ x = (l - t - ee d) % m := by
  rw [fr_eq hm] at h
  obtain ⟨q, hq⟩ := by_mod m (x - l)
  generalize (x - l) % m = u at *
  split at h
  · right
    rw [show l - t - ee d = x + m * (-q - 1) by rw [Int.mul_sub, Int.mul_neg]; omega]
    exact (mod_of x0 x1).symm
  · left
    rw [show l + t = x + m * (-q) by rw [Int.mul_neg]; omega]
    exact (mod_of x0 x1).symm
theorem refl_of {d : Bool} {m l x y : Int} (hm : 1 < m) (x0 : 0 ≤ x) (x1 : x < m) (y0 : 0 ≤ y) (y1 : y < m) (h : fr d m l x = fr d m l y) : x = y ∨ ∃ k, x + y - 2 * l + ee d = m * k := by
  rw [fr_eq hm, fr_eq hm] at h
  obtain ⟨q, hq⟩ := by_mod m (x - l)
  obtain ⟨r, hr⟩ := by_mod m (y - l)
  generalize (x - l) % m = u at *
  generalize (y - l) % m = v at *
  have c : u = v ∨ u + v = m - ee d := by
    split at h <;> split at h <;> omega
  rcases c with c | c
  · left
    have e : x = y + m * (q - r) := by rw [Int.mul_sub]; omega
    have := mod_of (k := q - r) y0 y1
    rw [← e, Int.emod_eq_of_lt x0 x1] at this
    exact this
  · right
    exact ⟨q + r + 1, by rw [Int.mul_add, Int.mul_add]; omega⟩
theorem half_of {m a b x y e k j : Int} (hm : 0 < m) (a0 : 0 ≤ a) (ab : a < b) (bm : b < m) (h1 : x + y - 2 * a + e = m * k) (h2 : x + y - 2 * b + e = m * j) : 2 * (b - a) = m := by
  have h : 2 * (b - a) = m * (k - j) := by
    have z := Int.mul_sub m k j
    omega
  have c : k - j = 1 := by
    rcases Int.lt_trichotomy (k - j) 1 with z | z | z
    · have := Int.mul_le_mul_of_nonneg_left (show k - j ≤ 0 by omega) (show 0 ≤ m by omega)
      omega
    · exact z
    · have := Int.mul_le_mul_of_nonneg_left (show 2 ≤ k - j by omega) (show 0 ≤ m by omega)
      omega
  rw [c] at h
  omega
/-- looks that tell all things of a ring -/
def Tell (m : Int) (ls : List Int) : Prop := ls.Pairwise (· < ·) ∧ (∀ x ∈ ls, 0 ≤ x ∧ x < m) ∧ 2 ≤ ls.length ∧ ¬ (ls.length = 2 ∧ 2 * (ls.getD 1 0 - ls.getD 0 0) = m)
theorem cde_at {d : Bool} {m x y : Int} {ls : List Int} (h : cde d m ls x = cde d m ls y) : ∀ l ∈ ls, fr d m l x = fr d m l y := by
  induction ls with
  | nil => exact fun l hl => (nomatch hl)
  | cons a r ih =>
    have h' : (fr d m a x :: cde d m r x) = (fr d m a y :: cde d m r y) := h
    injection h' with h1 h2
    intro l hl
    rcases List.mem_cons.mp hl with rfl | hl
    · exact h1
    · exact ih h2 l hl
theorem only_one {d : Bool} {m x y : Int} {ls : List Int} (hm : 1 < m) (T : Tell m ls) (x0 : 0 ≤ x) (x1 : x < m) (y0 : 0 ≤ y) (y1 : y < m) (h : cde d m ls x = cde d m ls y) : x = y := by
  refine Decidable.byContradiction fun ne => ?_
  have at' : ∀ l ∈ ls, ∃ k, x + y - 2 * l + ee d = m * k := fun l hl => (refl_of hm x0 x1 y0 y1 (cde_at h l hl)).resolve_left ne
  obtain ⟨pw, bd, len, nh⟩ := T
  match ls, pw, bd, len, nh, at' with
  | a :: b :: r, pw, bd, len, nh, at' =>
    have ab : a < b := (List.pairwise_cons.mp pw).1 b (by simp)
    obtain ⟨k, hk⟩ := at' a (by simp)
    obtain ⟨j, hj⟩ := at' b (by simp)
    have hb := half_of (by omega) (bd a (by simp)).1 ab (bd b (by simp)).2 hk hj
    cases r with
    | nil => exact nh ⟨rfl, hb⟩
    | cons c r =>
      have ac : a < c := (List.pairwise_cons.mp pw).1 c (by simp)
      have bc : b < c := (List.pairwise_cons.mp (List.pairwise_cons.mp pw).2).1 c (by simp)
      obtain ⟨i, hi⟩ := at' c (by simp)
      have hc := half_of (by omega) (bd a (by simp)).1 ac (bd c (by simp)).2 hk hi
      omega
theorem ring_end {d : Bool} {m l t : Int} {ls0 ts0 hs : List Int} (hm : 1 < m) (T : Tell m (ls0 ++ [l])) (lt : (ls0 ++ [l]).length = (ts0 ++ [t]).length)
    (hh : ∀ x, x ∈ hs ↔ x ∈ cnd m l t ∧ cde d m (ls0 ++ [l]) x = ts0 ++ [t]) :
    match (two d m ((ls0 ++ [l]).getD 0 0) ((ts0 ++ [t]).getD 0 0)).find? (fun c => decide (cde d m (ls0 ++ [l]) c = ts0 ++ [t])) with
    | some c => ∃ r, hs = c :: r
    | none => hs = [] := by
  have last : ∀ x, cde d m (ls0 ++ [l]) x = ts0 ++ [t] → fr d m l x = t := fun x h => by
    have e : cde d m (ls0 ++ [l]) x = cde d m ls0 x ++ [fr d m l x] := by
      unfold cde
      rw [List.map_append]
      rfl
    rw [e] at h
    have := (List.append_inj' h rfl).2
    injection this
  have first : ∀ x, cde d m (ls0 ++ [l]) x = ts0 ++ [t] → fr d m ((ls0 ++ [l]).getD 0 0) x = (ts0 ++ [t]).getD 0 0 := fun x h => by
    have e : (cde d m (ls0 ++ [l]) x).getD 0 0 = (ts0 ++ [t]).getD 0 0 := by rw [h]
    rw [← e]
    cases ls0 with
    | nil => rfl
    | cons a r => rfl
  have inC : ∀ x, 0 ≤ x → x < m → cde d m (ls0 ++ [l]) x = ts0 ++ [t] → x ∈ hs := fun x x0 x1 h => by
    refine (hh x).mpr ⟨?_, h⟩
    have c := cand_of hm x0 x1 (last x h)
    unfold cnd
    split
    · cases d with
      | false =>
        have e : ee false = 0 := rfl
        rw [e, Int.sub_zero] at c
        rcases c with c | c
        · rw [c]
          simp
        · rw [c]
          simp
      | true =>
        have e : ee true = 1 := rfl
        rw [e] at c
        rcases c with c | c
        · rw [c]
          simp
        · rw [c]
          simp
    · refine List.mem_map.mpr ⟨x.toNat, List.mem_range.mpr (by omega), ?_⟩
      rw [Int.toNat_of_nonneg x0]
      exact Int.emod_eq_of_lt x0 x1
  have bdm : ∀ z : Int, 0 ≤ z % m ∧ z % m < m := fun z => ⟨Int.emod_nonneg z (by omega), Int.emod_lt_of_pos z (by omega)⟩
  have bdC : ∀ x, x ∈ cnd m l t → 0 ≤ x ∧ x < m := fun x h => by
    unfold cnd at h
    split at h
    · simp only [List.mem_cons, List.not_mem_nil, or_false] at h
      rcases h with h | h | h <;> (rw [h]; exact bdm _)
    · obtain ⟨i, _, e⟩ := List.mem_map.mp h
      rw [← e]
      exact bdm _
  split
  · next c hc =>
    have p1 := List.find?_some hc
    have p2 := List.mem_of_find?_eq_some hc
    have e1 := of_decide_eq_true p1
    have b1 : 0 ≤ c ∧ c < m := by
      unfold two at p2
      simp only [List.mem_cons, List.not_mem_nil, or_false] at p2
      rcases p2 with h | h
      · rw [h]
        exact bdm _
      · rw [h]
        split <;> exact bdm _
    have m1 := inC c b1.1 b1.2 e1
    cases hs with
    | nil => cases m1
    | cons a r =>
      obtain ⟨h1, h2⟩ := (hh a).mp (by simp)
      obtain ⟨b2, b3⟩ := bdC a h1
      have : a = c := only_one hm T b2 b3 b1.1 b1.2 (h2.trans e1.symm)
      exact ⟨r, by rw [this]⟩
  · next hn =>
    cases hs with
    | nil => rfl
    | cons a r =>
      obtain ⟨h1, h2⟩ := (hh a).mp (by simp)
      obtain ⟨b2, b3⟩ := bdC a h1
      have c := cand_of hm b2 b3 (first a h2)
      have no := List.find?_eq_none.mp hn a (by
        unfold two
        cases d with
        | false =>
          have e : ee false = 0 := rfl
          rw [e, Int.sub_zero] at c
          rcases c with c | c
          · rw [← c]
            simp
          · rw [← c]
            simp
        | true =>
          have e : ee true = 1 := rfl
          rw [e] at c
          rcases c with c | c
          · rw [← c]
            simp
          · rw [← c]
            simp)
      exact absurd (decide_eq_true h2) no
end K33

namespace K33
open PySem L2 PySem.W
theorem ok_iff {wd hg x1 y1 x2 y2 d1 d2 x y : Int} : gpOk wd hg x1 y1 x2 y2 d1 d2 x y = true ↔ 0 ≤ x ∧ x < wd ∧ 0 ≤ y ∧ y < hg ∧ gf x1 y1 x y = d1 ∧ gf x2 y2 x y = d2 := by
  unfold gpOk
  simp only [Bool.and_eq_true, decide_eq_true_iff, List.cons.injEq, and_true]
  constructor
  · rintro ⟨⟨⟨a, b⟩, c, d⟩, e, f⟩
    exact ⟨a, b, c, d, e, f⟩
  · rintro ⟨a, b, c, d, e, f⟩
    exact ⟨⟨⟨a, b⟩, c, d⟩, e, f⟩
theorem gf_swap (x1 y1 x y : Int) : gf y1 x1 y x = gf x1 y1 x y := by
  unfold gf
  exact Int.add_comm _ _
theorem ok_swap {wd hg x1 y1 x2 y2 d1 d2 x y : Int} : gpOk hg wd y1 x1 y2 x2 d1 d2 y x = gpOk wd hg x1 y1 x2 y2 d1 d2 x y := by
  rw [Bool.eq_iff_iff, ok_iff, ok_iff, gf_swap x1 y1 x y, gf_swap x2 y2 x y]
  constructor
  · rintro ⟨a, b, c, d, e, f⟩
    exact ⟨c, d, a, b, e, f⟩
  · rintro ⟨a, b, c, d, e, f⟩
    exact ⟨c, d, a, b, e, f⟩
theorem side_swap {wd hg x1 y1 x2 y2 : Int} (s : Side wd hg x1 y1 x2 y2) : Side hg wd y1 x1 y2 x2 := by
  unfold Side at *
  omega
theorem grid_at {wd hg x1 y1 x2 y2 d1 d2 x y : Int} (s : Side wd hg x1 y1 x2 y2) (w2 : 2 ≤ wd) (h2 : 2 ≤ hg) (e : x1 = x2) (h : gpOk wd hg x1 y1 x2 y2 d1 d2 x y = true) : gpx wd hg x1 d1 d2 = x ∧ gpy hg y1 d1 d2 = y := by
  obtain ⟨a, b, c, d, e1, e2⟩ := ok_iff.mp h
  have s' : (x1 = 0 ∨ x1 = wd - 1) ∧ ((y1 = 0 ∧ y2 = hg - 1) ∨ (y1 = hg - 1 ∧ y2 = 0)) := by
    unfold Side at s
    omega
  clear s h
  obtain ⟨sx, sy⟩ := s'
  subst e
  unfold gf ab at e1 e2
  unfold gpx gpy
  rcases sx with rfl | rfl <;> rcases sy with ⟨rfl, rfl⟩ | ⟨rfl, rfl⟩ <;> (constructor <;> omega)
theorem half_at {u1 u2 v1 d1 d2 u v L M : Int} (hs : (u1 = 0 ∧ u2 = L) ∨ (u1 = L ∧ u2 = 0)) (hv : v1 = 0 ∨ v1 = M) (L1 : 1 ≤ L) (M1 : 1 ≤ M) (u0 : 0 ≤ u) (uL : u ≤ L) (v0 : 0 ≤ v) (vM : v ≤ M)
    (e1 : ab (u1 - u) + ab (v1 - v) = d1) (e2 : ab (u2 - u) + ab (v1 - v) = d2) : hA u1 u2 d1 d2 = u ∧ hB u1 u2 v1 d1 d2 = v := by
  unfold ab at e1 e2
  unfold hA hB
  rcases hs with ⟨rfl, rfl⟩ | ⟨rfl, rfl⟩ <;> rcases hv with rfl | rfl <;> (constructor <;> omega)
theorem half_is {wd hg x1 y1 x2 y2 d1 d2 x y : Int} (s : Side wd hg x1 y1 x2 y2) (w2 : 2 ≤ wd) (h2 : 2 ≤ hg) (h : gpOk wd hg x1 y1 x2 y2 d1 d2 x y = true) : hpx x1 y1 x2 y2 d1 d2 = x ∧ hpy x1 y1 x2 y2 d1 d2 = y := by
  obtain ⟨a, b, c, d, e1, e2⟩ := ok_iff.mp h
  unfold hpx hpy
  unfold gf at e1 e2
  by_cases e : x1 = x2
  · have s' : ((y1 = 0 ∧ y2 = hg - 1) ∨ (y1 = hg - 1 ∧ y2 = 0)) ∧ (x1 = 0 ∨ x1 = wd - 1) := by
      unfold Side at s
      omega
    rw [if_pos e, if_pos e]
    subst e
    have := half_at (d1 := d1) (d2 := d2) s'.1 s'.2 (by omega) (by omega) c (by omega) a (by omega) (by rw [Int.add_comm]; exact e1) (by rw [Int.add_comm]; exact e2)
    exact ⟨this.2, this.1⟩
  · have s' : ((x1 = 0 ∧ x2 = wd - 1) ∨ (x1 = wd - 1 ∧ x2 = 0)) ∧ (y1 = 0 ∨ y1 = hg - 1) ∧ y1 = y2 := by
      unfold Side at s
      omega
    rw [if_neg e, if_neg e]
    obtain ⟨q1, q2, q3⟩ := s'
    subst q3
    exact half_at q1 q2 (by omega) (by omega) a (by omega) c (by omega) e1 e2
/-- the place that grid_place looks at -/
def gqx (wd hg x1 y1 x2 d1 d2 : Int) : Int := if x1 = x2 then gpx wd hg x1 d1 d2 else gpy wd x1 d1 d2
def gqy (wd hg x1 y1 x2 d1 d2 : Int) : Int := if x1 = x2 then gpy hg y1 d1 d2 else gpx hg wd y1 d1 d2
theorem grid_is {wd hg x1 y1 x2 y2 d1 d2 x y : Int} (s : Side wd hg x1 y1 x2 y2) (w2 : 2 ≤ wd) (h2 : 2 ≤ hg) (h : gpOk wd hg x1 y1 x2 y2 d1 d2 x y = true) : gqx wd hg x1 y1 x2 d1 d2 = x ∧ gqy wd hg x1 y1 x2 d1 d2 = y := by
  unfold gqx gqy
  by_cases e : x1 = x2
  · rw [if_pos e, if_pos e]
    exact grid_at s w2 h2 e h
  · rw [if_neg e, if_neg e]
    have e' : y1 = y2 := by
      unfold Side at s
      omega
    have := grid_at (side_swap s) h2 w2 e' (by rw [ok_swap]; exact h)
    exact ⟨this.2, this.1⟩
end K33

namespace K33
open PySem L2 PySem.W PySem.SeqAt
/-! ### lists of numbers as data -/
theorem rd_ints {K : Frag} {H : Hp} : ∀ ns : List Int, RdDs K H (ns.map V.int) (ns.map PyData.int)
  | [] => .nil
  | n :: r => .cons (.int n) (rd_ints r)
theorem lay_ints : ∀ ns : List Int, PyData.canLayAll0 (ns.map PyData.int) = true
  | [] => rfl
  | n :: r => by
    show (PyData.canLay0 (.int n) && PyData.canLayAll0 (r.map PyData.int)) = true
    rw [lay_ints r]
    rfl
theorem mix_ints : ∀ ns : List Int, noMixAll (ns.map PyData.int) (ns.map PyData.int) = true
  | [] => rfl
  | n :: r => by
    show (noMix (.int n) (.int n) && noMixAll (r.map PyData.int) (r.map PyData.int)) = true
    rw [mix_ints r]
    rfl
theorem same_ints : ∀ ns : List Int, Spec.sameAll (ns.map PyData.int) (ns.map PyData.int) = true
  | [] => rfl
  | n :: r => by
    show (Spec.same (.int n) (.int n) && Spec.sameAll (r.map PyData.int) (r.map PyData.int)) = true
    rw [same_ints r, show Spec.same (.int n) (.int n) = (n == n) from rfl, beq_self_eq_true]
    rfl
theorem depth_ints : ∀ ns : List Int, PyData.depthAll (ns.map PyData.int) ≤ 1
  | [] => by
    show PyData.depthAll [] ≤ 1
    decide
  | n :: r => by
    have ih := depth_ints r
    show max (PyData.depth (.int n)) (PyData.depthAll (r.map PyData.int)) ≤ 1
    have e : PyData.depth (.int n) ≤ 1 := Nat.zero_le 1
    omega
abbrev dtwo (ns ms : List Int) : PyData := .list [.list (ns.map PyData.int), .list (ms.map PyData.int)]
theorem dtwo_shaped (ns ms : List Int) : shaped (dtwo ns ms) = true := by
  unfold shaped
  have e1 : (dtwo ns ms).canLay0 = true := by
    show (PyData.canLayAll0 (ns.map PyData.int) && (PyData.canLayAll0 (ms.map PyData.int) && true)) = true
    rw [lay_ints, lay_ints]
    rfl
  have e2 : (dtwo ns ms).depth ≤ 64 := by
    have h1 := depth_ints ns
    have h2 := depth_ints ms
    show max (PyData.depthAll (ns.map PyData.int) + 1) (max (PyData.depthAll (ms.map PyData.int) + 1) 0) + 1 ≤ 64
    omega
  rw [e1, decide_eq_true e2]
  rfl
theorem dtwo_mix (ns ms : List Int) : noMix (dtwo ns ms) (dtwo ns ms) = true := by
  show (noMixAll (ns.map PyData.int) (ns.map PyData.int) && (noMixAll (ms.map PyData.int) (ms.map PyData.int) && true)) = true
  rw [mix_ints, mix_ints]
  rfl
theorem dtwo_same (ns ms : List Int) : Spec.same (dtwo ns ms) (dtwo ns ms) = true := by
  show (Spec.sameAll (ns.map PyData.int) (ns.map PyData.int) && (Spec.sameAll (ms.map PyData.int) (ms.map PyData.int) && true)) = true
  rw [same_ints, same_ints]
  rfl
/-- a whole test of the law: it tells True -/
def spRight : Sp := fun vs H Q _ => ∃ a : Addr, vs = [.ref a] ∧ StA H a ∧ ∀ H', StA H' a → Mv a H H' → Q (.bl true) H'
theorem pick2 {r : Int} (r0 : 0 ≤ r) (r1 : r < 2) : ∃ z, atI [V.int 7, V.int ((10 : Int) ^ (60 : Int).toNat - 2)] r = some (.int z) ∧ 0 < z := by
  have : r = 0 ∨ r = 1 := by omega
  rcases this with rfl | rfl
  · exact ⟨_, rfl, by decide⟩
  · exact ⟨_, rfl, by decide⟩
theorem pickM (k : Bool) : ∃ z : Nat, atI [V.int 6, V.int 20] (if k = true then 1 else 0 : Int) = some (.int z) ∧ z ≤ 20 := by
  cases k
  · exact ⟨6, rfl, by decide⟩
  · exact ⟨20, rfl, by decide⟩
theorem same_one (c : Int) : Spec.same (.list [.int c]) (.list [.int c]) = true := by
  show ((c == c) && true) = true
  rw [beq_self_eq_true]
  rfl
theorem same_non : Spec.same (.list [.str "none"]) (.list [.str "none"]) = true := by decide +kernel
theorem Tell.of {m : Int} {ls : List Int} (r : Rises m ls) (h2 : 2 ≤ ls.length) (nh : ¬ (ls.length = 2 ∧ 2 * (ls.getD 1 0 - ls.getD 0 0) = m)) : Tell m ls := ⟨r.1, r.2, h2, nh⟩
theorem tell01 {m : Int} (hm : 3 ≤ m) : Tell m ([0] ++ [1]) := by
  refine ⟨?_, ?_, Nat.le_refl 2, ?_⟩
  · show List.Pairwise (· < ·) [(0 : Int), 1]
    simp
  · intro x hx
    have : x = 0 ∨ x = 1 := by simpa using hx
    omega
  · rintro ⟨_, h⟩
    have e : (2 : Int) * (([0] ++ [1] : List Int).getD 1 0 - ([0] ++ [1] : List Int).getD 0 0) = 2 := rfl
    omega
theorem last_of {α : Type} {ls : List α} (h : 0 < ls.length) : ∃ r l, ls = r ++ [l] := ⟨ls.dropLast, ls.getLast (by intro z; rw [z] at h; cases h), (List.dropLast_concat_getLast _).symm⟩
/-- the first of what is told -/
theorem take_one {xs : List V} {v : V} {r : List V} (h : xs = v :: r) : cutV xs none (some 1) = [v] := by
  subst h
  have := cut_lo (v :: r) 1 (by simp)
  rw [show ((1 : Nat) : Int) = 1 from rfl] at this
  rw [this]
  rfl
theorem new_at {H : Hp} {a : Addr} {o : HO} (h : H a = none) : upd H a o a = some o := upd_same
/-- what a ring's thing is told as -/
theorem told_ring {K : Frag} {C : Addr} {S2 : Sp} {d : Bool} {j : Nat} (hj : j = (if d = true then 1 else 0)) {m l t : Int} {ls0 ts0 hs : List Int} {l1 l2 : Addr} {H : Hp} {Q : VK} {E : XK} (hm : 1 < m) (T : Tell m (ls0 ++ [l])) (lt : (ls0 ++ [l]).length = (ts0 ++ [t]).length)
    (hh : ∀ x, x ∈ hs ↔ x ∈ cnd m l t ∧ cde d m (ls0 ++ [l]) x = ts0 ++ [t]) (h1 : SqL K H l1 ((ls0 ++ [l]).map V.int)) (h2 : SqL K H l2 ((ts0 ++ [t]).map V.int)) (l20 : (ls0 ++ [l]).length ≤ 20)
    (q : ∀ c r, hs = c :: r → ∀ H', Same H H' → Q (.int c) H') (n : hs = [] → ∀ H' a, Same H H' → H' a = some (.ext (XAt a C none)) → E (.ref C) (some a) H') :
    (if j = 2 then S2 else if j = 1 then spFind K C true tf else spFind K C false rf) [.int m, .ref l1, .ref l2] H Q E := by
  have re := ring_end (d := d) hm T lt hh
  have fin : match (two d m ((ls0 ++ [l]).getD 0 0) ((ts0 ++ [t]).getD 0 0)).find? (fun c => decide (cde d m (ls0 ++ [l]) c = ts0 ++ [t])) with | some c => ∀ H', Same H H' → Q (.int c) H' | none => ∀ H' a, Same H H' → H' a = some (.ext (XAt a C none)) → E (.ref C) (some a) H' := by
    generalize (two d m ((ls0 ++ [l]).getD 0 0) ((ts0 ++ [t]).getD 0 0)).find? (fun c => decide (cde d m (ls0 ++ [l]) c = ts0 ++ [t])) = res at re ⊢
    cases res with
    | some c =>
      obtain ⟨r, er⟩ : ∃ r, hs = c :: r := re
      exact q c r er
    | none =>
      have er : hs = [] := re
      exact n er
  have p1 : 0 < (ls0 ++ [l]).length := by
    rw [List.length_append]
    simp
  cases d with
  | false =>
    subst hj
    exact ⟨m, l1, l2, ls0 ++ [l], ts0 ++ [t], rfl, by omega, h1, h2, p1, l20, by omega, fin⟩
  | true =>
    subst hj
    exact ⟨m, l1, l2, ls0 ++ [l], ts0 ++ [t], rfl, by omega, h1, h2, p1, l20, by omega, fin⟩
/-- what comes behind an if, once -/
theorem if_split {t : TT} {a b : TS} {D : Ends} {σ : St} {H : Hp} (R : St → Hp → Prop) (hk : ∀ σ' H', R σ' H' → D.nx σ' H') (h : ∀ nx : St → Hp → Prop, (∀ σ' H', R σ' H' → nx σ' H') → tIfS t a b { D with nx := nx } σ H) : tIfS t a b D σ H := h D.nx hk
section
variable {P : Program} {w : World} {K : Frag} {mg : Str → Option Value} {base : Heap} {C : Addr} {S2 : Sp}
abbrev rrN : List Str := ["state", "many", "looks", "way", "kind", "told", "having", "handed", "found"]
theorem scRR : FnScope rrN ["state"] (defScope sRing) := ⟨rfl, rfl, rfl, by decide +kernel, rfl, by decide +kernel, by decide +kernel⟩
theorem ok_ring {f : Addr} {fd : FuncData} (F : Fun K "_law_ring_right" "_law_ring_right" sRing f fd) (T : Txt K mg) (ks : kitOne K (.type "str") (.type "bool") = some false) (hN : Has P w K mg base 1 "_law_next" ["state", "many"] spNext)
    (hG : Has P w K mg base 2 "_law_great" ["state", "top"] spGreat) (hL : Has P w K mg base 3 "_law_looks" ["state", "many", "most"] spLooks) (hO : Has P w K mg base 3 "_law_other" ["state", "told"] (spOther K)) (hC : Has P w K mg base 2 "_law_code" ["many", "looks", "thing", "kind"] (spCode K))
    (hH : Has P w K mg base 3 "_law_having" ["many", "looks", "told", "kind"] (spHaving K)) (hT : Has P w K mg base 4 "_law_told" ["way", "args"] (spTold K C (spFind K C false rf) (spFind K C true tf) S2)) : FnOk P w K mg base CX0 5 f fd ["state"] spRight := by
  refine F.ok scRR (fun vs H Q E h => ?_) (fun cdv A outer s H vs Q E hr h => ?_)
  · obtain ⟨a, rfl, _⟩ := h
    rfl
  · obtain ⟨a, rfl, st, q⟩ := h
    have hr1 : Room 1 _ := hr.mono (by decide)
    have hr2 : Room 2 _ := hr.mono (by decide)
    have hr3 : Room 3 _ := hr.mono (by decide)
    have hu := hr.units
    refine ⟨_, pss_cons (ps_set (i := 1) scRR.nd rfl (Or.inl rfl) (pe_op op_add pe_int (pe_has hG hr2 rfl (pa_cons (pv 0) (pa_cons (pe_ix ix_list (pe_lst (pa_cons pe_int (pa_cons (pe_op op_sub (pe_op op_pow pe_int pe_int) pe_int) pa_nil))) (pe_has hN hr1 rfl (pa_cons (pv 0) (pa_cons pe_int pa_nil))) (fun _ _ => rfl)) pa_nil)))))
      (pss_cons (ps_set (i := 2) scRR.nd rfl (Or.inl rfl) (pe_has hL hr3 rfl (pa_cons (pv 0) (pa_cons (pv 1) (pa_cons (pe_ix ix_list (pe_lst (pa_cons pe_int (pa_cons pe_int pa_nil))) (pe_callTy call_int1 (by rfl) T.int PyProof.Rows.boot_int (pa_cons (pe_cmpR op_eq (pe_has hN hr1 rfl (pa_cons (pv 0) (pa_cons pe_int pa_nil))) pe_int (by rfl)) pa_nil)) (fun _ _ => rfl)) pa_nil)))))
      (pss_cons (ps_if (PW.pt (pw_or (pt_cmpR op_lt (pe_callB call_len_seq (by rfl) T.len PySem.boot_len (pa_cons (pv 2) pa_nil)) pe_int (nomark _)) (pw_or1 (PW.pt (pw_and (pt_cmpR op_eq (pe_callB call_len_seq (by rfl) T.len PySem.boot_len (pa_cons (pv 2) pa_nil)) pe_int (nomark _))
          (pw_and1 (pt_cmpR op_eq (pe_op op_mul pe_int (pe_op op_sub (pe_ix ix_list (pv 2) pe_int (fun _ _ => rfl)) (pe_ix ix_list (pv 2) pe_int (fun _ _ => rfl)))) (pv 1) (nomark _)))))))) (pss_one (ps_set (i := 2) scRR.nd rfl (Or.inl rfl) (pe_lst (pa_cons pe_int (pa_cons pe_int pa_nil))))) pss_nil)
      (pss_cons (ps_for PassesOwn.never rfl (pi_enum rfl T.enum (pa_cons (pe_lst (pa_cons pe_str (pa_cons pe_str pa_nil))) pa_nil)) (pg_tup rfl (pgs_cons (pg_name (i := 3) scRR.nd rfl (Or.inl rfl)) (pgs_cons (pg_name (i := 4) scRR.nd rfl (Or.inl rfl)) pgs_nil)))
        (pss_cons (ps_set (i := 5) scRR.nd rfl (Or.inl rfl) (pe_has hO hr3 rfl (pa_cons (pv 0) (pa_cons (pe_has hC hr2 rfl (pa_cons (pv 1) (pa_cons (pv 2) (pa_cons (pe_has hG hr2 rfl (pa_cons (pv 0) (pa_cons (pv 1) pa_nil))) (pa_cons (pv 4) pa_nil))))) pa_nil))))
        (pss_cons (ps_set (i := 6) scRR.nd rfl (Or.inl rfl) (pe_has hH hr3 rfl (pa_cons (pv 1) (pa_cons (pv 2) (pa_cons (pv 5) (pa_cons (pv 4) pa_nil))))))
        (pss_cons (ps_set (i := 7) scRR.nd rfl (Or.inl rfl) (pe_lst (pa_cons (pe_callTy call_list_of (by rfl) T.list PyProof.Rows.boot_list (pa_cons (pv 2) pa_nil)) (pa_cons (pe_callTy call_list_of (by rfl) T.list PyProof.Rows.boot_list (pa_cons (pv 5) pa_nil)) pa_nil))))
        (pss_cons (ps_set (i := 8) scRR.nd rfl (Or.inl rfl) (pe_has hT hr rfl (pa_cons (pv 3) (pa_cons (pe_tup (pa_cons (pv 1) (pa_cons (pe_ix ix_list (pv 7) pe_int (fun _ _ => rfl)) (pa_cons (pe_ix ix_list (pv 7) pe_int (fun _ _ => rfl)) pa_nil)))) pa_nil))))
        (pss_one (ps_if (PW.pt (pw_or (pt_val (pe_callB call_isT (by rfl) T.isi PyProof.Rows.boot_isinstance (pa_cons (pv 8) (pa_cons (pe_bltn (v := .ty "bool") rfl T.bool PyProof.Rows.boot_bool rfl) pa_nil))))
          (pw_or (pt_cmpR (op_neD hu) (pv 7) (pe_lst (pa_cons (pv 2) (pa_cons (pv 5) pa_nil))) (nomark _))
          (pw_or1 (pt_cmpR (op_neD hu) (pe_lst (pa_cons (pv 8) pa_nil)) (pe_slice sl_list (pe_op op_cat (pv 6) (pe_lst (pa_cons pe_str pa_nil))) po_none (po_some pe_int)) (nomark _)))))) (pss_one (ps_ret pe_bl)) pss_nil)))))))
      (pss_one (ps_ret pe_bl))))), ?_⟩
    refine ⟨_, rfl, _, _, rfl, rfl, ⟨by decide, by decide, by decide⟩, _, _, rfl, rfl, (by show 2 ≤ sizeLine; decide), fun u1 hu1 => ?_⟩
    have nu1 : u1 ≠ a := st_ne st hu1
    refine ⟨_, rfl, a, 2, rfl, (by decide), (by decide), st_new st hu1, fun r1 H1 r10 r11 st1 mv1 => ?_⟩
    obtain ⟨z1, ez1, z10⟩ := pick2 r10 r11
    refine ⟨u1, _, _, .int z1, rfl, rfl, SqL.of (mv1 _ _ nu1 upd_same), ez1, a, z1, rfl, z10, st1, fun g H2 g0 g1 st2 mv2 => ⟨_, _, rfl, rfl, ?_⟩⟩
    obtain ⟨m, em⟩ : ∃ m, 3 + g = m := ⟨_, rfl⟩
    dsimp only
    rw [em]
    have m0 : 0 < m := by omega
    have hm1 : 1 < m := by omega
    have hm3 : 3 ≤ m := by omega
    refine ⟨_, rfl, _, rfl, (by show 2 ≤ sizeLine; decide), fun u2 hu2 => ?_⟩
    have nu2 : u2 ≠ a := st_ne st2 hu2
    refine ⟨_, rfl, a, 8, rfl, (by decide), (by decide), st_new st2 hu2, fun r2 H3 _ _ st3 mv3 => ⟨rfl, .inr ⟨_, rfl, ?_⟩⟩⟩
    obtain ⟨mo, emo, mo20⟩ := pickM (decide (V.int r2 = V.int 0))
    refine ⟨u2, _, _, .int mo, rfl, rfl, SqL.of (mv3 _ _ nu2 upd_same), emo, a, m, mo, rfl, m0, mo20, st3, fun ls lk H4 ris len nlk st4 mv4 e4 => ?_⟩
    have mvz : Mv a H H4 := (((((Mv.of (new_same hu1)).trans mv1).trans mv2).trans (Mv.of (new_same hu2))).trans mv3).trans mv4
    have elen : ((ls.map V.int).length : Int) = ls.length := by rw [List.length_map]
    dsimp only [gName, tSeq]
    refine if_split (fun σ' H' => ∃ (lk : Addr) (ls0 : List Int) (l : Int), σ' = [some (.ref a), some (.int m), some (.ref lk), none, none, none, none, none, none] ∧ lk ≠ a ∧ StA H' a ∧ Mv a H H' ∧ H' lk = some (.lst ((ls0 ++ [l]).map V.int)) ∧ Tell m (ls0 ++ [l]) ∧ (ls0 ++ [l]).length ≤ 20) ?_ ?_
    · rintro σ' HL ⟨lk, ls0, l, rfl, nlk, stL, mvL, eL, tell, len20⟩
      refine ⟨(by show 2 ≤ sizeLine; decide), fun kl hkl => ⟨kl, rfl, ⟨_, SqL.of upd_same⟩, for_enum (xs := [.str "places", .str "ties"]) (fun j σ H5 => ∃ w3 w4 w5 w6 w7 w8 : Option V, σ = [some (.ref a), some (.int m), some (.ref lk), w3, w4, w5, w6, w7, w8] ∧ StA H5 a ∧ Mv a H H5 ∧ H5 lk = some (.lst ((ls0 ++ [l]).map V.int)) ∧ H5 kl = some (.lst [.str "places", .str "ties"])) ⟨_, _, _, _, _, _, rfl, st_new stL hkl, mvL.trans (Mv.of (new_same hkl)), new_same hkl _ _ eL, upd_same⟩ ?_ ?_ ?_⟩⟩
      · rintro j σ H5 hj ⟨_, _, _, _, _, _, _, _, _, _, k5⟩
        exact SqL.of k5
      · rintro j x σ H5 T5 hx ⟨w3, w4, w5, w6, w7, w8, rfl, st5, mv5, e5, k5⟩ hT5
        obtain ⟨d, hj, rfl⟩ : ∃ d : Bool, j = (if d = true then 1 else 0) ∧ x = .str (if d = true then "ties" else "places") := by
          match j, hx with
          | 0, hx => cases hx; exact ⟨false, rfl, rfl⟩
          | 1, hx => cases hx; exact ⟨true, rfl, rfl⟩
        have nkl : kl ≠ a := st_ne stL hkl
        refine ⟨T5, _, rfl, .inl (.inl upd_same), rfl, _, _, rfl, _, _, rfl, rfl, ?_⟩
        have s6 := new_same (o := .tup [.int (j : Int), .str (if d = true then "ties" else "places")]) hT5
        have st6 := st_new (o := .tup [.int (j : Int), .str (if d = true then "ties" else "places")]) st5 hT5
        generalize upd H5 T5 (.tup [.int (j : Int), .str (if d = true then "ties" else "places")]) = H6 at s6 st6 ⊢
        refine ⟨_, rfl, _, rfl, _, rfl, _, rfl, _, rfl, a, m, rfl, m0, st6, fun th H7 t0 t1 st7 mv7 => ?_⟩
        refine ⟨_, rfl, m, lk, ls0 ++ [l], th, d, rfl, m0, SqL.of (mv7 _ _ nlk (s6 _ _ e5)), len20, fun cd H8 n8 s8 l8 => ?_⟩
        have st8 : StA H8 a := by
          obtain ⟨xa, ya, ea, ra⟩ := st7
          exact ⟨xa, ya, s8 _ _ ea, ra⟩
        refine ⟨a, cd, cde d m (ls0 ++ [l]) th, rfl, Ne.symm (st_ne st7 n8), st8, SqL.of l8, (by unfold cde; rw [List.length_map, List.length_append]; simp), (by unfold cde; rw [List.length_map]; exact len20), fun ts tl H9 tlen st9 mv9 ntl l9 => ?_⟩
        have tlen' : ts.length = (ls0 ++ [l]).length := by rw [tlen]; unfold cde; rw [List.length_map]
        obtain ⟨ts0, t, rfl⟩ := last_of (ls := ts) (by rw [tlen', List.length_append]; simp)
        have tlen2 := tlen'.symm
        have c9 := mv9 _ _ nlk (s8 _ _ (mv7 _ _ nlk (s6 _ _ e5)))
        have k9 := mv9 _ _ nkl (s8 _ _ (mv7 _ _ nkl (s6 _ _ k5)))
        have mv9' : Mv a H H9 := (((mv5.trans (Mv.of s6)).trans mv7).trans (Mv.of s8)).trans mv9
        refine ⟨_, rfl, _, rfl, _, rfl, _, rfl, m, lk, tl, ls0, ts0, l, t, d, rfl, m0, SqL.of c9, SqL.of l9, len20, fun hs hv H10 hh hl12 s10 c12 => ?_⟩
        have c10 := s10 _ _ c9
        have c11 := s10 _ _ l9
        have c13 := s10 _ _ k9
        have mv10 := mv9'.trans (Mv.of s10)
        have st10 : StA H10 a := by
          obtain ⟨xa, ya, ea, ra⟩ := st9
          exact ⟨xa, ya, s10 _ _ ea, ra⟩
        refine ⟨_, rfl, lk, _, rfl, .inl (SqL.of c10), fun l1 hl1 => ⟨_, rfl, tl, _, rfl, .inl (SqL.of (new_same hl1 _ _ c11)), fun l2 hl2 => ⟨(by show 2 ≤ sizeLine; decide), fun hd hhd => ?_⟩⟩⟩
        have sB := ((new_same (o := .lst ((ls0 ++ [l]).map V.int)) hl1).trans (new_same (o := .lst ((ts0 ++ [t]).map V.int)) hl2)).trans (new_same (o := .lst [.ref l1, .ref l2]) hhd)
        have b1 := new_same (o := .lst [.ref l1, .ref l2]) hhd _ _ (new_same (o := .lst ((ts0 ++ [t]).map V.int)) hl2 _ _ (upd_same : upd H10 l1 (.lst ((ls0 ++ [l]).map V.int)) l1 = _))
        have b2 := new_same (o := .lst [.ref l1, .ref l2]) hhd _ _ (upd_same : upd (upd H10 l1 (.lst ((ls0 ++ [l]).map V.int))) l2 (.lst ((ts0 ++ [t]).map V.int)) l2 = _)
        have b3 : upd (upd (upd H10 l1 (.lst ((ls0 ++ [l]).map V.int))) l2 (.lst ((ts0 ++ [t]).map V.int))) hd (.lst [.ref l1, .ref l2]) hd = some (.lst [.ref l1, .ref l2]) := upd_same
        generalize upd (upd (upd H10 l1 (.lst ((ls0 ++ [l]).map V.int))) l2 (.lst ((ts0 ++ [t]).map V.int))) hd (.lst [.ref l1, .ref l2]) = H11 at sB b1 b2 b3 ⊢
        refine ⟨_, rfl, _, rfl, _, rfl, hd, _, 0, .ref l1, rfl, rfl, SqL.of b3, atI_nat (j := 0) rfl, _, rfl, hd, _, 1, .ref l2, rfl, rfl, SqL.of b3, atI_nat (j := 1) rfl, (by show 3 ≤ sizeLine; decide), fun tp htp => ?_⟩
        have sD := new_same (o := .tup [.int m, .ref l1, .ref l2]) htp
        refine ⟨j, tp, _, rfl, .inl (.inl upd_same), (by cases d <;> simp [hj]), (by cases d <;> simp [hj]), fun Hz Q' E' sz hq he => ?_⟩
        refine told_ring hj hm1 tell tlen2 hh (SqL.of (sz _ _ (sD _ _ b1))) (SqL.of (sz _ _ (sD _ _ b2))) len20 ?_ ?_
        · intro c r er H' sH
          refine hq _ _ ?_
          refine ⟨_, rfl, (V.int c), .ty "bool", _, false, rfl, (.int _), (fun u ru => by cases ru; exact T.ki), false, rfl, ?_⟩
          refine iteF ?_
          refine ⟨_, rfl, _, rfl, _, rfl, (by show 2 ≤ sizeLine; decide), fun nl hnl => ?_⟩
          have sN := new_same (o := .lst [.ref lk, .ref tl]) hnl
          have sM := sD.trans (sz.trans sH)
          have sE := sB.trans (sM.trans sN)
          refine ⟨dtwo (ls0 ++ [l]) (ts0 ++ [t]), dtwo (ls0 ++ [l]) (ts0 ++ [t]), .lst (SqL.of (sN _ _ (sM _ _ b3))) (.cons (.lst (SqL.of (sN _ _ (sM _ _ b1))) (rd_ints _)) (.cons (.lst (SqL.of (sN _ _ (sM _ _ b2))) (rd_ints _)) .nil)), .lst (SqL.of upd_same) (.cons (.lst (SqL.of (sE _ _ c10)) (rd_ints _)) (.cons (.lst (SqL.of (sE _ _ c11)) (rd_ints _)) .nil)), dtwo_shaped _ _, dtwo_shaped _ _, dtwo_mix _ _, _, rfl, ?_⟩
          show if (!Spec.same (dtwo (ls0 ++ [l]) (ts0 ++ [t])) (dtwo (ls0 ++ [l]) (ts0 ++ [t]))) = true then _ else _
          rw [dtwo_same]
          refine iteF ?_
          refine ⟨_, rfl, (by show 1 ≤ sizeLine; decide), fun f1 hf1 => ⟨_, rfl, (by show 1 ≤ sizeLine; decide), fun n1 hn1 => ?_⟩⟩
          have sF := new_same (o := .lst [(V.int c)]) hf1
          have sG := new_same (o := .lst [.str "none"]) hn1
          refine ⟨hv, n1, hs.map V.int, [.str "none"], rfl, rfl, sG _ _ (sF _ _ (sE _ _ c12)), upd_same, (by rw [List.length_map]; exact Nat.le_trans (show hs.length + 1 ≤ 13 by omega) (by decide)), fun c1 hc1 => ?_⟩
          have sI := new_same (o := .lst (hs.map V.int ++ [.str "none"])) hc1
          refine ⟨1, rfl, c1, _, rfl, SqL.of upd_same, fun c2 hc2 => ?_⟩
          have sJ := new_same (o := .lst (cutV (hs.map V.int ++ [.str "none"]) none (some 1))) hc2
          have e1 := (new_at (o := .lst (cutV (hs.map V.int ++ [.str "none"]) none (some 1))) hc2).trans (show some (HO.lst (cutV (hs.map V.int ++ [.str "none"]) none (some 1))) = some (HO.lst [(V.int c)]) by rw [take_one (show hs.map V.int ++ [.str "none"] = V.int c :: (r.map V.int ++ [.str "none"]) by rw [er]; rfl)])
          refine ⟨.list [(PyData.int c)], .list [(PyData.int c)], .lst (SqL.of (sJ _ _ (sI _ _ (sG _ _ upd_same)))) (.cons (.int c) .nil), .lst (SqL.of e1) (.cons (.int c) .nil), (by first | rfl | decide +kernel), (by first | rfl | decide +kernel), (by first | rfl | decide +kernel), _, rfl, ?_⟩
          show if (!Spec.same (.list [(PyData.int c)]) (.list [(PyData.int c)])) = true then _ else _
          rw [(same_one c)]
          refine iteF ?_
          have sK := sE.trans (((sF.trans sG).trans sI).trans sJ)
          obtain ⟨xa, ya, ea, ra⟩ := st10
          exact ⟨_, _, _, _, _, _, rfl, ⟨xa, ya, sK _ _ ea, ra⟩, mv10.trans (Mv.of sK), sK _ _ c10, sK _ _ c13⟩
        · intro er H' a' sH ha'
          refine he _ _ ha' ?_
          refine ⟨_, rfl, (V.str "none"), .ty "bool", _, false, rfl, (.str _), (fun u ru => by cases ru; exact ks), false, rfl, ?_⟩
          refine iteF ?_
          refine ⟨_, rfl, _, rfl, _, rfl, (by show 2 ≤ sizeLine; decide), fun nl hnl => ?_⟩
          have sN := new_same (o := .lst [.ref lk, .ref tl]) hnl
          have sM := sD.trans (sz.trans sH)
          have sE := sB.trans (sM.trans sN)
          refine ⟨dtwo (ls0 ++ [l]) (ts0 ++ [t]), dtwo (ls0 ++ [l]) (ts0 ++ [t]), .lst (SqL.of (sN _ _ (sM _ _ b3))) (.cons (.lst (SqL.of (sN _ _ (sM _ _ b1))) (rd_ints _)) (.cons (.lst (SqL.of (sN _ _ (sM _ _ b2))) (rd_ints _)) .nil)), .lst (SqL.of upd_same) (.cons (.lst (SqL.of (sE _ _ c10)) (rd_ints _)) (.cons (.lst (SqL.of (sE _ _ c11)) (rd_ints _)) .nil)), dtwo_shaped _ _, dtwo_shaped _ _, dtwo_mix _ _, _, rfl, ?_⟩
          show if (!Spec.same (dtwo (ls0 ++ [l]) (ts0 ++ [t])) (dtwo (ls0 ++ [l]) (ts0 ++ [t]))) = true then _ else _
          rw [dtwo_same]
          refine iteF ?_
          refine ⟨_, rfl, (by show 1 ≤ sizeLine; decide), fun f1 hf1 => ⟨_, rfl, (by show 1 ≤ sizeLine; decide), fun n1 hn1 => ?_⟩⟩
          have sF := new_same (o := .lst [(V.str "none")]) hf1
          have sG := new_same (o := .lst [.str "none"]) hn1
          refine ⟨hv, n1, hs.map V.int, [.str "none"], rfl, rfl, sG _ _ (sF _ _ (sE _ _ c12)), upd_same, (by rw [List.length_map]; exact Nat.le_trans (show hs.length + 1 ≤ 13 by omega) (by decide)), fun c1 hc1 => ?_⟩
          have sI := new_same (o := .lst (hs.map V.int ++ [.str "none"])) hc1
          refine ⟨1, rfl, c1, _, rfl, SqL.of upd_same, fun c2 hc2 => ?_⟩
          have sJ := new_same (o := .lst (cutV (hs.map V.int ++ [.str "none"]) none (some 1))) hc2
          have e1 := (new_at (o := .lst (cutV (hs.map V.int ++ [.str "none"]) none (some 1))) hc2).trans (show some (HO.lst (cutV (hs.map V.int ++ [.str "none"]) none (some 1))) = some (HO.lst [(V.str "none")]) by rw [take_one (show hs.map V.int ++ [.str "none"] = V.str "none" :: [] by rw [er]; rfl)])
          refine ⟨.list [(PyData.str "none")], .list [(PyData.str "none")], .lst (SqL.of (sJ _ _ (sI _ _ (sG _ _ upd_same)))) (.cons (.str "none") .nil), .lst (SqL.of e1) (.cons (.str "none") .nil), (by first | rfl | decide +kernel), (by first | rfl | decide +kernel), (by first | rfl | decide +kernel), _, rfl, ?_⟩
          show if (!Spec.same (.list [(PyData.str "none")]) (.list [(PyData.str "none")])) = true then _ else _
          rw [same_non]
          refine iteF ?_
          have sK := sE.trans (((sF.trans sG).trans sI).trans sJ)
          obtain ⟨xa, ya, ea, ra⟩ := st10
          exact ⟨_, _, _, _, _, _, rfl, ⟨xa, ya, sK _ _ ea, ra⟩, mv10.trans (Mv.of sK), sK _ _ c10, sK _ _ c13⟩
      · rintro σ H5 ⟨_, _, _, _, _, _, rfl, st5, mv5, _, _⟩
        exact q _ st5 mv5
    · intro nx hnx
      have new : ∀ lk2, H4 lk2 = none → nx [some (.ref a), some (.int m), some (.ref lk2), none, none, none, none, none, none] (upd H4 lk2 (.lst [.int 0, .int 1])) := fun lk2 h => hnx _ _ ⟨lk2, [0], 1, rfl, st_ne st4 h, st_new st4 h, mvz.trans (Mv.of (new_same h)), upd_same, tell01 hm3, by decide⟩
      have old : Tell m ls → nx [some (.ref a), some (.int m), some (.ref lk), none, none, none, none, none, none] H4 := fun tl => by
        obtain ⟨ls0, l, rfl⟩ := last_of (ls := ls) (by have := tl.2.2.1; omega)
        exact hnx _ _ ⟨lk, ls0, l, rfl, nlk, st4, mvz, e4, tl, by omega⟩
      refine ⟨_, rfl, lk, _, rfl, .inl (SqL.of e4), _, _, rfl, rfl, _, rfl, ?_⟩
      refine ite2 (fun c => ?_) (fun c => ?_)
      · exact ⟨(by show 2 ≤ sizeLine; decide), fun lk2 h => new lk2 h⟩
      · have l2 : 2 ≤ ls.length := by
          have : ¬ (((ls.map V.int).length : Int) < 2) := fun z => c (decide_eq_true z)
          omega
        refine ⟨_, rfl, lk, _, rfl, .inl (SqL.of e4), rfl, _, rfl, ?_⟩
        refine ite2 (fun c2 => ?_) (fun c2 => ?_)
        · refine ⟨_, rfl, lk, _, _, .int (ls.getD 1 0), rfl, rfl, SqL.of e4, at_d (j := 1) (by omega), _, rfl, lk, _, _, .int (ls.getD 0 0), rfl, rfl, SqL.of e4, at_d (j := 0) (by omega), _, _, rfl, rfl, _, _, rfl, rfl, .inl ⟨by decide, by decide⟩, _, rfl, rfl, _, rfl, ?_⟩
          refine ite2 (fun c3 => ?_) (fun c3 => ?_)
          · exact ⟨(by show 2 ≤ sizeLine; decide), fun lk2 h => new lk2 h⟩
          · exact old (Tell.of ris l2 (fun z => c3 (decide_eq_true (congrArg V.int z.2))))
        · exact old (Tell.of ris l2 (fun z => c2 (decide_eq_true (by rw [elen, z.1]; rfl))))
end
end K33

namespace K33
open PySem L2 PySem.W PySem.SeqAt
theorem gr_call {K : Frag} {C : Addr} {S0 : Sp} {H : Hp} {Q : VK} {E : XK} {wd hg : Int} {a b t : Addr} {x1 y1 x2 y2 d1 d2 : Int} (ha : SqT K H a [.int x1, .int y1]) (hb : SqT K H b [.int x2, .int y2]) (ht : SqL K H t [.int d1, .int d2]) (hy : ¬ x1 = x2 → y1 = y2)
    (q : if gpOk wd hg x1 y1 x2 y2 d1 d2 (gqx wd hg x1 y1 x2 d1 d2) (gqy wd hg x1 y1 x2 d1 d2) = true then ∀ H' r, Same H H' → H' r = some (.tup [.int (gqx wd hg x1 y1 x2 d1 d2), .int (gqy wd hg x1 y1 x2 d1 d2)]) → Q (.ref r) H'
      else ∀ H' e, Same H H' → H' e = some (.ext (XAt e C none)) → E (.ref C) (some e) H') : spGr K C (spGr K C S0) [.int wd, .int hg, .ref a, .ref b, .ref t] H Q E := by
  refine ⟨wd, hg, a, b, t, x1, y1, x2, y2, d1, d2, rfl, ha, hb, ht, ?_⟩
  by_cases e : x1 = x2
  · rw [if_pos e]
    unfold gqx gqy at q
    rw [if_pos e, if_pos e] at q
    exact q
  · rw [if_neg e]
    unfold gqx gqy at q
    rw [if_neg e, if_neg e] at q
    intro H' a' b' s ha' hb'
    refine ⟨hg, wd, a', b', t, y1, x1, y2, x2, d1, d2, rfl, ha', hb', s.seq ht, ?_⟩
    rw [if_pos (hy e), ok_swap]
    by_cases c : gpOk wd hg x1 y1 x2 y2 d1 d2 (gpy wd x1 d1 d2) (gpx hg wd y1 d1 d2) = true
    · rw [if_pos c] at q ⊢
      exact fun H2 r s2 er => ⟨r, _, _, rfl, .inl (.inl er), fun H3 r3 s3 e3 => q H3 r3 ((s.trans s2).trans s3) e3⟩
    · rw [if_neg c] at q ⊢
      exact fun H2 x s2 ex => q H2 x (s.trans s2) ex
/-- a list of pairs -/
inductive Tp (H : Hp) : List V → List (Int × Int) → Prop
  | nil : Tp H [] []
  | cons {b : Addr} {x y : Int} {ys : List V} {ps : List (Int × Int)} : H b = some (.tup [.int x, .int y]) → Tp H ys ps → Tp H (.ref b :: ys) ((x, y) :: ps)
theorem Tp.mono {H H' : Hp} {ys : List V} {ps : List (Int × Int)} (t : Tp H ys ps) (s : Same H H') : Tp H' ys ps := by
  induction t with
  | nil => exact .nil
  | cons h _ ih => exact .cons (s _ _ h) ih
theorem Tp.upd {H : Hp} {e : Addr} {zs : List V} {o : HO} {ys : List V} {ps : List (Int × Int)} (t : Tp H ys ps) (he : H e = some (.lst zs)) : Tp (upd H e o) ys ps := by
  induction t with
  | nil => exact .nil
  | cons h _ ih =>
    refine .cons ?_ ih
    rw [upd_ne (fun z => by rw [z, he] at h; cases h)]
    exact h
theorem Tp.append {H : Hp} {ys zs : List V} {ps qs : List (Int × Int)} (t : Tp H ys ps) (u : Tp H zs qs) : Tp H (ys ++ zs) (ps ++ qs) := by
  induction t with
  | nil => exact u
  | cons h _ ih => exact .cons h ih
theorem Tp.get {H : Hp} {ys : List V} {ps : List (Int × Int)} (t : Tp H ys ps) : ∀ (i : Nat) (v : V), ys[i]? = some v → ∃ b x y, v = .ref b ∧ H b = some (.tup [.int x, .int y]) ∧ ps[i]? = some (x, y) := by
  induction t with
  | nil => exact fun i v h => (nomatch h)
  | cons h _ ih =>
    intro i v e
    cases i with
    | zero =>
      cases e
      exact ⟨_, _, _, rfl, h, rfl⟩
    | succ i => exact ih i v e
theorem Tp.len {H : Hp} {ys : List V} {ps : List (Int × Int)} (t : Tp H ys ps) : ys.length = ps.length := by
  induction t with
  | nil => rfl
  | cons _ _ ih => simp [ih]
abbrev grN : List Str := ["state", "sizes", "wide", "high", "one", "other", "spot", "code", "handed", "told", "due", "every", "x"]
def ifBody : Stmt → List Stmt
  | .If _ b _ _ => b
  | _ => []
def extSc : Stmt → Scope
  | .For _ _ (.Expr (.Call _ [.ListComp _ _ sc _] _ _) _ :: _) _ _ => sc
  | _ => { kind := .function, names := [], isGenerator := false, isCoroutine := false }
def dueSc : Stmt → Scope
  | .Assign _ (.Subscript (.BinOp (.ListComp _ _ sc _) _ _ _) _ _) _ => sc
  | _ => { kind := .function, names := [], isGenerator := false, isCoroutine := false }
abbrev scG1 : Scope := extSc ((ifBody ((defBody sGrid).getD 10 (.Pass ⟨0, 0, 0, 0⟩))).getD 1 (.Pass ⟨0, 0, 0, 0⟩))
abbrev scG2 : Scope := dueSc ((ifBody ((defBody sGrid).getD 10 (.Pass ⟨0, 0, 0, 0⟩))).getD 2 (.Pass ⟨0, 0, 0, 0⟩))
theorem blockG1 : blockB grN (defScope sGrid) scG1 "y" ["y", "x"] [12] = true := by decide +kernel
theorem blockG2 : blockB grN (defScope sGrid) scG2 "spot" ["spot", "one", "other", "told"] [4, 5, 9] = true := by decide +kernel
section
variable {P : Program} {w : World} {K : Frag} {mg : Str → Option Value} {base : Heap} {C : Addr} {S0 S1 S9 : Sp}
theorem scGr : FnScope grN ["state"] (defScope sGrid) := ⟨rfl, rfl, rfl, by decide +kernel, rfl, by decide +kernel, by decide +kernel⟩
end
end K33

namespace K33
open PySem L2 PySem.W PySem.SeqAt
theorem pickS {r : Int} (r0 : 0 ≤ r) (r1 : r < 2) : ∃ z, atI [V.int 5, V.int ((10 : Int) ^ (60 : Int).toNat)] r = some (.int z) ∧ 2 ≤ z := by
  have : r = 0 ∨ r = 1 := by omega
  rcases this with rfl | rfl
  · exact ⟨_, rfl, by decide⟩
  · exact ⟨_, rfl, by decide⟩
theorem same_pair (x y : Int) : Spec.same (.tuple [.int x, .int y]) (.tuple [.int x, .int y]) = true := by
  show ((x == x) && ((y == y) && true)) = true
  rw [beq_self_eq_true, beq_self_eq_true]
  rfl
theorem same_pairL (x y : Int) : Spec.same (.list [.int x, .int y]) (.list [.int x, .int y]) = true := by
  show ((x == x) && ((y == y) && true)) = true
  rw [beq_self_eq_true, beq_self_eq_true]
  rfl
theorem same_str : Spec.same (.str "none") (.str "none") = true := by decide +kernel
theorem Tp.head {H : Hp} {ys : List V} {ps : List (Int × Int)} (t : Tp H ys ps) : (ys = [] ∧ ps = []) ∨ ∃ b x y zs qs, ys = .ref b :: zs ∧ ps = (x, y) :: qs ∧ H b = some (.tup [.int x, .int y]) := by
  cases t with
  | nil => exact .inl ⟨rfl, rfl⟩
  | cons h _ => exact .inr ⟨_, _, _, _, _, rfl, rfl, h⟩
theorem st_tup {H : Hp} {a p : Addr} {xs : List V} (st : StA H a) (h : H p = some (.tup xs)) : p ≠ a := fun z => by
  obtain ⟨x, y, e, _⟩ := st
  rw [z, e] at h
  cases h
theorem StA.mono {H H' : Hp} {a : Addr} (st : StA H a) (s : Same H H') : StA H' a := by
  obtain ⟨x, y, e, r⟩ := st
  exact ⟨x, y, s _ _ e, r⟩
section
variable {P : Program} {w : World} {K : Frag} {mg : Str → Option Value} {base : Heap} {C : Addr} {S0 S1 S9 : Sp}
theorem ok_grid {f : Addr} {fd : FuncData} (F : Fun K "_law_grid_right" "_law_grid_right" sGrid f fd) (T : Txt K mg) (hN : Has P w K mg base 1 "_law_next" ["state", "many"] spNext)
    (hG : Has P w K mg base 2 "_law_great" ["state", "top"] spGreat) (hD : Has P w K mg base 2 "_law_side" ["state", "wide", "high"] spSide) (hS : Has P w K mg base 1 "_law_spans" ["one", "spot"] (spSpans K)) (hO : Has P w K mg base 3 "_law_other" ["state", "told"] (spOther K))
    (hB : Has P w K mg base 2 "_law_by_halves" ["wide", "high", "one", "other", "told"] (spHalf K)) (hT : Has P w K mg base 4 "_law_told" ["way", "args"] (spTold K C S0 S1 (spGr K C (spGr K C S9)))) : FnOk P w K mg base CX0 5 f fd ["state"] spRight := by
  refine F.ok scGr (fun vs H Q E h => ?_) (fun cdv A outer s H vs Q E hr h => ?_)
  · obtain ⟨a, rfl, _⟩ := h
    rfl
  · obtain ⟨a, rfl, st, q⟩ := h
    have hr1 : Room 1 _ := hr.mono (by decide)
    have hr2 : Room 2 _ := hr.mono (by decide)
    have hr3 : Room 3 _ := hr.mono (by decide)
    have hu := hr.units
    refine ⟨_, pss_cons (ps_set (i := 1) scGr.nd rfl (Or.inl rfl) (pe_ix ix_list (pe_lst (pa_cons pe_int (pa_cons (pe_op op_pow pe_int pe_int) pa_nil))) (pe_has hN hr1 rfl (pa_cons (pv 0) (pa_cons pe_int pa_nil))) (fun _ _ => rfl)))
      (pss_cons (ps_par (i := 2) (j := 3) rfl scGr.nd rfl rfl (by decide) rfl rfl (pa_cons (pe_op op_add pe_int (pe_has hG hr2 rfl (pa_cons (pv 0) (pa_cons (pe_op op_sub (pv 1) pe_int) pa_nil)))) (pa_cons (pe_op op_add pe_int (pe_has hG hr2 rfl (pa_cons (pv 0) (pa_cons (pe_op op_sub (pv 1) pe_int) pa_nil)))) pa_nil)) rfl)
      (pss_cons (ps_asg (pe_has hD hr2 rfl (pa_cons (pv 0) (pa_cons (pv 2) (pa_cons (pv 3) pa_nil)))) (pg_lst rfl (pgs_cons (pg_name (i := 4) scGr.nd rfl (Or.inr rfl)) (pgs_cons (pg_name (i := 5) scGr.nd rfl (Or.inr rfl)) pgs_nil))))
      (pss_cons (ps_set (i := 6) scGr.nd rfl (Or.inl rfl) (pe_tup (pa_cons (pe_has hG hr2 rfl (pa_cons (pv 0) (pa_cons (pv 2) pa_nil))) (pa_cons (pe_has hG hr2 rfl (pa_cons (pv 0) (pa_cons (pv 3) pa_nil))) pa_nil))))
      (pss_cons (ps_set (i := 7) scGr.nd rfl (Or.inl rfl) (pe_lst (pa_cons (pe_has hS hr1 rfl (pa_cons (pv 4) (pa_cons (pv 6) pa_nil))) (pa_cons (pe_has hS hr1 rfl (pa_cons (pv 5) (pa_cons (pv 6) pa_nil))) pa_nil))))
      (pss_cons (ps_set (i := 8) scGr.nd rfl (Or.inl rfl) (pe_callTy call_list_of (by rfl) T.list PyProof.Rows.boot_list (pa_cons (pv 7) pa_nil)))
      (pss_cons (ps_if (PW.pt (pw_or (pt_cmpR (op_neD hu) (pe_has hT hr rfl (pa_cons pe_int (pa_cons (pe_tup (pa_cons (pv 2) (pa_cons (pv 3) (pa_cons (pv 4) (pa_cons (pv 5) (pa_cons (pv 8) pa_nil)))))) pa_nil))) (pv 6) (nomark _)) (pw_or1 (pt_cmpR (op_neD hu) (pv 8) (pv 7) (nomark _))))) (pss_one (ps_ret pe_bl)) pss_nil)
      (pss_cons (ps_set (i := 9) scGr.nd rfl (Or.inr rfl) (pe_has hO hr3 rfl (pa_cons (pv 0) (pa_cons (pv 7) pa_nil))))
      (pss_cons (ps_set (i := 8) scGr.nd rfl (Or.inl rfl) (pe_callTy call_list_of (by rfl) T.list PyProof.Rows.boot_list (pa_cons (pv 9) pa_nil)))
      (pss_cons (ps_set (i := 10) scGr.nd rfl (Or.inl rfl) (pe_has hB hr2 rfl (pa_cons (pv 2) (pa_cons (pv 3) (pa_cons (pv 4) (pa_cons (pv 5) (pa_cons (pv 9) pa_nil)))))))
      (pss_cons (ps_if (pt_cmpR op_lt (pe_callB (call_max2 rfl) (by rfl) T.max PyProof.Rows.boot_max (pa_cons (pv 2) (pa_cons (pv 3) pa_nil))) pe_int (nomark _))
          (pss_cons (ps_set (i := 11) scGr.nd rfl (Or.inl rfl) (pe_lst pa_nil))
          (pss_cons (ps_for PassesOwn.never rfl (pi_range1 rfl T.range (pa_cons (pv 2) pa_nil)) (pg_name (i := 12) scGr.nd rfl (Or.inr rfl))
            (pss_one (ps_expr (pe_bm PySem.F.plainAttrs_list PySem.F.slot_list_extend PySem.F.type_list_extend mt_extend (pv 11) (pa_cons (pe_comp (NB := ["y", "x"]) (ix := [12]) (BlockOk.of blockG1) rfl (pi_range1 rfl T.range (pa_cons (pv 3) pa_nil)) (fun _ _ _ _ => pe_tup (pa_cons (pv 1) (pa_cons (pv 0) pa_nil))) (fun _ _ _ _ => pts_nil)) pa_nil)))))
          (pss_one (ps_set (i := 10) scGr.nd rfl (Or.inl rfl) (pe_ix ix_list (pe_op op_cat (pe_comp (NB := ["spot", "one", "other", "told"]) (ix := [4, 5, 9]) (BlockOk.of blockG2) rfl (pi_list (pv 11)) (fun _ _ _ _ => pv 0)
              (fun _ _ _ _ => pts_one (pt_cmpR (show OpR _ (compareOp .Eq) (rEqL K) from op_eqL hu) (pe_lst (pa_cons (pe_has hS hr1 rfl (pa_cons (pv 1) (pa_cons (pv 0) pa_nil))) (pa_cons (pe_has hS hr1 rfl (pa_cons (pv 2) (pa_cons (pv 0) pa_nil))) pa_nil))) (pv 3) (nomark _)))) (pe_lst (pa_cons pe_str pa_nil))) pe_int (fun _ _ => rfl)))))) pss_nil)
      (pss_one (ps_ret (pe_and (pe_cmpR (op_eqD hu) (pe_has hT hr rfl (pa_cons pe_int (pa_cons (pe_tup (pa_cons (pv 2) (pa_cons (pv 3) (pa_cons (pv 4) (pa_cons (pv 5) (pa_cons (pv 8) pa_nil)))))) pa_nil))) (pv 10) (by rfl)) (pe_one (pe_cmpR (op_eqD hu) (pv 8) (pv 9) (by rfl)))))))))))))))), ?_⟩
    refine ⟨_, _, rfl, rfl, ⟨by decide, by decide, by decide⟩, (by show 2 ≤ sizeLine; decide), fun u1 hu1 => ?_⟩
    have nu1 : u1 ≠ a := st_ne st hu1
    refine ⟨_, rfl, a, 2, rfl, (by decide), (by decide), st_new st hu1, fun r1 H1 r10 r11 st1 mv1 => ?_⟩
    obtain ⟨sz0, ez, z2⟩ := pickS r10 r11
    refine ⟨u1, _, _, .int sz0, rfl, rfl, SqL.of (mv1 _ _ nu1 upd_same), ez, ?_⟩
    refine ⟨_, rfl, _, rfl, _, _, rfl, rfl, a, sz0 - 1, rfl, (by omega), st1, fun g1 H2 g10 g11 st2 mv2 => ⟨_, _, rfl, rfl, _, rfl, _, rfl, _, _, rfl, rfl, a, sz0 - 1, rfl, (by omega), st2, fun g2 H3 g20 g21 st3 mv3 => ⟨_, _, rfl, rfl, _, _, rfl, ?_⟩⟩⟩
    obtain ⟨wd, ewd⟩ : ∃ z, 2 + g1 = z := ⟨_, rfl⟩
    obtain ⟨hg, ehg⟩ : ∃ z, 2 + g2 = z := ⟨_, rfl⟩
    dsimp only
    rw [ewd, ehg]
    have w2 : 2 ≤ wd := by omega
    have h2 : 2 ≤ hg := by omega
    refine ⟨_, rfl, _, rfl, _, rfl, a, wd, hg, rfl, st3, fun su p1 p2 x1 y1 x2 y2 H4 sd0 eu e1 e2 st4 mv4 nsu => ⟨su, _, rfl, SqL.of eu, rfl, _, _, rfl, _, _, rfl, rfl, ?_⟩⟩
    have hy : ¬ x1 = x2 → y1 = y2 := fun z => by
      unfold Side at sd0
      omega
    refine ⟨_, rfl, _, rfl, a, wd, rfl, (by omega), st4, fun sx H5 sx0 sx1 st5 mv5 => ⟨_, rfl, _, rfl, a, hg, rfl, (by omega), st5, fun sy H6 sy0 sy1 st6 mv6 => ⟨(by show 2 ≤ sizeLine; decide), fun sp hsp => ?_⟩⟩⟩
    have np1 := st_tup st4 e1
    have np2 := st_tup st4 e2
    have s7 := new_same (o := .tup [.int sx, .int sy]) hsp
    have esp : upd H6 sp (.tup [.int sx, .int sy]) sp = some (.tup [.int sx, .int sy]) := upd_same
    have e1c := s7 _ _ (mv6 _ _ np1 (mv5 _ _ np1 e1))
    have e2c := s7 _ _ (mv6 _ _ np2 (mv5 _ _ np2 e2))
    have st7 := st6.mono s7
    have mv7 : Mv a H (upd H6 sp (.tup [.int sx, .int sy])) := ((((((Mv.of (new_same hu1)).trans mv1).trans mv2).trans mv3).trans mv4).trans (mv5.trans mv6)).trans (Mv.of s7)
    generalize upd H6 sp (.tup [.int sx, .int sy]) = H7 at s7 esp e1c e2c st7 mv7 ⊢
    refine ⟨_, rfl, _, rfl, p1, sp, x1, y1, sx, sy, rfl, .inl (.inl e1c), .inl (.inl (.inl esp)), _, rfl, _, rfl, p2, sp, x2, y2, sx, sy, rfl, .inl (.inl e2c), .inl (.inl (.inl esp)), (by show 2 ≤ sizeLine; decide), fun cd hcd => ?_⟩
    have ok1 : gpOk wd hg x1 y1 x2 y2 (gf x1 y1 sx sy) (gf x2 y2 sx sy) sx sy = true := ok_iff.mpr ⟨sx0, sx1, sy0, sy1, rfl, rfl⟩
    generalize gf x1 y1 sx sy = k1 at ok1 hcd ⊢
    generalize gf x2 y2 sx sy = k2 at ok1 hcd ⊢
    obtain ⟨gx, gy⟩ := grid_is sd0 w2 h2 ok1
    have ncd : cd ≠ a := st_ne st7 hcd
    have s8 := new_same (o := .lst [.int k1, .int k2]) hcd
    have ecd : upd H7 cd (.lst [.int k1, .int k2]) cd = some (.lst [.int k1, .int k2]) := upd_same
    generalize upd H7 cd (.lst [.int k1, .int k2]) = H8 at s8 ecd ⊢
    refine ⟨_, rfl, cd, _, rfl, .inl (SqL.of ecd), fun hd hhd => ?_⟩
    have s9 := new_same (o := .lst [.int k1, .int k2]) hhd
    have ehd : upd H8 hd (.lst [.int k1, .int k2]) hd = some (.lst [.int k1, .int k2]) := upd_same
    generalize upd H8 hd (.lst [.int k1, .int k2]) = H9 at s9 ehd ⊢
    have s89 := s8.trans s9
    refine ⟨_, rfl, _, rfl, _, rfl, _, rfl, _, rfl, (by show 5 ≤ sizeLine; decide), fun tp htp => ⟨2, tp, _, rfl, .inl (.inl upd_same), (by decide), rfl, fun Hz Q' E' sz hq he => ?_⟩⟩
    have s10 := (new_same (o := .tup [.int wd, .int hg, .ref p1, .ref p2, .ref hd]) htp).trans sz
    refine (show spGr K C (spGr K C S9) _ _ _ _ from gr_call (x1 := x1) (y1 := y1) (x2 := x2) (y2 := y2) (d1 := k1) (d2 := k2) (.inl (.inl (s10 _ _ (s89 _ _ e1c)))) (.inl (.inl (s10 _ _ (s89 _ _ e2c)))) (SqL.of (s10 _ _ ehd)) hy ?_)
    rw [gx, gy, if_pos ok1]
    refine fun H11 r s11 er => hq _ _ ?_
    have s911 := s10.trans s11
    have s711 := s89.trans s911
    refine ⟨_, rfl, .tuple [.int sx, .int sy], .tuple [.int sx, .int sy], .tup (.inl (.inl er)) (.cons (.int _) (.cons (.int _) .nil)), .tup (.inl (.inl (s711 _ _ esp))) (.cons (.int _) (.cons (.int _) .nil)), (by rfl), (by rfl), (by rfl), _, rfl, ?_⟩
    show if (!Spec.same (.tuple [.int sx, .int sy]) (.tuple [.int sx, .int sy])) = true then _ else _
    rw [same_pair]
    refine iteF ?_
    have ecd11 := s911 _ _ (s9 _ _ ecd)
    refine ⟨_, rfl, _, rfl, .list [.int k1, .int k2], .list [.int k1, .int k2], .lst (SqL.of (s911 _ _ ehd)) (.cons (.int _) (.cons (.int _) .nil)), .lst (SqL.of ecd11) (.cons (.int _) (.cons (.int _) .nil)), (by rfl), (by rfl), (by rfl), _, rfl, ?_⟩
    show if (!Spec.same (.list [.int k1, .int k2]) (.list [.int k1, .int k2])) = true then _ else _
    rw [same_pairL]
    refine iteF ?_
    have st11 := st7.mono s711
    have e1b := s711 _ _ e1c
    have e2b := s711 _ _ e2c
    refine ⟨_, rfl, _, rfl, a, cd, [k1, k2], rfl, Ne.symm ncd, st11, SqL.of ecd11, (by show 0 < 2; decide), (by show 2 ≤ 20; decide), fun ts tl H12 tlen st12 mv12 ntl etl => ?_⟩
    obtain ⟨t1, t2, rfl⟩ : ∃ t1 t2, ts = [t1, t2] := match ts, tlen with | [t1, t2], _ => ⟨t1, t2, rfl⟩
    refine ⟨_, rfl, tl, _, rfl, .inl (SqL.of etl), fun hd2 hhd2 => ?_⟩
    have s13 := new_same (o := .lst ([t1, t2].map V.int)) hhd2
    have ehd0 : upd H12 hd2 (.lst ([t1, t2].map V.int)) hd2 = some (.lst ([t1, t2].map V.int)) := upd_same
    generalize upd H12 hd2 (.lst ([t1, t2].map V.int)) = H13 at s13 ehd0 ⊢
    have e1a := s13 _ _ (mv12 _ _ (st_tup st11 e1b) e1b)
    have e2a := s13 _ _ (mv12 _ _ (st_tup st11 e2b) e2b)
    refine ⟨_, rfl, _, rfl, _, rfl, _, rfl, _, rfl, wd, hg, p1, p2, tl, x1, y1, x2, y2, t1, t2, rfl, .inl (.inl e1a), .inl (.inl e2a), SqL.of (s13 _ _ etl), ?_⟩
    have mv13 : Mv a H H13 := ((mv7.trans (Mv.of s711)).trans mv12).trans (Mv.of s13)
    have st13 := st12.mono s13
    by_cases okh : gpOk wd hg x1 y1 x2 y2 t1 t2 (hpx x1 y1 x2 y2 t1 t2) (hpy x1 y1 x2 y2 t1 t2) = true
    · rw [if_pos okh]
      obtain ⟨gx2, gy2⟩ := grid_is sd0 w2 h2 okh
      have okg : gpOk wd hg x1 y1 x2 y2 t1 t2 (gqx wd hg x1 y1 x2 t1 t2) (gqy wd hg x1 y1 x2 t1 t2) = true := by
        rw [gx2, gy2]
        exact okh
      refine fun H14 r s14 er0 => ?_
      have er1 : H14 r = some (.tup [.int (gqx wd hg x1 y1 x2 t1 t2), .int (gqy wd hg x1 y1 x2 t1 t2)]) := by
        rw [gx2, gy2]
        exact er0
      have e1d := s14 _ _ e1a
      have e2d := s14 _ _ e2a
      have ehd2 := s14 _ _ ehd0
      have etl2 := s14 _ _ (s13 _ _ etl)
      have st14 := st13.mono s14
      have mv14 := mv13.trans (Mv.of s14)
      refine ⟨_, rfl, _, rfl, wd, hg, rfl, _, _, rfl, rfl, _, rfl, ?_⟩
      refine ite2 (fun c => ?_) (fun c => ?_)
      · obtain ⟨due, edue⟩ : ∃ d : V, d = V.ref r := ⟨_, rfl⟩
        rw [← edue]
        have mx : wd < 7 ∧ hg < 7 := by
          have z := of_decide_eq_true c
          have z2 : (if hg > wd then hg else wd) < 7 := z
          split at z2 <;> omega
        refine ⟨(by show 0 ≤ sizeLine; decide), fun ev hev => ?_⟩
        refine ⟨_, rfl, wd, rfl, (by omega), (by omega), ?_⟩
        refine for_range (lo := 0) (n := wd.toNat) (fun i σ H20 => ∃ w12 : Option V, σ = [some (.ref a), some (.int sz0), some (.int wd), some (.int hg), some (.ref p1), some (.ref p2), some (.ref sp), some (.ref cd), some (.ref hd2), some (.ref tl), some due, some (.ref ev), w12] ∧ Same H14 H20 ∧ ∃ (ys : List V) (ps : List (Int × Int)), H20 ev = some (.lst ys) ∧ Tp H20 ys ps ∧ ps.length ≤ 6 * i ∧ ∀ p, p ∈ ps ↔ (0 ≤ p.1 ∧ p.1 < (i : Int) ∧ 0 ≤ p.2 ∧ p.2 < hg)) ⟨_, rfl, new_same hev, [], [], upd_same, .nil, (by simp), (fun p => ⟨fun h => (nomatch h), fun h => by have := h.1; have := h.2.1; omega⟩)⟩ ?_ ?_
        · rintro i σ H20 hi ⟨w12, rfl, s20, ys, ps, ey, tp0, pl, pm⟩
          refine ⟨_, rfl, .inl ⟨rfl, _, SqL.of ey⟩, ?_⟩
          refine ⟨_, rfl, hg, rfl, (by omega), (by omega), comp_range (lo := 0) (n := hg.toNat) (fun j us Hd => Same H20 Hd ∧ ∃ qs : List (Int × Int), Tp Hd us qs ∧ qs.length = j ∧ ∀ p, p ∈ qs ↔ (p.1 = (i : Int) ∧ 0 ≤ p.2 ∧ p.2 < (j : Int))) ⟨Same.refl _, [], .nil, rfl, fun p => ⟨fun h => (nomatch h), fun h => by have := h.2.1; have := h.2.2; omega⟩⟩ ?_ ?_ ?_⟩
          · rintro j us Hd hj ⟨sd, qs, tq, ql, qm⟩
            rw [tq.len, ql]
            exact Nat.lt_of_lt_of_le (show j < 7 by omega) (by decide)
          · rintro j us Hd hj ⟨sd, qs, tq, ql, qm⟩
            unfold tYes
            dsimp only
            rw [if_pos rfl]
            refine ⟨_, rfl, _, rfl, (by show 2 ≤ sizeLine; decide), fun T6 hT6 => ?_⟩
            have sT := new_same (o := .tup [.int (0 + (i : Int)), .int (0 + (j : Int))]) hT6
            refine ⟨sd.trans sT, qs ++ [(0 + (i : Int), 0 + (j : Int))], (tq.mono sT).append (.cons upd_same .nil), (by rw [List.length_append, ql]; rfl), fun p => ?_⟩
            rw [List.mem_append, List.mem_singleton, qm p]
            obtain ⟨pa, pb⟩ := p
            constructor
            · rintro (⟨h1, h2, h3⟩ | h)
              · dsimp only at h1 h2 h3 ⊢
                omega
              · cases h
                dsimp only
                omega
            · rintro ⟨h1, h2, h3⟩
              dsimp only at h1 h2 h3 ⊢
              by_cases z : pb < (j : Int)
              · exact .inl ⟨h1, h2, z⟩
              · refine .inr ?_
                have z1 : pa = 0 + (i : Int) := by omega
                have z2 : pb = 0 + (j : Int) := by omega
                rw [z1, z2]
          · rintro us Hd ⟨sd, qs, tq, ql, qm⟩ u6 hu6
            have sU := new_same (o := .lst us) hu6
            have ey2 := sU _ _ (sd _ _ ey)
            refine ⟨ev, u6, ys, us, rfl, rfl, ey2, upd_same, (by rw [tp0.len, tq.len, ql]; exact Nat.le_trans (show ps.length + hg.toNat ≤ 100 by omega) (by decide)), ?_⟩
            refine ⟨_, rfl, same_upd ((s20.trans sd).trans sU) hev, ys ++ us, ps ++ qs, upd_same, (((tp0.mono sd).mono sU).append (tq.mono sU)).upd ey2, (by rw [List.length_append, ql]; omega), fun p => ?_⟩
            rw [List.mem_append, pm p, qm p]
            have e0 : ((hg.toNat : Nat) : Int) = hg := by omega
            rw [e0]
            constructor
            · rintro (⟨h1, h2, h3, h4⟩ | ⟨h1, h2, h3⟩)
              · exact ⟨h1, by omega, h3, h4⟩
              · exact ⟨by omega, by omega, h2, h3⟩
            · rintro ⟨h1, h2, h3, h4⟩
              by_cases z : p.1 < (i : Int)
              · exact .inl ⟨h1, z, h3, h4⟩
              · exact .inr ⟨by omega, h3, h4⟩
        · rintro σ H20 ⟨w12, rfl, s20, ys, ps, ey, tp0, pl, pm⟩
          have e0 : ((wd.toNat : Nat) : Int) = wd := by omega
          rw [e0] at pm
          refine ⟨_, rfl, ev, rfl, ⟨_, SqL.of ey⟩, comp_list (xs := ys) (fun j us Hd => Same H20 Hd ∧ Tp Hd us ((ps.take j).filter fun p => decide ([gf x1 y1 p.1 p.2, gf x2 y2 p.1 p.2] = [t1, t2]))) ⟨Same.refl _, .nil⟩ ?_ ?_ ?_ ?_⟩
          · rintro j us Hd hj ⟨sd, tq⟩
            rw [tq.len]
            exact Nat.lt_of_le_of_lt (Nat.le_trans (List.length_filter_le _ _) (Nat.le_trans (by rw [List.length_take]; exact Nat.min_le_right _ _) (show ps.length ≤ 100 by omega))) (by decide)
          · rintro j us Hd hj ⟨sd, tq⟩
            exact SqL.of (sd _ _ ey)
          · rintro j v us Hd hv ⟨sd, tq⟩
            obtain ⟨b, px, py, rfl, eb, ep⟩ := tp0.get j v hv
            have sX := s20.trans sd
            refine ⟨_, rfl, _, rfl, p1, b, x1, y1, px, py, rfl, .inl (.inl (sX _ _ e1d)), .inl (.inl (.inl (sd _ _ eb))), _, rfl, _, rfl, p2, b, x2, y2, px, py, rfl, .inl (.inl (sX _ _ e2d)), .inl (.inl (.inl (sd _ _ eb))), (by show 2 ≤ sizeLine; decide), fun li hli => ?_⟩
            have sL := new_same (o := .lst [.int (gf x1 y1 px py), .int (gf x2 y2 px py)]) hli
            refine ⟨_, rfl, li, tl, [gf x1 y1 px py, gf x2 y2 px py], [t1, t2], rfl, rfl, SqL.of upd_same, SqL.of (sL _ _ (sX _ _ etl2)), _, rfl, ?_⟩
            have tk : ps.take (j + 1) = ps.take j ++ [(px, py)] := by rw [List.take_succ, ep]; rfl
            refine ite2 (fun hc => ?_) (fun hc => ?_)
            · refine ⟨_, rfl, sd.trans sL, ?_⟩
              rw [tk, List.filter_append, List.filter_cons, if_pos hc]
              exact (tq.mono sL).append (.cons (sL _ _ (sd _ _ eb)) .nil)
            · refine ⟨sd.trans sL, ?_⟩
              rw [tk, List.filter_append, List.filter_cons, if_neg hc, List.filter_nil, List.append_nil]
              exact tq.mono sL
          · rintro us Hd ⟨sd, tq⟩ u6 hu6
            rw [tp0.len, List.take_length] at tq
            have fm : ∀ p, p ∈ (ps.filter fun p => decide ([gf x1 y1 p.1 p.2, gf x2 y2 p.1 p.2] = [t1, t2])) ↔ gpOk wd hg x1 y1 x2 y2 t1 t2 p.1 p.2 = true := fun p => by
              rw [List.mem_filter, pm p, ok_iff, decide_eq_true_iff]
              simp only [List.cons.injEq, and_true]
              constructor
              · rintro ⟨⟨h1, h2, h3, h4⟩, h5, h6⟩
                exact ⟨h1, h2, h3, h4, h5, h6⟩
              · rintro ⟨h1, h2, h3, h4, h5, h6⟩
                exact ⟨⟨h1, h2, h3, h4⟩, h5, h6⟩
            have ul : us.length ≤ 100 := by
              rw [tq.len]
              exact Nat.le_trans (List.length_filter_le _ _) (by omega)
            generalize (ps.filter fun p => decide ([gf x1 y1 p.1 p.2, gf x2 y2 p.1 p.2] = [t1, t2])) = fs at tq fm
            have sU := new_same (o := .lst us) hu6
            refine ⟨(by show 1 ≤ sizeLine; decide), fun n1 hn1 => ?_⟩
            have sN := new_same (o := .lst [.str "none"]) hn1
            refine ⟨u6, n1, us, [.str "none"], rfl, rfl, sN _ _ upd_same, upd_same, Nat.le_trans (show us.length + 1 ≤ 101 by omega) (by decide), fun c1 hc1 => ?_⟩
            have sC := new_same (o := .lst (us ++ [.str "none"])) hc1
            have sY := s20.trans (((sd.trans sU).trans sN).trans sC)
            rcases tq.head with ⟨rfl, rfl⟩ | ⟨b6, px, py, zs, qs, rfl, rfl, hb⟩
            · have := (fm (hpx x1 y1 x2 y2 t1 t2, hpy x1 y1 x2 y2 t1 t2)).mpr okh
              cases this
            · obtain ⟨g1x, g1y⟩ := grid_is sd0 w2 h2 ((fm (px, py)).mp (by simp))
              refine ⟨c1, _, 0, .ref b6, rfl, rfl, SqL.of upd_same, atI_nat (j := 0) rfl, ?_⟩
              have er := (sC _ _ (sN _ _ (sU _ _ hb))).trans (show some (HO.tup [.int px, .int py]) = some (HO.tup [.int (gqx wd hg x1 y1 x2 t1 t2), .int (gqy wd hg x1 y1 x2 t1 t2)]) by rw [g1x, g1y])
              refine ⟨_, rfl, _, rfl, _, rfl, _, rfl, _, rfl, (by show 5 ≤ sizeLine; decide), fun tp2 htp2 => ⟨2, tp2, _, rfl, .inl (.inl upd_same), (by decide), rfl, fun Hw Q2 E2 sw hq2 he2 => ?_⟩⟩
              have s15 := ((sY).trans (new_same (o := .tup [.int wd, .int hg, .ref p1, .ref p2, .ref hd2]) htp2)).trans sw
              refine (show spGr K C (spGr K C S9) _ _ _ _ from gr_call (x1 := x1) (y1 := y1) (x2 := x2) (y2 := y2) (d1 := t1) (d2 := t2) (.inl (.inl (s15 _ _ e1d))) (.inl (.inl (s15 _ _ e2d))) (SqL.of (s15 _ _ ehd2)) hy ?_)
              rw [if_pos okg]
              refine fun H16 r2 s16 er2 => hq2 _ _ ?_
              have s17 := s15.trans s16
              have erz := s16 _ _ (sw _ _ (new_same (o := .tup [.int wd, .int hg, .ref p1, .ref p2, .ref hd2]) htp2 _ _ er))
              refine ⟨_, rfl, .tuple [.int (gqx wd hg x1 y1 x2 t1 t2), .int (gqy wd hg x1 y1 x2 t1 t2)], .tuple [.int (gqx wd hg x1 y1 x2 t1 t2), .int (gqy wd hg x1 y1 x2 t1 t2)], .tup (.inl (.inl er2)) (.cons (.int _) (.cons (.int _) .nil)), .tup (.inl (.inl erz)) (.cons (.int _) (.cons (.int _) .nil)), (by rfl), (by rfl), (by rfl), _, rfl, ?_⟩
              show if (Spec.same (.tuple [.int (gqx wd hg x1 y1 x2 t1 t2), .int (gqy wd hg x1 y1 x2 t1 t2)]) (.tuple [.int (gqx wd hg x1 y1 x2 t1 t2), .int (gqy wd hg x1 y1 x2 t1 t2)])) = true then _ else _
              rw [same_pair]
              refine iteT ?_
              refine ⟨_, rfl, _, rfl, .list [.int t1, .int t2], .list [.int t1, .int t2], .lst (SqL.of (s17 _ _ ehd2)) (.cons (.int _) (.cons (.int _) .nil)), .lst (SqL.of (s17 _ _ etl2)) (.cons (.int _) (.cons (.int _) .nil)), (by rfl), (by rfl), (by rfl), ?_⟩
              show Q (.bl (Spec.same (.list [.int t1, .int t2]) (.list [.int t1, .int t2]))) _
              rw [same_pairL]
              exact q _ (st14.mono s17) (mv14.trans (Mv.of s17))
      · refine ⟨_, rfl, _, rfl, _, rfl, _, rfl, _, rfl, (by show 5 ≤ sizeLine; decide), fun tp2 htp2 => ⟨2, tp2, _, rfl, .inl (.inl upd_same), (by decide), rfl, fun Hw Q2 E2 sw hq2 he2 => ?_⟩⟩
        have s15 := (((Same.refl H14)).trans (new_same (o := .tup [.int wd, .int hg, .ref p1, .ref p2, .ref hd2]) htp2)).trans sw
        refine (show spGr K C (spGr K C S9) _ _ _ _ from gr_call (x1 := x1) (y1 := y1) (x2 := x2) (y2 := y2) (d1 := t1) (d2 := t2) (.inl (.inl (s15 _ _ e1d))) (.inl (.inl (s15 _ _ e2d))) (SqL.of (s15 _ _ ehd2)) hy ?_)
        rw [if_pos okg]
        refine fun H16 r2 s16 er2 => hq2 _ _ ?_
        have s17 := s15.trans s16
        have erz := s16 _ _ (sw _ _ (new_same (o := .tup [.int wd, .int hg, .ref p1, .ref p2, .ref hd2]) htp2 _ _ er1))
        refine ⟨_, rfl, .tuple [.int (gqx wd hg x1 y1 x2 t1 t2), .int (gqy wd hg x1 y1 x2 t1 t2)], .tuple [.int (gqx wd hg x1 y1 x2 t1 t2), .int (gqy wd hg x1 y1 x2 t1 t2)], .tup (.inl (.inl er2)) (.cons (.int _) (.cons (.int _) .nil)), .tup (.inl (.inl erz)) (.cons (.int _) (.cons (.int _) .nil)), (by rfl), (by rfl), (by rfl), _, rfl, ?_⟩
        show if (Spec.same (.tuple [.int (gqx wd hg x1 y1 x2 t1 t2), .int (gqy wd hg x1 y1 x2 t1 t2)]) (.tuple [.int (gqx wd hg x1 y1 x2 t1 t2), .int (gqy wd hg x1 y1 x2 t1 t2)])) = true then _ else _
        rw [same_pair]
        refine iteT ?_
        refine ⟨_, rfl, _, rfl, .list [.int t1, .int t2], .list [.int t1, .int t2], .lst (SqL.of (s17 _ _ ehd2)) (.cons (.int _) (.cons (.int _) .nil)), .lst (SqL.of (s17 _ _ etl2)) (.cons (.int _) (.cons (.int _) .nil)), (by rfl), (by rfl), (by rfl), ?_⟩
        show Q (.bl (Spec.same (.list [.int t1, .int t2]) (.list [.int t1, .int t2]))) _
        rw [same_pairL]
        exact q _ (st14.mono s17) (mv14.trans (Mv.of s17))
    · rw [if_neg okh]
      have no : ∀ x y, ¬ gpOk wd hg x1 y1 x2 y2 t1 t2 x y = true := fun x y h => okh (by
        obtain ⟨h1, h2'⟩ := half_is sd0 w2 h2 h
        rw [h1, h2']
        exact h)
      refine fun H14 s14 => ?_
      have e1d := s14 _ _ e1a
      have e2d := s14 _ _ e2a
      have ehd2 := s14 _ _ ehd0
      have etl2 := s14 _ _ (s13 _ _ etl)
      have st14 := st13.mono s14
      have mv14 := mv13.trans (Mv.of s14)
      refine ⟨_, rfl, _, rfl, wd, hg, rfl, _, _, rfl, rfl, _, rfl, ?_⟩
      refine ite2 (fun c => ?_) (fun c => ?_)
      · have mx : wd < 7 ∧ hg < 7 := by
          have z := of_decide_eq_true c
          have z2 : (if hg > wd then hg else wd) < 7 := z
          split at z2 <;> omega
        refine ⟨(by show 0 ≤ sizeLine; decide), fun ev hev => ?_⟩
        refine ⟨_, rfl, wd, rfl, (by omega), (by omega), ?_⟩
        refine for_range (lo := 0) (n := wd.toNat) (fun i σ H20 => ∃ w12 : Option V, σ = [some (.ref a), some (.int sz0), some (.int wd), some (.int hg), some (.ref p1), some (.ref p2), some (.ref sp), some (.ref cd), some (.ref hd2), some (.ref tl), some (.str "none"), some (.ref ev), w12] ∧ Same H14 H20 ∧ ∃ (ys : List V) (ps : List (Int × Int)), H20 ev = some (.lst ys) ∧ Tp H20 ys ps ∧ ps.length ≤ 6 * i ∧ ∀ p, p ∈ ps ↔ (0 ≤ p.1 ∧ p.1 < (i : Int) ∧ 0 ≤ p.2 ∧ p.2 < hg)) ⟨_, rfl, new_same hev, [], [], upd_same, .nil, (by simp), (fun p => ⟨fun h => (nomatch h), fun h => by have := h.1; have := h.2.1; omega⟩)⟩ ?_ ?_
        · rintro i σ H20 hi ⟨w12, rfl, s20, ys, ps, ey, tp0, pl, pm⟩
          refine ⟨_, rfl, .inl ⟨rfl, _, SqL.of ey⟩, ?_⟩
          refine ⟨_, rfl, hg, rfl, (by omega), (by omega), comp_range (lo := 0) (n := hg.toNat) (fun j us Hd => Same H20 Hd ∧ ∃ qs : List (Int × Int), Tp Hd us qs ∧ qs.length = j ∧ ∀ p, p ∈ qs ↔ (p.1 = (i : Int) ∧ 0 ≤ p.2 ∧ p.2 < (j : Int))) ⟨Same.refl _, [], .nil, rfl, fun p => ⟨fun h => (nomatch h), fun h => by have := h.2.1; have := h.2.2; omega⟩⟩ ?_ ?_ ?_⟩
          · rintro j us Hd hj ⟨sd, qs, tq, ql, qm⟩
            rw [tq.len, ql]
            exact Nat.lt_of_lt_of_le (show j < 7 by omega) (by decide)
          · rintro j us Hd hj ⟨sd, qs, tq, ql, qm⟩
            unfold tYes
            dsimp only
            rw [if_pos rfl]
            refine ⟨_, rfl, _, rfl, (by show 2 ≤ sizeLine; decide), fun T6 hT6 => ?_⟩
            have sT := new_same (o := .tup [.int (0 + (i : Int)), .int (0 + (j : Int))]) hT6
            refine ⟨sd.trans sT, qs ++ [(0 + (i : Int), 0 + (j : Int))], (tq.mono sT).append (.cons upd_same .nil), (by rw [List.length_append, ql]; rfl), fun p => ?_⟩
            rw [List.mem_append, List.mem_singleton, qm p]
            obtain ⟨pa, pb⟩ := p
            constructor
            · rintro (⟨h1, h2, h3⟩ | h)
              · dsimp only at h1 h2 h3 ⊢
                omega
              · cases h
                dsimp only
                omega
            · rintro ⟨h1, h2, h3⟩
              dsimp only at h1 h2 h3 ⊢
              by_cases z : pb < (j : Int)
              · exact .inl ⟨h1, h2, z⟩
              · refine .inr ?_
                have z1 : pa = 0 + (i : Int) := by omega
                have z2 : pb = 0 + (j : Int) := by omega
                rw [z1, z2]
          · rintro us Hd ⟨sd, qs, tq, ql, qm⟩ u6 hu6
            have sU := new_same (o := .lst us) hu6
            have ey2 := sU _ _ (sd _ _ ey)
            refine ⟨ev, u6, ys, us, rfl, rfl, ey2, upd_same, (by rw [tp0.len, tq.len, ql]; exact Nat.le_trans (show ps.length + hg.toNat ≤ 100 by omega) (by decide)), ?_⟩
            refine ⟨_, rfl, same_upd ((s20.trans sd).trans sU) hev, ys ++ us, ps ++ qs, upd_same, (((tp0.mono sd).mono sU).append (tq.mono sU)).upd ey2, (by rw [List.length_append, ql]; omega), fun p => ?_⟩
            rw [List.mem_append, pm p, qm p]
            have e0 : ((hg.toNat : Nat) : Int) = hg := by omega
            rw [e0]
            constructor
            · rintro (⟨h1, h2, h3, h4⟩ | ⟨h1, h2, h3⟩)
              · exact ⟨h1, by omega, h3, h4⟩
              · exact ⟨by omega, by omega, h2, h3⟩
            · rintro ⟨h1, h2, h3, h4⟩
              by_cases z : p.1 < (i : Int)
              · exact .inl ⟨h1, z, h3, h4⟩
              · exact .inr ⟨by omega, h3, h4⟩
        · rintro σ H20 ⟨w12, rfl, s20, ys, ps, ey, tp0, pl, pm⟩
          have e0 : ((wd.toNat : Nat) : Int) = wd := by omega
          rw [e0] at pm
          refine ⟨_, rfl, ev, rfl, ⟨_, SqL.of ey⟩, comp_list (xs := ys) (fun j us Hd => Same H20 Hd ∧ Tp Hd us ((ps.take j).filter fun p => decide ([gf x1 y1 p.1 p.2, gf x2 y2 p.1 p.2] = [t1, t2]))) ⟨Same.refl _, .nil⟩ ?_ ?_ ?_ ?_⟩
          · rintro j us Hd hj ⟨sd, tq⟩
            rw [tq.len]
            exact Nat.lt_of_le_of_lt (Nat.le_trans (List.length_filter_le _ _) (Nat.le_trans (by rw [List.length_take]; exact Nat.min_le_right _ _) (show ps.length ≤ 100 by omega))) (by decide)
          · rintro j us Hd hj ⟨sd, tq⟩
            exact SqL.of (sd _ _ ey)
          · rintro j v us Hd hv ⟨sd, tq⟩
            obtain ⟨b, px, py, rfl, eb, ep⟩ := tp0.get j v hv
            have sX := s20.trans sd
            refine ⟨_, rfl, _, rfl, p1, b, x1, y1, px, py, rfl, .inl (.inl (sX _ _ e1d)), .inl (.inl (.inl (sd _ _ eb))), _, rfl, _, rfl, p2, b, x2, y2, px, py, rfl, .inl (.inl (sX _ _ e2d)), .inl (.inl (.inl (sd _ _ eb))), (by show 2 ≤ sizeLine; decide), fun li hli => ?_⟩
            have sL := new_same (o := .lst [.int (gf x1 y1 px py), .int (gf x2 y2 px py)]) hli
            refine ⟨_, rfl, li, tl, [gf x1 y1 px py, gf x2 y2 px py], [t1, t2], rfl, rfl, SqL.of upd_same, SqL.of (sL _ _ (sX _ _ etl2)), _, rfl, ?_⟩
            have tk : ps.take (j + 1) = ps.take j ++ [(px, py)] := by rw [List.take_succ, ep]; rfl
            refine ite2 (fun hc => ?_) (fun hc => ?_)
            · refine ⟨_, rfl, sd.trans sL, ?_⟩
              rw [tk, List.filter_append, List.filter_cons, if_pos hc]
              exact (tq.mono sL).append (.cons (sL _ _ (sd _ _ eb)) .nil)
            · refine ⟨sd.trans sL, ?_⟩
              rw [tk, List.filter_append, List.filter_cons, if_neg hc, List.filter_nil, List.append_nil]
              exact tq.mono sL
          · rintro us Hd ⟨sd, tq⟩ u6 hu6
            rw [tp0.len, List.take_length] at tq
            have fm : ∀ p, p ∈ (ps.filter fun p => decide ([gf x1 y1 p.1 p.2, gf x2 y2 p.1 p.2] = [t1, t2])) ↔ gpOk wd hg x1 y1 x2 y2 t1 t2 p.1 p.2 = true := fun p => by
              rw [List.mem_filter, pm p, ok_iff, decide_eq_true_iff]
              simp only [List.cons.injEq, and_true]
              constructor
              · rintro ⟨⟨h1, h2, h3, h4⟩, h5, h6⟩
                exact ⟨h1, h2, h3, h4, h5, h6⟩
              · rintro ⟨h1, h2, h3, h4, h5, h6⟩
                exact ⟨⟨h1, h2, h3, h4⟩, h5, h6⟩
            have ul : us.length ≤ 100 := by
              rw [tq.len]
              exact Nat.le_trans (List.length_filter_le _ _) (by omega)
            generalize (ps.filter fun p => decide ([gf x1 y1 p.1 p.2, gf x2 y2 p.1 p.2] = [t1, t2])) = fs at tq fm
            have sU := new_same (o := .lst us) hu6
            refine ⟨(by show 1 ≤ sizeLine; decide), fun n1 hn1 => ?_⟩
            have sN := new_same (o := .lst [.str "none"]) hn1
            refine ⟨u6, n1, us, [.str "none"], rfl, rfl, sN _ _ upd_same, upd_same, Nat.le_trans (show us.length + 1 ≤ 101 by omega) (by decide), fun c1 hc1 => ?_⟩
            have sC := new_same (o := .lst (us ++ [.str "none"])) hc1
            have sY := s20.trans (((sd.trans sU).trans sN).trans sC)
            rcases tq.head with ⟨rfl, rfl⟩ | ⟨b6, px, py, zs, qs, rfl, rfl, hb⟩
            rotate_left
            · exact absurd ((fm (px, py)).mp (by simp)) (no _ _)
            · refine ⟨c1, _, 0, .str "none", rfl, rfl, SqL.of upd_same, atI_nat (j := 0) rfl, ?_⟩
              refine ⟨_, rfl, _, rfl, _, rfl, _, rfl, _, rfl, (by show 5 ≤ sizeLine; decide), fun tp2 htp2 => ⟨2, tp2, _, rfl, .inl (.inl upd_same), (by decide), rfl, fun Hw Q2 E2 sw hq2 he2 => ?_⟩⟩
              have s15 := ((sY).trans (new_same (o := .tup [.int wd, .int hg, .ref p1, .ref p2, .ref hd2]) htp2)).trans sw
              refine (show spGr K C (spGr K C S9) _ _ _ _ from gr_call (x1 := x1) (y1 := y1) (x2 := x2) (y2 := y2) (d1 := t1) (d2 := t2) (.inl (.inl (s15 _ _ e1d))) (.inl (.inl (s15 _ _ e2d))) (SqL.of (s15 _ _ ehd2)) hy ?_)
              rw [if_neg (no _ _)]
              refine fun H16 e16 s16 ee => he2 _ _ ee ?_
              have s17 := s15.trans s16
              refine ⟨_, rfl, .str "none", .str "none", .str _, .str _, (by decide +kernel), (by decide +kernel), (by rfl), _, rfl, ?_⟩
              show if (Spec.same (.str "none") (.str "none")) = true then _ else _
              rw [same_str]
              refine iteT ?_
              refine ⟨_, rfl, _, rfl, .list [.int t1, .int t2], .list [.int t1, .int t2], .lst (SqL.of (s17 _ _ ehd2)) (.cons (.int _) (.cons (.int _) .nil)), .lst (SqL.of (s17 _ _ etl2)) (.cons (.int _) (.cons (.int _) .nil)), (by rfl), (by rfl), (by rfl), ?_⟩
              show Q (.bl (Spec.same (.list [.int t1, .int t2]) (.list [.int t1, .int t2]))) _
              rw [same_pairL]
              exact q _ (st14.mono s17) (mv14.trans (Mv.of s17))
      · refine ⟨_, rfl, _, rfl, _, rfl, _, rfl, _, rfl, (by show 5 ≤ sizeLine; decide), fun tp2 htp2 => ⟨2, tp2, _, rfl, .inl (.inl upd_same), (by decide), rfl, fun Hw Q2 E2 sw hq2 he2 => ?_⟩⟩
        have s15 := (((Same.refl H14)).trans (new_same (o := .tup [.int wd, .int hg, .ref p1, .ref p2, .ref hd2]) htp2)).trans sw
        refine (show spGr K C (spGr K C S9) _ _ _ _ from gr_call (x1 := x1) (y1 := y1) (x2 := x2) (y2 := y2) (d1 := t1) (d2 := t2) (.inl (.inl (s15 _ _ e1d))) (.inl (.inl (s15 _ _ e2d))) (SqL.of (s15 _ _ ehd2)) hy ?_)
        rw [if_neg (no _ _)]
        refine fun H16 e16 s16 ee => he2 _ _ ee ?_
        have s17 := s15.trans s16
        refine ⟨_, rfl, .str "none", .str "none", .str _, .str _, (by decide +kernel), (by decide +kernel), (by rfl), _, rfl, ?_⟩
        show if (Spec.same (.str "none") (.str "none")) = true then _ else _
        rw [same_str]
        refine iteT ?_
        refine ⟨_, rfl, _, rfl, .list [.int t1, .int t2], .list [.int t1, .int t2], .lst (SqL.of (s17 _ _ ehd2)) (.cons (.int _) (.cons (.int _) .nil)), .lst (SqL.of (s17 _ _ etl2)) (.cons (.int _) (.cons (.int _) .nil)), (by rfl), (by rfl), (by rfl), ?_⟩
        show Q (.bl (Spec.same (.list [.int t1, .int t2]) (.list [.int t1, .int t2]))) _
        rw [same_pairL]
        exact q _ (st14.mono s17) (mv14.trans (Mv.of s17))
end
end K33

namespace K33
open PySem L2 PySem.W
def spLaw (K : Frag) : Sp := fun vs H Q _ => ∃ (a : Addr) (ns : List Int), vs = [.ref a] ∧ SqL K H a (ns.map V.int) ∧ ns.length ≤ 63 ∧ ∀ H', Q (.bl true) H'
section
variable {P : Program} {w : World} {K : Frag} {mg : Str → Option Value} {base : Heap}
abbrev lawN : List Str := ["script", "cell", "state"]
theorem scLaw : FnScope lawN ["script"] (defScope sLaw) := ⟨rfl, rfl, rfl, by decide +kernel, rfl, by decide +kernel, by decide +kernel⟩
theorem ok_law {f : Addr} {fd : FuncData} (F : Fun K "law" "law" sLaw f fd) (hF : Has P w K mg base 2 "_law_folded" ["script", "many"] (spFold K)) (hS : Has P w K mg base 1 "_law_state" ["cell"] spState) (hR : Has P w K mg base 5 "_law_ring_right" ["state"] spRight) (hG : Has P w K mg base 5 "_law_grid_right" ["state"] spRight) : FnOk P w K mg base CX0 6 f fd ["script"] (spLaw K) := by
  refine F.ok scLaw (fun vs H Q E h => ?_) (fun cdv A outer s H vs Q E hr h => ?_)
  · obtain ⟨a, ns, rfl, _⟩ := h
    rfl
  · obtain ⟨a, ns, rfl, hA, hlen, q⟩ := h
    have hr1 : Room 1 _ := hr.mono (by decide)
    have hr2 : Room 2 _ := hr.mono (by decide)
    refine ⟨_, pss_cons (ps_for PassesOwn.never rfl (pi_list (pe_has hF hr2 rfl (pa_cons (pv 0) (pa_cons pe_int pa_nil)))) (pg_name (i := 1) scLaw.nd rfl (Or.inl rfl))
        (pss_cons (ps_set (i := 2) scLaw.nd rfl (Or.inl rfl) (pe_has hS hr1 rfl (pa_cons (pv 1) pa_nil)))
        (pss_one (ps_if (PW.pt (pw_or (pt_not (pt_val (pe_has hR hr rfl (pa_cons (pv 2) pa_nil)))) (pw_or1 (pt_not (pt_val (pe_has hG hr rfl (pa_cons (pv 2) pa_nil))))))) (pss_one (ps_ret pe_bl)) pss_nil))))
      (pss_one (ps_ret pe_bl)), ?_⟩
    refine ⟨_, rfl, a, ns, rfl, hA, hlen, fun cs p H1 s1 hp hcs => ⟨p, rfl, ⟨_, SqL.of hp⟩, for_list (xs := cs.map V.int) (fun i σ H2 => ∃ v1 v2 : Option V, σ = [some (.ref a), v1, v2] ∧ Same H1 H2) ⟨none, none, rfl, Same.refl _⟩ ?_ ?_ ?_⟩⟩
    · rintro i σ H2 hi ⟨_, _, _, s2⟩
      exact SqL.of (s2 _ _ hp)
    · rintro i x σ H2 hx ⟨v1, v2, rfl, s2⟩
      obtain ⟨c, rfl⟩ : ∃ c, x = .int c := by
        rw [List.getElem?_map] at hx
        cases e : cs[i]? with
        | none => rw [e] at hx; cases hx
        | some c => rw [e] at hx; cases hx; exact ⟨c, rfl⟩
      refine ⟨_, rfl, c, rfl, fun t o ht st3 => ?_⟩
      refine ⟨_, rfl, t, rfl, st3, fun H4 st4 mv4 => ⟨_, rfl, ?_⟩⟩
      refine iteF ?_
      refine ⟨_, rfl, t, rfl, st4, fun H5 st5 mv5 => ⟨_, rfl, ?_⟩⟩
      refine iteF ?_
      exact ⟨_, _, rfl, s2.trans ((((Mv.of (new_same ht)).trans mv4).trans mv5).same ht)⟩
    · rintro σ H2 ⟨_, _, rfl, s2⟩
      exact q _
end
end K33

namespace K33
open PySem L2 PySem.W
def xisB (K : Frag) (C : Addr) : Bool := (xdIn K C && findIn K (.ref C) "__setattr__" == some (some (.builtin "object.__setattr__"))) && (findIn K (.ref C) "__getattribute__" == some (some (.builtin "BaseException.__getattribute__")) && findIn K (.ref C) "__getattr__" == some none) &&
  (findIn K (.ref C) "__class__" == some (some (.builtin "object.__class__")) && (specialIn K (.builtin "object.__class__") "__get__" == some (some (.builtin "getset_descriptor.__get__")) && takesIn K (.builtin "object.__class__") == some true))
theorem xis_of {K : Frag} {C : Addr} (h : xisB K C = true) : XIs K C := by
  unfold xisB at h
  simp only [Bool.and_eq_true, beq_iff_eq] at h
  obtain ⟨⟨⟨a, b⟩, c, d⟩, e, f, g⟩ := h
  exact ⟨⟨a, b, c, d⟩, e, f, g⟩
/-- a promise that is never kept -/
def never : Sp := fun _ _ _ _ => False
theorem never_ok {P : Program} {w : World} {K : Frag} {mg : Str → Option Value} {base : Heap} {CX : CXT} {k : Nat} {f : Addr} {fd : FuncData} {ps : List Str} : FnOk P w K mg base CX k f fd ps never := ⟨fun _ _ _ _ h => h.elim, fun _ _ _ _ _ _ _ _ _ _ _ _ _ h => h.elim⟩
theorem gr_mono {K : Frag} {C : Addr} {S : Sp} (mono : ∀ vs H (Q Q' : VK) E, (∀ v H, Q v H → Q' v H) → S vs H Q E → S vs H Q' E) : ∀ vs H (Q Q' : VK) E, (∀ v H, Q v H → Q' v H) → spGr K C S vs H Q E → spGr K C S vs H Q' E := by
  rintro vs H Q Q' E hq ⟨wd, hg, a, b, t, x1, y1, x2, y2, d1, d2, rfl, ha, hb, ht, q⟩
  refine ⟨wd, hg, a, b, t, x1, y1, x2, y2, d1, d2, rfl, ha, hb, ht, ?_⟩
  by_cases e : x1 = x2
  · rw [if_pos e] at q ⊢
    by_cases c : gpOk wd hg x1 y1 x2 y2 d1 d2 (gpx wd hg x1 d1 d2) (gpy hg y1 d1 d2) = true
    · rw [if_pos c] at q ⊢
      exact fun H' r s h => hq _ _ (q H' r s h)
    · rw [if_neg c] at q ⊢
      exact q
  · rw [if_neg e] at q ⊢
    exact fun H' a' b' s h1 h2 => mono _ _ _ _ _ (fun v H2 ⟨u, y, x, e1, e2, e3⟩ => ⟨u, y, x, e1, e2, fun H3 r s3 h3 => hq _ _ (e3 H3 r s3 h3)⟩) (q H' a' b' s h1 h2)
theorem all_mk {l : OpenLaw} {w : World} {K : Frag} {h : Heap} {mg : Str → Option Value} {cB cC cL fa fRf fTf fRp fRt fGf fGp fAt fFo fSt fNe fGa fLo fFa fCo fHa fOt fTo fRi fSi fSp fHv fGr fLa : Addr} (X : K.In h) (G : h.Ns mainGlobals mg) (hfa : mg "law" = some (.ref fa))
    {odRf anRf : Option Addr} {slRf : Array (Option Value)} {ocRf kVRf dcRf pmRf cdRf ctRf : Value}
    {odTf anTf : Option Addr} {slTf : Array (Option Value)} {ocTf kVTf dcTf pmTf cdTf ctTf : Value}
    {odRp anRp : Option Addr} {slRp : Array (Option Value)} {ocRp kVRp dcRp pmRp cdRp ctRp : Value}
    {odRt anRt : Option Addr} {slRt : Array (Option Value)} {ocRt kVRt dcRt pmRt cdRt ctRt : Value}
    {odGf anGf : Option Addr} {slGf : Array (Option Value)} {ocGf kVGf dcGf pmGf cdGf ctGf : Value}
    {odGp anGp : Option Addr} {slGp : Array (Option Value)} {ocGp kVGp dcGp pmGp cdGp ctGp : Value}
    {odAt anAt : Option Addr} {slAt : Array (Option Value)} {ocAt kVAt dcAt pmAt cdAt ctAt : Value}
    {odFo anFo : Option Addr} {slFo : Array (Option Value)} {ocFo kVFo dcFo pmFo cdFo ctFo : Value}
    {odSt anSt : Option Addr} {slSt : Array (Option Value)} {ocSt kVSt dcSt pmSt cdSt ctSt : Value}
    {odNe anNe : Option Addr} {slNe : Array (Option Value)} {ocNe kVNe dcNe pmNe cdNe ctNe : Value}
    {odGa anGa : Option Addr} {slGa : Array (Option Value)} {ocGa kVGa dcGa pmGa cdGa ctGa : Value}
    {odLo anLo : Option Addr} {slLo : Array (Option Value)} {ocLo kVLo dcLo pmLo cdLo ctLo : Value}
    {odFa anFa : Option Addr} {slFa : Array (Option Value)} {ocFa kVFa dcFa pmFa cdFa ctFa : Value}
    {odCo anCo : Option Addr} {slCo : Array (Option Value)} {ocCo kVCo dcCo pmCo cdCo ctCo : Value}
    {odHa anHa : Option Addr} {slHa : Array (Option Value)} {ocHa kVHa dcHa pmHa cdHa ctHa : Value}
    {odOt anOt : Option Addr} {slOt : Array (Option Value)} {ocOt kVOt dcOt pmOt cdOt ctOt : Value}
    {odTo anTo : Option Addr} {slTo : Array (Option Value)} {ocTo kVTo dcTo pmTo cdTo ctTo : Value}
    {odRi anRi : Option Addr} {slRi : Array (Option Value)} {ocRi kVRi dcRi pmRi cdRi ctRi : Value}
    {odSi anSi : Option Addr} {slSi : Array (Option Value)} {ocSi kVSi dcSi pmSi cdSi ctSi : Value}
    {odSp anSp : Option Addr} {slSp : Array (Option Value)} {ocSp kVSp dcSp pmSp cdSp ctSp : Value}
    {odHv anHv : Option Addr} {slHv : Array (Option Value)} {ocHv kVHv dcHv pmHv cdHv ctHv : Value}
    {odGr anGr : Option Addr} {slGr : Array (Option Value)} {ocGr kVGr dcGr pmGr cdGr ctGr : Value}
    {odLa anLa : Option Addr} {slLa : Array (Option Value)} {ocLa kVLa dcLa pmLa cdLa ctLa : Value}
    (nRf : nsIn K mainGlobals "ring_far" = some (some (.ref fRf)))
    (lRf : K.lookup fRf = some ⟨ocRf, odRf, .func (fnOf "ring_far" "ring_far" (defArgs sRFar) (defBody sRFar) (defScope sRFar) .none kVRf dcRf pmRf anRf cdRf ctRf), slRf⟩)
    (eRf : codeIn K cdRf "ring_far" = true)
    (pRf : keepIn K (.ref fRf) = true)
    (nTf : nsIn K mainGlobals "ring_tie_far" = some (some (.ref fTf)))
    (lTf : K.lookup fTf = some ⟨ocTf, odTf, .func (fnOf "ring_tie_far" "ring_tie_far" (defArgs sTFar) (defBody sTFar) (defScope sTFar) .none kVTf dcTf pmTf anTf cdTf ctTf), slTf⟩)
    (eTf : codeIn K cdTf "ring_tie_far" = true)
    (pTf : keepIn K (.ref fTf) = true)
    (nRp : nsIn K mainGlobals "ring_place" = some (some (.ref fRp)))
    (lRp : K.lookup fRp = some ⟨ocRp, odRp, .func (fnOf "ring_place" "ring_place" (defArgs sRPlace) (defBody sRPlace) (defScope sRPlace) .none kVRp dcRp pmRp anRp cdRp ctRp), slRp⟩)
    (eRp : codeIn K cdRp "ring_place" = true)
    (pRp : keepIn K (.ref fRp) = true)
    (nRt : nsIn K mainGlobals "ring_tie" = some (some (.ref fRt)))
    (lRt : K.lookup fRt = some ⟨ocRt, odRt, .func (fnOf "ring_tie" "ring_tie" (defArgs sRTie) (defBody sRTie) (defScope sRTie) .none kVRt dcRt pmRt anRt cdRt ctRt), slRt⟩)
    (eRt : codeIn K cdRt "ring_tie" = true)
    (pRt : keepIn K (.ref fRt) = true)
    (nGf : nsIn K mainGlobals "grid_far" = some (some (.ref fGf)))
    (lGf : K.lookup fGf = some ⟨ocGf, odGf, .func (fnOf "grid_far" "grid_far" (defArgs sGFar) (defBody sGFar) (defScope sGFar) .none kVGf dcGf pmGf anGf cdGf ctGf), slGf⟩)
    (eGf : codeIn K cdGf "grid_far" = true)
    (pGf : keepIn K (.ref fGf) = true)
    (nGp : nsIn K mainGlobals "grid_place" = some (some (.ref fGp)))
    (lGp : K.lookup fGp = some ⟨ocGp, odGp, .func (fnOf "grid_place" "grid_place" (defArgs sGPlace) (defBody sGPlace) (defScope sGPlace) .none kVGp dcGp pmGp anGp cdGp ctGp), slGp⟩)
    (eGp : codeIn K cdGp "grid_place" = true)
    (pGp : keepIn K (.ref fGp) = true)
    (nAt : nsIn K mainGlobals "_law_cell_at" = some (some (.ref fAt)))
    (lAt : K.lookup fAt = some ⟨ocAt, odAt, .func (fnOf "_law_cell_at" "_law_cell_at" (defArgs sAt) (defBody sAt) (defScope sAt) .none kVAt dcAt pmAt anAt cdAt ctAt), slAt⟩)
    (eAt : codeIn K cdAt "_law_cell_at" = true)
    (pAt : keepIn K (.ref fAt) = true)
    (nFo : nsIn K mainGlobals "_law_folded" = some (some (.ref fFo)))
    (lFo : K.lookup fFo = some ⟨ocFo, odFo, .func (fnOf "_law_folded" "_law_folded" (defArgs sFold) (defBody sFold) (defScope sFold) .none kVFo dcFo pmFo anFo cdFo ctFo), slFo⟩)
    (eFo : codeIn K cdFo "_law_folded" = true)
    (pFo : keepIn K (.ref fFo) = true)
    (nSt : nsIn K mainGlobals "_law_state" = some (some (.ref fSt)))
    (lSt : K.lookup fSt = some ⟨ocSt, odSt, .func (fnOf "_law_state" "_law_state" (defArgs sState) (defBody sState) (defScope sState) .none kVSt dcSt pmSt anSt cdSt ctSt), slSt⟩)
    (eSt : codeIn K cdSt "_law_state" = true)
    (pSt : keepIn K (.ref fSt) = true)
    (nNe : nsIn K mainGlobals "_law_next" = some (some (.ref fNe)))
    (lNe : K.lookup fNe = some ⟨ocNe, odNe, .func (fnOf "_law_next" "_law_next" (defArgs sNext) (defBody sNext) (defScope sNext) .none kVNe dcNe pmNe anNe cdNe ctNe), slNe⟩)
    (eNe : codeIn K cdNe "_law_next" = true)
    (pNe : keepIn K (.ref fNe) = true)
    (nGa : nsIn K mainGlobals "_law_great" = some (some (.ref fGa)))
    (lGa : K.lookup fGa = some ⟨ocGa, odGa, .func (fnOf "_law_great" "_law_great" (defArgs sGreat) (defBody sGreat) (defScope sGreat) .none kVGa dcGa pmGa anGa cdGa ctGa), slGa⟩)
    (eGa : codeIn K cdGa "_law_great" = true)
    (pGa : keepIn K (.ref fGa) = true)
    (nLo : nsIn K mainGlobals "_law_looks" = some (some (.ref fLo)))
    (lLo : K.lookup fLo = some ⟨ocLo, odLo, .func (fnOf "_law_looks" "_law_looks" (defArgs sLooks) (defBody sLooks) (defScope sLooks) .none kVLo dcLo pmLo anLo cdLo ctLo), slLo⟩)
    (eLo : codeIn K cdLo "_law_looks" = true)
    (pLo : keepIn K (.ref fLo) = true)
    (nFa : nsIn K mainGlobals "_law_far" = some (some (.ref fFa)))
    (lFa : K.lookup fFa = some ⟨ocFa, odFa, .func (fnOf "_law_far" "_law_far" (defArgs sFar) (defBody sFar) (defScope sFar) .none kVFa dcFa pmFa anFa cdFa ctFa), slFa⟩)
    (eFa : codeIn K cdFa "_law_far" = true)
    (pFa : keepIn K (.ref fFa) = true)
    (nCo : nsIn K mainGlobals "_law_code" = some (some (.ref fCo)))
    (lCo : K.lookup fCo = some ⟨ocCo, odCo, .func (fnOf "_law_code" "_law_code" (defArgs sCode) (defBody sCode) (defScope sCode) .none kVCo dcCo pmCo anCo cdCo ctCo), slCo⟩)
    (eCo : codeIn K cdCo "_law_code" = true)
    (pCo : keepIn K (.ref fCo) = true)
    (nHa : nsIn K mainGlobals "_law_having" = some (some (.ref fHa)))
    (lHa : K.lookup fHa = some ⟨ocHa, odHa, .func (fnOf "_law_having" "_law_having" (defArgs sHaving) (defBody sHaving) (defScope sHaving) .none kVHa dcHa pmHa anHa cdHa ctHa), slHa⟩)
    (eHa : codeIn K cdHa "_law_having" = true)
    (pHa : keepIn K (.ref fHa) = true)
    (nOt : nsIn K mainGlobals "_law_other" = some (some (.ref fOt)))
    (lOt : K.lookup fOt = some ⟨ocOt, odOt, .func (fnOf "_law_other" "_law_other" (defArgs sOther) (defBody sOther) (defScope sOther) .none kVOt dcOt pmOt anOt cdOt ctOt), slOt⟩)
    (eOt : codeIn K cdOt "_law_other" = true)
    (pOt : keepIn K (.ref fOt) = true)
    (nTo : nsIn K mainGlobals "_law_told" = some (some (.ref fTo)))
    (lTo : K.lookup fTo = some ⟨ocTo, odTo, .func (fnOf "_law_told" "_law_told" (defArgs sTold) (defBody sTold) (defScope sTold) .none kVTo dcTo pmTo anTo cdTo ctTo), slTo⟩)
    (eTo : codeIn K cdTo "_law_told" = true)
    (pTo : keepIn K (.ref fTo) = true)
    (nRi : nsIn K mainGlobals "_law_ring_right" = some (some (.ref fRi)))
    (lRi : K.lookup fRi = some ⟨ocRi, odRi, .func (fnOf "_law_ring_right" "_law_ring_right" (defArgs sRing) (defBody sRing) (defScope sRing) .none kVRi dcRi pmRi anRi cdRi ctRi), slRi⟩)
    (eRi : codeIn K cdRi "_law_ring_right" = true)
    (pRi : keepIn K (.ref fRi) = true)
    (nSi : nsIn K mainGlobals "_law_side" = some (some (.ref fSi)))
    (lSi : K.lookup fSi = some ⟨ocSi, odSi, .func (fnOf "_law_side" "_law_side" (defArgs sSide) (defBody sSide) (defScope sSide) .none kVSi dcSi pmSi anSi cdSi ctSi), slSi⟩)
    (eSi : codeIn K cdSi "_law_side" = true)
    (pSi : keepIn K (.ref fSi) = true)
    (nSp : nsIn K mainGlobals "_law_spans" = some (some (.ref fSp)))
    (lSp : K.lookup fSp = some ⟨ocSp, odSp, .func (fnOf "_law_spans" "_law_spans" (defArgs sSpans) (defBody sSpans) (defScope sSpans) .none kVSp dcSp pmSp anSp cdSp ctSp), slSp⟩)
    (eSp : codeIn K cdSp "_law_spans" = true)
    (pSp : keepIn K (.ref fSp) = true)
    (nHv : nsIn K mainGlobals "_law_by_halves" = some (some (.ref fHv)))
    (lHv : K.lookup fHv = some ⟨ocHv, odHv, .func (fnOf "_law_by_halves" "_law_by_halves" (defArgs sHalves) (defBody sHalves) (defScope sHalves) .none kVHv dcHv pmHv anHv cdHv ctHv), slHv⟩)
    (eHv : codeIn K cdHv "_law_by_halves" = true)
    (pHv : keepIn K (.ref fHv) = true)
    (nGr : nsIn K mainGlobals "_law_grid_right" = some (some (.ref fGr)))
    (lGr : K.lookup fGr = some ⟨ocGr, odGr, .func (fnOf "_law_grid_right" "_law_grid_right" (defArgs sGrid) (defBody sGrid) (defScope sGrid) .none kVGr dcGr pmGr anGr cdGr ctGr), slGr⟩)
    (eGr : codeIn K cdGr "_law_grid_right" = true)
    (pGr : keepIn K (.ref fGr) = true)
    (nLa : nsIn K mainGlobals "law" = some (some (.ref fLa)))
    (lLa : K.lookup fLa = some ⟨ocLa, odLa, .func (fnOf "law" "law" (defArgs sLaw) (defBody sLaw) (defScope sLaw) .none kVLa dcLa pmLa anLa cdLa ctLa), slLa⟩)
    (eLa : codeIn K cdLa "law" = true)
    (pLa : keepIn K (.ref fLa) = true)
    (zl : nsIn K mainGlobals "len" = some none)
    (zm : nsIn K mainGlobals "min" = some none)
    (zM : nsIn K mainGlobals "max" = some none)
    (za : nsIn K mainGlobals "abs" = some none)
    (zI : nsIn K mainGlobals "int" = some none)
    (zr : nsIn K mainGlobals "range" = some none)
    (zs : nsIn K mainGlobals "set" = some none)
    (zt : nsIn K mainGlobals "tuple" = some none)
    (zi : nsIn K mainGlobals "isinstance" = some none)
    (zx : nsIn K mainGlobals "list" = some none)
    (zo : nsIn K mainGlobals "sorted" = some none)
    (zz : nsIn K mainGlobals "zip" = some none)
    (ze : nsIn K mainGlobals "enumerate" = some none)
    (zb : nsIn K mainGlobals "bool" = some none)
    (zv : nsIn K mainGlobals "ValueError" = some none)
    (kb : kitOne K (.type "bool") (.type "bool") = some true)
    (ki : kitOne K (.type "int") (.type "bool") = some false)
    (ks : kitOne K (.type "str") (.type "bool") = some false)
    (aB : nsIn K mainGlobals "HailError" = some (some (.ref cB)))
    (aC : nsIn K mainGlobals "NoCode" = some (some (.ref cC)))
    (aL : nsIn K mainGlobals "NoLooks" = some (some (.ref cL)))
    (xC : xclsIn K cC veM "ValueError.__new__" none = true)
    (iC : xisB K cC = true)
    (exm : exmOne K (.ref cC) (.ref cB) = some true)
    (kC : kitOne K (.ref cC) (.ref cC) = some true)
    (kV : kitOne K (.ref cC) (.type "ValueError") = some true)
    (kL : kitOne K (.ref cC) (.ref cL) = some false) :
    ∃ fd : FuncData, (∀ (s : Shared) (v : Value), BindsTo s fd ⟨[v], []⟩ [("script", v)]) ∧ ∀ base : Heap, K.In base → base.Ns mainGlobals mg → FnOk l.prog w K mg base CX0 6 fa fd ["script"] (spLaw K) := by
  have e := hfa.symm.trans (mg_of X G nLa)
  cases e
  have T : Txt K mg := ⟨mg_none_of X G zl, mg_none_of X G zm, mg_none_of X G zM, mg_none_of X G za, mg_none_of X G zI, mg_none_of X G zr, mg_none_of X G zs, mg_none_of X G zt, mg_none_of X G zi, mg_none_of X G zx, mg_none_of X G zo, mg_none_of X G zz, mg_none_of X G ze, mg_none_of X G zb, kb, ki⟩
  have Z : Cls K mg cB cC cL := ⟨mg_of X G aB, mg_of X G aC, mg_of X G aL, mg_none_of X G zv, xC, xis_of iC, exm, kC, kV, kL⟩
  have FRf := fun_mk (st := sRFar) lRf eRf pRf
  have FTf := fun_mk (st := sTFar) lTf eTf pTf
  have FRp := fun_mk (st := sRPlace) lRp eRp pRp
  have FRt := fun_mk (st := sRTie) lRt eRt pRt
  have FGf := fun_mk (st := sGFar) lGf eGf pGf
  have FGp := fun_mk (st := sGPlace) lGp eGp pGp
  have FAt := fun_mk (st := sAt) lAt eAt pAt
  have FFo := fun_mk (st := sFold) lFo eFo pFo
  have FSt := fun_mk (st := sState) lSt eSt pSt
  have FNe := fun_mk (st := sNext) lNe eNe pNe
  have FGa := fun_mk (st := sGreat) lGa eGa pGa
  have FLo := fun_mk (st := sLooks) lLo eLo pLo
  have FFa := fun_mk (st := sFar) lFa eFa pFa
  have FCo := fun_mk (st := sCode) lCo eCo pCo
  have FHa := fun_mk (st := sHaving) lHa eHa pHa
  have FOt := fun_mk (st := sOther) lOt eOt pOt
  have FTo := fun_mk (st := sTold) lTo eTo pTo
  have FRi := fun_mk (st := sRing) lRi eRi pRi
  have FSi := fun_mk (st := sSide) lSi eSi pSi
  have FSp := fun_mk (st := sSpans) lSp eSp pSp
  have FHv := fun_mk (st := sHalves) lHv eHv pHv
  have FGr := fun_mk (st := sGrid) lGr eGr pGr
  have FLa := fun_mk (st := sLaw) lLa eLa pLa
  have bRf := FRf.binds (ps := ["many", "one", "other"]) fun _ _ _ _ _ _ us hl => match us, hl with | [_, _, _], _ => rfl
  have bTf := FTf.binds (ps := ["many", "place", "tie"]) fun _ _ _ _ _ _ us hl => match us, hl with | [_, _, _], _ => rfl
  have bRp := FRp.binds (ps := ["many", "looks", "told"]) fun _ _ _ _ _ _ us hl => match us, hl with | [_, _, _], _ => rfl
  have bRt := FRt.binds (ps := ["many", "looks", "told"]) fun _ _ _ _ _ _ us hl => match us, hl with | [_, _, _], _ => rfl
  have bGf := FGf.binds (ps := ["one", "other"]) fun _ _ _ _ _ _ us hl => match us, hl with | [_, _], _ => rfl
  have bGp := FGp.binds (ps := ["wide", "high", "one", "other", "told"]) fun _ _ _ _ _ _ us hl => match us, hl with | [_, _, _, _, _], _ => rfl
  have bAt := FAt.binds (ps := ["script", "k"]) fun _ _ _ _ _ _ us hl => match us, hl with | [_, _], _ => rfl
  have bFo := FFo.binds (ps := ["script", "many"]) fun _ _ _ _ _ _ us hl => match us, hl with | [_, _], _ => rfl
  have bSt := FSt.binds (ps := ["cell"]) fun _ _ _ _ _ _ us hl => match us, hl with | [_], _ => rfl
  have bNe := FNe.binds (ps := ["state", "many"]) fun _ _ _ _ _ _ us hl => match us, hl with | [_, _], _ => rfl
  have bGa := FGa.binds (ps := ["state", "top"]) fun _ _ _ _ _ _ us hl => match us, hl with | [_, _], _ => rfl
  have bLo := FLo.binds (ps := ["state", "many", "most"]) fun _ _ _ _ _ _ us hl => match us, hl with | [_, _, _], _ => rfl
  have bFa := FFa.binds (ps := ["many", "one", "other"]) fun _ _ _ _ _ _ us hl => match us, hl with | [_, _, _], _ => rfl
  have bCo := FCo.binds (ps := ["many", "looks", "thing", "kind"]) fun _ _ _ _ _ _ us hl => match us, hl with | [_, _, _, _], _ => rfl
  have bHa := FHa.binds (ps := ["many", "looks", "told", "kind"]) fun _ _ _ _ _ _ us hl => match us, hl with | [_, _, _, _], _ => rfl
  have bOt := FOt.binds (ps := ["state", "told"]) fun _ _ _ _ _ _ us hl => match us, hl with | [_, _], _ => rfl
  have bTo := FTo.binds (ps := ["way", "args"]) fun _ _ _ _ _ _ us hl => match us, hl with | [_, _], _ => rfl
  have bRi := FRi.binds (ps := ["state"]) fun _ _ _ _ _ _ us hl => match us, hl with | [_], _ => rfl
  have bSi := FSi.binds (ps := ["state", "wide", "high"]) fun _ _ _ _ _ _ us hl => match us, hl with | [_, _, _], _ => rfl
  have bSp := FSp.binds (ps := ["one", "spot"]) fun _ _ _ _ _ _ us hl => match us, hl with | [_, _], _ => rfl
  have bHv := FHv.binds (ps := ["wide", "high", "one", "other", "told"]) fun _ _ _ _ _ _ us hl => match us, hl with | [_, _, _, _, _], _ => rfl
  have bGr := FGr.binds (ps := ["state"]) fun _ _ _ _ _ _ us hl => match us, hl with | [_], _ => rfl
  refine ⟨fnOf "law" "law" (defArgs sLaw) (defBody sLaw) (defScope sLaw) .none kVLa dcLa pmLa anLa cdLa ctLa, fun s v => .of_eq rfl, fun base _ _ => ?_⟩
  have HRf : Has l.prog w K mg base 1 "ring_far" ["many", "one", "other"] spFar := ⟨_, _, mg_of X G nRf, pRf, bRf, ok_rfar FRf T⟩
  have HTf : Has l.prog w K mg base 2 "ring_tie_far" ["many", "place", "tie"] spTFar := ⟨_, _, mg_of X G nTf, pTf, bTf, ok_tfar FTf T HRf⟩
  have HGf : Has l.prog w K mg base 1 "grid_far" ["one", "other"] (spGFar K) := ⟨_, _, mg_of X G nGf, pGf, bGf, ok_gfar FGf T⟩
  have HAt : Has l.prog w K mg base 1 "_law_cell_at" ["script", "k"] (spAt K) := ⟨_, _, mg_of X G nAt, pAt, bAt, ok_at FAt T⟩
  have HFo : Has l.prog w K mg base 2 "_law_folded" ["script", "many"] (spFold K) := ⟨_, _, mg_of X G nFo, pFo, bFo, ok_fold FFo T HAt⟩
  have HSt : Has l.prog w K mg base 1 "_law_state" ["cell"] spState := ⟨_, _, mg_of X G nSt, pSt, bSt, ok_state FSt⟩
  have HNe : Has l.prog w K mg base 1 "_law_next" ["state", "many"] spNext := ⟨_, _, mg_of X G nNe, pNe, bNe, ok_next FNe⟩
  have HGa : Has l.prog w K mg base 2 "_law_great" ["state", "top"] spGreat := ⟨_, _, mg_of X G nGa, pGa, bGa, ok_great FGa T HNe⟩
  have HLo : Has l.prog w K mg base 3 "_law_looks" ["state", "many", "most"] spLooks := ⟨_, _, mg_of X G nLo, pLo, bLo, ok_looks FLo T HNe HGa⟩
  have HFa : Has l.prog w K mg base 1 "_law_far" ["many", "one", "other"] spFar := ⟨_, _, mg_of X G nFa, pFa, bFa, ok_far FFa T⟩
  have HCo : Has l.prog w K mg base 2 "_law_code" ["many", "looks", "thing", "kind"] (spCode K) := ⟨_, _, mg_of X G nCo, pCo, bCo, ok_code FCo T HFa⟩
  have HHa : Has l.prog w K mg base 3 "_law_having" ["many", "looks", "told", "kind"] (spHaving K) := ⟨_, _, mg_of X G nHa, pHa, bHa, ok_having FHa T HCo⟩
  have HOt : Has l.prog w K mg base 3 "_law_other" ["state", "told"] (spOther K) := ⟨_, _, mg_of X G nOt, pOt, bOt, ok_other FOt T HNe HGa⟩
  have HSi : Has l.prog w K mg base 2 "_law_side" ["state", "wide", "high"] spSide := ⟨_, _, mg_of X G nSi, pSi, bSi, ok_side FSi T HNe⟩
  have HSp : Has l.prog w K mg base 1 "_law_spans" ["one", "spot"] (spSpans K) := ⟨_, _, mg_of X G nSp, pSp, bSp, ok_spans FSp T⟩
  have HHv : Has l.prog w K mg base 2 "_law_by_halves" ["wide", "high", "one", "other", "told"] (spHalf K) := ⟨_, _, mg_of X G nHv, pHv, bHv, ok_half FHv T HSp⟩
  have HGf2 : Has l.prog w K mg base 2 "grid_far" ["one", "other"] (spGFar K) := ⟨_, _, mg_of X G nGf, pGf, bGf, (ok_gfar FGf T).mono (by decide)⟩
  have G0 : Has1 l.prog w K mg base 1 "grid_place" ["wide", "high", "one", "other", "told"] never := ⟨_, _, mg_of X G nGp, pGp, bGp, never_ok⟩
  have G1 : Has1 l.prog w K mg base 2 "grid_place" ["wide", "high", "one", "other", "told"] (spGr K cC never) := ⟨_, _, mg_of X G nGp, pGp, bGp, ok_gplace (k := 0) FGp T (mg_of X G aC) xC HGf G0 (fun _ _ _ _ _ _ h => h)⟩
  have G2 : Has1 l.prog w K mg base 3 "grid_place" ["wide", "high", "one", "other", "told"] (spGr K cC (spGr K cC never)) := ⟨_, _, mg_of X G nGp, pGp, bGp, ok_gplace (k := 1) FGp T (mg_of X G aC) xC HGf2 G1 (gr_mono fun _ _ _ _ _ _ h => h)⟩
  have K0 : Kno l.prog w K mg base 3 fRp (spFind K cC false rf) := ⟨_, _, pRp, bRp, (ok_rplace FRp T (mg_of X G aC) xC HRf).mono (by decide)⟩
  have K1 : Kno l.prog w K mg base 3 fRt (spFind K cC true tf) := ⟨_, _, pRt, bRt, ok_rtie FRt T (mg_of X G aC) xC HTf⟩
  have HTo : Has l.prog w K mg base 4 "_law_told" ["way", "args"] (spTold K cC (spFind K cC false rf) (spFind K cC true tf) (spGr K cC (spGr K cC never))) := ⟨_, _, mg_of X G nTo, pTo, bTo, ok_told FTo T Z (mg_of X G nRp) (mg_of X G nRt) K0 K1 G2⟩
  have HRi : Has l.prog w K mg base 5 "_law_ring_right" ["state"] spRight := ⟨_, _, mg_of X G nRi, pRi, bRi, ok_ring FRi T ks HNe HGa HLo HOt HCo HHa HTo⟩
  have HGr : Has l.prog w K mg base 5 "_law_grid_right" ["state"] spRight := ⟨_, _, mg_of X G nGr, pGr, bGr, ok_grid FGr T HNe HGa HSi HSp HOt HHv HTo⟩
  exact ok_law FLa HFo HSt HRi HGr
theorem walk {l : OpenLaw} {q : Program} {loose : List Str} {XP : (Str → Option Value) → Heap → Prop} {YP : World → Heap → Prop} {d : DefRec} {K : Params → Frag} (hn : l.most = some 63) (hdf : d.params.defaults = [])
    (hY : ∀ (w : World) (h : Heap), YP w h → (K w.params).In h)
    (F : ∀ (w : World) (mg : Str → Option Value) (fa : Addr) (h : Heap), (K w.params).In h → h.Ns mainGlobals mg → mg d.name = some (.ref fa) →
      ∃ fd : FuncData, (∀ (s : Shared) (u : Value), BindsTo s fd ⟨[u], []⟩ [("script", u)]) ∧ ∀ base : Heap, (K w.params).In base → base.Ns mainGlobals mg → FnOk l.prog w (K w.params) mg base CX0 6 fa fd ["script"] (spLaw (K w.params))) :
    WalkO q loose XP YP l.row.toRowW d [] (fun f vs => PySem.call f vs) :=
  L2.walk_of (n := 63) (k := 6) (x := "script") (CX := fun _ => CX0) (sp := fun w => spLaw (K w.params)) hn (by decide) hdf ⟨rfl, by decide, by decide⟩ hY F (fun _ _ a ns hl _ hS => ⟨a, ns, rfl, hS, hl, fun _ => rfl⟩) fun _ _ _ _ _ z => z
end K33
open PySem PySem.W PyProof.Rows
set_option maxRecDepth 100000 in
set_option maxHeartbeats 0 in
theorem PySem.Challenge.cw_farhail_k33_things_by_their_codes_holds : PySem.Challenge.rw_farhail_k33_things_by_their_codes.Holds := by
  w_on; o_law; k_head; (case hw => w_witness2)
  k_fill
  refine K33.walk (l := PySem.Challenge.rw_farhail_k33_things_by_their_codes) rfl rfl (fun w h Y => PySem.W.kIn_of Y) ?F
  case F =>
    intro w mg fa h KX G hmg
    refine' K33.all_mk KX G hmg ?nRf ?lRf ?eRf ?pRf ?nTf ?lTf ?eTf ?pTf ?nRp ?lRp ?eRp ?pRp ?nRt ?lRt ?eRt ?pRt ?nGf ?lGf ?eGf ?pGf ?nGp ?lGp ?eGp ?pGp ?nAt ?lAt ?eAt ?pAt ?nFo ?lFo ?eFo ?pFo ?nSt ?lSt ?eSt ?pSt ?nNe ?lNe ?eNe ?pNe ?nGa ?lGa ?eGa ?pGa ?nLo ?lLo ?eLo ?pLo ?nFa ?lFa ?eFa ?pFa ?nCo ?lCo ?eCo ?pCo ?nHa ?lHa ?eHa ?pHa ?nOt ?lOt ?eOt ?pOt ?nTo ?lTo ?eTo ?pTo ?nRi ?lRi ?eRi ?pRi ?nSi ?lSi ?eSi ?pSi ?nSp ?lSp ?eSp ?pSp ?nHv ?lHv ?eHv ?pHv ?nGr ?lGr ?eGr ?pGr ?nLa ?lLa ?eLa ?pLa ?zl ?zm ?zM ?za ?zI ?zr ?zs ?zt ?zi ?zx ?zo ?zz ?ze ?zb ?zv ?kb ?ki ?ks ?aB ?aC ?aL ?xC ?iC ?exm ?kC ?kV ?kL
    (case aB => first | k_is | kernel_rfl)
    (case aC => first | k_is | kernel_rfl)
    (case aL => first | k_is | kernel_rfl)
    (case nRf => first | k_is | kernel_rfl)
    (case lRf => first | k_is | kernel_rfl)
    (case eRf => first | k_is | kernel_rfl)
    (case pRf => first | k_is | kernel_rfl)
    (case nTf => first | k_is | kernel_rfl)
    (case lTf => first | k_is | kernel_rfl)
    (case eTf => first | k_is | kernel_rfl)
    (case pTf => first | k_is | kernel_rfl)
    (case nRp => first | k_is | kernel_rfl)
    (case lRp => first | k_is | kernel_rfl)
    (case eRp => first | k_is | kernel_rfl)
    (case pRp => first | k_is | kernel_rfl)
    (case nRt => first | k_is | kernel_rfl)
    (case lRt => first | k_is | kernel_rfl)
    (case eRt => first | k_is | kernel_rfl)
    (case pRt => first | k_is | kernel_rfl)
    (case nGf => first | k_is | kernel_rfl)
    (case lGf => first | k_is | kernel_rfl)
    (case eGf => first | k_is | kernel_rfl)
    (case pGf => first | k_is | kernel_rfl)
    (case nGp => first | k_is | kernel_rfl)
    (case lGp => first | k_is | kernel_rfl)
    (case eGp => first | k_is | kernel_rfl)
    (case pGp => first | k_is | kernel_rfl)
    (case nAt => first | k_is | kernel_rfl)
    (case lAt => first | k_is | kernel_rfl)
    (case eAt => first | k_is | kernel_rfl)
    (case pAt => first | k_is | kernel_rfl)
    (case nFo => first | k_is | kernel_rfl)
    (case lFo => first | k_is | kernel_rfl)
    (case eFo => first | k_is | kernel_rfl)
    (case pFo => first | k_is | kernel_rfl)
    (case nSt => first | k_is | kernel_rfl)
    (case lSt => first | k_is | kernel_rfl)
    (case eSt => first | k_is | kernel_rfl)
    (case pSt => first | k_is | kernel_rfl)
    (case nNe => first | k_is | kernel_rfl)
    (case lNe => first | k_is | kernel_rfl)
    (case eNe => first | k_is | kernel_rfl)
    (case pNe => first | k_is | kernel_rfl)
    (case nGa => first | k_is | kernel_rfl)
    (case lGa => first | k_is | kernel_rfl)
    (case eGa => first | k_is | kernel_rfl)
    (case pGa => first | k_is | kernel_rfl)
    (case nLo => first | k_is | kernel_rfl)
    (case lLo => first | k_is | kernel_rfl)
    (case eLo => first | k_is | kernel_rfl)
    (case pLo => first | k_is | kernel_rfl)
    (case nFa => first | k_is | kernel_rfl)
    (case lFa => first | k_is | kernel_rfl)
    (case eFa => first | k_is | kernel_rfl)
    (case pFa => first | k_is | kernel_rfl)
    (case nCo => first | k_is | kernel_rfl)
    (case lCo => first | k_is | kernel_rfl)
    (case eCo => first | k_is | kernel_rfl)
    (case pCo => first | k_is | kernel_rfl)
    (case nHa => first | k_is | kernel_rfl)
    (case lHa => first | k_is | kernel_rfl)
    (case eHa => first | k_is | kernel_rfl)
    (case pHa => first | k_is | kernel_rfl)
    (case nOt => first | k_is | kernel_rfl)
    (case lOt => first | k_is | kernel_rfl)
    (case eOt => first | k_is | kernel_rfl)
    (case pOt => first | k_is | kernel_rfl)
    (case nTo => first | k_is | kernel_rfl)
    (case lTo => first | k_is | kernel_rfl)
    (case eTo => first | k_is | kernel_rfl)
    (case pTo => first | k_is | kernel_rfl)
    (case nRi => first | k_is | kernel_rfl)
    (case lRi => first | k_is | kernel_rfl)
    (case eRi => first | k_is | kernel_rfl)
    (case pRi => first | k_is | kernel_rfl)
    (case nSi => first | k_is | kernel_rfl)
    (case lSi => first | k_is | kernel_rfl)
    (case eSi => first | k_is | kernel_rfl)
    (case pSi => first | k_is | kernel_rfl)
    (case nSp => first | k_is | kernel_rfl)
    (case lSp => first | k_is | kernel_rfl)
    (case eSp => first | k_is | kernel_rfl)
    (case pSp => first | k_is | kernel_rfl)
    (case nHv => first | k_is | kernel_rfl)
    (case lHv => first | k_is | kernel_rfl)
    (case eHv => first | k_is | kernel_rfl)
    (case pHv => first | k_is | kernel_rfl)
    (case nGr => first | k_is | kernel_rfl)
    (case lGr => first | k_is | kernel_rfl)
    (case eGr => first | k_is | kernel_rfl)
    (case pGr => first | k_is | kernel_rfl)
    (case nLa => first | k_is | kernel_rfl)
    (case lLa => first | k_is | kernel_rfl)
    (case eLa => first | k_is | kernel_rfl)
    (case pLa => first | k_is | kernel_rfl)
    (case zl => first | k_is | kernel_rfl)
    (case zm => first | k_is | kernel_rfl)
    (case zM => first | k_is | kernel_rfl)
    (case za => first | k_is | kernel_rfl)
    (case zI => first | k_is | kernel_rfl)
    (case zr => first | k_is | kernel_rfl)
    (case zs => first | k_is | kernel_rfl)
    (case zt => first | k_is | kernel_rfl)
    (case zi => first | k_is | kernel_rfl)
    (case zx => first | k_is | kernel_rfl)
    (case zo => first | k_is | kernel_rfl)
    (case zz => first | k_is | kernel_rfl)
    (case ze => first | k_is | kernel_rfl)
    (case zb => first | k_is | kernel_rfl)
    (case zv => first | k_is | kernel_rfl)
    (case kb => first | kernel_rfl | k_is)
    (case ki => first | kernel_rfl | k_is)
    (case ks => first | kernel_rfl | k_is)
    (case xC => first | kernel_rfl | k_is)
    (case iC => first | kernel_rfl | k_is)
    (case exm => first | kernel_rfl | k_is)
    (case kC => first | kernel_rfl | k_is)
    (case kV => first | kernel_rfl | k_is)
    (case kL => first | kernel_rfl | k_is)

