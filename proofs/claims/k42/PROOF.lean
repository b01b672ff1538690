import PyProof.Rows.All
import Wide.All
import OpenK.AllK
import Wide.FinOn
import Lean
import PyProof.EqAt
import PyProof.EqKinds
import PyProof.TupleCall
import PyProof.SetKind
import PyProof.TupleKey
import PyProof.IsRules
import PyProof.SetRoads
import PyProof.WalkInts
import PyProof.SeqI3
import PyProof.RaisesMany
import PyProof.RulesTry
import PyProof.ExcClass2
import KE.KTryMore
import PyProof.RulesAs
import PyProof.NsDelKeeps
import PyProof.Rows.SortShellK
import KE.KDictList
import PyProof.ListRange
import PyProof.SumAnyB
import PyProof.TupleOfSeq
import PySem.Challenge.RW_farhail_k42_strengths_told
local macro_rules | `(tactic| omega) => `(tactic| lia)
set_option genSizeOf false
set_option genInjectivity false
set_option Elab.async false
set_option linter.all false
set_option maxHeartbeats 4000000
set_option maxRecDepth 100000
/-! THE HAND LAYER, for ints, bools, texts, own classes, LISTS and tuples (index, slices, in, append, pop ..), calls, loops. Paste it whole ahead of your own text; what your proof does not reach may be deleted. -/
namespace L2
open PySem PySem.Spec PyProof.Rows

noncomputable abbrev Key := Sum Int Str
noncomputable def keyIs : Key → Value → Bool
  | .inl k, v => Value.isInt k v
  | .inr x, v => Value.isStrOf x v
noncomputable def keyH (w : World) : Key → Int
  | .inl k => hashInt k
  | .inr x => hashStr w x
theorem keyIs_shape : ∀ {k : Key} {v : Value}, keyIs k v = true → (∃ i t, k = Sum.inl i ∧ v = Value.int i t) ∨ (∃ x t, k = Sum.inr x ∧ v = Value.str x t)
  | .inl i, v, h => by
    obtain ⟨t, e⟩ := Value.isInt_shape (k := i) (v := v) h
    exact .inl ⟨i, t, rfl, e⟩
  | .inr x, v, h => by
    obtain ⟨t, e⟩ := Value.isStrOf_shape (x := x) (v := v) h
    exact .inr ⟨x, t, rfl, e⟩
theorem keyIs_int (i : Int) (t : Tok) : keyIs (.inl i) (.int i t) = true := by simp [keyIs, Value.isInt]
theorem keyIs_str (x : Str) (t : Tok) : keyIs (.inr x) (.str x t) = true := by simp [keyIs, Value.isStrOf]
theorem key_ll (a b : Int) : decide ((Sum.inl a : Key) = Sum.inl b) = (a == b) := by
  by_cases e : a = b
  · subst e; simp
  · have h : ¬ (Sum.inl a : Key) = Sum.inl b := fun q => e (Sum.inl.inj q)
    rw [decide_eq_false h]
    exact (beq_eq_false_iff_ne.mpr e).symm
theorem key_rr (a b : Str) : decide ((Sum.inr a : Key) = Sum.inr b) = decide (a = b) := by
  by_cases e : a = b
  · subst e; simp
  · have h : ¬ (Sum.inr a : Key) = Sum.inr b := fun q => e (Sum.inr.inj q)
    rw [decide_eq_false h, decide_eq_false e]
theorem key_lr (a : Int) (b : Str) : decide ((Sum.inl a : Key) = Sum.inr b) = false := decide_eq_false (fun q => nomatch q)
theorem key_rl (a : Str) (b : Int) : decide ((Sum.inr a : Key) = Sum.inl b) = false := decide_eq_false (fun q => nomatch q)

noncomputable def mixKind (prog : Program) (w : World) : PySem.KeyKind prog w Key where
  is := keyIs
  hash := keyH w
  inj := fun v a b ha hb => by
    rcases keyIs_shape ha with ⟨i, t, rfl, rfl⟩ | ⟨x, t, rfl, rfl⟩
    · rcases keyIs_shape hb with ⟨j, u, rfl, e⟩ | ⟨y, u, rfl, e⟩
      · injection e with e1 _; rw [e1]
      · exact nomatch e
    · rcases keyIs_shape hb with ⟨j, u, rfl, e⟩ | ⟨y, u, rfl, e⟩
      · exact nomatch e
      · injection e with e1 _; rw [e1]
  byValue := fun k v h => by
    rcases keyIs_shape h with ⟨i, t, rfl, rfl⟩ | ⟨x, t, rfl, rfl⟩ <;> rfl
  pyHash := fun hv h => by
    rcases keyIs_shape hv with ⟨i, t, rfl, rfl⟩ | ⟨x, t, rfl, rfl⟩
    · exact wpAny_pyHash_int h
    · exact wpAny_pyHash_str h
  eqBool := fun hu hv h => by
    rcases keyIs_shape hu with ⟨i, t, rfl, rfl⟩ | ⟨x, t, rfl, rfl⟩
    · rcases keyIs_shape hv with ⟨j, u, rfl, rfl⟩ | ⟨y, u, rfl, rfl⟩
      · rw [key_ll] at h; exact wpAny_eqBool_int h
      · rw [key_lr] at h; exact SeqAt.EqAt.int_str i t y u _ _ _ _ h
    · rcases keyIs_shape hv with ⟨j, u, rfl, rfl⟩ | ⟨y, u, rfl, rfl⟩
      · rw [key_rl] at h; exact SeqAt.EqAt.str_int x t j u _ _ _ _ h
      · rw [key_rr] at h; exact wpAny_eqBool_str h
  «strs» := fun k x t v h => by
    rcases keyIs_shape h with ⟨i, u, rfl, e⟩ | ⟨y, u, rfl, e⟩
    · exact nomatch e
    · injection e with e1 _
      subst e1
      cases v <;> rfl

theorem mixKind_int (prog : Program) (w : World) (i : Int) (t : Tok) : (mixKind prog w).is (.inl i) (.int i t) = true := keyIs_int i t
theorem mixKind_str (prog : Program) (w : World) (x : Str) (t : Tok) : (mixKind prog w).is (.inr x) (.str x t) = true := keyIs_str x t
end L2

namespace L2
open PySem PySem.Spec PyProof.Rows

set_option genInjectivity true in
inductive V where
  | non | bl (b : Bool) | int (i : Int) | str (x : Str) | byt (b : Array UInt8) | flt (b : UInt64) | ref (a : Addr) | ty (n : String)
  deriving DecidableEq

noncomputable def RelV : V → Value → Prop
  | .non, u => u = Value.none
  | .bl b, u => u = Value.bool b
  | .int i, u => ∃ t, u = Value.int i t
  | .str x, u => ∃ t, u = Value.str x t
  | .byt b, u => ∃ t, u = Value.bytes b t
  | .flt b, u => ∃ t, u = Value.float b t
  | .ref a, u => u = Value.ref a
  | .ty n, u => u = Value.type n

noncomputable abbrev Vals : List V → List Value → Prop := Paired RelV
theorem Vals.length {xs : List V} {us : List Value} (r : Vals xs us) : xs.length = us.length := Paired.length r
theorem Vals.get : ∀ {xs : List V} {us : List Value} {i : Nat} {x : V}, Vals xs us → xs[i]? = some x → ∃ u, us[i]? = some u ∧ RelV x u
  | _, _, _, _, .nil, e => by simp at e
  | _, _, 0, _, .cons r _, e => by simp at e; subst e; exact ⟨_, rfl, r⟩
  | _, _, i + 1, x, .cons _ t, e => by
    obtain ⟨u, h1, h2⟩ := Vals.get (i := i) (x := x) t (by simpa using e)
    exact ⟨u, by simpa using h1, h2⟩
theorem Vals.set {x : V} {u : Value} (r : RelV x u) : ∀ {xs : List V} {us : List Value} (i : Nat), Vals xs us → Vals (xs.set i x) (us.set i u)
  | _, _, _, .nil => .nil
  | _, _, 0, .cons _ t => .cons r t
  | _, _, i + 1, .cons q t => .cons q (Vals.set r i t)
theorem Vals.append : ∀ {xs ys : List V} {us ws : List Value}, Vals xs us → Vals ys ws → Vals (xs ++ ys) (us ++ ws)
  | _, _, _, _, .nil, s => s
  | _, _, _, _, .cons r t, s => .cons r (Vals.append t s)
theorem Vals.take : ∀ {xs : List V} {us : List Value} (n : Nat), Vals xs us → Vals (xs.take n) (us.take n)
  | _, _, 0, _ => .nil
  | _, _, _ + 1, .nil => .nil
  | _, _, n + 1, .cons r t => .cons r (Vals.take n t)
theorem Vals.drop : ∀ {xs : List V} {us : List Value} (n : Nat), Vals xs us → Vals (xs.drop n) (us.drop n)
  | _, _, 0, r => r
  | _, _, _ + 1, .nil => .nil
  | _, _, n + 1, .cons _ t => Vals.drop n t
noncomputable def RelO : Option V → Option Value → Prop
  | some v, some u => RelV v u
  | none, none => True
  | _, _ => False
noncomputable def KV {κ : Type} : List (κ × V) → List (κ × Value) → Prop := Paired fun (p : κ × V) (q : κ × Value) => p.1 = q.1 ∧ RelV p.2 q.2

noncomputable def kV : Key → V
  | .inl i => .int i
  | .inr x => .str x

inductive HO where
  /-- a list -/
  | lst (xs : List V)
  /-- a tuple (never changes) -/
  | tup (xs : List V)
  /-- a dict whose keys are ints and texts; one whose keys are tuples of ints and texts (the empty one is both) -/
  | dK (kvs : List (Key × V)) | dT (kvs : List (List Key × V))
  /-- a set of ints: its members, its size -/
  | set (S : Int → Bool) (n : Nat)
  /-- an instance of the class at C, its dict at dx, its attributes -/
  | ins (C dx : Addr) (fs : List (Str × V))
  /-- the dict of the instance at x -/
  | own (x : Addr)
  /-- the dict of an exception -/
  | xd (fs : List (Str × V))
  /-- a bound method, f of x -/
  | met (f x : Addr)
  /-- a range object lo, lo + 1, .. below hi -/
  | rng (lo hi : Int)
  /-- a thing that is known to the object (the script; a dict while a loop walks it): read, never written while it is so -/
  | frz (o : Obj) (u : HO)
  /-- a code object's table -/
  | tbl (ps : Array Value)
  /-- any other thing, by what is true of its one object (a def of one's own: SetO a S n := HO.ext fun h => ..) -/
  | ext (φ : Heap → Prop)

noncomputable abbrev Hp := Addr → Option HO
noncomputable def upd (H : Hp) (a : Addr) (o : HO) : Hp := fun b => if b = a then some o else H b
theorem upd_same {H : Hp} {a : Addr} {o : HO} : upd H a o a = some o := by unfold upd; rw [if_pos rfl]
theorem upd_ne {H : Hp} {a b : Addr} {o : HO} (h : b ≠ a) : upd H a o b = H b := by unfold upd; rw [if_neg h]
theorem ne_of {H : Hp} {a b : Addr} {o u : HO} (h : H a = some o) (h' : H b = some u) (d : o ≠ u) : a ≠ b := by
  intro e; subst e; rw [h] at h'; exact d (Option.some.inj h')
theorem ne_of_none {H : Hp} {a b : Addr} {o : HO} (h : H a = some o) (h' : H b = none) : a ≠ b := by
  intro e; subst e; rw [h] at h'; cases h'

section
variable (P : Program) (w : World)
noncomputable def ObjOk (H : Hp) (h : Heap) (a : Addr) : HO → Prop
  | .lst xs => xs.length ≤ sizeLine ∧ ∃ (its : List Value) (n : Nat), Vals xs its ∧ h.get? a = some { cls := .type "list", data := .seq its.toArray n }
  | .tup xs => xs.length ≤ sizeLine ∧ ∃ its : List Value, Vals xs its ∧ IsTup h a its.toArray
  | .dK kvs => kvs.length ≤ sizeLine ∧ (a == sysModules) = false ∧ ∃ vs, KV kvs vs ∧ h.DictOf (mixKind P w) a vs
  | .dT kvs => kvs.length ≤ sizeLine ∧ (a == sysModules) = false ∧ ∃ xs : List (List Key × Addr × Value),
      Paired (fun (p : List Key × V) (q : List Key × Addr × Value) => p.1 = q.1 ∧ H q.2.1 = some (.tup (p.1.map kV)) ∧ RelV p.2 q.2.2) kvs xs ∧
      ∃ o es ep, h.get? a = some o ∧ o.ExactDict ∧ o.data = .dict es ep ∧ es.toList = xs.map (entryOfKey (tupleKind (mixKind P w))) ∧ (xs.map (·.1)).Nodup
  | .set S n => h.SetOf (intKind P w) a S n
  | .ins C dx fs => H dx = some (.own a) ∧ fs.length ≤ 1000 ∧ dx ≠ a ∧ h.get? a = some (PySem.W.instObj C dx) ∧
      ∃ mA, h.Ns1 dx mA ∧ (∀ f, RelO (fs.lookup f) (mA f)) ∧ PySem.Within mA (fs.map (·.1))
  | .own _ => ∃ o, h.get? a = some o
  | .xd fs => ∃ mA, h.Ns1 a mA ∧ ∀ f, RelO (fs.lookup f) (mA f)
  | .rng lo hi => ∃ t u v, h.get? a = some { cls := .type "range", data := .fields #[.int lo t, .int hi u, .int 1 v] }
  | .frz o u => h.get? a = some o ∧ ObjOk H h a u
  | .tbl ps => h.get? a = some { cls := .none, data := .fields ps }
  | .met f x => h.get? a = some (PySem.W.methodObj (.ref f) (.ref x))
  | .ext φ => φ h ∧ (∃ o, h.get? a = some o) ∧ ∀ h1 h2 : Heap, φ h1 → (∀ o, h1.get? a = some o → h2.get? a = some o) → φ h2
noncomputable def HOk (H : Hp) (h : Heap) : Prop := ∀ a o, H a = some o → ObjOk P w H h a o
end

section
variable {P : Program} {w : World} {H H' : Hp} {h h' : Heap} {a : Addr} {o : HO}
theorem ObjOk.lt (x : ObjOk P w H h a o) : a < h.objs.size := by
  cases o with
  | lst xs => obtain ⟨_, _, _, _, e⟩ := x; exact Heap.lt_size e
  | tup xs => obtain ⟨_, _, _, p⟩ := x; exact p.lt
  | dK kvs => obtain ⟨_, _, _, _, o, _, _, e, _⟩ := x; exact Heap.lt_size e
  | dT kvs => obtain ⟨_, _, _, _, o, _, _, e, _⟩ := x; exact Heap.lt_size e
  | set S n => obtain ⟨o, _, _, _, e, _⟩ := x; exact Heap.lt_size e
  | ins C dx fs => obtain ⟨_, _, _, e, _⟩ := x; exact Heap.lt_size e
  | own y => obtain ⟨_, e⟩ := x; exact Heap.lt_size e
  | xd fs => obtain ⟨_, ⟨_, _, _, e, _⟩, _⟩ := x; exact Heap.lt_size e
  | rng lo hi => obtain ⟨_, _, _, e⟩ := x; exact Heap.lt_size e
  | frz ob u => obtain ⟨e, _⟩ := x; exact Heap.lt_size e
  | tbl ps => exact Heap.lt_size (show h.get? a = some _ from x)
  | met f y => exact Heap.lt_size (show h.get? a = some _ from x)
  | ext φ => obtain ⟨_, ⟨_, e⟩, _⟩ := x; exact Heap.lt_size e
theorem Paired.mapP {α β : Type} {F G : α → β → Prop} : ∀ {l₁ : List α} {l₂ : List β}, Paired F l₁ l₂ → (∀ a b, F a b → G a b) → Paired G l₁ l₂
  | _, _, .nil, _ => .nil
  | _, _, .cons r t, f => .cons (f _ _ r) (Paired.mapP t f)
theorem ObjOk.stay (x : ObjOk P w H h a o) (k : ∀ b u, (b = a ∨ H b = some (.own a)) → h.get? b = some u → h'.get? b = some u)
    (ho : ∀ b, H b = some (.own a) → H' b = some (.own a)) (ht : ∀ b xs, H b = some (.tup xs) → H' b = some (.tup xs)) : ObjOk P w H' h' a o := by
  induction o with
  | lst xs => obtain ⟨z, its, n, r, e⟩ := x; exact ⟨z, its, n, r, k _ _ (.inl rfl) e⟩
  | tup xs => obtain ⟨z, its, r, ob, e, c⟩ := x; exact ⟨z, its, r, ob, k _ _ (.inl rfl) e, c⟩
  | dK kvs => obtain ⟨z, y, vs, r, ob, es, ep, e, c⟩ := x; exact ⟨z, y, vs, r, ob, es, ep, k _ _ (.inl rfl) e, c⟩
  | dT kvs =>
    obtain ⟨z, y, xs, r, ob, es, ep, e, c⟩ := x
    exact ⟨z, y, xs, Paired.mapP r fun p q z => ⟨z.1, ht _ _ z.2.1, z.2.2⟩, ob, es, ep, k _ _ (.inl rfl) e, c⟩
  | set S n => obtain ⟨ob, es, ep, t, e, c⟩ := x; exact ⟨ob, es, ep, t, k _ _ (.inl rfl) e, c⟩
  | ins C dx fs =>
    obtain ⟨d, z, ne, e, mA, ⟨od, es, ep, e2, c⟩, r⟩ := x
    exact ⟨ho _ d, z, ne, k _ _ (.inl rfl) e, mA, ⟨od, es, ep, k _ _ (.inr d) e2, c⟩, r⟩
  | own y => obtain ⟨ob, e⟩ := x; exact ⟨ob, k _ _ (.inl rfl) e⟩
  | xd fs => obtain ⟨mA, ⟨od, es, ep, e, c⟩, r⟩ := x; exact ⟨mA, ⟨od, es, ep, k _ _ (.inl rfl) e, c⟩, r⟩
  | rng lo hi => obtain ⟨t, u, v, e⟩ := x; exact ⟨t, u, v, k _ _ (.inl rfl) e⟩
  | frz ob u ih => obtain ⟨e, q⟩ := x; exact ⟨k _ _ (.inl rfl) e, ih q⟩
  | tbl ps =>
    have e : h.get? a = some { cls := .none, data := .fields ps } := x
    show h'.get? a = some { cls := .none, data := .fields ps }
    exact k a _ (.inl rfl) e
  | met f y =>
    have e : h.get? a = some (PySem.W.methodObj (.ref f) (.ref y)) := x
    show h'.get? a = some (PySem.W.methodObj (.ref f) (.ref y))
    exact k a _ (.inl rfl) e
  | ext φ => obtain ⟨p, ⟨o, e⟩, st⟩ := x; exact ⟨st _ _ p fun o q => k _ _ (.inl rfl) q, ⟨o, k _ _ (.inl rfl) e⟩, st⟩
theorem HOk.lt (x : HOk P w H h) (e : H a = some o) : a < h.objs.size := (x a o e).lt
theorem HOk.fresh (x : HOk P w H h) (e : h.objs.size ≤ a) : H a = none := by
  cases q : H a with
  | none => rfl
  | some u => exact absurd (Nat.lt_of_lt_of_le (x.lt q) e) (Nat.lt_irrefl _)
theorem HOk.kept (x : HOk P w H h) (k : ∀ b u, h.get? b = some u → h'.get? b = some u) : HOk P w H h' := fun a o e =>
  (x a o e).stay (fun b u _ q => k b u q) (fun _ q => q) fun _ _ q => q
theorem HOk.laid (x : HOk P w H h) (k : ∀ b u, h.get? b = some u → h'.get? b = some u) (hp : h.objs.size ≤ a) (new : ObjOk P w (upd H a o) h' a o) : HOk P w (upd H a o) h' := fun b u e => by
  have hn := x.fresh hp
  by_cases hb : b = a
  · subst hb; rw [upd_same] at e; cases e; exact new
  · rw [upd_ne hb] at e
    exact (x b u e).stay (fun c v _ q => k c v q) (fun c q => by rw [upd_ne (ne_of_none q hn)]; exact q) fun c xs q => by rw [upd_ne (ne_of_none q hn)]; exact q
end

noncomputable def Rd (H : Hp) (a : Addr) (u : HO) : Prop := H a = some u ∨ ∃ o, H a = some (.frz o u)
theorem Rd.ok {P : Program} {w : World} {H : Hp} {h : Heap} {a : Addr} {u : HO} (r : Rd H a u) (x : HOk P w H h) : ObjOk P w H h a u := by
  rcases r with r | ⟨o, r⟩
  · exact x a u r
  · obtain ⟨_, q⟩ := x a _ r
    exact q
noncomputable def Mut : Option HO → Prop
  | some (.lst _) => True
  | some (.dK _) => True
  | some (.dT _) => True
  | some (.set _ _) => True
  | some (.ins _ _ _) => True
  | some (.ext _) => True
  | _ => False
section
variable {P : Program} {w : World} {H : Hp} {h h' : Heap} {x e : Addr} {o' : HO}
theorem HOk.write (ok : HOk P w H h) (mu : Mut (H x)) (he : e = x ∨ H e = some (.own x)) (k : ∀ b u, b ≠ e → h.get? b = some u → h'.get? b = some u) (heo : ∃ u, h'.get? e = some u)
    (new : ObjOk P w (upd H x o') h' x o') : HOk P w (upd H x o') h' := fun b u q => by
  have nown : ∀ c y, H c = some (.own y) → c ≠ x := fun c y r z => by subst z; rw [r] at mu; exact mu
  have ntup : ∀ c xs, H c = some (.tup xs) → c ≠ x := fun c xs r z => by subst z; rw [r] at mu; exact mu
  by_cases hb : b = x
  · subst hb; rw [upd_same] at q; cases q; exact new
  · rw [upd_ne hb] at q
    by_cases hbe : b = e
    · have q' : H b = some (.own x) := by
        rcases he with z | z
        · exact absurd (hbe.trans z) hb
        · rw [hbe]; exact z
      rw [q] at q'; cases q'
      obtain ⟨v, hv⟩ := heo
      exact ⟨v, by rw [hbe]; exact hv⟩
    · refine (ok b u q).stay (fun c v hc r => k c v ?_ r) (fun c r => by rw [upd_ne (nown c b r)]; exact r) fun c xs r => by rw [upd_ne (ntup c xs r)]; exact r
      rcases hc with rfl | hc
      · exact hbe
      · rintro rfl
        rcases he with z | z
        · exact nown c b hc z
        · rw [hc] at z; cases z; exact hb rfl
end

/-! ### kept unless tracked; of the frames at fs (the callers') the slots may change (an exception that passes writes there); of the records at ex (iterators) nothing is said -/
structure Un (fs ex : List Addr) (H H' : Hp) (h h' : Heap) : Prop where
  keep : ∀ b o, h.get? b = some o → H b = none → b ∉ fs → b ∉ ex → h'.get? b = some o
  slot : ∀ b o, h.get? b = some o → H b = none → b ∈ fs → b ∉ ex → ∃ sl, h'.get? b = some { o with slots := sl }
  free : ∀ b o, h.get? b = some o → H b = none → b ∉ ex → H' b = none
  there : ∀ b o, h.get? b = some o → b ∉ ex → ∃ o', h'.get? b = some o'
  tups : ∀ b xs, H b = some (.tup xs) → H' b = some (.tup xs)
  frzs : ∀ b o u, H b = some (.frz o u) → H' b = some (.frz o u)
  tbls : ∀ b ps, H b = some (.tbl ps) → ∃ more, H' b = some (.tbl (ps ++ more))
section
variable {fs fs' ex ex' : List Addr} {H H1 H2 : Hp} {h h1 h2 h' : Heap} {a x e : Addr} {o : HO}
theorem Un.any (u : Un fs ex H H1 h h1) {b : Addr} {ob : Obj} (q : h.get? b = some ob) (n : H b = none) (hx : b ∉ ex) : ∃ sl, h1.get? b = some { ob with slots := sl } := by
  by_cases hb : b ∈ fs
  · exact u.slot b ob q n hb hx
  · exact ⟨ob.slots, u.keep b ob q n hb hx⟩
theorem Un.kept (k : ∀ b u, h.get? b = some u → h'.get? b = some u) : Un fs ex H H h h' :=
  ⟨fun b ob q _ _ _ => k b ob q, fun b ob q _ _ _ => ⟨ob.slots, k b ob q⟩, fun _ _ _ n _ => n, fun b ob q _ => ⟨ob, k b ob q⟩, fun _ _ q => q, fun _ _ _ q => q, fun _ ps q => ⟨#[], by rw [q]; simp⟩⟩
theorem Un.refl : Un fs ex H H h h := Un.kept fun _ _ q => q
theorem Un.laid (k : ∀ b u, h.get? b = some u → h'.get? b = some u) (hp : h.objs.size ≤ a) (hn : H a = none) : Un fs ex H (upd H a o) h h' where
  keep := fun b u q _ _ _ => k b u q
  slot := fun b u q _ _ _ => ⟨u.slots, k b u q⟩
  free := fun b u q n _ => by rw [upd_ne (Nat.ne_of_lt (Nat.lt_of_lt_of_le (Heap.lt_size q) hp))]; exact n
  there := fun b u q _ => ⟨u, k b u q⟩
  tups := fun b xs q => by rw [upd_ne (ne_of_none q hn)]; exact q
  frzs := fun b u xs q => by rw [upd_ne (ne_of_none q hn)]; exact q
  tbls := fun b ps q => ⟨#[], by rw [upd_ne (ne_of_none q hn), q]; simp⟩
theorem Un.write (mu : Mut (H x)) (he : e = x ∨ H e = some (.own x)) (k : ∀ b u, b ≠ e → h.get? b = some u → h'.get? b = some u) (heo : ∃ u, h'.get? e = some u) : Un fs ex H (upd H x o) h h' := by
  have hx : ∀ b, H b = none → b ≠ x := fun b n z => by subst z; rw [n] at mu; exact mu
  have hb : ∀ b, H b = none → b ≠ e := fun b n z => by
    subst z
    rcases he with r | r
    · exact hx b n r
    · rw [n] at r; cases r
  have hm : ∀ b u, H b = some u → ¬ Mut (some u) → b ≠ x := fun b u q nm z => by subst z; rw [q] at mu; exact nm mu
  refine ⟨fun b u q n _ _ => k b u (hb b n) q, fun b u q n _ _ => ⟨u.slots, k b u (hb b n) q⟩, fun b u q n _ => by rw [upd_ne (hx b n)]; exact n, fun b u q _ => ?_,
    fun b xs q => by rw [upd_ne (hm b _ q fun z => z)]; exact q, fun b u xs q => by rw [upd_ne (hm b _ q fun z => z)]; exact q, fun b ps q => ⟨#[], by rw [upd_ne (hm b _ q fun z => z), q]; simp⟩⟩
  by_cases hbe : b = e
  · subst hbe; exact heo
  · exact ⟨u, k b u hbe q⟩
end

/-! ### the heap without what is tracked -/
noncomputable def trk (h : Heap) (H : Hp) : List Addr := (List.range h.objs.size).filter fun a => (H a).isSome
noncomputable def hidT (h : Heap) (H : Hp) : Heap := PySem.W.hideAll h (trk h H)
theorem hidT_size (h : Heap) (H : Hp) : (hidT h H).objs.size = h.objs.size := PySem.W.hideAll_size _ _
theorem hidT_get {h : Heap} {H : Hp} {b : Addr} {o : Obj} (e : h.get? b = some o) (n : H b = none) : (hidT h H).get? b = some o :=
  PySem.W.hideAll_get _ e fun hm => by
    have q : (H b).isSome = true := (List.mem_filter.mp hm).2
    rw [n] at q; simp at q
theorem of_hidT {h : Heap} {H : Hp} {b : Addr} {o : Obj} (e : (hidT h H).get? b = some o) : h.get? b = some o ∧ H b = none := by
  have e' : h.get? b = some o := PySem.W.of_hideAll (trk h H) e
  refine ⟨e', ?_⟩
  cases q : H b with
  | none => rfl
  | some x =>
    have hm : b ∈ trk h H := List.mem_filter.mpr ⟨List.mem_range.mpr (Heap.lt_size e'), by simp [q]⟩
    have z : (hidT h H).get? b = none := PySem.W.hideAll_none (trk h H) hm
    rw [z] at e; cases e

/-! ### OpenK's ledger, filled with every new object but one -/
end L2

namespace L2
open PySem PySem.Spec PyProof.Rows

structure Mod (K : PySem.W.Frag) (mg : Str → Option Value) (base : Heap) : Prop where
  kin : K.In base
  glob : base.Ns mainGlobals mg
  blt : ∃ mb, base.Ns builtinsNs mb ∧ ∀ x : Str, x ≠ "__name__" → mb x = bootBuiltins x
  nolimit : base.NoLimit

structure Cx where
  prog : Program
  w : World
  K : PySem.W.Frag
  mg : Str → Option Value
  base : Heap
  A : Around
  N : List Str
  s₀ : Shared
  H₀ : Hp
  env : Env
  outer : List Env
  stack : List Env
  ex : List Addr
  fn : Str → Bool
  calm : Bool
  pn : List (Addr × Obj)
  xe : Value → Shared → Prop
noncomputable def frs (l : List Env) : List Addr := l.filterMap (·.frame)
noncomputable abbrev Cx.fs (X : Cx) : List Addr := frs X.outer

noncomputable def Vis (sc : Scope) (x : Str) : Prop := sc.names.lookup x = some .local ∨ sc.names.lookup x = some .cell ∨ sc.names.lookup x = some .free
noncomputable def Loc (sc : Scope) (x : Str) : Prop := sc.names.lookup x = some .local ∨ sc.names.lookup x = some .cell
noncomputable def Look (env : Env) (h : Heap) (m : Str → Option Value) (x : Str) (u : Value) : Prop :=
  (env.kindOf x = some .local ∧ m x = some u) ∨ ((env.kindOf x = some .cell ∨ env.kindOf x = some .free) ∧ ∃ c, env.cells.lookup x = some c ∧ h.IsCell c (some u))

structure Cx.Ok (X : Cx) : Prop where
  mod : Mod X.K X.mg X.base
  kind : X.env.scope.kind = .function
  glob : X.env.globals = mainGlobals
  blt : X.env.builtins = builtinsNs
  above : X.s₀.heap.objs.size ≤ X.env.locals
  inj : ∀ x y c, X.env.cells.lookup x = some c → X.env.cells.lookup y = some c → x = y
  has : ∀ x, (X.env.kindOf x = some .cell ∨ X.env.kindOf x = some .free) → ∃ c, X.env.cells.lookup x = some c
  cab : ∀ x c, X.fn x = true → X.env.cells.lookup x = some c → X.s₀.heap.objs.size ≤ c
  hd : X.calm = true → X.A.handled = none
  frames : X.A.frames = some X.stack
  stk : X.stack = X.outer ∨ (X.stack = X.env :: X.outer ∧ X.env.frame = some X.env.locals)
  exf : ∀ b ∈ X.ex, b ≠ X.env.locals ∧ ∀ x c, X.env.cells.lookup x = some c → c ≠ b
  bs : ∀ b o, X.base.get? b = some o → X.s₀.heap.get? b = some o ∧ X.H₀ b = none
  bsz : X.base.objs.size ≤ X.s₀.heap.objs.size
  noex : ∀ b o, X.base.get? b = some o → b ∉ X.ex
  exfs : ∀ b ∈ X.ex, b ∉ X.fs
  funs : X.s₀.heap.FunFrames X.base X.outer
  frf : ∀ b ∈ X.fs, X.H₀ b = none

structure Inv (X : Cx) (pins : List (Addr × Obj)) (σ : List (Option V)) (H : Hp) (s : Shared) : Prop where
  ok : X.Ok
  os : s.os = X.s₀.os
  bare : AllBare s.gens
  base : Un X.fs X.ex X.H₀ H X.s₀.heap s.heap
  loc : ∃ m, s.heap.Ns X.env.locals m ∧ ∀ (i : Nat) (x : Str) (v : V), X.N[i]? = some x → σ[i]? = some (some v) → Vis X.env.scope x → ∃ u, RelV v u ∧ Look X.env s.heap m x u
  cell : ∀ x c, X.env.cells.lookup x = some c → ∃ v, s.heap.IsCell c v
  free : H X.env.locals = none
  freeC : ∀ x c, X.env.cells.lookup x = some c → H c = none
  pin : ∀ p ∈ X.pn ++ pins, s.heap.get? p.1 = some p.2 ∧ H p.1 = none ∧ p.1 ≠ X.env.locals ∧ p.1 ∉ X.fs ∧ ∀ v, p.2.data ≠ .cell v
  hok : HOk X.prog X.w H s.heap
  len : σ.length = X.N.length

section
variable {X : Cx} {pins : List (Addr × Obj)} {σ : List (Option V)} {H H' : Hp} {s : Shared} {h' : Heap}

theorem Cx.Ok.nofr (ok : X.Ok) {b : Addr} {o : Obj} (e : X.base.get? b = some o) : b ∉ X.fs := fun hb => by
  have := (ok.funs.mem hb).1
  rw [e] at this; cases this
theorem Inv.bs (I : Inv X pins σ H s) : ∀ b o, X.base.get? b = some o → s.heap.get? b = some o ∧ H b = none := fun b o e =>
  ⟨I.base.keep b o (I.ok.bs b o e).1 (I.ok.bs b o e).2 (I.ok.nofr e) (I.ok.noex b o e), I.base.free b o (I.ok.bs b o e).1 (I.ok.bs b o e).2 (I.ok.noex b o e)⟩
theorem Inv.bk (I : Inv X pins σ H s) : ∀ b o, X.base.get? b = some o → s.heap.get? b = some o := fun b o e => (I.bs b o e).1
theorem Inv.mod (I : Inv X pins σ H s) : Mod X.K X.mg X.base := I.ok.mod
theorem Inv.kIn (I : Inv X pins σ H s) : X.K.In s.heap := I.ok.mod.kin.keeps I.bk
theorem Inv.lt (I : Inv X pins σ H s) : X.env.locals < s.heap.objs.size := let ⟨_, hn, _⟩ := I.loc; hn.lt
theorem Inv.sz (I : Inv X pins σ H s) : X.s₀.heap.objs.size ≤ s.heap.objs.size := Nat.le_trans I.ok.above (Nat.le_of_lt I.lt)
theorem Inv.nofs (I : Inv X pins σ H s) {a : Addr} (h : s.heap.objs.size ≤ a) : a ∉ X.fs := fun hb => by
  obtain ⟨_, o, ho, _⟩ := I.ok.funs.mem hb
  exact absurd (Nat.lt_of_lt_of_le (Heap.lt_size ho) (Nat.le_trans I.sz h)) (Nat.lt_irrefl _)
theorem Inv.cne (I : Inv X pins σ H s) : ∀ x c, X.env.cells.lookup x = some c → c ≠ X.env.locals := fun x c e z => by
  obtain ⟨v, o, ho, hd⟩ := I.cell x c e
  obtain ⟨m, ⟨o', es, ep, ho', hd', _⟩, _⟩ := I.loc
  rw [z, ho'] at ho; cases ho; rw [hd'] at hd; cases hd
theorem Inv.funs (I : Inv X pins σ H s) : s.heap.FunFrames X.base X.outer := by
  have all : ∀ (l : List Env), (∀ b ∈ frs l, b ∈ X.fs) → X.s₀.heap.FunFrames X.base l → s.heap.FunFrames X.base l := by
    intro l
    induction l with
    | nil => intro _ _; trivial
    | cons env r ih =>
      intro hs hl
      obtain ⟨hk, ⟨L, o, hf, hn, ho, hd⟩, hr⟩ := hl
      have hL : L ∈ X.fs := hs L (by unfold frs; rw [List.filterMap_cons, hf]; exact List.mem_cons_self)
      obtain ⟨sl, e⟩ := I.base.slot L o ho (I.ok.frf L hL) hL fun z => I.ok.exfs L z hL
      exact ⟨hk, ⟨L, _, hf, hn, e, hd⟩, ih (fun b hb => hs b (by unfold frs; rw [List.filterMap_cons, hf]; exact List.mem_cons_of_mem _ hb)) hr⟩
  exact all X.outer (fun _ hb => hb) I.ok.funs

theorem Inv.stack (I : Inv X pins σ H s) : s.heap.FunFrames X.base X.stack := by
  rcases I.ok.stk with e | ⟨e, hf⟩
  · rw [e]; exact I.funs
  · rw [e]
    obtain ⟨m, hn, _⟩ := I.loc
    refine .cons (by rw [I.ok.kind]; decide) hf hn ?_ I.funs
    exact Heap.get?_none_of_le (Nat.le_trans I.ok.bsz I.ok.above)
theorem Inv.stkSub (I : Inv X pins σ H s) : ∀ b ∈ frs X.stack, b ∈ X.env.locals :: X.fs := fun b hb => by
  rcases I.ok.stk with e | ⟨e, hf⟩
  · rw [e] at hb; exact List.mem_cons_of_mem _ hb
  · rw [e] at hb
    unfold frs at hb
    rw [List.filterMap_cons, hf] at hb
    exact hb
theorem Inv.stkFree (I : Inv X pins σ H s) : ∀ b ∈ frs X.stack, H b = none := fun b hb => by
  rcases List.mem_cons.mp (I.stkSub b hb) with e | hb
  · rw [e]; exact I.free
  · obtain ⟨_, o, ho, _⟩ := I.ok.funs.mem hb
    exact I.base.free b o ho (I.ok.frf b hb) fun z => I.ok.exfs b z hb

theorem Inv.step {g' : Array GenState} {t' : Nat} {d' : Drawn} {ch : List Addr} (I : Inv X pins σ H s)
    (hch : ∀ b ∈ ch, (b ∈ X.ex ∨ X.s₀.heap.objs.size ≤ b) ∧ b ≠ X.env.locals ∧ (∀ x c, X.env.cells.lookup x = some c → c ≠ b) ∧ ∀ p ∈ X.pn ++ pins, p.1 ≠ b)
    (keep : ∀ b o, b ≠ X.env.locals → b ∉ X.fs → b ∉ ch → s.heap.get? b = some o → H b = none → h'.get? b = some o)
    (slot : ∀ b o, b ≠ X.env.locals → b ∈ X.fs → b ∉ ch → s.heap.get? b = some o → H b = none → ∃ sl, h'.get? b = some { o with slots := sl }) (free : ∀ b o, b ∉ ch → s.heap.get? b = some o → H b = none → H' b = none)
    (there : ∀ b o, b ∉ ch → s.heap.get? b = some o → ∃ o', h'.get? b = some o')
    (tups : ∀ b xs, H b = some (.tup xs) → H' b = some (.tup xs)) (frzs : ∀ b o u, H b = some (.frz o u) → H' b = some (.frz o u)) (tbls : ∀ b ps, H b = some (.tbl ps) → ∃ more, H' b = some (.tbl (ps ++ more)))
    (ns : ∀ m, s.heap.Ns X.env.locals m → h'.Ns X.env.locals m) (hok : HOk X.prog X.w H' h') (hg : AllBare g') :
    Inv X pins σ H' { s with heap := h', gens := g', drawn := d', toks := t' } := by
  have neL : ∀ b o, X.s₀.heap.get? b = some o → b ≠ X.env.locals := fun b o e => Nat.ne_of_lt (Nat.lt_of_lt_of_le (Heap.lt_size e) I.ok.above)
  have neC : ∀ b o, X.s₀.heap.get? b = some o → b ∉ X.ex → b ∉ ch := fun b o e hx hb => by
    rcases (hch b hb).1 with z | z
    · exact hx z
    · exact absurd (Nat.lt_of_lt_of_le (Heap.lt_size e) z) (Nat.lt_irrefl _)
  have cellK : ∀ x c, X.env.cells.lookup x = some c → ∀ v, s.heap.IsCell c v → h'.IsCell c v := fun x c e v ⟨o, ho, hd⟩ => by
    have nch : c ∉ ch := fun z => (hch c z).2.2.1 x c e rfl
    by_cases hc : c ∈ X.fs
    · obtain ⟨sl, q⟩ := slot c o (I.cne x c e) hc nch ho (I.freeC x c e)
      exact ⟨_, q, hd⟩
    · exact ⟨o, keep c o (I.cne x c e) hc nch ho (I.freeC x c e), hd⟩
  refine ⟨I.ok, I.os, hg, ⟨fun b o e n hb hx => ?_, fun b o e n hb hx => ?_, fun b o e n hx => ?_, fun b o e hx => ?_, fun b xs e => tups b xs (I.base.tups b xs e), fun b o xs e => frzs b o xs (I.base.frzs b o xs e), fun b ps e => ?_⟩, ?_, fun x c e => ?_, ?_, fun x c e => ?_, fun p hp => ?_, hok, I.len⟩
  · exact keep b o (neL b o e) hb (neC b o e hx) (I.base.keep b o e n hb hx) (I.base.free b o e n hx)
  · obtain ⟨sl, e1⟩ := I.base.slot b o e n hb hx
    obtain ⟨sl', e2⟩ := slot b _ (neL b o e) hb (neC b o e hx) e1 (I.base.free b o e n hx)
    exact ⟨sl', e2⟩
  · obtain ⟨o', e1⟩ := I.base.there b o e hx
    exact free b o' (neC b o e hx) e1 (I.base.free b o e n hx)
  · obtain ⟨o', e1⟩ := I.base.there b o e hx
    exact there b o' (neC b o e hx) e1
  · obtain ⟨m1, e1⟩ := I.base.tbls b ps e
    obtain ⟨m2, e2⟩ := tbls b _ e1
    exact ⟨m1 ++ m2, by rw [e2, Array.append_assoc]⟩
  · obtain ⟨m, hn, hl⟩ := I.loc
    refine ⟨m, ns m hn, fun i x v e1 e2 e3 => ?_⟩
    obtain ⟨u, r, l⟩ := hl i x v e1 e2 e3
    refine ⟨u, r, ?_⟩
    rcases l with l | ⟨k, c, e, z⟩
    · exact .inl l
    · exact .inr ⟨k, c, e, cellK x c e _ z⟩
  · obtain ⟨v, z⟩ := I.cell x c e
    exact ⟨v, cellK x c e v z⟩
  · obtain ⟨m, ⟨o, _, _, ho, _⟩, _⟩ := I.loc
    exact free _ o (fun z => (hch _ z).2.1 rfl) ho I.free
  · obtain ⟨v, o, ho, hd⟩ := I.cell x c e
    exact free c o (fun z => (hch c z).2.2.1 x c e rfl) ho (I.freeC x c e)
  · obtain ⟨e, n, ne, nf, d⟩ := I.pin p hp
    have nch : p.1 ∉ ch := fun z => (hch p.1 z).2.2.2 p hp rfl
    exact ⟨keep p.1 p.2 ne nf nch e n, free p.1 p.2 nch e n, ne, nf, d⟩
theorem Inv.un {t' : Nat} (I : Inv X pins σ H s) (u : Un X.fs [] H H' s.heap h') (hok : HOk X.prog X.w H' h') : Inv X pins σ H' { s with heap := h', toks := t' } := by
  obtain ⟨m, ⟨o, es, ep, ho, r⟩, _⟩ := id I.loc
  obtain ⟨sl, hL⟩ := u.any ho I.free (by simp)
  exact I.step (g' := s.gens) (d' := s.drawn) (ch := []) (fun _ z => nomatch z) (fun b o _ hb _ e n => u.keep b o e n hb (by simp)) (fun b o _ hb _ e n => u.slot b o e n hb (by simp)) (fun b o _ e n => u.free b o e n (by simp)) (fun b o _ e => u.there b o e (by simp)) u.tups u.frzs u.tbls (fun m' hm => by
    obtain ⟨o', es', ep', ho', r'⟩ := hm
    rw [ho] at ho'; cases ho'
    exact ⟨_, es', ep', hL, r'⟩) hok I.bare
theorem Inv.call {g' : Array GenState} {t' : Nat} {d' : Drawn} {ch : List Addr} (I : Inv X pins σ H s) (u : Un (frs X.stack) ch H H' s.heap h') (hok : HOk X.prog X.w H' h') (hg : AllBare g')
    (hch : ∀ b ∈ ch, (b ∈ X.ex ∨ X.s₀.heap.objs.size ≤ b) ∧ b ≠ X.env.locals ∧ (∀ x c, X.env.cells.lookup x = some c → c ≠ b) ∧ ∀ p ∈ X.pn ++ pins, p.1 ≠ b) :
    Inv X pins σ H' { s with heap := h', gens := g', drawn := d', toks := t' } := by
  obtain ⟨m, ⟨o, es, ep, ho, r⟩, _⟩ := id I.loc
  obtain ⟨sl, hL⟩ := u.any ho I.free fun z => (hch _ z).2.1 rfl
  exact I.step (ch := ch) hch (fun b o hL hb hc e n => u.keep b o e n (fun z => (List.mem_cons.mp (I.stkSub b z)).elim hL hb) hc) (fun b o _ _ hc e n => u.any e n hc) (fun b o hc e n => u.free b o e n hc) (fun b o hc e => u.there b o e hc) u.tups u.frzs u.tbls (fun m' hm => by
    obtain ⟨o', es', ep', ho', r'⟩ := hm
    rw [ho] at ho'; cases ho'
    exact ⟨_, es', ep', hL, r'⟩) hok hg
theorem Inv.turned {t' : Nat} {it : Addr} (I : Inv X pins σ H s) (k : ∀ b o, b ≠ it → s.heap.get? b = some o → h'.get? b = some o) (hn : H it = none) (hL : it ≠ X.env.locals)
    (h1 : it ∈ X.ex ∨ X.s₀.heap.objs.size ≤ it) (h2 : ∀ x c, X.env.cells.lookup x = some c → c ≠ it) (h3 : ∀ p ∈ X.pn ++ pins, p.1 ≠ it) : Inv X pins σ H { s with heap := h', toks := t' } := by
  have nit : ∀ b u, H b = some u → b ≠ it := fun b u e z => by rw [z, hn] at e; cases e
  refine I.step (g' := s.gens) (d' := s.drawn) (ch := [it]) (fun b hb => ?_) (fun b o _ _ hc e _ => k b o (fun z => hc (by simp [z])) e) (fun b o _ _ hc e _ => ⟨o.slots, k b o (fun z => hc (by simp [z])) e⟩) (fun _ _ _ _ n => n)
    (fun b o hc e => ⟨o, k b o (fun z => hc (by simp [z])) e⟩) (fun _ _ e => e) (fun _ _ _ e => e) (fun b ps e => ⟨#[], by rw [e]; simp⟩) (fun m hm => ?_) (fun b u e => ?_) I.bare
  · have e : b = it := by simpa using hb
    subst e
    exact ⟨h1, hL, h2, h3⟩
  · obtain ⟨o, es, ep, ho, r⟩ := hm
    exact ⟨o, es, ep, k _ o (Ne.symm hL) ho, r⟩
  · refine (I.hok b u e).stay (fun c v hc q => k c v ?_ q) (fun _ q => q) fun _ _ q => q
    rcases hc with z | z
    · rw [z]; exact nit b u e
    · exact nit c _ z
theorem Inv.tok (I : Inv X pins σ H s) (t : Nat) : Inv X pins σ H { s with toks := t } := I.un (h' := s.heap) (t' := t) Un.refl I.hok
theorem Inv.kept {t' : Nat} (I : Inv X pins σ H s) (k : ∀ b u, s.heap.get? b = some u → h'.get? b = some u) : Inv X pins σ H { s with heap := h', toks := t' } := I.un (Un.kept k) (I.hok.kept k)
theorem Inv.laid {a : Addr} {o : HO} {t' : Nat} (I : Inv X pins σ H s) (k : ∀ b u, s.heap.get? b = some u → h'.get? b = some u) (hp : s.heap.objs.size ≤ a) (new : ObjOk X.prog X.w (upd H a o) h' a o) :
    Inv X pins σ (upd H a o) { s with heap := h', toks := t' } := I.un (Un.laid k hp (I.hok.fresh hp)) (I.hok.laid k hp new)
theorem Inv.write {x e : Addr} {o : HO} {t' : Nat} (I : Inv X pins σ H s) (mu : Mut (H x)) (he : e = x ∨ H e = some (.own x)) (k : ∀ b u, b ≠ e → s.heap.get? b = some u → h'.get? b = some u) (heo : ∃ u, h'.get? e = some u)
    (new : ObjOk X.prog X.w (upd H x o) h' x o) : Inv X pins σ (upd H x o) { s with heap := h', toks := t' } := I.un (Un.write mu he k heo) (I.hok.write mu he k heo new)
theorem Inv.pins_of {pins' : List (Addr × Obj)} (I : Inv X pins σ H s) (h : ∀ p ∈ pins', s.heap.get? p.1 = some p.2 ∧ H p.1 = none ∧ p.1 ≠ X.env.locals ∧ p.1 ∉ X.fs ∧ ∀ v, p.2.data ≠ .cell v) : Inv X pins' σ H s :=
  ⟨I.ok, I.os, I.bare, I.base, I.loc, I.cell, I.free, I.freeC, fun p hp => (List.mem_append.mp hp).elim (fun z => I.pin p (List.mem_append_left _ z)) (h p), I.hok, I.len⟩

theorem nodup_ix {N : List Str} (hN : N.Nodup) {i j : Nat} {x : Str} (a : N[i]? = some x) (b : N[j]? = some x) : i = j := by
  obtain ⟨h1, e1⟩ := List.getElem?_eq_some_iff.mp a
  obtain ⟨h2, e2⟩ := List.getElem?_eq_some_iff.mp b
  exact (List.getElem_inj hN).mp (e1.trans e2.symm)

theorem store_ok2 {M : Model} {A : Around} {E : Value → Shared → Prop} {i : Nat} {x : Str} {v : V} {u : Value} {Q : Unit → Shared → Prop} (I : Inv X pins σ H s) (hN : X.N.Nodup) (hi : X.N[i]? = some x) (hx : Loc X.env.scope x) (r : RelV v u)
    (h : ∀ s', Inv X pins (σ.set i (some v)) H s' → (∃ a, Heap.SameBut a s.heap s'.heap ∧ (a = X.env.locals ∨ X.env.cells.lookup x = some a)) → Q () s') (hf : X.fn x = true ∨ X.env.scope.names.lookup x = some .local := by first | exact .inl rfl | exact .inr rfl | assumption) : wpAny M A (storeName X.env x u) Q E s := by
  obtain ⟨m, hn, hl⟩ := id I.loc
  have hcls : (X.env.scope.kind == .class || (X.env.scope.kind == .module && X.env.locals != X.env.globals)) = false := by rw [I.ok.kind]; rfl
  have hiσ : i < σ.length := by rw [I.len]; exact (List.getElem?_eq_some_iff.mp hi).1
  have cne := I.cne
  have tracked : ∀ {a : Addr} {h' : Heap}, (∃ o, s.heap.get? a = some o ∧ H a = none) → Heap.SameBut a s.heap h' → HOk X.prog X.w H h' := fun {a h'} ha hs b ob e => by
    obtain ⟨_, _, hfree⟩ := ha
    refine (I.hok b ob e).stay (fun c w' hc q => (hs.2 c ?_).trans q) (fun _ q => q) fun _ _ q => q
    rintro rfl
    rcases hc with rfl | hc
    · rw [hfree] at e; cases e
    · rw [hfree] at hc; cases hc
  rcases hx with hk | hk
  · refine wpAny_storeName_local hk hn (fun h' hn' hs => ?_) hcls
    obtain ⟨oL, _, _, hoL, _⟩ := id hn
    refine h _ ⟨I.ok, I.os, I.bare, ⟨fun b o e n hb hx => ?_, fun b o e n hb hx => ?_, I.base.free, fun b o e hx => ?_, I.base.tups, I.base.frzs, I.base.tbls⟩, ⟨_, hn', fun j y v' e1 e2 e3 => ?_⟩, fun y c e => ?_, I.free, I.freeC, fun p hp => ?_, tracked ⟨oL, hoL, I.free⟩ hs, by simpa using I.len⟩ ⟨_, hs, .inl rfl⟩
    · exact (hs.2 b (Nat.ne_of_lt (Nat.lt_of_lt_of_le (Heap.lt_size e) I.ok.above))).trans (I.base.keep b o e n hb hx)
    · obtain ⟨sl, e1⟩ := I.base.slot b o e n hb hx
      exact ⟨sl, (hs.2 b (Nat.ne_of_lt (Nat.lt_of_lt_of_le (Heap.lt_size e) I.ok.above))).trans e1⟩
    · obtain ⟨o', e1⟩ := I.base.there b o e hx
      exact ⟨o', (hs.2 b (Nat.ne_of_lt (Nat.lt_of_lt_of_le (Heap.lt_size e) I.ok.above))).trans e1⟩
    · by_cases hj : j = i
      · subst hj
        rw [hi] at e1; cases e1
        rw [List.getElem?_set_self hiσ] at e2
        cases e2
        exact ⟨u, r, .inl ⟨hk, by simp⟩⟩
      · rw [List.getElem?_set_ne (Ne.symm hj)] at e2
        obtain ⟨u', r', q⟩ := hl j y v' e1 e2 e3
        refine ⟨u', r', ?_⟩
        rcases q with ⟨k, e⟩ | ⟨k, c, e, z⟩
        · refine .inl ⟨k, ?_⟩
          have : y ≠ x := fun e => hj (nodup_ix hN e1 (e ▸ hi))
          simp [this, e]
        · exact .inr ⟨k, c, e, z.sameBut hs (cne y c e)⟩
    · obtain ⟨w', z⟩ := I.cell y c e
      exact ⟨w', z.sameBut hs (cne y c e)⟩
    · obtain ⟨e, n, ne, nf, d⟩ := I.pin p hp
      exact ⟨(hs.2 p.1 ne).trans e, n, ne, nf, d⟩
  · have hfn : X.fn x = true := by
      rcases hf with z | z
      · exact z
      · rw [z] at hk; cases hk
    obtain ⟨c, hc⟩ := I.ok.has x (.inl hk)
    obtain ⟨w', z⟩ := I.cell x c hc
    refine wpAny_storeName_cell I.ok.kind hk hc z (fun h' hc' hs => ?_)
    obtain ⟨oc, hoc, hocd⟩ := id z
    refine h { s with heap := h' } ⟨I.ok, I.os, I.bare, ⟨fun b o e n hb hx => ?_, fun b o e n hb hx => ?_, I.base.free, fun b o e hx => ?_, I.base.tups, I.base.frzs, I.base.tbls⟩, ⟨m, hn.sameBut hs (Ne.symm (cne x c hc)), fun j y v' e1 e2 e3 => ?_⟩, fun y c' e => ?_, I.free, I.freeC, fun p hp => ?_, tracked ⟨oc, hoc, I.freeC x c hc⟩ hs, by simpa using I.len⟩ ⟨c, hs, .inr hc⟩
    · exact (hs.2 b (Nat.ne_of_lt (Nat.lt_of_lt_of_le (Heap.lt_size e) (I.ok.cab x c hfn hc)))).trans (I.base.keep b o e n hb hx)
    · obtain ⟨sl, e1⟩ := I.base.slot b o e n hb hx
      exact ⟨sl, (hs.2 b (Nat.ne_of_lt (Nat.lt_of_lt_of_le (Heap.lt_size e) (I.ok.cab x c hfn hc)))).trans e1⟩
    · obtain ⟨o', e1⟩ := I.base.there b o e hx
      exact ⟨o', (hs.2 b (Nat.ne_of_lt (Nat.lt_of_lt_of_le (Heap.lt_size e) (I.ok.cab x c hfn hc)))).trans e1⟩
    · by_cases hj : j = i
      · subst hj
        rw [hi] at e1; cases e1
        rw [List.getElem?_set_self hiσ] at e2
        cases e2
        exact ⟨u, r, .inr ⟨.inl hk, c, hc, hc'⟩⟩
      · rw [List.getElem?_set_ne (Ne.symm hj)] at e2
        obtain ⟨u', r', q⟩ := hl j y v' e1 e2 e3
        refine ⟨u', r', ?_⟩
        rcases q with q | ⟨k, c', e, z'⟩
        · exact .inl q
        · refine .inr ⟨k, c', e, z'.sameBut hs ?_⟩
          rintro rfl
          exact hj (nodup_ix hN e1 (I.ok.inj _ _ _ e hc ▸ hi))
    · by_cases hcc : c' = c
      · subst hcc; exact ⟨_, hc'⟩
      · obtain ⟨w2, z2⟩ := I.cell y c' e
        exact ⟨w2, z2.sameBut hs hcc⟩
    · obtain ⟨e, n, ne, nf, d⟩ := I.pin p hp
      refine ⟨(hs.2 p.1 ?_).trans e, n, ne, nf, d⟩
      intro q
      rw [q, hoc] at e
      have q' : oc = p.2 := Option.some.inj e
      exact d w' (by rw [← q']; exact hocd)
theorem store_ok {M : Model} {A : Around} {E : Value → Shared → Prop} {i : Nat} {x : Str} {v : V} {u : Value} {Q : Unit → Shared → Prop} (I : Inv X pins σ H s) (hN : X.N.Nodup) (hi : X.N[i]? = some x) (hx : Loc X.env.scope x) (r : RelV v u)
    (h : ∀ s', Inv X pins (σ.set i (some v)) H s' → Q () s') (hf : X.fn x = true ∨ X.env.scope.names.lookup x = some .local := by first | exact .inl rfl | exact .inr rfl | assumption) : wpAny M A (storeName X.env x u) Q E s :=
  store_ok2 I hN hi hx r (fun s' I' _ => h s' I') hf
theorem Inv.call' {s' : Shared} {ch : List Addr} (I : Inv X pins σ H s) (ho : s'.os = s.os) (u : Un (frs X.stack) ch H H' s.heap s'.heap) (hok : HOk X.prog X.w H' s'.heap) (hg : AllBare s'.gens)
    (hch : ∀ b ∈ ch, (b ∈ X.ex ∨ X.s₀.heap.objs.size ≤ b) ∧ b ≠ X.env.locals ∧ (∀ x c, X.env.cells.lookup x = some c → c ≠ b) ∧ ∀ p ∈ X.pn ++ pins, p.1 ≠ b) : Inv X pins σ H' s' := by
  obtain ⟨h', g', d', t', o'⟩ := s'
  have e : o' = s.os := ho
  subst e
  exact I.call (g' := g') (t' := t') (d' := d') u hok hg hch
end

/-! ### the judgements -/
noncomputable abbrev XK := Value → Option Addr → Hp → Prop
noncomputable abbrev St := List (Option V)
noncomputable abbrev VK := V → Hp → Prop
noncomputable abbrev TE := St → Hp → VK → Prop
noncomputable abbrev TT := St → Hp → (Bool → Hp → Prop) → Prop
noncomputable abbrev TA := St → Hp → (List V → Hp → Prop) → Prop
structure Ends where
  nx : St → Hp → Prop
  rt : VK
  bk : St → Hp → Prop := fun _ _ => False
  ct : St → Hp → Prop := fun _ _ => False
noncomputable abbrev TS := Ends → St → Hp → Prop

noncomputable def EP (X : Cx) (pins : List (Addr × Obj)) (σ : St) (Q : VK) (u : Value) (s' : Shared) : Prop := ∃ v H', Inv X pins σ H' s' ∧ RelV v u ∧ Q v H'
noncomputable def TP (X : Cx) (pins : List (Addr × Obj)) (σ : St) (Q : Bool → Hp → Prop) (b : Bool) (s' : Shared) : Prop := ∃ H', Inv X pins σ H' s' ∧ Q b H'
noncomputable def AP (X : Cx) (pins : List (Addr × Obj)) (σ : St) (Q : List V → Hp → Prop) (us : List Value) (s' : Shared) : Prop := ∃ vs H', Inv X pins σ H' s' ∧ Vals vs us ∧ Q vs H'
noncomputable def SP (X : Cx) (pins : List (Addr × Obj)) (D : Ends) (f : Flow) (s' : Shared) : Prop :=
  match f with
  | .next => ∃ σ' H', Inv X pins σ' H' s' ∧ D.nx σ' H'
  | .brk => ∃ σ' H', Inv X pins σ' H' s' ∧ D.bk σ' H'
  | .cont => ∃ σ' H', Inv X pins σ' H' s' ∧ D.ct σ' H'
  | .ret u => ∃ v σ' H', Inv X pins σ' H' s' ∧ RelV v u ∧ D.rt v H'

noncomputable def PE (X : Cx) (e : Expr) (t : TE) : Prop :=
  ∀ (pins : List (Addr × Obj)) (s : Shared) (σ : St) (H : Hp) (Q : VK), Inv X pins σ H s → t σ H Q → wpAny (model X.prog X.w) X.A (eval e X.env) (EP X pins σ Q) X.xe s
noncomputable def PT (X : Cx) (e : Expr) (t : TT) : Prop :=
  ∀ (pins : List (Addr × Obj)) (s : Shared) (σ : St) (H : Hp) (Q : Bool → Hp → Prop), Inv X pins σ H s → t σ H Q → wpAny (model X.prog X.w) X.A (isTrue e X.env (eval e X.env)) (TP X pins σ Q) X.xe s
noncomputable def PW (X : Cx) (e : Expr) (t : TT) : Prop :=
  ∀ (whole : Sem Value) (pins : List (Addr × Obj)) (s : Shared) (σ : St) (H : Hp) (Q : Bool → Hp → Prop), Inv X pins σ H s → t σ H Q → wpAny (model X.prog X.w) X.A (isTrue e X.env whole) (TP X pins σ Q) X.xe s
theorem PW.pt {X : Cx} {e : Expr} {t : TT} (h : PW X e t) : PT X e t := h _
noncomputable def PA (X : Cx) (es : List Expr) (t : TA) : Prop :=
  ∀ (pos : Pos) (pins : List (Addr × Obj)) (s : Shared) (σ : St) (H : Hp) (Q : List V → Hp → Prop), Inv X pins σ H s → t σ H Q → wpAny (model X.prog X.w) X.A (spliced (backTo pos (starEach es X.env))) (AP X pins σ Q) X.xe s
noncomputable def PS (X : Cx) (st : Stmt) (t : TS) : Prop :=
  ∀ (pins : List (Addr × Obj)) (s : Shared) (σ : St) (H : Hp) (D : Ends), Inv X pins σ H s → t D σ H → wpAny (model X.prog X.w) X.A (exec st X.env) (SP X pins D) X.xe s
noncomputable def PSs (X : Cx) (st : List Stmt) (t : TS) : Prop :=
  ∀ (pins : List (Addr × Obj)) (s : Shared) (σ : St) (H : Hp) (D : Ends), Inv X pins σ H s → t D σ H → wpAny (model X.prog X.w) X.A (execs st X.env) (SP X pins D) X.xe s
theorem thn {α : Type} {t : Sem α} {Q Q' : α → Shared → Prop} {M : Model} {A : Around} {E : Value → Shared → Prop} {s : Shared} (h : wpAny M A t Q E s) (hQ : ∀ a s, Q a s → Q' a s) : wpAny M A t Q' E s := wpAny_mono h hQ fun _ _ x => x
end L2

namespace L2
open PySem PySem.Spec PyProof.Rows
section
variable {X : Cx}

/-! ### names and constants -/
inductive tVarI (i : Nat) (σ : St) (H : Hp) (Q : VK) : Prop
  | mk : ∀ v, (σ[i]? = some (some v)) → (Q v H) → tVarI i σ H Q
noncomputable def tVar (i : Nat) : TE := fun σ H Q => tVarI i σ H Q
noncomputable def tC (v : V) : TE := fun _ H Q => Q v H
theorem pe_var {i : Nat} {x : Str} {pos : Pos} (hN : X.N[i]? = some x) (hv : Vis X.env.scope x) (hd : (x == ("__debug__" : Str)) = false := by decide) (hcd : (x == ("__classdict__" : Str)) = false := by decide) : PE X (.Name x pos) (tVar i) := by
  intro pins s σ H Q I h
  obtain ⟨v, e, h⟩ := h
  obtain ⟨m, hn, hl⟩ := I.loc
  obtain ⟨u, r, l⟩ := hl i x v hN e hv
  have fin : EP X pins σ Q u s := ⟨v, H, I, r, h⟩
  rcases l with ⟨hk, hm⟩ | ⟨hk, c, hc, hcell⟩
  · exact wpAny_Name (wpAny_loadName_local I.ok.kind hk hn hm fin) hd
  · rcases hk with hk | hk
    · exact wpAny_Name (wpAny_loadName_cell I.ok.kind hk hc hcell fin) hd
    · exact wpAny_Name (wpAny_loadName_free I.ok.kind hk hc hcell fin hcd) hd
theorem pe_int {i j pos} : PE X (.Constant (.int i) j pos) (tC (.int i)) := fun _ _ _ H _ I h => wpAny_Constant_int ⟨.int i, H, I.tok _, ⟨_, rfl⟩, h⟩
theorem pe_bl {b j pos} : PE X (.Constant (.bool b) j pos) (tC (.bl b)) := fun _ _ _ H _ I h => Constant_bool ⟨.bl b, H, I, rfl, h⟩
theorem pe_non {j pos} : PE X (.Constant .none j pos) (tC .non) := fun _ _ _ H _ I h => Constant_none ⟨.non, H, I, rfl, h⟩
theorem pe_str {x j pos} : PE X (.Constant (.str x) j pos) (tC (.str x)) := fun _ _ _ H _ I h => Calls.Constant_str ⟨.str x, H, I.tok _, ⟨_, rfl⟩, h⟩

noncomputable def Gl (X : Cx) (x : Str) : Prop := X.env.kindOf x = some .globalImplicit
theorem ld_glob {E : Value → Shared → Prop} {pins : List (Addr × Obj)} {s : Shared} {σ : St} {H : Hp} {x : Str} {u : Value} {pos : Pos} {Q : Value → Shared → Prop} (I : Inv X pins σ H s) (hg : Gl X x) (hm : X.mg x = some u) (h : Q u s)
    (hd : (x == ("__debug__" : Str)) = false := by decide) : wpAny (model X.prog X.w) X.A (eval (.Name x pos) X.env) Q E s :=
  Calls.Name_function_global I.ok.kind hg (Calls.loadGlobal_global (by rw [I.ok.glob]; exact I.mod.glob.keeps I.bk) hm h) hd
theorem ld_blt {E : Value → Shared → Prop} {pins : List (Addr × Obj)} {s : Shared} {σ : St} {H : Hp} {x : Str} {u : Value} {pos : Pos} {Q : Value → Shared → Prop} (I : Inv X pins σ H s) (hg : Gl X x) (hm : X.mg x = none) (hv : bootBuiltins x = some u) (h : Q u s)
    (hn : x ≠ "__name__" := by decide) (hd : (x == ("__debug__" : Str)) = false := by decide) : wpAny (model X.prog X.w) X.A (eval (.Name x pos) X.env) Q E s := by
  obtain ⟨mb, h1, h2⟩ := I.mod.blt
  exact Calls.Name_function_global I.ok.kind hg (Calls.loadGlobal_builtin (by rw [I.ok.glob]; exact I.mod.glob.keeps I.bk) hm (by rw [I.ok.blt]; exact h1.keeps I.bk) ((h2 x hn).trans hv) h) hd
theorem pe_bltn {x : Str} {v : V} {u : Value} {pos : Pos} (hg : Gl X x) (hm : X.mg x = none) (hv : bootBuiltins x = some u) (r : RelV v u) (hn : x ≠ "__name__" := by decide) (hd : (x == ("__debug__" : Str)) = false := by decide) : PE X (.Name x pos) (tC v) :=
  fun _ _ _ H _ I h => ld_blt I hg hm hv ⟨v, H, I, r, h⟩ hn hd

/-! ### arithmetic -/
variable {a b : Expr} {ta tb : TE} {pos : Pos}
/-! ### comparisons -/
noncomputable def PC (X : Cx) (op : CmpOp) (a b : Expr) (t : TE) : Prop :=
  ∀ (pins : List (Addr × Obj)) (s : Shared) (σ : St) (H : Hp) (Q : VK), Inv X pins σ H s → t σ H Q →
    wpAny (model X.prog X.w) X.A (eval a X.env) (fun v s₁ => wpAny (model X.prog X.w) X.A (eval b X.env) (fun u s₂ => wpAny (model X.prog X.w) X.A (compareOp op v u) (EP X pins σ Q) X.xe s₂) X.xe s₁) X.xe s
theorem nobehind (b : Expr) {op : CmpOp} (h : op ≠ .In) (h2 : op ≠ .NotIn) : behindInMarks op b = false := by
  have e1 : (op == CmpOp.In) = false := by cases op <;> first | rfl | exact absurd rfl h
  have e2 : (op == CmpOp.NotIn) = false := by cases op <;> first | rfl | exact absurd rfl h2
  cases b <;> simp [behindInMarks, e1, e2]
noncomputable def tIsN (ta : TE) : TE := fun σ H Q => ta σ H fun x H1 => Q (.bl (decide (x = .non))) H1
theorem RelV.none_iff {x : V} {v : Value} (r : RelV x v) : (v == Value.none) = decide (x = .non) := by
  cases x with
  | non => cases r; rfl
  | bl _ => cases r; rfl
  | int _ => obtain ⟨t, rfl⟩ := r; rfl
  | str _ => obtain ⟨t, rfl⟩ := r; rfl
  | byt _ => obtain ⟨t, rfl⟩ := r; rfl
  | flt _ => obtain ⟨t, rfl⟩ := r; rfl
  | ref _ => cases r; rfl
  | ty _ => cases r; rfl
theorem pc_isN {j pos'} (ha : PE X a ta) : PC X .Is a (.Constant .none j pos') (tIsN ta) := by
  intro pins s σ H Q I h
  refine thn (ha pins s σ H _ I h) fun v s1 ⟨x, H1, I1, r1, q1⟩ => ?_
  exact Constant_none (is_none_gen ⟨.bl _, H1, I1, by rw [r1.none_iff]; rfl, q1⟩)
inductive tBI (Q : (Bool → Hp → Prop)) (x : V) (H1 : Hp) : Prop
  | mk : ∀ c, (x = .bl c) → (Q c H1) → tBI Q x H1
noncomputable def tB (t : TE) : TT := fun σ H Q => t σ H fun x H1 => tBI Q x H1
theorem pe_cmp {op : CmpOp} {t : TE} (h : PC X op a b t) (h1 : behindInMarks op b = false := by first | exact nobehind _ (by decide) (by decide) | rfl) : PE X (.Compare a [op] [b] pos) t := fun pins s σ H Q I hw => wpAny_Compare1 (h pins s σ H Q I hw) h1
theorem pt_cmp {op : CmpOp} {t : TE} (h : PC X op a b t) (h1 : behindInMarks op b = false := by first | exact nobehind _ (by decide) (by decide) | rfl) : PT X (.Compare a [op] [b] pos) (tB t) := by
  intro pins s σ H Q I hw
  refine wpAny_isTrue_Compare1 (thn (h pins s σ H _ I hw) fun v s1 h1 => thn h1 fun u s2 h2 => thn h2 fun c s3 ⟨x, H1, I1, r1, q1⟩ => ?_) h1
  obtain ⟨d, rfl, q⟩ := q1
  cases r1
  exact wpAny_truthy_bool ⟨H1, I1, q⟩
theorem pt_val {e : Expr} {t : TE} (h : PE X e t) (he : ∀ whole, isTrue e X.env whole = (do let v ← whole; standAt e.pos; holding [v] (truthy v)) := by intro _; rfl) : PT X e (tB t) := by
  intro pins s σ H Q I hw
  refine isTrue_plain (thn (h pins s σ H _ I hw) fun v s1 ⟨x, H1, I1, r1, q1⟩ => ?_) (he _)
  obtain ⟨d, rfl, q⟩ := q1
  cases r1
  exact wpAny_truthy_bool ⟨H1, I1, q⟩

/-! ### and, or, not -/
variable {tA tB' : TT} {rest : List Expr}
noncomputable def tAnd (t u : TT) : TT := fun σ H Q => t σ H fun c H1 => if c = true then u σ H1 Q else Q false H1
noncomputable def tOr (t u : TT) : TT := fun σ H Q => t σ H fun c H1 => if c = true then Q true H1 else u σ H1 Q
noncomputable def tNot (t : TT) : TT := fun σ H Q => t σ H fun c H1 => Q (!c) H1
theorem pw_and1 (ha : PT X a tA) : PW X (.BoolOp .And [a] pos) tA := by
  intro wh pins s σ H Q I h
  refine isTrue_and (thn (ha pins s σ H Q I h) fun c s1 e => ?_)
  cases c with
  | true => exact isTrue_and_nil e
  | false => exact e
theorem pw_or1 (ha : PT X a tA) : PW X (.BoolOp .Or [a] pos) tA := by
  intro wh pins s σ H Q I h
  refine isTrue_or (thn (ha pins s σ H Q I h) fun c s1 e => ?_)
  cases c with
  | false => exact isTrue_or_nil e
  | true => exact e
theorem pw_and (ha : PT X a tA) (hb : PW X (.BoolOp .And (b :: rest) pos) tB') : PW X (.BoolOp .And (a :: b :: rest) pos) (tAnd tA tB') := by
  intro wh pins s σ H Q I h
  refine isTrue_and (thn (ha pins s σ H _ I h) fun c s1 ⟨H1, I1, q1⟩ => ?_)
  cases c with
  | true => exact hb wh pins s1 σ H1 Q I1 q1
  | false => exact ⟨H1, I1, q1⟩
theorem pw_or (ha : PT X a tA) (hb : PW X (.BoolOp .Or (b :: rest) pos) tB') : PW X (.BoolOp .Or (a :: b :: rest) pos) (tOr tA tB') := by
  intro wh pins s σ H Q I h
  refine isTrue_or (thn (ha pins s σ H _ I h) fun c s1 ⟨H1, I1, q1⟩ => ?_)
  cases c with
  | true => exact ⟨H1, I1, q1⟩
  | false => exact hb wh pins s1 σ H1 Q I1 q1
theorem pt_not (ha : PT X a tA) : PT X (.UnaryOp .Not a pos) (tNot tA) := by
  intro pins s σ H Q I h
  exact isTrue_not (ha pins s σ H (fun c H1 => Q (!c) H1) I h)
inductive tAndVI (tb : TE) (σ : St) (Q : VK) (x : V) (H1 : Hp) : Prop
  | mk : ∀ c, (x = .bl c) → (if c = true then tb σ H1 Q else Q (.bl false) H1) → tAndVI tb σ Q x H1
noncomputable def tAndV (ta tb : TE) : TE := fun σ H Q => ta σ H fun x H1 => tAndVI tb σ Q x H1
inductive tOrVI (tb : TE) (σ : St) (Q : VK) (x : V) (H1 : Hp) : Prop
  | mk : ∀ c, (x = .bl c) → (if c = true then Q (.bl true) H1 else tb σ H1 Q) → tOrVI tb σ Q x H1
noncomputable def tOrV (ta tb : TE) : TE := fun σ H Q => ta σ H fun x H1 => tOrVI tb σ Q x H1
inductive tNotVI (Q : VK) (x : V) (H1 : Hp) : Prop
  | mk : ∀ c, (x = .bl c) → (Q (.bl (!c)) H1) → tNotVI Q x H1
noncomputable def tNotV (ta : TE) : TE := fun σ H Q => ta σ H fun x H1 => tNotVI Q x H1
theorem pe_one {op} {t : TE} (h : PE X a t) : PE X (.BoolOp op [a] pos) t := fun pins s σ H Q I hw => BoolOp_one (h pins s σ H Q I hw)
theorem pe_and (ha : PE X a ta) (hb : PE X (.BoolOp .And (b :: rest) pos) tb) : PE X (.BoolOp .And (a :: b :: rest) pos) (tAndV ta tb) := by
  intro pins s σ H Q I h
  refine BoolOp_and (thn (ha pins s σ H _ I h) fun v s1 ⟨x, H1, I1, r1, q1⟩ => ?_)
  obtain ⟨c, rfl, q1⟩ := q1
  cases r1
  refine wpAny_truthy_bool ?_
  cases c with
  | true => exact hb pins s1 σ H1 Q I1 q1
  | false => exact ⟨.bl false, H1, I1, rfl, q1⟩
theorem pe_or (ha : PE X a ta) (hb : PE X (.BoolOp .Or (b :: rest) pos) tb) : PE X (.BoolOp .Or (a :: b :: rest) pos) (tOrV ta tb) := by
  intro pins s σ H Q I h
  refine BoolOp_or (thn (ha pins s σ H _ I h) fun v s1 ⟨x, H1, I1, r1, q1⟩ => ?_)
  obtain ⟨c, rfl, q1⟩ := q1
  cases r1
  refine wpAny_truthy_bool ?_
  cases c with
  | false => exact hb pins s1 σ H1 Q I1 q1
  | true => exact ⟨.bl true, H1, I1, rfl, q1⟩
theorem pe_not (ha : PE X a ta) : PE X (.UnaryOp .Not a pos) (tNotV ta) := by
  intro pins s σ H Q I h
  refine UnaryOp_ (thn (ha pins s σ H _ I h) fun v s1 ⟨x, H1, I1, r1, q1⟩ => ?_)
  obtain ⟨c, rfl, q1⟩ := q1
  cases r1
  exact not_of (wpAny_truthy_bool ⟨.bl (!c), H1, I1, rfl, q1⟩)
noncomputable def tIf (t : TT) (ta tb : TE) : TE := fun σ H Q => t σ H fun c H1 => if c = true then ta σ H1 Q else tb σ H1 Q
theorem pe_ifExp {c : Expr} (hc : PT X c tA) (ha : PE X a ta) (hb : PE X b tb) : PE X (.IfExp c a b pos) (tIf tA ta tb) := by
  intro pins s σ H Q I h
  refine wpAny_IfExp (thn (hc pins s σ H _ I h) fun d s1 ⟨H1, I1, q1⟩ => ?_)
  cases d with
  | true => exact ha pins s1 σ H1 Q I1 q1
  | false => exact hb pins s1 σ H1 Q I1 q1
end
end L2

namespace L2
open PySem PySem.Spec PyProof.Rows

/-! ### a list, a tuple that is read: tracked, frozen, or an object of the module -/
noncomputable def SqL (K : PySem.W.Frag) (H : Hp) (a : Addr) (xs : List V) : Prop :=
  Rd H a (.lst xs) ∨
    ∃ (o : Obj) (its : Array Value) (n : Nat), K.lookup a = some o ∧ o.cls = .type "list" ∧ o.dict = none ∧ o.data = .seq its n ∧ its.size ≤ sizeLine ∧ Vals xs its.toList
noncomputable def SqT (K : PySem.W.Frag) (H : Hp) (a : Addr) (xs : List V) : Prop :=
  Rd H a (.tup xs) ∨
    ∃ (o : Obj) (its : Array Value) (n : Nat), K.lookup a = some o ∧ o.cls = .type "tuple" ∧ o.data = .seq its n ∧ its.size ≤ sizeLine ∧ Vals xs its.toList
noncomputable def absV : Value → Option V
  | .none => some .non
  | .bool b => some (.bl b)
  | .int i _ => some (.int i)
  | .str x _ => some (.str x)
  | .bytes b _ => some (.byt b)
  | .float b _ => some (.flt b)
  | .ref a => some (.ref a)
  | .type n => some (.ty n)
  | _ => none
theorem RelV.abs {x : V} {u : Value} (r : RelV x u) : absV u = some x := by
  cases x with
  | non => cases r; rfl
  | bl _ => cases r; rfl
  | int _ => obtain ⟨t, rfl⟩ := r; rfl
  | str _ => obtain ⟨t, rfl⟩ := r; rfl
  | byt _ => obtain ⟨t, rfl⟩ := r; rfl
  | flt _ => obtain ⟨t, rfl⟩ := r; rfl
  | ref _ => cases r; rfl
  | ty _ => cases r; rfl
theorem RelV.inj {x y : V} {u : Value} (r : RelV x u) (q : RelV y u) : x = y := Option.some.inj (r.abs.symm.trans q.abs)
theorem Vals.inj : ∀ {xs ys : List V} {us : List Value}, Vals xs us → Vals ys us → xs = ys
  | _, _, _, .nil, .nil => rfl
  | _, _, _, .cons r t, .cons r' t' => by rw [r.inj r', Vals.inj t t']
section
variable {X : Cx} {pins : List (Addr × Obj)} {σ : St} {H : Hp} {s : Shared} {a : Addr} {xs ys : List V}
theorem SqL.of {K : PySem.W.Frag} (h : H a = some (.lst xs)) : SqL K H a xs := .inl (.inl h)
theorem SqT.of {K : PySem.W.Frag} (h : H a = some (.tup xs)) : SqT K H a xs := .inl (.inl h)
theorem Inv.list (I : Inv X pins σ H s) (h : SqL X.K H a xs) : ∃ its : List Value, Vals xs its ∧ PlainL s.heap a its.toArray ∧ xs.length ≤ sizeLine := by
  rcases h with h | ⟨o, its, n, hk, hc, hd, hs, hz, r⟩
  · obtain ⟨z, its, n, r, e⟩ := h.ok I.hok
    exact ⟨its, r, ⟨_, n, e, rfl, rfl, rfl⟩, z⟩
  · refine ⟨its.toList, r, ⟨o, n, I.kIn a o hk, hc, hd, by simpa using hs⟩, ?_⟩
    have e := r.length
    simp only [Array.length_toList] at e
    omega
theorem Inv.tuple (I : Inv X pins σ H s) (h : SqT X.K H a xs) : ∃ its : List Value, Vals xs its ∧ IsTup s.heap a its.toArray ∧ xs.length ≤ sizeLine := by
  rcases h with h | ⟨o, its, n, hk, hc, hs, hz, r⟩
  · obtain ⟨z, its, r, p⟩ := h.ok I.hok
    exact ⟨its, r, p, z⟩
  · refine ⟨its.toList, r, ⟨o, I.kIn a o hk, hc, n, by simpa using hs⟩, ?_⟩
    have e := r.length
    simp only [Array.length_toList] at e
    omega
theorem Inv.list_inj (I : Inv X pins σ H s) (h : SqL X.K H a xs) (h' : SqL X.K H a ys) : xs = ys := by
  obtain ⟨its, r, ⟨o, n, e, _, _, d⟩, _⟩ := I.list h
  obtain ⟨its', r', ⟨o', n', e', _, _, d'⟩, _⟩ := I.list h'
  rw [e] at e'; cases e'
  rw [d] at d'
  injection d' with d1 _
  have : its = its' := by simpa using congrArg Array.toList d1
  subst this
  exact r.inj r'
theorem Inv.tuple_inj (I : Inv X pins σ H s) (h : SqT X.K H a xs) (h' : SqT X.K H a ys) : xs = ys := by
  obtain ⟨its, r, ⟨o, e, _, n, d⟩, _⟩ := I.tuple h
  obtain ⟨its', r', ⟨o', e', _, n', d'⟩, _⟩ := I.tuple h'
  rw [e] at e'; cases e'
  rw [d] at d'
  injection d' with d1 _
  have : its = its' := by simpa using congrArg Array.toList d1
  subst this
  exact r.inj r'
end

/-! ### another wish about exceptions -/
noncomputable abbrev Cx.wish (X : Cx) (E : Value → Shared → Prop) : Cx := { X with xe := E }
noncomputable abbrev Cx.nox (X : Cx) : Cx := X.wish fun _ _ => False
theorem Cx.Ok.wish {X : Cx} (ok : X.Ok) (E : Value → Shared → Prop) : (X.wish E).Ok :=
  ⟨ok.mod, ok.kind, ok.glob, ok.blt, ok.above, ok.inj, ok.has, ok.cab, ok.hd, ok.frames, ok.stk, ok.exf, ok.bs, ok.bsz, ok.noex, ok.exfs, ok.funs, ok.frf⟩
theorem Cx.Ok.unwish {X : Cx} {E : Value → Shared → Prop} (ok : (X.wish E).Ok) : X.Ok :=
  ⟨ok.mod, ok.kind, ok.glob, ok.blt, ok.above, ok.inj, ok.has, ok.cab, ok.hd, ok.frames, ok.stk, ok.exf, ok.bs, ok.bsz, ok.noex, ok.exfs, ok.funs, ok.frf⟩
section
variable {X : Cx} {pins : List (Addr × Obj)} {σ : St} {H : Hp} {s : Shared} {E : Value → Shared → Prop}
theorem Inv.wish (I : Inv X pins σ H s) (E : Value → Shared → Prop) : Inv (X.wish E) pins σ H s := ⟨I.ok.wish E, I.os, I.bare, I.base, I.loc, I.cell, I.free, I.freeC, I.pin, I.hok, I.len⟩
theorem Inv.unwish (I : Inv (X.wish E) pins σ H s) : Inv X pins σ H s := ⟨I.ok.unwish, I.os, I.bare, I.base, I.loc, I.cell, I.free, I.freeC, I.pin, I.hok, I.len⟩
theorem SP.unwish {D : Ends} {f : Flow} {s' : Shared} (h : SP (X.wish E) pins D f s') : SP X pins D f s' := by
  cases f with
  | next => obtain ⟨σ', H', I, q⟩ := h; exact ⟨σ', H', I.unwish, q⟩
  | brk => obtain ⟨σ', H', I, q⟩ := h; exact ⟨σ', H', I.unwish, q⟩
  | cont => obtain ⟨σ', H', I, q⟩ := h; exact ⟨σ', H', I.unwish, q⟩
  | ret u => obtain ⟨v, σ', H', I, r, q⟩ := h; exact ⟨v, σ', H', I.unwish, r, q⟩
theorem PSs.nox {st : List Stmt} {t : TS} (h : PSs X.nox st t) : PSs X st t := fun pins s σ H D I hw =>
  wpAny_mono (h pins s σ H D (I.wish _) hw) (fun _ _ q => q.unwish) fun _ _ z => False.elim z
end

/-! ### blocks and small statements -/
section
variable {X : Cx} {st : Stmt} {rest : List Stmt} {t u : TS} {e : Expr} {te : TE} {pos : Pos}
noncomputable def tNext : TS := fun D σ H => D.nx σ H
noncomputable def tSeq (t u : TS) : TS := fun D σ H => t { D with nx := u D } σ H
theorem pss_nil : PSs X [] tNext := fun _ _ σ H _ I h => wpAny_execs_nil ⟨σ, H, I, h⟩
theorem pss_cons (h1 : PS X st t) (h2 : PSs X rest u) : PSs X (st :: rest) (tSeq t u) := by
  intro pins s σ H D I h
  refine wpAny_execs_cons (thn (h1 pins s σ H { D with nx := u D } I h) fun f s1 q => ?_)
  cases f with
  | next =>
    obtain ⟨σ', H', I', q⟩ := q
    exact h2 pins s1 σ' H' D I' q
  | ret v => exact q
  | brk => exact q
  | cont => exact q
theorem pss_one (h1 : PS X st t) : PSs X [st] t := by
  intro pins s σ H D I h
  refine wpAny_execs_cons (thn (h1 pins s σ H D I h) fun f s1 q => ?_)
  cases f with
  | next => exact wpAny_execs_nil q
  | ret v => exact q
  | brk => exact q
  | cont => exact q
theorem Inv.quiet {pins : List (Addr × Obj)} {σ : St} {H : Hp} {s : Shared} (I : Inv X pins σ H s) : interactive X.env = false := by simp [interactive, I.ok.kind]
noncomputable def tDrop (te : TE) : TS := fun D σ H => te σ H fun _ H1 => D.nx σ H1
theorem ps_expr (he : PE X e te) (hs : swapsWith e none pos.line X.env = pure false := by rfl) : PS X (.Expr e pos) (tDrop te) := by
  intro pins s σ H D I h
  exact wpAny_Expr_any (thn (he pins s σ H _ I h) fun v s1 ⟨x, H1, I1, r1, q1⟩ => ⟨σ, H1, I1, q1⟩) I.quiet hs
noncomputable def tRet (te : TE) : TS := fun D σ H => te σ H D.rt
theorem ps_ret (he : PE X e te) : PS X (.Return (some e) pos) (tRet te) := by
  intro pins s σ H D I h
  exact wpAny_Return_some (thn (he pins s σ H _ I h) fun v s1 ⟨x, H1, I1, r1, q1⟩ => ⟨x, σ, H1, I1, r1, q1⟩)
noncomputable def tIfS (c : TT) (t u : TS) : TS := fun D σ H => c σ H fun b H1 => if b = true then t D σ H1 else u D σ H1
theorem ps_if {c : Expr} {a b : List Stmt} {tc : TT} (hc : PT X c tc) (ha : PSs X a t) (hb : PSs X b u) : PS X (.If c a b pos) (tIfS tc t u) := by
  intro pins s σ H D I h
  refine wpAny_If (thn (hc pins s σ H _ I h) fun d s1 ⟨H1, I1, q1⟩ => ?_)
  cases d with
  | true => exact ha pins s1 σ H1 D I1 q1
  | false => exact hb pins s1 σ H1 D I1 q1
noncomputable def tNever : TS := fun _ _ _ => False
theorem pss_never {sts : List Stmt} : PSs X sts tNever := fun _ _ _ _ _ _ h => h.elim
end

/-! ### targets -/
noncomputable abbrev TG := V → St → Hp → (St → Hp → Prop) → Prop
noncomputable abbrev TGs := List V → St → Hp → (St → Hp → Prop) → Prop
noncomputable def PG (X : Cx) (target : Expr) (t : TG) : Prop :=
  ∀ (pins : List (Addr × Obj)) (s : Shared) (σ : St) (H : Hp) (v : V) (u : Value) (Q : St → Hp → Prop), Inv X pins σ H s → RelV v u → t v σ H Q →
    wpAny (model X.prog X.w) X.A (assign target X.env u) (fun _ s' => ∃ σ' H', Inv X pins σ' H' s' ∧ Q σ' H') X.xe s
noncomputable def PGs (X : Cx) (ts : List Expr) (t : TGs) : Prop :=
  ∀ (pins : List (Addr × Obj)) (s : Shared) (σ : St) (H : Hp) (vs : List V) (us : List Value) (Q : St → Hp → Prop), Inv X pins σ H s → Vals vs us → t vs σ H Q →
    wpAny (model X.prog X.w) X.A (assignInOrder ((assignEach ts X.env).map (·.2)) us) (fun _ s' => ∃ σ' H', Inv X pins σ' H' s' ∧ Q σ' H') X.xe s
noncomputable abbrev TSet := V → V → V → Hp → (Hp → Prop) → Prop
noncomputable def PSet (X : Cx) (t : TSet) : Prop :=
  ∀ (pins : List (Addr × Obj)) (s : Shared) (σ : St) (H : Hp) (o i v : V) (ov iv u : Value) (Q : Hp → Prop), Inv X pins σ H s → RelV o ov → RelV i iv → RelV v u → t o i v H Q →
    wpAny (model X.prog X.w) X.A (setItem ov iv u) (fun _ s' => ∃ H', Inv X pins σ H' s' ∧ Q H') X.xe s
section
variable {X : Cx} {pos : Pos}
noncomputable def gName (i : Nat) : TG := fun v σ H Q => Q (σ.set i (some v)) H
theorem pg_name {i : Nat} {x : Str} (hN : X.N.Nodup) (hi : X.N[i]? = some x) (hx : Loc X.env.scope x) (hf : X.fn x = true ∨ X.env.scope.names.lookup x = some .local := by first | exact .inl rfl | exact .inr rfl | assumption) : PG X (.Name x pos) (gName i) := by
  intro pins s σ H v u Q I r h
  exact wpAny_assign_Name (store_ok I hN hi hx r (fun s' I' => ⟨_, H, I', h⟩) hf)
noncomputable def gNil : TGs := fun vs σ H Q => vs = [] ∧ Q σ H
inductive gConsI (t : TG) (u : TGs) (vs : List V) (σ : St) (H : Hp) (Q : (St → Hp → Prop)) : Prop
  | mk : ∀ v r, (vs = v :: r) → (t v σ H fun σ' H' => u r σ' H' Q) → gConsI t u vs σ H Q
noncomputable def gCons (t : TG) (u : TGs) : TGs := fun vs σ H Q => gConsI t u vs σ H Q
theorem pgs_nil : PGs X [] gNil := by
  intro pins s σ H vs us Q I r h
  obtain ⟨e, h⟩ := h
  subst e
  cases r
  exact assignInOrder_nil ⟨σ, H, I, h⟩
theorem pgs_cons {e : Expr} {es : List Expr} {t : TG} {u : TGs} (h1 : PG X e t) (h2 : PGs X es u)
    (hs : (assignEach (e :: es) X.env).map (·.2) = assign e X.env :: (assignEach es X.env).map (·.2) := by rfl) : PGs X (e :: es) (gCons t u) := by
  intro pins s σ H vs us Q I r h
  obtain ⟨v, vr, e1, h⟩ := h
  subst e1
  cases r with
  | cons r rr =>
    rw [hs]
    refine assignInOrder_cons (thn (h1 pins s σ H _ _ _ I r h) fun _ s1 ⟨σ1, H1, I1, q1⟩ => ?_)
    exact h2 pins s1 σ1 H1 _ _ Q I1 rr q1
inductive gTupI (K : PySem.W.Frag) (n : Nat) (t : TGs) (v : V) (σ : St) (H : Hp) (Q : (St → Hp → Prop)) : Prop
  | mk : ∀ a xs, (v = .ref a) → (SqT K H a xs) → (xs.length = n) → (t xs σ H Q) → gTupI K n t v σ H Q
noncomputable def gTup (K : PySem.W.Frag) (n : Nat) (t : TGs) : TG := fun v σ H Q => gTupI K n t v σ H Q
theorem pg_tup {es : List Expr} {k : Nat} {t : TGs} {n : Nat} (hc : X.calm = true) (h : PGs X es t)
    (hn : (assignEach es X.env).length = n := by rfl) (hst : (assignEach es X.env).findIdx? (·.1) = none := by rfl) : PG X (.Tuple es k pos) (gTup X.K n t) := by
  intro pins s σ H v u Q I r hw
  obtain ⟨a, xs, e1, hq, hl, hw⟩ := hw
  subst e1
  cases r
  obtain ⟨its, rv, ht, hz⟩ := I.tuple hq
  refine assign_Tuple_tuple (I.ok.hd hc) ht (by simp [hn, ← hl, rv.length]) hst fun h' hx => ?_
  have I1 : Inv X pins σ H { s with heap := h' } := I.kept (t' := s.toks) fun b o e => hx b o (Nat.ne_of_lt (Heap.lt_size e)) e
  exact h pins _ σ H xs _ Q I1 (by simpa using rv) hw
noncomputable def gSub (to ti : TE) (t : TSet) : TG := fun v σ H Q => to σ H fun o H1 => ti σ H1 fun i H2 => t o i v H2 fun H3 => Q σ H3
theorem pg_sub {o i : Expr} {to ti : TE} {t : TSet} (ho : PE X o to) (hi : PE X i ti) (hs : PSet X t)
    (ha : ∀ v, assign (.Subscript o i pos) X.env v = (do
      let ov ← holding [v] (eval o X.env)
      let iv ← holding [v, ov] (eval i X.env)
      standAt pos
      holding [v, ov, iv] (setItem ov iv v)
      release [v, ov, iv] []) := by intro _; rfl) : PG X (.Subscript o i pos) (gSub to ti t) := by
  intro pins s σ H v u Q I r h
  rw [ha]
  refine wpAny_bind (wpAny_holding (thn (ho pins s σ H _ I h) fun ov s1 ⟨x, H1, I1, r1, q1⟩ => ?_))
  refine wpAny_bind (wpAny_holding (thn (hi pins s1 σ H1 _ I1 q1) fun iv s2 ⟨y, H2, I2, r2, q2⟩ => ?_))
  refine wpAny_bind (wpAny_standAt (wpAny_bind (wpAny_holding (thn (hs pins s2 σ H2 x y v ov iv u _ I2 r1 r2 r q2) fun _ s3 ⟨H3, I3, q3⟩ => ?_))))
  exact wpAny_release ⟨σ, H3, I3, q3⟩
noncomputable def tAsg (te : TE) (g : TG) : TS := fun D σ H => te σ H fun x H1 => g x σ H1 D.nx
theorem ps_asg {tg e : Expr} {te : TE} {g : TG} (he : PE X e te) (hg : PG X tg g) (hs : swapsWithSole [tg] e pos.line X.env = pure false := by rfl) (hw : swappedStores [tg] e X.env = pure none := by rfl)
    (h1 : (assignEach [tg] X.env).map (·.2) = [assign tg X.env] := by rfl) : PS X (.Assign [tg] e pos) (tAsg te g) := by
  intro pins s σ H D I h
  refine wpAny_Assign_stores (thn (he pins s σ H _ I h) fun v s1 ⟨x, H1, I1, r1, q1⟩ => ?_) hs hw
  rw [h1]
  exact thn (hg pins s1 σ H1 x v _ I1 r1 q1) fun _ s2 q => q
theorem ps_set {i : Nat} {x : Str} {e : Expr} {te : TE} {pos' : Pos} (hN : X.N.Nodup) (hi : X.N[i]? = some x) (hx : Loc X.env.scope x) (he : PE X e te) (hs : swapsWith e (some (.Name x pos')) pos.line X.env = pure false := by rfl) (hf : X.fn x = true ∨ X.env.scope.names.lookup x = some .local := by first | exact .inl rfl | exact .inr rfl | assumption) :
    PS X (.Assign [.Name x pos'] e pos) (tAsg te (gName i)) := by
  intro pins s σ H D I h
  refine wpAny_Assign_Name (thn (he pins s σ H _ I h) fun v s1 ⟨y, H1, I1, r1, q1⟩ => ?_) hs
  exact store_ok I1 hN hi hx r1 (fun s2 I2 => ⟨_, H1, I2, q1⟩) hf
end

/-! ### while -/
section
variable {X : Cx} {pos : Pos}
noncomputable def tWhile (c : TT) (tb : TS) : TS := fun D σ H => ∃ W : Nat → St → Hp → Prop, (∃ m, W m σ H) ∧ ∀ m σ H, W m σ H →
  c σ H fun b H1 => if b = true then ∃ N : St → Hp → Prop, (∀ σ' H', N σ' H' → ∃ m', m' < m ∧ W m' σ' H') ∧ tb { D with nx := N, ct := N, bk := D.nx } σ H1 else D.nx σ H1
theorem ps_while {c : Expr} {body : List Stmt} {tc : TT} {tb : TS} (hp : PassesOwn (model X.prog X.w) X.A X.env X.xe) (hc : PT X c tc) (hb : PSs X body tb) : PS X (.While c body [] pos) (tWhile tc tb) := by
  intro pins s σ H D I h
  obtain ⟨W, ⟨m0, w0⟩, turn⟩ := h
  refine wpAny_While (codeAny_whileLoop (fun n s' => ∃ σ' H', Inv X pins σ' H' s' ∧ W n σ' H') ?_ m0 ⟨σ, H, I, w0⟩)
  rintro n s1 ⟨σ1, H1, I1, w1⟩
  refine wpAny_passesOwn hp (thn (hc pins s1 σ1 H1 _ I1 (turn n σ1 H1 w1)) fun b s2 ⟨H2, I2, q2⟩ => ?_)
  cases b with
  | true =>
    obtain ⟨N, hN, q2⟩ := q2
    rw [if_pos rfl]
    refine wpAny_passesOwn hp (thn (hb pins s2 σ1 H2 _ I2 q2) fun f s3 q3 => ?_)
    cases f with
    | next =>
      obtain ⟨σ3, H3, I3, n3⟩ := q3
      obtain ⟨m', hm, w3⟩ := hN σ3 H3 n3
      exact ⟨m', hm, σ3, H3, I3, w3⟩
    | cont =>
      obtain ⟨σ3, H3, I3, n3⟩ := q3
      obtain ⟨m', hm, w3⟩ := hN σ3 H3 n3
      exact ⟨m', hm, σ3, H3, I3, w3⟩
    | brk => exact q3
    | ret v => exact q3
  | false =>
    rw [if_neg Bool.false_ne_true]
    exact wpAny_execs_nil ⟨σ1, H2, I2, q2⟩
end

/-! ### what a loop or a comprehension walks -/
structure It where
  go : Nat → Hp → Prop
  yld : Nat → Hp → V → Hp → Prop
  stop : Nat → Hp → Prop
noncomputable def FpOk (X : Cx) (pins : List (Addr × Obj)) (H : Hp) (b : Addr) : Prop :=
  H b = none ∧ b ≠ X.env.locals ∧ b ∉ X.fs ∧ (b ∈ X.ex ∨ X.s₀.heap.objs.size ≤ b) ∧ (∀ x c, X.env.cells.lookup x = some c → c ≠ b) ∧ ∀ p ∈ X.pn ++ pins, p.1 ≠ b
theorem Inv.fpOk {X : Cx} {pins : List (Addr × Obj)} {σ : St} {H H' : Hp} {s : Shared} {b : Addr} (I : Inv X pins σ H s) (hb : s.heap.objs.size ≤ b) (hn : H' b = none) : FpOk X pins H' b := by
  refine ⟨hn, Nat.ne_of_gt (Nat.lt_of_lt_of_le I.lt hb), I.nofs hb, .inr (Nat.le_trans I.sz hb), fun x c e z => ?_, fun p hp z => ?_⟩
  · obtain ⟨v, q⟩ := I.cell x c e
    exact absurd (Nat.lt_of_lt_of_le q.lt (by rw [z]; exact hb)) (Nat.lt_irrefl _)
  · exact absurd (Nat.lt_of_lt_of_le (Heap.lt_size (I.pin p hp).1) (by rw [z]; exact hb)) (Nat.lt_irrefl _)
structure Turn (P : Program) (w : World) (K : PySem.W.Frag) (tg : Expr) (J : It) (fp : List Addr) (it : Addr) (tn : Nat → Heap → Prop) : Prop where
  mem : it ∈ fp
  obj : ∀ i h, tn i h → ∀ b ∈ fp, ∃ o, h.get? b = some o ∧ ∀ v, o.data ≠ .cell v
  keep : ∀ i h h', tn i h → (∀ b ∈ fp, ∀ o, h.get? b = some o → h'.get? b = some o) → tn i h'
  item : ∀ (X : Cx), X.prog = P → X.w = w → X.K = K → X.calm = true → ∀ (i : Nat) (pins : List (Addr × Obj)) (s : Shared) (σ : St) (H : Hp) (E : Value → Shared → Prop), Inv X pins σ H s → (∀ b ∈ fp, FpOk X pins H b) → tn i s.heap → J.go i H →
    wpAny (model P w) X.A (pyNext (.ref it)) (fun r s1 => ∃ u, r = some u ∧
      wpAny (model P w) X.A (letOwnedTupleGo tg (.ref it) u) (fun _ s2 => ∃ x H', Inv X pins σ H' s2 ∧ RelV x u ∧ J.yld i H x H' ∧ tn (i + 1) s2.heap ∧ ∀ b ∈ fp, H' b = none) E s1) E s
  done : ∀ (X : Cx), X.prog = P → X.w = w → X.K = K → X.calm = true → ∀ (i : Nat) (pins : List (Addr × Obj)) (s : Shared) (σ : St) (H : Hp) (E : Value → Shared → Prop), Inv X pins σ H s → (∀ b ∈ fp, FpOk X pins H b) → tn i s.heap → J.stop i H →
    wpAny (model P w) X.A (pyNext (.ref it)) (fun r s1 => r = none ∧ Inv X pins σ H s1) E s
  self : ∀ (A : Around) (i : Nat) (s : Shared) (Q : Value → Shared → Prop) (E : Value → Shared → Prop), tn i s.heap → Q (.ref it) s → wpAny (model P w) A (pyIter (.ref it)) Q E s
noncomputable abbrev TI := St → Hp → (It → Hp → Prop) → Prop
noncomputable def PIE (X : Cx) (pins : List (Addr × Obj)) (σ : St) (tg : Expr) (R : It → Hp → Prop) (itv : Value) (s2 : Shared) : Prop :=
  ∃ (it : Addr) (fp : List Addr) (tn : Nat → Heap → Prop) (J : It) (H' : Hp), itv = .ref it ∧ Inv X pins σ H' s2 ∧ Turn X.prog X.w X.K tg J fp it tn ∧ tn 0 s2.heap ∧ (∀ b ∈ fp, FpOk X pins H' b) ∧ R J H'
noncomputable def PI (X : Cx) (tg iter : Expr) (wi : TI) : Prop :=
  ∀ (pins : List (Addr × Obj)) (s : Shared) (σ : St) (H : Hp) (R : It → Hp → Prop), Inv X pins σ H s → wi σ H R →
    wpAny (model X.prog X.w) X.A (eval iter X.env) (fun v s1 => wpAny (model X.prog X.w) X.A (pyIter v) (PIE X pins σ tg R) X.xe s1) X.xe s

theorem go_of {M : Model} {A : Around} {E : Value → Shared → Prop} {s : Shared} {tg : Expr} {it : Addr} {u : Value} {o : Obj} {n : String} {vs : Array Value} {Q : Unit → Shared → Prop} (ho : s.heap.get? it = some o) (hc : o.cls = .type n) (hd : o.data = .fields vs)
    (hn : ["enumerate", "zip", "dict_itemiterator", "dict_reverseitemiterator", "odict_iterator", "itertools.zip_longest", "itertools.pairwise"].contains n = false) (hQ : Q () s) : wpAny M A (letOwnedTupleGo tg (.ref it) u) Q E s := by
  unfold letOwnedTupleGo
  cases tg <;> first
    | exact wpAny_pure hQ
    | (cases u <;> first
        | exact wpAny_pure hQ
        | (refine wpAny_bind (wpAny_load ho ?_)
           rw [hc, hd]
           show wpAny M A (if (["enumerate", "zip", "dict_itemiterator", "dict_reverseitemiterator", "odict_iterator", "itertools.zip_longest", "itertools.pairwise"].contains n && vs[0]? == some (rawInt _)) = true then _ else _) Q E s
           rw [if_neg (by intro h; rw [hn, Bool.false_and] at h; cases h)]
           exact wpAny_pure hQ))

noncomputable def Itl (K : PySem.W.Frag) (a : Addr) : It :=
  ⟨fun i H => ∃ xs x, SqL K H a xs ∧ xs[i]? = some x, fun i H x H' => H' = H ∧ ∀ xs, SqL K H a xs → xs[i]? = some x, fun i H => ∃ xs, SqL K H a xs ∧ xs.length ≤ i⟩
noncomputable def Itt (K : PySem.W.Frag) (a : Addr) : It :=
  ⟨fun i H => ∃ xs x, SqT K H a xs ∧ xs[i]? = some x, fun i H x H' => H' = H ∧ ∀ xs, SqT K H a xs → xs[i]? = some x, fun i H => ∃ xs, SqT K H a xs ∧ xs.length ≤ i⟩
noncomputable def Itr (lo : Int) (n : Nat) : It := ⟨fun i _ => i < n, fun i H x H' => H' = H ∧ x = .int (lo + i), fun i _ => n ≤ i⟩
theorem turn_list {P : Program} {w : World} {K : PySem.W.Frag} {tg : Expr} (a it : Addr) : Turn P w K tg (Itl K a) [it] it (fun i h => h.IsListIter it a i) where
  mem := by simp
  obj := fun i h st b hb => by
    have e : b = it := by simpa using hb
    subst e
    obtain ⟨o, e, c, d⟩ := st
    exact ⟨o, e, fun v z => by rw [d] at z; cases z⟩
  keep := fun i h h' st k => st.at fun o e => k it (by simp) o e
  item := by
    intro X hP hw hK hc i pins s σ H E I hf st hg
    subst hP hw hK
    obtain ⟨xs, x, hq, hx⟩ := hg
    obtain ⟨its, rv, p, hz⟩ := I.list hq
    obtain ⟨u, hu, ru⟩ := rv.get hx
    obtain ⟨f0, f1, f2, f3, f4, f5⟩ := hf it (by simp)
    refine wpAny_pyNext_list_item st p.isList (x := u) (by simpa using hu) fun h' st' sb => ?_
    have I1 : Inv X pins σ H { s with heap := h' } := I.turned (t' := s.toks) (fun b o hb e => (sb.2 b hb).trans e) f0 f1 f3 f4 f5
    obtain ⟨o, e, c, d⟩ := id st'
    exact ⟨u, rfl, go_of (s := { s with heap := h' }) e c d (by decide) ⟨x, H, I1, ru, ⟨rfl, fun ys hy => by rw [I.list_inj hy hq]; exact hx⟩, st', fun b hb => (hf b hb).1⟩⟩
  done := by
    intro X hP hw hK hc i pins s σ H E I hf st hg
    subst hP hw hK
    obtain ⟨xs, hq, hx⟩ := hg
    obtain ⟨its, rv, p, hz⟩ := I.list hq
    obtain ⟨f0, f1, f2, f3, f4, f5⟩ := hf it (by simp)
    have hl := rv.length
    exact wpAny_pyNext_list_end (I.ok.hd hc) st p.isList (by simp; omega) fun h' eb => ⟨rfl, I.turned (t' := s.toks) (fun b o hb e => eb b o hb e) f0 f1 f3 f4 f5⟩
  self := fun _ _ _ _ _ st h => wpAny_pyIter_listiter st h
theorem turn_tuple {P : Program} {w : World} {K : PySem.W.Frag} {tg : Expr} (a it : Addr) : Turn P w K tg (Itt K a) [it] it (fun i h => h.IsTupleIter it a i) where
  mem := by simp
  obj := fun i h st b hb => by
    have e : b = it := by simpa using hb
    subst e
    obtain ⟨o, e, c, d⟩ := st
    exact ⟨o, e, fun v z => by rw [d] at z; cases z⟩
  keep := fun i h h' st k => st.at fun o e => k it (by simp) o e
  item := by
    intro X hP hw hK hc i pins s σ H E I hf st hg
    subst hP hw hK
    obtain ⟨xs, x, hq, hx⟩ := hg
    obtain ⟨its, rv, p, hz⟩ := I.tuple hq
    obtain ⟨u, hu, ru⟩ := rv.get hx
    obtain ⟨f0, f1, f2, f3, f4, f5⟩ := hf it (by simp)
    refine wpAny_pyNext_tuple_item st (show s.heap.IsTuple a its.toArray from p) (x := u) (by simpa using hu) fun h' st' sb => ?_
    have I1 : Inv X pins σ H { s with heap := h' } := I.turned (t' := s.toks) (fun b o hb e => (sb.2 b hb).trans e) f0 f1 f3 f4 f5
    obtain ⟨o, e, c, d⟩ := id st'
    exact ⟨u, rfl, go_of (s := { s with heap := h' }) e c d (by decide) ⟨x, H, I1, ru, ⟨rfl, fun ys hy => by rw [I.tuple_inj hy hq]; exact hx⟩, st', fun b hb => (hf b hb).1⟩⟩
  done := by
    intro X hP hw hK hc i pins s σ H E I hf st hg
    subst hP hw hK
    obtain ⟨xs, hq, hx⟩ := hg
    obtain ⟨its, rv, p, hz⟩ := I.tuple hq
    obtain ⟨f0, f1, f2, f3, f4, f5⟩ := hf it (by simp)
    have hl := rv.length
    exact wpAny_pyNext_tuple_end (I.ok.hd hc) st (show s.heap.IsTuple a its.toArray from p) (by simp; omega) fun h' eb => ⟨rfl, I.turned (t' := s.toks) (fun b o hb e => eb b o hb e) f0 f1 f3 f4 f5⟩
  self := fun _ _ _ _ _ st h => wpAny_pyIter_tupleiter st h
theorem turn_range {P : Program} {w : World} {K : PySem.W.Frag} {tg : Expr} (it : Addr) (lo : Int) (n : Nat) : Turn P w K tg (Itr lo n) [it] it (fun i h => IsRangeIter h it (lo + (i : Nat) * 1) ((n : Int) - (i : Nat)) 1) where
  mem := by simp
  obj := fun i h st b hb => by
    have e : b = it := by simpa using hb
    subst e
    exact ⟨_, st, fun v z => by
      have z' : Data.fields _ = Data.cell v := z
      cases z'⟩
  keep := fun i h h' st k => k it (by simp) _ st
  item := by
    intro X hP hw hK hc i pins s σ H E I hf st hg
    subst hP hw hK
    obtain ⟨f0, f1, f2, f3, f4, f5⟩ := hf it (by simp)
    have W := Walks.range (prog := X.prog) (w := X.w) (I.ok.hd hc) it lo 1 n
    refine W.item i s _ _ hg st fun v h' tk hv st' kk => ?_
    obtain ⟨t, rfl⟩ := hv
    have I1 : Inv X pins σ H { s with heap := h', toks := tk } := I.turned (fun b o hb e => kk b o (by simpa using hb) e) f0 f1 f3 f4 f5
    refine ⟨_, rfl, go_of (s := { s with heap := h', toks := tk }) (n := "range_iterator") st' rfl rfl (by decide) ⟨.int (lo + i), H, I1, ⟨t, ?_⟩, ⟨rfl, rfl⟩, st', fun b hb => (hf b hb).1⟩⟩
    rw [Int.mul_one]
  done := by
    intro X hP hw hK hc i pins s σ H E I hf st hg
    subst hP hw hK
    obtain ⟨f0, f1, f2, f3, f4, f5⟩ := hf it (by simp)
    exact wpAny_pyNext_range_end (I.ok.hd hc) st (by have : n ≤ i := hg; omega) fun h' eb => ⟨rfl, I.turned (t' := s.toks) (fun b o hb e => eb b o hb e) f0 f1 f3 f4 f5⟩
  self := fun _ _ _ _ _ st h => wpAny_pyIter_rangeiter st h
end L2

namespace L2
open PySem PySem.Spec PyProof.Rows
section
variable {X : Cx} {tg : Expr}
inductive iListI (K : PySem.W.Frag) (R : (It → Hp → Prop)) (x : V) (H1 : Hp) : Prop
  | mk : ∀ a, (x = .ref a) → ((∃ xs, SqL K H1 a xs)) → (R (Itl K a) H1) → iListI K R x H1
noncomputable def iList (K : PySem.W.Frag) (tl : TE) : TI := fun σ H R => tl σ H fun x H1 => iListI K R x H1
inductive iTupI (K : PySem.W.Frag) (R : (It → Hp → Prop)) (x : V) (H1 : Hp) : Prop
  | mk : ∀ a, (x = .ref a) → ((∃ xs, SqT K H1 a xs)) → (R (Itt K a) H1) → iTupI K R x H1
noncomputable def iTup (K : PySem.W.Frag) (tl : TE) : TI := fun σ H R => tl σ H fun x H1 => iTupI K R x H1
theorem pi_list {l : Expr} {tl : TE} (hl : PE X l tl) : PI X tg l (iList X.K tl) := by
  intro pins s σ H R I h
  refine thn (hl pins s σ H _ I h) fun v s1 ⟨x, H1, I1, r1, q1⟩ => ?_
  obtain ⟨a, e, ⟨xs, hq⟩, q⟩ := q1
  subst e
  cases r1
  obtain ⟨its, rv, p, hz⟩ := I1.list hq
  refine wpAny_pyIter_list p.isList ?_
  refine ⟨s1.heap.objs.size, [s1.heap.objs.size], _, _, H1, rfl, I1.kept (t' := s1.toks) fun b o e => Heap.get?_push_of_some _ e, turn_list a _, ⟨_, Heap.get?_push_size _ rfl, rfl, rfl⟩, fun b hb => ?_, q⟩
  have e : b = s1.heap.objs.size := by simpa using hb
  subst e
  exact I1.fpOk (Nat.le_refl _) (I1.hok.fresh (Nat.le_refl _))
theorem pi_tup {l : Expr} {tl : TE} (hl : PE X l tl) : PI X tg l (iTup X.K tl) := by
  intro pins s σ H R I h
  refine thn (hl pins s σ H _ I h) fun v s1 ⟨x, H1, I1, r1, q1⟩ => ?_
  obtain ⟨a, e, ⟨xs, hq⟩, q⟩ := q1
  subst e
  cases r1
  obtain ⟨its, rv, p, hz⟩ := I1.tuple hq
  refine wpAny_pyIter_tuple (show s1.heap.IsTuple a its.toArray from p) ?_
  refine ⟨s1.heap.objs.size, [s1.heap.objs.size], _, _, H1, rfl, I1.kept (t' := s1.toks) fun b o e => Heap.get?_push_of_some _ e, turn_tuple a _, ⟨_, Heap.get?_push_size _ rfl, rfl, rfl⟩, fun b hb => ?_, q⟩
  have e : b = s1.heap.objs.size := by simpa using hb
  subst e
  exact I1.fpOk (Nat.le_refl _) (I1.hok.fresh (Nat.le_refl _))
theorem range_it {pins : List (Addr × Obj)} {σ : St} {H : Hp} {s : Shared} {R : It → Hp → Prop} {E : Value → Shared → Prop} {lo hi : Int} {t u v : Tok} {tk : Nat} (I : Inv X pins σ H s) (h1 : -(2 ^ 62) ≤ lo) (h2 : lo < 2 ^ 62) (h3 : -(2 ^ 62) ≤ hi) (h4 : hi < 2 ^ 62)
    (q : R (Itr lo (hi - lo).toNat) H) : wpAny (model X.prog X.w) X.A (pyIter (.ref s.heap.objs.size)) (PIE X pins σ tg R) E { s with heap := s.heap.push { cls := .type "range", data := .fields #[.int lo t, .int hi u, .int 1 v] }, toks := tk } := by
  refine wpAny_pyIter_range (IsRange.new ..) (small_one h1 h2 h3 h4) ?_
  have I1 : Inv X pins σ H { s with heap := s.heap.push { cls := .type "range", data := .fields #[.int lo t, .int hi u, .int 1 v] }, toks := tk } := I.kept fun b o e => Heap.get?_push_of_some _ e
  refine ⟨(s.heap.push { cls := .type "range", data := .fields #[.int lo t, .int hi u, .int 1 v] }).objs.size, [(s.heap.push { cls := .type "range", data := .fields #[.int lo t, .int hi u, .int 1 v] }).objs.size], _, _, H, rfl,
    I1.kept (t' := tk) fun b o e => Heap.get?_push_of_some _ e, turn_range _ lo (hi - lo).toNat, ?_, fun b hb => ?_, q⟩
  · have e1 : lo + ((0 : Nat) : Int) * 1 = lo := by simp
    have e2 : (((hi - lo).toNat : Nat) : Int) - ((0 : Nat) : Int) = Builtin.Range.rangeSize lo hi 1 := by rw [rangeSize_one]; split <;> omega
    show IsRangeIter _ _ (lo + ((0 : Nat) : Int) * 1) ((((hi - lo).toNat : Nat) : Int) - ((0 : Nat) : Int)) 1
    rw [e1, e2]
    exact Heap.get?_push_size _ rfl
  · have e : b = (s.heap.push { cls := .type "range", data := .fields #[.int lo t, .int hi u, .int 1 v] }).objs.size := by simpa using hb
    subst e
    exact I1.fpOk (Nat.le_refl _) (I1.hok.fresh (Nat.le_refl _))
inductive iRng1I (R : (It → Hp → Prop)) (vs : List V) (H1 : Hp) : Prop
  | mk : ∀ j : Int, (vs = [.int j]) → (-(2 ^ 62) ≤ j) → (j < 2 ^ 62) → (R (Itr 0 j.toNat) H1) → iRng1I R vs H1
noncomputable def iRng1 (ta : TA) : TI := fun σ H R => ta σ H fun vs H1 => iRng1I R vs H1
inductive iRng2I (R : (It → Hp → Prop)) (vs : List V) (H1 : Hp) : Prop
  | mk : ∀ i j : Int, (vs = [.int i, .int j]) → ((-(2 ^ 62) ≤ i ∧ i < 2 ^ 62 ∧ -(2 ^ 62) ≤ j ∧ j < 2 ^ 62)) → (R (Itr i (j - i).toNat) H1) → iRng2I R vs H1
noncomputable def iRng2 (ta : TA) : TI := fun σ H R => ta σ H fun vs H1 => iRng2I R vs H1
theorem pi_range1 {a : Expr} {ta : TA} {p pos : Pos} (hg : Gl X "range") (hm : X.mg "range" = none) (ha : PA X [a] ta) (hs : starEach [a] X.env = [(false, eval a X.env)] := by rfl) : PI X tg (.Call (.Name "range" p) [a] [] pos) (iRng1 ta) := by
  intro pins s σ H R I h
  refine Call_ (ld_blt I hg hm boot_range (PyProof.Rows.callWith_type1 (thn (ha pos pins s σ H _ I h) fun us s1 ⟨vs, H1, I1, r1, q1⟩ => ?_) hs rfl))
  obtain ⟨j, e, q1, q2, q⟩ := q1
  subst e
  cases r1 with
  | cons r rr =>
    cases rr
    obtain ⟨t, rfl⟩ := r
    exact call_range_1 (range_it I1 (by omega) (by omega) q1 q2 (by simpa using q))
theorem pi_range2 {a b : Expr} {ta : TA} {p pos : Pos} (hg : Gl X "range") (hm : X.mg "range" = none) (ha : PA X [a, b] ta) (hs : starEach [a, b] X.env = [(false, eval a X.env), (false, eval b X.env)] := by rfl) (hs2 : starEach [b] X.env = [(false, eval b X.env)] := by rfl) :
    PI X tg (.Call (.Name "range" p) [a, b] [] pos) (iRng2 ta) := by
  intro pins s σ H R I h
  refine Call_ (ld_blt I hg hm boot_range (PyProof.Rows.callWith_type1 (thn (ha pos pins s σ H _ I h) fun us s1 ⟨vs, H1, I1, r1, q1⟩ => ?_) (by rw [hs, hs2]) (by rw [hs2]; rfl)))
  obtain ⟨i, j, e, ⟨q1, q2, q3, q4⟩, q⟩ := q1
  subst e
  cases r1 with
  | cons r rr =>
    cases rr with
    | cons r' rr =>
      cases rr
      obtain ⟨t, rfl⟩ := r
      obtain ⟨t', rfl⟩ := r'
      exact call_range_2 (range_it I1 q1 q2 q3 q4 q)

/-! ### for -/
noncomputable def tFor (wi : TI) (g : TG) (tb : TS) : TS := fun D σ H => wi σ H fun J H1 => ∃ W : Nat → Nat → St → Hp → Prop, (∃ m, W 0 m σ H1) ∧ ∀ i m σ H, W i m σ H →
  (J.stop i H ∧ D.nx σ H) ∨ (J.go i H ∧ ∃ N : St → Hp → Prop, (∀ σ' H', N σ' H' → ∃ m', m' < m ∧ W (i + 1) m' σ' H') ∧ ∀ x H', J.yld i H x H' → g x σ H' fun σ2 H2 => tb { D with nx := N, ct := N, bk := D.nx } σ2 H2)
noncomputable def pinsAt (fp : List Addr) (h : Heap) : List (Addr × Obj) := fp.filterMap fun b => (h.get? b).map fun o => (b, o)
theorem mem_pinsAt {fp : List Addr} {h : Heap} {b : Addr} {o : Obj} (hb : b ∈ fp) (e : h.get? b = some o) : (b, o) ∈ pinsAt fp h := List.mem_filterMap.mpr ⟨b, hb, by rw [e]; rfl⟩
theorem of_pinsAt {fp : List Addr} {h : Heap} {p : Addr × Obj} (hp : p ∈ pinsAt fp h) : p.1 ∈ fp ∧ h.get? p.1 = some p.2 := by
  obtain ⟨b, hb, e⟩ := List.mem_filterMap.mp hp
  cases q : h.get? b with
  | none => rw [q] at e; cases e
  | some o =>
    rw [q] at e
    have e' : (b, o) = p := Option.some.inj e
    subst e'
    exact ⟨hb, q⟩
theorem Inv.pinned {pins : List (Addr × Obj)} {σ : St} {H : Hp} {s : Shared} {fp : List Addr} (I : Inv X pins σ H s) (hf : ∀ b ∈ fp, FpOk X pins H b) (ho : ∀ b ∈ fp, ∃ o, s.heap.get? b = some o ∧ ∀ v, o.data ≠ .cell v) : Inv X (pins ++ pinsAt fp s.heap) σ H s :=
  I.pins_of fun p hp => (List.mem_append.mp hp).elim (fun z => I.pin p (List.mem_append_right _ z)) fun z => by
    obtain ⟨hb, e⟩ := of_pinsAt z
    obtain ⟨f0, f1, f2, _⟩ := hf p.1 hb
    obtain ⟨o, e', d⟩ := ho p.1 hb
    rw [e] at e'; cases e'
    exact ⟨e, f0, f1, f2, d⟩
theorem Inv.unpinned {pins pl : List (Addr × Obj)} {σ : St} {H : Hp} {s : Shared} (I : Inv X (pins ++ pl) σ H s) : Inv X pins σ H s := I.pins_of fun p hp => I.pin p (List.mem_append_right _ (List.mem_append_left _ hp))
theorem ps_for {iter : Expr} {body : List Stmt} {wi : TI} {g : TG} {tb : TS} {pos : Pos} (hp : PassesOwn (model X.prog X.w) X.A X.env X.xe) (hc : X.calm = true) (hi : PI X tg iter wi) (hg : PG X tg g) (hb : PSs X body tb)
    (hs : ∀ x, foldedSetIterable iter X.env x = pure x := by intro _; rfl) : PS X (.For tg iter body [] pos) (tFor wi g tb) := by
  intro pins s σ H D I h
  refine wpAny_For (thn (hi pins s σ H _ I h) fun v s1 h1 => thn h1 fun itv s2 h2 => ?_) hs
  obtain ⟨it, fp, tn, J, H2, e, I2, T, st2, f2, W, ⟨m0, w0⟩, turn⟩ := h2
  subst e
  -- what stays true of the iterator's objects through the loop
  have stat : ∀ {H' : Hp}, (∀ b ∈ fp, H' b = none) → ∀ b ∈ fp, FpOk X pins H' b := fun hn b hb => ⟨hn b hb, (f2 b hb).2⟩
  refine codeAny_forLoop_any (fun n s' => ∃ i σ' H', Inv X pins σ' H' s' ∧ tn i s'.heap ∧ (∀ b ∈ fp, H' b = none) ∧ W i n σ' H') ?_ m0 ⟨0, σ, H2, I2, st2, fun b hb => (f2 b hb).1, w0⟩
  rintro n s3 ⟨i, σ3, H3, I3, st3, fr3, w3⟩
  rcases turn i n σ3 H3 w3 with ⟨stop, qn⟩ | ⟨go, N, hN, step⟩
  · refine wpAny_passesOwn hp (thn (T.done X rfl rfl rfl hc i pins s3 σ3 H3 X.xe I3 (stat fr3) st3 stop) fun r s4 ⟨hr, I4⟩ => ?_)
    subst hr
    exact wpAny_execs_nil ⟨σ3, H3, I4, qn⟩
  · refine wpAny_passesOwn hp (thn (T.item X rfl rfl rfl hc i pins s3 σ3 H3 X.xe I3 (stat fr3) st3 go) fun r s4 ⟨u, hr, h4⟩ => ?_)
    subst hr
    refine wpAny_passesOwn hp (thn h4 fun _ s5 ⟨x, H5, I5, r5, y5, st5, fr5⟩ => ?_)
    have I5' := I5.pinned (stat fr5) (T.obj _ _ st5)
    refine wpAny_passesOwn hp (thn (hg _ s5 σ3 H5 x u _ I5' r5 (step x H5 y5)) fun _ s6 ⟨σ6, H6, I6, q6⟩ => ?_)
    refine wpAny_passesOwn hp (thn (hb _ s6 σ6 H6 _ I6 q6) fun f s7 q7 => ?_)
    have again : ∀ {σ7 : St} {H7 : Hp}, Inv X (pins ++ pinsAt fp s5.heap) σ7 H7 s7 → N σ7 H7 → ∃ m, m < n ∧ ∃ i σ' H', Inv X pins σ' H' s7 ∧ tn i s7.heap ∧ (∀ b ∈ fp, H' b = none) ∧ W i m σ' H' := fun {σ7 H7} I7 n7 => by
      obtain ⟨m', hm, w7⟩ := hN σ7 H7 n7
      refine ⟨m', hm, i + 1, σ7, H7, I7.unpinned, T.keep _ _ _ st5 fun b hb o e => (I7.pin (b, o) (List.mem_append_right _ (List.mem_append_right _ (mem_pinsAt hb e)))).1, fun b hb => ?_, w7⟩
      obtain ⟨o, e, d⟩ := T.obj _ _ st5 b hb
      exact (I7.pin (b, o) (List.mem_append_right _ (List.mem_append_right _ (mem_pinsAt hb e)))).2.1
    cases f with
    | next => obtain ⟨σ7, H7, I7, n7⟩ := q7; exact again I7 n7
    | cont => obtain ⟨σ7, H7, I7, n7⟩ := q7; exact again I7 n7
    | brk => obtain ⟨σ7, H7, I7, q7⟩ := q7; exact ⟨σ7, H7, I7.unpinned, q7⟩
    | ret v => obtain ⟨x7, σ7, H7, I7, r7, q7⟩ := q7; exact ⟨x7, σ7, H7, I7.unpinned, r7, q7⟩
end

/-! ### the forms one uses -/
theorem for_list {K : PySem.W.Frag} {a : Addr} {xs : List V} {g : TG} {tb : TS} {D : Ends} {σ : St} {H : Hp} (Pv : Nat → St → Hp → Prop) (h0 : Pv 0 σ H) (hl : ∀ i σ H, i ≤ xs.length → Pv i σ H → SqL K H a xs)
    (hs : ∀ i x σ H, xs[i]? = some x → Pv i σ H → g x σ H fun σ2 H2 => tb { D with nx := Pv (i + 1), ct := Pv (i + 1), bk := D.nx } σ2 H2) (hd : ∀ σ H, Pv xs.length σ H → D.nx σ H) :
    ∃ W : Nat → Nat → St → Hp → Prop, (∃ m, W 0 m σ H) ∧ ∀ i m σ H, W i m σ H →
      ((Itl K a).stop i H ∧ D.nx σ H) ∨ ((Itl K a).go i H ∧ ∃ N : St → Hp → Prop, (∀ σ' H', N σ' H' → ∃ m', m' < m ∧ W (i + 1) m' σ' H') ∧ ∀ x H', (Itl K a).yld i H x H' → g x σ H' fun σ2 H2 => tb { D with nx := N, ct := N, bk := D.nx } σ2 H2) := by
  refine ⟨fun i m σ H => m = xs.length - i ∧ i ≤ xs.length ∧ Pv i σ H, ⟨xs.length, by simp, Nat.zero_le _, h0⟩, ?_⟩
  rintro i m σ H ⟨rfl, hi, p⟩
  have q := hl i σ H hi p
  by_cases hlt : i < xs.length
  · refine .inr ⟨⟨xs, xs[i], q, by simp [hlt]⟩, Pv (i + 1), fun σ' H' p' => ⟨xs.length - (i + 1), by omega, rfl, hlt, p'⟩, fun x H' y => ?_⟩
    obtain ⟨e, y⟩ := y
    subst e
    exact hs i x σ _ (y xs q) p
  · have e : i = xs.length := by omega
    subst e
    exact .inl ⟨⟨xs, q, Nat.le_refl _⟩, hd σ H p⟩
theorem for_tup {K : PySem.W.Frag} {a : Addr} {xs : List V} {g : TG} {tb : TS} {D : Ends} {σ : St} {H : Hp} (Pv : Nat → St → Hp → Prop) (h0 : Pv 0 σ H) (hl : ∀ i σ H, i ≤ xs.length → Pv i σ H → SqT K H a xs)
    (hs : ∀ i x σ H, xs[i]? = some x → Pv i σ H → g x σ H fun σ2 H2 => tb { D with nx := Pv (i + 1), ct := Pv (i + 1), bk := D.nx } σ2 H2) (hd : ∀ σ H, Pv xs.length σ H → D.nx σ H) :
    ∃ W : Nat → Nat → St → Hp → Prop, (∃ m, W 0 m σ H) ∧ ∀ i m σ H, W i m σ H →
      ((Itt K a).stop i H ∧ D.nx σ H) ∨ ((Itt K a).go i H ∧ ∃ N : St → Hp → Prop, (∀ σ' H', N σ' H' → ∃ m', m' < m ∧ W (i + 1) m' σ' H') ∧ ∀ x H', (Itt K a).yld i H x H' → g x σ H' fun σ2 H2 => tb { D with nx := N, ct := N, bk := D.nx } σ2 H2) := by
  refine ⟨fun i m σ H => m = xs.length - i ∧ i ≤ xs.length ∧ Pv i σ H, ⟨xs.length, by simp, Nat.zero_le _, h0⟩, ?_⟩
  rintro i m σ H ⟨rfl, hi, p⟩
  have q := hl i σ H hi p
  by_cases hlt : i < xs.length
  · refine .inr ⟨⟨xs, xs[i], q, by simp [hlt]⟩, Pv (i + 1), fun σ' H' p' => ⟨xs.length - (i + 1), by omega, rfl, hlt, p'⟩, fun x H' y => ?_⟩
    obtain ⟨e, y⟩ := y
    subst e
    exact hs i x σ _ (y xs q) p
  · have e : i = xs.length := by omega
    subst e
    exact .inl ⟨⟨xs, q, Nat.le_refl _⟩, hd σ H p⟩
theorem for_range {lo : Int} {n : Nat} {g : TG} {tb : TS} {D : Ends} {σ : St} {H : Hp} (Pv : Nat → St → Hp → Prop) (h0 : Pv 0 σ H)
    (hs : ∀ i σ H, i < n → Pv i σ H → g (.int (lo + i)) σ H fun σ2 H2 => tb { D with nx := Pv (i + 1), ct := Pv (i + 1), bk := D.nx } σ2 H2) (hd : ∀ σ H, Pv n σ H → D.nx σ H) :
    ∃ W : Nat → Nat → St → Hp → Prop, (∃ m, W 0 m σ H) ∧ ∀ i m σ H, W i m σ H →
      ((Itr lo n).stop i H ∧ D.nx σ H) ∨ ((Itr lo n).go i H ∧ ∃ N : St → Hp → Prop, (∀ σ' H', N σ' H' → ∃ m', m' < m ∧ W (i + 1) m' σ' H') ∧ ∀ x H', (Itr lo n).yld i H x H' → g x σ H' fun σ2 H2 => tb { D with nx := N, ct := N, bk := D.nx } σ2 H2) := by
  refine ⟨fun i m σ H => m = n - i ∧ i ≤ n ∧ Pv i σ H, ⟨n, by simp, Nat.zero_le _, h0⟩, ?_⟩
  rintro i m σ H ⟨rfl, hi, p⟩
  by_cases hlt : i < n
  · refine .inr ⟨hlt, Pv (i + 1), fun σ' H' p' => ⟨n - (i + 1), by omega, rfl, hlt, p'⟩, fun x H' y => ?_⟩
    obtain ⟨e, y⟩ := y
    subst e y
    exact hs i σ _ hlt p
  · have e : i = n := by omega
    subst e
    exact .inl ⟨Nat.le_refl _, hd σ H p⟩
end L2

namespace L2
open PySem PySem.Spec PyProof.Rows

noncomputable abbrev R2 := V → V → Hp → VK → Prop
noncomputable def OpR (X : Cx) (f : Value → Value → Sem Value) (r : R2) : Prop :=
  ∀ (pins : List (Addr × Obj)) (s : Shared) (σ : St) (H : Hp) (x y : V) (v u : Value) (Q : VK), Inv X pins σ H s → RelV x v → RelV y u → r x y H Q →
    wpAny (model X.prog X.w) X.A (f v u) (EP X pins σ Q) X.xe s
noncomputable def UnR (X : Cx) (f : Value → Sem Value) (r : V → Hp → VK → Prop) : Prop :=
  ∀ (pins : List (Addr × Obj)) (s : Shared) (σ : St) (H : Hp) (x : V) (v : Value) (Q : VK), Inv X pins σ H s → RelV x v → r x H Q →
    wpAny (model X.prog X.w) X.A (f v) (EP X pins σ Q) X.xe s
noncomputable def CallR (X : Cx) (f : Value) (r : List V → Hp → VK → Prop) : Prop :=
  ∀ (pins : List (Addr × Obj)) (s : Shared) (σ : St) (H : Hp) (xs : List V) (us : List Value) (Q : VK), Inv X pins σ H s → Vals xs us → r xs H Q →
    wpAny (model X.prog X.w) X.A (call f us) (EP X pins σ Q) X.xe s
noncomputable def TruR (X : Cx) (r : V → Hp → (Bool → Hp → Prop) → Prop) : Prop :=
  ∀ (pins : List (Addr × Obj)) (s : Shared) (σ : St) (H : Hp) (x : V) (v : Value) (Q : Bool → Hp → Prop), Inv X pins σ H s → RelV x v → r x H Q →
    wpAny (model X.prog X.w) X.A (truthy v) (TP X pins σ Q) X.xe s

noncomputable def tOp (r : R2) (ta tb : TE) : TE := fun σ H Q => ta σ H fun x H1 => tb σ H1 fun y H2 => r x y H2 Q
noncomputable def tUn (r : V → Hp → VK → Prop) (ta : TE) : TE := fun σ H Q => ta σ H fun x H1 => r x H1 Q
inductive rII (C : Int → Int → Prop) (g : Int → Int → V) (x : V) (y : V) (H : Hp) (Q : VK) : Prop
  | mk : ∀ i j, (x = .int i) → (y = .int j) → (C i j) → (Q (g i j) H) → rII C g x y H Q
noncomputable def rI (C : Int → Int → Prop) (g : Int → Int → V) : R2 := fun x y H Q => rII C g x y H Q
inductive rI0I (g : Int → Int → V) (x : V) (y : V) (H : Hp) (Q : VK) : Prop
  | mk : ∀ i j, (x = .int i) → (y = .int j) → (Q (g i j) H) → rI0I g x y H Q
noncomputable def rI0 (g : Int → Int → V) : R2 := fun x y H Q => rI0I g x y H Q
inductive rUI (g : Int → V) (x : V) (H : Hp) (Q : VK) : Prop
  | mk : ∀ i, (x = .int i) → (Q (g i) H) → rUI g x H Q
noncomputable def rU (g : Int → V) : V → Hp → VK → Prop := fun x H Q => rUI g x H Q

section
variable {X : Cx} {a b c : Expr} {ta tb tc : TE} {pos : Pos}

theorem binT (ha : PE X a ta) (hb : PE X b tb) {pins : List (Addr × Obj)} {s : Shared} {σ : St} {H : Hp} {R : V → V → Hp → Prop} (I : Inv X pins σ H s)
    (h : ta σ H fun x H1 => tb σ H1 fun y H2 => R x y H2) {Q : Value → Shared → Prop} {f : Value → Value → Sem Value}
    (hf : ∀ v u s2 x y H2, Inv X pins σ H2 s2 → RelV x v → RelV y u → R x y H2 → wpAny (model X.prog X.w) X.A (f v u) Q X.xe s2) :
    wpAny (model X.prog X.w) X.A (eval a X.env) (fun v s₁ => wpAny (model X.prog X.w) X.A (eval b X.env) (fun u s₂ => wpAny (model X.prog X.w) X.A (f v u) Q X.xe s₂) X.xe s₁) X.xe s := by
  refine thn (ha pins s σ H _ I h) fun v s1 ⟨x, H1, I1, r1, q1⟩ => ?_
  refine thn (hb pins s1 σ H1 _ I1 q1) fun u s2 ⟨y, H2, I2, r2, q2⟩ => ?_
  exact hf v u s2 x y H2 I2 r1 r2 q2

theorem pe_op {op : Operator} {r : R2} (ho : OpR X (binaryOp op) r) (ha : PE X a ta) (hb : PE X b tb) : PE X (.BinOp a op b pos) (tOp r ta tb) := by
  intro pins s σ H Q I h
  exact wpAny_BinOp (binT ha hb I h fun v u s2 x y H2 I2 rx ry q => ho pins s2 σ H2 x y v u Q I2 rx ry q)
theorem pe_un {op : UnaryOp} {r : V → Hp → VK → Prop} (ho : UnR X (unaryOp op) r) (ha : PE X a ta) : PE X (.UnaryOp op a pos) (tUn r ta) := by
  intro pins s σ H Q I h
  exact UnaryOp_ (thn (ha pins s σ H _ I h) fun v s1 ⟨x, H1, I1, r1, q1⟩ => ho pins s1 σ H1 x v Q I1 r1 q1)
/-! ### ints -/
theorem opI {f : Value → Value → Sem Value} {C : Int → Int → Prop} {g : Int → Int → Int}
    (rule : ∀ (i j : Int) (t u : Tok) (s : Shared) (Q : Value → Shared → Prop) (E : Value → Shared → Prop), C i j → Q (.int (g i j) s.toks) { s with toks := s.toks + 1 } → wpAny (model X.prog X.w) X.A (f (.int i t) (.int j u)) Q E s) :
    OpR X f (rI C fun i j => .int (g i j)) := by
  intro pins s σ H x y v u Q I rx ry h
  obtain ⟨i, j, rfl, rfl, hc, q⟩ := h
  obtain ⟨t, rfl⟩ := rx
  obtain ⟨t', rfl⟩ := ry
  exact rule i j t t' s _ _ hc ⟨.int (g i j), H, I.tok _, ⟨_, rfl⟩, q⟩
theorem opI0 {f : Value → Value → Sem Value} {g : Int → Int → Int}
    (rule : ∀ (i j : Int) (t u : Tok) (s : Shared) (Q : Value → Shared → Prop) (E : Value → Shared → Prop), Q (.int (g i j) s.toks) { s with toks := s.toks + 1 } → wpAny (model X.prog X.w) X.A (f (.int i t) (.int j u)) Q E s) :
    OpR X f (rI0 fun i j => .int (g i j)) := by
  intro pins s σ H x y v u Q I rx ry h
  obtain ⟨i, j, rfl, rfl, q⟩ := h
  obtain ⟨t, rfl⟩ := rx
  obtain ⟨t', rfl⟩ := ry
  exact rule i j t t' s _ _ ⟨.int (g i j), H, I.tok _, ⟨_, rfl⟩, q⟩
theorem opB0 {f : Value → Value → Sem Value} {g : Int → Int → Bool}
    (rule : ∀ (i j : Int) (t u : Tok) (s : Shared) (Q : Value → Shared → Prop) (E : Value → Shared → Prop), Q (.bool (g i j)) s → wpAny (model X.prog X.w) X.A (f (.int i t) (.int j u)) Q E s) :
    OpR X f (rI0 fun i j => .bl (g i j)) := by
  intro pins s σ H x y v u Q I rx ry h
  obtain ⟨i, j, rfl, rfl, q⟩ := h
  obtain ⟨t, rfl⟩ := rx
  obtain ⟨t', rfl⟩ := ry
  exact rule i j t t' s _ _ ⟨.bl (g i j), H, I, rfl, q⟩

noncomputable def CDiv (i j : Int) : Prop := 0 < j ∧ j < 1073741824
noncomputable def CPow (i j : Int) : Prop := 0 ≤ j ∧ j ≤ 1000000 ∧ i.natAbs < 2 ^ 64
noncomputable def CMul (i j : Int) : Prop := (-(2 ^ 64) < i ∧ i < 2 ^ 64) ∨ (-(2 ^ 64) < j ∧ j < 2 ^ 64)
theorem CMul.ok {i j : Int} (h : CMul i j) : IntMulOk i j := by
  rcases h with ⟨h1, h2⟩ | ⟨h1, h2⟩
  · exact .of_left (intBits_le_64 h1 h2)
  · exact .of_right (intBits_le_64 h1 h2)
theorem op_add : OpR X (binaryOp .Add) (rI0 fun i j => .int (i + j)) := opI0 fun _ _ _ _ _ _ _ q => add_int q
theorem op_sub : OpR X (binaryOp .Sub) (rI0 fun i j => .int (i - j)) := opI0 fun _ _ _ _ _ _ _ q => sub_int q
theorem op_mul : OpR X (binaryOp .Mult) (rI CMul fun i j => .int (i * j)) := opI fun _ _ _ _ _ _ _ hc q => mul_int q hc.ok
theorem op_fdiv : OpR X (binaryOp .FloorDiv) (rI CDiv fun i j => .int (i / j)) := opI fun i j _ _ _ _ _ hc q => by
  have h1 : (0 : Int) < j := hc.1
  have h2 : j < 1073741824 := hc.2
  exact floordiv_int (by omega) (by rw [Int.fdiv_eq_ediv_of_nonneg i (by omega)]; exact q) (.inl (PyProof.noPylong_small (by omega)))
theorem op_mod : OpR X (binaryOp .Mod) (rI (fun _ j => 0 < j) fun i j => .int (i % j)) := opI fun i j _ _ _ _ _ hc q => by
  have h1 : (0 : Int) < j := hc
  exact mod_int' (by omega) (by rw [Int.fmod_eq_emod_of_nonneg i (by omega)]; exact q)
theorem op_pow : OpR X (binaryOp .Pow) (rI CPow fun i j => .int (i ^ j.toNat)) := opI fun _ _ _ _ _ _ _ hc q => pow_int_small hc.1 hc.2.1 hc.2.2 q
theorem unI {f : Value → Sem Value} {g : Int → Int}
    (rule : ∀ (i : Int) (t : Tok) (s : Shared) (Q : Value → Shared → Prop) (E : Value → Shared → Prop), Q (.int (g i) s.toks) { s with toks := s.toks + 1 } → wpAny (model X.prog X.w) X.A (f (.int i t)) Q E s) :
    UnR X f (rU fun i => .int (g i)) := by
  intro pins s σ H x v Q I rx h
  obtain ⟨i, rfl, q⟩ := h
  obtain ⟨t, rfl⟩ := rx
  exact rule i t s _ _ ⟨.int (g i), H, I.tok _, ⟨_, rfl⟩, q⟩
theorem un_neg : UnR X (unaryOp .USub) (rU fun i => .int (-i)) := unI fun _ _ _ _ _ q => neg_int q
/-! ### bools among ints: n += (a < b) -/
end

/-! ### comparisons -/
noncomputable def scal : V → V → Bool
  | .non, .non => true | .non, .int _ => true | .int _, .non => true | .non, .bl _ => true | .bl _, .non => true | .non, .str _ => true | .str _, .non => true
  | .int _, .int _ => true | .bl _, .bl _ => true | .str _, .str _ => true | .byt _, .byt _ => true
  | .int _, .str _ => true | .str _, .int _ => true | .bl _, .str _ => true | .str _, .bl _ => true
  | _, _ => false
noncomputable def rEq : R2 := fun x y H Q => scal x y = true ∧ Q (.bl (decide (x = y))) H
noncomputable def rNe : R2 := fun x y H Q => scal x y = true ∧ Q (.bl (!decide (x = y))) H

theorem dec_int {i j : Int} : decide (V.int i = V.int j) = (i == j) := by
  rw [Bool.eq_iff_iff]
  simp
theorem dec_bl {i j : Bool} : decide (V.bl i = V.bl j) = (i == j) := by
  rw [Bool.eq_iff_iff]
  simp
theorem dec_str {i j : Str} : decide (V.str i = V.str j) = (i == j) := by
  rw [Bool.eq_iff_iff]
  simp
theorem dec_byt {i j : Array UInt8} : decide (V.byt i = V.byt j) = (i.toList == j.toList) := by
  rw [Bool.eq_iff_iff]
  cases i
  cases j
  simp

section
variable {X : Cx} {a b c : Expr} {ta tb tc : TE} {pos : Pos}
theorem fin_bl {pins : List (Addr × Obj)} {σ : St} {H : Hp} {s : Shared} {Q : VK} {k k' : Bool} (I : Inv X pins σ H s) (q : Q (.bl k) H) (e : k = k') : EP X pins σ Q (.bool k') s := by
  subst e
  exact ⟨.bl k, H, I, rfl, q⟩
theorem op_eq : OpR X (compareOp .Eq) rEq := by
  intro pins s σ H x y v u Q I rx ry h
  obtain ⟨hs, q⟩ := h
  cases x with
  | non =>
    cases rx
    cases y with
    | non => cases ry; exact PySem.EqNone.eq_none_none (fin_bl I q (by simp))
    | bl j => cases ry; exact PySem.EqNone.eq_none_bool (fin_bl I q (by simp))
    | int j => obtain ⟨t', rfl⟩ := ry; exact PySem.EqNone.eq_none_int (fin_bl I q (by simp))
    | str j => obtain ⟨t', rfl⟩ := ry; exact PySem.EqNone.eq_none_str (fin_bl I q (by simp))
    | _ => exact absurd (show false = true from hs) Bool.false_ne_true
  | bl i =>
    cases rx
    cases y with
    | non => cases ry; exact PySem.EqNone.eq_bool_none (fin_bl I q (by simp))
    | bl j => cases ry; exact eq_bool (fin_bl I q dec_bl)
    | str j => obtain ⟨t', rfl⟩ := ry; exact PySem.EqMixed.eq_bool_str (fin_bl I q (by simp))
    | _ => exact absurd (show false = true from hs) Bool.false_ne_true
  | int i =>
    obtain ⟨t, rfl⟩ := rx
    cases y with
    | non => cases ry; exact PySem.EqNone.eq_int_none (fin_bl I q (by simp))
    | int j => obtain ⟨t', rfl⟩ := ry; exact eq_int (fin_bl I q dec_int)
    | str j => obtain ⟨t', rfl⟩ := ry; exact PySem.EqMixed.eq_int_str (fin_bl I q (by simp))
    | _ => exact absurd (show false = true from hs) Bool.false_ne_true
  | str i =>
    obtain ⟨t, rfl⟩ := rx
    cases y with
    | non => cases ry; exact PySem.EqNone.eq_str_none (fin_bl I q (by simp))
    | bl j => cases ry; exact PySem.EqMixed.eq_str_bool (fin_bl I q (by simp))
    | int j => obtain ⟨t', rfl⟩ := ry; exact PySem.EqMixed.eq_str_int (fin_bl I q (by simp))
    | str j => obtain ⟨t', rfl⟩ := ry; exact eq_str (fin_bl I q dec_str)
    | _ => exact absurd (show false = true from hs) Bool.false_ne_true
  | byt i =>
    obtain ⟨t, rfl⟩ := rx
    cases y with
    | byt j => obtain ⟨t', rfl⟩ := ry; exact PySem.W.eq_bytes (fin_bl I q dec_byt)
    | _ => exact absurd (show false = true from hs) Bool.false_ne_true
  | _ => cases y <;> exact absurd (show false = true from hs) Bool.false_ne_true
theorem op_ne : OpR X (compareOp .NotEq) rNe := by
  intro pins s σ H x y v u Q I rx ry h
  obtain ⟨hs, q⟩ := h
  cases x with
  | non =>
    cases rx
    cases y with
    | non => cases ry; exact PySem.EqNone.ne_none_none (fin_bl I q (by simp))
    | bl j => cases ry; exact PySem.EqNone.ne_none_bool (fin_bl I q (by simp))
    | int j => obtain ⟨t', rfl⟩ := ry; exact PySem.EqNone.ne_none_int (fin_bl I q (by simp))
    | str j => obtain ⟨t', rfl⟩ := ry; exact PySem.EqNone.ne_none_str (fin_bl I q (by simp))
    | _ => exact absurd (show false = true from hs) Bool.false_ne_true
  | bl i =>
    cases rx
    cases y with
    | non => cases ry; exact PySem.EqNone.ne_bool_none (fin_bl I q (by simp))
    | bl j => cases ry; exact ne_bool (fin_bl I q (congrArg not dec_bl))
    | str j => obtain ⟨t', rfl⟩ := ry; exact PySem.EqMixed.ne_bool_str (fin_bl I q (by simp))
    | _ => exact absurd (show false = true from hs) Bool.false_ne_true
  | int i =>
    obtain ⟨t, rfl⟩ := rx
    cases y with
    | non => cases ry; exact PySem.EqNone.ne_int_none (fin_bl I q (by simp))
    | int j => obtain ⟨t', rfl⟩ := ry; exact ne_int (fin_bl I q (congrArg not dec_int))
    | str j => obtain ⟨t', rfl⟩ := ry; exact PySem.EqMixed.ne_int_str (fin_bl I q (by simp))
    | _ => exact absurd (show false = true from hs) Bool.false_ne_true
  | str i =>
    obtain ⟨t, rfl⟩ := rx
    cases y with
    | non => cases ry; exact PySem.EqNone.ne_str_none (fin_bl I q (by simp))
    | bl j => cases ry; exact PySem.EqMixed.ne_str_bool (fin_bl I q (by simp))
    | int j => obtain ⟨t', rfl⟩ := ry; exact PySem.EqMixed.ne_str_int (fin_bl I q (by simp))
    | str j => obtain ⟨t', rfl⟩ := ry; exact ne_str (fin_bl I q (congrArg not dec_str))
    | _ => exact absurd (show false = true from hs) Bool.false_ne_true
  | byt i =>
    obtain ⟨t, rfl⟩ := rx
    cases y with
    | byt j => obtain ⟨t', rfl⟩ := ry; exact PySem.W.ne_bytes (fin_bl I q (congrArg not dec_byt))
    | _ => exact absurd (show false = true from hs) Bool.false_ne_true
  | _ => cases y <;> exact absurd (show false = true from hs) Bool.false_ne_true

theorem op_lt : OpR X (compareOp .Lt) (rI0 fun i j => .bl (decide (i < j))) := opB0 fun _ _ _ _ _ _ _ q => lt_int q
theorem op_le : OpR X (compareOp .LtE) (rI0 fun i j => .bl (decide (i ≤ j))) := opB0 fun _ _ _ _ _ _ _ q => le_int q
theorem op_gt : OpR X (compareOp .Gt) (rI0 fun i j => .bl (decide (j < i))) := opB0 fun _ _ _ _ _ _ _ q => gt_int q
theorem op_ge : OpR X (compareOp .GtE) (rI0 fun i j => .bl (decide (j ≤ i))) := opB0 fun _ _ _ _ _ _ _ q => ge_int q
theorem nomark (b : Expr) {op : CmpOp} (h : op ≠ .In := by decide) (h2 : op ≠ .NotIn := by decide) : behindInMarks op b = false := by
  have e1 : (op == CmpOp.In) = false := by cases op <;> first | rfl | exact absurd rfl h
  have e2 : (op == CmpOp.NotIn) = false := by cases op <;> first | rfl | exact absurd rfl h2
  cases b <;> simp [behindInMarks, e1, e2]
theorem pe_cmpR {op : CmpOp} {r : R2} (ho : OpR X (compareOp op) r) (ha : PE X a ta) (hb : PE X b tb) (hm : behindInMarks op b = false) : PE X (.Compare a [op] [b] pos) (tOp r ta tb) := by
  intro pins s σ H Q I h
  exact wpAny_Compare1 (binT ha hb I h fun v u s2 x y H2 I2 rx ry q => ho pins s2 σ H2 x y v u Q I2 rx ry q) hm
inductive tTestI (Q : (Bool → Hp → Prop)) (x : V) (H' : Hp) : Prop
  | mk : ∀ k, (x = .bl k) → (Q k H') → tTestI Q x H'
noncomputable def tTest (t : TE) : TT := fun σ H Q => t σ H fun x H' => tTestI Q x H'
theorem pt_cmpR {op : CmpOp} {r : R2} (ho : OpR X (compareOp op) r) (ha : PE X a ta) (hb : PE X b tb) (hm : behindInMarks op b = false) : PT X (.Compare a [op] [b] pos) (tTest (tOp r ta tb)) := by
  intro pins s σ H Q I h
  refine wpAny_isTrue_Compare1 (thn (ha pins s σ H _ I h) fun v s1 ⟨x, H1, I1, r1, q1⟩ => thn (hb pins s1 σ H1 _ I1 q1) fun u s2 ⟨y, H2, I2, r2, q2⟩ =>
    thn (ho pins s2 σ H2 x y v u _ I2 r1 r2 q2) fun c s3 ⟨z, H3, I3, r3, k, e, q3⟩ => ?_) hm
  subst e
  cases r3
  exact wpAny_truthy_bool ⟨H3, I3, q3⟩
noncomputable def tChain (r r' : R2) (ta tb tc : TE) : TE := fun σ H Q => ta σ H fun x H1 => tb σ H1 fun y H2 => r x y H2 fun z H3 => ∃ k, z = .bl k ∧
  (if k = true then tc σ H3 fun w' H4 => r' y w' H4 Q else Q (.bl false) H3)
theorem pt_chain {op op' : CmpOp} {r r' : R2} (ho : OpR X (compareOp op) r) (ho' : OpR X (compareOp op') r') (ha : PE X a ta) (hb : PE X b tb) (hc : PE X c tc)
    (hm : lastMarks [op, op'] [b, c] = false := by with_unfolding_all rfl) : PT X (.Compare a [op, op'] [b, c] pos) (tTest (tChain r r' ta tb tc)) := by
  intro pins s σ H Q I h
  refine isTrue_chain (thn (ha pins s σ H _ I h) fun v s1 ⟨x, H1, I1, r1, q1⟩ => test_link (thn (hb pins s1 σ H1 _ I1 q1) fun u s2 ⟨y, H2, I2, r2, q2⟩ =>
    thn (ho pins s2 σ H2 x y v u _ I2 r1 r2 q2) fun d s3 ⟨z, H3, I3, r3, k, e, q3⟩ => ?_)) hm
  subst e
  cases r3
  refine wpAny_truthy_bool ?_
  cases k with
  | false =>
    obtain ⟨k', e', q'⟩ := q3
    cases e'
    exact ite_ff ⟨H3, I3, q'⟩
  | true =>
    refine ite_tt (test_last (thn (hc pins s3 σ H3 _ I3 q3) fun w' s4 ⟨z', H4, I4, r4, q4⟩ => thn (ho' pins s4 σ H4 y z' u w' _ I4 r2 r4 q4) fun d' s5 ⟨z2, H5, I5, r5, k2, e2, q5⟩ => ?_))
    subst e2
    cases r5
    exact wpAny_truthy_bool ⟨H5, I5, q5⟩

/-! ### truth -/
noncomputable def TruV (K : PySem.W.Frag) (x : V) (H : Hp) (k : Bool) : Prop :=
  match x with
  | .non => k = false
  | .bl b => k = b
  | .int i => k = (i != 0)
  | .str y => y.length ≤ sizeLine ∧ k = ((y.length : Int) != 0)
  | .byt y => y.size ≤ sizeLine ∧ k = ((y.size : Int) != 0)
  | .ref p => (∃ xs, SqL K H p xs ∧ k = !xs.isEmpty) ∨ (∃ xs, SqT K H p xs ∧ k = !xs.isEmpty) ∨ ∃ kvs, H p = some (.dK kvs) ∧ k = !kvs.isEmpty
  | _ => False
theorem isEmpty_kv {κ : Type} {kvs : List (κ × V)} {vs : List (κ × Value)} (r : KV kvs vs) : (!vs.isEmpty) = !kvs.isEmpty := by
  cases r <;> rfl
theorem isEmpty_of {xs : List V} {its : List Value} (r : Vals xs its) : (!its.toArray.isEmpty) = !xs.isEmpty := by
  cases r <;> simp
theorem line63 : (sizeLine : Nat) < 2 ^ 63 := by rw [sizeLine_eq]; decide
theorem tru_ok : TruR X (fun x H Q => ∃ k, TruV X.K x H k ∧ Q k H) := by
  intro pins s σ H x v Q I rx h
  obtain ⟨k, e, q⟩ := h
  have hl := line63
  have hs : sizeLine = 16777216 := sizeLine_eq
  cases x with
  | non =>
    cases rx
    have e' : k = false := e
    subst e'
    exact truthy_none ⟨H, I, q⟩
  | bl b =>
    cases rx
    have e' : k = b := e
    subst e'
    exact wpAny_truthy_bool ⟨H, I, q⟩
  | int i =>
    obtain ⟨t, rfl⟩ := rx
    have e' : k = (i != 0) := e
    subst e'
    exact PySem.P.truthy_int ⟨H, I, q⟩
  | str y =>
    obtain ⟨t, rfl⟩ := rx
    obtain ⟨hy, e'⟩ : y.length ≤ sizeLine ∧ k = ((y.length : Int) != 0) := e
    subst e'
    exact PySem.P.truthy_str (by omega) ⟨H, I.tok _, q⟩
  | byt y =>
    obtain ⟨t, rfl⟩ := rx
    obtain ⟨hy, e'⟩ : y.size ≤ sizeLine ∧ k = ((y.size : Int) != 0) := e
    subst e'
    exact PySem.W.truthy_bytes (by omega) ⟨H, I.tok _, q⟩
  | ref p =>
    cases rx
    have e' : (∃ xs, SqL X.K H p xs ∧ k = !xs.isEmpty) ∨ (∃ xs, SqT X.K H p xs ∧ k = !xs.isEmpty) ∨ ∃ kvs, H p = some (.dK kvs) ∧ k = !kvs.isEmpty := e
    rcases e' with ⟨xs, hx, e'⟩ | ⟨xs, hx, e'⟩ | ⟨kvs, hx, e'⟩
    · subst e'
      obtain ⟨its, r, pl, hz⟩ := I.list hx
      have hlen := r.length
      exact wpAny_truthy_list pl.isList (by simp only [List.size_toArray]; omega) ⟨H, I.tok _, by rw [isEmpty_of r]; exact q⟩
    · subst e'
      obtain ⟨its, r, pl, hz⟩ := I.tuple hx
      have hlen := r.length
      exact truthy_tuple pl (by simp only [List.size_toArray]; omega) ⟨H, I.tok _, by rw [isEmpty_of r]; exact q⟩
    · subst e'
      obtain ⟨hz, hS, vs, r, m⟩ : kvs.length ≤ sizeLine ∧ (p == sysModules) = false ∧ ∃ vs, KV kvs vs ∧ s.heap.DictOf (mixKind X.prog X.w) p vs := I.hok p _ hx
      have hlen : kvs.length = vs.length := Paired.length r
      exact wpAny_truthy_dict hS m (by omega) ⟨H, I.tok _, by rw [isEmpty_kv r]; exact q⟩
  | _ => exact (show False from e).elim
theorem pt_truth (ha : PE X a ta) (he : ∀ whole, isTrue a X.env whole = (do let v ← whole; standAt a.pos; holding [v] (truthy v))) :
    PT X a (fun σ H Q => ta σ H fun x H' => ∃ k, TruV X.K x H' k ∧ Q k H') := by
  intro pins s σ H Q I h
  exact isTrue_plain (thn (ha pins s σ H _ I h) fun v s1 ⟨x, H1, I1, r1, q1⟩ => tru_ok pins s1 σ H1 x v Q I1 r1 q1) (he _)

/-! ### strs and bytes -/
/-! ### scalar builtins, by CallR -/
theorem vals1 {x : V} {us : List Value} (r : Vals [x] us) : ∃ u, us = [u] ∧ RelV x u := by
  cases r with
  | cons r1 r2 => cases r2; exact ⟨_, rfl, r1⟩
theorem vals2 {x y : V} {us : List Value} (r : Vals [x, y] us) : ∃ u w', us = [u, w'] ∧ RelV x u ∧ RelV y w' := by
  cases r with
  | cons r1 r2 =>
    cases r2 with
    | cons r3 r4 => cases r4; exact ⟨_, _, rfl, r1, r3⟩
theorem call_abs : CallR X (.builtin "abs") (fun xs H Q => ∃ i, xs = [.int i] ∧ Q (.int (if i < 0 then -i else i)) H) := by
  intro pins s σ H xs us Q I r h
  obtain ⟨i, rfl, q⟩ := h
  obtain ⟨u, rfl, t, rfl⟩ := vals1 r
  exact call_abs_int fun u tk => ⟨.int (if i < 0 then -i else i), H, I.tok _, ⟨_, rfl⟩, q⟩
theorem call_max2 (hc : X.calm = true) : CallR X (.builtin "max") (fun xs H Q => ∃ i j, xs = [.int i, .int j] ∧ Q (.int (if j > i then j else i)) H) := by
  intro pins s σ H xs us Q I r h
  obtain ⟨i, j, rfl, q⟩ := h
  obtain ⟨u, w', rfl, ⟨t, rfl⟩, ⟨t', rfl⟩⟩ := vals2 r
  refine max_two_ints (I.ok.hd hc) fun h' tk k => ⟨_, H, I.kept k, ?_, q⟩
  by_cases hj : j > i
  · rw [if_pos hj, if_pos hj]; exact ⟨_, rfl⟩
  · rw [if_neg hj, if_neg hj]; exact ⟨_, rfl⟩
theorem call_min2 (hc : X.calm = true) : CallR X (.builtin "min") (fun xs H Q => ∃ i j, xs = [.int i, .int j] ∧ Q (.int (if j < i then j else i)) H) := by
  intro pins s σ H xs us Q I r h
  obtain ⟨i, j, rfl, q⟩ := h
  obtain ⟨u, w', rfl, ⟨t, rfl⟩, ⟨t', rfl⟩⟩ := vals2 r
  refine min_two_ints (I.ok.hd hc) fun h' tk k => ⟨_, H, I.kept k, ?_, q⟩
  by_cases hj : j < i
  · rw [if_pos hj, if_pos hj]; exact ⟨_, rfl⟩
  · rw [if_neg hj, if_neg hj]; exact ⟨_, rfl⟩
theorem call_int1 : CallR X (.type "int") (fun xs H Q => (∃ i, xs = [.int i] ∧ Q (.int i) H) ∨ ∃ k, xs = [.bl k] ∧ Q (.int (if k then 1 else 0)) H) := by
  intro pins s σ H xs us Q I r h
  rcases h with ⟨i, rfl, q⟩ | ⟨k, rfl, q⟩
  · obtain ⟨u, rfl, t, rfl⟩ := vals1 r
    exact call_int_int ⟨.int i, H, I, ⟨_, rfl⟩, q⟩
  · obtain ⟨u, rfl, r1⟩ := vals1 r
    cases r1
    exact call_int_bool ⟨.int (if k then 1 else 0), H, I.tok _, ⟨_, rfl⟩, q⟩
end
end L2

namespace L2
open PySem PySem.Spec PyProof.Rows

/-! ### an instance, its attributes a map -/
structure ObjM (h : Heap) (x dx C : Addr) (mA : Str → Option Value) : Prop where
  obj : h.get? x = some (PySem.W.instObj C dx)
  ns : h.Ns1 dx mA
  ne : dx ≠ x

theorem lookIn_ns {h : Heap} {dx : Addr} {mA : Str → Option Value} (n : h.Ns1 dx mA) : ∃ od, h.get? dx = some od ∧ ∀ name, PySem.W.lookIn name od = some (mA name) := by
  obtain ⟨o, es, ep, ho, hd, hk, _, hm⟩ := n
  refine ⟨o, ho, fun name => ?_⟩
  have e := hm name
  unfold nsFind findBy at e
  rw [← Array.find?_toList] at e
  unfold PySem.W.lookIn
  rw [hd]
  dsimp only
  split
  · rename_i y q
    rw [q] at e
    exact congrArg some e
  · rename_i q
    rw [q] at e
    have a : es.toList.any (·.refKey) = false := by
      rw [List.any_eq_false]
      intro y hy
      obtain ⟨z, t, hkey⟩ := hk y (Array.mem_toList_iff.mp hy)
      simp [DictEntry.refKey, hkey]
    have a' : ¬ es.toList.any (·.refKey) = true := by rw [a]; exact Bool.false_ne_true
    rw [if_neg a']
    exact congrArg some e

theorem ObjM.look {h : Heap} {x dx C : Addr} {mA : Str → Option Value} (I : ObjM h x dx C mA) : ∃ od, PySem.W.InstAt h x (PySem.W.instObj C dx) C (some od) ∧ ∀ name, PySem.W.lookIn name od = some (mA name) :=
  let ⟨od, ho, hl⟩ := lookIn_ns I.ns
  ⟨od, ⟨I.obj, rfl, rfl, ho⟩, hl⟩

section
variable {prog : Program} {w : World} {A : Around} {E : Value → Shared → Prop} {s : Shared} {K : PySem.W.Frag} {x dx C f : Addr} {mA : Str → Option Value} {name : Str} {v : Value}

end

/-! ### the attributes as a list of pairs -/
theorem RelO.some_of {v : V} {o : Option Value} (r : RelO (some v) o) : ∃ u, o = some u ∧ RelV v u := by
  cases o with
  | none => exact (show False from r).elim
  | some u => exact ⟨u, rfl, r⟩
section
variable {P : Program} {w : World} {H H' : Hp} {h h' : Heap} {a C dx : Addr} {fs fs' : List (Str × V)}
theorem ins_get (hok : HOk P w H h) (e : H a = some (.ins C dx fs)) : ∃ mA, ObjM h a dx C mA ∧ (∀ f, RelO (fs.lookup f) (mA f)) ∧ PySem.Within mA (fs.map (·.1)) ∧ fs.length ≤ 1000 ∧ H dx = some (.own a) := by
  obtain ⟨d, z, ne, ob, mA, n, r, q⟩ := (show ObjOk P w H h a (.ins C dx fs) from hok a _ e)
  exact ⟨mA, ⟨ob, n, ne⟩, r, q, z, d⟩
end

/-! ### what of the text a class must have -/
structure Cls (K : PySem.W.Frag) (C : Addr) : Prop where
  pg : PySem.W.plainGet K C Str.empty = true
  hd : PySem.W.hasDictIn K C = true
  po : PySem.W.plainOver K C = true
  sa : PySem.W.findIn K (.ref C) "__setattr__" = some (some (.builtin "object.__setattr__"))
theorem Cls.get {K : PySem.W.Frag} {C : Addr} (c : Cls K C) (f : Str) : PySem.W.plainGet K C f = true := c.pg
section
variable {X : Cx} {pins : List (Addr × Obj)} {σ : St} {H : Hp} {s : Shared} {a C dx : Addr} {fs : List (Str × V)} {f : Str} {v : V} {A : Around} {E : Value → Shared → Prop}

end

/-! ### readings and rules -/
section
variable {X : Cx} {o e value : Expr} {f : Str} {pos pos' tpos : Pos} {ta tv : TE}
end

/-! ### isinstance -/
section
variable {X : Cx} {pins : List (Addr × Obj)} {σ : St} {H : Hp} {s : Shared} {A : Around} {E : Value → Shared → Prop} {Q : Value → Shared → Prop} {c : Value} {b : Bool}
inductive TyOf (K : PySem.W.Frag) (H : Hp) : V → Value → Prop where
  | non : TyOf K H .non (.type "NoneType")
  | bl (x : Bool) : TyOf K H (.bl x) (.type "bool")
  | int (i : Int) : TyOf K H (.int i) (.type "int")
  | str (x : Str) : TyOf K H (.str x) (.type "str")
  | flt (x : UInt64) : TyOf K H (.flt x) (.type "float")
  | lst {a : Addr} {xs : List V} (e : H a = some (.lst xs)) : TyOf K H (.ref a) (.type "list")
  | frz {a : Addr} {o : Obj} {xs : List V} (e : H a = some (.frz o (.lst xs))) : TyOf K H (.ref a) (.type "list")
  | tup {a : Addr} {xs : List V} (e : H a = some (.tup xs)) : TyOf K H (.ref a) (.type "tuple")
  | dK {a : Addr} {kvs : List (Key × V)} (e : H a = some (.dK kvs)) : TyOf K H (.ref a) (.type "dict")
  | dT {a : Addr} {kvs : List (List Key × V)} (e : H a = some (.dT kvs)) : TyOf K H (.ref a) (.type "dict")
  | ins {a C dx : Addr} {fs : List (Str × V)} (e : H a = some (.ins C dx fs)) (cl : Cls K C) (ha : PySem.W.findIn K (.ref C) "__class__" = some (some (.builtin "object.__class__")))
      (hn : PySem.W.specialIn K (.builtin "object.__class__") "__get__" = some (some (.builtin "getset_descriptor.__get__"))) (htk : PySem.W.takesIn K (.builtin "object.__class__") = some true)
      (hm : PySem.W.mroIn K C (.type "object") = some true) : TyOf K H (.ref a) (.ref C)
theorem isinst_ok {x : V} {u t : Value} (I : Inv X pins σ H s) (rx : RelV x u) (ty : TyOf X.K H x t) (e : PySem.W.kitOne X.K t c = some b) (h : ∀ tk, Q (.bool b) { s with toks := tk }) :
    wpAny (model X.prog X.w) A (call (.builtin "isinstance") [u, c]) Q E s := by
  cases ty with
  | non => cases (show u = Value.none from rx); exact PySem.W.kia_one PySem.W.kitx_none I.kIn True.intro e (fun z => nomatch z) h
  | bl y => cases (show u = Value.bool y from rx); exact PySem.W.kia_one PySem.W.kitx_bool I.kIn True.intro e (fun z => nomatch z) h
  | int i => obtain ⟨t, q⟩ := (show ∃ t, u = Value.int i t from rx); cases q; exact PySem.W.kia_one PySem.W.kitx_int I.kIn True.intro e (fun z => nomatch z) h
  | str y => obtain ⟨t, q⟩ := (show ∃ t, u = Value.str y t from rx); cases q; exact PySem.W.kia_one PySem.W.kitx_str I.kIn True.intro e (fun z => nomatch z) h
  | flt y => obtain ⟨t, q⟩ := (show ∃ t, u = Value.float y t from rx); cases q; exact PySem.W.kia_one PySem.W.kitx_float I.kIn True.intro e (fun z => nomatch z) h
  | @lst a xs ea =>
    cases (show u = Value.ref a from rx)
    obtain ⟨_, _, n, _, h1⟩ := (show ObjOk X.prog X.w H s.heap a (.lst xs) from I.hok a _ ea)
    exact PySem.W.kia_one PySem.W.kitx_list I.kIn ⟨_, h1, rfl⟩ e (fun z => nomatch z) h
  | @frz a ob xs ea =>
    cases (show u = Value.ref a from rx)
    obtain ⟨_, _, _, n, _, h1⟩ := (show ObjOk X.prog X.w H s.heap a (.frz ob (.lst xs)) from I.hok a _ ea)
    exact PySem.W.kia_one PySem.W.kitx_list I.kIn ⟨_, h1, rfl⟩ e (fun z => nomatch z) h
  | @tup a xs ea =>
    cases (show u = Value.ref a from rx)
    obtain ⟨_, _, _, p⟩ := (show ObjOk X.prog X.w H s.heap a (.tup xs) from I.hok a _ ea)
    obtain ⟨o, h1, h2, _⟩ := p
    exact PySem.W.kia_one PySem.W.kitx_tuple I.kIn ⟨o, h1, h2⟩ e (fun z => nomatch z) h
  | @dK a kvs ea =>
    cases (show u = Value.ref a from rx)
    obtain ⟨_, _, vs, _, p⟩ := (show ObjOk X.prog X.w H s.heap a (.dK kvs) from I.hok a _ ea)
    obtain ⟨o, es, ep, h1, h2, _⟩ := p
    exact PySem.W.kia_one PySem.W.kitx_dict I.kIn ⟨o, h1, h2.1⟩ e (fun z => nomatch z) h
  | @dT a kvs ea =>
    cases (show u = Value.ref a from rx)
    obtain ⟨_, _, xs, _, o, es, ep, h1, h2, _⟩ := (show ObjOk X.prog X.w H s.heap a (.dT kvs) from I.hok a _ ea)
    exact PySem.W.kia_one PySem.W.kitx_dict I.kIn ⟨o, h1, h2.1⟩ e (fun z => nomatch z) h
  | @ins a C dx fs ea cl ha hn htk hm =>
    cases (show u = Value.ref a from rx)
    obtain ⟨mA, O, _⟩ := ins_get I.hok ea
    obtain ⟨od, J, _⟩ := O.look
    exact PySem.W.kia_one (PySem.W.kitx_own (cl.get _) cl.hd ha hn htk hm) I.kIn J e (fun z => nomatch z) h
end
end L2

namespace L2
open PySem PySem.Spec PyProof.Rows

/-! ### room -/
structure Room (k : Nat) (A : Around) : Prop where
  hd : A.handled = none
  dp : A.depth + 3 * k + 5 < recursionLimit
  un : A.units + 16 * k + 200 < cLine
theorem Room.mono {j k : Nat} {A : Around} (r : Room k A) (h : j ≤ k) : Room j A := ⟨r.hd, by have := r.dp; omega, by have := r.un; omega⟩
theorem Room.deeper {k : Nat} {A : Around} (r : Room (k + 1) A) (env : Env) : Room k (A.deeper env) :=
  ⟨r.hd, by have := r.dp; show A.depth + 1 + 3 * k + 5 < _; omega, by have := r.un; show A.units + 3 + 16 * k + 200 < _; omega⟩
theorem Room.depth {k : Nat} {A : Around} (r : Room k A) : A.depth < recursionLimit := by have := r.dp; omega
theorem Room.units {k : Nat} {A : Around} (r : Room k A) : A.units + 64 < cLine := by have := r.un; omega
/-! ### argument lists and displays -/
noncomputable def tNil : TA := fun _ H Q => Q [] H
noncomputable def tCons (ta : TE) (tr : TA) : TA := fun σ H Q => ta σ H fun x H1 => tr σ H1 fun xs H2 => Q (x :: xs) H2
section
variable {X : Cx} {e : Expr} {es : List Expr} {te : TE} {t : TA} {pos : Pos}
theorem pa_nil : PA X [] tNil := fun _ _ _ _ H Q I h => Calls.spliced_nil ⟨[], H, I, .nil, h⟩
theorem pa_cons (ha : PE X e te) (hr : PA X es t) (hs : starEach (e :: es) X.env = (false, eval e X.env) :: starEach es X.env := by rfl) : PA X (e :: es) (tCons te t) := by
  intro pos pins s σ H Q I h
  rw [hs]
  show wpAny _ _ (spliced ((false, eval e X.env) :: backTo pos (starEach es X.env))) _ _ s
  refine Calls.spliced_cons (thn (ha pins s σ H _ I h) fun u s1 ⟨x, H1, I1, r1, q1⟩ => ?_)
  exact thn (hr pos pins s1 σ H1 _ I1 q1) fun us s2 ⟨xs, H2, I2, r2, q2⟩ => ⟨x :: xs, H2, I2, .cons r1 r2, q2⟩

noncomputable def tTup (t : TA) : TE := fun σ H Q => t σ H fun xs H1 => xs.length ≤ sizeLine ∧ ∀ p, H1 p = none → Q (.ref p) (upd H1 p (.tup xs))
noncomputable def tLst (t : TA) : TE := fun σ H Q => t σ H fun xs H1 => xs.length ≤ sizeLine ∧ ∀ p, H1 p = none → Q (.ref p) (upd H1 p (.lst xs))
theorem pe_tup {x1} (h : PA X es t) : PE X (.Tuple es x1 pos) (tTup t) := by
  intro pins s σ H Q I hq
  refine wpAny_Tuple_spliced (thn (h pos pins s σ H _ I hq) fun us s1 ⟨xs, H1, I1, r, z, q⟩ => ⟨by rw [← r.length]; exact z, ?_⟩)
  have hf : H1 s1.heap.objs.size = none := I1.hok.fresh (Nat.le_refl _)
  refine ⟨.ref s1.heap.objs.size, upd H1 s1.heap.objs.size (.tup xs), I1.laid (t' := s1.toks) (fun b u e => Heap.get?_push_of_some _ e) (Nat.le_refl _) ?_, rfl, q _ hf⟩
  exact ⟨z, us, r, ⟨_, Heap.get?_push_size _ rfl, rfl, _, rfl⟩⟩
theorem pe_lst (h : PA X es t) : PE X (.List es pos) (tLst t) := by
  intro pins s σ H Q I hq
  refine wpAny_List_spliced (thn (h pos pins s σ H _ I hq) fun us s1 ⟨xs, H1, I1, r, z, q⟩ => ⟨by rw [← r.length]; exact z, ?_⟩)
  have hf : H1 s1.heap.objs.size = none := I1.hok.fresh (Nat.le_refl _)
  refine ⟨.ref s1.heap.objs.size, upd H1 s1.heap.objs.size (.lst xs), I1.laid (t' := s1.toks) (fun b u e => Heap.get?_push_of_some _ e) (Nat.le_refl _) ?_, rfl, q _ hf⟩
  exact ⟨z, us, 0, r, Heap.get?_push_size _ rfl⟩
end

/-! ### what a def promises -/
noncomputable abbrev Sp := List V → Hp → VK → XK → Prop
noncomputable abbrev CXT := List Env → Hp → Shared → XK → Value → Shared → Prop

structure Env0 (P : Program) (w : World) (K : PySem.W.Frag) (mg : Str → Option Value) (base : Heap) (A : Around) (outer : List Env) (s : Shared) (H : Hp) : Prop where
  frames : A.frames = some outer
  mod : Mod K mg base
  bs : ∀ b o, base.get? b = some o → s.heap.get? b = some o ∧ H b = none
  bsz : base.objs.size ≤ s.heap.objs.size
  funs : s.heap.FunFrames base outer
  frf : ∀ b ∈ frs outer, H b = none
  hok : HOk P w H s.heap
  bare : AllBare s.gens
noncomputable def CE (outer : List Env) (P : Program) (w : World) (H : Hp) (s : Shared) (Q : VK) (u : Value) (s' : Shared) : Prop :=
  ∃ v H', s'.os = s.os ∧ AllBare s'.gens ∧ Un (frs outer) [] H H' s.heap s'.heap ∧ HOk P w H' s'.heap ∧ RelV v u ∧ Q v H'
noncomputable def CR (CX : CXT) (outer : List Env) (P : Program) (w : World) (H : Hp) (s : Shared) (Q : VK) (E : XK) (r : Result) (s' : Shared) : Prop :=
  match r with
  | .ok (.ret u) => CE outer P w H s Q u s'
  | .ok _ => False
  | .error e => CX outer H s E e s'
structure FnOk (P : Program) (w : World) (K : PySem.W.Frag) (mg : Str → Option Value) (base : Heap) (CX : CXT) (k : Nat) (f : Addr) (fd : FuncData) (ps : List Str) (sp : Sp) : Prop where
  len : ∀ vs H Q E, sp vs H Q E → vs.length = ps.length
  run : ∀ (A : Around) (outer : List Env) (s : Shared) (H : Hp) (args : Args) (us : List Value) (vs : List V) (Q : VK) (E : XK), Room k A → Env0 P w K mg base A outer s H → BindsTo s fd args (ps.zip us) → Vals vs us → sp vs H Q E →
    codeAny (model P w) A (.call (.ref f) args) (CR CX outer P w H s Q E) s
section
variable {X : Cx} {pins : List (Addr × Obj)} {σ : St} {H : Hp} {s s' : Shared}
theorem Inv.env0 (I : Inv X pins σ H s) : Env0 X.prog X.w X.K X.mg X.base X.A X.stack s H :=
  ⟨I.ok.frames, I.ok.mod, I.bs, Nat.le_trans I.ok.bsz I.sz, I.stack, I.stkFree, I.hok, I.bare⟩
theorem Inv.after {Q : VK} {u : Value} (I : Inv X pins σ H s) (h : CE X.stack X.prog X.w H s Q u s') : EP X pins σ Q u s' := by
  obtain ⟨v, H', os, bare, un, hok, r, q⟩ := h
  obtain ⟨hh, g, d, t, os'⟩ := s'
  obtain rfl : os' = s.os := os
  exact ⟨v, H', I.call (h' := hh) (g' := g) (d' := d) (t' := t) (ch := []) un hok bare (fun b z => absurd z (by simp)), r, q⟩
end

/-! ### calls -/
noncomputable def tCall (sp : Sp) (dvs : List V) (E : XK) (t : TA) : TE := fun σ H Q => t σ H fun vs H1 => sp (vs ++ dvs) H1 Q E
noncomputable def Binds (K : PySem.W.Frag) (fd : FuncData) (ps : List Str) (ds : List Value) : Prop :=
  ∀ (s : Shared) (us : List Value), K.In s.heap → (us ++ ds).length = ps.length → BindsTo s fd ⟨us, []⟩ (ps.zip (us ++ ds))
theorem Binds.all {K : PySem.W.Frag} {fd : FuncData} {ps : List Str} (h : ∀ us : List Value, us.length = ps.length → bindArgs fd ⟨us, []⟩ = pure (ps.zip us)) : Binds K fd ps [] := fun s us _ hl => by
  rw [List.append_nil] at hl ⊢
  exact .of_eq (h us hl)

noncomputable def Passes (CX : CXT) (X : Cx) (E : XK) : Prop := ∀ (pins : List (Addr × Obj)) (σ : St) (H : Hp) (s : Shared) (e : Value) (s' : Shared), Inv X pins σ H s → CX X.stack H s E e s' → X.xe e s'

section
variable {X : Cx} {CX : CXT} {k : Nat} {f C : Addr} {fd : FuncData} {ps : List Str} {sp : Sp} {dvs : List V} {ds : List Value} {E : XK} {x m : Str} {p pos apos : Pos} {e o : Expr} {es : List Expr} {ta : TE} {t : TA}

theorem run_fn {pins : List (Addr × Obj)} {σ : St} {H : Hp} {s : Shared} {Q : VK} {us : List Value} {vs : List V} (F : FnOk X.prog X.w X.K X.mg X.base CX k f fd ps sp) (hr : Room k X.A) (hb : Binds X.K fd ps ds) (hd : Vals dvs ds) (hx : Passes CX X E)
    (I : Inv X pins σ H s) (r : Vals vs us) (h : sp (vs ++ dvs) H Q E) : wpAny (model X.prog X.w) X.A (call (.ref f) us) (EP X pins σ Q) X.xe s := by
  have r2 : Vals (vs ++ dvs) (us ++ ds) := r.append hd
  have hl : (us ++ ds).length = ps.length := by rw [← r2.length]; exact F.len _ _ _ _ h
  refine wpAny_call (codeAny_mono (F.run X.A X.stack s H ⟨us, []⟩ (us ++ ds) (vs ++ dvs) Q E hr I.env0 (hb s us I.kIn hl) r2 h) fun r s' hq => ?_)
  cases r with
  | error e => exact hx pins σ H s e s' I hq
  | ok fl =>
    cases fl with
    | ret u => exact I.after hq
    | next => exact False.elim hq
    | brk => exact False.elim hq
    | cont => exact False.elim hq

theorem pe_call (F : FnOk X.prog X.w X.K X.mg X.base CX k f fd ps sp) (hr : Room k X.A) (hg : Gl X x) (hm : X.mg x = some (.ref f)) (hk : PySem.W.keepIn X.K (.ref f) = true) (hb : Binds X.K fd ps ds) (hd : Vals dvs ds) (hx : Passes CX X E)
    (ha : PA X (e :: es) t) (hdb : (x == ("__debug__" : Str)) = false := by decide) (he : starEach (e :: es) X.env = (false, eval e X.env) :: starEach es X.env := by rfl) (hpl : (backTo pos (starEach es X.env)).any (·.1) = false := by rfl) :
    PE X (.Call (.Name x p) (e :: es) [] pos) (tCall sp dvs E t) := by
  intro pins s σ H Q I h
  refine wpAny_Call_Name_kw (ld_glob I hg hm ?_ hdb)
  refine PySem.W.callWith_K (h₀ := X.base) I.ok.mod.kin hk (thn (ha pos pins s σ H _ I h) fun us s1 ⟨vs, H1, I1, r, q⟩ => ⟨I1.kIn, ?_⟩) he hpl
  exact run_fn F hr hb hd hx I1 r q
end

/-! ### keywords -/
noncomputable def PK (X : Cx) (kws : List Keyword) (t : TA) : Prop :=
  ∀ (pos : Pos) (pins : List (Addr × Obj)) (s : Shared) (σ : St) (H : Hp) (Q : List V → Hp → Prop), Inv X pins σ H s → t σ H Q → wpAny (model X.prog X.w) X.A (evalAll ((backToKw pos (keywordEach kws X.env)).map (·.2))) (AP X pins σ Q) X.xe s
section
variable {X : Cx} {CX : CXT} {k : Nat} {f C : Addr} {fd : FuncData} {ps ks : List Str} {sp : Sp} {E : XK} {x m : Str} {p pos apos kpos : Pos} {e o : Expr} {es : List Expr} {kws : List Keyword} {te ta : TE} {t tk : TA} {nm : Option Str}
theorem pk_nil : PK X [] tNil := fun _ _ _ _ H Q I h => wpAny_evalAll_nil ⟨[], H, I, .nil, h⟩
theorem pk_cons (ha : PE X e te) (hr : PK X kws t) : PK X (⟨nm, e, kpos⟩ :: kws) (tCons te t) := by
  intro pos pins s σ H Q I h
  show wpAny _ _ (evalAll ((do let v ← eval e X.env; standAt pos; pure v) :: (backToKw pos (keywordEach kws X.env)).map (·.2))) _ _ s
  refine wpAny_evalAll_cons (wpAny_bind (thn (ha pins s σ H _ I h) fun u s1 ⟨x, H1, I1, r1, q1⟩ => wpAny_bind (wpAny_standAt (wpAny_pure ?_))))
  exact thn (hr pos pins s1 σ H1 _ I1 q1) fun us s2 ⟨xs, H2, I2, r2, q2⟩ => ⟨x :: xs, H2, I2, .cons r1 r2, q2⟩

variable {g : List Value → List Value → List Value} {gV : List V → List V → List V}
end

/-! ### a def's body keeps its promise -/
structure FnScope (N P : List Str) (sc : Scope) : Prop where
  kind : sc.kind = .function
  co : sc.isCoroutine = false
  gen : sc.isGenerator = false
  nd : N.Nodup
  pre : N.take P.length = P
  par : ∀ x ∈ P, sc.names.lookup x = some .local ∨ sc.names.lookup x = some .cell
  nofree : ∀ y ∈ sc.names, y.2 ≠ .free

theorem bindL_out {kindOf : Str → Option NameKind} {x : Str} : ∀ {binds : List (Str × Value)} {m : Str → Option Value}, (∀ v, (x, v) ∉ binds) → bindL kindOf binds m x = m x
  | [], _, _ => rfl
  | (n, v) :: r, m, h => by
    unfold bindL
    rw [bindL_out fun w hw => h w (List.mem_cons_of_mem _ hw)]
    split
    · have : x ≠ n := by rintro rfl; exact h v List.mem_cons_self
      simp [this]
    · rfl
theorem bindC_out {kindOf : Str → Option NameKind} {x : Str} : ∀ {binds : List (Str × Value)} {m : Str → Option Value}, (∀ v, (x, v) ∉ binds) → bindC kindOf binds m x = m x
  | [], _, _ => rfl
  | (n, v) :: r, m, h => by
    unfold bindC
    rw [bindC_out fun w hw => h w (List.mem_cons_of_mem _ hw)]
    split
    · rfl
    · have : x ≠ n := by rintro rfl; exact h v List.mem_cons_self
      simp [this]
theorem bindL_get {kindOf : Str → Option NameKind} {x : Str} {v : Value} : ∀ {P : List Str} {vs : List Value} {i : Nat} {m : Str → Option Value}, P.Nodup → P[i]? = some x → vs[i]? = some v → kindOf x = some .local →
    bindL kindOf (P.zip vs) m x = some v
  | [], _, _, _, _, h, _, _ => by simp at h
  | _ :: _, [], _, _, _, _, h, _ => by simp at h
  | p :: P, w :: vs, 0, m, nd, h1, h2, hk => by
    simp at h1 h2; subst h1; subst h2
    show bindL kindOf ((p, w) :: P.zip vs) m p = _
    unfold bindL
    rw [bindL_out fun v hv => (List.nodup_cons.mp nd).1 (List.of_mem_zip hv).1, if_pos hk]
    simp
  | p :: P, w :: vs, i + 1, m, nd, h1, h2, hk => by
    show bindL kindOf ((p, w) :: P.zip vs) m x = _
    unfold bindL
    exact bindL_get (i := i) (List.nodup_cons.mp nd).2 (by simpa using h1) (by simpa using h2) hk
theorem bindC_get {kindOf : Str → Option NameKind} {x : Str} {v : Value} : ∀ {P : List Str} {vs : List Value} {i : Nat} {m : Str → Option Value}, P.Nodup → P[i]? = some x → vs[i]? = some v → kindOf x ≠ some .local →
    bindC kindOf (P.zip vs) m x = some v
  | [], _, _, _, _, h, _, _ => by simp at h
  | _ :: _, [], _, _, _, _, h, _ => by simp at h
  | p :: P, w :: vs, 0, m, nd, h1, h2, hk => by
    simp at h1 h2; subst h1; subst h2
    show bindC kindOf ((p, w) :: P.zip vs) m p = _
    unfold bindC
    rw [bindC_out fun v hv => (List.nodup_cons.mp nd).1 (List.of_mem_zip hv).1, if_neg hk]
    simp
  | p :: P, w :: vs, i + 1, m, nd, h1, h2, hk => by
    show bindC kindOf ((p, w) :: P.zip vs) m x = _
    unfold bindC
    exact bindC_get (i := i) (List.nodup_cons.mp nd).2 (by simpa using h1) (by simpa using h2) hk

noncomputable def start (N : List Str) (vs : List V) : St := vs.map some ++ List.replicate (N.length - vs.length) none

noncomputable def cxOf (CX : CXT) (P : Program) (w : World) (K : PySem.W.Frag) (mg : Str → Option Value) (base : Heap) (N : List Str) (qual : Str) (scope : Scope) (f : Addr) (cd : Value) (A : Around) (outer : List Env) (s : Shared) (H : Hp) (E : XK) : Cx where
  prog := P
  w := w
  K := K
  mg := mg
  base := base
  A := A.deeper (envOfC qual scope s.heap.objs.size f cd)
  N := N
  s₀ := s
  H₀ := H
  env := envOfC qual scope s.heap.objs.size f cd
  outer := outer
  stack := envOfC qual scope s.heap.objs.size f cd :: outer
  ex := []
  calm := true
  fn := fun _ => true
  pn := []
  xe := fun e s' => wpAny (model P w) (A.deeper (envOfC qual scope s.heap.objs.size f cd)) (leaving (envOfC qual scope s.heap.objs.size f cd) e) (fun _ s'' => CX outer H s E e s'') (fun e' s'' => CX outer H s E e' s'') s'

theorem cell_has {sc : Scope} {n : Nat} {x : Str} (h : sc.names.lookup x = some .cell) : ∃ c, (cellsFrom n sc.names []).lookup x = some c := by
  have q := PySem.W.cellsFrom_some sc.names n [] (.inl h)
  exact Option.isSome_iff_exists.mp q

theorem inv_start {CX : CXT} {P : Program} {w : World} {K : PySem.W.Frag} {mg : Str → Option Value} {base : Heap} {N ps : List Str} {qual : Str} {scope : Scope} {f : Addr} {cd : Value} {A : Around} {outer : List Env} {s s1 : Shared} {H : Hp} {E : XK} {us : List Value} {vs : List V}
    (S : FnScope N ps scope) (hd : A.handled = none) (e0 : Env0 P w K mg base A outer s H) (hl : vs.length = ps.length) (r : Vals vs us)
    (x : InCallC s s.heap.objs.size (bindL (envOfC qual scope s.heap.objs.size f cd).kindOf (ps.zip us) fun _ => none) (cellsFrom (s.heap.objs.size + 1) scope.names []) (bindC (envOfC qual scope s.heap.objs.size f cd).kindOf (ps.zip us) fun _ => none) s1) :
    Inv (cxOf CX P w K mg base N qual scope f cd A outer s H E) [] (start N vs) H s1 := by
  have hpl : ps.length ≤ N.length := by have := congrArg List.length S.pre; rw [List.length_take] at this; omega
  obtain ⟨h1, tk, rfl, hk⟩ := x.done
  have noA : ∀ b : Addr, b ∉ (cxOf CX P w K mg base N qual scope f cd A outer s H E).ex := fun b z => absurd (show b ∈ ([] : List Addr) from z) (by simp)
  refine ⟨⟨e0.mod, S.kind, rfl, rfl, Nat.le_refl _, fun y z c h1 h2 => ?_, fun y hy => ?_, fun y c _ h => ?_, fun _ => hd, Around.frames_deeper e0.frames, .inr ⟨rfl, rfl⟩, fun b z => absurd z (noA b), e0.bs, e0.bsz, fun b _ _ => noA b, fun b z => absurd z (noA b), e0.funs, e0.frf⟩,
    rfl, e0.bare, Un.kept hk, ⟨_, x.toInCall.ns, fun i y v h1 h2 h3 => ?_⟩, fun y c h => ⟨_, x.cell y c h⟩, e0.hok.fresh (Nat.le_refl _), fun y c h => ?_, fun p hp => absurd (show p ∈ ([] : List (Addr × Obj)) from hp) (by simp), e0.hok.kept hk, ?_⟩
  · exact name_of_addr x.apart (PySem.mem_of_lookup h1) (PySem.mem_of_lookup h2)
  · have hy : scope.names.lookup y = some .cell ∨ scope.names.lookup y = some .free := hy
    rcases hy with hy | hy
    · exact cell_has hy
    · exact absurd rfl (S.nofree _ (PySem.mem_of_lookup hy))
  · exact Nat.le_of_lt (x.above y c (PySem.mem_of_lookup h))
  · have hi : i < vs.length := by
      unfold start at h2
      by_cases hi : i < vs.length
      · exact hi
      · rw [List.getElem?_append_right (by simpa using hi)] at h2
        rw [List.getElem?_replicate] at h2
        split at h2 <;> cases h2
    have ha : vs[i]? = some v := by
      unfold start at h2
      rw [List.getElem?_append_left (by simpa using hi), List.getElem?_map] at h2
      cases e : vs[i]? with
      | none => rw [e] at h2; cases h2
      | some a => rw [e] at h2; cases h2; rfl
    obtain ⟨u, hu, rv⟩ := r.get ha
    have hp : ps[i]? = some y := by
      rw [← S.pre, List.getElem?_take_of_lt (by omega)]; exact h1
    have ndP : ps.Nodup := by rw [← S.pre]; exact S.nd.sublist (List.take_sublist _ _)
    refine ⟨u, rv, ?_⟩
    rcases S.par y (List.mem_of_getElem? hp) with k | k
    · exact .inl ⟨k, bindL_get ndP hp hu k⟩
    · obtain ⟨c, e⟩ := cell_has (n := s.heap.objs.size + 1) k
      refine .inr ⟨.inl k, c, e, ?_⟩
      have q := x.cell y c e
      rw [bindC_get ndP hp hu (by show scope.names.lookup y ≠ _; rw [k]; decide)] at q
      exact q
  · exact e0.hok.fresh (Nat.le_of_lt (x.above y c (PySem.mem_of_lookup h)))
  · unfold start
    show _ = N.length
    rw [List.length_append, List.length_map, List.length_replicate]
    omega

theorem fn_of {CX : CXT} {P : Program} {w : World} {K : PySem.W.Frag} {mg : Str → Option Value} {base : Heap} {k : Nat} {f : Addr} {name qual : Str} {params : Arguments} {body : List Stmt} {scope : Scope} {dV kV doc pm cdv ct oc : Value} {an od : Option Addr}
    {osl : Array (Option Value)} {N ps : List Str} {sp : Sp} (lk : K.lookup f = some ⟨oc, od, .func (PySem.W.fnOf name qual params body scope dV kV doc pm an cdv ct), osl⟩) (hcd : PySem.W.codeIn K cdv qual = true) (S : FnScope N ps scope)
    (len : ∀ vs H Q E, sp vs H Q E → vs.length = ps.length)
    (hbody : ∀ (A : Around) (outer : List Env) (s : Shared) (H : Hp) (vs : List V) (Q : VK) (E : XK), Room k (A.deeper (envOfC qual scope s.heap.objs.size f cdv)) → sp vs H Q E →
      ∃ t, PSs (cxOf CX P w K mg base N qual scope f cdv A outer s H E) body t ∧ t { nx := fun _ H' => Q .non H', rt := Q } (start N vs) H) :
    FnOk P w K mg base CX (k + 1) f (PySem.W.fnOf name qual params body scope dV kV doc pm an cdv ct) ps sp := by
  refine ⟨len, fun A outer s H args us vs Q E hr e0 hb r hsp => ?_⟩
  have hl := len _ _ _ _ hsp
  have KX : K.In s.heap := e0.mod.kin.keeps fun b o e => (e0.bs b o e).1
  have lim : s.heap.NoLimit := e0.mod.nolimit.keeps fun b o e => (e0.bs b o e).1
  have hkind : ∀ y ∈ ps.zip us, scope.names.lookup y.1 = some .local ∨ (scope.names.lookup y.1 = some .cell ∧ ((cellsFrom (s.heap.objs.size + 1) scope.names []).lookup y.1).isSome = true) := fun ⟨n, v⟩ hy => by
    rcases S.par n (List.of_mem_zip hy).1 with q | q
    · exact .inl q
    · exact .inr ⟨q, PySem.W.cellsFrom_some _ _ _ (.inl q)⟩
  refine codeAny_call_function hr.depth (KX _ _ lk) rfl S.co S.gen rfl (PySem.W.codeRec_of KX hcd) (hb _ _ _ _ ?_)
  refine wpAny_newFunctionEnv_cells S.kind hkind fun env he s1 x => ?_
  subst he
  refine ⟨lim.keeps x.toInCall.keep, codeAny_func ?_⟩
  obtain ⟨t, ht, hq⟩ := hbody A outer s H vs Q E (hr.deeper _) hsp
  have I : Inv (cxOf CX P w K mg base N qual scope f cdv A outer s H E) [] (start N vs) H s1 := inv_start S hr.hd e0 hl r x
  refine wpAny_mono (ht [] s1 (start N vs) H _ I hq) (fun fl s' hs => ?_) fun e s' hs => hs
  have fin : ∀ {σ' : St} {H' : Hp} {v : V} {u : Value}, Inv (cxOf CX P w K mg base N qual scope f cdv A outer s H E) [] σ' H' s' → RelV v u → Q v H' → CE outer P w H s Q u s' :=
    fun {σ' H' v u} J rv q => ⟨v, H', J.os, J.bare, J.base, J.hok, rv, q⟩
  cases fl with
  | ret u =>
    obtain ⟨v, σ', H', J, rv, q⟩ := hs
    exact fin J rv q
  | next =>
    obtain ⟨σ', H', J, q⟩ := hs
    exact fin (v := V.non) (u := Value.none) J rfl q
  | brk =>
    obtain ⟨_, _, _, q⟩ := hs
    exact False.elim q
  | cont =>
    obtain ⟨_, _, _, q⟩ := hs
    exact False.elim q
end L2

namespace L2
open PySem PySem.Spec PyProof.Rows
section
variable {X : Cx} {x : Str} {p pos : Pos} {e : Expr} {es : List Expr} {t : TA} {id T : String} {r : List V → Hp → VK → Prop}

noncomputable def tCB (r : List V → Hp → VK → Prop) (t : TA) : TE := fun σ H Q => t σ H fun vs H1 => r vs H1 Q
theorem pe_callB (hc : CallR X (.builtin id) r) (hg : Gl X x) (hm : X.mg x = none) (hv : bootBuiltins x = some (.builtin id)) (ha : PA X (e :: es) t) (hn : x ≠ "__name__" := by decide) (hdb : (x == ("__debug__" : Str)) = false := by decide)
    (he : starEach (e :: es) X.env = (false, eval e X.env) :: starEach es X.env := by rfl) (hpl : (backTo pos (starEach es X.env)).any (·.1) = false := by rfl) : PE X (.Call (.Name x p) (e :: es) [] pos) (tCB r t) := by
  intro pins s σ H Q I h
  refine wpAny_Call_Name_kw (ld_blt I hg hm hv ?_ hn hdb)
  exact PyProof.Rows.callWith_builtin1 (thn (ha pos pins s σ H _ I h) fun us s1 ⟨vs, H1, I1, r1, q1⟩ => hc pins s1 σ H1 vs us Q I1 r1 q1) he hpl
theorem pe_callTy (hc : CallR X (.type T) r) (hg : Gl X x) (hm : X.mg x = none) (hv : bootBuiltins x = some (.type T)) (ha : PA X (e :: es) t) (hn : x ≠ "__name__" := by decide) (hdb : (x == ("__debug__" : Str)) = false := by decide)
    (he : starEach (e :: es) X.env = (false, eval e X.env) :: starEach es X.env := by rfl) (hpl : (backTo pos (starEach es X.env)).any (·.1) = false := by rfl) : PE X (.Call (.Name x p) (e :: es) [] pos) (tCB r t) := by
  intro pins s σ H Q I h
  refine wpAny_Call_Name_kw (ld_blt I hg hm hv ?_ hn hdb)
  exact PyProof.Rows.callWith_type1 (thn (ha pos pins s σ H _ I h) fun us s1 ⟨vs, H1, I1, r1, q1⟩ => hc pins s1 σ H1 vs us Q I1 r1 q1) he hpl
end
end L2

namespace HT
open PySem PyProof.Rows

section
open PySem.SeqAt
open PySem.AutoSeq1 (wpAny_loadPart')
open PySem.MeetsSeq PySem.MeetsSeq2 PySem.MeetsSeq3

end

section
variable {prog : Program} {w : World} {A : Around} {E : Value → Shared → Prop} {s : Shared}

/-! ### t[a:b], not the whole -/
noncomputable def sIx (n d : Nat) : Option Int → Nat
  | none => d
  | some v => if v < 0 then (v + (n : Int)).toNat else min v.toNat n
theorem sIx_nat (n d k : Nat) : sIx n d (some (k : Int)) = min k n := by
  show (if (k : Int) < 0 then ((k : Int) + (n : Int)).toNat else min (k : Int).toNat n) = min k n
  rw [if_neg (by omega), Int.toNat_natCast]
end
end HT

namespace L2
open PySem PySem.Spec PyProof.Rows

/-! ### the parts of a slice -/
noncomputable abbrev TO := St → Hp → (Option Int → Hp → Prop) → Prop
noncomputable def PO (X : Cx) (e : Option Expr) (t : TO) : Prop :=
  ∀ (pins : List (Addr × Obj)) (s : Shared) (σ : St) (H : Hp) (Q : Option Int → Hp → Prop), Inv X pins σ H s → t σ H Q →
    wpAny (model X.prog X.w) X.A (evalPart e X.env) (fun u s' => ∃ o H', Inv X pins σ H' s' ∧ IsPart u o ∧ Q o H') X.xe s
noncomputable def tNoPart : TO := fun _ H Q => Q none H
inductive tPartI (Q : (Option Int → Hp → Prop)) (x : V) (H1 : Hp) : Prop
  | mk : ∀ i, (x = .int i) → (Q (some i) H1) → tPartI Q x H1
noncomputable def tPart (t : TE) : TO := fun σ H Q => t σ H fun x H1 => tPartI Q x H1

theorem intsAre_of {ns : List Int} : ∀ {us : List Value}, Vals (ns.map V.int) us → IntsAre us ns := by
  induction ns with
  | nil => intro us r; rw [List.map_nil] at r; cases r; exact .nil
  | cons n ns ih =>
    intro us r
    rw [List.map_cons] at r
    cases r with
    | cons r1 r2 =>
      obtain ⟨t, e⟩ := r1
      subst e
      exact .cons n t (ih r2)

section
variable {X : Cx} {e : Expr} {te : TE} {lo hi : Option Expr} {tl th : TO} {pos p2 : Pos}

theorem po_none : PO X none tNoPart := by
  intro pins s σ H Q I h
  rw [evalPart_none]
  exact wpAny_pure ⟨none, H, I, .none, h⟩
theorem po_some (h : PE X e te) : PO X (some e) (tPart te) := by
  intro pins s σ H Q I hw
  rw [evalPart_some]
  refine thn (h pins s σ H _ I hw) fun u s1 ⟨x, H1, I1, r1, q1⟩ => ?_
  obtain ⟨i, rfl, q⟩ := q1
  obtain ⟨t, rfl⟩ := r1
  exact ⟨some i, H1, I1, .int i t, q⟩

noncomputable def SlR (X : Cx) (r : V → Option Int → Option Int → Hp → VK → Prop) : Prop :=
  ∀ (pins : List (Addr × Obj)) (s : Shared) (σ : St) (H : Hp) (x : V) (v vl vu : Value) (lo hi : Option Int) (sl : Addr) (Q : VK), Inv X pins σ H s → RelV x v → s.heap.IsSliceOf sl vl vu .none → IsPart vl lo → IsPart vu hi → r x lo hi H Q →
    ∃ T id, typeLookup (.type T) "__getitem__" = pure (some (.builtin id)) ∧ s.TypeIs v T ∧ wpAny (model X.prog X.w) X.A (getItem v (.ref sl)) (EP X pins σ Q) X.xe s
noncomputable def tSl (r : V → Option Int → Option Int → Hp → VK → Prop) (te : TE) (tl th : TO) : TE := fun σ H Q => te σ H fun x H1 => tl σ H1 fun l H2 => th σ H2 fun u H3 => r x l u H3 Q
theorem pe_slice {r : V → Option Int → Option Int → Hp → VK → Prop} (hr : SlR X r) (he : PE X e te) (hl : PO X lo tl) (hu : PO X hi th) : PE X (.Subscript e (.Slice lo hi none p2) pos) (tSl r te tl th) := by
  intro pins s σ H Q I h
  refine Subscript_ (thn (he pins s σ H _ I h) fun v s1 ⟨x, H1, I1, r1, q1⟩ => ?_)
  refine wpAny_Slice (thn (hl pins s1 σ H1 _ I1 q1) fun vl s2 ⟨l, H2, I2, pl, q2⟩ => thn (hu pins s2 σ H2 _ I2 q2) fun vu s3 ⟨u, H3, I3, pu, q3⟩ => ?_)
  rw [evalPart_none]
  refine wpAny_pure ?_
  have I4 : Inv X pins σ H3 { s3 with heap := s3.heap.push { cls := .type "slice", data := .fields #[vl, vu, .none] } } := I3.kept (t' := s3.toks) fun b ob q => Heap.get?_push_of_some _ q
  obtain ⟨T, id, hT, ht, hg⟩ := hr pins { s3 with heap := s3.heap.push { cls := .type "slice", data := .fields #[vl, vu, .none] } } σ H3 x v vl vu l u s3.heap.objs.size Q I4 r1 (Heap.IsSliceOf.new ..) pl pu q3
  show wpAny (model X.prog X.w) X.A (subscriptTail e (.Slice lo hi none p2) v (.ref s3.heap.objs.size)) (EP X pins σ Q) X.xe { s3 with heap := s3.heap.push { cls := .type "slice", data := .fields #[vl, vu, .none] } }
  exact tail_any (ops := [.ref s3.heap.objs.size, v]) ht hT hg (by with_unfolding_all rfl)

noncomputable def cutV (xs : List V) (lo hi : Option Int) : List V := (xs.drop (HT.sIx xs.length 0 lo)).take (HT.sIx xs.length xs.length hi - HT.sIx xs.length 0 lo)
theorem cutV_length (xs : List V) (lo hi : Option Int) : (cutV xs lo hi).length ≤ xs.length := by
  unfold cutV
  rw [List.length_take, List.length_drop]
  exact Nat.le_trans (Nat.min_le_right _ _) (Nat.sub_le _ _)
/-! ### t < u, t + u -/
end
end L2

namespace L2
open PySem PySem.Spec PyProof.Rows

/-! ### places -/
noncomputable def ixN (n : Nat) (i : Int) : Option Nat := if 0 ≤ i then (if i < n then some i.toNat else none) else if -(n : Int) ≤ i then some (i + n).toNat else none
noncomputable def atI {α : Type} (xs : List α) (i : Int) : Option α := (ixN xs.length i).bind fun j => xs[j]?
theorem ixN_seq {n : Nat} {i : Int} {j : Nat} (h : ixN n i = some j) : seqIndex? i n = some j ∧ j < n ∧ -(n : Int) ≤ i ∧ i < n := by
  unfold ixN at h
  by_cases h0 : 0 ≤ i
  · rw [if_pos h0] at h
    by_cases h1 : i < n
    · rw [if_pos h1] at h
      have e : i.toNat = j := Option.some.inj h
      exact ⟨by rw [seqIndex_of h0 h1, e], by omega, by omega, h1⟩
    · rw [if_neg h1] at h; cases h
  · rw [if_neg h0] at h
    by_cases h1 : -(n : Int) ≤ i
    · rw [if_pos h1] at h
      have e : (i + n).toNat = j := Option.some.inj h
      exact ⟨by rw [seqIndex_neg (by omega) h1, e], by omega, h1, by omega⟩
    · rw [if_neg h1] at h; cases h
theorem atI_get {α : Type} {xs : List α} {i : Int} {v : α} (h : atI xs i = some v) : ∃ j, seqIndex? i xs.length = some j ∧ xs[j]? = some v ∧ j < xs.length ∧ -(xs.length : Int) ≤ i ∧ i < xs.length := by
  unfold atI at h
  cases e : ixN xs.length i with
  | none => rw [e] at h; cases h
  | some j =>
    rw [e] at h
    obtain ⟨h1, h2, h3, h4⟩ := ixN_seq e
    exact ⟨j, h1, h, h2, h3, h4⟩
theorem atI_nat {α : Type} {xs : List α} {j : Nat} {v : α} (h : xs[j]? = some v) : atI xs (j : Int) = some v := by
  have hj : j < xs.length := (List.getElem?_eq_some_iff.mp h).1
  have e : ixN xs.length (j : Int) = some j := by
    unfold ixN
    rw [if_pos (by omega), if_pos (by omega)]; simp
  unfold atI; rw [e]; exact h
/-! ### what may be subscripted -/
noncomputable def PlainIx (b : Expr) : Prop := ∀ o i, subscripted b false o i = operate [o, i] (getItem o i)
noncomputable def IxR (X : Cx) (r : R2) : Prop :=
  ∀ (value slice : Expr) (pins : List (Addr × Obj)) (s : Shared) (σ : St) (H : Hp) (x y : V) (v u : Value) (Q : VK), Inv X pins σ H s → RelV x v → RelV y u → r x y H Q →
    subscripted slice false v u = operate [v, u] (getItem v u) → wpAny (model X.prog X.w) X.A (subscriptTail value slice v u) (EP X pins σ Q) X.xe s
noncomputable def MtR (X : Cx) (id : String) (r : V → List V → Hp → VK → Prop) : Prop :=
  ∀ (pins : List (Addr × Obj)) (s : Shared) (σ : St) (H : Hp) (x : V) (xs : List V) (v : Value) (us : List Value) (Q : VK), Inv X pins σ H s → RelV x v → Vals xs us → r x xs H Q →
    wpAny (model X.prog X.w) X.A (call (.builtin id) (v :: us)) (EP X pins σ Q) X.xe s
section
variable {X : Cx} {a b : Expr} {ta tb : TE} {pos : Pos}
theorem pe_ix {r : R2} (hr : IxR X r) (ha : PE X a ta) (hb : PE X b tb) (hs : PlainIx b) : PE X (.Subscript a b pos) (tOp r ta tb) := by
  intro pins s σ H Q I h
  exact Subscript_ (binT ha hb I h fun v u s2 x y H2 I2 rx ry q => hr a b pins s2 σ H2 x y v u Q I2 rx ry q (hs _ _))

noncomputable def rIxL (K : PySem.W.Frag) : R2 := fun x y H Q => ∃ p xs i v, x = .ref p ∧ y = .int i ∧ SqL K H p xs ∧ atI xs i = some v ∧ Q v H
noncomputable def rIxT (K : PySem.W.Frag) : R2 := fun x y H Q => ∃ p xs i v, x = .ref p ∧ y = .int i ∧ SqT K H p xs ∧ atI xs i = some v ∧ Q v H
theorem ix_list : IxR X (rIxL X.K) := by
  intro value slice pins s σ H x y v u Q I rx ry h hs
  obtain ⟨p, xs, i, z, rfl, rfl, hq, he, q⟩ := h
  cases rx
  obtain ⟨t, rfl⟩ := ry
  obtain ⟨its, r, pl, hz⟩ := I.list hq
  obtain ⟨j, h1, h2, h3, h4, h5⟩ := atI_get he
  obtain ⟨w, ew, rw'⟩ := r.get h2
  have hl := r.length
  have hn := line63
  have fin : EP X pins σ Q w s := ⟨z, H, I, rw', q⟩
  by_cases h0 : 0 ≤ i
  · have hj : i.toNat = j := by
      rw [seqIndex_of h0 h5] at h1
      exact Option.some.inj h1
    exact item_listR pl.isList h0 (by omega) (by rw [hj]; simpa using ew) fin hs
  · have hj : (i + (its.toArray.size : Int)).toNat = j := by
      rw [seqIndex_neg (by omega) h4] at h1
      rw [List.size_toArray, ← hl]
      exact Option.some.inj h1
    exact subscriptTail_builtinR (x := w) pl.isList.typeIs slot_list_getitem.lookup
      (wpAny_getItem_list_neg (Q := fun r s' => r = w ∧ EP X pins σ Q r s') pl.isList (by omega) (by rw [List.size_toArray] <;> omega) (by omega) (by rw [hj]; simpa using ew) ⟨rfl, fin⟩) hs
theorem ix_tup : IxR X (rIxT X.K) := by
  intro value slice pins s σ H x y v u Q I rx ry h hs
  obtain ⟨p, xs, i, z, rfl, rfl, hq, he, q⟩ := h
  cases rx
  obtain ⟨t, rfl⟩ := ry
  obtain ⟨its, r, pl, hz⟩ := I.tuple hq
  obtain ⟨j, h1, h2, h3, h4, h5⟩ := atI_get he
  obtain ⟨w, ew, rw'⟩ := r.get h2
  have hl := r.length
  have hn := line63
  have fin : EP X pins σ Q w s := ⟨z, H, I, rw', q⟩
  exact subscriptTail_builtinR (x := w) pl.typeIs slot_tuple_getitem.lookup
    (getItem_tuple (j := j) (Q := fun r s' => r = w ∧ EP X pins σ Q r s') pl (by omega) (by omega) (by rw [List.size_toArray, ← hl]; exact h1) (by simpa using ew) ⟨rfl, fin⟩) hs
/-! ### xs[i] = v, any sign -/
theorem mapSeq_set (its : List Value) (n j : Nat) (u : Value) : Obj.mapSeq (·.setIfInBounds j u) { cls := .type "list", data := .seq its.toArray n } = { cls := .type "list", data := .seq (its.set j u).toArray n } := by
  simp [Obj.mapSeq]
theorem Inv.lst {pins : List (Addr × Obj)} {σ : St} {H : Hp} {s : Shared} {p : Addr} {xs : List V} (I : Inv X pins σ H s) (h : H p = some (.lst xs)) :
    ∃ (its : List Value) (n : Nat), Vals xs its ∧ s.heap.get? p = some { cls := .type "list", data := .seq its.toArray n } ∧ xs.length ≤ sizeLine := by
  obtain ⟨z, its, n, r, e⟩ := I.hok p _ h
  exact ⟨its, n, r, e, z⟩
theorem Inv.lstUpd {pins : List (Addr × Obj)} {σ : St} {H : Hp} {s : Shared} {p : Addr} {xs ys : List V} {its its' : List Value} {n n' : Nat} {f : Obj → Obj} (I : Inv X pins σ H s) (h : H p = some (.lst xs))
    (ho : s.heap.get? p = some { cls := .type "list", data := .seq its.toArray n }) (hf : f { cls := .type "list", data := .seq its.toArray n } = { cls := .type "list", data := .seq its'.toArray n' }) (r : Vals ys its') (hz : ys.length ≤ sizeLine) (t : Nat) :
    Inv X pins σ (upd H p (.lst ys)) { s with heap := s.heap.update p f, toks := t } := by
  have e : (s.heap.update p f).get? p = some { cls := .type "list", data := .seq its'.toArray n' } := by
    rw [Heap.get?_update_self f ho (by rw [hf] <;> rfl), hf]
  refine I.write (x := p) (e := p) (by rw [h]; trivial) (.inl rfl) (fun b u hb q => (Heap.get?_update_other _ _ (Ne.symm hb)).trans q) ⟨_, e⟩ ?_
  exact ⟨hz, its', n', r, e⟩
inductive rSetLI (o : V) (i : V) (v : V) (H : Hp) (Q : (Hp → Prop)) : Prop
  | mk : ∀ p xs k j, (o = .ref p) → (i = .int k) → (H p = some (.lst xs)) → (ixN xs.length k = some j) → (Q (upd H p (.lst (xs.set j v)))) → rSetLI o i v H Q
noncomputable def rSetL : V → V → V → Hp → (Hp → Prop) → Prop := fun o i v H Q => rSetLI o i v H Q
theorem set_list : PSet X rSetL := by
  intro pins s σ H o i v ov iv u Q I ro ri rv h
  obtain ⟨p, xs, k, j, rfl, rfl, hp, hj, q⟩ := h
  cases ro
  obtain ⟨t, rfl⟩ := ri
  obtain ⟨its, n, r, ho, hz⟩ := I.lst hp
  obtain ⟨h1, h2, h3, h4⟩ := ixN_seq hj
  have hl := r.length
  have hn := line63
  have I' : Inv X pins σ (upd H p (.lst (xs.set j v))) { s with heap := s.heap.update p (Obj.mapSeq (·.setIfInBounds j u)) } :=
    I.lstUpd hp ho (mapSeq_set its n j u) (r.set rv j) (by rw [List.length_set]; exact hz) s.toks
  by_cases h0 : 0 ≤ k
  · have hk : k.toNat = j := by
      rw [seqIndex_of h0 h4] at h1
      exact Option.some.inj h1
    exact PySem.W.ki_setAt ho h0 (by omega) (by rw [List.size_toArray, ← hl]; exact h4) (by rw [hk]; exact ⟨_, I', q⟩)
  · have hk : (k + (its.toArray.size : Int)).toNat = j := by
      rw [seqIndex_neg (by omega) h3] at h1
      rw [List.size_toArray, ← hl]
      exact Option.some.inj h1
    exact PySem.W.ki_setBack ho (by omega) (by rw [List.size_toArray, ← hl]; exact h3) (by omega) (by rw [hk]; exact ⟨_, I', q⟩)

/-! ### slices -/
theorem slice_bounds (lo hi : Option Int) (n : Nat) : (sliceBounds lo hi none n).1 = ((HT.sIx n 0 lo : Nat) : Int) ∧ (sliceBounds lo hi none n).2.1 = ((HT.sIx n n hi : Nat) : Int) ∧ (sliceBounds lo hi none n).2.2 = 1 := by
  have one : ∀ i : Int, (sliceBounds (some i) none none n).1 = ((HT.sIx n 0 (some i) : Nat) : Int) := fun i => by
    simp only [sliceBounds, HT.sIx, Option.getD_none, show (1 : Int) > 0 by decide, if_true]
    by_cases h : i < 0
    · simp only [h, if_true] <;> omega
    · simp only [h, if_false] <;> omega
  refine ⟨?_, ?_, rfl⟩
  · cases lo with
    | none => simp [sliceBounds, HT.sIx]
    | some i => exact one i
  · cases hi with
    | none => simp [sliceBounds, HT.sIx]
    | some i => exact one i
theorem slicePick_cut (its : List Value) (lo hi : Option Int) : slicePick its.toArray lo hi none = ((its.drop (HT.sIx its.length 0 lo)).take (HT.sIx its.length its.length hi - HT.sIx its.length 0 lo)).toArray := by
  obtain ⟨h1, h2, h3⟩ := slice_bounds lo hi its.toArray.size
  unfold slicePick
  rw [h1, h2, h3]
  simp only [sliceRange_one, pick_run, List.size_toArray] <;> rfl
inductive rSlLI (K : PySem.W.Frag) (x : V) (lo : Option Int) (hi : Option Int) (H : Hp) (Q : VK) : Prop
  | mk : ∀ a xs, (x = .ref a) → (SqL K H a xs) → (∀ p, H p = none → Q (.ref p) (upd H p (.lst (cutV xs lo hi)))) → rSlLI K x lo hi H Q
noncomputable def rSlL (K : PySem.W.Frag) : V → Option Int → Option Int → Hp → VK → Prop := fun x lo hi H Q => rSlLI K x lo hi H Q
theorem sl_list : SlR X (rSlL X.K) := by
  intro pins s σ H x v vl vu lo hi sl Q I rx hs pl pu h
  obtain ⟨a, xs, rfl, hx, q⟩ := h
  cases rx
  obtain ⟨its, r, ht, hz⟩ := I.list hx
  have hlen := r.length
  refine ⟨"list", _, slot_list_getitem.lookup, ht.isList.typeIs, ?_⟩
  refine wpAny_getItem_list_slice ht.isList hs pl pu .none (by simp) ?_ (by rw [List.size_toArray] <;> omega)
  rw [slicePick_cut, ← hlen]
  refine ⟨.ref s.heap.objs.size, _, I.laid (t' := s.toks) (o := .lst (cutV xs lo hi)) (fun b ob q => Heap.get?_push_of_some _ q) (Nat.le_refl _) ?_, rfl, q _ (I.hok.fresh (Nat.le_refl _))⟩
  exact ⟨Nat.le_trans (cutV_length xs lo hi) hz, _, 0, (r.drop (HT.sIx xs.length 0 lo)).take (HT.sIx xs.length xs.length hi - HT.sIx xs.length 0 lo), Heap.get?_push_size _ rfl⟩

/-! ### in, not in: flat items -/
/-! ### len, list(x), tuple(x) of any list or tuple that is read -/
theorem call_len_seq : CallR X (.builtin "len") (fun xs H Q => ∃ p ys, xs = [.ref p] ∧ (SqL X.K H p ys ∨ SqT X.K H p ys) ∧ Q (.int ys.length) H) := by
  intro pins s σ H xs us Q I r h
  obtain ⟨p, ys, rfl, hq, q⟩ := h
  obtain ⟨u, rfl, rx⟩ := vals1 r
  cases rx
  have hn := line63
  rcases hq with hq | hq
  · obtain ⟨its, r', pl, hz⟩ := I.list hq
    have hlen := r'.length
    exact Calls.call_len_list pl.isList (by simp only [List.size_toArray] <;> omega) ⟨.int ys.length, H, I.tok _, ⟨s.toks + 1, by rw [List.size_toArray, hlen]⟩, q⟩
  · obtain ⟨its, r', pl, hz⟩ := I.tuple hq
    have hlen := r'.length
    exact len_tuple pl (by simp only [List.size_toArray] <;> omega) ⟨.int ys.length, H, I.tok _, ⟨s.toks + 1, by rw [List.size_toArray, hlen]⟩, q⟩
theorem call_list_of : CallR X (.type "list") (fun xs H Q => ∃ p ys, xs = [.ref p] ∧ (SqL X.K H p ys ∨ SqT X.K H p ys) ∧ ∀ l, H l = none → Q (.ref l) (upd H l (.lst ys))) := by
  intro pins s σ H xs us Q I r h
  obtain ⟨p, ys, rfl, hq, q⟩ := h
  obtain ⟨u, rfl, rx⟩ := vals1 r
  cases rx
  have fin : ∀ (its : List Value), Vals ys its → ys.length ≤ sizeLine → ∀ (h' : Heap) (c' : Nat), (∀ b o', s.heap.get? b = some o' → h'.get? b = some o') →
      h'.get? s.heap.objs.size = some { cls := .type "list", dict := none, data := .seq its.toArray c', slots := #[] } → EP X pins σ Q (.ref s.heap.objs.size) { s with heap := h' } := fun its r' hz h' c' kp e =>
    ⟨.ref s.heap.objs.size, _, I.laid (t' := s.toks) kp (Nat.le_refl _) (show ObjOk X.prog X.w _ h' _ (.lst ys) from ⟨hz, its, c', r', e⟩), rfl, q _ (I.hok.fresh (Nat.le_refl _))⟩
  rcases hq with hq | hq
  · obtain ⟨its, r', pl, hz⟩ := I.list hq
    have hlen := r'.length
    obtain ⟨o, ho, hc, n, hd⟩ := pl.isList
    exact call_list_seq p (.inl rfl) ho hc hd (fun h' c' kp e => fin its r' hz h' c' kp e) (by simp only [List.size_toArray] <;> omega)
  · obtain ⟨its, r', pl, hz⟩ := I.tuple hq
    have hlen := r'.length
    obtain ⟨o, ho, hc, n, hd⟩ := pl
    exact call_list_seq p (.inr rfl) ho hc hd (fun h' c' kp e => fin its r' hz h' c' kp e) (by simp only [List.size_toArray] <;> omega)
theorem call_tuple_of : CallR X (.type "tuple") (fun xs H Q => ∃ p ys, xs = [.ref p] ∧ ((SqL X.K H p ys ∧ ∀ l, H l = none → Q (.ref l) (upd H l (.tup ys))) ∨ (SqT X.K H p ys ∧ Q (.ref p) H))) := by
  intro pins s σ H xs us Q I r h
  obtain ⟨p, ys, rfl, h⟩ := h
  obtain ⟨u, rfl, rx⟩ := vals1 r
  cases rx
  rcases h with ⟨hq, q⟩ | ⟨hq, q⟩
  · obtain ⟨its, r', pl, hz⟩ := I.list hq
    have hlen := r'.length
    refine call_tuple_list pl.isList (fun h' kp => ?_) (by simp only [List.size_toArray] <;> omega)
    have I1 : Inv X pins σ H { s with heap := h' } := I.kept (t' := s.toks) kp
    have I2 : Inv X pins σ (upd H h'.objs.size (.tup ys)) { s with heap := h'.push { cls := .type "tuple", data := .seq its.toArray } } :=
      I1.laid (t' := s.toks) (fun b o e => Heap.get?_push_of_some _ e) (Nat.le_refl _) (show ObjOk X.prog X.w _ _ _ (.tup ys) from ⟨hz, its, r', IsTup.new _ _⟩)
    exact ⟨.ref h'.objs.size, _, I2, rfl, q _ (I1.hok.fresh (Nat.le_refl _))⟩
  · obtain ⟨its, r', pl, hz⟩ := I.tuple hq
    exact call_tuple_same pl ⟨.ref p, H, I, rfl, q⟩

/-! ### the call of a builtin's method: o.m(..) -/
noncomputable def tyV (K : PySem.W.Frag) (T : String) (x : V) (H : Hp) : Prop := match x with
  | .str _ => T = "str"
  | .int _ => T = "int"
  | .ref p => (T = "list" ∧ ∃ xs, SqL K H p xs) ∨ (T = "tuple" ∧ ∃ o, K.lookup p = some o ∧ o.cls = .type "tuple" ∧ o.dict = none) ∨
      (T = "dict" ∧ ((∃ kvs, H p = some (.dK kvs)) ∨ ∃ kvs, H p = some (.dT kvs))) ∨ (T = "set" ∧ ∃ S n, H p = some (.set S n))
  | _ => False
theorem tyV_is {pins : List (Addr × Obj)} {σ : St} {H : Hp} {s : Shared} {T : String} {x : V} {v : Value} (I : Inv X pins σ H s) (r : RelV x v) (ty : tyV X.K T x H) :
    s.TypeIs v T ∧ ∀ a, v = .ref a → ∃ ob, s.heap.get? a = some ob ∧ ob.dict = none := by
  cases x with
  | str z =>
    obtain ⟨t, rfl⟩ := r
    cases (show T = "str" from ty)
    exact ⟨typeIs_str s z t, fun _ e => nomatch e⟩
  | int i =>
    obtain ⟨t, rfl⟩ := r
    cases (show T = "int" from ty)
    exact ⟨typeIs_int s i t, fun _ e => nomatch e⟩
  | ref p =>
    cases r
    rcases ty with ⟨rfl, xs, hq⟩ | ⟨rfl, o, hk, hc, hd⟩ | ⟨rfl, hk⟩ | ⟨rfl, S, n, hk⟩
    · obtain ⟨its, _, pl, _⟩ := I.list hq
      refine ⟨pl.isList.typeIs, fun a e => ?_⟩
      cases e
      obtain ⟨o, n, e, c, hd, _⟩ := pl
      exact ⟨o, e, hd⟩
    · refine ⟨⟨o, I.kIn p o hk, hc⟩, fun a e => ?_⟩
      cases e
      exact ⟨o, I.kIn _ o hk, hd⟩
    · have z : ∃ o, s.heap.get? p = some o ∧ o.ExactDict := by
        rcases hk with ⟨kvs, hk⟩ | ⟨kvs, hk⟩
        · obtain ⟨_, _, _, _, o, _, _, e, ex, _⟩ := I.hok p _ hk
          exact ⟨o, e, ex⟩
        · obtain ⟨_, _, _, _, o, _, _, e, ex, _⟩ := I.hok p _ hk
          exact ⟨o, e, ex⟩
      obtain ⟨o, e, ex⟩ := z
      refine ⟨⟨o, e, ex.1⟩, fun a e2 => ?_⟩
      cases e2
      exact ⟨o, e, ex.2.1⟩
    · obtain ⟨o, _, _, _, e, ex, _⟩ := I.hok p _ hk
      refine ⟨⟨o, e, ex.1⟩, fun a e2 => ?_⟩
      cases e2
      exact ⟨o, e, ex.2.1⟩
  | _ => exact False.elim ty
noncomputable def tBM (K : PySem.W.Frag) (T : String) (r : V → List V → Hp → VK → Prop) (to : TE) (t : TA) : TE := fun σ H Q => to σ H fun x H1 => tyV K T x H1 ∧ t σ H1 fun xs H2 => r x xs H2 Q
variable {o e : Expr} {es : List Expr} {to : TE} {t : TA} {name : Str} {apos cpos : Pos} {T id : String} {r : V → List V → Hp → VK → Prop}
theorem pe_bm (pa : PlainAttrs T) (slot : Slot T name id) (hty : typeOf (.builtin id) = pure (.type "method_descriptor")) (hm : MtR X id r) (ho : PE X o to) (ha : PA X (e :: es) t)
    (hbase : attributeBase o name X.env (eval o X.env) = eval o X.env := by rfl)
    (hfew : ((backTo cpos (starEach (e :: es) X.env)).all (fun x => !x.1) && (backToKw cpos (keywordEach [] X.env)).all (fun x => x.1.isSome)
      && decide ((e :: es).length + ([] : List Keyword).length + (if ([] : List Keyword).isEmpty then 0 else 1) < 30)) = true := by rfl)
    (hline : (apos.endLine == cpos.line) = true := by rfl) (hs : starEach (e :: es) X.env = (false, eval e X.env) :: starEach es X.env := by rfl) (hplain : (backTo cpos (starEach es X.env)).any (·.1) = false := by rfl) :
    PE X (.Call (.Attribute o name apos) (e :: es) [] cpos) (tBM X.K T r to t) := by
  intro pins s σ H Q I h
  refine wpAny_Call_method_late hbase hfew hline rfl (thn (ho pins s σ H _ I h) fun v s1 ⟨x, H1, I1, r1, ty, q1⟩ => ?_)
  obtain ⟨h1, h2⟩ := tyV_is I1 r1 ty
  refine ⟨T, id, pa, slot, hty, h1, h2, ?_⟩
  have hA := ha cpos pins s1 σ H1 _ I1 q1
  rw [hs] at hA ⊢
  refine Calls.callWith_builtin (by show (false || (backTo cpos (starEach es X.env)).any (·.1)) = false; rw [hplain] <;> rfl) (Calls.evalArgs_plain ?_)
  exact thn hA fun us s2 ⟨vs, H2, I2, r2, q2⟩ => hm pins s2 σ H2 x vs v us Q I2 r1 r2 q2
/- xs.append(e), list.index on a module's tuple .. are MtR facts of 06m -/
end
end L2

namespace L2
open PySem PySem.Spec PyProof.Rows

noncomputable def MtM (X : Cx) (id : String) (r : V → List V → Hp → VK → Prop) : Prop :=
  ∀ (pins : List (Addr × Obj)) (s : Shared) (σ : St) (H : Hp) (x : V) (xs : List V) (v : Value) (us : List Value) (Q : VK), Inv X pins σ H s → RelV x v → Vals xs us → r x xs H Q →
    wpAny (model X.prog X.w) X.A (call (.builtin id) (v :: us)) (EP X pins σ Q) X.xe s

/-! ### lists of values -/
theorem Vals.one : ∀ {x : V} {us : List Value}, Vals [x] us → ∃ u, us = [u] ∧ RelV x u
  | _, _, .cons r .nil => ⟨_, rfl, r⟩
theorem Vals.two : ∀ {x y : V} {us : List Value}, Vals [x, y] us → ∃ u v, us = [u, v] ∧ RelV x u ∧ RelV y v
  | _, _, _, .cons r (.cons q .nil) => ⟨_, _, rfl, r, q⟩
theorem Vals.eraseIdx : ∀ {xs : List V} {us : List Value} (i : Nat), Vals xs us → Vals (xs.eraseIdx i) (us.eraseIdx i)
  | _, _, _, .nil => .nil
  | _, _, 0, .cons _ t => t
  | _, _, i + 1, .cons r t => .cons r (Vals.eraseIdx i t)
theorem Vals.rep {xs : List V} {us : List Value} (h : Vals xs us) : ∀ k : Nat, Vals (List.replicate k xs).flatten (List.replicate k us).flatten
  | 0 => .nil
  | k + 1 => by
    rw [List.replicate_succ, List.replicate_succ, List.flatten_cons, List.flatten_cons]
    exact Vals.append h (Vals.rep h k)
theorem len_erase {α : Type} : ∀ (l : List α) (i : Nat), (l.eraseIdx i).length ≤ l.length
  | [], _ => Nat.le_refl _
  | _ :: _, 0 => Nat.le_succ _
  | _ :: r, i + 1 => Nat.succ_le_succ (len_erase r i)
theorem foldl_rep (its : List Value) : ∀ (k : Nat) (acc : List Value),
    List.foldl (fun x1 x2 => x1 ++ x2) acc.toArray (List.replicate k its.toArray) = (acc ++ (List.replicate k its).flatten).toArray
  | 0, acc => by simp
  | k + 1, acc => by
    have e : acc.toArray ++ its.toArray = (acc ++ its).toArray := by simp
    have e2 : (acc ++ its) ++ (List.replicate k its).flatten = acc ++ (List.replicate (k + 1) its).flatten := by
      rw [List.replicate_succ, List.flatten_cons, List.append_assoc]
    rw [← e2, ← foldl_rep its k (acc ++ its), ← e, List.replicate_succ, List.foldl_cons]

section
variable {X : Cx} {pins : List (Addr × Obj)} {σ : St} {H : Hp} {s : Shared} {l b : Addr} {xs ys zs : List V}

/-! ### the two steps: a tracked list is rewritten, a new list is laid -/
theorem Inv.lset {its its' : List Value} {n : Nat} {f : Array Value → Array Value} {t' : Nat} (I : Inv X pins σ H s) (hH : H l = some (.lst xs))
    (e : s.heap.get? l = some { cls := .type "list", data := .seq its.toArray n }) (hf : f its.toArray = its'.toArray) (hv : Vals ys its') (hz : ys.length ≤ sizeLine) :
    Inv X pins σ (upd H l (.lst ys)) { s with heap := s.heap.update l (Obj.mapSeq f), toks := t' } := by
  have q := PySem.IsL.update e f
  rw [hf] at q
  refine I.write (x := l) (e := l) (by rw [hH]; exact trivial) (.inl rfl) (fun b' u hb hu => (Heap.get?_update_other s.heap (Obj.mapSeq f) (Ne.symm hb)).trans hu) ⟨_, q⟩ ?_
  exact ⟨hz, its', _, hv, q⟩
theorem Inv.lnew {its : List Value} {t' : Nat} (I : Inv X pins σ H s) (hv : Vals ys its) (hz : ys.length ≤ sizeLine) :
    Inv X pins σ (upd H s.heap.objs.size (.lst ys)) { s with heap := s.heap.push { cls := .type "list", data := .seq its.toArray }, toks := t' } :=
  I.laid (fun _ _ q => Heap.get?_push_of_some _ q) (Nat.le_refl _) ⟨hz, its, 0, hv, Heap.get?_push_size _ rfl⟩
theorem Inv.fresh (I : Inv X pins σ H s) : H s.heap.objs.size = none := I.hok.fresh (Nat.le_refl _)
theorem Inv.lstM (I : Inv X pins σ H s) (hH : H l = some (.lst xs)) : xs.length ≤ sizeLine ∧ ∃ (its : List Value) (n : Nat), Vals xs its ∧ xs.length = its.length ∧ s.heap.get? l = some { cls := .type "list", data := .seq its.toArray n } := by
  obtain ⟨z, its, n, r, e⟩ := I.hok l _ hH
  exact ⟨z, its, n, r, r.length, e⟩

theorem notLongL {n : Nat} (h : n ≤ sizeLine) : Builtin.List.listTooLong n = false := by
  unfold Builtin.List.listTooLong
  exact decide_eq_false (by omega)
end

section
variable {X : Cx}

/-! ### methods -/
noncomputable def rAppend : V → List V → Hp → VK → Prop := fun x vs H Q => ∃ l xs y, x = .ref l ∧ vs = [y] ∧ H l = some (.lst xs) ∧ xs.length < sizeLine ∧ Q .non (upd H l (.lst (xs ++ [y])))
theorem mt_append : MtM X "list.append" rAppend := by
  intro pins s σ H x vs v us Q I rx rv h
  obtain ⟨l, xs, y, rfl, rfl, hH, hz, q⟩ := h
  cases rx
  obtain ⟨u, rfl, ru⟩ := rv.one
  obtain ⟨z, its, n, r, hl, e⟩ := I.lstM hH
  refine call_meets F.slot_list_append ⟨_, e, rfl⟩ F.entry_list_append (F.args_list_append_2 _ _) (PySem.list_append l its.toArray n u (by rw [List.size_toArray]; omega)) ⟨e, ?_⟩
  refine ⟨.non, _, I.lset (its' := its ++ [u]) hH e (by simp) (r.append (.cons ru .nil)) ?_, rfl, q⟩
  rw [List.length_append, List.length_singleton]
  omega

inductive rPopAtI (x : V) (vs : List V) (H : Hp) (Q : VK) : Prop
  | mk : ∀ l xs i k y, (x = .ref l) → (vs = [.int i]) → (H l = some (.lst xs)) → (-(2 ^ 63) ≤ i) → (i < 2 ^ 63) → (seqIndex? i xs.length = some k) → (xs[k]? = some y) → (Q y (upd H l (.lst (xs.eraseIdx k)))) → rPopAtI x vs H Q
noncomputable def rPopAt : V → List V → Hp → VK → Prop := fun x vs H Q => rPopAtI x vs H Q
theorem mt_popAt : MtM X "list.pop" rPopAt := by
  intro pins s σ H x vs v us Q I rx rv h
  obtain ⟨l, xs, i, k, y, rfl, rfl, hH, h1, h2, hk, hy, q⟩ := h
  cases rx
  obtain ⟨u, rfl, ru⟩ := rv.one
  obtain ⟨t, rfl⟩ := ru
  obtain ⟨z, its, n, r, hl, e⟩ := I.lstM hH
  obtain ⟨w, hw, rw'⟩ := r.get hy
  refine call_meets F.slot_list_pop ⟨_, e, rfl⟩ F.entry_list_pop (F.args_list_pop_2 _ _)
    (MeetsSeq.list_pop_at l its.toArray n i t k w (fitsIndex_both h1 h2) (by rw [List.size_toArray, ← hl]; exact hk) (by rw [← Array.getElem?_toList]; exact hw) (by rw [List.size_toArray]; omega)) ⟨e, ?_⟩
  refine ⟨y, _, I.lset (its' := its.eraseIdx k) hH e ?_ (r.eraseIdx k) ?_, rw', q⟩
  · show its.toArray.eraseIdxIfInBounds k = (its.eraseIdx k).toArray
    rw [List.eraseIdxIfInBounds_toArray]
  · have := len_erase xs k
    omega

/-! ### list + list, list += list, list * int -/
noncomputable def rCat : R2 := fun x y H Q => ∃ l b xs zs, x = .ref l ∧ y = .ref b ∧ H l = some (.lst xs) ∧ H b = some (.lst zs) ∧ xs.length + zs.length ≤ sizeLine ∧ ∀ p, H p = none → Q (.ref p) (upd H p (.lst (xs ++ zs)))
theorem op_cat : OpR X (binaryOp .Add) rCat := by
  intro pins s σ H x y v u Q I rx ry h
  obtain ⟨l, b, xs, zs, rfl, rfl, hH, hB, hz, q⟩ := h
  cases rx
  cases ry
  obtain ⟨z, its, n, r, hl, e⟩ := I.lstM hH
  obtain ⟨z2, its2, n2, r2, hl2, e2⟩ := I.lstM hB
  refine PySem.P.add_list e e2 ?_ (by rw [List.size_toArray, List.size_toArray]; omega)
  have ea : its.toArray ++ its2.toArray = (its ++ its2).toArray := by simp
  rw [ea]
  exact ⟨.ref _, _, I.lnew (t' := s.toks) (r.append r2) (by rw [List.length_append]; omega), rfl, q _ I.fresh⟩
noncomputable def rRep : R2 := fun x y H Q => ∃ l k xs, x = .ref l ∧ y = .int k ∧ H l = some (.lst xs) ∧ -(2 ^ 63) ≤ k ∧ k < 2 ^ 63 ∧ xs.length * k.toNat ≤ sizeLine ∧
  ∀ p, H p = none → Q (.ref p) (upd H p (.lst (List.replicate k.toNat xs).flatten))
theorem len_rep {α : Type} (xs : List α) (k : Nat) : (List.replicate k xs).flatten.length = k * xs.length := by
  induction k with
  | zero => simp
  | succ k ih => rw [List.replicate_succ, List.flatten_cons, List.length_append, ih, Nat.succ_mul, Nat.add_comm]
theorem op_rep : OpR X (binaryOp .Mult) rRep := by
  intro pins s σ H x y v u Q I rx ry h
  obtain ⟨l, k, xs, rfl, rfl, hH, h1, h2, hz, q⟩ := h
  cases rx
  obtain ⟨t, rfl⟩ := ry
  obtain ⟨z, its, n, r, hl, e⟩ := I.lstM hH
  have hlen : its.toArray.size * k.toNat ≤ sizeLine := by rw [List.size_toArray, ← hl]; exact hz
  have hcap : ¬ its.toArray.size * k.toNat > (2 ^ 63 - 1) / 8 := by
    have : (sizeLine : Nat) ≤ (2 ^ 63 - 1) / 8 := by decide
    omega
  have hfit : ¬ (!Builtin.List.listFitsIndex k) = true := by
    rw [fitsIndex_both h1 h2]
    exact Bool.false_ne_true
  have hlong : ¬ Builtin.List.listTooLong (its.toArray.size * k.toNat) = true := by
    rw [notLongL hlen]
    exact Bool.false_ne_true
  have hnew : List.foldl (fun x1 x2 => x1 ++ x2) #[] (List.replicate (if its.toArray.isEmpty = true then 0 else k.toNat) its.toArray) = (List.replicate k.toNat its).flatten.toArray := by
    have f0 : ∀ m : Nat, List.foldl (fun x1 x2 => x1 ++ x2) #[] (List.replicate m its.toArray) = (List.replicate m its).flatten.toArray := fun m => by
      have := foldl_rep its m []
      rw [List.nil_append] at this
      exact this
    rw [f0]
    cases its with
    | nil => simp
    | cons a r' => rw [if_neg (by simp)]
  refine wpAny_binaryOp_repeat_ref (T := "list") (U := "int") (by decide) ⟨_, e, rfl⟩ (fun s' => typeIs_int s' k t) noFill_list_mul F.fills_int_mul F.slot_int_rmul repeat_list F.slot_int_index.lookup
    (call_meets F.slot_int_rmul (typeIs_int s k t) F.entry_int_rmul (F.args_int_rmul_2 _ _) (int___rmul___int_list k t l its.toArray n)
      ⟨e, rfl, ⟨_, e, rfl⟩, call_meets F.slot_list_mul ⟨_, e, rfl⟩ F.entry_list_mul (F.args_list_mul_2 _ _) (AutoListH.list___mul___list_int_3 l its.toArray n k t hfit hcap hlong) ⟨e, ?_⟩⟩)
  rw [hnew]
  exact ⟨.ref _, _, I.lnew (t' := s.toks) (r.rep k.toNat) (by rw [len_rep, Nat.mul_comm]; exact hz), rfl, q _ I.fresh⟩

/-! ### del xs[i] -/
end

/-! ### xs[a:b] = ys -/
section
variable {prog : Program} {w : World} {A : Around} {E : Value → Shared → Prop} {s : Shared}
end

section
variable {X : Cx}
end
end L2
namespace L2
open PySem PySem.Spec PyProof.Rows

/-! ### lists of pairs as tables -/
section
variable {κ : Type} [DecidableEq κ]
noncomputable def valV (kvs : List (κ × V)) (k : κ) : Option V := (kvs.find? fun kv => decide (kv.1 = k)).map (·.2)
noncomputable def putK (kvs : List (κ × V)) (k : κ) (v : V) : List (κ × V) :=
  if (kvs.any fun kv => decide (kv.1 = k)) = true then kvs.map (fun kv => if kv.1 = k then (kv.1, v) else kv) else kvs ++ [(k, v)]
theorem valV_pos {p : κ × V} {r : List (κ × V)} {k : κ} (e : p.1 = k) : valV (p :: r) k = some p.2 := by simp [valV, List.find?_cons, e]
theorem valV_neg {p : κ × V} {r : List (κ × V)} {k : κ} (e : ¬ p.1 = k) : valV (p :: r) k = valV r k := by simp [valV, List.find?_cons, e]
theorem valV_any (k : κ) : ∀ kvs : List (κ × V), (kvs.any fun kv => decide (kv.1 = k)) = (valV kvs k).isSome
  | [] => rfl
  | p :: r => by
    rw [List.any_cons]
    by_cases e : p.1 = k
    · simp only [valV_pos e, decide_eq_true e, Bool.true_or, Option.isSome_some]
    · rw [valV_neg e, decide_eq_false e, Bool.false_or]; exact valV_any k r
theorem valV_map (k j : κ) (y : V) : ∀ kvs : List (κ × V), valV (kvs.map fun kv => if kv.1 = k then (kv.1, y) else kv) j = (valV kvs j).map fun x => if j = k then y else x
  | [] => rfl
  | p :: r => by
    have ih := valV_map k j y r
    rw [List.map_cons]
    by_cases h : p.1 = k
    · rw [if_pos h]
      by_cases e : p.1 = j
      · rw [valV_pos (p := (p.1, y)) e, valV_pos e, Option.map_some, if_pos (e.symm.trans h)]
      · rw [valV_neg (p := (p.1, y)) e, valV_neg e, ih]
    · rw [if_neg h]
      by_cases e : p.1 = j
      · rw [valV_pos (p := p) e, valV_pos e, Option.map_some, if_neg (fun z => h (e.trans z))]
      · rw [valV_neg (p := p) e, valV_neg e, ih]
theorem valV_snoc (k j : κ) (y : V) : ∀ kvs : List (κ × V), valV kvs k = none → valV (kvs ++ [(k, y)]) j = if j = k then some y else valV kvs j
  | [], _ => by
    by_cases e : k = j
    · rw [if_pos e.symm]; exact valV_pos (p := (k, y)) e
    · rw [if_neg (fun z => e z.symm)]; exact valV_neg (p := (k, y)) e
  | p :: r, hn => by
    rw [List.cons_append]
    have hk : ¬ p.1 = k := fun z => by rw [valV_pos z] at hn; cases hn
    rw [valV_neg hk] at hn
    have ih := valV_snoc k j y r hn
    by_cases e : p.1 = j
    · rw [valV_pos e, valV_pos e, if_neg (fun z => hk (e.trans z))]
    · rw [valV_neg e, valV_neg e, ih]
theorem valV_put (kvs : List (κ × V)) (k j : κ) (y : V) : valV (putK kvs k y) j = if j = k then some y else valV kvs j := by
  unfold putK
  by_cases a : (kvs.any fun kv => decide (kv.1 = k)) = true
  · rw [if_pos a, valV_map]
    rw [valV_any] at a
    by_cases e : j = k
    · obtain ⟨x, hx⟩ := Option.isSome_iff_exists.mp a
      rw [if_pos e, e, hx, Option.map_some, if_pos rfl]
    · rw [if_neg e]
      cases valV kvs j with
      | none => rfl
      | some x => rw [Option.map_some, if_neg e]
  · rw [if_neg a]
    refine valV_snoc k j y kvs ?_
    rw [valV_any] at a
    cases q : valV kvs k with
    | none => rfl
    | some x => rw [q] at a; exact (a rfl).elim
theorem length_putK (kvs : List (κ × V)) (k : κ) (v : V) : (putK kvs k v).length ≤ kvs.length + 1 := by
  unfold putK
  split
  · rw [List.length_map]; omega
  · rw [List.length_append, List.length_cons, List.length_nil]; omega
theorem putK_new {kvs : List (κ × V)} {k : κ} (v : V) (h : valV kvs k = none) : putK kvs k v = kvs ++ [(k, v)] := by
  unfold putK
  rw [valV_any, h]
  exact if_neg (by decide)

theorem RelO.isSome_eq {o : Option V} {u : Option Value} (r : RelO o u) : o.isSome = u.isSome := by
  cases o with
  | none => cases u with
    | none => rfl
    | some _ => exact (show False from r).elim
  | some _ => cases u with
    | none => exact (show False from r).elim
    | some _ => rfl
theorem KV.val {kvs : List (κ × V)} {vs : List (κ × Value)} (r : KV kvs vs) (k : κ) : RelO (valV kvs k) (valueAt vs k) := by
  unfold KV at r
  induction r with
  | nil => exact True.intro
  | @cons p q ps qs h t ih =>
    obtain ⟨h1, h2⟩ := h
    by_cases e : p.1 = k
    · have e' : q.1 = k := h1.symm.trans e
      have b : valueAt (q :: qs) k = some q.2 := by simp [valueAt, List.find?_cons, e']
      rw [valV_pos e, b]; exact h2
    · have e' : ¬ q.1 = k := fun z => e (h1.trans z)
      have b : valueAt (q :: qs) k = valueAt qs k := by simp [valueAt, List.find?_cons, e']
      rw [valV_neg e, b]; exact ih
theorem KV.any {kvs : List (κ × V)} {vs : List (κ × Value)} (r : KV kvs vs) (k : κ) : (kvs.any fun kv => decide (kv.1 = k)) = vs.any fun kv => decide (kv.1 = k) := by
  unfold KV at r
  induction r with
  | nil => rfl
  | cons h t ih => rw [List.any_cons, List.any_cons, ih, h.1]
theorem KV.repl {kvs : List (κ × V)} {vs : List (κ × Value)} (r : KV kvs vs) (k : κ) {y : V} {u : Value} (ry : RelV y u) :
    KV (kvs.map fun kv => if kv.1 = k then (kv.1, y) else kv) (vs.map fun kv => if kv.1 = k then (kv.1, u) else kv) := by
  unfold KV at r ⊢
  induction r with
  | nil => exact .nil
  | @cons p q ps qs h t ih =>
    rw [List.map_cons, List.map_cons]
    refine .cons ?_ ih
    obtain ⟨h1, h2⟩ := h
    by_cases e : p.1 = k
    · rw [if_pos e, if_pos (h1.symm.trans e)]; exact ⟨h1, ry⟩
    · rw [if_neg e, if_neg (fun z => e (h1.trans z))]; exact ⟨h1, h2⟩
theorem KV.put {kvs : List (κ × V)} {vs : List (κ × Value)} (r : KV kvs vs) (k : κ) {y : V} {u : Value} (ry : RelV y u) : KV (putK kvs k y) (stored vs k u) := by
  unfold putK stored
  rw [r.any k]
  by_cases e : (vs.any fun kv => decide (kv.1 = k)) = true
  · rw [if_pos e, if_pos e]; exact r.repl k ry
  · rw [if_neg e, if_neg e]; exact Paired.snoc r ⟨rfl, ry⟩
theorem KV.length {kvs : List (κ × V)} {vs : List (κ × Value)} (r : KV kvs vs) : kvs.length = vs.length := Paired.length r
end


/-! ### a tracked dict, its keys ints and texts or tuples of these -/
theorem kV_is {P : Program} {w : World} {k : Key} {u : Value} (r : RelV (kV k) u) : (mixKind P w).is k u = true := by
  cases k with
  | inl i => obtain ⟨t, e⟩ := (show ∃ t, u = Value.int i t from r); subst e; exact mixKind_int P w i t
  | inr x => obtain ⟨t, e⟩ := (show ∃ t, u = Value.str x t from r); subst e; exact mixKind_str P w x t
theorem items_are {P : Program} {w : World} : ∀ {ks : List Key} {us : List Value}, Vals (ks.map kV) us → ItemsAre (mixKind P w) ks us
  | [], _, r => by rw [List.map_nil] at r; cases r; exact .nil
  | k :: ks, _, r => by
    rw [List.map_cons] at r
    cases r with
    | cons h t => exact .cons (kV_is h) (items_are t)

noncomputable abbrev KT (H : Hp) : List (List Key × V) → List (List Key × Addr × Value) → Prop := Paired fun p q => p.1 = q.1 ∧ H q.2.1 = some (.tup (p.1.map kV)) ∧ RelV p.2 q.2.2
theorem KT.val {H : Hp} {kvs : List (List Key × V)} {xs : List (List Key × Addr × Value)} (r : KT H kvs xs) (k : List Key) : RelO (valV kvs k) ((atKey xs k).map (·.2)) := by
  induction r with
  | nil => exact True.intro
  | @cons p q ps qs h t ih =>
    obtain ⟨h1, _, h2⟩ := h
    by_cases e : p.1 = k
    · have e' : q.1 = k := h1.symm.trans e
      have b : atKey (q :: qs) k = some q.2 := by simp [atKey, List.find?_cons, e']
      rw [valV_pos e, b]; exact h2
    · have e' : ¬ q.1 = k := fun z => e (h1.trans z)
      have b : atKey (q :: qs) k = atKey qs k := by simp [atKey, List.find?_cons, e']
      rw [valV_neg e, b]; exact ih
theorem KT.repl {H : Hp} {kvs : List (List Key × V)} {xs : List (List Key × Addr × Value)} (r : KT H kvs xs) (k : List Key) {y : V} {u : Value} (ry : RelV y u) :
    KT H (kvs.map fun kv => if kv.1 = k then (kv.1, y) else kv) (xs.map (putAt k u)) := by
  induction r with
  | nil => exact .nil
  | @cons p q ps qs h t ih =>
    rw [List.map_cons, List.map_cons]
    refine .cons ?_ ih
    obtain ⟨h1, h2, h3⟩ := h
    unfold putAt
    by_cases e : p.1 = k
    · rw [if_pos e, if_pos (h1.symm.trans e)]; exact ⟨h1, h2, ry⟩
    · rw [if_neg e, if_neg (fun z => e (h1.trans z))]; exact ⟨h1, h2, h3⟩
theorem KT.put {H : Hp} {kvs : List (List Key × V)} {xs : List (List Key × Addr × Value)} (r : KT H kvs xs) (k : List Key) {b : Addr} {y : V} {u : Value} (hb : H b = some (.tup (k.map kV))) (ry : RelV y u) :
    KT H (putK kvs k y) (storedH xs k b u) := by
  have e : (kvs.any fun kv => decide (kv.1 = k)) = (atKey xs k).isSome := by
    rw [valV_any, (r.val k).isSome_eq, Option.isSome_map]
  unfold putK storedH
  rw [e]
  by_cases q : (atKey xs k).isSome = true
  · rw [if_pos q, if_pos q]; exact r.repl k ry
  · rw [if_neg q, if_neg q]; exact Paired.snoc r ⟨rfl, hb, ry⟩
theorem KT.keeps {H H' : Hp} {kvs : List (List Key × V)} {xs : List (List Key × Addr × Value)} (r : KT H kvs xs) (ht : ∀ b ys, H b = some (.tup ys) → H' b = some (.tup ys)) : KT H' kvs xs :=
  Paired.mapP r fun _ _ z => ⟨z.1, ht _ _ z.2.1, z.2.2⟩

section
variable {P : Program} {w : World} {H : Hp} {h : Heap} {a : Addr}
theorem rd_of {u : HO} (ok : HOk P w H h) (e : Rd H a u) : ObjOk P w H h a u := e.ok ok
theorem dk_rd {kvs : List (Key × V)} (ok : HOk P w H h) (e : Rd H a (.dK kvs)) : kvs.length ≤ sizeLine ∧ (a == sysModules) = false ∧ ∃ vs, KV kvs vs ∧ h.DictOf (mixKind P w) a vs :=
  show ObjOk P w H h a (.dK kvs) from rd_of ok e
theorem dk_of {kvs : List (Key × V)} (ok : HOk P w H h) (e : H a = some (.dK kvs)) : kvs.length ≤ sizeLine ∧ (a == sysModules) = false ∧ ∃ vs, KV kvs vs ∧ h.DictOf (mixKind P w) a vs := dk_rd ok (.inl e)
theorem key_of {ks : List Key} (ok : HOk P w H h) (e : H a = some (.tup (ks.map kV))) : (tupleKind (mixKind P w)).is h ks a := by
  obtain ⟨_, its, r, o, h1, h2, n, h3⟩ := (show ObjOk P w H h a (.tup (ks.map kV)) from ok a _ e)
  exact ⟨o, its.toArray, n, h1, h2, h3, by simpa using items_are r⟩
theorem dt_rd {kvs : List (List Key × V)} (ok : HOk P w H h) (e : Rd H a (.dT kvs)) : kvs.length ≤ sizeLine ∧ (a == sysModules) = false ∧
    ∃ xs, KT H kvs xs ∧ h.DictOfH (tupleKind (mixKind P w)) a xs := by
  obtain ⟨z, y, xs, r, o, es, ep, h1, h2, h3, h4, h5⟩ := (show ObjOk P w H h a (.dT kvs) from rd_of ok e)
  refine ⟨z, y, xs, r, o, es, ep, h1, h2, h3, h4, fun x hx => ?_, h5⟩
  have all : ∀ {l : List (List Key × V)} {m : List (List Key × Addr × Value)}, KT H l m → ∀ x ∈ m, (tupleKind (mixKind P w)).is h x.1 x.2.1 := by
    intro l m q
    induction q with
    | nil => intro x hx; exact nomatch hx
    | @cons p q ps qs hq t ih =>
      intro x hx
      rcases List.mem_cons.mp hx with e | hx
      · subst e
        exact key_of ok (by rw [← hq.1]; exact hq.2.1)
      · exact ih x hx
  exact all r x hx
theorem dt_of {kvs : List (List Key × V)} (ok : HOk P w H h) (e : H a = some (.dT kvs)) : kvs.length ≤ sizeLine ∧ (a == sysModules) = false ∧
    ∃ xs, KT H kvs xs ∧ h.DictOfH (tupleKind (mixKind P w)) a xs := dt_rd ok (.inl e)
end

noncomputable def DGet (H : Hp) (a : Addr) (y : V) (r : Option V) : Prop :=
  (∃ kvs k, Rd H a (.dK kvs) ∧ y = kV k ∧ r = valV kvs k) ∨ ∃ kvs k b, Rd H a (.dT kvs) ∧ y = .ref b ∧ H b = some (.tup (k.map kV)) ∧ r = valV kvs k
noncomputable def DPut (H : Hp) (a : Addr) (y v : V) (H' : Hp) : Prop :=
  (∃ kvs k, H a = some (.dK kvs) ∧ y = kV k ∧ kvs.length < sizeLine ∧ H' = upd H a (.dK (putK kvs k v))) ∨
  ∃ kvs k b, H a = some (.dT kvs) ∧ y = .ref b ∧ H b = some (.tup (k.map kV)) ∧ kvs.length < sizeLine ∧ H' = upd H a (.dT (putK kvs k v))
theorem DGet.k {H : Hp} {a : Addr} {kvs : List (Key × V)} {k : Key} (e : H a = some (.dK kvs)) : DGet H a (kV k) (valV kvs k) := .inl ⟨kvs, k, .inl e, rfl, rfl⟩
theorem DGet.t {H : Hp} {a b : Addr} {kvs : List (List Key × V)} {k : List Key} (e : H a = some (.dT kvs)) (eb : H b = some (.tup (k.map kV))) : DGet H a (.ref b) (valV kvs k) := .inr ⟨kvs, k, b, .inl e, rfl, eb, rfl⟩
theorem DPut.k {H : Hp} {a : Addr} {kvs : List (Key × V)} {k : Key} {v : V} (e : H a = some (.dK kvs)) (hl : kvs.length < sizeLine) : DPut H a (kV k) v (upd H a (.dK (putK kvs k v))) := .inl ⟨kvs, k, e, rfl, hl, rfl⟩
theorem DPut.t {H : Hp} {a b : Addr} {kvs : List (List Key × V)} {k : List Key} {v : V} (e : H a = some (.dT kvs)) (eb : H b = some (.tup (k.map kV))) (hl : kvs.length < sizeLine) :
    DPut H a (.ref b) v (upd H a (.dT (putK kvs k v))) := .inr ⟨kvs, k, b, e, rfl, eb, hl, rfl⟩


section
variable {X : Cx} {pins : List (Addr × Obj)} {σ : St} {H : Hp} {s : Shared} {a : Addr} {y v : V} {u r : Value} {o : Option V} {A : Around} {E : Value → Shared → Prop}

theorem Inv.big (I : Inv X pins σ H s) : sysModules < s.heap.objs.size := by
  have h : mainGlobals < s.heap.objs.size := (I.mod.glob.keeps I.bk).lt
  exact Nat.lt_trans (by decide) h

theorem d_getItem {Q : Value → Shared → Prop} (hu : A.units + 1 < cLine) (I : Inv X pins σ H s) (g : DGet H a y (some v)) (ry : RelV y u) (h : ∀ w' s', Inv X pins σ H s' → RelV v w' → Q w' s') :
    wpAny (model X.prog X.w) A (getItem (.ref a) u) Q E s := by
  rcases g with ⟨kvs, k, e, ey, l⟩ | ⟨kvs, k, b, e, ey, eb, l⟩
  · subst ey
    obtain ⟨z, hd, vs, rel, dd⟩ := dk_rd I.hok e
    obtain ⟨w', hw, rw'⟩ := RelO.some_of (v := v) (o := valueAt vs k) (by rw [l]; exact rel.val k)
    exact wpAny_getItem_of (kV_is ry) dd.mapOf hw (h w' _ (I.tok _) rw')
  · subst ey
    cases (show u = Value.ref b from ry)
    obtain ⟨z, hd, xs, rel, dd⟩ := dt_rd I.hok e
    obtain ⟨w', hw, rw'⟩ := RelO.some_of (v := v) (o := (atKey xs k).map (·.2)) (by rw [l]; exact rel.val k)
    obtain ⟨p, hp, hp2⟩ := Option.map_eq_some_iff.mp hw
    refine wpAny_getItem_heap (tupleKind_room_in1 hu) (key_of I.hok eb) dd hp ?_
    rw [hp2]
    exact h w' _ (I.tok _) rw'
theorem d_in {Q : Value → Shared → Prop} (hu : A.units + 1 < cLine) (I : Inv X pins σ H s) (g : DGet H a y o) (ry : RelV y u) (h : ∀ s', Inv X pins σ H s' → Q (.bool o.isSome) s') :
    wpAny (model X.prog X.w) A (compareOp .In u (.ref a)) Q E s := by
  rcases g with ⟨kvs, k, e, ey, l⟩ | ⟨kvs, k, b, e, ey, eb, l⟩
  · subst ey
    obtain ⟨z, hd, vs, rel, dd⟩ := dk_rd I.hok e
    refine wpAny_in_of (kV_is ry) hd dd.mapOf ?_
    rw [← (rel.val k).isSome_eq, ← l]
    exact h _ (I.tok _)
  · subst ey
    cases (show u = Value.ref b from ry)
    obtain ⟨z, hd, xs, rel, dd⟩ := dt_rd I.hok e
    refine wpAny_in_heap (tupleKind_room_in1 hu) (key_of I.hok eb) hd dd ?_
    have q := (rel.val k).isSome_eq
    rw [Option.isSome_map] at q
    rw [← q, ← l]
    exact h _ (I.tok _)
theorem d_notIn {Q : Value → Shared → Prop} (hu : A.units + 1 < cLine) (I : Inv X pins σ H s) (g : DGet H a y o) (ry : RelV y u) (h : ∀ s', Inv X pins σ H s' → Q (.bool (!o.isSome)) s') :
    wpAny (model X.prog X.w) A (compareOp .NotIn u (.ref a)) Q E s := by
  rcases g with ⟨kvs, k, e, ey, l⟩ | ⟨kvs, k, b, e, ey, eb, l⟩
  · subst ey
    obtain ⟨z, hd, vs, rel, dd⟩ := dk_rd I.hok e
    refine wpAny_notIn_of (kV_is ry) hd dd.mapOf ?_
    rw [← (rel.val k).isSome_eq, ← l]
    exact h _ (I.tok _)
  · subst ey
    cases (show u = Value.ref b from ry)
    obtain ⟨z, hd, xs, rel, dd⟩ := dt_rd I.hok e
    refine wpAny_notIn_heap (tupleKind_room_in1 hu) (key_of I.hok eb) hd dd ?_
    have q := (rel.val k).isSome_eq
    rw [Option.isSome_map] at q
    rw [← q, ← l]
    exact h _ (I.tok _)
theorem d_write {h' : Heap} {t' : Nat} {ob : HO} (I : Inv X pins σ H s) (mu : Mut (H a)) (hs : Heap.SameBut a s.heap h') (he : ∃ q, h'.get? a = some q) (new : ObjOk X.prog X.w (upd H a ob) h' a ob) :
    Inv X pins σ (upd H a ob) { s with heap := h', toks := t' } :=
  I.write (x := a) (e := a) mu (.inl rfl) (fun b q hb z => (hs.2 b hb).trans z) he new
theorem dk_new {P : Program} {w : World} {H' : Hp} {h' : Heap} {kvs : List (Key × V)} {vs : List (Key × Value)} (z : kvs.length ≤ sizeLine) (hd : (a == sysModules) = false) (rel : KV kvs vs) (dd : h'.DictOf (mixKind P w) a vs) :
    ObjOk P w H' h' a (.dK kvs) := ⟨z, hd, vs, rel, dd⟩
theorem d_setItem {H' : Hp} {Q : Unit → Shared → Prop} (hu : A.units + 1 < cLine) (I : Inv X pins σ H s) (g : DPut H a y v H') (ry : RelV y u) (rv : RelV v r) (h : ∀ s', Inv X pins σ H' s' → Q () s') :
    wpAny (model X.prog X.w) A (setItem (.ref a) u r) Q E s := by
  rcases g with ⟨kvs, k, e, ey, l, eH⟩ | ⟨kvs, k, b, e, ey, eb, l, eH⟩
  · subst ey eH
    obtain ⟨z, hd, vs, rel, dd⟩ := dk_of I.hok e
    have hz : vs.length ≤ sizeLine := by rw [← rel.length]; exact z
    have hl : (putK kvs k v).length ≤ sizeLine := by have := length_putK kvs k v; omega
    refine wpAny_setItem_pairs (hsz := hz) (kV_is ry) dd fun h' dd' hs => h _ ?_
    have he : ∃ q, h'.get? a = some q := let ⟨q, _, _, hq, _⟩ := dd'; ⟨q, hq⟩
    exact d_write I (by rw [e]; exact True.intro) hs he (dk_new hl hd (rel.put k rv) dd')
  · subst ey eH
    cases (show u = Value.ref b from ry)
    obtain ⟨z, hd, xs, rel, dd⟩ := dt_of I.hok e
    have hz : xs.length ≤ sizeLine := by rw [← Paired.length rel]; exact z
    have hl : (putK kvs k v).length ≤ sizeLine := by have := length_putK kvs k v; omega
    refine wpAny_setItem_heap (hsz := hz) (tupleKind_room_in1 hu) (key_of I.hok eb) dd fun h' dd' hs => h _ ?_
    obtain ⟨q, es, ep, hq, h2, h3, h4, _, h5⟩ := dd'
    refine d_write I (by rw [e]; exact True.intro) hs ⟨q, hq⟩ ⟨hl, hd, _, (rel.put k eb rv).keeps fun c ys ec => ?_, q, es, ep, hq, h2, h3, h4, h5⟩
    rw [upd_ne (ne_of ec e (fun z => nomatch z))]
    exact ec
end

section
variable {X : Cx} {pins : List (Addr × Obj)} {σ : St} {H : Hp} {s : Shared} {a : Addr} {kvs : List (Key × V)} {k : Key} {u : Value} {A : Around} {E : Value → Shared → Prop}
end


/-! ### readings and rules -/
noncomputable def NoSl (i : Expr) : Prop := ∀ ov iv, subscripted i false ov iv = operate [ov, iv] (getItem ov iv)
theorem subD_of {prog : Program} {w : World} {A : Around} {E : Value → Shared → Prop} {s : Shared} {env : Env} {value slice : Expr} {pos : Pos} {T id : String} {Q : Value → Shared → Prop}
    (hl : typeLookup (.type T) "__getitem__" = pure (some (.builtin id))) (hs : NoSl slice)
    (h : wpAny (model prog w) A (eval value env) (fun o s₁ => wpAny (model prog w) A (eval slice env) (fun i s₂ => s₂.TypeIs o T ∧ wpAny (model prog w) A (getItem o i) Q E s₂) E s₁) E s) :
    wpAny (model prog w) A (eval (.Subscript value slice pos) env) Q E s := by
  refine Subscript_ (wpAny_mono h (fun o s₁ h₁ => wpAny_mono h₁ (fun i s₂ h₂ => ?_) fun _ _ x => x) fun _ _ x => x)
  obtain ⟨hT, h₂⟩ := h₂
  unfold subscriptTail
  refine wpAny_bind ?_
  rw [getitemInPython_of_ne hT.not_modules]
  refine wpAny_bind (wpAny_specialOf hT hl ?_)
  have fin : wpAny (model prog w) A (subscripted slice false o i) (fun r s₃ => wpAny (model prog w) A (letTemporaryGo value o r >>= fun _ => pure r) Q E s₃) E s₂ := by
    rw [hs o i]
    exact wpAny_operating (wpAny_mono h₂ (fun r s₃ h₃ => wpAny_bind (wpAny_letTemporaryGo (wpAny_pure h₃))) fun _ _ x => x)
  first
    | exact wpAny_pure (wpAny_bind fin)
    | exact wpAny_bind (wpAny_pure (wpAny_bind fin))
    | exact wpAny_bind fin

theorem dict_typeIs {X : Cx} {pins : List (Addr × Obj)} {σ : St} {H : Hp} {s : Shared} {a : Addr} {y : V} {o : Option V} (I : Inv X pins σ H s) (g : DGet H a y o) : s.TypeIs (.ref a) "dict" := by
  rcases g with ⟨kvs, k, e, _, _⟩ | ⟨kvs, k, b, e, _, _, _⟩
  · obtain ⟨_, _, vs, _, dd⟩ := dk_rd I.hok e
    exact dd.typeIs
  · obtain ⟨_, _, xs, _, dd⟩ := dt_rd I.hok e
    exact dd.typeIs
noncomputable def tDGet (td ty : TE) : TE := fun σ H Q => td σ H fun x H1 => ty σ H1 fun y H2 => ∃ a v, x = .ref a ∧ DGet H2 a y (some v) ∧ Q v H2
noncomputable def tDIn (ty td : TE) : TE := fun σ H Q => ty σ H fun y H1 => td σ H1 fun x H2 => ∃ a o, x = .ref a ∧ DGet H2 a y o ∧ Q (.bl o.isSome) H2
noncomputable def tDNotIn (ty td : TE) : TE := fun σ H Q => ty σ H fun y H1 => td σ H1 fun x H2 => ∃ a o, x = .ref a ∧ DGet H2 a y o ∧ Q (.bl (!o.isSome)) H2
noncomputable def sDPut (td ty tv : TE) : TS := fun D σ H => tv σ H fun v H1 => td σ H1 fun x H2 => ty σ H2 fun y H3 => ∃ a H4, x = .ref a ∧ DPut H3 a y v H4 ∧ D.nx σ H4
section
variable {X : Cx} {o i e value : Expr} {pos pos' tpos : Pos} {td ty tv : TE}
theorem pe_dget (hu : X.A.units + 1 < cLine) (ho : PE X o td) (hi : PE X i ty) (hs : NoSl i) : PE X (.Subscript o i pos) (tDGet td ty) := by
  intro pins s σ H Q I h
  refine subD_of PySem.F.slot_dict_getitem.lookup hs (thn (ho pins s σ H _ I h) fun u s1 ⟨x, H1, I1, rx, q1⟩ => thn (hi pins s1 σ H1 _ I1 q1) fun iv s2 ⟨y, H2, I2, ry, a, v, ex, g, q2⟩ => ?_)
  subst ex
  obtain rfl : u = Value.ref a := rx
  exact ⟨dict_typeIs I2 g, d_getItem hu I2 g ry fun w' s3 I3 rw' => ⟨v, H2, I3, rw', q2⟩⟩
theorem pc_din (hu : X.A.units + 1 < cLine) (hi : PE X i ty) (ho : PE X o td) : PC X .In i o (tDIn ty td) := by
  intro pins s σ H Q I h
  refine thn (hi pins s σ H _ I h) fun iv s1 ⟨y, H1, I1, ry, q1⟩ => thn (ho pins s1 σ H1 _ I1 q1) fun u s2 ⟨x, H2, I2, rx, a, ov, ex, g, q2⟩ => ?_
  subst ex
  obtain rfl : u = Value.ref a := rx
  exact d_in hu I2 g ry fun s3 I3 => ⟨.bl ov.isSome, H2, I3, rfl, q2⟩
theorem pc_dnotin (hu : X.A.units + 1 < cLine) (hi : PE X i ty) (ho : PE X o td) : PC X .NotIn i o (tDNotIn ty td) := by
  intro pins s σ H Q I h
  refine thn (hi pins s σ H _ I h) fun iv s1 ⟨y, H1, I1, ry, q1⟩ => thn (ho pins s1 σ H1 _ I1 q1) fun u s2 ⟨x, H2, I2, rx, a, ov, ex, g, q2⟩ => ?_
  subst ex
  obtain rfl : u = Value.ref a := rx
  exact d_notIn hu I2 g ry fun s3 I3 => ⟨.bl (!ov.isSome), H2, I3, rfl, q2⟩
theorem ps_dput (hu : X.A.units + 1 < cLine) (ho : PE X o td) (hi : PE X i ty) (hv : PE X value tv) (hs : swapsWith value (some (.Subscript o i pos')) pos.line X.env = pure false) :
    PS X (.Assign [.Subscript o i pos'] value pos) (sDPut td ty tv) := by
  intro pins s σ H D I h
  refine wpAny_Assign_Subscript (thn (hv pins s σ H _ I h) fun r s1 ⟨v, H1, I1, rv, q1⟩ => thn (ho pins s1 σ H1 _ I1 q1) fun u s2 ⟨x, H2, I2, rx, q2⟩ => thn (hi pins s2 σ H2 _ I2 q2) fun iv s3 ⟨y, H3, I3, ry, a, H4, ex, g, q3⟩ => ?_) hs
  subst ex
  obtain rfl : u = Value.ref a := rx
  exact d_setItem hu I3 g ry rv fun s4 I4 => ⟨σ, H4, I4, q3⟩
end


/-! ### displays -/
theorem dk_empty {P : Program} {w : World} {H : Hp} (h : Heap) (hb : sysModules < h.objs.size) : ObjOk P w H (h.push { cls := .type "dict", data := .dict #[] }) h.objs.size (.dK []) :=
  ⟨Nat.zero_le _, beq_eq_false_iff_ne.mpr (Ne.symm (Nat.ne_of_lt hb)), [], .nil, Heap.DictOf.new h⟩
theorem dt_empty {P : Program} {w : World} {H : Hp} (h : Heap) (hb : sysModules < h.objs.size) : ObjOk P w H (h.push { cls := .type "dict", data := .dict #[] }) h.objs.size (.dT []) :=
  ⟨Nat.zero_le _, beq_eq_false_iff_ne.mpr (Ne.symm (Nat.ne_of_lt hb)), [], .nil, _, #[], 0, Heap.get?_push_size _ rfl, ⟨rfl, rfl, rfl⟩, rfl, rfl, List.nodup_nil⟩
noncomputable def tDNewT : TE := fun _ H Q => ∀ p, H p = none → Q (.ref p) (upd H p (.dT []))
section
variable {X : Cx} {pos : Pos}
theorem pe_dnewT : PE X (.Dict [] [] pos) tDNewT := fun pins s σ H Q I h =>
  wpAny_Dict_empty ⟨.ref s.heap.objs.size, _, I.laid (a := s.heap.objs.size) (o := .dT []) (t' := s.toks) (fun _ _ q => Heap.get?_push_of_some _ q) (Nat.le_refl _) (dt_empty s.heap I.big), rfl, h _ (I.hok.fresh (Nat.le_refl _))⟩
end

noncomputable def tPairs : List (TE × TE) → St → Hp → (List (V × V) → Hp → Prop) → Prop
  | [], _, H, Q => Q [] H
  | (tk, tv) :: r, σ, H, Q => tk σ H fun x H1 => tv σ H1 fun y H2 => tPairs r σ H2 fun ps H3 => Q ((x, y) :: ps) H3
noncomputable abbrev VV : List (V × V) → List (Value × Value) → Prop := Paired fun p q => RelV p.1 q.1 ∧ RelV p.2 q.2
noncomputable def PPs (X : Cx) (pos : Pos) (keys : List (Option Expr)) (values : List Expr) (trs : List (TE × TE)) : Prop :=
  ∀ (pins : List (Addr × Obj)) (s : Shared) (σ : St) (H : Hp) (Q : List (V × V) → Hp → Prop), Inv X pins σ H s → tPairs trs σ H Q →
    wpAny (model X.prog X.w) X.A (evalPairs (pairTrees keys values X.env pos)) (fun vs s' => ∃ ps H', Inv X pins σ H' s' ∧ VV ps vs ∧ Q ps H') X.xe s
theorem pps_nil {X : Cx} {pos : Pos} : PPs X pos [] [] [] := fun pins s σ H Q I h => pairTrees_nil_walk ⟨[], H, I, .nil, h⟩
theorem pps_cons {X : Cx} {pos : Pos} {k v : Expr} {ks : List (Option Expr)} {vs : List Expr} {tk tv : TE} {trs : List (TE × TE)} (hk : PE X k tk) (hv : PE X v tv) (hr : PPs X pos ks vs trs) :
    PPs X pos (some k :: ks) (v :: vs) ((tk, tv) :: trs) := fun pins s σ H Q I h =>
  pairTrees_cons_walk (thn (hk pins s σ H _ I h) fun u s1 ⟨x, H1, I1, rx, q1⟩ => thn (hv pins s1 σ H1 _ I1 q1) fun w2 s2 ⟨y, H2, I2, ry, q2⟩ =>
    thn (hr pins s2 σ H2 _ I2 q2) fun ws s3 ⟨ps, H3, I3, rel, q3⟩ => ⟨(x, y) :: ps, H3, I3, .cons ⟨rx, ry⟩ rel, q3⟩)

noncomputable def mergeK (kvs more : List (Key × V)) : List (Key × V) := more.foldl (fun acc kv => putK acc kv.1 kv.2) kvs
theorem KV.merge : ∀ {more : List (Key × V)} {rs : List (Key × Value)} {kvs : List (Key × V)} {vs : List (Key × Value)}, KV more rs → KV kvs vs → KV (mergeK kvs more) (merged vs rs) := by
  intro more rs kvs vs r
  unfold KV at r
  induction r generalizing kvs vs with
  | nil => intro q; exact q
  | @cons p q ps qs h t ih =>
    intro r0
    have e : KV (putK kvs p.1 p.2) (stored vs q.1 q.2) := by
      have := r0.put p.1 h.2
      rw [← h.1]; exact this
    exact ih e
theorem length_mergeK : ∀ (more kvs : List (Key × V)), (mergeK kvs more).length ≤ kvs.length + more.length
  | [], kvs => by show kvs.length ≤ kvs.length + 0; omega
  | p :: r, kvs => by
    have h1 := length_mergeK r (putK kvs p.1 p.2)
    have h2 := length_putK kvs p.1 p.2
    show (mergeK (putK kvs p.1 p.2) r).length ≤ _
    rw [List.length_cons]; omega
theorem carries_of {P : Program} {w : World} : ∀ {kvs : List (Key × V)} {ws : List (Value × Value)}, VV (kvs.map fun kv => (kV kv.1, kv.2)) ws → ∃ rs, Carries (mixKind P w) ws rs ∧ KV kvs rs
  | [], _, r => by rw [List.map_nil] at r; cases r; exact ⟨[], True.intro, .nil⟩
  | p :: kvs, _, r => by
    rw [List.map_cons] at r
    cases r with
    | @cons a b as bs h t =>
      obtain ⟨rs, c, q⟩ := carries_of (P := P) (w := w) t
      obtain ⟨b1, b2⟩ := b
      exact ⟨(p.1, b2) :: rs, ⟨kV_is h.1, rfl, c⟩, .cons ⟨rfl, h.2⟩ q⟩
noncomputable def tDisp (trs : List (TE × TE)) : TE := fun σ H Q => ∀ p, H p = none → tPairs trs σ (upd H p (.dK [])) fun ps H2 => H2 p = some (.dK []) ∧ ∃ kvs : List (Key × V), ps = kvs.map (fun kv => (kV kv.1, kv.2)) ∧ kvs.length ≤ 15 ∧ Q (.ref p) (upd H2 p (.dK (mergeK [] kvs)))
theorem pe_disp {X : Cx} {pos : Pos} {keys : List (Option Expr)} {values : List Expr} {trs : List (TE × TE)} (h : PPs X pos keys values trs) (hall : keys.all (·.isSome) = true) (hl : keys.length = values.length) (h0 : keys ≠ [])
    (h15 : keys.length ≤ 15) : PE X (.Dict keys values pos) (tDisp trs) := by
  intro pins s σ H Q I q
  have hn := I.hok.fresh (Nat.le_refl s.heap.objs.size)
  have I1 := I.laid (a := s.heap.objs.size) (o := .dK []) (h' := s.heap.push { cls := .type "dict", data := .dict #[] }) (t' := s.toks) (fun _ _ q => Heap.get?_push_of_some _ q) (Nat.le_refl _) (dk_empty s.heap I.big)
  refine wpAny_Dict_walk (knd := mixKind X.prog X.w) hall hl h0 h15 (thn (h pins _ σ _ _ I1 (q _ hn)) fun ws s2 ⟨ps, H2, I2, rel, e, kvs, ep, lk, q2⟩ => ?_)
  subst ep
  obtain ⟨rs, c, rk⟩ := carries_of (P := X.prog) (w := X.w) rel
  obtain ⟨z, hd, vs0, r0, dd⟩ := dk_of I2.hok e
  cases r0
  refine ⟨rs, c, dd, fun h' dd' hs => ⟨.ref s.heap.objs.size, _, ?_, rfl, q2⟩⟩
  have hz : (mergeK [] kvs).length ≤ sizeLine := by
    have h1 := length_mergeK kvs []
    rw [List.length_nil] at h1
    rw [sizeLine_eq]; omega
  have he : ∃ q, h'.get? s.heap.objs.size = some q := let ⟨q, _, _, hq, _⟩ := dd'; ⟨q, hq⟩
  exact d_write I2 (by rw [e]; exact True.intro) hs he (dk_new hz hd (rk.merge .nil) dd')


/-! ### methods -/
section
variable {X : Cx} {pins : List (Addr × Obj)} {σ : St} {H : Hp} {s : Shared} {a : Addr} {y d : V} {u r : Value} {o : Option V} {A : Around} {E : Value → Shared → Prop}
end

section
variable {X : Cx} {o e f : Expr} {apos cpos : Pos} {td ty tx : TE}
end

/-! ### dict(d): a copy -/
section
variable {X : Cx} {pins : List (Addr × Obj)} {σ : St} {H : Hp} {s : Shared} {a : Addr} {kvs : List (Key × V)} {A : Around} {E : Value → Shared → Prop}
end


section
variable {X : Cx} {pins : List (Addr × Obj)} {σ : St} {H : Hp} {s : Shared} {a : Addr} {y : V} {u : Value} {A : Around} {E : Value → Shared → Prop}
end
end L2

namespace Att
open PySem PySem.W PySem.Calls PyProof.Rows

/-! ### the script -/
theorem ints_of_wellAll {P : Params} {h : Heap} : ∀ (ns : List Int) (vs : List Value), WellAll P h vs (ns.map WData.int) → IntsAre vs ns := by
  intro ns
  induction ns with
  | nil =>
    intro vs w
    rw [List.map_nil] at w
    cases w
    exact .nil
  | cons n ns ih =>
    intro vs w
    rw [List.map_cons] at w
    cases w with
    | cons a b =>
      cases a
      exact .cons _ _ (ih _ b)

theorem script_of {l : OpenLaw} {n : Nat} (hn : l.most = some n) {P : Params} {h : Heap} {args : List WData} {vals : List Value}
    (hpre : l.row.toRowW.claim.pre args = true) (hwl : WellAll P h vals args) :
    ∃ a vs ns, vals = [Value.ref a] ∧ args = [WData.list (ns.map WData.int)] ∧ h.get? a = some { cls := .type "list", data := .seq vs.toArray } ∧ IntsAre vs ns ∧ ns.length ≤ n := by
  have hsh : WShape.hasAll [] args [.list .int] = true := (pre_splitW hpre).1
  have hc : l.pre.holds [] { args := args } = true := (pre_splitW hpre).2
  obtain ⟨d, r, rfl, h1, h2⟩ := hasAllW_cons hsh
  obtain rfl := hasAllW_nil h2
  obtain ⟨xs, rfl, h3⟩ := hasW_list h1
  obtain ⟨ns, rfl⟩ := items_int h3
  have hlen : ns.length ≤ n := by
    unfold OpenLaw.pre at hc
    have h4 : (WTm.not (.lt (.lit (.int (n : Int))) (.len (.arg 0)))).holds [] { args := [.list (ns.map .int)] } = true := by
      have h4 := (holds_andW hc).1
      rw [hn] at h4
      exact h4
    have h5 := condW_of h4 (w_not (w_lt w_lit (w_len_list (w_arg rfl))))
    rw [List.length_map] at h5
    refine Nat.le_of_not_lt fun q => ?_
    have q' : (n : Int) < ((ns.length : Nat) : Int) := by omega
    first
      | (rw [decide_eq_true q'] at h5; exact absurd h5 (by decide))
      | (simp at h5; omega)
  cases hwl with
  | cons w1 w2 =>
    cases w2
    cases w1 with
    | list ho hall => exact ⟨_, _, ns, rfl, rfl, ho, ints_of_wellAll ns _ hall, hlen⟩

theorem post_true (l : OpenLaw) (args : List WData) : l.row.toRowW.claim.post args (.bool true) args = true :=
  postW_of (r := l.row.toRowW) (X := (true == true))
    (show WShape.has [] (.bool true) .bool = true by first | rfl | decide | simp [WShape.has, WShape.arms, WShape.armsAll])
    (show (WTm.eq .res (.lit (.bool true))).value [] { args := args, res := some (.bool true), after := args } = some (.bool (true == true)) from w_eq_bool (w_res rfl) w_lit) rfl

/-! ### the attachment: holds_open's last premise (the goal 'hc' behind k_head) from a wpAny of the law's body -/
theorem attach_call {l : OpenLaw} {n : Nat} {q : Program} {loose : List Str} {XP : (Str → Option Value) → Heap → Prop} {YP : World → Heap → Prop} {d : DefRec}
    (hn : l.most = some n) (hdf : d.params.defaults = [])
    (call : ∀ (w : World) (s₀ s₁ : Shared) (mg mb : Str → Option Value) (fa : Addr) (o : Obj) (pm cd doc : Value) (a : Addr) (vs : List Value) (ns : List Int),
      Ground q loose [] XP w s₀ mg mb s₁.heap → YP w s₁.heap →
      s₁.heap.get? fa = some o → o.data = .func (docDef d.name d.params d.body d.scope pm cd doc) → s₁.heap.CodeRec cd d.name → mg d.name = some (.ref fa) →
      s₁.heap.get? a = some { cls := .type "list", data := .seq vs.toArray } → IntsAre vs ns → ns.length ≤ n → s₁.gens = #[] →
      codeAny (model l.prog w) callerA (.call (.ref fa) ⟨[.ref a], []⟩) (fun r s' => r = .ok (.ret (.bool true)) ∧ OldK s₁.heap s'.heap ∧ s'.os = s₁.os ∧ AllBare s'.gens) s₁) :
    WalkO q loose XP YP l.row.toRowW d [] (fun f vs => PySem.call f vs) := by
  intro w s₀ s₁ mg mb G Y fa o pm cd doc dV kV ho hd hcd hD hmg hg args vals as hpre hlay hrd hwl hlo
  obtain rfl : dV = .none := Dflts.none hD hdf
  obtain rfl : kV = .none := Dflts.noKw hD
  obtain ⟨a, vs, ns, rfl, rfl, hobj, hints, hlen⟩ := script_of hn hpre hwl
  refine enter_call (codeAny_mono (call w s₀ s₁ mg mb fa o pm cd doc a vs ns G Y ho (fd_plain hd) hcd hmg hobj hints hlen hg) fun r s' hq => ?_)
  obtain ⟨rfl, h2, h3, h4⟩ := hq
  exact ⟨.inl ⟨.bool true, .bool true, [], rfl, fun _ => rfl, .bool true, post_true l _, fun _ => ⟨List.Pairwise.nil, fun _ hm => (nomatch hm)⟩⟩, h2, h3, h4⟩

/-! ### rules over ANY heap (no ledger) from facts about the written part K: the library's own take a ledger (News) for what they write -/
section
variable {prog : Program} {w : World} {A : Around} {E : Value → Shared → Prop} {s : Shared} {K : Frag}

/-! the whole heap as the ledger: makes every rule that writes through a ledger a rule over any heap -/
end
end Att

namespace L2
open PySem PySem.Spec PyProof.Rows

theorem vals_ints : ∀ {vs : List Value} {ns : List Int}, IntsAre vs ns → Vals (ns.map V.int) vs
  | _, _, .nil => .nil
  | _, _, .cons n t h => .cons ⟨t, rfl⟩ (vals_ints h)

noncomputable def Only (H : Hp) : Prop := ∀ b, H b = none ∨ ∃ o xs, H b = some (.frz o (.lst xs))

theorem law_call {P : Program} {w : World} {K : PySem.W.Frag} {mg mb : Str → Option Value} {CX : CXT} {k : Nat} {fa a : Addr} {fd : FuncData} {x : Str} {sp : Sp} {s₁ : Shared} {vs : List Value} {ns : List Int}
    (KX : K.In s₁.heap) (hns : s₁.heap.Ns mainGlobals mg) (hb : s₁.heap.Ns builtinsNs mb) (hbb : ∀ x : Str, x ≠ "__name__" → mb x = bootBuiltins x) (hlim : s₁.heap.NoLimit) (hg : s₁.gens = #[])
    (ha : s₁.heap.get? a = some { cls := .type "list", data := .seq vs.toArray }) (hi : IntsAre vs ns) (hl : ns.length ≤ sizeLine) (hr : Room k callerA)
    (F : ∀ base : Heap, K.In base → base.Ns mainGlobals mg → FnOk P w K mg base CX k fa fd [x] sp) (hbind : ∀ (s : Shared) (u : Value), BindsTo s fd ⟨[u], []⟩ [(x, u)])
    (hsp : ∀ H : Hp, Only H → SqL K H a (ns.map V.int) → sp [.ref a] H (fun v _ => v = .bl true) fun _ _ _ => False)
    (hCX : ∀ H e s', CX [] H s₁ (fun _ _ _ => False) e s' → False) :
    codeAny (model P w) callerA (.call (.ref fa) ⟨[.ref a], []⟩) (fun r s' => r = .ok (.ret (.bool true)) ∧ OldK s₁.heap s'.heap ∧ s'.os = s₁.os ∧ AllBare s'.gens) s₁ := by
  have rv := vals_ints hi
  have lenV := hi.length
  -- from an abstract heap in which nothing but the script may be tracked
  have core : ∀ H : Hp, Only H → SqL K H a (ns.map V.int) → HOk P w H s₁.heap → (∀ b, H b ≠ none → b = a) → (H a ≠ none → K.lookup a = none) →
      codeAny (model P w) callerA (.call (.ref fa) ⟨[.ref a], []⟩) (fun r s' => r = .ok (.ret (.bool true)) ∧ OldK s₁.heap s'.heap ∧ s'.os = s₁.os ∧ AllBare s'.gens) s₁ := by
    intro H hO hS hok hA hK
    have base_of : ∀ {b : Addr} {o : Obj}, s₁.heap.get? b = some o → H b = none → (hidT s₁.heap H).get? b = some o := fun e n => hidT_get e n
    have noA : ∀ {b : Addr} {o : Obj} {es : Array DictEntry} {ep : Nat}, s₁.heap.get? b = some o → o.data = .dict es ep → H b = none := fun {b o es ep} e d => by
      cases q : H b with
      | none => rfl
      | some u =>
        have e' : b = a := hA b (by rw [q]; simp)
        subst e'
        rw [ha] at e; cases e
        have d' : Data.seq vs.toArray _ = Data.dict es ep := d
        cases d'
    have nsK : ∀ {b : Addr} {m : Str → Option Value}, s₁.heap.Ns b m → (hidT s₁.heap H).Ns b m := fun {b m} ⟨o, es, ep, e, d, r⟩ => ⟨o, es, ep, base_of e (noA e d), d, r⟩
    have hKb : K.In (hidT s₁.heap H) := fun b o e => base_of (KX b o e) (by
      cases q : H b with
      | none => rfl
      | some u =>
        have e' : b = a := hA b (by rw [q]; simp)
        subst e'
        rw [hK (by rw [q]; simp)] at e; cases e)
    have hM : Mod K mg (hidT s₁.heap H) := ⟨hKb, nsK hns, ⟨mb, nsK hb, hbb⟩, let ⟨mc, h1, h2⟩ := hlim; ⟨mc, nsK h1, h2⟩⟩
    have e0 : Env0 P w K mg (hidT s₁.heap H) callerA [] s₁ H := ⟨rfl, hM, fun b o e => of_hidT e, Nat.le_of_eq (hidT_size _ _), trivial, fun b hb => absurd (show b ∈ ([] : List Addr) from hb) (by simp), hok, .of_eq hg⟩
    refine codeAny_mono ((F _ hKb (nsK hns)).run callerA [] s₁ H ⟨[.ref a], []⟩ [.ref a] [.ref a] _ _ hr e0 (hbind s₁ (.ref a)) (.cons rfl .nil) (hsp H hO hS)) fun r s' h => ?_
    cases r with
    | error e => exact (hCX H e s' h).elim
    | ok fl =>
      cases fl with
      | next => exact False.elim h
      | brk => exact False.elim h
      | cont => exact False.elim h
      | ret u =>
        obtain ⟨v, H', os, bare, un, hok', r', q⟩ := h
        have q' : v = .bl true := q
        subst q'
        obtain rfl : u = Value.bool true := r'
        refine ⟨rfl, OldK.of_keep fun b o e => ?_, os, bare⟩
        cases q : H b with
        | none => exact un.keep b o e q (by intro z; exact absurd (show b ∈ ([] : List Addr) from z) (by simp)) (by simp)
        | some u =>
          rcases hO b with z | ⟨ob, xs, z⟩
          · rw [q] at z; cases z
          · have z2 := un.frzs b ob _ z
            obtain ⟨e1, _⟩ := hok b _ z
            obtain ⟨e2, _⟩ := hok' b _ z2
            rw [e] at e1; cases e1
            exact e2
  cases hk : K.lookup a with
  | some o =>
    -- the script is one of the module's own objects
    have e := KX a o hk
    rw [ha] at e
    cases e
    refine core (fun _ => none) (fun _ => .inl rfl) (.inr ⟨_, vs.toArray, _, hk, rfl, rfl, rfl, by rw [List.size_toArray, lenV]; exact hl, by simpa using rv⟩) (fun b u z => by have z' : (none : Option HO) = some u := z; cases z') (fun b z => absurd rfl z) fun z => absurd rfl z
  | none =>
    refine core (fun b => if b = a then some (.frz { cls := .type "list", data := .seq vs.toArray } (.lst (ns.map V.int))) else none) (fun b => ?_) (.inl (.inr ⟨{ cls := .type "list", data := .seq vs.toArray }, if_pos rfl⟩)) (fun b u z => ?_) (fun b z => ?_) fun _ => hk
    · by_cases hb : b = a
      · exact .inr ⟨_, _, if_pos hb⟩
      · exact .inl (if_neg hb)
    · by_cases hb : b = a
      · have z' := (if_pos hb).symm.trans z
        cases z'
        subst hb
        exact ⟨ha, by rw [List.length_map]; exact hl, vs, _, rv, ha⟩
      · have z' := (if_neg hb).symm.trans z
        cases z'
    · by_cases hb : b = a
      · exact hb
      · exact absurd (if_neg hb) z
end L2

namespace L2
open PySem PySem.Spec PyProof.Rows

theorem walk_of {l : PySem.W.OpenLaw} {n k : Nat} {q : Program} {loose : List Str} {XP : (Str → Option Value) → Heap → Prop} {YP : World → Heap → Prop} {d : DefRec} {K : Params → PySem.W.Frag} {CX : World → CXT} {sp : World → Sp} {x : Str}
    (hn : l.most = some n) (hn2 : n ≤ sizeLine) (hdf : d.params.defaults = []) (hr : Room k callerA)
    (hY : ∀ (w : World) (h : Heap), YP w h → (K w.params).In h)
    (F : ∀ (w : World) (mg : Str → Option Value) (fa : Addr) (h : Heap), (K w.params).In h → h.Ns mainGlobals mg → mg d.name = some (.ref fa) →
      ∃ fd : FuncData, (∀ (s : Shared) (u : Value), BindsTo s fd ⟨[u], []⟩ [(x, u)]) ∧
        ∀ base : Heap, (K w.params).In base → base.Ns mainGlobals mg → FnOk l.prog w (K w.params) mg base (CX w) k fa fd [x] (sp w))
    (hsp : ∀ (w : World) (H : Hp) (a : Addr) (ns : List Int), ns.length ≤ n → Only H → SqL (K w.params) H a (ns.map V.int) → sp w [.ref a] H (fun v _ => v = .bl true) fun _ _ _ => False)
    (hCX : ∀ (w : World) (H : Hp) (s : Shared) (e : Value) (s' : Shared), CX w [] H s (fun _ _ _ => False) e s' → False) :
    PySem.W.WalkO q loose XP YP l.row.toRowW d [] (fun f vs => PySem.call f vs) := by
  refine Att.attach_call hn hdf fun w s₀ s₁ mg mb fa o pm cd doc a vs ns G Y ho hd hcd hmg hobj hints hlen hg => ?_
  have KX := hY w _ Y
  obtain ⟨fd, hb, hF⟩ := F w mg fa _ KX G.T.g hmg
  exact law_call KX G.T.g G.T.b G.T.builtins G.T.nolimit hg hobj hints (Nat.le_trans hlen hn2) hr hF hb (fun H hO hS => hsp w H a ns hlen hO hS) fun H e s' => hCX w H s₁ e s'
end L2

/- THE LAST THEOREM (shape; LID, My.* are yours):
   My.Adr: a structure of the addresses that your layer names (classes, functions); My.Txt K t: a structure (Prop) of the equations over K;
   My.txt_mk : {K} {implicit addresses ..} (e1 : nsIn K mainGlobals "law" = some (some (.ref f))) (e2 : K.lookup f = some ⟨oc, od, .func (fnOf "law" "law" params body scope dV kV doc pm an cdv ct), sl⟩) (e3 : codeIn K cdv "law" = true) .. : ∃ t, My.Txt K t

set_option maxRecDepth 100000 in
set_option maxHeartbeats 0 in
theorem PySem.Challenge.cw_LID_holds : PySem.Challenge.rw_LID.Holds := by
  w_on; o_law; k_head; (case hw => w_witness2)
  k_fill
  refine L2.walk_of (l := PySem.Challenge.rw_LID) (n := 63) (k := 40) (x := "script") (CX := fun w => ..) (sp := fun _ => My.sp_law) rfl (by decide) rfl ⟨rfl, by decide, by decide⟩ (fun w h Y => PySem.W.kIn_of Y) ?F ?S ?C
  case F =>
    intro w mg fa h KX G hmg
    have T : ∃ t, My.Txt (L2.KOf KX) t := by
      dsimp only [L2.KOf]                          -- K must stand as «<heap const> w.params» for k_is
      refine' My.txt_mk ?e1 ?e2 ?e3 ..
      (case e1 => PySem.W.k_is)                    -- in the order: a name -> its address -> its object -> its parts
      (case e2 => PySem.W.k_is)
      ..
    obtain ⟨t, T⟩ := T
    have e0 := hmg.symm.trans (PySem.W.mg_of KX G T.law)
    cases e0                                       -- fa is the law's own address
    exact ⟨_, fun s u => .of_eq rfl, fun base kb nb => My.law_fn T kb nb⟩     -- if «.of_eq rfl» comes too early: refine' ⟨_, ?b, fun base kb nb => My.law_fn T kb nb⟩; exact fun s u => .of_eq rfl
  case S => exact fun w H a ns hl hO hS => ..
  case C => exact ..
(the tactic k_is has no namespace: write k_is) -/

/-! SHORT WORDS over the layer: a def of the text, its body, what a loop and a test want. -/
namespace L2
open PySem PySem.Spec PyProof.Rows

/-! ### the text by places -/
noncomputable def defArgs (s : Stmt) : Arguments := match s with
  | .FunctionDef _ a _ _ _ _ _ _ _ _ => a
  | _ => { posonlyargs := [], args := [], vararg := none, kwonlyargs := [], kw_defaults := [], kwarg := none, defaults := [] }
noncomputable def defBody (s : Stmt) : List Stmt := match s with
  | .FunctionDef _ _ b _ _ _ _ _ _ _ => b
  | _ => []
noncomputable def defScope (s : Stmt) : Scope := match s with
  | .FunctionDef _ _ _ _ _ _ sc _ _ _ => sc
  | _ => { kind := .function, names := [], isGenerator := false, isCoroutine := false }

/-! ### no exception leaves a def -/
noncomputable abbrev CX0 : CXT := fun _ _ _ _ _ _ => False
noncomputable abbrev E0 : XK := fun _ _ _ => False
theorem pass0 {X : Cx} : Passes CX0 X E0 := fun _ _ _ _ _ _ _ h => h.elim

/-! ### a def (or method) of the text as it stands behind the top -/
structure Fun (K : PySem.W.Frag) (x qual : Str) (st : Stmt) (f : Addr) (fd : FuncData) : Prop where
  ex : ∃ (oc : Value) (od : Option Addr) (kV doc pm : Value) (an : Option Addr) (cdv ct : Value) (osl : Array (Option Value)),
    fd = PySem.W.fnOf x qual (defArgs st) (defBody st) (defScope st) .none kV doc pm an cdv ct ∧ K.lookup f = some ⟨oc, od, .func fd, osl⟩ ∧ PySem.W.codeIn K cdv qual = true
  kp : PySem.W.keepIn K (.ref f) = true
section
variable {P : Program} {w : World} {K : PySem.W.Frag} {mg : Str → Option Value} {base : Heap}
theorem Fun.ok {x qual : Str} {st : Stmt} {f : Addr} {fd : FuncData} {N ps : List Str} {k : Nat} {sp : Sp} (F : Fun K x qual st f fd) (S : FnScope N ps (defScope st)) (len : ∀ vs H Q E, sp vs H Q E → vs.length = ps.length)
    (hbody : ∀ (cdv : Value) (A : Around) (outer : List Env) (s : Shared) (H : Hp) (vs : List V) (Q : VK) (E : XK), Room k (A.deeper (envOfC qual (defScope st) s.heap.objs.size f cdv)) → sp vs H Q E →
      ∃ t, PSs (cxOf CX0 P w K mg base N qual (defScope st) f cdv A outer s H E).nox (defBody st) t ∧ t { nx := fun _ H' => Q .non H', rt := Q } (start N vs) H) : FnOk P w K mg base CX0 (k + 1) f fd ps sp := by
  obtain ⟨oc, od, kV, doc, pm, an, cdv, ct, osl, rfl, lk, hcd⟩ := F.ex
  refine fn_of lk hcd S len fun A outer s H vs Q E hr hsp => ?_
  obtain ⟨t, h, q⟩ := hbody cdv A outer s H vs Q E hr hsp
  exact ⟨t, h.nox, q⟩
theorem Fun.binds {x qual : Str} {st : Stmt} {f : Addr} {fd : FuncData} {ps : List Str} (F : Fun K x qual st f fd)
    (h : ∀ (kV doc pm : Value) (an : Option Addr) (cdv ct : Value) (us : List Value), us.length = ps.length → bindArgs (PySem.W.fnOf x qual (defArgs st) (defBody st) (defScope st) .none kV doc pm an cdv ct) ⟨us, []⟩ = pure (ps.zip us)) : Binds K fd ps [] := by
  obtain ⟨oc, od, kV, doc, pm, an, cdv, ct, osl, rfl, lk, hcd⟩ := F.ex
  exact .all (h kV doc pm an cdv ct)
theorem fun_mk {x qual : Str} {st : Stmt} {f : Addr} {oc : Value} {od an : Option Addr} {osl : Array (Option Value)} {kV doc pm cdv ct : Value} (l : K.lookup f = some ⟨oc, od, .func (PySem.W.fnOf x qual (defArgs st) (defBody st) (defScope st) .none kV doc pm an cdv ct), osl⟩)
    (c : PySem.W.codeIn K cdv qual = true) (k : PySem.W.keepIn K (.ref f) = true) : Fun K x qual st f (PySem.W.fnOf x qual (defArgs st) (defBody st) (defScope st) .none kV doc pm an cdv ct) := ⟨⟨oc, od, kV, doc, pm, an, cdv, ct, osl, rfl, l, c⟩, k⟩
end
/-! ### expressions in short: the name that stands in the i-th slot -/
section
variable {X : Cx}
theorem pv (i : Nat) {x : Str} {pos : Pos} (hN : X.N[i]? = some x := by rfl) (hv : Vis X.env.scope x := by first | exact Or.inl rfl | exact Or.inr (Or.inl rfl) | exact Or.inr (Or.inr rfl)) (hd : (x == ("__debug__" : Str)) = false := by decide)
    (hcd : (x == ("__classdict__" : Str)) = false := by decide) : PE X (.Name x pos) (tVar i) := pe_var hN hv hd hcd
end

/-! ### tests -/
theorem iteF {A B : Prop} (h : B) : if false = true then A else B := by
  rw [if_neg Bool.false_ne_true]
  exact h
theorem iteT {A B : Prop} (h : A) : if true = true then A else B := by
  rw [if_pos rfl]
  exact h
theorem ite2 {c A B : Prop} [Decidable c] (h1 : c → A) (h2 : ¬ c → B) : if c then A else B := by
  by_cases h : c
  · rw [if_pos h]
    exact h1 h
  · rw [if_neg h]
    exact h2 h
/-! ### heaps -/
noncomputable def Same (H H' : Hp) : Prop := ∀ b o, H b = some o → H' b = some o
theorem Same.refl (H : Hp) : Same H H := fun _ _ h => h
theorem Same.trans {H H1 H2 : Hp} (a : Same H H1) (b : Same H1 H2) : Same H H2 := fun c o h => b c o (a c o h)
theorem Same.seq {K : PySem.W.Frag} {H H' : Hp} {a : Addr} {xs : List V} (e : Same H H') (h : SqL K H a xs) : SqL K H' a xs := by
  rcases h with (h | ⟨o, h⟩) | h
  · exact .inl (.inl (e _ _ h))
  · exact .inl (.inr ⟨o, e _ _ h⟩)
  · exact .inr h

/-! ### a dict's pairs: keys that differ -/
section
variable {κ : Type} [DecidableEq κ]
theorem valV_not {kvs : List (κ × V)} {k : κ} (h : valV kvs k = none) : ¬ k ∈ kvs.map (·.1) := by
  intro m
  obtain ⟨p, hp, e⟩ := List.mem_map.mp m
  have q : (kvs.any fun kv => decide (kv.1 = k)) = true := List.any_eq_true.mpr ⟨p, hp, decide_eq_true e⟩
  rw [valV_any, h] at q
  exact absurd q (by simp)
theorem valV_in {kvs : List (κ × V)} {k : κ} {v : V} (h : valV kvs k = some v) : k ∈ kvs.map (·.1) := by
  have q : (kvs.any fun kv => decide (kv.1 = k)) = true := by
    rw [valV_any, h]
    all_goals rfl
  obtain ⟨p, hp, e⟩ := List.any_eq_true.mp q
  exact List.mem_map.mpr ⟨p, hp, of_decide_eq_true e⟩
end
end L2

namespace L2
open PySem PySem.Spec PyProof.Rows

/-! ### a comprehension's block: what it captures -/
noncomputable def closOf (cells : List (Str × Addr)) : List (Str × NameKind) → List (Str × Addr) → List (Str × Addr)
  | [], acc => acc
  | (n, k) :: r, acc => closOf cells r (if (k == NameKind.free) = true then (n, (cells.lookup n).getD 0) :: acc else acc)
theorem closOf_look {cells : List (Str × Addr)} {y : Str} {c : Addr} : ∀ (names : List (Str × NameKind)) (acc : List (Str × Addr)), (closOf cells names acc).lookup y = some c →
    ((y, NameKind.free) ∈ names ∧ (cells.lookup y).getD 0 = c) ∨ acc.lookup y = some c
  | [], _, h => .inr h
  | (n, k) :: r, acc, h => by
    rcases closOf_look r _ h with ⟨a, b⟩ | z
    · exact .inl ⟨List.mem_cons_of_mem _ a, b⟩
    · clear h
      by_cases e : (k == NameKind.free) = true
      · rw [if_pos e] at z
        rw [List.lookup_cons] at z
        cases q : (y == n) with
        | true =>
          rw [q] at z
          have ek : k = NameKind.free := by simpa using e
          have en : y = n := by simpa using q
          subst ek en
          exact .inl ⟨List.mem_cons_self, Option.some.inj z⟩
        | false =>
          rw [q] at z
          exact .inr z
      · rw [if_neg e] at z
        exact .inr z
theorem closOf_has {cells : List (Str × Addr)} {y : Str} : ∀ (names : List (Str × NameKind)) (acc : List (Str × Addr)), ((y, NameKind.free) ∈ names ∨ ∃ c, acc.lookup y = some c) → ∃ c, (closOf cells names acc).lookup y = some c
  | [], _, h => by
    rcases h with h | h
    · cases h
    · exact h
  | (n, k) :: r, acc, h => by
    refine closOf_has r _ ?_
    rcases h with h | ⟨c, h⟩
    · rcases List.mem_cons.mp h with e | h
      · cases e
        refine .inr ⟨(cells.lookup y).getD 0, ?_⟩
        rw [if_pos (by decide), List.lookup_cons, beq_self_eq_true]
      · exact .inl h
    · by_cases e : (k == NameKind.free) = true
      · rw [if_pos e, List.lookup_cons]
        cases q : (y == n) with
        | true => exact .inr ⟨_, rfl⟩
        | false => exact .inr ⟨c, h⟩
      · rw [if_neg e]
        exact .inr ⟨c, h⟩
theorem closureFor_clos {scope : Scope} {env : Env} (h : ∀ n, (n, NameKind.free) ∈ scope.names → ∃ c, env.cells.lookup n = some c) : closureFor scope env = pure (closOf env.cells scope.names []) := by
  have key : ∀ (names : List (Str × NameKind)) (cs : List (Str × Addr)), (∀ n, (n, NameKind.free) ∈ names → ∃ c, env.cells.lookup n = some c) →
      (forIn names cs fun (x : Str × NameKind) (r : List (Str × Addr)) => (if (x.2 == NameKind.free) = true then (cellOf env x.1 >>= fun a => pure (ForInStep.yield ((x.1, a) :: r))) else pure (ForInStep.yield r) : Sem _)) = pure (closOf env.cells names cs) := by
    intro names
    induction names with
    | nil => intro cs _; rfl
    | cons p r ih =>
      intro cs hp
      obtain ⟨n, k⟩ := p
      rw [List.forIn_cons]
      by_cases e : (k == NameKind.free) = true
      · have ek : k = NameKind.free := by simpa using e
        obtain ⟨c, hc⟩ := hp n (by rw [ek]; exact List.mem_cons_self)
        rw [if_pos e]
        have e2 : cellOf env n = pure c := by unfold cellOf; rw [hc]
        show ((cellOf env n >>= fun a => pure (ForInStep.yield ((n, a) :: cs))) >>= _) = _
        rw [e2]
        show (forIn r ((n, c) :: cs) _ : Sem _) = _
        rw [ih _ fun n' h' => hp n' (List.mem_cons_of_mem _ h')]
        show _ = pure (closOf env.cells r (if (k == NameKind.free) = true then (n, (env.cells.lookup n).getD 0) :: cs else cs))
        rw [if_pos e, hc]
        rfl
      · rw [if_neg e]
        show (forIn r cs _ : Sem _) = _
        rw [ih _ fun n' h' => hp n' (List.mem_cons_of_mem _ h')]
        show _ = pure (closOf env.cells r (if (k == NameKind.free) = true then (n, (env.cells.lookup n).getD 0) :: cs else cs))
        rw [if_neg e]
  unfold closureFor
  have e := key scope.names [] h
  show ((forIn scope.names [] fun (x : Str × NameKind) (r : List (Str × Addr)) => (if (x.2 == NameKind.free) = true then (cellOf env x.1 >>= fun a => pure (ForInStep.yield ((x.1, a) :: r))) else pure (ForInStep.yield r) : Sem _)) >>= fun r => pure r) = _
  rw [e]
  rfl
end L2

namespace L2
open PySem PySem.Spec PyProof.Rows

theorem look_mem {α : Type} {y : Str} {k : α} : ∀ {l : List (Str × α)}, l.lookup y = some k → (y, k) ∈ l
  | [], h => by cases h
  | (n, j) :: r, h => by
    rw [List.lookup_cons] at h
    cases q : (y == n) with
    | true =>
      rw [q] at h
      have en : y = n := by simpa using q
      cases h
      rw [en]
      exact List.mem_cons_self
    | false =>
      rw [q] at h
      exact List.mem_cons_of_mem _ (look_mem h)
theorem relab_some {env : Env} {x : Str} {k : NameKind} : ∀ {names : List (Str × NameKind)}, names.lookup x = some k →
    (relabel { (default : Scope) with names := names } env).names.lookup x = some k ∨ (k = .free ∧ (relabel { (default : Scope) with names := names } env).names.lookup x = some .cell)
  | [], h => by cases h
  | (n, j) :: r, h => by
    have ih := @relab_some env x k r
    rw [List.lookup_cons] at h
    show List.lookup x ((if (j == NameKind.free && env.scope.kind == .function && env.kindOf n == some .cell) = true then (n, NameKind.cell) else (n, j)) :: _) = _ ∨ (_ ∧ List.lookup x ((if (j == NameKind.free && env.scope.kind == .function && env.kindOf n == some .cell) = true then (n, NameKind.cell) else (n, j)) :: _) = _)
    cases q : (x == n) with
    | true =>
      rw [q] at h
      cases h
      by_cases e : (k == NameKind.free && env.scope.kind == .function && env.kindOf n == some .cell) = true
      · rw [if_pos e, List.lookup_cons, q]
        refine .inr ⟨?_, rfl⟩
        have z := (Bool.and_eq_true _ _ ▸ (Bool.and_eq_true _ _ ▸ e).1 : _ ∧ _).1
        simpa using z
      · rw [if_neg e, List.lookup_cons, q]
        exact .inl rfl
    | false =>
      rw [q] at h
      by_cases e : (j == NameKind.free && env.scope.kind == .function && env.kindOf n == some .cell) = true
      · rw [if_pos e, List.lookup_cons, q]
        exact ih h
      · rw [if_neg e, List.lookup_cons, q]
        exact ih h
theorem relab_of {env : Env} {x : Str} {k : NameKind} : ∀ {names : List (Str × NameKind)}, (relabel { (default : Scope) with names := names } env).names.lookup x = some k → names.lookup x = some k ∨ (names.lookup x = some .free ∧ k = .cell)
  | [], h => by cases h
  | (n, j) :: r, h => by
    have ih := @relab_of env x k r
    have h : List.lookup x ((if (j == NameKind.free && env.scope.kind == .function && env.kindOf n == some .cell) = true then (n, NameKind.cell) else (n, j)) :: (relabel { (default : Scope) with names := r } env).names) = some k := h
    rw [List.lookup_cons]
    cases q : (x == n) with
    | true =>
      by_cases e : (j == NameKind.free && env.scope.kind == .function && env.kindOf n == some .cell) = true
      · rw [if_pos e, List.lookup_cons, q] at h
        cases h
        have z := (Bool.and_eq_true _ _ ▸ (Bool.and_eq_true _ _ ▸ e).1 : _ ∧ _).1
        exact .inr ⟨by simpa using z, rfl⟩
      · rw [if_neg e, List.lookup_cons, q] at h
        exact .inl h
    | false =>
      by_cases e : (j == NameKind.free && env.scope.kind == .function && env.kindOf n == some .cell) = true
      · rw [if_pos e, List.lookup_cons, q] at h
        exact ih h
      · rw [if_neg e, List.lookup_cons, q] at h
        exact ih h

/-! ### the block's context -/
noncomputable def caps (ix : List Nat) (σ : St) : St := ix.map fun i => (σ[i]?).join
noncomputable def Cx.block (X : Cx) (scope : Scope) (C : Addr) (NB : List Str) (s2 : Shared) (H2 : Hp) (fp : List Addr) : Cx :=
  { X with N := NB, s₀ := s2, H₀ := H2, env := compEnvC scope (closOf X.env.cells scope.names []) C X.env, outer := X.stack, ex := fp, fn := fun _ => false, pn := [], xe := fun _ _ => False }
noncomputable def blockB (N : List Str) (fs scope : Scope) (x : Str) (NB : List Str) (ix : List Nat) : Bool :=
  decide (scope.kind = .function) && scope.names.all (fun y => decide (y.2 ≠ .cell)) && scope.names.all (fun y => decide (y.2 ≠ .local) || decide (scope.names.lookup y.1 = some .local)) &&
  scope.names.all (fun y => decide (y.2 ≠ .free) || (decide (fs.names.lookup y.1 = some .cell) || decide (fs.names.lookup y.1 = some .free))) && decide (scope.names.lookup x = some .local) &&
  decide (NB = x :: ix.map fun i => N.getD i x) && decide NB.Nodup && ix.all fun i => match N[i]? with | some y => decide (scope.names.lookup y = some .free) | none => false
structure BlockOk (X : Cx) (scope : Scope) (x : Str) (NB : List Str) (ix : List Nat) : Prop where
  kind : scope.kind = .function
  cell : ∀ y ∈ scope.names, y.2 ≠ .cell
  names : ∀ y ∈ scope.names, y.2 = .local → scope.names.lookup y.1 = some .local
  free : ∀ y, (y, NameKind.free) ∈ scope.names → (X.env.kindOf y = some .cell ∨ X.env.kindOf y = some .free)
  var : scope.names.lookup x = some .local
  nb : NB = x :: ix.map fun i => X.N.getD i x
  nd : NB.Nodup
  cap : ∀ i ∈ ix, ∃ y, X.N[i]? = some y ∧ scope.names.lookup y = some .free
theorem BlockOk.of {X : Cx} {N : List Str} {fs scope : Scope} {x : Str} {NB : List Str} {ix : List Nat} (h : blockB N fs scope x NB ix = true) (hN : X.N = N := by rfl) (hf : X.env.scope = fs := by rfl) : BlockOk X scope x NB ix := by
  subst hN hf
  unfold blockB at h
  simp only [Bool.and_eq_true] at h
  obtain ⟨⟨⟨⟨⟨⟨⟨h1, h2⟩, h3⟩, h4⟩, h5⟩, h6⟩, h7⟩, h8⟩ := h
  refine ⟨of_decide_eq_true h1, fun y hy => of_decide_eq_true (List.all_eq_true.mp h2 y hy), fun y hy e => ?_, fun y hy => ?_, of_decide_eq_true h5, of_decide_eq_true h6, of_decide_eq_true h7, fun i hi => ?_⟩
  · have z := List.all_eq_true.mp h3 y hy
    rw [Bool.or_eq_true] at z
    rcases z with z | z
    · exact absurd e (of_decide_eq_true z)
    · exact of_decide_eq_true z
  · have z := List.all_eq_true.mp h4 _ hy
    rw [Bool.or_eq_true, Bool.or_eq_true] at z
    rcases z with z | z | z
    · exact absurd rfl (of_decide_eq_true z)
    · exact .inl (of_decide_eq_true z)
    · exact .inr (of_decide_eq_true z)
  · have z := List.all_eq_true.mp h8 i hi
    cases e : X.N[i]? with
    | none => rw [e] at z; cases z
    | some y => rw [e] at z; exact ⟨y, rfl, of_decide_eq_true z⟩

noncomputable def PTs (X : Cx) (ifs : List Expr) (t : TT) : Prop :=
  ∀ (pins : List (Addr × Obj)) (s : Shared) (σ : St) (H : Hp) (Q : Bool → Hp → Prop), Inv X pins σ H s → t σ H Q →
    wpAny (model X.prog X.w) X.A (forIn ifs true fun c r => if r = true then do let ok ← isTrue c X.env (eval c X.env); pure (ForInStep.yield ok) else pure (ForInStep.yield r)) (TP X pins σ Q) X.xe s
noncomputable def tYes : TT := fun _ H Q => Q true H
theorem pts_nil {X : Cx} : PTs X [] tYes := fun _ _ _ H _ I h => wpAny_tests_nil ⟨H, I, h⟩
theorem pts_one {X : Cx} {c : Expr} {t : TT} (h : PT X c t) : PTs X [c] t := fun pins s σ H Q I hw => wpAny_tests_one (h pins s σ H Q I hw)

noncomputable def CompW (J : It) (os : St) (tt : TT) (te : TE) (H1 : Hp) (Q : VK) : Prop :=
  ∃ W : Nat → Nat → List V → Hp → Prop, (∃ m, W 0 m [] H1) ∧ ∀ i m ys H, W i m ys H →
    (J.stop i H ∧ ∀ p, H p = none → Q (.ref p) (upd H p (.lst ys))) ∨
    (J.go i H ∧ ys.length < sizeLine ∧ ∃ N : List V → Hp → Prop, (∀ ys' H', N ys' H' → ∃ m', m' < m ∧ W (i + 1) m' ys' H') ∧ ∀ x H', J.yld i H x H' → tt (some x :: os) H' fun b H2 => if b = true then te (some x :: os) H2 fun v H3 => N (ys ++ [v]) H3 else N ys H2)
theorem comp_range {lo : Int} {n : Nat} {os : St} {tt : TT} {te : TE} {H : Hp} {Q : VK} (Pv : Nat → List V → Hp → Prop) (h0 : Pv 0 [] H) (hz : ∀ i ys H, i < n → Pv i ys H → ys.length < sizeLine)
    (hs : ∀ (i : Nat) ys H, i < n → Pv i ys H → tt (some (.int (lo + i)) :: os) H fun b H2 => if b = true then te (some (.int (lo + i)) :: os) H2 fun v H3 => Pv (i + 1) (ys ++ [v]) H3 else Pv (i + 1) ys H2)
    (hd : ∀ ys H, Pv n ys H → ∀ p, H p = none → Q (.ref p) (upd H p (.lst ys))) : CompW (Itr lo n) os tt te H Q := by
  refine ⟨fun i m ys H => m = n - i ∧ i ≤ n ∧ Pv i ys H, ⟨n, by simp, Nat.zero_le _, h0⟩, ?_⟩
  rintro i m ys H ⟨rfl, hi, p⟩
  by_cases hlt : i < n
  · refine .inr ⟨hlt, hz i ys H hlt p, Pv (i + 1), fun ys' H' p' => ⟨n - (i + 1), by omega, rfl, hlt, p'⟩, fun x H' y => ?_⟩
    obtain ⟨e, y⟩ := y
    subst e y
    exact hs i ys _ hlt p
  · have e : i = n := by omega
    subst e
    exact .inl ⟨Nat.le_refl _, hd ys H p⟩
theorem comp_list {K : PySem.W.Frag} {a : Addr} {xs : List V} {os : St} {tt : TT} {te : TE} {H : Hp} {Q : VK} (Pv : Nat → List V → Hp → Prop) (h0 : Pv 0 [] H) (hz : ∀ i ys H, i < xs.length → Pv i ys H → ys.length < sizeLine)
    (hl : ∀ i ys H, i ≤ xs.length → Pv i ys H → SqL K H a xs)
    (hs : ∀ (i : Nat) x ys H, xs[i]? = some x → Pv i ys H → tt (some x :: os) H fun b H2 => if b = true then te (some x :: os) H2 fun v H3 => Pv (i + 1) (ys ++ [v]) H3 else Pv (i + 1) ys H2)
    (hd : ∀ ys H, Pv xs.length ys H → ∀ p, H p = none → Q (.ref p) (upd H p (.lst ys))) : CompW (Itl K a) os tt te H Q := by
  refine ⟨fun i m ys H => m = xs.length - i ∧ i ≤ xs.length ∧ Pv i ys H, ⟨xs.length, by simp, Nat.zero_le _, h0⟩, ?_⟩
  rintro i m ys H ⟨rfl, hi, p⟩
  have q := hl i ys H hi p
  by_cases hlt : i < xs.length
  · refine .inr ⟨⟨xs, xs[i], q, by simp [hlt]⟩, hz i ys H hlt p, Pv (i + 1), fun ys' H' p' => ⟨xs.length - (i + 1), by omega, rfl, hlt, p'⟩, fun x H' y => ?_⟩
    obtain ⟨e, y⟩ := y
    subst e
    exact hs i x ys _ (y xs q) p
  · have e : i = xs.length := by omega
    subst e
    exact .inl ⟨⟨xs, q, Nat.le_refl _⟩, hd ys H p⟩
noncomputable abbrev lstO (its : List Value) (n : Nat) : Obj := { cls := .type "list", data := .seq its.toArray n }

section
variable {X : Cx} {scope : Scope} {x : Str} {NB : List Str} {ix : List Nat} {pins : List (Addr × Obj)} {σ : St} {H2 : Hp} {s2 : Shared} {fp : List Addr}
theorem BlockOk.clos (B : BlockOk X scope x NB ix) (I2 : Inv X pins σ H2 s2) : closureFor scope X.env = pure (closOf X.env.cells scope.names []) :=
  closureFor_clos fun n hn => I2.ok.has n (B.free n hn)
theorem BlockOk.look (B : BlockOk X scope x NB ix) (I2 : Inv X pins σ H2 s2) {y : Str} {c : Addr} (h : (closOf X.env.cells scope.names []).lookup y = some c) : X.env.cells.lookup y = some c := by
  rcases closOf_look _ _ h with ⟨m, e⟩ | e
  · obtain ⟨c', hc⟩ := I2.ok.has y (B.free y m)
    rw [hc] at e ⊢
    exact congrArg some e
  · cases e
theorem block_ok (B : BlockOk X scope x NB ix) (I2 : Inv X pins σ H2 s2) {C : Addr} (hC : s2.heap.objs.size ≤ C) (f2 : ∀ b ∈ fp, FpOk X pins H2 b) (ft : ∀ b ∈ fp, b < s2.heap.objs.size) : (X.block scope C NB s2 H2 fp).Ok where
  mod := I2.ok.mod
  kind := B.kind
  glob := I2.ok.glob
  blt := I2.ok.blt
  above := hC
  inj := fun a b c h1 h2 => I2.ok.inj a b c (B.look I2 h1) (B.look I2 h2)
  has := fun y hy => by
    have key : ∀ k, (relabel scope X.env).names.lookup y = some k → (k = .cell ∨ k = .free) → ∃ c, (closOf X.env.cells scope.names []).lookup y = some c := fun k hk kk => by
      rcases relab_of (names := scope.names) hk with e | ⟨e, _⟩
      · rcases kk with rfl | rfl
        · exact absurd rfl (B.cell _ (look_mem e))
        · exact closOf_has _ _ (.inl (look_mem e))
      · exact closOf_has _ _ (.inl (look_mem e))
    rcases hy with e | e
    · exact key _ e (.inl rfl)
    · exact key _ e (.inr rfl)
  cab := fun _ _ z => by cases z
  hd := I2.ok.hd
  frames := I2.ok.frames
  stk := .inl rfl
  exf := fun b hb => ⟨Nat.ne_of_lt (Nat.lt_of_lt_of_le (ft b hb) hC), fun y c e => (f2 b hb).2.2.2.2.1 y c (B.look I2 e)⟩
  bs := I2.bs
  bsz := Nat.le_trans I2.ok.bsz I2.sz
  noex := fun b o e hb => by
    rcases (f2 b hb).2.2.2.1 with z | z
    · exact I2.ok.noex b o e z
    · exact absurd (Nat.lt_of_lt_of_le (Heap.lt_size (I2.ok.bs b o e).1) z) (Nat.lt_irrefl _)
  exfs := fun b hb z => by
    rcases List.mem_cons.mp (I2.stkSub b z) with e | e
    · exact (f2 b hb).2.1 e
    · exact (f2 b hb).2.2.1 e
  funs := I2.stack
  frf := I2.stkFree
theorem caps_len (ix : List Nat) (σ : St) : (caps ix σ).length = ix.length := by unfold caps; rw [List.length_map]

theorem block_inv (B : BlockOk X scope x NB ix) (I2 : Inv X pins σ H2 s2) {C D : Addr} {h1 : Heap} {tk : Nat} {m : Str → Option Value} {oD : Obj} (hC : s2.heap.objs.size ≤ C) (hD : s2.heap.objs.size ≤ D) (hDC : D ≠ C) (f2 : ∀ b ∈ fp, FpOk X pins H2 b) (ft : ∀ b ∈ fp, b < s2.heap.objs.size)
    (old : ∀ b o, s2.heap.get? b = some o → h1.get? b = some o) (hn : h1.Ns C m) (ho : h1.get? D = some oD) (hcl : ∀ v, oD.data ≠ .cell v) :
    Inv (X.block scope C NB s2 H2 fp) [(D, oD)] (none :: caps ix σ) H2 { s2 with heap := h1, toks := tk } where
  ok := block_ok B I2 hC f2 ft
  os := rfl
  bare := I2.bare
  base := Un.kept old
  loc := by
    refine ⟨m, hn, fun i y v e1 e2 _ => ?_⟩
    have e1 : NB[i]? = some y := e1
    cases i with
    | zero => cases e2
    | succ j =>
      have e2 : (caps ix σ)[j]? = some (some v) := e2
      rw [B.nb] at e1
      have e1 : (ix.map fun i => X.N.getD i x)[j]? = some y := e1
      rw [List.getElem?_map] at e1
      unfold caps at e2
      rw [List.getElem?_map] at e2
      cases q : ix[j]? with
      | none => rw [q] at e1; cases e1
      | some i =>
        rw [q] at e1 e2
        obtain ⟨z, hz, fz⟩ := B.cap i (List.mem_of_getElem? q)
        have ey : y = z := by
          have w : X.N.getD i x = y := Option.some.inj e1
          rw [← w, List.getD_eq_getElem?_getD, hz]
          rfl
        subst ey
        have e2 : (σ[i]?).join = some v := Option.some.inj e2
        have es : σ[i]? = some (some v) := by
          cases w : σ[i]? with
          | none => rw [w] at e2; cases e2
          | some o => rw [w] at e2; exact congrArg some e2
        have fk := B.free y (look_mem fz)
        have vis : Vis X.env.scope y := .inr fk
        obtain ⟨mm, _, hl⟩ := I2.loc
        obtain ⟨u, ru, lk⟩ := hl i y v hz es vis
        refine ⟨u, ru, .inr ⟨?_, ?_⟩⟩
        · rcases relab_some (env := X.env) (names := scope.names) fz with e | ⟨_, e⟩
          · exact .inr e
          · exact .inl e
        · rcases lk with ⟨lk, _⟩ | ⟨_, c, hc, hcell⟩
          · rcases fk with fk | fk
            · rw [lk] at fk; cases fk
            · rw [lk] at fk; cases fk
          · obtain ⟨c', hc'⟩ := closOf_has (cells := X.env.cells) scope.names [] (.inl (look_mem fz))
            have e3 := B.look I2 hc'
            rw [hc] at e3
            cases e3
            obtain ⟨oc, g1, g2⟩ := hcell
            exact ⟨c, hc', oc, old _ _ g1, g2⟩
  cell := fun y c e => by
    obtain ⟨v, o, g1, g2⟩ := I2.cell y c (B.look I2 e)
    exact ⟨v, o, old _ _ g1, g2⟩
  free := I2.hok.fresh hC
  freeC := fun y c e => I2.freeC y c (B.look I2 e)
  pin := fun p hp => by
    have e : p = (D, oD) := by simpa [Cx.block] using hp
    subst e
    refine ⟨ho, I2.hok.fresh hD, hDC, fun z => ?_, hcl⟩
    rcases List.mem_cons.mp (I2.stkSub D z) with e | e
    · have e : D = X.env.locals := e
      exact absurd (Nat.lt_of_lt_of_le I2.lt (e ▸ hD)) (Nat.lt_irrefl _)
    · exact I2.nofs hD e
  hok := I2.hok.kept old
  len := by
    show (none :: caps ix σ).length = NB.length
    rw [B.nb, List.length_cons, List.length_cons, caps_len, List.length_map]
end
end L2

namespace L2
open PySem PySem.Spec PyProof.Rows

section
variable {X : Cx} {scope : Scope} {x : Str} {NB : List Str} {ix : List Nat} {pins : List (Addr × Obj)} {σ : St} {H2 : Hp} {s2 : Shared} {fp : List Addr}
theorem block_end {C D : Addr} {H' : Hp} {s4 : Shared} {σB : St} {its : List Value} {n : Nat} {ys : List V} (I2 : Inv X pins σ H2 s2) (f2 : ∀ b ∈ fp, FpOk X pins H2 b) (hD : s2.heap.objs.size ≤ D)
    (I4 : Inv (X.block scope C NB s2 H2 fp) [(D, lstO its n)] σB H' s4) (rv : Vals ys its) (hz : ys.length ≤ sizeLine) : Inv X pins σ (upd H' D (.lst ys)) s4 := by
  have hp := I4.pin (D, lstO its n) (by show _ ∈ [] ++ [(D, lstO its n)]; simp)
  have hfree : H' D = none := hp.2.1
  have neD : ∀ b o, s2.heap.get? b = some o → b ≠ D := fun b o e => Nat.ne_of_lt (Nat.lt_of_lt_of_le (Heap.lt_size e) hD)
  have neT : ∀ b o, H2 b = some o → b ≠ D := fun b o e => Nat.ne_of_lt (Nat.lt_of_lt_of_le (I2.hok.lt e) hD)
  have u : Un (frs X.stack) fp H2 H' s2.heap s4.heap := I4.base
  refine I2.call' (ch := fp) I4.os ⟨u.keep, u.slot, fun b o e n hx => ?_, u.there, fun b xs e => ?_, fun b o v e => ?_, fun b ps e => ?_⟩ (fun b o e => ?_) I4.bare fun b hb => ?_
  · rw [upd_ne (neD b o e)]
    exact u.free b o e n hx
  · rw [upd_ne (neT b _ e)]
    exact u.tups b xs e
  · rw [upd_ne (neT b _ e)]
    exact u.frzs b o v e
  · rw [upd_ne (neT b _ e)]
    exact u.tbls b ps e
  · by_cases hb : b = D
    · subst hb
      rw [upd_same] at e
      cases e
      exact ⟨hz, its, n, rv, hp.1⟩
    · rw [upd_ne hb] at e
      have ne : ∀ {c : Addr} {w : HO}, H' c = some w → c ≠ D := fun {c w} q z => by rw [z, hfree] at q; cases q
      exact (I4.hok b o e).stay (fun _ _ _ q => q) (fun c q => by rw [upd_ne (ne q)]; exact q) fun c xs q => by rw [upd_ne (ne q)]; exact q
  · obtain ⟨_, g1, g2, g3, g4, g5⟩ := f2 b hb
    exact ⟨g3, g1, g4, g5⟩

theorem comp_core {elt iter : Expr} {ifs : List Expr} {px pos : Pos} {tt : TT} {te : TE} {J : It} {it : Addr} {tn : Nat → Heap → Prop} {E : Value → Shared → Prop} {RR : Value → Addr → Result → Shared → Prop} {Qr : VK}
    (B : BlockOk X scope x NB ix) (hc : X.calm = true)
    (he : ∀ (C : Addr) (s : Shared) (H : Hp) (fp : List Addr), PE (X.block scope C NB s H fp) elt te) (ht : ∀ (C : Addr) (s : Shared) (H : Hp) (fp : List Addr), PTs (X.block scope C NB s H fp) ifs tt)
    (I2 : Inv X pins σ H2 s2) (T : Turn X.prog X.w X.K (.Name x px) J fp it tn) (st2 : tn 0 s2.heap) (f2 : ∀ b ∈ fp, FpOk X pins H2 b) (h : CompW J (caps ix σ) tt te H2 Qr)
    (hRR : ∀ (D C : Addr) (Hf : Hp) (s' : Shared) (m' : Str → Option Value), Inv X pins σ Hf s' → s'.heap.Ns C m' → FpOk X pins Hf C → Qr (.ref D) Hf → RR (.ref D) C (.ok .next) s') :
    wpAny (model X.prog X.w) X.A (newList []) (fun acc s3 => wpAny (model X.prog X.w) X.A (newFunctionEnv scope X.env.globals (closOf X.env.cells scope.names []) [] X.env.qual none .none (some X.env)) (fun cenv s4 =>
      codeAny (model X.prog X.w) X.A (.compStart (.ListComp elt [⟨.Name x px, iter, ifs, 0⟩] scope pos) 0 (.ref it) acc { cenv with scope := relabel scope X.env }) (RR acc cenv.locals) s4) E s3) E s2 := by
  obtain ⟨W, ⟨m0, w0⟩, turn⟩ := h
  refine wpAny_newObj_type (wpAny_newFunctionEnv B.cell (by intro y hy; simp at hy) (fun h1 hns hsb => ?_) B.kind)
  dsimp only at hns hsb ⊢
  generalize eG : s2.heap.push { cls := .type "list", dict := none, data := .seq ([] : List Value).toArray } = G at hns hsb ⊢
  have hC : G.objs.size = s2.heap.objs.size + 1 := by rw [← eG, Heap.size_push]
  have hDC : s2.heap.objs.size ≠ G.objs.size := by rw [hC]; exact Nat.ne_of_lt (Nat.lt_succ_self _)
  have hCle : s2.heap.objs.size ≤ G.objs.size := by rw [hC]; exact Nat.le_succ _
  have old : ∀ b o, s2.heap.get? b = some o → h1.get? b = some o := fun b o e => by
    have lt := Heap.lt_size e
    exact hsb.extBut b o (Nat.ne_of_lt (Nat.lt_of_lt_of_le lt hCle)) (Heap.get?_push_of_some _ (eG ▸ Heap.get?_push_of_some _ e))
  have hacc : h1.get? s2.heap.objs.size = some (lstO [] 0) := hsb.extBut _ _ hDC (Heap.get?_push_of_some _ (eG ▸ Heap.get?_push_size _ rfl))
  have ft : ∀ b ∈ fp, b < s2.heap.objs.size := fun b hb => by
    obtain ⟨o, e, _⟩ := T.obj _ _ st2 b hb
    exact Heap.lt_size e
  have loop : ∀ s3 : Shared, s3 = { s2 with heap := h1, toks := s2.toks + ([] : List (Str × Value)).length } →
      codeAny (model X.prog X.w) X.A (.compLoop (.ListComp elt [⟨.Name x px, iter, ifs, 0⟩] scope pos) 0 (.ref it) (.ref s2.heap.objs.size) (compEnvC scope (closOf X.env.cells scope.names []) G.objs.size X.env))
        (RR (.ref s2.heap.objs.size) G.objs.size) s3 := by
    rintro s3 rfl
    have I3 := block_inv (tk := s2.toks + ([] : List (Str × Value)).length) B I2 hCle (Nat.le_refl _) hDC f2 ft old hns hacc (fun v q => by cases q)
    have st3 : tn 0 h1 := T.keep _ _ _ st2 fun b _ o e => old b o e
    have fy : ∀ {H' : Hp} {oD : Obj}, (∀ b ∈ fp, H' b = none) → ∀ b ∈ fp, FpOk (X.block scope G.objs.size NB s2 H2 fp) [(s2.heap.objs.size, oD)] H' b := fun {H' oD} hn b hb => by
      refine ⟨hn b hb, Nat.ne_of_lt (Nat.lt_of_lt_of_le (ft b hb) hCle), fun z => ?_, .inl hb, fun y c e => (f2 b hb).2.2.2.2.1 y c (B.look I2 e), fun p hp => ?_⟩
      · rcases List.mem_cons.mp (I2.stkSub b z) with e | e
        · exact (f2 b hb).2.1 e
        · exact (f2 b hb).2.2.1 e
      · have e : p = (s2.heap.objs.size, oD) := by simpa [Cx.block] using hp
        subst e
        exact Ne.symm (Nat.ne_of_lt (ft b hb))
    refine codeAny_compLoop_tests (fun n s' => ∃ i ys its nn o H', W i n ys H' ∧ Inv (X.block scope G.objs.size NB s2 H2 fp) [(s2.heap.objs.size, lstO its nn)] (o :: caps ix σ) H' s' ∧ tn i s'.heap ∧ (∀ b ∈ fp, H' b = none) ∧ Vals ys its ∧ ys.length ≤ sizeLine)
      ?_ m0 ⟨0, [], [], 0, none, H2, w0, I3, st3, fun b hb => (f2 b hb).1, .nil, Nat.zero_le _⟩
    rintro n s' ⟨i, ys, its, nn, o, H', w', I', st', fr', rv, hz⟩
    rcases turn i n ys H' w' with ⟨stop, q⟩ | ⟨go, hlt, Nx, hNx, step⟩
    · refine wpAny_mono (T.done (X.block scope G.objs.size NB s2 H2 fp) rfl rfl rfl hc i _ s' _ H' (fun _ _ => False) I' (fy fr') st' stop) (fun r s4 ⟨hr, I4⟩ => ?_) fun _ _ z => z.elim
      subst hr
      have I5 := block_end I2 f2 (Nat.le_refl _) I4 rv hz
      obtain ⟨m4, hn4, _⟩ := I4.loc
      have hfree : H' s2.heap.objs.size = none := (I4.pin (s2.heap.objs.size, lstO its nn) (by show _ ∈ [] ++ [(s2.heap.objs.size, lstO its nn)]; simp)).2.1
      refine hRR _ _ _ s4 m4 I5 hn4 (I2.fpOk hCle ?_) (q _ hfree)
      rw [upd_ne (Ne.symm hDC)]
      exact I4.free
    · refine wpAny_mono (T.item (X.block scope G.objs.size NB s2 H2 fp) rfl rfl rfl hc i _ s' _ H' (fun _ _ => False) I' (fy fr') st' go) (fun r s4 ⟨u, hr, h4⟩ => ?_) fun _ _ z => z.elim
      subst hr
      intro Γ p hΓ
      obtain ⟨v, H5, I5, r5, y5, st5, fr5⟩ := h4 Γ p hΓ
      refine (?_ : wpAny (model X.prog X.w) X.A _ _ _ s4) Γ p hΓ
      have pIt : ∀ b ∈ fp, ∃ o, s4.heap.get? b = some o ∧ ∀ v, o.data ≠ .cell v := T.obj _ _ st5
      have I5' := I5.pinned (fy fr5) pIt
      have hg := pg_name (X := X.block scope G.objs.size NB s2 H2 fp) (i := 0) (x := x) (pos := px) B.nd (by show NB[0]? = some x; rw [B.nb]; rfl)
        (.inl (lookup_relabel_local B.var)) (.inr (lookup_relabel_local B.var))
      refine wpAny_mono (hg _ s4 _ H5 v u (fun σ' H' => σ' = some v :: caps ix σ ∧ H' = H5) I5' r5 ⟨rfl, rfl⟩) (fun _ s6 h6 => ?_) fun _ _ z => z.elim
      obtain ⟨σ6, H6, I6, e6, e7⟩ := h6
      subst e6 e7
      refine wpAny_mono (ht _ _ _ _ _ s6 _ _ _ I6 (step v H6 y5)) (fun b s7 ⟨H7, I7, q7⟩ => ?_) fun _ _ z => z.elim
      -- what stays of the iterator
      have stays : ∀ {s9 : Shared} {H9 : Hp} {σ9 : St} {oD : Obj}, Inv (X.block scope G.objs.size NB s2 H2 fp) ([(s2.heap.objs.size, oD)] ++ pinsAt fp s4.heap) σ9 H9 s9 → tn (i + 1) s9.heap ∧ ∀ b ∈ fp, H9 b = none := fun {s9 H9 σ9 oD} I9 => by
        refine ⟨T.keep _ _ _ st5 fun b hb o e => (I9.pin (b, o) (List.mem_append_right _ (List.mem_append_right _ (mem_pinsAt hb e)))).1, fun b hb => ?_⟩
        obtain ⟨o, e, d⟩ := pIt b hb
        exact (I9.pin (b, o) (List.mem_append_right _ (List.mem_append_right _ (mem_pinsAt hb e)))).2.1
      cases b with
      | false =>
        rw [if_neg Bool.false_ne_true] at q7 ⊢
        obtain ⟨m', hm, w7⟩ := hNx _ _ q7
        obtain ⟨g1, g2⟩ := stays I7
        exact ⟨m', hm, i + 1, ys, its, nn, some v, H7, w7, I7.unpinned, g1, g2, rv, hz⟩
      | true =>
        rw [if_pos rfl] at q7 ⊢
        refine wpAny_mono (he _ _ _ _ _ s7 _ _ _ I7 q7) (fun y s8 ⟨yv, H8, I8, r8, n8⟩ => ?_) fun _ _ z => z.elim
        obtain ⟨m', hm, w8⟩ := hNx _ _ n8
        obtain ⟨g1, g2⟩ := stays I8
        have pD := I8.pin (s2.heap.objs.size, lstO its nn) (by show _ ∈ [] ++ ([(s2.heap.objs.size, lstO its nn)] ++ pinsAt fp s4.heap); simp)
        refine append_at (hsz := by rw [List.size_toArray, ← rv.length]; exact hz) pD.1 fun h9 hs9 hD9 => ?_
        have hno : s2.heap.objs.size ∉ fp := fun z => Nat.lt_irrefl _ (ft _ z)
        have I8u := I8.unpinned
        have I8n := I8u.pins_of (pins' := []) (fun _ z => nomatch z)
        have I9 := I8n.turned (h' := h9) (t' := s8.toks) (it := s2.heap.objs.size) (fun b o hb e => hs9.extBut b o hb e) pD.2.1 pD.2.2.1 (.inr (Nat.le_refl _))
          (fun y c e z => by
            obtain ⟨w, q⟩ := I2.cell y c (B.look I2 e)
            exact Nat.lt_irrefl _ (z ▸ q.lt)) (fun p hp => by cases hp)
        have e9 : lstO (its ++ [y]) (nn + 1) = { cls := .type "list", data := .seq (its.toArray.push y) (nn + 1) } := by
          show ({ cls := .type "list", data := .seq (its ++ [y]).toArray (nn + 1) } : Obj) = _
          rw [List.push_toArray]
        have I10 : Inv (X.block scope G.objs.size NB s2 H2 fp) [(s2.heap.objs.size, lstO (its ++ [y]) (nn + 1))] (some v :: caps ix σ) H8 { s8 with heap := h9 } := by
          refine I9.pins_of fun p hp => ?_
          have e : p = (s2.heap.objs.size, lstO (its ++ [y]) (nn + 1)) := by simpa using hp
          subst e
          exact ⟨hD9.trans (congrArg some e9.symm), pD.2.1, pD.2.2.1, pD.2.2.2.1, fun v q => by cases q⟩
        refine ⟨m', hm, i + 1, ys ++ [yv], its ++ [y], nn + 1, some v, H8, w8, I10, T.keep _ _ _ g1 fun b hb o e => hs9.extBut b o (fun z => hno (z ▸ hb)) e, g2, Vals.append rv (.cons r8 .nil), ?_⟩
        rw [List.length_append]
        exact hlt
  exact codeAny_compStart_list (loop _ rfl) (T.self _ 0 _ _ _ (T.keep _ _ _ st2 fun b _ o e => old b o e) (loop _ rfl))

noncomputable def tComp (wi : TI) (ix : List Nat) (tt : TT) (te : TE) : TE := fun σ H Q => wi σ H fun J H1 => CompW J (caps ix σ) tt te H1 Q
theorem pe_comp {elt iter : Expr} {ifs : List Expr} {px pos : Pos} {wi : TI} {tt : TT} {te : TE} (B : BlockOk X scope x NB ix) (hc : X.calm = true) (hi : PI X (.Name x px) iter wi)
    (he : ∀ (C : Addr) (s : Shared) (H : Hp) (fp : List Addr), PE (X.block scope C NB s H fp) elt te) (ht : ∀ (C : Addr) (s : Shared) (H : Hp) (fp : List Addr), PTs (X.block scope C NB s H fp) ifs tt)
    (hs : ∀ v, foldedSetIterable iter X.env v = pure v := by intro _; rfl) : PE X (.ListComp elt [⟨.Name x px, iter, ifs, 0⟩] scope pos) (tComp wi ix tt te) := by
  intro pins s σ H Q I h
  rw [eval_ListComp]
  refine wpAny_comprehension_free (use := none) rfl hs (B.clos I) B.kind B.names (thn (hi pins s σ H _ I h) fun v s1 h1 => thn h1 fun itv s2 h2 => ?_)
  obtain ⟨it, fp, tn, J, H2, e, I2, T, st2, f2, w⟩ := h2
  subst e
  refine comp_core (RR := fun acc C => compPost (model X.prog X.w) X.A X.xe none (EP X pins σ Q) acc C) B hc he ht I2 T st2 f2 w fun D C Hf s' m' I' hn' fC q => ?_
  refine ⟨m', hn', fun h'' hs'' => ⟨.ref D, Hf, ?_, rfl, q⟩⟩
  obtain ⟨c0, c1, c2, c3, c4, c5⟩ := fC
  exact I'.turned (it := C) (t' := s'.toks) (fun b o hb e => hs''.extBut b o hb e) c0 c1 c3 c4 c5
theorem ps_comp {elt iter : Expr} {ifs : List Expr} {px pos py spos : Pos} {wi : TI} {tt : TT} {te : TE} {j : Nat} {y : Str} (hN : X.N.Nodup) (hj : X.N[j]? = some y) (hy : X.env.scope.names.lookup y = some .local)
    (B : BlockOk X scope x NB ix) (hc : X.calm = true) (hi : PI X (.Name x px) iter wi)
    (he : ∀ (C : Addr) (s : Shared) (H : Hp) (fp : List Addr), PE (X.block scope C NB s H fp) elt te) (ht : ∀ (C : Addr) (s : Shared) (H : Hp) (fp : List Addr), PTs (X.block scope C NB s H fp) ifs tt)
    (hsw : swapsWith (.ListComp elt [⟨.Name x px, iter, ifs, 0⟩] scope pos) (some (.Name y py)) spos.line X.env = pure true)
    (hs : ∀ v, foldedSetIterable iter X.env v = pure v := by intro _; rfl) : PS X (.Assign [.Name y py] (.ListComp elt [⟨.Name x px, iter, ifs, 0⟩] scope pos) spos) (tAsg (tComp wi ix tt te) (gName j)) := by
  intro pins s σ H Dn I h
  rw [exec_Assign_Name_used _ _ _ _ hsw]
  refine wpAny_bind (wpAny_standAt (wpAny_bind ?_))
  show wpAny (model X.prog X.w) X.A (comprehension (.ListComp elt [⟨.Name x px, iter, ifs, 0⟩] scope pos) scope X.env _ (newList []) false (eval iter X.env) (some (assign (.Name y py) X.env)) >>= fun _ => pure ()) _ _ s
  refine wpAny_bind (thn (wpAny_comprehension_free (use := some (assign (.Name y py) X.env)) (Q := fun _ s' => SP X pins Dn .next s') rfl hs (B.clos I) B.kind B.names (thn (hi pins s σ H _ I h) fun v s1 h1 => thn h1 fun itv s2 h2 => ?_)) fun _ s' q => wpAny_pure (wpAny_pure q))
  obtain ⟨it, fp, tn, J, H2, e, I2, T, st2, f2, w⟩ := h2
  subst e
  refine comp_core (RR := fun acc C => compPost (model X.prog X.w) X.A X.xe (some (assign (.Name y py) X.env)) (fun _ s' => SP X pins Dn .next s') acc C) B hc he ht I2 T st2 f2 w fun D C Hf s' m' I' hn' fC q => ?_
  obtain ⟨c0, c1, c2, c3, c4, c5⟩ := fC
  show wpAny (model X.prog X.w) X.A (assign (.Name y py) X.env (.ref D)) _ _ s'
  refine wpAny_assign_Name (store_ok2 I' hN hj (.inl hy) (v := .ref D) rfl (fun s'' I'' ⟨a, sb, ha⟩ => ?_) (.inr hy))
  have hCa : C ≠ a := by
    rcases ha with e | e
    · rw [e]; exact c1
    · exact fun z => c4 y a e z.symm
  refine ⟨m', hn'.sameBut sb hCa, fun h3 hs3 => ⟨_, Hf, ?_, q⟩⟩
  exact I''.turned (it := C) (t' := s''.toks) (fun b o hb e => hs3.extBut b o hb e) c0 c1 c3 c4 c5
end
end L2

namespace L2
open PySem PySem.Spec PyProof.Rows PySem.W

noncomputable def six (newId : String) (l : List (Option Value)) : Bool := l.length == 6 && (match (l[4]? : Option (Option Value)) with | some (some (Value.builtin n)) => n == newId | _ => false)
noncomputable def ownTail (K : Frag) (C : Addr) (bmB : List Value) : List Value → Bool
  | .ref C' :: bm => C' == C && tailIn K bmB bm
  | _ => false
theorem six_of {newId : String} {l : List (Option Value)} (h : six newId l = true) : ∃ k0 k1 k2 k3 k5, l = [k0, k1, k2, k3, some (.builtin newId), k5] := by
  unfold six at h
  rw [Bool.and_eq_true] at h
  obtain ⟨h1, h2⟩ := h
  have h1 : l.length = 6 := eq_of_beq h1
  rcases l with _ | ⟨k0, _ | ⟨k1, _ | ⟨k2, _ | ⟨k3, _ | ⟨k4, _ | ⟨k5, _ | ⟨k6, l⟩⟩⟩⟩⟩⟩⟩
  case cons.cons.cons.cons.cons.cons.nil =>
    cases k4 with
    | none => cases h2
    | some v =>
      cases v with
      | builtin n => exact ⟨k0, k1, k2, k3, k5, by rw [show n = newId from eq_of_beq h2]⟩
      | _ => cases h2
  case cons.cons.cons.cons.cons.cons.cons => cases h1
  all_goals cases h1
theorem ownTail_of {K : Frag} {C : Addr} {bmB l : List Value} (h : ownTail K C bmB l = true) : ∃ bm, l = .ref C :: bm ∧ tailIn K bmB bm = true := by
  cases l with
  | nil => cases h
  | cons v bm =>
    cases v with
    | ref a =>
      have h : (a == C && tailIn K bmB bm) = true := h
      rw [Bool.and_eq_true] at h
      exact ⟨bm, by rw [show a = C from eq_of_beq h.1], h.2⟩
    | _ => cases h
theorem there_of {P : Program} {w : World} {H : Hp} {h : Heap} {a : Addr} {o : HO} (x : ObjOk P w H h a o) : ∃ ob, h.get? a = some ob := by
  cases o with
  | lst xs => obtain ⟨_, _, _, _, e⟩ := x; exact ⟨_, e⟩
  | tup xs => obtain ⟨_, _, _, ob, e, _⟩ := x; exact ⟨_, e⟩
  | dK kvs => obtain ⟨_, _, _, _, ob, _, _, e, _⟩ := x; exact ⟨_, e⟩
  | dT kvs => obtain ⟨_, _, _, _, ob, _, _, e, _⟩ := x; exact ⟨_, e⟩
  | set S n => obtain ⟨ob, _, _, _, e, _⟩ := x; exact ⟨_, e⟩
  | ins C dx fs => obtain ⟨_, _, _, e, _⟩ := x; exact ⟨_, e⟩
  | own y => exact x
  | xd fs => obtain ⟨_, ⟨od, _, _, e, _⟩, _⟩ := x; exact ⟨_, e⟩
  | rng lo hi => obtain ⟨_, _, _, e⟩ := x; exact ⟨_, e⟩
  | frz ob u => obtain ⟨e, _⟩ := x; exact ⟨_, e⟩
  | tbl ps => exact ⟨_, x⟩
  | met f y => exact ⟨_, x⟩
  | ext φ => obtain ⟨_, e, _⟩ := x; exact e
section
variable {X : Cx} {pins : List (Addr × Obj)} {σ : St} {H : Hp} {s : Shared} {h' : Heap}
theorem Inv.free_of (I : Inv X pins σ H s) {a : Addr} (hn : s.heap.get? a = none) : H a = none := by
  cases z : H a with
  | none => rfl
  | some o =>
    obtain ⟨ob, e⟩ := there_of (I.hok a o z)
    rw [hn] at e
    cases e
theorem Inv.laidN {a : Addr} {o : HO} {t' : Nat} (I : Inv X pins σ H s) (k : ∀ b u, s.heap.get? b = some u → h'.get? b = some u) (hn : s.heap.get? a = none) (new : ObjOk X.prog X.w (upd H a o) h' a o) :
    Inv X pins σ (upd H a o) { s with heap := h', toks := t' } := by
  have hf := I.free_of hn
  have neA : ∀ b u, s.heap.get? b = some u → b ≠ a := fun b u e z => by rw [z, hn] at e; cases e
  have neT : ∀ b u, H b = some u → b ≠ a := fun b u e z => by rw [z, hf] at e; cases e
  refine I.un ⟨fun b u e _ _ _ => k b u e, fun b u e _ _ _ => ⟨u.slots, k b u e⟩, fun b u e n _ => by rw [upd_ne (neA b u e)]; exact n, fun b u e _ => ⟨u, k b u e⟩, fun b xs e => by rw [upd_ne (neT b _ e)]; exact e,
    fun b u v e => by rw [upd_ne (neT b _ e)]; exact e, fun b ps e => ⟨#[], by rw [upd_ne (neT b _ e), e]; simp⟩⟩ fun b u e => ?_
  by_cases hb : b = a
  · subst hb
    rw [upd_same] at e
    cases e
    exact new
  · rw [upd_ne hb] at e
    exact (I.hok b u e).stay (fun c v _ q => k c v q) (fun c q => by rw [upd_ne (neT c _ q)]; exact q) fun c xs q => by rw [upd_ne (neT c _ q)]; exact q
end
section
variable {X : Cx} {x : Str} {p pos : Pos} {e : Expr} {es : List Expr} {t : TA} {C : Addr}
variable {CX : CXT} {k : Nat} {f : Addr} {fd : FuncData} {ps : List Str} {sp : Sp} {E : XK}
end
end L2

namespace L2
open PySem PySem.Spec PyProof.Rows
section
variable {X : Cx}
theorem vals_at : ∀ {xs : List V} {us : List Value}, Vals xs us → ∀ (i : Nat) (u : Value), us[i]? = some u → ∃ x, xs[i]? = some x ∧ RelV x u
  | _, _, .nil, i, u, h => by cases h
  | _, _, .cons h r, 0, u, e => by
    cases e
    exact ⟨_, rfl, h⟩
  | _, _, .cons h r, i + 1, u, e => vals_at r i u e
end
end L2

namespace L2
open PySem PySem.Spec PyProof.Rows PySem.SeqAt PySem.W
mutual
inductive RdD (K : PySem.W.Frag) (H : Hp) : V → PyData → Prop
  | non : RdD K H .non .none
  | bl (b : Bool) : RdD K H (.bl b) (.bool b)
  | int (i : Int) : RdD K H (.int i) (.int i)
  | str (x : Str) : RdD K H (.str x) (.str x)
  | lst {a : Addr} {xs : List V} {ds : List PyData} : SqL K H a xs → RdDs K H xs ds → RdD K H (.ref a) (.list ds)
  | tup {a : Addr} {xs : List V} {ds : List PyData} : SqT K H a xs → RdDs K H xs ds → RdD K H (.ref a) (.tuple ds)
inductive RdDs (K : PySem.W.Frag) (H : Hp) : List V → List PyData → Prop
  | nil : RdDs K H [] []
  | cons {x : V} {d : PyData} {xs : List V} {ds : List PyData} : RdD K H x d → RdDs K H xs ds → RdDs K H (x :: xs) (d :: ds)
end
section
variable {X : Cx} {pins : List (Addr × Obj)} {σ : St} {H : Hp} {s : Shared}
mutual
theorem Inv.reads (I : Inv X pins σ H s) : ∀ {v : V} {d : PyData} {u : Value}, RdD X.K H v d → RelV v u → ∃ as, Reads s.heap u d as
  | _, _, _, .non, r => by cases r; exact ⟨_, .none⟩
  | _, _, _, .bl b, r => by cases r; exact ⟨_, .bool b⟩
  | _, _, _, .int i, r => by obtain ⟨t, rfl⟩ := r; exact ⟨_, .int i t⟩
  | _, _, _, .str x, r => by obtain ⟨t, rfl⟩ := r; exact ⟨_, .str x t⟩
  | _, _, _, .lst hq hs, r => by
    cases r
    obtain ⟨its, rv, p, _⟩ := I.list hq
    obtain ⟨as, ra⟩ := I.readsAll hs rv
    obtain ⟨o, ho, hc, n, hd⟩ := p.isList
    exact ⟨_, .list ho hc hd (by simpa using ra)⟩
  | _, _, _, .tup hq hs, r => by
    cases r
    obtain ⟨its, rv, p, _⟩ := I.tuple hq
    obtain ⟨as, ra⟩ := I.readsAll hs rv
    obtain ⟨o, ho, hc, n, hd⟩ := (show s.heap.IsTuple _ its.toArray from p)
    exact ⟨_, .tuple ho hc hd (by simpa using ra)⟩
theorem Inv.readsAll (I : Inv X pins σ H s) : ∀ {vs : List V} {ds : List PyData} {us : List Value}, RdDs X.K H vs ds → Vals vs us → ∃ as, ReadsAll s.heap us ds as
  | _, _, _, .nil, r => by cases r; exact ⟨_, .nil⟩
  | _, _, _, .cons h hs, r => by
    cases r with
    | cons r1 r2 =>
      obtain ⟨as, ra⟩ := I.reads h r1
      obtain ⟨bs, rb⟩ := I.readsAll hs r2
      exact ⟨_, .cons ra rb⟩
end
inductive rEqDI (K : PySem.W.Frag) (neg : Bool) (x : V) (y : V) (H : Hp) (Q : VK) : Prop
  | mk : ∀ d e, (RdD K H x d) → (RdD K H y e) → (shaped d = true) → (shaped e = true) → (noMix d e = true) → (Q (.bl (if neg then !same d e else same d e)) H) → rEqDI K neg x y H Q
noncomputable def rEqD (K : PySem.W.Frag) (neg : Bool) : R2 := fun x y H Q => rEqDI K neg x y H Q
theorem op_eqD (hu : X.A.units + 64 < cLine) : OpR X (compareOp .Eq) (rEqD X.K false) := by
  intro pins s σ H x y v u Q I rx ry h
  obtain ⟨d, e, h1, h2, s1, s2, nm, q⟩ := h
  obtain ⟨as, ra⟩ := I.reads h1 rx
  obtain ⟨bs, rb⟩ := I.reads h2 ry
  exact eq_dataH_same ra rb s1 s2 hu nm ⟨.bl _, H, I, rfl, q⟩
theorem op_neD (hu : X.A.units + 64 < cLine) : OpR X (compareOp .NotEq) (rEqD X.K true) := by
  intro pins s σ H x y v u Q I rx ry h
  obtain ⟨d, e, h1, h2, s1, s2, nm, q⟩ := h
  obtain ⟨as, ra⟩ := I.reads h1 rx
  obtain ⟨bs, rb⟩ := I.reads h2 ry
  exact ne_dataH_same ra rb s1 s2 hu nm ⟨.bl _, H, I, rfl, q⟩
end
end L2

namespace L2
open PySem PySem.Spec PyProof.Rows
section
variable {prog : Program} {w : World} {A : Around} {E : Value → Shared → Prop} {s : Shared}
end
section
variable {X : Cx} {e : Expr} {te : TE}
theorem call_allB (hc : X.calm = true) : CallR X (.builtin "all") (fun xs H Q => ∃ (a : Addr) (bs : List Bool), xs = [.ref a] ∧ SqL X.K H a (bs.map V.bl) ∧ Q (.bl (bs.all id)) H) := by
  intro pins s σ H xs us Q I r h
  obtain ⟨a, bs, rfl, hq, q⟩ := h
  obtain ⟨u, rfl, ru⟩ := vals1 r
  cases ru
  obtain ⟨its, rv, p, _⟩ := I.list hq
  have hl := p.isList
  have hlt : a < s.heap.objs.size := by
    obtain ⟨o, ho, _⟩ := id hl
    exact Heap.lt_size ho
  have hh : X.A.in1.handled = none := by simp [I.ok.hd hc]
  refine call_all_walk (wpAny_pyIter_list hl ?_)
  refine ⟨_, _, _, _, _, _, fun i => bs.getD i false, rfl, Walks.list hh _ a (Nat.ne_of_lt hlt) its.toArray, ⟨⟨_, Heap.get?_push_size _ rfl, rfl, rfl⟩, hl.push _⟩, fun i v s' Q' E' hP hQ => ?_, fun h' tk hk => ?_⟩
  · have hP' : its[i]? = some v := by simpa using hP
    obtain ⟨x, hx, rx⟩ := vals_at rv i v hP'
    rw [List.getElem?_map] at hx
    cases e : bs[i]? with
    | none => rw [e] at hx; cases hx
    | some b =>
      rw [e] at hx
      cases hx
      cases rx
      have e2 : bs.getD i false = b := by rw [List.getD_eq_getElem?_getD, e]; rfl
      dsimp only at hQ
      rw [e2] at hQ
      exact wpAny_truthy_bool hQ
  · have kp : ∀ b o, s.heap.get? b = some o → h'.get? b = some o := fun b o hb => hk b o (by
      have := Heap.lt_size hb
      simp only [List.mem_singleton]
      exact Nat.ne_of_lt this) (Heap.get?_push_of_some _ hb)
    have len : its.toArray.size = bs.length := by rw [List.size_toArray, ← rv.length, List.length_map]
    refine ⟨.bl _, H, I.kept (t' := tk) kp, rfl, ?_⟩
    have e : (List.range its.toArray.size).all (fun i => bs.getD i false) = bs.all id := by
      rw [len]
      rw [Bool.eq_iff_iff, List.all_eq_true, List.all_eq_true]
      constructor
      · intro h b hb
        obtain ⟨i, hi⟩ := List.getElem?_of_mem hb
        have := h i (List.mem_range.mpr (List.getElem?_eq_some_iff.mp hi).1)
        rw [List.getD_eq_getElem?_getD, hi] at this
        exact this
      · intro h i hi
        have hi' := List.mem_range.mp hi
        rw [List.getD_eq_getElem?_getD, List.getElem?_eq_getElem hi']
        exact h _ (List.getElem_mem hi')
    rw [e]
    exact q
end
end L2

namespace L2
open PySem PySem.Spec PyProof.Rows PySem.W Builtin Builtin.ObjectAttr
section
variable {prog : Program} {w : World} {A : Around} {E : Value → Shared → Prop} {s : Shared} {K : Frag} {x C : Addr} {ox : Obj} {od : Option Obj} {name : Str} {v : Value} {tk : Tok} {fill expr : Bool}
end

/-! ### the layer's rules -/
section
variable {X : Cx} {pins : List (Addr × Obj)} {σ : St} {H : Hp} {s : Shared} {a C : Addr}
end
section
variable {X : Cx} {pins : List (Addr × Obj)} {σ : St} {H : Hp} {s : Shared} {a C : Addr} {dd : Option Addr}
theorem call_isT : CallR X (.builtin "isinstance") (fun xs H Q => ∃ x c t b, xs = [x, c] ∧ TyOf X.K H x t ∧ (∀ u, RelV c u → kitOne X.K t u = some b) ∧ Q (.bl b) H) := by
  intro pins s σ H xs us Q I r h
  obtain ⟨x, c, t, b, rfl, ty, k, q⟩ := h
  obtain ⟨u1, u2, rfl, ru1, ru2⟩ := r.two
  exact isinst_ok I ru1 ty (k u2 ru2) fun tk => ⟨.bl b, H, I.tok tk, rfl, q⟩

variable {o e value : Expr} {f y : Str} {pos pos' yp apos : Pos} {ta tv : TE} {es : List Expr} {t : TA}
end
end L2

namespace L2
open PySem PySem.Spec PyProof.Rows PySem.W Builtin Builtin.ObjectAttr
section
variable {X : Cx}
inductive rNeLI (K : Frag) (x : V) (y : V) (H : Hp) (Q : VK) : Prop
  | mk : ∀ (a b : Addr) (ns ms : List Int), (x = .ref a) → (y = .ref b) → (SqL K H a (ns.map V.int)) → (SqL K H b (ms.map V.int)) → (Q (.bl (!decide (ns = ms))) H) → rNeLI K x y H Q
noncomputable def rNeL (K : Frag) : R2 := fun x y H Q => rNeLI K x y H Q
theorem op_neL (hu : X.A.units + 64 < cLine) : OpR X (compareOp .NotEq) (rNeL X.K) := by
  intro pins s σ H x y v u Q I rx ry h
  obtain ⟨a, b, ns, ms, rfl, rfl, ha, hb, q⟩ := h
  cases rx
  cases ry
  obtain ⟨its, r1, p1, _⟩ := I.list ha
  obtain ⟨its2, r2, p2, _⟩ := I.list hb
  exact ne_intsK p1.isList (intsAre_of r1) p2.isList (intsAre_of r2) hu ⟨.bl _, H, I, rfl, q⟩

variable {e : Expr} {es : List Expr} {t : TA} {y : Str} {yp apos pos : Pos}
/-! ### f-strings of ints -/
end
end L2

namespace L2
open PySem PySem.Spec PyProof.Rows
theorem new_same {H : Hp} {a : Addr} {o : HO} (h : H a = none) : Same H (upd H a o) := fun b u e => by rw [upd_ne (ne_of_none e h)]; exact e
noncomputable def Mv (a : Addr) (H H' : Hp) : Prop := ∀ p o, p ≠ a → H p = some o → H' p = some o
theorem Mv.refl (a : Addr) (H : Hp) : Mv a H H := fun _ _ _ h => h
theorem Mv.trans {a : Addr} {H H1 H2 : Hp} (x : Mv a H H1) (y : Mv a H1 H2) : Mv a H H2 := fun p o n h => y p o n (x p o n h)
theorem Mv.of {a : Addr} {H H1 : Hp} (x : Same H H1) : Mv a H H1 := fun p o _ h => x p o h
theorem Mv.upd (a : Addr) (H : Hp) (o : HO) : Mv a H (upd H a o) := fun p u n h => by rw [upd_ne n]; exact h
theorem Mv.lst {K : PySem.W.Frag} {a b : Addr} {H H' : Hp} {xs : List V} (e : Mv a H H') (n : b ≠ a) (h : SqL K H b xs) : SqL K H' b xs := by
  rcases h with (h | ⟨o, h⟩) | h
  · exact .inl (.inl (e _ _ n h))
  · exact .inl (.inr ⟨o, e _ _ n h⟩)
  · exact .inr h
noncomputable def Has (P : Program) (w : World) (K : PySem.W.Frag) (mg : Str → Option Value) (base : Heap) (k : Nat) (x : Str) (ps : List Str) (sp : Sp) : Prop :=
  ∃ f fd, mg x = some (.ref f) ∧ PySem.W.keepIn K (.ref f) = true ∧ Binds K fd ps [] ∧ FnOk P w K mg base CX0 k f fd ps sp
theorem pe_has {X : Cx} {k : Nat} {ps : List Str} {sp : Sp} {x : Str} {p pos : Pos} {e : Expr} {es : List Expr} {t : TA} (h : Has X.prog X.w X.K X.mg X.base k x ps sp) (hr : Room k X.A) (hg : Gl X x)
    (ha : PA X (e :: es) t) (hdb : (x == ("__debug__" : Str)) = false := by decide) (he : starEach (e :: es) X.env = (false, eval e X.env) :: starEach es X.env := by rfl) (hpl : (backTo pos (starEach es X.env)).any (·.1) = false := by rfl) :
    PE X (.Call (.Name x p) (e :: es) [] pos) (tCall sp [] E0 t) := by
  obtain ⟨f, fd, h1, h2, h3, h4⟩ := h
  exact pe_call h4 hr hg h1 h2 h3 .nil pass0 ha hdb he hpl
end L2

namespace L2
open PySem PySem.Spec PyProof.Rows
/-! ### a comprehension whose own variable stands in a cell (an inner one takes it) -/
noncomputable abbrev cellO : Obj := { cls := .type "cell", data := .cell none }
noncomputable def Cx.blockC (X : Cx) (scope : Scope) (x : Str) (C c : Addr) (NB : List Str) (s2 : Shared) (H2 : Hp) (fp : List Addr) : Cx :=
  { X with N := NB, s₀ := s2, H₀ := H2, env := compEnvC scope ((x, c) :: closOf X.env.cells scope.names []) C X.env, outer := X.stack, ex := fp, fn := fun y => y == x, pn := [], xe := fun _ _ => False }
structure BlockC (X : Cx) (scope : Scope) (x : Str) (NB : List Str) (ix : List Nat) : Prop where
  kind : scope.kind = .function
  cell : ∀ y ∈ scope.names, y.2 = .cell → y.1 = x
  names : ∀ y ∈ scope.names, y.2 = .local → scope.names.lookup y.1 = some .local
  free : ∀ y, (y, NameKind.free) ∈ scope.names → (X.env.kindOf y = some .cell ∨ X.env.kindOf y = some .free)
  nofree : (x, NameKind.free) ∉ scope.names
  var : scope.names.lookup x = some .cell
  nb : NB = x :: ix.map fun i => X.N.getD i x
  nd : NB.Nodup
  cap : ∀ i ∈ ix, ∃ y, X.N[i]? = some y ∧ scope.names.lookup y = some .free
  cf : ∀ (n : Nat) (acc : List (Str × Addr)), cellsFrom n scope.names acc = (x, n) :: acc
  pc : ∀ h : Heap, pushCells h scope.names = h.push cellO
section
variable {M : Model} {A : Around} {E : Value → Shared → Prop} {s : Shared} {X : Cx} {scope : Scope} {x : Str} {NB : List Str} {ix : List Nat}
theorem envC {cl : List (Str × Addr)} {g : Addr} {ql : Str} {env : Env} {Q : Env → Shared → Prop} (B : BlockC X scope x NB ix)
    (q : Q { scope := scope, locals := s.heap.objs.size, globals := g, cells := (x, s.heap.objs.size + 1) :: cl, qual := ql, func := none, code := env.code, frame := env.frame, builtins := env.builtins } { s with heap := (s.heap.push { cls := .type "dict", data := .dict #[] }).push cellO }) :
    wpAny M A (newFunctionEnv scope g cl [] ql none .none (some env)) Q E s := by
  simp only [newFunctionEnv, Option.isSome_some, if_true]
  refine wpAny_bind (wpAny_alloc (?_ : _))
  refine wpAny_bind (wpAny_layCells _ (fun name kind cells => by cases hkc : kind == NameKind.cell <;> simp [hkc]) _ _ _ _ (?_ : _))
  rw [B.cf, B.pc]
  rw [show ({ s with heap := s.heap.push { cls := .type "dict", data := .dict #[] } } : Shared).heap.objs.size = s.heap.objs.size + 1 from Heap.size_push ..]
  rw [List.forIn_nil]
  exact wpAny_bind (wpAny_pure (wpAny_pure q))
end
section
variable {X : Cx} {scope : Scope} {x : Str} {NB : List Str} {ix : List Nat} {pins : List (Addr × Obj)} {σ : St} {H2 : Hp} {s2 : Shared} {fp : List Addr}
theorem BlockC.clos (B : BlockC X scope x NB ix) (I2 : Inv X pins σ H2 s2) : closureFor scope X.env = pure (closOf X.env.cells scope.names []) :=
  closureFor_clos fun n hn => I2.ok.has n (B.free n hn)
theorem BlockC.look (B : BlockC X scope x NB ix) (I2 : Inv X pins σ H2 s2) {y : Str} {c c' : Addr} (h : ((x, c) :: closOf X.env.cells scope.names []).lookup y = some c') : (y = x ∧ c' = c) ∨ X.env.cells.lookup y = some c' := by
  rw [List.lookup_cons] at h
  cases q : (y == x) with
  | true =>
    rw [q] at h
    exact .inl ⟨by simpa using q, (Option.some.inj h).symm⟩
  | false =>
    rw [q] at h
    rcases closOf_look _ _ h with ⟨m, e⟩ | e
    · obtain ⟨c2, hc⟩ := I2.ok.has y (B.free y m)
      rw [hc] at e ⊢
      exact .inr (congrArg some e)
    · cases e
theorem BlockC.apart (B : BlockC X scope x NB ix) (I2 : Inv X pins σ H2 s2) {y : Str} {c c' b : Addr} (hc : s2.heap.objs.size ≤ c) (h : ((x, c) :: closOf X.env.cells scope.names []).lookup y = some c') (hb : b < s2.heap.objs.size) (nb : ∀ z d, X.env.cells.lookup z = some d → d ≠ b) : c' ≠ b := by
  rcases B.look I2 h with ⟨_, rfl⟩ | e
  · exact Nat.ne_of_gt (Nat.lt_of_lt_of_le hb hc)
  · exact nb y c' e
theorem relab_cell {env : Env} {y : Str} {names : List (Str × NameKind)} (h : names.lookup y = some .cell) : (relabel { (default : Scope) with names := names } env).names.lookup y = some .cell := by
  rcases relab_some (env := env) h with e | ⟨e, _⟩
  · exact e
  · cases e
theorem old_cell (I2 : Inv X pins σ H2 s2) {y : Str} {c : Addr} (e : X.env.cells.lookup y = some c) : c < s2.heap.objs.size := by
  obtain ⟨v, q⟩ := I2.cell y c e
  exact q.lt
theorem blockC_ok (B : BlockC X scope x NB ix) (I2 : Inv X pins σ H2 s2) {C c : Addr} (hC : s2.heap.objs.size ≤ C) (hc : s2.heap.objs.size ≤ c) (f2 : ∀ b ∈ fp, FpOk X pins H2 b) (ft : ∀ b ∈ fp, b < s2.heap.objs.size) : (X.blockC scope x C c NB s2 H2 fp).Ok where
  mod := I2.ok.mod
  kind := B.kind
  glob := I2.ok.glob
  blt := I2.ok.blt
  above := hC
  inj := fun a b d h1 h2 => by
    rcases B.look I2 h1 with ⟨e1, e2⟩ | e1 <;> rcases B.look I2 h2 with ⟨e3, e4⟩ | e3
    · rw [e1, e3]
    · exact absurd (Nat.lt_of_lt_of_le (old_cell I2 e3) (e2 ▸ hc)) (Nat.lt_irrefl _)
    · exact absurd (Nat.lt_of_lt_of_le (old_cell I2 e1) (e4 ▸ hc)) (Nat.lt_irrefl _)
    · exact I2.ok.inj a b d e1 e3
  has := fun y hy => by
    show ∃ d, ((x, c) :: closOf X.env.cells scope.names []).lookup y = some d
    rw [List.lookup_cons]
    cases q : (y == x) with
    | true => exact ⟨c, rfl⟩
    | false =>
      have nx : y ≠ x := fun z => by rw [z, beq_self_eq_true] at q; cases q
      have key : ∀ k, (relabel scope X.env).names.lookup y = some k → (k = .cell ∨ k = .free) → ∃ d, (closOf X.env.cells scope.names []).lookup y = some d := fun k hk kk => by
        rcases relab_of (names := scope.names) hk with e | ⟨e, _⟩
        · rcases kk with rfl | rfl
          · exact absurd (B.cell _ (look_mem e) rfl) nx
          · exact closOf_has _ _ (.inl (look_mem e))
        · exact closOf_has _ _ (.inl (look_mem e))
      rcases hy with e | e
      · exact key _ e (.inl rfl)
      · exact key _ e (.inr rfl)
  cab := fun y d z e => by
    rcases B.look I2 e with ⟨_, rfl⟩ | e
    · exact hc
    · have z : (y == x) = true := z
      have yx : y = x := by simpa using z
      have h : ((x, c) :: closOf X.env.cells scope.names []).lookup y = some d := ‹_›
      rw [List.lookup_cons, z] at h
      cases h
      exact hc
  hd := I2.ok.hd
  frames := I2.ok.frames
  stk := .inl rfl
  exf := fun b hb => ⟨Nat.ne_of_lt (Nat.lt_of_lt_of_le (ft b hb) hC), fun y d e => B.apart I2 hc e (ft b hb) (f2 b hb).2.2.2.2.1⟩
  bs := I2.bs
  bsz := Nat.le_trans I2.ok.bsz I2.sz
  noex := fun b o e hb => by
    rcases (f2 b hb).2.2.2.1 with z | z
    · exact I2.ok.noex b o e z
    · exact absurd (Nat.lt_of_lt_of_le (Heap.lt_size (I2.ok.bs b o e).1) z) (Nat.lt_irrefl _)
  exfs := fun b hb z => by
    rcases List.mem_cons.mp (I2.stkSub b z) with e | e
    · exact (f2 b hb).2.1 e
    · exact (f2 b hb).2.2.1 e
  funs := I2.stack
  frf := I2.stkFree
end
end L2

namespace L2
open PySem PySem.Spec PyProof.Rows
section
variable {X : Cx} {scope : Scope} {x : Str} {NB : List Str} {ix : List Nat} {pins : List (Addr × Obj)} {σ : St} {H2 : Hp} {s2 : Shared} {fp : List Addr}
theorem blockC_inv (B : BlockC X scope x NB ix) (I2 : Inv X pins σ H2 s2) {C c D : Addr} {h1 : Heap} {tk : Nat} {m : Str → Option Value} {oD : Obj} (hC : s2.heap.objs.size ≤ C) (hD : s2.heap.objs.size ≤ D) (hDC : D ≠ C) (hc : s2.heap.objs.size ≤ c) (hcc : h1.IsCell c none) (f2 : ∀ b ∈ fp, FpOk X pins H2 b) (ft : ∀ b ∈ fp, b < s2.heap.objs.size)
    (old : ∀ b o, s2.heap.get? b = some o → h1.get? b = some o) (hn : h1.Ns C m) (ho : h1.get? D = some oD) (hcl : ∀ v, oD.data ≠ .cell v) :
    Inv (X.blockC scope x C c NB s2 H2 fp) [(D, oD)] (none :: caps ix σ) H2 { s2 with heap := h1, toks := tk } where
  ok := blockC_ok B I2 hC hc f2 ft
  os := rfl
  bare := I2.bare
  base := Un.kept old
  loc := by
    refine ⟨m, hn, fun i y v e1 e2 _ => ?_⟩
    have e1 : NB[i]? = some y := e1
    cases i with
    | zero => cases e2
    | succ j =>
      have e2 : (caps ix σ)[j]? = some (some v) := e2
      rw [B.nb] at e1
      have e1 : (ix.map fun i => X.N.getD i x)[j]? = some y := e1
      rw [List.getElem?_map] at e1
      unfold caps at e2
      rw [List.getElem?_map] at e2
      cases q : ix[j]? with
      | none => rw [q] at e1; cases e1
      | some i =>
        rw [q] at e1 e2
        obtain ⟨z, hz, fz⟩ := B.cap i (List.mem_of_getElem? q)
        have ey : y = z := by
          have w : X.N.getD i x = y := Option.some.inj e1
          rw [← w, List.getD_eq_getElem?_getD, hz]
          rfl
        subst ey
        have e2 : (σ[i]?).join = some v := Option.some.inj e2
        have es : σ[i]? = some (some v) := by
          cases w : σ[i]? with
          | none => rw [w] at e2; cases e2
          | some o => rw [w] at e2; exact congrArg some e2
        have fk := B.free y (look_mem fz)
        have vis : Vis X.env.scope y := .inr fk
        obtain ⟨mm, _, hl⟩ := I2.loc
        obtain ⟨u, ru, lk⟩ := hl i y v hz es vis
        refine ⟨u, ru, .inr ⟨?_, ?_⟩⟩
        · rcases relab_some (env := X.env) (names := scope.names) fz with e | ⟨_, e⟩
          · exact .inr e
          · exact .inl e
        · rcases lk with ⟨lk, _⟩ | ⟨_, d, hd, hcell⟩
          · rcases fk with fk | fk
            · rw [lk] at fk; cases fk
            · rw [lk] at fk; cases fk
          · obtain ⟨c', hc'⟩ := closOf_has (cells := X.env.cells) scope.names [] (.inl (look_mem fz))
            have nx : (y == x) = false := by
              cases q : (y == x) with
              | false => rfl
              | true =>
                have e : y = x := by simpa using q
                exact absurd (e ▸ look_mem fz) B.nofree
            have hc2 : ((x, c) :: closOf X.env.cells scope.names []).lookup y = some c' := by
              rw [List.lookup_cons, nx]
              exact hc'
            have e3 : X.env.cells.lookup y = some c' := by
              rcases B.look I2 hc2 with ⟨e, _⟩ | e
              · rw [e, beq_self_eq_true] at nx
                cases nx
              · exact e
            rw [hd] at e3
            cases e3
            obtain ⟨oc, g1, g2⟩ := hcell
            exact ⟨d, hc2, oc, old _ _ g1, g2⟩
  cell := fun y d e => by
    rcases B.look I2 e with ⟨_, rfl⟩ | e
    · exact ⟨none, hcc⟩
    · obtain ⟨v, o, g1, g2⟩ := I2.cell y d e
      exact ⟨v, o, old _ _ g1, g2⟩
  free := I2.hok.fresh hC
  freeC := fun y d e => by
    rcases B.look I2 e with ⟨_, rfl⟩ | e
    · exact I2.hok.fresh hc
    · exact I2.freeC y d e
  pin := fun p hp => by
    have e : p = (D, oD) := by simpa [Cx.blockC] using hp
    subst e
    refine ⟨ho, I2.hok.fresh hD, hDC, fun z => ?_, hcl⟩
    rcases List.mem_cons.mp (I2.stkSub D z) with e | e
    · have e : D = X.env.locals := e
      exact absurd (Nat.lt_of_lt_of_le I2.lt (e ▸ hD)) (Nat.lt_irrefl _)
    · exact I2.nofs hD e
  hok := I2.hok.kept old
  len := by
    show (none :: caps ix σ).length = NB.length
    rw [B.nb, List.length_cons, List.length_cons, caps_len, List.length_map]
theorem blockC_end {C c D : Addr} {H' : Hp} {s4 : Shared} {σB : St} {its : List Value} {n : Nat} {ys : List V} (I2 : Inv X pins σ H2 s2) (f2 : ∀ b ∈ fp, FpOk X pins H2 b) (hD : s2.heap.objs.size ≤ D)
    (I4 : Inv (X.blockC scope x C c NB s2 H2 fp) [(D, lstO its n)] σB H' s4) (rv : Vals ys its) (hz : ys.length ≤ sizeLine) : Inv X pins σ (upd H' D (.lst ys)) s4 := by
  have hp := I4.pin (D, lstO its n) (by show _ ∈ [] ++ [(D, lstO its n)]; simp)
  have hfree : H' D = none := hp.2.1
  have neD : ∀ b o, s2.heap.get? b = some o → b ≠ D := fun b o e => Nat.ne_of_lt (Nat.lt_of_lt_of_le (Heap.lt_size e) hD)
  have neT : ∀ b o, H2 b = some o → b ≠ D := fun b o e => Nat.ne_of_lt (Nat.lt_of_lt_of_le (I2.hok.lt e) hD)
  have u : Un (frs X.stack) fp H2 H' s2.heap s4.heap := I4.base
  refine I2.call' (ch := fp) I4.os ⟨u.keep, u.slot, fun b o e n hx => ?_, u.there, fun b xs e => ?_, fun b o v e => ?_, fun b ps e => ?_⟩ (fun b o e => ?_) I4.bare fun b hb => ?_
  · rw [upd_ne (neD b o e)]
    exact u.free b o e n hx
  · rw [upd_ne (neT b _ e)]
    exact u.tups b xs e
  · rw [upd_ne (neT b _ e)]
    exact u.frzs b o v e
  · rw [upd_ne (neT b _ e)]
    exact u.tbls b ps e
  · by_cases hb : b = D
    · subst hb
      rw [upd_same] at e
      cases e
      exact ⟨hz, its, n, rv, hp.1⟩
    · rw [upd_ne hb] at e
      have ne : ∀ {c : Addr} {w : HO}, H' c = some w → c ≠ D := fun {c w} q z => by rw [z, hfree] at q; cases q
      exact (I4.hok b o e).stay (fun _ _ _ q => q) (fun c q => by rw [upd_ne (ne q)]; exact q) fun c xs q => by rw [upd_ne (ne q)]; exact q
  · obtain ⟨_, g1, g2, g3, g4, g5⟩ := f2 b hb
    exact ⟨g3, g1, g4, g5⟩

theorem compC_core {elt iter : Expr} {ifs : List Expr} {px pos : Pos} {tt : TT} {te : TE} {J : It} {it : Addr} {tn : Nat → Heap → Prop} {E : Value → Shared → Prop} {RR : Value → Addr → Result → Shared → Prop} {Qr : VK}
    (B : BlockC X scope x NB ix) (hc : X.calm = true)
    (he : ∀ (C c : Addr) (s : Shared) (H : Hp) (fp : List Addr), PE (X.blockC scope x C c NB s H fp) elt te) (ht : ∀ (C c : Addr) (s : Shared) (H : Hp) (fp : List Addr), PTs (X.blockC scope x C c NB s H fp) ifs tt)
    (I2 : Inv X pins σ H2 s2) (T : Turn X.prog X.w X.K (.Name x px) J fp it tn) (st2 : tn 0 s2.heap) (f2 : ∀ b ∈ fp, FpOk X pins H2 b) (h : CompW J (caps ix σ) tt te H2 Qr)
    (hRR : ∀ (D C : Addr) (Hf : Hp) (s' : Shared) (m' : Str → Option Value), Inv X pins σ Hf s' → s'.heap.Ns C m' → FpOk X pins Hf C → Qr (.ref D) Hf → RR (.ref D) C (.ok .next) s') :
    wpAny (model X.prog X.w) X.A (newList []) (fun acc s3 => wpAny (model X.prog X.w) X.A (newFunctionEnv scope X.env.globals (closOf X.env.cells scope.names []) [] X.env.qual none .none (some X.env)) (fun cenv s4 =>
      codeAny (model X.prog X.w) X.A (.compStart (.ListComp elt [⟨.Name x px, iter, ifs, 0⟩] scope pos) 0 (.ref it) acc { cenv with scope := relabel scope X.env }) (RR acc cenv.locals) s4) E s3) E s2 := by
  obtain ⟨W, ⟨m0, w0⟩, turn⟩ := h
  refine wpAny_newObj_type (envC B ?_)
  dsimp only
  generalize eG : s2.heap.push { cls := .type "list", dict := none, data := .seq ([] : List Value).toArray } = G
  obtain ⟨h1, eh1⟩ : ∃ h1, h1 = (G.push { cls := .type "dict", data := .dict #[] }).push { cls := .type "cell", data := .cell none } := ⟨_, rfl⟩
  rw [← eh1]
  have hC : G.objs.size = s2.heap.objs.size + 1 := by rw [← eG, Heap.size_push]
  have hDC : s2.heap.objs.size ≠ G.objs.size := by rw [hC]; exact Nat.ne_of_lt (Nat.lt_succ_self _)
  have hCle : s2.heap.objs.size ≤ G.objs.size := by rw [hC]; exact Nat.le_succ _
  have up : ∀ b o, G.get? b = some o → h1.get? b = some o := fun b o e => by
    rw [eh1]
    exact Heap.get?_push_of_some _ (Heap.get?_push_of_some _ e)
  have old : ∀ b o, s2.heap.get? b = some o → h1.get? b = some o := fun b o e => up b o (eG ▸ Heap.get?_push_of_some _ e)
  have hacc : h1.get? s2.heap.objs.size = some (lstO [] 0) := up _ _ (eG ▸ Heap.get?_push_size _ rfl)
  have hns : h1.Ns G.objs.size (fun _ => none) := by
    rw [eh1]
    exact (Heap.Ns.new G (.type "dict")).keeps fun b o e => Heap.get?_push_of_some _ e
  have hcc : h1.IsCell (G.objs.size + 1) none := by
    rw [eh1]
    refine ⟨cellO, ?_, rfl⟩
    have e := Heap.get?_push_size (G.push { cls := .type "dict", data := .dict #[] }) (o := cellO) rfl
    rw [Heap.size_push] at e
    exact e
  have hcle : s2.heap.objs.size ≤ G.objs.size + 1 := Nat.le_succ_of_le hCle
  have ft : ∀ b ∈ fp, b < s2.heap.objs.size := fun b hb => by
    obtain ⟨o, e, _⟩ := T.obj _ _ st2 b hb
    exact Heap.lt_size e
  have loop : ∀ s3 : Shared, s3 = { s2 with heap := h1 } →
      codeAny (model X.prog X.w) X.A (.compLoop (.ListComp elt [⟨.Name x px, iter, ifs, 0⟩] scope pos) 0 (.ref it) (.ref s2.heap.objs.size) (compEnvC scope ((x, G.objs.size + 1) :: closOf X.env.cells scope.names []) G.objs.size X.env))
        (RR (.ref s2.heap.objs.size) G.objs.size) s3 := by
    rintro s3 rfl
    have I3 := blockC_inv (tk := s2.toks) B I2 hCle (Nat.le_refl _) hDC hcle hcc f2 ft old hns hacc (fun v q => by cases q)
    have st3 : tn 0 h1 := T.keep _ _ _ st2 fun b _ o e => old b o e
    have fy : ∀ {H' : Hp} {oD : Obj}, (∀ b ∈ fp, H' b = none) → ∀ b ∈ fp, FpOk (X.blockC scope x G.objs.size (G.objs.size + 1) NB s2 H2 fp) [(s2.heap.objs.size, oD)] H' b := fun {H' oD} hn b hb => by
      refine ⟨hn b hb, Nat.ne_of_lt (Nat.lt_of_lt_of_le (ft b hb) hCle), fun z => ?_, .inl hb, fun y c e => B.apart I2 hcle e (ft b hb) (f2 b hb).2.2.2.2.1, fun p hp => ?_⟩
      · rcases List.mem_cons.mp (I2.stkSub b z) with e | e
        · exact (f2 b hb).2.1 e
        · exact (f2 b hb).2.2.1 e
      · have e : p = (s2.heap.objs.size, oD) := by simpa [Cx.blockC] using hp
        subst e
        exact Ne.symm (Nat.ne_of_lt (ft b hb))
    refine codeAny_compLoop_tests (fun n s' => ∃ i ys its nn o H', W i n ys H' ∧ Inv (X.blockC scope x G.objs.size (G.objs.size + 1) NB s2 H2 fp) [(s2.heap.objs.size, lstO its nn)] (o :: caps ix σ) H' s' ∧ tn i s'.heap ∧ (∀ b ∈ fp, H' b = none) ∧ Vals ys its ∧ ys.length ≤ sizeLine)
      ?_ m0 ⟨0, [], [], 0, none, H2, w0, I3, st3, fun b hb => (f2 b hb).1, .nil, Nat.zero_le _⟩
    rintro n s' ⟨i, ys, its, nn, o, H', w', I', st', fr', rv, hz⟩
    rcases turn i n ys H' w' with ⟨stop, q⟩ | ⟨go, hlt, Nx, hNx, step⟩
    · refine wpAny_mono (T.done (X.blockC scope x G.objs.size (G.objs.size + 1) NB s2 H2 fp) rfl rfl rfl hc i _ s' _ H' (fun _ _ => False) I' (fy fr') st' stop) (fun r s4 ⟨hr, I4⟩ => ?_) fun _ _ z => z.elim
      subst hr
      have I5 := blockC_end I2 f2 (Nat.le_refl _) I4 rv hz
      obtain ⟨m4, hn4, _⟩ := I4.loc
      have hfree : H' s2.heap.objs.size = none := (I4.pin (s2.heap.objs.size, lstO its nn) (by show _ ∈ [] ++ [(s2.heap.objs.size, lstO its nn)]; simp)).2.1
      refine hRR _ _ _ s4 m4 I5 hn4 (I2.fpOk hCle ?_) (q _ hfree)
      rw [upd_ne (Ne.symm hDC)]
      exact I4.free
    · refine wpAny_mono (T.item (X.blockC scope x G.objs.size (G.objs.size + 1) NB s2 H2 fp) rfl rfl rfl hc i _ s' _ H' (fun _ _ => False) I' (fy fr') st' go) (fun r s4 ⟨u, hr, h4⟩ => ?_) fun _ _ z => z.elim
      subst hr
      intro Γ p hΓ
      obtain ⟨v, H5, I5, r5, y5, st5, fr5⟩ := h4 Γ p hΓ
      refine (?_ : wpAny (model X.prog X.w) X.A _ _ _ s4) Γ p hΓ
      have pIt : ∀ b ∈ fp, ∃ o, s4.heap.get? b = some o ∧ ∀ v, o.data ≠ .cell v := T.obj _ _ st5
      have I5' := I5.pinned (fy fr5) pIt
      have hg := pg_name (X := X.blockC scope x G.objs.size (G.objs.size + 1) NB s2 H2 fp) (i := 0) (x := x) (pos := px) B.nd (by show NB[0]? = some x; rw [B.nb]; rfl)
        (.inr (relab_cell B.var)) (.inl (beq_self_eq_true x))
      refine wpAny_mono (hg _ s4 _ H5 v u (fun σ' H' => σ' = some v :: caps ix σ ∧ H' = H5) I5' r5 ⟨rfl, rfl⟩) (fun _ s6 h6 => ?_) fun _ _ z => z.elim
      obtain ⟨σ6, H6, I6, e6, e7⟩ := h6
      subst e6 e7
      refine wpAny_mono (ht _ _ _ _ _ _ s6 _ _ _ I6 (step v H6 y5)) (fun b s7 ⟨H7, I7, q7⟩ => ?_) fun _ _ z => z.elim
      -- what stays of the iterator
      have stays : ∀ {s9 : Shared} {H9 : Hp} {σ9 : St} {oD : Obj}, Inv (X.blockC scope x G.objs.size (G.objs.size + 1) NB s2 H2 fp) ([(s2.heap.objs.size, oD)] ++ pinsAt fp s4.heap) σ9 H9 s9 → tn (i + 1) s9.heap ∧ ∀ b ∈ fp, H9 b = none := fun {s9 H9 σ9 oD} I9 => by
        refine ⟨T.keep _ _ _ st5 fun b hb o e => (I9.pin (b, o) (List.mem_append_right _ (List.mem_append_right _ (mem_pinsAt hb e)))).1, fun b hb => ?_⟩
        obtain ⟨o, e, d⟩ := pIt b hb
        exact (I9.pin (b, o) (List.mem_append_right _ (List.mem_append_right _ (mem_pinsAt hb e)))).2.1
      cases b with
      | false =>
        rw [if_neg Bool.false_ne_true] at q7 ⊢
        obtain ⟨m', hm, w7⟩ := hNx _ _ q7
        obtain ⟨g1, g2⟩ := stays I7
        exact ⟨m', hm, i + 1, ys, its, nn, some v, H7, w7, I7.unpinned, g1, g2, rv, hz⟩
      | true =>
        rw [if_pos rfl] at q7 ⊢
        refine wpAny_mono (he _ _ _ _ _ _ s7 _ _ _ I7 q7) (fun y s8 ⟨yv, H8, I8, r8, n8⟩ => ?_) fun _ _ z => z.elim
        obtain ⟨m', hm, w8⟩ := hNx _ _ n8
        obtain ⟨g1, g2⟩ := stays I8
        have pD := I8.pin (s2.heap.objs.size, lstO its nn) (by show _ ∈ [] ++ ([(s2.heap.objs.size, lstO its nn)] ++ pinsAt fp s4.heap); simp)
        refine append_at (hsz := by rw [List.size_toArray, ← rv.length]; exact hz) pD.1 fun h9 hs9 hD9 => ?_
        have hno : s2.heap.objs.size ∉ fp := fun z => Nat.lt_irrefl _ (ft _ z)
        have I8u := I8.unpinned
        have I8n := I8u.pins_of (pins' := []) (fun _ z => nomatch z)
        have I9 := I8n.turned (h' := h9) (t' := s8.toks) (it := s2.heap.objs.size) (fun b o hb e => hs9.extBut b o hb e) pD.2.1 pD.2.2.1 (.inr (Nat.le_refl _))
          (fun y c e z => by
            rcases B.look I2 e with ⟨_, e4⟩ | e4
            · rw [e4, hC] at z
              exact absurd z (Nat.ne_of_gt (Nat.lt_succ_of_lt (Nat.lt_succ_self _)))
            · exact Nat.lt_irrefl _ (z ▸ old_cell I2 e4)) (fun p hp => by cases hp)
        have e9 : lstO (its ++ [y]) (nn + 1) = { cls := .type "list", data := .seq (its.toArray.push y) (nn + 1) } := by
          show ({ cls := .type "list", data := .seq (its ++ [y]).toArray (nn + 1) } : Obj) = _
          rw [List.push_toArray]
        have I10 : Inv (X.blockC scope x G.objs.size (G.objs.size + 1) NB s2 H2 fp) [(s2.heap.objs.size, lstO (its ++ [y]) (nn + 1))] (some v :: caps ix σ) H8 { s8 with heap := h9 } := by
          refine I9.pins_of fun p hp => ?_
          have e : p = (s2.heap.objs.size, lstO (its ++ [y]) (nn + 1)) := by simpa using hp
          subst e
          exact ⟨hD9.trans (congrArg some e9.symm), pD.2.1, pD.2.2.1, pD.2.2.2.1, fun v q => by cases q⟩
        refine ⟨m', hm, i + 1, ys ++ [yv], its ++ [y], nn + 1, some v, H8, w8, I10, T.keep _ _ _ g1 fun b hb o e => hs9.extBut b o (fun z => hno (z ▸ hb)) e, g2, Vals.append rv (.cons r8 .nil), ?_⟩
        rw [List.length_append]
        exact hlt
  exact codeAny_compStart_list (loop _ rfl) (T.self _ 0 _ _ _ (T.keep _ _ _ st2 fun b _ o e => old b o e) (loop _ rfl))

theorem pe_compC {elt iter : Expr} {ifs : List Expr} {px pos : Pos} {wi : TI} {tt : TT} {te : TE} (B : BlockC X scope x NB ix) (hc : X.calm = true) (hi : PI X (.Name x px) iter wi)
    (he : ∀ (C c : Addr) (s : Shared) (H : Hp) (fp : List Addr), PE (X.blockC scope x C c NB s H fp) elt te) (ht : ∀ (C c : Addr) (s : Shared) (H : Hp) (fp : List Addr), PTs (X.blockC scope x C c NB s H fp) ifs tt)
    (hs : ∀ v, foldedSetIterable iter X.env v = pure v := by intro _; rfl) : PE X (.ListComp elt [⟨.Name x px, iter, ifs, 0⟩] scope pos) (tComp wi ix tt te) := by
  intro pins s σ H Q I h
  rw [eval_ListComp]
  refine wpAny_comprehension_free (use := none) rfl hs (B.clos I) B.kind B.names (thn (hi pins s σ H _ I h) fun v s1 h1 => thn h1 fun itv s2 h2 => ?_)
  obtain ⟨it, fp, tn, J, H2, e, I2, T, st2, f2, w⟩ := h2
  subst e
  refine compC_core (RR := fun acc C => compPost (model X.prog X.w) X.A X.xe none (EP X pins σ Q) acc C) B hc he ht I2 T st2 f2 w fun D C Hf s' m' I' hn' fC q => ?_
  refine ⟨m', hn', fun h'' hs'' => ⟨.ref D, Hf, ?_, rfl, q⟩⟩
  obtain ⟨c0, c1, c2, c3, c4, c5⟩ := fC
  exact I'.turned (it := C) (t' := s'.toks) (fun b o hb e => hs''.extBut b o hb e) c0 c1 c3 c4 c5
noncomputable def blockCB (N : List Str) (fs scope : Scope) (x : Str) (NB : List Str) (ix : List Nat) : Bool :=
  decide (scope.kind = .function) && scope.names.all (fun y => decide (y.2 ≠ .cell) || decide (y.1 = x)) && scope.names.all (fun y => decide (y.2 ≠ .local) || decide (scope.names.lookup y.1 = some .local)) &&
  scope.names.all (fun y => decide (y.2 ≠ .free) || (decide (fs.names.lookup y.1 = some .cell) || decide (fs.names.lookup y.1 = some .free))) && decide (scope.names.lookup x = some .cell) &&
  decide (NB = x :: ix.map fun i => N.getD i x) && decide NB.Nodup && (ix.all fun i => match N[i]? with | some y => decide (scope.names.lookup y = some .free) | none => false) && scope.names.all (fun y => decide (y.2 ≠ .free) || decide (y.1 ≠ x))
theorem BlockC.of {X : Cx} {N : List Str} {fs scope : Scope} {x : Str} {NB : List Str} {ix : List Nat} (h : blockCB N fs scope x NB ix = true) (hN : X.N = N := by rfl) (hf : X.env.scope = fs := by rfl)
    (cf : ∀ (n : Nat) (acc : List (Str × Addr)), cellsFrom n scope.names acc = (x, n) :: acc := by intros; rfl) (pc : ∀ h : Heap, pushCells h scope.names = h.push cellO := by intros; rfl) : BlockC X scope x NB ix := by
  subst hN hf
  unfold blockCB at h
  simp only [Bool.and_eq_true] at h
  obtain ⟨⟨⟨⟨⟨⟨⟨⟨h1, h2⟩, h3⟩, h4⟩, h5⟩, h6⟩, h7⟩, h8⟩, h9⟩ := h
  refine ⟨of_decide_eq_true h1, fun y hy e => ?_, fun y hy e => ?_, fun y hy => ?_, fun hx => ?_, of_decide_eq_true h5, of_decide_eq_true h6, of_decide_eq_true h7, fun i hi => ?_, cf, pc⟩
  · have z := List.all_eq_true.mp h2 y hy
    rw [Bool.or_eq_true] at z
    rcases z with z | z
    · exact absurd e (of_decide_eq_true z)
    · exact of_decide_eq_true z
  · have z := List.all_eq_true.mp h3 y hy
    rw [Bool.or_eq_true] at z
    rcases z with z | z
    · exact absurd e (of_decide_eq_true z)
    · exact of_decide_eq_true z
  · have z := List.all_eq_true.mp h4 _ hy
    rw [Bool.or_eq_true, Bool.or_eq_true] at z
    rcases z with z | z | z
    · exact absurd rfl (of_decide_eq_true z)
    · exact .inl (of_decide_eq_true z)
    · exact .inr (of_decide_eq_true z)
  · have z := List.all_eq_true.mp h9 _ hx
    rw [Bool.or_eq_true] at z
    rcases z with z | z
    · exact absurd rfl (of_decide_eq_true z)
    · exact absurd rfl (of_decide_eq_true z)
  · have z := List.all_eq_true.mp h8 i hi
    cases e : X.N[i]? with
    | none => rw [e] at z; cases z
    | some y => rw [e] at z; exact ⟨y, rfl, of_decide_eq_true z⟩
end
end L2

namespace L2
open PySem PySem.Spec PyProof.Rows
noncomputable def Ite (K : PySem.W.Frag) (a : Addr) : It :=
  ⟨fun i H => ∃ xs x, SqL K H a xs ∧ xs[i]? = some x, fun i H v H' => ∃ T, H T = none ∧ v = .ref T ∧ ∀ xs, SqL K H a xs → ∃ x, xs[i]? = some x ∧ H' = upd H T (.tup [.int i, x]), fun i H => ∃ xs, SqL K H a xs ∧ xs.length ≤ i⟩
theorem turn_enum {P : Program} {w : World} {K : PySem.W.Frag} {elts : List Expr} {x1 : Nat} {pos : Pos} (a e it : Addr) (hne : e ≠ it) :
    Turn P w K (.Tuple elts x1 pos) (Ite K a) [e, it] e (fun i h => (∃ old, IsEnum h e it i old) ∧ h.IsListIter it a i) where
  mem := by simp
  obj := fun i h st b hb => by
    obtain ⟨⟨old, he⟩, o, e1, c, d⟩ := st
    rcases List.mem_cons.mp hb with z | z
    · subst z
      exact ⟨_, he, fun v q => by cases q⟩
    · have z : b = it := by simpa using z
      subst z
      exact ⟨o, e1, fun v q => by rw [d] at q; cases q⟩
  keep := fun i h h' st k => by
    obtain ⟨⟨old, he⟩, li⟩ := st
    exact ⟨⟨old, k e (by simp) _ he⟩, li.at fun o q => k it (by simp) o q⟩
  item := by
    intro X hP hw hK hc i pins s σ H E I hf st hg
    subst hP hw hK
    obtain ⟨xs, x, hq, hx⟩ := hg
    obtain ⟨its, rv, p, hz⟩ := I.list hq
    obtain ⟨u, hu, ru⟩ := rv.get hx
    obtain ⟨⟨old, he⟩, hit⟩ := st
    have fe := hf e (by simp)
    have fi := hf it (by simp)
    refine wpAny_pyNext_enum_item he hit p.isList (x := u) (by simpa using hu) hne fun h1 heo hit1 ht1 hz1 hk1 => ⟨_, rfl, ?_⟩
    refine wpAny_letOwnedTupleGo_enum heo fun h2 he2 hs2 => ?_
    have elt : e < s.heap.objs.size := Heap.lt_size he
    have ht2 : h2.get? s.heap.objs.size = some { cls := .type "tuple", data := .seq #[.int i s.toks, u] } := (hs2.2 _ (Nat.ne_of_gt elt)).trans ht1
    have hfr : H s.heap.objs.size = none := I.hok.fresh (Nat.le_refl _)
    have k2 : ∀ b o, b ≠ e → b ≠ it → s.heap.get? b = some o → h2.get? b = some o := fun b o b1 b2 q => hs2.extBut b o b1 (hk1 b o b1 b2 q)
    have neT : ∀ b o, H b = some o → b ≠ s.heap.objs.size := fun b o q z => by rw [z, hfr] at q; cases q
    have neS : ∀ b o, s.heap.get? b = some o → b ≠ s.heap.objs.size := fun b o q => Nat.ne_of_lt (Heap.lt_size q)
    have nt : ∀ b o, H b = some o → b ≠ e ∧ b ≠ it := fun b o q => ⟨(fun z => by rw [z, fe.1] at q; cases q), (fun z => by rw [z, fi.1] at q; cases q)⟩
    have nin : ∀ b, b ∉ [e, it] → b ≠ e ∧ b ≠ it := fun b hb => ⟨fun z => hb (by simp [z]), fun z => hb (by simp [z])⟩
    have I2 : Inv X pins σ (upd H s.heap.objs.size (.tup [.int i, x])) { s with heap := h2, toks := s.toks + 1 } := by
      refine I.step (g' := s.gens) (d' := s.drawn) (ch := [e, it]) (fun b hb => ?_) (fun b o _ _ hc' q _ => k2 b o (nin b hc').1 (nin b hc').2 q) (fun b o _ _ hc' q _ => ⟨o.slots, k2 b o (nin b hc').1 (nin b hc').2 q⟩)
        (fun b o _ q n => by rw [upd_ne (neS b o q)]; exact n) (fun b o hc' q => ⟨o, k2 b o (nin b hc').1 (nin b hc').2 q⟩) (fun b ys q => by rw [upd_ne (neT b _ q)]; exact q) (fun b o v q => by rw [upd_ne (neT b _ q)]; exact q)
        (fun b ps q => ⟨#[], by rw [upd_ne (neT b _ q), q]; simp⟩) (fun m hm => ?_) (fun b o q => ?_) I.bare
      · rcases List.mem_cons.mp hb with z | z
        · subst z
          exact ⟨fe.2.2.2.1, fe.2.1, fe.2.2.2.2.1, fe.2.2.2.2.2⟩
        · have z : b = it := by simpa using z
          subst z
          exact ⟨fi.2.2.2.1, fi.2.1, fi.2.2.2.2.1, fi.2.2.2.2.2⟩
      · obtain ⟨o, es, ep, ho, r⟩ := hm
        exact ⟨o, es, ep, k2 _ o (Ne.symm fe.2.1) (Ne.symm fi.2.1) ho, r⟩
      · by_cases z : b = s.heap.objs.size
        · subst z
          rw [upd_same] at q
          cases q
          exact ⟨(by show 2 ≤ sizeLine; decide), [.int i s.toks, u], .cons ⟨_, rfl⟩ (.cons ru .nil), _, ht2, rfl, _, rfl⟩
        · rw [upd_ne z] at q
          refine (I.hok b o q).stay (fun c v hc' r => k2 c v ?_ ?_ r) (fun c r => by rw [upd_ne (neT c _ r)]; exact r) fun c ys r => by rw [upd_ne (neT c _ r)]; exact r
          · rcases hc' with y | y
            · rw [y]; exact (nt b o q).1
            · exact (nt c _ y).1
          · rcases hc' with y | y
            · rw [y]; exact (nt b o q).2
            · exact (nt c _ y).2
    refine ⟨.ref s.heap.objs.size, _, I2, rfl, ⟨s.heap.objs.size, hfr, rfl, fun ys hy => ⟨x, by rw [I.list_inj hy hq]; exact hx, rfl⟩⟩, ⟨⟨_, he2⟩, ?_⟩, fun b hb => ?_⟩
    · exact hit1.at fun o q => hs2.extBut it o (Ne.symm hne) q
    · rcases List.mem_cons.mp hb with z | z
      · subst z
        rw [upd_ne (Nat.ne_of_lt elt)]
        exact fe.1
      · have z : b = it := by simpa using z
        subst z
        obtain ⟨o, q, _⟩ := id hit
        rw [upd_ne (Nat.ne_of_lt (Heap.lt_size q))]
        exact fi.1
  done := by
    intro X hP hw hK hc i pins s σ H E I hf st hg
    subst hP hw hK
    obtain ⟨xs, hq, hx⟩ := hg
    obtain ⟨its, rv, p, hz⟩ := I.list hq
    obtain ⟨⟨old, he⟩, hit⟩ := st
    obtain ⟨f0, f1, f2, f3, f4, f5⟩ := hf it (by simp)
    have hl := rv.length
    exact wpAny_pyNext_enum_end (I.ok.hd hc) he hit p.isList (by simp; omega) fun h' eb => ⟨rfl, I.turned (t' := s.toks) (fun b o hb q => eb b o hb q) f0 f1 f3 f4 f5⟩
  self := fun _ _ _ _ _ st h => by
    obtain ⟨⟨old, he⟩, _⟩ := st
    exact wpAny_pyIter_enum he h
section
variable {X : Cx}
inductive iEnumI (K : PySem.W.Frag) (R : (It → Hp → Prop)) (vs : List V) (H1 : Hp) : Prop
  | mk : ∀ a, (vs = [.ref a]) → ((∃ xs, SqL K H1 a xs)) → (R (Ite K a) H1) → iEnumI K R vs H1
noncomputable def iEnum (K : PySem.W.Frag) (ta : TA) : TI := fun σ H R => ta σ H fun vs H1 => iEnumI K R vs H1
theorem pi_enum {elts : List Expr} {x1 : Nat} {tp p pos : Pos} {e : Expr} {ta : TA} (hg : Gl X "enumerate") (hm : X.mg "enumerate" = none) (ha : PA X [e] ta) (hs : starEach [e] X.env = [(false, eval e X.env)] := by rfl) :
    PI X (.Tuple elts x1 tp) (.Call (.Name "enumerate" p) [e] [] pos) (iEnum X.K ta) := by
  intro pins s σ H R I h
  refine Call_ (ld_blt I hg hm boot_enumerate (PyProof.Rows.callWith_type1 (thn (ha pos pins s σ H _ I h) fun us s1 ⟨vs, H1, I1, r1, q1⟩ => ?_) hs rfl))
  obtain ⟨a, ev, ⟨xs, hq⟩, q⟩ := q1
  subst ev
  obtain ⟨u, rfl, ru⟩ := r1.one
  cases ru
  obtain ⟨its, rv, pl, hz⟩ := I1.list hq
  refine call_enumerate_list pl.isList fun h' he hit hsz hk => ?_
  refine wpAny_pyIter_enum he ?_
  have I2 : Inv X pins σ H1 { s1 with heap := h' } := I1.kept (t' := s1.toks) hk
  refine ⟨s1.heap.objs.size + 1, [s1.heap.objs.size + 1, s1.heap.objs.size], _, _, H1, rfl, I2, turn_enum a _ _ (Nat.succ_ne_self _), ⟨⟨_, he⟩, hit⟩, fun b hb => ?_, q⟩
  have hb : s1.heap.objs.size ≤ b := by
    rcases List.mem_cons.mp hb with z | z
    · rw [z]; exact Nat.le_succ _
    · have z : b = s1.heap.objs.size := by simpa using z
      rw [z]
      exact Nat.le_refl _
  exact I1.fpOk hb (I1.hok.fresh hb)
theorem for_enum {K : PySem.W.Frag} {a : Addr} {xs : List V} {g : TG} {tb : TS} {D : Ends} {σ : St} {H : Hp} (Pv : Nat → St → Hp → Prop) (h0 : Pv 0 σ H) (hl : ∀ i σ H, i ≤ xs.length → Pv i σ H → SqL K H a xs)
    (hs : ∀ (i : Nat) x σ H T, xs[i]? = some x → Pv i σ H → H T = none → g (.ref T) σ (upd H T (.tup [.int i, x])) fun σ2 H2 => tb { D with nx := Pv (i + 1), ct := Pv (i + 1), bk := D.nx } σ2 H2) (hd : ∀ σ H, Pv xs.length σ H → D.nx σ H) :
    ∃ W : Nat → Nat → St → Hp → Prop, (∃ m, W 0 m σ H) ∧ ∀ i m σ H, W i m σ H →
      ((Ite K a).stop i H ∧ D.nx σ H) ∨ ((Ite K a).go i H ∧ ∃ N : St → Hp → Prop, (∀ σ' H', N σ' H' → ∃ m', m' < m ∧ W (i + 1) m' σ' H') ∧ ∀ x H', (Ite K a).yld i H x H' → g x σ H' fun σ2 H2 => tb { D with nx := N, ct := N, bk := D.nx } σ2 H2) := by
  refine ⟨fun i m σ H => m = xs.length - i ∧ i ≤ xs.length ∧ Pv i σ H, ⟨xs.length, by simp, Nat.zero_le _, h0⟩, ?_⟩
  rintro i m σ H ⟨rfl, hi, p⟩
  have q := hl i σ H hi p
  by_cases hlt : i < xs.length
  · refine .inr ⟨⟨xs, xs[i], q, by simp [hlt]⟩, Pv (i + 1), fun σ' H' p' => ⟨xs.length - (i + 1), by omega, rfl, hlt, p'⟩, fun v H' y => ?_⟩
    obtain ⟨T, hT, rfl, y⟩ := y
    obtain ⟨x, hx, rfl⟩ := y xs q
    exact hs i x σ _ T hx p hT
  · have e : i = xs.length := by omega
    subst e
    exact .inl ⟨⟨xs, q, Nat.le_refl _⟩, hd σ H p⟩
end
end L2

namespace L2
open PySem PySem.Spec PyProof.Rows
/-! ### a comprehension with two names for its target -/
section
variable {prog : Program} {w : World} {A : Around} {R : Result → Shared → Prop} {s : Shared}
noncomputable abbrev nb2 (prog : Program) (w : World) (A : Around) (env : Env) (R : Result → Shared → Prop) : Value → Shared → Prop := notedBy (model prog w) A env fun e s' => R (.error e) s'
theorem comp_loopT {elt tg iter : Expr} {ifs : List Expr} {scope : Scope} {pos : Pos} {it acc : Value} {env : Env} (I : Nat → Shared → Prop)
    (turn : ∀ n s, I n s → wpAny (model prog w) A (pyNext it) (fun r s1 => match r with
      | none => R (.ok .next) s1
      | some v => wpAny (model prog w) A (letOwnedTupleGo tg it v) (fun _ s0 => wpAny (model prog w) A (assign tg env v) (fun _ s2 => wpAny (model prog w) A (forIn ifs true fun c r => if r = true then do let ok ← isTrue c env (eval c env); pure (ForInStep.yield ok) else pure (ForInStep.yield r)) (fun ok s3 =>
            if ok = true then wpAny (model prog w) A (eval elt env) (fun x s4 => wpAny (model prog w) A (call (.builtin "list.append") [acc, x]) (fun _ s5 => ∃ m, m < n ∧ I m s5) (nb2 prog w A env R) s4) (nb2 prog w A env R) s3
            else ∃ m, m < n ∧ I m s3) (nb2 prog w A env R) s2) (nb2 prog w A env R) s0) (nb2 prog w A env R) s1) (nb2 prog w A env R) s)
    (n : Nat) (h : I n s) : codeAny (model prog w) A (.compLoop (.ListComp elt [⟨tg, iter, ifs, 0⟩] scope pos) 0 it acc env) R s := by
  refine codeAny_loop rfl I (fun n s hI => ?_) n h
  refine (wpAny_noted (?_ : _) : wpAny _ A ((compTurn (.ListComp elt [⟨tg, iter, ifs, 0⟩] scope pos) 0 it acc env).onRaise (fun x => do noteFrame x env; theTreesLotGoes x)) _ _ s)
  rw [compTurn_list]
  refine wpAny_bind (wpAny_standAt (wpAny_bind (wpAny_mono (turn n s hI) (fun r s1 h1 => ?_) fun _ _ z => z)))
  cases r with
  | none => exact wpAny_pure h1
  | some v =>
    refine wpAny_bind (wpAny_mono h1 (fun _ s0 h0 => wpAny_bind (wpAny_mono h0 (fun _ s2 h2 => wpAny_bind (wpAny_mono h2 (fun ok s3 h3 => ?_) fun _ _ z => z)) fun _ _ z => z)) fun _ _ z => z)
    cases ok with
    | false => exact wpAny_pure ⟨rfl, h3⟩
    | true => exact wpAny_bind (wpAny_bind (wpAny_mono h3 (fun x s4 h4 => wpAny_bind (wpAny_mono h4 (fun _ s5 h5 => wpAny_pure (wpAny_pure ⟨rfl, h5⟩)) fun _ _ z => z)) fun _ _ z => z))
end
structure Block2 (X : Cx) (scope : Scope) (x y0 : Str) (NB : List Str) (ix : List Nat) : Prop where
  kind : scope.kind = .function
  cell : ∀ y ∈ scope.names, y.2 ≠ .cell
  names : ∀ y ∈ scope.names, y.2 = .local → scope.names.lookup y.1 = some .local
  free : ∀ y, (y, NameKind.free) ∈ scope.names → (X.env.kindOf y = some .cell ∨ X.env.kindOf y = some .free)
  var : scope.names.lookup x = some .local
  var2 : scope.names.lookup y0 = some .local
  nb : NB = x :: y0 :: ix.map fun i => X.N.getD i x
  nd : NB.Nodup
  cap : ∀ i ∈ ix, ∃ y, X.N[i]? = some y ∧ scope.names.lookup y = some .free
noncomputable def CompW2 (K : PySem.W.Frag) (J : It) (os : St) (tt : TT) (te : TE) (H1 : Hp) (Q : VK) : Prop :=
  ∃ W : Nat → Nat → List V → Hp → Prop, (∃ m, W 0 m [] H1) ∧ ∀ i m ys H, W i m ys H →
    (J.stop i H ∧ ∀ p, H p = none → Q (.ref p) (upd H p (.lst ys))) ∨
    (J.go i H ∧ ys.length < sizeLine ∧ ∃ N : List V → Hp → Prop, (∀ ys' H', N ys' H' → ∃ m', m' < m ∧ W (i + 1) m' ys' H') ∧ ∀ x H', J.yld i H x H' → ∃ T a b, x = .ref T ∧ SqT K H' T [a, b] ∧ tt (some a :: some b :: os) H' fun b2 H2 => if b2 = true then te (some a :: some b :: os) H2 fun v H3 => N (ys ++ [v]) H3 else N ys H2)
section
variable {X : Cx} {scope : Scope} {x y0 : Str} {NB : List Str} {ix : List Nat} {pins : List (Addr × Obj)} {σ : St} {H2 : Hp} {s2 : Shared} {fp : List Addr}
theorem Block2.clos (B : Block2 X scope x y0 NB ix) (I2 : Inv X pins σ H2 s2) : closureFor scope X.env = pure (closOf X.env.cells scope.names []) :=
  closureFor_clos fun n hn => I2.ok.has n (B.free n hn)
theorem Block2.look (B : Block2 X scope x y0 NB ix) (I2 : Inv X pins σ H2 s2) {y : Str} {c : Addr} (h : (closOf X.env.cells scope.names []).lookup y = some c) : X.env.cells.lookup y = some c := by
  rcases closOf_look _ _ h with ⟨m, e⟩ | e
  · obtain ⟨c', hc⟩ := I2.ok.has y (B.free y m)
    rw [hc] at e ⊢
    exact congrArg some e
  · cases e
theorem block2_ok (B : Block2 X scope x y0 NB ix) (I2 : Inv X pins σ H2 s2) {C : Addr} (hC : s2.heap.objs.size ≤ C) (f2 : ∀ b ∈ fp, FpOk X pins H2 b) (ft : ∀ b ∈ fp, b < s2.heap.objs.size) : (X.block scope C NB s2 H2 fp).Ok where
  mod := I2.ok.mod
  kind := B.kind
  glob := I2.ok.glob
  blt := I2.ok.blt
  above := hC
  inj := fun a b c h1 h2 => I2.ok.inj a b c (B.look I2 h1) (B.look I2 h2)
  has := fun y hy => by
    have key : ∀ k, (relabel scope X.env).names.lookup y = some k → (k = .cell ∨ k = .free) → ∃ c, (closOf X.env.cells scope.names []).lookup y = some c := fun k hk kk => by
      rcases relab_of (names := scope.names) hk with e | ⟨e, _⟩
      · rcases kk with rfl | rfl
        · exact absurd rfl (B.cell _ (look_mem e))
        · exact closOf_has _ _ (.inl (look_mem e))
      · exact closOf_has _ _ (.inl (look_mem e))
    rcases hy with e | e
    · exact key _ e (.inl rfl)
    · exact key _ e (.inr rfl)
  cab := fun _ _ z => by cases z
  hd := I2.ok.hd
  frames := I2.ok.frames
  stk := .inl rfl
  exf := fun b hb => ⟨Nat.ne_of_lt (Nat.lt_of_lt_of_le (ft b hb) hC), fun y c e => (f2 b hb).2.2.2.2.1 y c (B.look I2 e)⟩
  bs := I2.bs
  bsz := Nat.le_trans I2.ok.bsz I2.sz
  noex := fun b o e hb => by
    rcases (f2 b hb).2.2.2.1 with z | z
    · exact I2.ok.noex b o e z
    · exact absurd (Nat.lt_of_lt_of_le (Heap.lt_size (I2.ok.bs b o e).1) z) (Nat.lt_irrefl _)
  exfs := fun b hb z => by
    rcases List.mem_cons.mp (I2.stkSub b z) with e | e
    · exact (f2 b hb).2.1 e
    · exact (f2 b hb).2.2.1 e
  funs := I2.stack
  frf := I2.stkFree
theorem block2_inv (B : Block2 X scope x y0 NB ix) (I2 : Inv X pins σ H2 s2) {C D : Addr} {h1 : Heap} {tk : Nat} {m : Str → Option Value} {oD : Obj} (hC : s2.heap.objs.size ≤ C) (hD : s2.heap.objs.size ≤ D) (hDC : D ≠ C) (f2 : ∀ b ∈ fp, FpOk X pins H2 b) (ft : ∀ b ∈ fp, b < s2.heap.objs.size)
    (old : ∀ b o, s2.heap.get? b = some o → h1.get? b = some o) (hn : h1.Ns C m) (ho : h1.get? D = some oD) (hcl : ∀ v, oD.data ≠ .cell v) :
    Inv (X.block scope C NB s2 H2 fp) [(D, oD)] (none :: none :: caps ix σ) H2 { s2 with heap := h1, toks := tk } where
  ok := block2_ok B I2 hC f2 ft
  os := rfl
  bare := I2.bare
  base := Un.kept old
  loc := by
    refine ⟨m, hn, fun i y v e1 e2 _ => ?_⟩
    have e1 : NB[i]? = some y := e1
    match i with
    | 0 => cases e2
    | 1 => cases e2
    | j + 2 =>
      have e2 : (caps ix σ)[j]? = some (some v) := e2
      rw [B.nb] at e1
      have e1 : (ix.map fun i => X.N.getD i x)[j]? = some y := e1
      rw [List.getElem?_map] at e1
      unfold caps at e2
      rw [List.getElem?_map] at e2
      cases q : ix[j]? with
      | none => rw [q] at e1; cases e1
      | some i =>
        rw [q] at e1 e2
        obtain ⟨z, hz, fz⟩ := B.cap i (List.mem_of_getElem? q)
        have ey : y = z := by
          have w : X.N.getD i x = y := Option.some.inj e1
          rw [← w, List.getD_eq_getElem?_getD, hz]
          rfl
        subst ey
        have e2 : (σ[i]?).join = some v := Option.some.inj e2
        have es : σ[i]? = some (some v) := by
          cases w : σ[i]? with
          | none => rw [w] at e2; cases e2
          | some o => rw [w] at e2; exact congrArg some e2
        have fk := B.free y (look_mem fz)
        have vis : Vis X.env.scope y := .inr fk
        obtain ⟨mm, _, hl⟩ := I2.loc
        obtain ⟨u, ru, lk⟩ := hl i y v hz es vis
        refine ⟨u, ru, .inr ⟨?_, ?_⟩⟩
        · rcases relab_some (env := X.env) (names := scope.names) fz with e | ⟨_, e⟩
          · exact .inr e
          · exact .inl e
        · rcases lk with ⟨lk, _⟩ | ⟨_, c, hc, hcell⟩
          · rcases fk with fk | fk
            · rw [lk] at fk; cases fk
            · rw [lk] at fk; cases fk
          · obtain ⟨c', hc'⟩ := closOf_has (cells := X.env.cells) scope.names [] (.inl (look_mem fz))
            have e3 := B.look I2 hc'
            rw [hc] at e3
            cases e3
            obtain ⟨oc, g1, g2⟩ := hcell
            exact ⟨c, hc', oc, old _ _ g1, g2⟩
  cell := fun y c e => by
    obtain ⟨v, o, g1, g2⟩ := I2.cell y c (B.look I2 e)
    exact ⟨v, o, old _ _ g1, g2⟩
  free := I2.hok.fresh hC
  freeC := fun y c e => I2.freeC y c (B.look I2 e)
  pin := fun p hp => by
    have e : p = (D, oD) := by simpa [Cx.block] using hp
    subst e
    refine ⟨ho, I2.hok.fresh hD, hDC, fun z => ?_, hcl⟩
    rcases List.mem_cons.mp (I2.stkSub D z) with e | e
    · have e : D = X.env.locals := e
      exact absurd (Nat.lt_of_lt_of_le I2.lt (e ▸ hD)) (Nat.lt_irrefl _)
    · exact I2.nofs hD e
  hok := I2.hok.kept old
  len := by
    show (none :: none :: caps ix σ).length = NB.length
    rw [B.nb, List.length_cons, List.length_cons, List.length_cons, List.length_cons, caps_len, List.length_map]
theorem comp2_core {elt iter : Expr} {ifs : List Expr} {px py pt pos : Pos} {k1 : Nat} {tt : TT} {te : TE} {J : It} {it : Addr} {tn : Nat → Heap → Prop} {E : Value → Shared → Prop} {RR : Value → Addr → Result → Shared → Prop} {Qr : VK}
    (B : Block2 X scope x y0 NB ix) (hc : X.calm = true)
    (he : ∀ (C : Addr) (s : Shared) (H : Hp) (fp : List Addr), PE (X.block scope C NB s H fp) elt te) (ht : ∀ (C : Addr) (s : Shared) (H : Hp) (fp : List Addr), PTs (X.block scope C NB s H fp) ifs tt)
    (I2 : Inv X pins σ H2 s2) (T : Turn X.prog X.w X.K (.Tuple [.Name x px, .Name y0 py] k1 pt) J fp it tn) (st2 : tn 0 s2.heap) (f2 : ∀ b ∈ fp, FpOk X pins H2 b) (h : CompW2 X.K J (caps ix σ) tt te H2 Qr)
    (hRR : ∀ (D C : Addr) (Hf : Hp) (s' : Shared) (m' : Str → Option Value), Inv X pins σ Hf s' → s'.heap.Ns C m' → FpOk X pins Hf C → Qr (.ref D) Hf → RR (.ref D) C (.ok .next) s') :
    wpAny (model X.prog X.w) X.A (newList []) (fun acc s3 => wpAny (model X.prog X.w) X.A (newFunctionEnv scope X.env.globals (closOf X.env.cells scope.names []) [] X.env.qual none .none (some X.env)) (fun cenv s4 =>
      codeAny (model X.prog X.w) X.A (.compStart (.ListComp elt [⟨.Tuple [.Name x px, .Name y0 py] k1 pt, iter, ifs, 0⟩] scope pos) 0 (.ref it) acc { cenv with scope := relabel scope X.env }) (RR acc cenv.locals) s4) E s3) E s2 := by
  obtain ⟨W, ⟨m0, w0⟩, turn⟩ := h
  refine wpAny_newObj_type (wpAny_newFunctionEnv B.cell (by intro y hy; simp at hy) (fun h1 hns hsb => ?_) B.kind)
  dsimp only at hns hsb ⊢
  generalize eG : s2.heap.push { cls := .type "list", dict := none, data := .seq ([] : List Value).toArray } = G at hns hsb ⊢
  have hC : G.objs.size = s2.heap.objs.size + 1 := by rw [← eG, Heap.size_push]
  have hDC : s2.heap.objs.size ≠ G.objs.size := by rw [hC]; exact Nat.ne_of_lt (Nat.lt_succ_self _)
  have hCle : s2.heap.objs.size ≤ G.objs.size := by rw [hC]; exact Nat.le_succ _
  have old : ∀ b o, s2.heap.get? b = some o → h1.get? b = some o := fun b o e => by
    have lt := Heap.lt_size e
    exact hsb.extBut b o (Nat.ne_of_lt (Nat.lt_of_lt_of_le lt hCle)) (Heap.get?_push_of_some _ (eG ▸ Heap.get?_push_of_some _ e))
  have hacc : h1.get? s2.heap.objs.size = some (lstO [] 0) := hsb.extBut _ _ hDC (Heap.get?_push_of_some _ (eG ▸ Heap.get?_push_size _ rfl))
  have ft : ∀ b ∈ fp, b < s2.heap.objs.size := fun b hb => by
    obtain ⟨o, e, _⟩ := T.obj _ _ st2 b hb
    exact Heap.lt_size e
  have loop : ∀ s3 : Shared, s3 = { s2 with heap := h1, toks := s2.toks + ([] : List (Str × Value)).length } →
      codeAny (model X.prog X.w) X.A (.compLoop (.ListComp elt [⟨.Tuple [.Name x px, .Name y0 py] k1 pt, iter, ifs, 0⟩] scope pos) 0 (.ref it) (.ref s2.heap.objs.size) (compEnvC scope (closOf X.env.cells scope.names []) G.objs.size X.env))
        (RR (.ref s2.heap.objs.size) G.objs.size) s3 := by
    rintro s3 rfl
    have I3 := block2_inv (tk := s2.toks + ([] : List (Str × Value)).length) B I2 hCle (Nat.le_refl _) hDC f2 ft old hns hacc (fun v q => by cases q)
    have st3 : tn 0 h1 := T.keep _ _ _ st2 fun b _ o e => old b o e
    have fy : ∀ {H' : Hp} {oD : Obj}, (∀ b ∈ fp, H' b = none) → ∀ b ∈ fp, FpOk (X.block scope G.objs.size NB s2 H2 fp) [(s2.heap.objs.size, oD)] H' b := fun {H' oD} hn b hb => by
      refine ⟨hn b hb, Nat.ne_of_lt (Nat.lt_of_lt_of_le (ft b hb) hCle), fun z => ?_, .inl hb, fun y c e => (f2 b hb).2.2.2.2.1 y c (B.look I2 e), fun p hp => ?_⟩
      · rcases List.mem_cons.mp (I2.stkSub b z) with e | e
        · exact (f2 b hb).2.1 e
        · exact (f2 b hb).2.2.1 e
      · have e : p = (s2.heap.objs.size, oD) := by simpa [Cx.block] using hp
        subst e
        exact Ne.symm (Nat.ne_of_lt (ft b hb))
    refine comp_loopT (fun n s' => ∃ i ys its nn o o2 H', W i n ys H' ∧ Inv (X.block scope G.objs.size NB s2 H2 fp) [(s2.heap.objs.size, lstO its nn)] (o :: o2 :: caps ix σ) H' s' ∧ tn i s'.heap ∧ (∀ b ∈ fp, H' b = none) ∧ Vals ys its ∧ ys.length ≤ sizeLine)
      ?_ m0 ⟨0, [], [], 0, none, none, H2, w0, I3, st3, fun b hb => (f2 b hb).1, .nil, Nat.zero_le _⟩
    rintro n s' ⟨i, ys, its, nn, o, o2, H', w', I', st', fr', rv, hz⟩
    rcases turn i n ys H' w' with ⟨stop, q⟩ | ⟨go, hlt, Nx, hNx, step⟩
    · refine wpAny_mono (T.done (X.block scope G.objs.size NB s2 H2 fp) rfl rfl rfl hc i _ s' _ H' (fun _ _ => False) I' (fy fr') st' stop) (fun r s4 ⟨hr, I4⟩ => ?_) fun _ _ z => z.elim
      subst hr
      have I5 := block_end I2 f2 (Nat.le_refl _) I4 rv hz
      obtain ⟨m4, hn4, _⟩ := I4.loc
      have hfree : H' s2.heap.objs.size = none := (I4.pin (s2.heap.objs.size, lstO its nn) (by show _ ∈ [] ++ [(s2.heap.objs.size, lstO its nn)]; simp)).2.1
      refine hRR _ _ _ s4 m4 I5 hn4 (I2.fpOk hCle ?_) (q _ hfree)
      rw [upd_ne (Ne.symm hDC)]
      exact I4.free
    · refine wpAny_mono (T.item (X.block scope G.objs.size NB s2 H2 fp) rfl rfl rfl hc i _ s' _ H' (fun _ _ => False) I' (fy fr') st' go) (fun r s4 ⟨u, hr, h4⟩ => ?_) fun _ _ z => z.elim
      subst hr
      refine wpAny_mono h4 (fun _ s4 ⟨v, H5, I5, r5, y5, st5, fr5⟩ => ?_) fun _ _ z => z.elim
      have pIt : ∀ b ∈ fp, ∃ o, s4.heap.get? b = some o ∧ ∀ v, o.data ≠ .cell v := T.obj _ _ st5
      have I5' := I5.pinned (fy fr5) pIt
      have hg := pg_tup (X := X.block scope G.objs.size NB s2 H2 fp) (pos := pt) (k := k1) hc (pgs_cons (pg_name (i := 0) (x := x) (pos := px) B.nd (by show NB[0]? = some x; rw [B.nb]; rfl) (.inl (lookup_relabel_local B.var)) (.inr (lookup_relabel_local B.var)))
        (pgs_cons (pg_name (i := 1) (x := y0) (pos := py) B.nd (by show NB[1]? = some y0; rw [B.nb]; rfl) (.inl (lookup_relabel_local B.var2)) (.inr (lookup_relabel_local B.var2))) pgs_nil))
      obtain ⟨T5, va, vb, ev, sq, w5⟩ := step v H5 y5
      refine wpAny_mono (hg _ s4 _ H5 v u (fun σ' H' => σ' = some va :: some vb :: caps ix σ ∧ H' = H5) I5' r5 ⟨T5, [va, vb], ev, sq, rfl, va, [vb], rfl, vb, [], rfl, rfl, rfl, rfl⟩) (fun _ s6 h6 => ?_) fun _ _ z => z.elim
      obtain ⟨σ6, H6, I6, e6, e7⟩ := h6
      subst e6 e7
      refine wpAny_mono (ht _ _ _ _ _ s6 _ _ _ I6 w5) (fun b s7 ⟨H7, I7, q7⟩ => ?_) fun _ _ z => z.elim
      -- what stays of the iterator
      have stays : ∀ {s9 : Shared} {H9 : Hp} {σ9 : St} {oD : Obj}, Inv (X.block scope G.objs.size NB s2 H2 fp) ([(s2.heap.objs.size, oD)] ++ pinsAt fp s4.heap) σ9 H9 s9 → tn (i + 1) s9.heap ∧ ∀ b ∈ fp, H9 b = none := fun {s9 H9 σ9 oD} I9 => by
        refine ⟨T.keep _ _ _ st5 fun b hb o e => (I9.pin (b, o) (List.mem_append_right _ (List.mem_append_right _ (mem_pinsAt hb e)))).1, fun b hb => ?_⟩
        obtain ⟨o, e, d⟩ := pIt b hb
        exact (I9.pin (b, o) (List.mem_append_right _ (List.mem_append_right _ (mem_pinsAt hb e)))).2.1
      cases b with
      | false =>
        rw [if_neg Bool.false_ne_true] at q7 ⊢
        obtain ⟨m', hm, w7⟩ := hNx _ _ q7
        obtain ⟨g1, g2⟩ := stays I7
        exact ⟨m', hm, i + 1, ys, its, nn, some va, some vb, H7, w7, I7.unpinned, g1, g2, rv, hz⟩
      | true =>
        rw [if_pos rfl] at q7 ⊢
        refine wpAny_mono (he _ _ _ _ _ s7 _ _ _ I7 q7) (fun y s8 ⟨yv, H8, I8, r8, n8⟩ => ?_) fun _ _ z => z.elim
        obtain ⟨m', hm, w8⟩ := hNx _ _ n8
        obtain ⟨g1, g2⟩ := stays I8
        have pD := I8.pin (s2.heap.objs.size, lstO its nn) (by show _ ∈ [] ++ ([(s2.heap.objs.size, lstO its nn)] ++ pinsAt fp s4.heap); simp)
        refine append_at (hsz := by rw [List.size_toArray, ← rv.length]; exact hz) pD.1 fun h9 hs9 hD9 => ?_
        have hno : s2.heap.objs.size ∉ fp := fun z => Nat.lt_irrefl _ (ft _ z)
        have I8u := I8.unpinned
        have I8n := I8u.pins_of (pins' := []) (fun _ z => nomatch z)
        have I9 := I8n.turned (h' := h9) (t' := s8.toks) (it := s2.heap.objs.size) (fun b o hb e => hs9.extBut b o hb e) pD.2.1 pD.2.2.1 (.inr (Nat.le_refl _))
          (fun y c e z => by
            obtain ⟨w, q⟩ := I2.cell y c (B.look I2 e)
            exact Nat.lt_irrefl _ (z ▸ q.lt)) (fun p hp => by cases hp)
        have e9 : lstO (its ++ [y]) (nn + 1) = { cls := .type "list", data := .seq (its.toArray.push y) (nn + 1) } := by
          show ({ cls := .type "list", data := .seq (its ++ [y]).toArray (nn + 1) } : Obj) = _
          rw [List.push_toArray]
        have I10 : Inv (X.block scope G.objs.size NB s2 H2 fp) [(s2.heap.objs.size, lstO (its ++ [y]) (nn + 1))] (some va :: some vb :: caps ix σ) H8 { s8 with heap := h9 } := by
          refine I9.pins_of fun p hp => ?_
          have e : p = (s2.heap.objs.size, lstO (its ++ [y]) (nn + 1)) := by simpa using hp
          subst e
          exact ⟨hD9.trans (congrArg some e9.symm), pD.2.1, pD.2.2.1, pD.2.2.2.1, fun v q => by cases q⟩
        refine ⟨m', hm, i + 1, ys ++ [yv], its ++ [y], nn + 1, some va, some vb, H8, w8, I10, T.keep _ _ _ g1 fun b hb o e => hs9.extBut b o (fun z => hno (z ▸ hb)) e, g2, Vals.append rv (.cons r8 .nil), ?_⟩
        rw [List.length_append]
        exact hlt
  exact codeAny_compStart_list (loop _ rfl) (T.self _ 0 _ _ _ (T.keep _ _ _ st2 fun b _ o e => old b o e) (loop _ rfl))

end
end L2

namespace L2
open PySem PySem.Spec PyProof.Rows
section
variable {X : Cx} {scope : Scope} {x y0 : Str} {NB : List Str} {ix : List Nat} {pins : List (Addr × Obj)} {σ : St} {H2 : Hp} {s2 : Shared} {fp : List Addr}
noncomputable def tComp2 (K : PySem.W.Frag) (wi : TI) (ix : List Nat) (tt : TT) (te : TE) : TE := fun σ H Q => wi σ H fun J H1 => CompW2 K J (caps ix σ) tt te H1 Q
theorem pe_comp2 {elt iter : Expr} {ifs : List Expr} {px p2 pt pos : Pos} {k1 : Nat} {wi : TI} {tt : TT} {te : TE} (B : Block2 X scope x y0 NB ix) (hc : X.calm = true) (hi : PI X (.Tuple [.Name x px, .Name y0 p2] k1 pt) iter wi)
    (he : ∀ (C : Addr) (s : Shared) (H : Hp) (fp : List Addr), PE (X.block scope C NB s H fp) elt te) (ht : ∀ (C : Addr) (s : Shared) (H : Hp) (fp : List Addr), PTs (X.block scope C NB s H fp) ifs tt)
    (hs : ∀ v, foldedSetIterable iter X.env v = pure v := by intro _; rfl) : PE X (.ListComp elt [⟨.Tuple [.Name x px, .Name y0 p2] k1 pt, iter, ifs, 0⟩] scope pos) (tComp2 X.K wi ix tt te) := by
  intro pins s σ H Q I h
  rw [eval_ListComp]
  refine wpAny_comprehension_free (use := none) rfl hs (B.clos I) B.kind B.names (thn (hi pins s σ H _ I h) fun v s1 h1 => thn h1 fun itv s2 h2 => ?_)
  obtain ⟨it, fp, tn, J, H2, e, I2, T, st2, f2, w⟩ := h2
  subst e
  refine comp2_core (RR := fun acc C => compPost (model X.prog X.w) X.A X.xe none (EP X pins σ Q) acc C) B hc he ht I2 T st2 f2 w fun D C Hf s' m' I' hn' fC q => ?_
  refine ⟨m', hn', fun h'' hs'' => ⟨.ref D, Hf, ?_, rfl, q⟩⟩
  obtain ⟨c0, c1, c2, c3, c4, c5⟩ := fC
  exact I'.turned (it := C) (t' := s'.toks) (fun b o hb e => hs''.extBut b o hb e) c0 c1 c3 c4 c5
noncomputable def block2B (N : List Str) (fs scope : Scope) (x y0 : Str) (NB : List Str) (ix : List Nat) : Bool :=
  decide (scope.kind = .function) && scope.names.all (fun y => decide (y.2 ≠ .cell)) && scope.names.all (fun y => decide (y.2 ≠ .local) || decide (scope.names.lookup y.1 = some .local)) &&
  scope.names.all (fun y => decide (y.2 ≠ .free) || (decide (fs.names.lookup y.1 = some .cell) || decide (fs.names.lookup y.1 = some .free))) && (decide (scope.names.lookup x = some .local) && decide (scope.names.lookup y0 = some .local)) &&
  decide (NB = x :: y0 :: ix.map fun i => N.getD i x) && decide NB.Nodup && ix.all fun i => match N[i]? with | some y => decide (scope.names.lookup y = some .free) | none => false
theorem Block2.of {N : List Str} {fs : Scope} (h : block2B N fs scope x y0 NB ix = true) (hN : X.N = N := by rfl) (hf : X.env.scope = fs := by rfl) : Block2 X scope x y0 NB ix := by
  subst hN hf
  unfold block2B at h
  simp only [Bool.and_eq_true] at h
  obtain ⟨⟨⟨⟨⟨⟨⟨h1, h2⟩, h3⟩, h4⟩, h5, h5'⟩, h6⟩, h7⟩, h8⟩ := h
  refine ⟨of_decide_eq_true h1, fun y hy => of_decide_eq_true (List.all_eq_true.mp h2 y hy), fun y hy e => ?_, fun y hy => ?_, of_decide_eq_true h5, of_decide_eq_true h5', of_decide_eq_true h6, of_decide_eq_true h7, fun i hi => ?_⟩
  · have z := List.all_eq_true.mp h3 y hy
    rw [Bool.or_eq_true] at z
    rcases z with z | z
    · exact absurd e (of_decide_eq_true z)
    · exact of_decide_eq_true z
  · have z := List.all_eq_true.mp h4 _ hy
    rw [Bool.or_eq_true, Bool.or_eq_true] at z
    rcases z with z | z | z
    · exact absurd rfl (of_decide_eq_true z)
    · exact .inl (of_decide_eq_true z)
    · exact .inr (of_decide_eq_true z)
  · have z := List.all_eq_true.mp h8 i hi
    cases e : X.N[i]? with
    | none => rw [e] at z; cases z
    | some y => rw [e] at z; exact ⟨y, rfl, of_decide_eq_true z⟩
theorem comp2_list {K : PySem.W.Frag} {a : Addr} {xs : List V} {os : St} {tt : TT} {te : TE} {H : Hp} {Q : VK} (Pv : Nat → List V → Hp → Prop) (h0 : Pv 0 [] H) (hz : ∀ i ys H, i < xs.length → Pv i ys H → ys.length < sizeLine)
    (hl : ∀ i ys H, i ≤ xs.length → Pv i ys H → SqL K H a xs)
    (hs : ∀ (i : Nat) x ys H, xs[i]? = some x → Pv i ys H → ∃ T u v, x = .ref T ∧ SqT K H T [u, v] ∧ tt (some u :: some v :: os) H fun b H2 => if b = true then te (some u :: some v :: os) H2 fun v H3 => Pv (i + 1) (ys ++ [v]) H3 else Pv (i + 1) ys H2)
    (hd : ∀ ys H, Pv xs.length ys H → ∀ p, H p = none → Q (.ref p) (upd H p (.lst ys))) : CompW2 K (Itl K a) os tt te H Q := by
  refine ⟨fun i m ys H => m = xs.length - i ∧ i ≤ xs.length ∧ Pv i ys H, ⟨xs.length, by simp, Nat.zero_le _, h0⟩, ?_⟩
  rintro i m ys H ⟨rfl, hi, p⟩
  have q := hl i ys H hi p
  by_cases hlt : i < xs.length
  · refine .inr ⟨⟨xs, xs[i], q, by simp [hlt]⟩, hz i ys H hlt p, Pv (i + 1), fun ys' H' p' => ⟨xs.length - (i + 1), by omega, rfl, hlt, p'⟩, fun x H' y => ?_⟩
    obtain ⟨e, y⟩ := y
    subst e
    exact hs i x ys _ (y xs q) p
  · have e : i = xs.length := by omega
    subst e
    exact .inl ⟨⟨xs, q, Nat.le_refl _⟩, hd ys H p⟩
end
/-! ### zip of two lists -/
noncomputable def Itz (K : PySem.W.Frag) (a b : Addr) : It :=
  ⟨fun i H => ∃ xs ys x y, SqL K H a xs ∧ SqL K H b ys ∧ xs[i]? = some x ∧ ys[i]? = some y, fun i H v H' => ∃ T, H T = none ∧ v = .ref T ∧ ∀ xs ys, SqL K H a xs → SqL K H b ys → ∃ x y, xs[i]? = some x ∧ ys[i]? = some y ∧ H' = upd H T (.tup [x, y]),
    fun i H => ∃ xs ys, SqL K H a xs ∧ SqL K H b ys ∧ (xs.length ≤ i ∨ ys.length ≤ i)⟩
theorem turn_zip {P : Program} {w : World} {K : PySem.W.Frag} {elts : List Expr} {x1 : Nat} {pos : Pos} (a b z TI TO i1 i2 : Addr) (D : PySem.ZipApart z TI TO i1 i2 a b) :
    Turn P w K (.Tuple elts x1 pos) (Itz K a b) [z, TI, TO, i1, i2] z (fun i h => PySem.IsZip h z TI TO .none ∧ PySem.IsPair h TI (.ref i1) (.ref i2) ∧ (∃ u v, PySem.IsPair h TO u v) ∧ h.IsListIter i1 a i ∧ h.IsListIter i2 b i) where
  mem := by simp
  obj := fun i h st c hc => by
    obtain ⟨h1, h2, ⟨u, v, h3⟩, h4, h5⟩ := st
    simp only [List.mem_cons, List.not_mem_nil, or_false] at hc
    rcases hc with rfl | rfl | rfl | rfl | rfl
    · exact ⟨_, h1, fun v q => by cases q⟩
    · exact ⟨_, h2, fun v q => by cases q⟩
    · exact ⟨_, h3, fun v q => by cases q⟩
    · obtain ⟨o, e1, _, d⟩ := h4
      exact ⟨o, e1, fun v q => by rw [d] at q; cases q⟩
    · obtain ⟨o, e1, _, d⟩ := h5
      exact ⟨o, e1, fun v q => by rw [d] at q; cases q⟩
  keep := fun i h h' st k => by
    obtain ⟨h1, h2, ⟨u, v, h3⟩, h4, h5⟩ := st
    exact ⟨k z (by simp) _ h1, k TI (by simp) _ h2, ⟨u, v, k TO (by simp) _ h3⟩, h4.at fun o q => k i1 (by simp) o q, h5.at fun o q => k i2 (by simp) o q⟩
  item := by
    intro X hP hw hK hc i pins s σ H E I hf st hg
    subst hP hw hK
    obtain ⟨xs, ys, x, y, hq, hq2, hx, hy⟩ := hg
    obtain ⟨its, rv, p, _⟩ := I.list hq
    obtain ⟨its2, rv2, p2, _⟩ := I.list hq2
    obtain ⟨u, hu, ru⟩ := rv.get hx
    obtain ⟨u2, hu2, ru2⟩ := rv2.get hy
    obtain ⟨h1, h2, ⟨ua, ub, h3⟩, h4, h5⟩ := st
    have fz := hf z (by simp)
    have fI := hf TI (by simp)
    have fO := hf TO (by simp)
    have f1 := hf i1 (by simp)
    have f2 := hf i2 (by simp)
    refine PySem.wpAny_pyNext_zip_item D h1 h2 h3 h4 h5 p.isList p2.isList (x := u) (y := u2) (by simpa using hu) (by simpa using hu2) fun hA a1 a2 a3 a4 a5 a6 a7 => ⟨_, rfl, ?_⟩
    refine PySem.wpAny_letOwnedTupleGo_zip a1 fun hB b1 hs => ?_
    have zlt : z < s.heap.objs.size := Heap.lt_size h1
    have ht2 : hB.get? s.heap.objs.size = some { cls := .type "tuple", data := .seq #[u, u2] } := (hs.2 _ (Nat.ne_of_gt zlt)).trans a5
    have hfr : H s.heap.objs.size = none := I.hok.fresh (Nat.le_refl _)
    have k2 : ∀ c o, c ≠ z → c ≠ TO → c ≠ i1 → c ≠ i2 → s.heap.get? c = some o → hB.get? c = some o := fun c o c1 c2 c3 c4 q => hs.extBut c o c1 (a7 c o c1 c2 c3 c4 q)
    have neT : ∀ c o, H c = some o → c ≠ s.heap.objs.size := fun c o q z => by rw [z, hfr] at q; cases q
    have neS : ∀ c o, s.heap.get? c = some o → c ≠ s.heap.objs.size := fun c o q => Nat.ne_of_lt (Heap.lt_size q)
    have nt : ∀ c o, H c = some o → c ≠ z ∧ c ≠ TO ∧ c ≠ i1 ∧ c ≠ i2 := fun c o q => ⟨(fun e => by rw [e, fz.1] at q; cases q), (fun e => by rw [e, fO.1] at q; cases q), (fun e => by rw [e, f1.1] at q; cases q), (fun e => by rw [e, f2.1] at q; cases q)⟩
    have nin : ∀ c, c ∉ [z, TO, i1, i2] → c ≠ z ∧ c ≠ TO ∧ c ≠ i1 ∧ c ≠ i2 := fun c hc => ⟨fun e => hc (by simp [e]), fun e => hc (by simp [e]), fun e => hc (by simp [e]), fun e => hc (by simp [e])⟩
    have kk : ∀ c o, (c ≠ z ∧ c ≠ TO ∧ c ≠ i1 ∧ c ≠ i2) → s.heap.get? c = some o → hB.get? c = some o := fun c o n q => k2 c o n.1 n.2.1 n.2.2.1 n.2.2.2 q
    have I2 : Inv X pins σ (upd H s.heap.objs.size (.tup [x, y])) { s with heap := hB } := by
      refine I.step (g' := s.gens) (d' := s.drawn) (t' := s.toks) (ch := [z, TO, i1, i2]) (fun c hc => ?_) (fun c o _ _ hc' q _ => kk c o (nin c hc') q) (fun c o _ _ hc' q _ => ⟨o.slots, kk c o (nin c hc') q⟩)
        (fun c o _ q n => by rw [upd_ne (neS c o q)]; exact n) (fun c o hc' q => ⟨o, kk c o (nin c hc') q⟩) (fun c ys q => by rw [upd_ne (neT c _ q)]; exact q) (fun c o v q => by rw [upd_ne (neT c _ q)]; exact q)
        (fun c ps q => ⟨#[], by rw [upd_ne (neT c _ q), q]; simp⟩) (fun m hm => ?_) (fun c o q => ?_) I.bare
      · simp only [List.mem_cons, List.not_mem_nil, or_false] at hc
        rcases hc with rfl | rfl | rfl | rfl
        · exact ⟨fz.2.2.2.1, fz.2.1, fz.2.2.2.2.1, fz.2.2.2.2.2⟩
        · exact ⟨fO.2.2.2.1, fO.2.1, fO.2.2.2.2.1, fO.2.2.2.2.2⟩
        · exact ⟨f1.2.2.2.1, f1.2.1, f1.2.2.2.2.1, f1.2.2.2.2.2⟩
        · exact ⟨f2.2.2.2.1, f2.2.1, f2.2.2.2.2.1, f2.2.2.2.2.2⟩
      · obtain ⟨o, es, ep, ho, r⟩ := hm
        exact ⟨o, es, ep, kk _ o ⟨Ne.symm fz.2.1, Ne.symm fO.2.1, Ne.symm f1.2.1, Ne.symm f2.2.1⟩ ho, r⟩
      · by_cases e : c = s.heap.objs.size
        · subst e
          rw [upd_same] at q
          cases q
          exact ⟨(by show 2 ≤ sizeLine; decide), [u, u2], .cons ru (.cons ru2 .nil), _, ht2, rfl, _, rfl⟩
        · rw [upd_ne e] at q
          refine (I.hok c o q).stay (fun d v hd r => kk d v ?_ r) (fun d r => by rw [upd_ne (neT d _ r)]; exact r) fun d ys r => by rw [upd_ne (neT d _ r)]; exact r
          rcases hd with y | y
          · rw [y]; exact nt c o q
          · exact nt d _ y
    refine ⟨.ref s.heap.objs.size, _, I2, rfl, ⟨s.heap.objs.size, hfr, rfl, fun xs2 ys2 hx2 hy2 => ⟨x, y, by rw [I.list_inj hx2 hq]; exact hx, by rw [I.list_inj hy2 hq2]; exact hy, rfl⟩⟩, ⟨b1, ?_, ⟨_, _, hs.extBut _ _ D.TOz a2⟩, a3.at fun o q => hs.extBut _ _ D.i1z q, a4.at fun o q => hs.extBut _ _ D.i2z q⟩, fun c hc => ?_⟩
    · exact k2 _ _ D.TIz D.TITO D.TIi1 D.TIi2 h2
    · have old : ∀ c, (∃ o, s.heap.get? c = some o) → H c = none → upd H s.heap.objs.size (.tup [x, y]) c = none := fun c ⟨o, q⟩ hn => by rw [upd_ne (neS c o q)]; exact hn
      simp only [List.mem_cons, List.not_mem_nil, or_false] at hc
      rcases hc with rfl | rfl | rfl | rfl | rfl
      · exact old _ ⟨_, h1⟩ fz.1
      · exact old _ ⟨_, h2⟩ fI.1
      · exact old _ ⟨_, h3⟩ fO.1
      · obtain ⟨o, q, _⟩ := id h4
        exact old _ ⟨o, q⟩ f1.1
      · obtain ⟨o, q, _⟩ := id h5
        exact old _ ⟨o, q⟩ f2.1
  done := by
    intro X hP hw hK hc i pins s σ H E I hf st hg
    subst hP hw hK
    obtain ⟨xs, ys, hq, hq2, hx⟩ := hg
    obtain ⟨its, rv, p, _⟩ := I.list hq
    obtain ⟨its2, rv2, p2, _⟩ := I.list hq2
    obtain ⟨h1, h2, ⟨ua, ub, h3⟩, h4, h5⟩ := st
    have hl := rv.length
    have hl2 := rv2.length
    have fz := hf z (by simp)
    have fO := hf TO (by simp)
    have f1 := hf i1 (by simp)
    have f2 := hf i2 (by simp)
    refine PySem.wpAny_pyNext_zip_end (I.ok.hd hc) D h1 h2 h3 h4 h5 p.isList p2.isList (hx.imp (fun e => by simp; omega) (fun e => by simp; omega)) fun hA k => ⟨rfl, ?_⟩
    have nin : ∀ c, c ∉ [z, TO, i1, i2] → c ≠ z ∧ c ≠ TO ∧ c ≠ i1 ∧ c ≠ i2 := fun c hc => ⟨fun e => hc (by simp [e]), fun e => hc (by simp [e]), fun e => hc (by simp [e]), fun e => hc (by simp [e])⟩
    have kk : ∀ c o, (c ≠ z ∧ c ≠ TO ∧ c ≠ i1 ∧ c ≠ i2) → s.heap.get? c = some o → hA.get? c = some o := fun c o n q => k c o n.1 n.2.1 n.2.2.1 n.2.2.2 q
    have nt : ∀ c o, H c = some o → c ≠ z ∧ c ≠ TO ∧ c ≠ i1 ∧ c ≠ i2 := fun c o q => ⟨(fun e => by rw [e, fz.1] at q; cases q), (fun e => by rw [e, fO.1] at q; cases q), (fun e => by rw [e, f1.1] at q; cases q), (fun e => by rw [e, f2.1] at q; cases q)⟩
    refine I.step (g' := s.gens) (d' := s.drawn) (t' := s.toks) (ch := [z, TO, i1, i2]) (fun c hc => ?_) (fun c o _ _ hc' q _ => kk c o (nin c hc') q) (fun c o _ _ hc' q _ => ⟨o.slots, kk c o (nin c hc') q⟩)
      (fun c o _ q n => n) (fun c o hc' q => ⟨o, kk c o (nin c hc') q⟩) (fun c ys q => q) (fun c o v q => q) (fun c ps q => ⟨#[], by rw [q]; simp⟩) (fun m hm => ?_) (fun c o q => ?_) I.bare
    · simp only [List.mem_cons, List.not_mem_nil, or_false] at hc
      rcases hc with rfl | rfl | rfl | rfl
      · exact ⟨fz.2.2.2.1, fz.2.1, fz.2.2.2.2.1, fz.2.2.2.2.2⟩
      · exact ⟨fO.2.2.2.1, fO.2.1, fO.2.2.2.2.1, fO.2.2.2.2.2⟩
      · exact ⟨f1.2.2.2.1, f1.2.1, f1.2.2.2.2.1, f1.2.2.2.2.2⟩
      · exact ⟨f2.2.2.2.1, f2.2.1, f2.2.2.2.2.1, f2.2.2.2.2.2⟩
    · obtain ⟨o, es, ep, ho, r⟩ := hm
      exact ⟨o, es, ep, kk _ o ⟨Ne.symm fz.2.1, Ne.symm fO.2.1, Ne.symm f1.2.1, Ne.symm f2.2.1⟩ ho, r⟩
    · refine (I.hok c o q).stay (fun d v hd r => kk d v ?_ r) (fun d r => r) fun d ys r => r
      rcases hd with y | y
      · rw [y]; exact nt c o q
      · exact nt d _ y
  self := fun _ _ _ _ _ st h => PySem.wpAny_pyIter_zip st.1 h
end L2

namespace L2
open PySem PySem.Spec PyProof.Rows
section
variable {X : Cx}
inductive iZipI (K : PySem.W.Frag) (R : (It → Hp → Prop)) (vs : List V) (H1 : Hp) : Prop
  | mk : ∀ a b, (vs = [.ref a, .ref b]) → ((∃ xs, SqL K H1 a xs)) → ((∃ ys, SqL K H1 b ys)) → (R (Itz K a b) H1) → iZipI K R vs H1
noncomputable def iZip (K : PySem.W.Frag) (ta : TA) : TI := fun σ H R => ta σ H fun vs H1 => iZipI K R vs H1
theorem pi_zip {elts : List Expr} {x1 : Nat} {tp p pos : Pos} {e1 e2 : Expr} {ta : TA} (hg : Gl X "zip") (hm : X.mg "zip" = none) (ha : PA X [e1, e2] ta) (hs : starEach [e1, e2] X.env = [(false, eval e1 X.env), (false, eval e2 X.env)] := by rfl) (hs2 : starEach [e2] X.env = [(false, eval e2 X.env)] := by rfl) :
    PI X (.Tuple elts x1 tp) (.Call (.Name "zip" p) [e1, e2] [] pos) (iZip X.K ta) := by
  intro pins s σ H R I h
  refine Call_ (ld_blt I hg hm PyProof.Rows.boot_zip (PyProof.Rows.callWith_type1 (thn (ha pos pins s σ H _ I h) fun us s1 ⟨vs, H1, I1, r1, q1⟩ => ?_) (by rw [hs, hs2]) (by rw [hs2]; rfl)))
  obtain ⟨a, b, ev, ⟨xs, hq⟩, ⟨ys, hq2⟩, q⟩ := q1
  subst ev
  obtain ⟨u1, u2, rfl, ru1, ru2⟩ := r1.two
  cases ru1
  cases ru2
  obtain ⟨its, rv, pl, _⟩ := I1.list hq
  obtain ⟨its2, rv2, pl2, _⟩ := I1.list hq2
  have la : a < s1.heap.objs.size := by
    obtain ⟨o, ho, _⟩ := pl.isList
    exact Heap.lt_size ho
  have lb : b < s1.heap.objs.size := by
    obtain ⟨o, ho, _⟩ := pl2.isList
    exact Heap.lt_size ho
  refine PySem.call_zip_2 pl.isList pl2.isList fun h' hz h2 h3 h4 h5 hsz hk => ?_
  refine PySem.wpAny_pyIter_zip hz ?_
  have I2 : Inv X pins σ H1 { s1 with heap := h' } := I1.kept (t' := s1.toks) hk
  have ga : ∀ k : Nat, a ≠ s1.heap.objs.size + k := fun k => Nat.ne_of_lt (Nat.lt_of_lt_of_le la (Nat.le_add_right _ _))
  have gb : ∀ k : Nat, b ≠ s1.heap.objs.size + k := fun k => Nat.ne_of_lt (Nat.lt_of_lt_of_le lb (Nat.le_add_right _ _))
  have D : PySem.ZipApart (s1.heap.objs.size + 4) (s1.heap.objs.size + 2) (s1.heap.objs.size + 3) s1.heap.objs.size (s1.heap.objs.size + 1) a b := by
    constructor <;> first | exact ga 4 | exact ga 3 | exact ga 1 | exact ga 0 | exact gb 4 | exact gb 3 | exact gb 1 | exact gb 0 | exact Nat.ne_of_lt (by omega) | exact Nat.ne_of_gt (by omega)
  refine ⟨s1.heap.objs.size + 4, [s1.heap.objs.size + 4, s1.heap.objs.size + 2, s1.heap.objs.size + 3, s1.heap.objs.size, s1.heap.objs.size + 1], _, _, H1, rfl, I2, turn_zip a b _ _ _ _ _ D, ⟨hz, h2, ⟨_, _, h3⟩, h4, h5⟩, fun c hc => ?_, q⟩
  have hb : s1.heap.objs.size ≤ c := by
    simp only [List.mem_cons, List.not_mem_nil, or_false] at hc
    rcases hc with rfl | rfl | rfl | rfl | rfl
    · exact Nat.le_add_right _ _
    · exact Nat.le_add_right _ _
    · exact Nat.le_add_right _ _
    · exact Nat.le_refl _
    · exact Nat.le_add_right _ _
  exact I1.fpOk hb (I1.hok.fresh hb)
theorem comp2_zip {K : PySem.W.Frag} {a b : Addr} {xs zs : List V} {os : St} {tt : TT} {te : TE} {H : Hp} {Q : VK} (same : zs.length = xs.length) (Pv : Nat → List V → Hp → Prop) (h0 : Pv 0 [] H) (hz : ∀ i ys H, i < xs.length → Pv i ys H → ys.length < sizeLine)
    (hl : ∀ i ys H, i ≤ xs.length → Pv i ys H → SqL K H a xs ∧ SqL K H b zs)
    (hs : ∀ (i : Nat) x z ys H T, xs[i]? = some x → zs[i]? = some z → Pv i ys H → H T = none → tt (some x :: some z :: os) (upd H T (.tup [x, z])) fun b H2 => if b = true then te (some x :: some z :: os) H2 fun v H3 => Pv (i + 1) (ys ++ [v]) H3 else Pv (i + 1) ys H2)
    (hd : ∀ ys H, Pv xs.length ys H → ∀ p, H p = none → Q (.ref p) (upd H p (.lst ys))) : CompW2 K (Itz K a b) os tt te H Q := by
  refine ⟨fun i m ys H => m = xs.length - i ∧ i ≤ xs.length ∧ Pv i ys H, ⟨xs.length, by simp, Nat.zero_le _, h0⟩, ?_⟩
  rintro i m ys H ⟨rfl, hi, p⟩
  obtain ⟨q, q2⟩ := hl i ys H hi p
  by_cases hlt : i < xs.length
  · refine .inr ⟨⟨xs, zs, xs[i], zs[i]'(by omega), q, q2, by simp [hlt], by rw [List.getElem?_eq_getElem (by omega)]⟩, hz i ys H hlt p, Pv (i + 1), fun ys' H' p' => ⟨xs.length - (i + 1), by omega, rfl, hlt, p'⟩, fun v H' y => ?_⟩
    obtain ⟨T, hT, rfl, y⟩ := y
    obtain ⟨x, z, hx, hz2, rfl⟩ := y xs zs q q2
    exact ⟨T, x, z, rfl, SqT.of upd_same, hs i x z ys _ T hx hz2 p hT⟩
  · have e : i = xs.length := by omega
    subst e
    exact .inl ⟨⟨xs, zs, q, q2, .inl (Nat.le_refl _)⟩, hd ys H p⟩
theorem toks_of : ∀ {ns : List Int} {us : List Value}, Vals (ns.map V.int) us → ∃ ps : List (Int × Tok), us = ps.map (fun p => Value.int p.1 p.2) ∧ ns = ps.map (·.1)
  | [], _, .nil => ⟨[], rfl, rfl⟩
  | n :: ns, _, .cons h r => by
    obtain ⟨t, rfl⟩ := h
    obtain ⟨ps, rfl, rfl⟩ := toks_of r
    exact ⟨(n, t) :: ps, rfl, rfl⟩
end
end L2

namespace L2
open PySem PySem.Spec PyProof.Rows
theorem vals_of_ints : ∀ {us : List Value} {ns : List Int}, IntsAre us ns → Vals (ns.map V.int) us
  | _, _, .nil => .nil
  | _, _, .cons k t r => .cons ⟨t, rfl⟩ (vals_of_ints r)
section
variable {X : Cx}
theorem call_sortedI : CallR X (.builtin "sorted") (fun xs H Q => ∃ (a : Addr) (ns : List Int), xs = [.ref a] ∧ SqL X.K H a (ns.map V.int) ∧ ns.length < 64 ∧ ∀ (ms : List Int) (p : Addr), ms.Perm ns → ms.Pairwise (· ≤ ·) → H p = none → Q (.ref p) (upd H p (.lst (ms.map V.int)))) := by
  intro pins s σ H xs us Q I r h
  obtain ⟨a, ns, rfl, hq, hl, q⟩ := h
  obtain ⟨u, rfl, ru⟩ := r.one
  cases ru
  obtain ⟨its, rv, p, _⟩ := I.list hq
  have hlen : its.length = ns.length := by rw [← rv.length, List.length_map]
  refine sorted_ints p.isList (intsAre_of rv) (by omega) fun out ms h1 h2 h3 => ?_
  obtain ⟨e, he⟩ := sortedAll_at s.heap its out
  have new : s.heap.get? (s.heap.objs.size + 1) = none := Heap.get?_none_of_le (Nat.le_succ _)
  have rm := vals_of_ints h1
  have ml : ms.length = ns.length := h2.length_eq
  have I2 := I.laidN (a := s.heap.objs.size + 1) (o := .lst (ms.map V.int)) (t' := s.toks) (h' := sortedAll s.heap its out) (fun b o hb => sortedAll_old hb) new
    ⟨by rw [List.length_map, ml]; exact Nat.le_of_lt (Nat.lt_of_lt_of_le hl (by decide)), out.toList, e, rm, by simpa using he⟩
  exact ⟨.ref (s.heap.objs.size + 1), _, I2, rfl, q ms _ h2 h3 (I.free_of new)⟩
end
end L2

namespace TS
open PySem PyProof.Rows
noncomputable def gallopQ : Bool → Keyed → Array Keyed → Nat → Nat → Nat → StateT SortSt Sem (Option Nat) := sortPriv% PySem.Builtin.gallop
noncomputable def mergeLoQ : Array Keyed → Array Keyed → StateT SortSt Sem (Array Keyed) := sortPriv% PySem.Builtin.mergeLo
noncomputable def mergeHiQ : Array Keyed → Array Keyed → StateT SortSt Sem (Array Keyed) := sortPriv% PySem.Builtin.mergeHi
section
variable {prog : Program} {w : World} {A : Around} {E : Value → Shared → Prop} {s : Shared}
noncomputable def Asks (prog : Program) (w : World) (A : Around) (s : Shared) (kd : SortKind) (P : Value → Prop) : Prop := ∀ (E : Value → Shared → Prop) x y, P x → P y → ∀ Q : Bool → Shared → Prop, (∀ b, Q b s) → wpAny (model prog w) A (keyLt' kd x y) Q E s
noncomputable def Good (P : Value → Prop) (xs : Array Keyed) : Prop := ∀ (i : Nat) (p : Keyed), xs[i]? = some p → P p.1
variable {kd : SortKind} {P : Value → Prop}
theorem ask {st : SortSt} {x y : Keyed} {Q : Option Bool → SortSt → Prop} (L : Asks prog w A s kd P) (hk : kindOf st = kd) (hx : P x.1) (hy : P y.1) (h : ∀ b, Q (some b) st) : wpS (model prog w) A E s (lt' x y) Q st := by
  rw [lt'_eq]
  refine wpS_bind (wpS_get ?_)
  rw [hk]
  refine wpS_bind (wpS_lift (wpAny_attempt (L _ _ _ hx hy _ fun b => ⟨rfl, ?_⟩)))
  exact wpS_pure (h b)
theorem at_elem {st : SortSt} {xs : Array Keyed} {i : Nat} {Q : Keyed → SortSt → Prop} (hi : i < xs.size) (h : ∀ p, xs[i]? = some p → Q p st) : wpS (model prog w) A E s (elem' xs i) Q st := by
  rw [elem'_eq, Array.getElem?_eq_getElem hi]
  exact wpS_pure (h _ (Array.getElem?_eq_getElem hi))
theorem gallop_ok {st : SortSt} {left : Bool} {key : Keyed} {xs : Array Keyed} {base n hint : Nat} {Q : Option Nat → SortSt → Prop} (L : Asks prog w A s kd P) (hk : kindOf st = kd) (hy : P key.1) (G : Good P xs) (hn : base + n ≤ xs.size) (hh : hint < n) (h : ∀ k, k ≤ n → Q (some k) st) :
    wpS (model prog w) A E s (gallopQ left key xs base n hint) Q st := by
  have far : ∀ (i : Nat) {R : Option Bool → SortSt → Prop}, i < n → (∀ b, R (some b) st) → wpS (model prog w) A E s (do
      let x ← elem' xs (base + i)
      if left then lt' x key else return (← lt' key x).map (!·)) R st := fun i R hi hR => by
    refine wpS_bind (at_elem (by omega) fun p hp => ?_)
    cases left with
    | true => exact ask L hk (G _ _ hp) hy hR
    | false => exact wpS_bind (ask L hk hy (G _ _ hp) fun b => wpS_pure (hR _))
  unfold gallopQ
  refine wpS_bind (far hint hh fun b => ?_)
  dsimp only
  split
  all_goals
    refine wpS_bind (wpS_mono (wpS_forRange (I := fun _ c st' => st' = st ∧ c.1 = none) (Q := fun c st' => st' = st ∧ c.1 = none) ?step (fun _ _ q => q) ⟨rfl, rfl⟩) ?post)
    case step =>
      rintro x ⟨o, a, c⟩ st' _ _ ⟨rfl, rfl⟩
      dsimp only
      split
      · exact wpS_pure ⟨rfl, rfl⟩
      · refine wpS_bind (far _ (by omega) fun b' => ?_)
        dsimp only
        split
        · exact wpS_pure ⟨rfl, rfl⟩
        · exact wpS_pure ⟨rfl, rfl⟩
    case post =>
      rintro ⟨o, a, c⟩ st' ⟨rfl, rfl⟩
      dsimp only
      refine wpS_bind (wpS_mono (wpS_forRange (I := fun _ c st'' => st'' = st' ∧ c.1 = none ∧ c.2.2 ≤ n) (Q := fun c st'' => st'' = st' ∧ c.1 = none ∧ c.2.2 ≤ n) ?step2 (fun _ _ q => q) ⟨rfl, rfl, by dsimp only; omega⟩) ?post2)
      case step2 =>
        rintro x ⟨o, a, c⟩ st'' _ _ ⟨rfl, rfl, le⟩
        dsimp only at le ⊢
        split
        · exact wpS_pure ⟨rfl, rfl, le⟩
        · refine wpS_bind (far _ (by omega) fun b' => ?_)
          dsimp only
          split
          · exact wpS_pure ⟨rfl, rfl, le⟩
          · exact wpS_pure ⟨rfl, rfl, by dsimp only; omega⟩
      case post2 =>
        rintro ⟨o, a, c⟩ st'' ⟨rfl, rfl, le⟩
        dsimp only
        exact wpS_pure (h _ le)
end
end TS

namespace TS
open PySem PyProof.Rows
noncomputable def Pm (xs ys out : Array Keyed) (ia ib : Nat) : Prop := out.toList.Perm (xs.toList.take ia ++ ys.toList.take ib)
section
variable {xs ys out : Array Keyed} {ia ib k : Nat}
theorem take_ext (zs : Array Keyed) (i k : Nat) : zs.toList.take (i + k) = zs.toList.take i ++ (zs.extract i (i + k)).toList := by
  rw [Array.toList_extract, List.take_add, List.extract_eq_take_drop]
  congr 2
  omega
theorem Pm.x (h : Pm xs ys out ia ib) (k : Nat) : Pm xs ys (out ++ xs.extract ia (ia + k)) (ia + k) ib := by
  unfold Pm at *
  rw [Array.toList_append, take_ext xs ia k, List.append_assoc]
  refine (h.append_right _).trans ?_
  rw [List.append_assoc]
  exact List.Perm.append_left _ List.perm_append_comm
theorem Pm.y (h : Pm xs ys out ia ib) (k : Nat) : Pm xs ys (out ++ ys.extract ib (ib + k)) ia (ib + k) := by
  unfold Pm at *
  rw [Array.toList_append, take_ext ys ib k, ← List.append_assoc]
  exact h.append_right _
theorem push_ext {zs out : Array Keyed} {i : Nat} {p : Keyed} (hp : zs[i]? = some p) : out.push p = out ++ zs.extract i (i + 1) := by
  obtain ⟨hi, e⟩ := Array.getElem?_eq_some_iff.mp hp
  have : zs.extract i (i + 1) = #[p] := by
    rw [← e]
    apply Array.ext
    · simp
      omega
    · intro j h1 h2
      have : j = 0 := by
        simp at h2
        exact h2
      subst this
      simp
  rw [this]
  rfl
theorem Pm.px {p : Keyed} (h : Pm xs ys out ia ib) (hp : xs[ia]? = some p) : Pm xs ys (out.push p) (ia + 1) ib := by
  rw [push_ext hp]
  exact h.x 1
theorem Pm.py {p : Keyed} (h : Pm xs ys out ia ib) (hp : ys[ib]? = some p) : Pm xs ys (out.push p) ia (ib + 1) := by
  rw [push_ext hp]
  exact h.y 1
theorem rest_ext (zs : Array Keyed) (i : Nat) : zs.toList = zs.toList.take i ++ (zs.extract i).toList := by
  rw [Array.toList_extract, List.extract_eq_take_drop]
  have : List.take (zs.size - i) (List.drop i zs.toList) = List.drop i zs.toList := List.take_of_length_le (by simp)
  rw [this, List.take_append_drop]
theorem Pm.done (h : Pm xs ys out ia ib) : (out ++ xs.extract ia ++ ys.extract ib).toList.Perm (xs.toList ++ ys.toList) := by
  unfold Pm at h
  rw [Array.toList_append, Array.toList_append, rest_ext xs ia, rest_ext ys ib]
  refine ((h.append_right _).append_right _).trans ?_
  simp only [List.append_assoc]
  refine List.Perm.append_left _ ?_
  rw [← List.append_assoc, ← List.append_assoc]
  exact List.Perm.append_right _ List.perm_append_comm
theorem Pm.last (h : Pm xs ys out ia ib) : (out ++ ys.extract ib ++ xs.extract ia).toList.Perm (xs.toList ++ ys.toList) := by
  refine List.Perm.trans ?_ h.done
  rw [Array.toList_append, Array.toList_append, Array.toList_append, Array.toList_append, List.append_assoc, List.append_assoc]
  exact List.Perm.append_left _ List.perm_append_comm
end
noncomputable def Gal (st st' : SortSt) : Prop := kindOf st' = kindOf st ∧ arrOf st' = arrOf st ∧ pendingOf st' = pendingOf st ∧ failedOf st' = failedOf st
end TS

namespace TS
open PySem PyProof.Rows
inductive Lo1 (st : SortSt) (xs ys : Array Keyed) (x : Nat) : Option (Array Keyed) × Array Keyed × Nat × Nat × Nat → SortSt → Prop
  | mk : ∀ (out : Array Keyed) (ia ib mg : Nat) (st' : SortSt), Gal st st' → Pm xs ys out ia ib → ia + 1 < xs.size → ib < ys.size → x + 1 ≤ ia + ib → Lo1 st xs ys x (none, out, ia, ib, mg) st'
inductive Lo1Q (st : SortSt) (xs ys : Array Keyed) : Option (Array Keyed) × Array Keyed × Nat × Nat × Nat → SortSt → Prop
  | mk : ∀ (r out : Array Keyed) (ia ib mg : Nat) (st' : SortSt), Gal st st' → r.toList.Perm (xs.toList ++ ys.toList) → Lo1Q st xs ys (some r, out, ia, ib, mg) st'
inductive Lo2 (st : SortSt) (xs ys : Array Keyed) (n y : Nat) : Option (Array Keyed) × Array Keyed × Nat × Nat × Nat × Nat → SortSt → Prop
  | mk : ∀ (out : Array Keyed) (ia ib ac bc : Nat), Pm xs ys out ia ib → ia + 1 < xs.size → ib < ys.size → y + n ≤ ia + ib → Lo2 st xs ys n y (none, out, ia, ib, ac, bc) st
inductive Lo2Q (st : SortSt) (xs ys : Array Keyed) (n : Nat) : Option (Array Keyed) × Array Keyed × Nat × Nat × Nat × Nat → SortSt → Prop
  | dn : ∀ (r out : Array Keyed) (ia ib ac bc : Nat), r.toList.Perm (xs.toList ++ ys.toList) → Lo2Q st xs ys n (some r, out, ia, ib, ac, bc) st
  | go : ∀ (out : Array Keyed) (ia ib ac bc : Nat), Pm xs ys out ia ib → ia + 1 < xs.size → ib < ys.size → n + 1 ≤ ia + ib → Lo2Q st xs ys n (none, out, ia, ib, ac, bc) st
inductive Lo3 (st : SortSt) (xs ys : Array Keyed) (n : Nat) : Option (Array Keyed) × Array Keyed × Nat × Nat × Nat × Nat × Nat → SortSt → Prop
  | mk : ∀ (out : Array Keyed) (ia ib mg ac bc : Nat) (st' : SortSt), Gal st st' → Pm xs ys out ia ib → ia + 1 < xs.size → ib < ys.size → n ≤ ia + ib → Lo3 st xs ys n (none, out, ia, ib, mg, ac, bc) st'
inductive Lo3Q (st : SortSt) (xs ys : Array Keyed) (n : Nat) : Option (Array Keyed) × Array Keyed × Nat × Nat × Nat × Nat × Nat → SortSt → Prop
  | dn : ∀ (r out : Array Keyed) (ia ib mg ac bc : Nat) (st' : SortSt), Gal st st' → r.toList.Perm (xs.toList ++ ys.toList) → Lo3Q st xs ys n (some r, out, ia, ib, mg, ac, bc) st'
  | go : ∀ (out : Array Keyed) (ia ib mg ac bc : Nat) (st' : SortSt), Gal st st' → Pm xs ys out ia ib → ia + 1 < xs.size → ib < ys.size → n ≤ ia + ib → Lo3Q st xs ys n (none, out, ia, ib, mg, ac, bc) st'
section
variable {prog : Program} {w : World} {A : Around} {E : Value → Shared → Prop} {s : Shared} {kd : SortKind} {P : Value → Prop}
theorem ifeq {M : Model} {σ α : Type} {a b : Nat} {m1 m2 : StateT σ Sem α} {Q : α → σ → Prop} {st : σ} (h1 : a = b → wpS M A E s m1 Q st) (h2 : a ≠ b → wpS M A E s m2 Q st) : wpS M A E s (if (a == b) = true then m1 else m2) Q st := by
  by_cases e : a = b
  · rw [if_pos (beq_iff_eq.mpr e)]
    exact h1 e
  · rw [if_neg (fun z => e (beq_iff_eq.mp z))]
    exact h2 e
theorem ifc {M : Model} {σ α : Type} {c : Prop} [Decidable c] {m1 m2 : StateT σ Sem α} {Q : α → σ → Prop} {st : σ} (h1 : c → wpS M A E s m1 Q st) (h2 : ¬ c → wpS M A E s m2 Q st) : wpS M A E s (if c then m1 else m2) Q st := by
  by_cases e : c
  · rw [if_pos e]
    exact h1 e
  · rw [if_neg e]
    exact h2 e
theorem bind_at {α : Type} {st : SortSt} {zs : Array Keyed} {i : Nat} {f : Keyed → StateT SortSt Sem α} {Q : α → SortSt → Prop} (hi : i < zs.size) (h : ∀ p, zs[i]? = some p → wpS (model prog w) A E s (f p) Q st) : wpS (model prog w) A E s (elem' zs i >>= f) Q st := wpS_bind (at_elem hi h)
theorem bind_ask {α : Type} {st : SortSt} {x y : Keyed} {f : Option Bool → StateT SortSt Sem α} {Q : α → SortSt → Prop} (L : Asks prog w A s kd P) (hk : kindOf st = kd) (hx : P x.1) (hy : P y.1) (h : ∀ b, wpS (model prog w) A E s (f (some b)) Q st) : wpS (model prog w) A E s (lt' x y >>= f) Q st := wpS_bind (ask L hk hx hy h)
theorem bind_gal {α : Type} {st : SortSt} {left : Bool} {key : Keyed} {xs : Array Keyed} {base n hint : Nat} {f : Option Nat → StateT SortSt Sem α} {Q : α → SortSt → Prop} (L : Asks prog w A s kd P) (hk : kindOf st = kd) (hy : P key.1) (G : Good P xs) (hn : base + n ≤ xs.size) (hh : hint < n) (h : ∀ k, k ≤ n → wpS (model prog w) A E s (f (some k)) Q st) : wpS (model prog w) A E s (gallopQ left key xs base n hint >>= f) Q st := wpS_bind (gallop_ok L hk hy G hn hh h)
theorem lo_ok {st : SortSt} {xs ys : Array Keyed} {Q : Array Keyed → SortSt → Prop} (L : Asks prog w A s kd P) (hk : kindOf st = kd) (G1 : Good P xs) (G2 : Good P ys) (h1 : 1 ≤ xs.size) (h2 : 1 ≤ ys.size) (h : ∀ zs st', Gal st st' → zs.toList.Perm (xs.toList ++ ys.toList) → Q zs st') :
    wpS (model prog w) A E s (mergeLoQ xs ys) Q st := by
  unfold mergeLoQ
  refine wpS_bind (wpS_lift (wpAny_rule ⟨rfl, ?_⟩))
  dsimp only
  refine bind_at (by omega) fun p hp => ?_
  have pm0 : Pm xs ys #[p] 0 1 := by
    have : Pm xs ys #[] 0 0 := List.Perm.refl _
    exact this.py hp
  have g0 : Gal st st := ⟨rfl, rfl, rfl, rfl⟩
  refine ifeq (fun e1 => wpS_pure (h _ _ g0 pm0.done)) (fun e1 => ?_)
  refine ifeq (fun e2 => wpS_pure (h _ _ g0 pm0.last)) (fun e2 => ?_)
  refine wpS_bind (wpS_get ?_)
  refine wpS_bind (wpS_mono (wpS_forRange (I := Lo1 st xs ys) (Q := Lo1Q st xs ys) ?step ?fin (.mk _ _ _ _ _ g0 pm0 (by omega) (by omega) (by omega))) ?post)
  case post =>
    rintro _ st' ⟨r, out, ia, ib, mg, _, g, pr⟩
    dsimp only
    exact wpS_pure (h _ _ g pr)
  case fin =>
    rintro _ st' ⟨out, ia, ib, mg, _, _, _, a, b, c⟩
    omega
  case step =>
    rintro x _ st' _ _ ⟨out, ia, ib, mg, _, g, pm, a1, b1, c1⟩
    dsimp only
    have hk' : kindOf st' = kd := g.1.trans hk
    refine wpS_bind (wpS_mono (wpS_forRange (I := Lo2 st' xs ys (ia + ib)) (Q := Lo2Q st' xs ys (ia + ib)) ?step1 ?fin1 (.mk _ _ _ _ _ pm a1 b1 (by omega))) ?post1)
    case fin1 =>
      rintro _ _ ⟨out2, ia2, ib2, ac, bc, _, a, b, c⟩
      omega
    case step1 =>
      rintro y _ _ _ _ ⟨out2, ia2, ib2, ac, bc, pm2, a2, b2, c2⟩
      dsimp only
      refine bind_at (by omega) fun p1 hp1 => ?_
      refine bind_at (by omega) fun p2 hp2 => ?_
      refine bind_ask L hk' (G2 _ _ hp1) (G1 _ _ hp2) fun b => ?_
      dsimp only
      cases b with
      | true =>
        rw [if_pos rfl]
        refine bind_at (by omega) fun p3 hp3 => ?_
        have pm3 := pm2.py hp3
        refine ifeq (fun e3 => wpS_pure (Lo2Q.dn _ _ _ _ _ _ pm3.done)) (fun e3 => ?_)
        refine ifc (fun e4 => ?_) (fun e4 => ?_)
        · exact wpS_pure (Lo2Q.go _ _ _ _ _ pm3 a2 (by omega) (by omega))
        · exact wpS_pure (Lo2.mk _ _ _ _ _ pm3 a2 (by omega) (by omega))
      | false =>
        rw [if_neg Bool.false_ne_true]
        refine bind_at (by omega) fun p3 hp3 => ?_
        have pm3 := pm2.px hp3
        refine ifeq (fun e3 => wpS_pure (Lo2Q.dn _ _ _ _ _ _ pm3.last)) (fun e3 => ?_)
        refine ifc (fun e4 => ?_) (fun e4 => ?_)
        · exact wpS_pure (Lo2Q.go _ _ _ _ _ pm3 (by omega) b2 (by omega))
        · exact wpS_pure (Lo2.mk _ _ _ _ _ pm3 (by omega) b2 (by omega))
    case post1 =>
      rintro _ _ (⟨r, out2, ia2, ib2, ac, bc, pr⟩ | ⟨out2, ia2, ib2, ac, bc, pm2, a2, b2, c2⟩)
      · exact wpS_pure (Lo1Q.mk _ _ _ _ _ _ g pr)
      · dsimp only
        refine wpS_bind (wpS_lift (wpAny_rule ⟨rfl, ?_⟩))
        refine wpS_bind (wpS_mono (wpS_forRange (I := fun _ => Lo3 st xs ys (ia2 + ib2)) (Q := Lo3Q st xs ys (ia2 + ib2)) ?step2 (fun c st3 q => by cases q; exact .go _ _ _ _ _ _ _ ‹_› ‹_› ‹_› ‹_› ‹_›) (.mk _ _ _ _ _ _ _ g pm2 a2 b2 (Nat.le_refl _))) ?post2)
        case step2 =>
          rintro y _ st3 _ _ ⟨out3, ia3, ib3, mg3, ac3, bc3, _, g3, pm3, a3, b3, c3⟩
          dsimp only
          have hk3 : kindOf st3 = kd := g3.1.trans hk
          refine ifc (fun e5 => ?b1) (fun e5 => ?b2)
          generalize mg3 - 1 = v
          clear e5
          revert v
          refine ?key
          case b2 => exact ?key mg3
          intro v
          refine wpS_bind (wpS_modify ?_)
          refine bind_at (by omega) fun p1 hp1 => ?_
          refine bind_gal L hk3 (G2 _ _ hp1) G1 (by omega) (by omega) fun k hk1 => ?_
          dsimp only
          refine ifc (fun k0 => ?c1) (fun k0 => ?c2)
          have pm4 := pm3.x k
          refine ifeq (fun e6 => wpS_pure (Lo3Q.dn _ _ _ _ _ _ _ _ g3 pm4.last)) (fun e6 => ?_)
          refine ifeq (fun e7 => wpS_pure (Lo3Q.dn _ _ _ _ _ _ _ _ g3 pm4.done)) (fun e7 => ?_)
          generalize out3 ++ xs.extract ia3 (ia3 + k) = o at pm4 ⊢
          have n1 : ia3 + k + 1 < xs.size := by omega
          have n0 : ia3 ≤ ia3 + k := by omega
          revert n0 n1 pm4
          clear e6 e7 k0
          generalize ia3 + k = n
          clear hk1
          generalize k = d
          revert o n d
          refine ?key2
          case c2 => exact ?key2 out3 ia3 k pm3 a3 (Nat.le_refl _)
          intro o n d pm4 n1 n0
          refine bind_at (by omega) fun p2 hp2 => ?_
          have pm5 := pm4.py hp2
          refine ifeq (fun e8 => wpS_pure (Lo3Q.dn _ _ _ _ _ _ _ _ g3 pm5.done)) (fun e8 => ?_)
          refine bind_at (by omega) fun p3 hp3 => ?_
          refine bind_gal L hk3 (G1 _ _ hp3) G2 (by omega) (by omega) fun k2 hk2 => ?_
          dsimp only
          refine ifc (fun k20 => ?d1) (fun k20 => ?d2)
          have pm6 := pm5.y k2
          refine ifeq (fun e9 => wpS_pure (Lo3Q.dn _ _ _ _ _ _ _ _ g3 pm6.done)) (fun e9 => ?_)
          generalize o.push _ ++ ys.extract (ib3 + 1) (ib3 + 1 + k2) = o2 at pm6 ⊢
          have m1 : ib3 + 1 + k2 < ys.size := by omega
          have m0 : ib3 + 1 ≤ ib3 + 1 + k2 := by omega
          revert m0 m1 pm6
          clear e9 k20
          generalize ib3 + 1 + k2 = m
          clear hk2
          generalize k2 = d2
          revert o2 m d2
          refine ?key3
          case d2 => exact ?key3 _ _ _ pm5 (by omega) (Nat.le_refl _)
          intro o2 m d2 pm6 m1 m0
          refine bind_at (by omega) fun p4 hp4 => ?_
          have pm7 := pm6.px hp4
          refine ifeq (fun e10 => wpS_pure (Lo3Q.dn _ _ _ _ _ _ _ _ g3 pm7.last)) (fun e10 => ?_)
          refine ifc (fun _ => ?_) (fun _ => ?_)
          · exact wpS_pure (Lo3Q.go _ _ _ _ _ _ _ g3 pm7 (by omega) (by omega) (by omega))
          · exact wpS_pure (Lo3.mk _ _ _ _ _ _ _ g3 pm7 (by omega) (by omega) (by omega))
        case post2 =>
          rintro _ st3 (⟨r, out3, ia3, ib3, mg3, ac3, bc3, _, g3, pr⟩ | ⟨out3, ia3, ib3, mg3, ac3, bc3, _, g3, pm3, a3, b3, c3⟩)
          · exact wpS_pure (Lo1Q.mk _ _ _ _ _ _ g3 pr)
          · dsimp only
            refine wpS_bind (wpS_modify ?_)
            exact wpS_pure (Lo1.mk _ _ _ _ _ g3 pm3 a3 b3 (by omega))
end
end TS

namespace TS
open PySem PyProof.Rows
noncomputable def Pr (xs ys out : Array Keyed) (na nb : Nat) : Prop := out.toList.Perm (xs.toList.drop na ++ ys.toList.drop nb)
section
variable {xs ys out : Array Keyed} {na nb k : Nat}
theorem drop_ext (zs : Array Keyed) {i n : Nat} (h : i ≤ n) : zs.toList.drop i = (zs.extract i n).toList ++ zs.toList.drop n := by
  obtain ⟨d, rfl⟩ := Nat.exists_eq_add_of_le h
  rw [Array.toList_extract, List.extract_eq_take_drop, Nat.add_sub_cancel_left, ← List.drop_drop]
  exact (List.take_append_drop d _).symm
theorem Pr.x (h : Pr xs ys out na nb) (hk : k ≤ na) : Pr xs ys (out ++ (xs.extract k na).reverse) k nb := by
  unfold Pr at *
  rw [Array.toList_append, drop_ext xs hk, Array.toList_reverse, List.append_assoc]
  refine (h.append_right _).trans ?_
  refine List.perm_append_comm.trans ?_
  exact List.Perm.append_right _ (List.reverse_perm _)
theorem Pr.y (h : Pr xs ys out na nb) (hk : k ≤ nb) : Pr xs ys (out ++ (ys.extract k nb).reverse) na k := by
  unfold Pr at *
  rw [Array.toList_append, drop_ext ys hk, Array.toList_reverse]
  refine (h.append_right _).trans ?_
  rw [List.append_assoc]
  refine List.Perm.append_left _ ?_
  refine List.perm_append_comm.trans ?_
  exact List.Perm.append_right _ (List.reverse_perm _)
theorem push_rev {zs out : Array Keyed} {i : Nat} {p : Keyed} (h1 : 1 ≤ i) (hp : zs[i - 1]? = some p) : out.push p = out ++ (zs.extract (i - 1) i).reverse := by
  have e := push_ext (out := #[]) hp
  rw [show i - 1 + 1 = i by omega] at e
  have e2 : zs.extract (i - 1) i = #[p] := by
    rw [Array.empty_append] at e
    exact e.symm
  rw [e2]
  rfl
theorem Pr.px {p : Keyed} (h : Pr xs ys out na nb) (h1 : 1 ≤ na) (hp : xs[na - 1]? = some p) : Pr xs ys (out.push p) (na - 1) nb := by
  rw [push_rev h1 hp]
  exact h.x (by omega)
theorem Pr.py {p : Keyed} (h : Pr xs ys out na nb) (h1 : 1 ≤ nb) (hp : ys[nb - 1]? = some p) : Pr xs ys (out.push p) na (nb - 1) := by
  rw [push_rev h1 hp]
  exact h.y (by omega)
theorem Pr.done (h : Pr xs ys out na nb) : (xs.extract 0 na ++ ys.extract 0 nb ++ out.reverse).toList.Perm (xs.toList ++ ys.toList) := by
  unfold Pr at h
  have e1 := drop_ext xs (Nat.zero_le na)
  have e2 := drop_ext ys (Nat.zero_le nb)
  rw [List.drop_zero] at e1 e2
  rw [Array.toList_append, Array.toList_append, Array.toList_reverse]
  conv => rhs; rw [e1, e2]
  rw [List.append_assoc, List.append_assoc]
  refine List.Perm.append_left _ ?_
  refine (List.Perm.append_left _ ((List.reverse_perm _).trans h)).trans ?_
  rw [← List.append_assoc, ← List.append_assoc]
  exact List.Perm.append_right _ List.perm_append_comm
theorem Pr.first (h : Pr xs ys out na nb) : (ys.extract 0 nb ++ xs.extract 0 na ++ out.reverse).toList.Perm (xs.toList ++ ys.toList) := by
  refine List.Perm.trans ?_ h.done
  rw [Array.toList_append, Array.toList_append, Array.toList_append, Array.toList_append]
  exact List.Perm.append_right _ List.perm_append_comm
end
inductive Hi1 (st : SortSt) (xs ys : Array Keyed) (x : Nat) : Option (Array Keyed) × Nat × Nat × Array Keyed × Nat → SortSt → Prop
  | mk : ∀ (na nb : Nat) (out : Array Keyed) (mg : Nat) (st' : SortSt), Gal st st' → Pr xs ys out na nb → 1 ≤ na → 2 ≤ nb → na ≤ xs.size → nb ≤ ys.size → na + nb + x + 1 ≤ xs.size + ys.size → Hi1 st xs ys x (none, na, nb, out, mg) st'
inductive Hi1Q (st : SortSt) (xs ys : Array Keyed) : Option (Array Keyed) × Nat × Nat × Array Keyed × Nat → SortSt → Prop
  | mk : ∀ (r : Array Keyed) (na nb : Nat) (out : Array Keyed) (mg : Nat) (st' : SortSt), Gal st st' → r.toList.Perm (xs.toList ++ ys.toList) → Hi1Q st xs ys (some r, na, nb, out, mg) st'
inductive Hi2 (st : SortSt) (xs ys : Array Keyed) (n y : Nat) : Option (Array Keyed) × Nat × Nat × Array Keyed × Nat × Nat → SortSt → Prop
  | mk : ∀ (na nb : Nat) (out : Array Keyed) (ac bc : Nat), Pr xs ys out na nb → 1 ≤ na → 2 ≤ nb → na ≤ xs.size → nb ≤ ys.size → na + nb + y ≤ n → Hi2 st xs ys n y (none, na, nb, out, ac, bc) st
inductive Hi2Q (st : SortSt) (xs ys : Array Keyed) (n : Nat) : Option (Array Keyed) × Nat × Nat × Array Keyed × Nat × Nat → SortSt → Prop
  | dn : ∀ (r : Array Keyed) (na nb : Nat) (out : Array Keyed) (ac bc : Nat), r.toList.Perm (xs.toList ++ ys.toList) → Hi2Q st xs ys n (some r, na, nb, out, ac, bc) st
  | go : ∀ (na nb : Nat) (out : Array Keyed) (ac bc : Nat), Pr xs ys out na nb → 1 ≤ na → 2 ≤ nb → na ≤ xs.size → nb ≤ ys.size → na + nb + 1 ≤ n → Hi2Q st xs ys n (none, na, nb, out, ac, bc) st
inductive Hi3 (st : SortSt) (xs ys : Array Keyed) (n : Nat) : Option (Array Keyed) × Nat × Nat × Array Keyed × Nat × Nat × Nat → SortSt → Prop
  | mk : ∀ (na nb : Nat) (out : Array Keyed) (mg ac bc : Nat) (st' : SortSt), Gal st st' → Pr xs ys out na nb → 1 ≤ na → 2 ≤ nb → na ≤ xs.size → nb ≤ ys.size → na + nb ≤ n → Hi3 st xs ys n (none, na, nb, out, mg, ac, bc) st'
inductive Hi3Q (st : SortSt) (xs ys : Array Keyed) (n : Nat) : Option (Array Keyed) × Nat × Nat × Array Keyed × Nat × Nat × Nat → SortSt → Prop
  | dn : ∀ (r : Array Keyed) (na nb : Nat) (out : Array Keyed) (mg ac bc : Nat) (st' : SortSt), Gal st st' → r.toList.Perm (xs.toList ++ ys.toList) → Hi3Q st xs ys n (some r, na, nb, out, mg, ac, bc) st'
  | go : ∀ (na nb : Nat) (out : Array Keyed) (mg ac bc : Nat) (st' : SortSt), Gal st st' → Pr xs ys out na nb → 1 ≤ na → 2 ≤ nb → na ≤ xs.size → nb ≤ ys.size → na + nb ≤ n → Hi3Q st xs ys n (none, na, nb, out, mg, ac, bc) st'
section
variable {prog : Program} {w : World} {A : Around} {E : Value → Shared → Prop} {s : Shared} {kd : SortKind} {P : Value → Prop}
theorem hi_ok {st : SortSt} {xs ys : Array Keyed} {Q : Array Keyed → SortSt → Prop} (L : Asks prog w A s kd P) (hk : kindOf st = kd) (G1 : Good P xs) (G2 : Good P ys) (h1 : 1 ≤ xs.size) (h2 : 1 ≤ ys.size) (h : ∀ zs st', Gal st st' → zs.toList.Perm (xs.toList ++ ys.toList) → Q zs st') :
    wpS (model prog w) A E s (mergeHiQ xs ys) Q st := by
  unfold mergeHiQ
  refine wpS_bind (wpS_lift (wpAny_rule ⟨rfl, ?_⟩))
  dsimp only
  refine bind_at (by omega) fun p hp => ?_
  have pm0 : Pr xs ys #[p] (xs.size - 1) ys.size := by
    have z : Pr xs ys #[] xs.size ys.size := by
      unfold Pr
      rw [List.drop_of_length_le (by simp), List.drop_of_length_le (by simp)]
      exact List.Perm.refl _
    exact z.px h1 hp
  have g0 : Gal st st := ⟨rfl, rfl, rfl, rfl⟩
  refine ifeq (fun e1 => wpS_pure (h _ _ g0 pm0.done)) (fun e1 => ?_)
  refine ifeq (fun e2 => wpS_pure (h _ _ g0 pm0.first)) (fun e2 => ?_)
  refine wpS_bind (wpS_get ?_)
  refine wpS_bind (wpS_mono (wpS_forRange (I := Hi1 st xs ys) (Q := Hi1Q st xs ys) ?step ?fin (.mk _ _ _ _ _ g0 pm0 (by omega) (by omega) (by omega) (by omega) (by omega))) ?post)
  case post =>
    rintro _ st' ⟨r, na, nb, out, mg, _, g, pr⟩
    dsimp only
    exact wpS_pure (h _ _ g pr)
  case fin =>
    rintro _ st' ⟨na, nb, out, mg, _, _, _, a, b, c, d, e⟩
    omega
  case step =>
    rintro x _ st' _ _ ⟨na, nb, out, mg, _, g, pm, a1, b1, c1, d1, f1⟩
    dsimp only
    have hk' : kindOf st' = kd := g.1.trans hk
    refine wpS_bind (wpS_mono (wpS_forRange (I := Hi2 st' xs ys (na + nb)) (Q := Hi2Q st' xs ys (na + nb)) ?step1 ?fin1 (.mk _ _ _ _ _ pm a1 b1 c1 d1 (by omega))) ?post1)
    case fin1 =>
      rintro _ _ ⟨na2, nb2, out2, ac, bc, _, a, b, c, d, e⟩
      omega
    case step1 =>
      rintro y _ _ _ _ ⟨na2, nb2, out2, ac, bc, pm2, a2, b2, c2, d2, f2⟩
      dsimp only
      refine bind_at (by omega) fun p1 hp1 => ?_
      refine bind_at (by omega) fun p2 hp2 => ?_
      refine bind_ask L hk' (G2 _ _ hp1) (G1 _ _ hp2) fun b => ?_
      dsimp only
      cases b with
      | true =>
        rw [if_pos rfl]
        refine bind_at (by omega) fun p3 hp3 => ?_
        have pm3 := pm2.px (by omega) hp3
        refine ifeq (fun e3 => wpS_pure (Hi2Q.dn _ _ _ _ _ _ pm3.done)) (fun e3 => ?_)
        refine ifc (fun e4 => ?_) (fun e4 => ?_)
        · exact wpS_pure (Hi2Q.go _ _ _ _ _ pm3 (by omega) (by omega) (by omega) (by omega) (by omega))
        · exact wpS_pure (Hi2.mk _ _ _ _ _ pm3 (by omega) (by omega) (by omega) (by omega) (by omega))
      | false =>
        rw [if_neg Bool.false_ne_true]
        refine bind_at (by omega) fun p3 hp3 => ?_
        have pm3 := pm2.py (by omega) hp3
        refine ifeq (fun e3 => wpS_pure (Hi2Q.dn _ _ _ _ _ _ pm3.first)) (fun e3 => ?_)
        refine ifc (fun e4 => ?_) (fun e4 => ?_)
        · exact wpS_pure (Hi2Q.go _ _ _ _ _ pm3 (by omega) (by omega) (by omega) (by omega) (by omega))
        · exact wpS_pure (Hi2.mk _ _ _ _ _ pm3 (by omega) (by omega) (by omega) (by omega) (by omega))
    case post1 =>
      rintro _ _ (⟨r, na2, nb2, out2, ac, bc, pr⟩ | ⟨na2, nb2, out2, ac, bc, pm2, a2, b2, c2, d2, f2⟩)
      · exact wpS_pure (Hi1Q.mk _ _ _ _ _ _ g pr)
      · dsimp only
        refine wpS_bind (wpS_lift (wpAny_rule ⟨rfl, ?_⟩))
        refine wpS_bind (wpS_mono (wpS_forRange (I := fun _ => Hi3 st xs ys (na2 + nb2)) (Q := Hi3Q st xs ys (na2 + nb2)) ?step2 (fun c st3 q => by cases q; exact .go _ _ _ _ _ _ _ ‹_› ‹_› ‹_› ‹_› ‹_› ‹_› ‹_›) (.mk _ _ _ _ _ _ _ g pm2 a2 b2 c2 d2 (Nat.le_refl _))) ?post2)
        case step2 =>
          rintro y _ st3 _ _ ⟨na3, nb3, out3, mg3, ac3, bc3, _, g3, pm3, a3, b3, c3, d3, f3⟩
          dsimp only
          have hk3 : kindOf st3 = kd := g3.1.trans hk
          refine ifc (fun e5 => ?b1) (fun e5 => ?b2)
          generalize mg3 - 1 = v
          clear e5
          revert v
          refine ?key
          case b2 => exact ?key mg3
          intro v
          refine wpS_bind (wpS_modify ?_)
          refine bind_at (by omega) fun p1 hp1 => ?_
          refine bind_gal L hk3 (G2 _ _ hp1) G1 (by omega) (by omega) fun k hk1 => ?_
          dsimp only
          refine ifc (fun k0 => ?c1) (fun k0 => ?c2)
          have pm4 := pm3.x hk1
          refine ifeq (fun e7 => wpS_pure (Hi3Q.dn _ _ _ _ _ _ _ _ g3 pm4.done)) (fun e7 => ?_)
          generalize out3 ++ (xs.extract k na3).reverse = o at pm4 ⊢
          generalize na3 - k = d
          have n1 : 1 ≤ k := by omega
          revert n1 pm4
          clear e7 k0
          revert hk1
          generalize k = n
          revert d o n
          refine ?key2
          case c2 => exact ?key2 out3 (na3 - k) na3 (Nat.le_refl _) pm3 (by omega)
          intro o d n hk1 pm4 n1
          refine bind_at (by omega) fun p2 hp2 => ?_
          have pm5 := pm4.py (by omega) hp2
          refine ifeq (fun e8 => wpS_pure (Hi3Q.dn _ _ _ _ _ _ _ _ g3 pm5.first)) (fun e8 => ?_)
          refine bind_at (by omega) fun p3 hp3 => ?_
          refine bind_gal L hk3 (G1 _ _ hp3) G2 (by omega) (by omega) fun k2 hk2 => ?_
          dsimp only
          refine ifc (fun k20 => ?d1) (fun k20 => ?d2)
          have pm6 := pm5.y hk2
          refine ifeq (fun e9 => wpS_pure (Hi3Q.dn _ _ _ _ _ _ _ _ g3 pm6.first)) (fun e9 => ?_)
          refine ifeq (fun e9' => wpS_pure (Hi3Q.dn _ _ _ _ _ _ _ _ g3 pm6.done)) (fun e9' => ?_)
          have n2 : 2 ≤ k2 := by omega
          revert n2 pm6
          generalize o.push _ ++ (ys.extract k2 (nb3 - 1)).reverse = o2
          generalize nb3 - 1 - k2 = d2
          clear e9 e9' k20
          revert hk2
          generalize k2 = m
          revert d2 o2 m
          refine ?key3
          case d2 => exact ?key3 _ _ _ (Nat.le_refl _) pm5 (by omega)
          intro o2 d2 m hm pm6 n2
          refine bind_at (by omega) fun p4 hp4 => ?_
          have pm7 := pm6.px (by omega) hp4
          refine ifeq (fun e10 => wpS_pure (Hi3Q.dn _ _ _ _ _ _ _ _ g3 pm7.done)) (fun e10 => ?_)
          refine ifc (fun _ => ?_) (fun _ => ?_)
          · exact wpS_pure (Hi3Q.go _ _ _ _ _ _ _ g3 pm7 (by omega) (by omega) (by omega) (by omega) (by omega))
          · exact wpS_pure (Hi3.mk _ _ _ _ _ _ _ g3 pm7 (by omega) (by omega) (by omega) (by omega) (by omega))
        case post2 =>
          rintro _ st3 (⟨r, na3, nb3, out3, mg3, ac3, bc3, _, g3, pr⟩ | ⟨na3, nb3, out3, mg3, ac3, bc3, _, g3, pm3, a3, b3, c3, d3, f3⟩)
          · exact wpS_pure (Hi1Q.mk _ _ _ _ _ _ g3 pr)
          · dsimp only
            refine wpS_bind (wpS_modify ?_)
            exact wpS_pure (Hi1.mk _ _ _ _ _ g3 pm3 a3 b3 c3 d3 (by omega))
end
end TS

namespace TS
open PySem PyProof.Rows
structure SB (kd : SortKind) (xs0 : Array Keyed) (st : SortSt) : Prop where
  perm : (arrOf st).Perm xs0
  kind : kindOf st = kd
  ok : failedOf st = none
theorem SB.size {kd : SortKind} {xs0 : Array Keyed} {st : SortSt} (B : SB kd xs0 st) : (arrOf st).size = xs0.size := B.perm.size_eq
theorem Good.perm {P : Value → Prop} {xs ys : Array Keyed} (G : Good P ys) (p : xs.Perm ys) : Good P xs := fun i q h => by
  have m : q ∈ xs.toList := List.mem_of_getElem? (by rw [Array.getElem?_toList]; exact h)
  have m2 : q ∈ ys.toList := (Array.perm_iff_toList_perm.mp p).mem_iff.mp m
  obtain ⟨j, hj⟩ := List.getElem?_of_mem m2
  rw [Array.getElem?_toList] at hj
  exact G j q hj
section
variable {prog : Program} {w : World} {A : Around} {E : Value → Shared → Prop} {s : Shared} {kd : SortKind} {P : Value → Prop} {xs0 : Array Keyed}
theorem ask_at {st : SortSt} {i j : Nat} {Q : Option Bool → SortSt → Prop} (L : Asks prog w A s kd P) (G : Good P xs0) (B : SB kd xs0 st) (hi : i < xs0.size) (hj : j < xs0.size) (h : ∀ b, Q (some b) st) : wpS (model prog w) A E s (ltAt' i j) Q st := by
  rw [ltAt'_eq]
  refine wpS_bind (wpS_get ?_)
  have G' := G.perm B.perm
  refine wpS_bind (at_elem (by rw [B.size]; exact hi) fun p hp => ?_)
  refine wpS_bind (at_elem (by rw [B.size]; exact hj) fun q hq => ?_)
  exact ask L B.kind (G' _ _ hp) (G' _ _ hq) h
theorem rev_at {st : SortSt} {i j : Nat} {Q : Unit → SortSt → Prop} (B : SB kd xs0 st) (h : ∀ st', SB kd xs0 st' → pendingOf st' = pendingOf st → Q () st') : wpS (model prog w) A E s (reverseSlice' i j) Q st := by
  rw [reverseSlice'_eq]
  exact wpS_modify (h _ ⟨(mirror_perm _ _ _ _).trans B.perm, B.kind, B.ok⟩ rfl)
theorem count_ok {st : SortSt} {lo nrem : Nat} {Q : Option Nat → SortSt → Prop} (L : Asks prog w A s kd P) (G : Good P xs0) (B : SB kd xs0 st) (h1 : 1 ≤ nrem) (hn : lo + nrem ≤ xs0.size) (h : ∀ m st', SB kd xs0 st' → pendingOf st' = pendingOf st → 1 ≤ m → m ≤ nrem → Q (some m) st') :
    wpS (model prog w) A E s (countRun' lo nrem) Q st := by
  unfold countRun'
  refine wpS_bind (wpS_mono (wpS_forRange (I := fun x c st' => st' = st ∧ c.1 = none ∧ c.2 = x) (Q := fun c st' => st' = st ∧ c.1 = none ∧ 1 ≤ c.2 ∧ c.2 ≤ nrem) ?step ?fin ⟨rfl, rfl, rfl⟩) ?post)
  case step =>
    rintro x ⟨o, n⟩ st' a b ⟨rfl, rfl, rfl⟩
    dsimp only
    refine wpS_bind (ask_at L G B (by dsimp only at a b; omega) (by dsimp only at a b; omega) fun c => ?_)
    dsimp only
    refine ifc (fun _ => wpS_pure ⟨rfl, rfl, by dsimp only at a b ⊢; omega, by dsimp only at a b ⊢; omega⟩) (fun _ => wpS_pure ⟨rfl, rfl, rfl⟩)
  case fin =>
    rintro ⟨o, n⟩ st' ⟨rfl, rfl, e⟩
    dsimp only at e
    exact ⟨rfl, rfl, by dsimp only; omega, by dsimp only; omega⟩
  case post =>
    rintro ⟨o, n⟩ st' ⟨rfl, rfl, n1, n2⟩
    dsimp only at n1 n2 ⊢
    refine ifeq (fun e => wpS_pure (h _ _ B rfl n1 n2)) (fun e => ?_)
    refine ifc (fun n0 => ?_) (fun n0 => ?_)
    · refine wpS_bind (ask_at L G B (by omega) (by omega) fun c => ?_)
      dsimp only
      refine ifc (fun _ => wpS_pure (h _ _ B rfl n1 n2)) (fun _ => ?_)
      refine wpS_bind (rev_at B fun st6 B6 p6 => ?_)
      refine wpS_bind (wpS_lift (wpAny_rule ⟨rfl, ?_⟩))
      refine wpS_bind (wpS_mono (wpS_forRange (I := fun x c st2 => SB kd xs0 st2 ∧ pendingOf st2 = pendingOf st' ∧ c.1 = none ∧ c.2.1 = x) (Q := fun c st2 => SB kd xs0 st2 ∧ pendingOf st2 = pendingOf st' ∧ c.1 = none ∧ 1 ≤ c.2.1 ∧ c.2.1 ≤ nrem) ?step1 ?fin1 ⟨B6, p6, rfl, rfl⟩) ?post1)
      case step1 =>
        rintro x ⟨o, m, q⟩ st2 a b ⟨B2, p2, rfl, rfl⟩
        dsimp only at a b ⊢
        refine wpS_bind (ask_at L G B2 (by omega) (by omega) fun c => ?_)
        dsimp only
        refine ifc (fun _ => ?_) (fun _ => ?_)
        · refine ifc (fun _ => ?_) (fun _ => ?_)
          · exact wpS_bind (rev_at B2 fun st3 B3 p3 => wpS_pure ⟨B3, p3.trans p2, rfl, rfl⟩)
          · exact wpS_pure ⟨B2, p2, rfl, rfl⟩
        · refine wpS_bind (ask_at L G B2 (by omega) (by omega) fun c2 => ?_)
          dsimp only
          refine ifc (fun _ => ?_) (fun _ => ?_)
          · exact wpS_pure ⟨B2, p2, rfl, by dsimp only; omega, by dsimp only; omega⟩
          · exact wpS_pure ⟨B2, p2, rfl, rfl⟩
      case fin1 =>
        rintro ⟨o, m, q⟩ st2 ⟨B2, p2, rfl, e2⟩
        dsimp only at e2
        exact ⟨B2, p2, rfl, by dsimp only; omega, by dsimp only; omega⟩
      case post1 =>
        rintro ⟨o, m, q⟩ st2 ⟨B2, p2, rfl, m1, m2⟩
        dsimp only at m1 m2 ⊢
        refine ifc (fun _ => ?_) (fun _ => ?_)
        · refine wpS_bind (rev_at B2 fun st3 B3 p3 => ?_)
          refine wpS_bind (rev_at B3 fun st4 B4 p4 => ?_)
          refine wpS_bind (wpS_mono (wpS_forRange (I := fun x c st5 => st5 = st4 ∧ c.1 = none ∧ c.2 = x) (Q := fun c st5 => st5 = st4 ∧ c.1 = none ∧ 1 ≤ c.2 ∧ c.2 ≤ nrem) ?stepL2 ?finL2 ⟨rfl, rfl, rfl⟩) ?postL2)
          case stepL2 =>
            rintro x ⟨o, m⟩ st5 a b ⟨rfl, rfl, rfl⟩
            dsimp only at a b ⊢
            refine wpS_bind (ask_at L G B4 (by omega) (by omega) fun c => ?_)
            dsimp only
            refine ifc (fun _ => wpS_pure ⟨rfl, rfl, by dsimp only; omega, by dsimp only; omega⟩) (fun _ => wpS_pure ⟨rfl, rfl, rfl⟩)
          case finL2 =>
            rintro ⟨o, m⟩ st5 ⟨rfl, rfl, e2⟩
            dsimp only at e2
            exact ⟨rfl, rfl, by dsimp only; omega, by dsimp only; omega⟩
          case postL2 =>
            rintro ⟨o, m⟩ st5 ⟨rfl, rfl, k1, k2⟩
            dsimp only at k1 k2 ⊢
            exact wpS_pure (h _ _ B4 (p4.trans (p3.trans p2)) k1 k2)
        · refine wpS_bind (rev_at B2 fun st4 B4 p4 => ?_)
          refine wpS_bind (wpS_mono (wpS_forRange (I := fun x c st5 => st5 = st4 ∧ c.1 = none ∧ c.2 = x) (Q := fun c st5 => st5 = st4 ∧ c.1 = none ∧ 1 ≤ c.2 ∧ c.2 ≤ nrem) ?stepL3 ?finL3 ⟨rfl, rfl, rfl⟩) ?postL3)
          case stepL3 =>
            rintro x ⟨o, m⟩ st5 a b ⟨rfl, rfl, rfl⟩
            dsimp only at a b ⊢
            refine wpS_bind (ask_at L G B4 (by omega) (by omega) fun c => ?_)
            dsimp only
            refine ifc (fun _ => wpS_pure ⟨rfl, rfl, by dsimp only; omega, by dsimp only; omega⟩) (fun _ => wpS_pure ⟨rfl, rfl, rfl⟩)
          case finL3 =>
            rintro ⟨o, m⟩ st5 ⟨rfl, rfl, e2⟩
            dsimp only at e2
            exact ⟨rfl, rfl, by dsimp only; omega, by dsimp only; omega⟩
          case postL3 =>
            rintro ⟨o, m⟩ st5 ⟨rfl, rfl, k1, k2⟩
            dsimp only at k1 k2 ⊢
            exact wpS_pure (h _ _ B4 (p4.trans p2) k1 k2)
    · have p6 : pendingOf st' = pendingOf st' := rfl
      refine wpS_bind (wpS_lift (wpAny_rule ⟨rfl, ?_⟩))
      refine wpS_bind (wpS_mono (wpS_forRange (I := fun x c st2 => SB kd xs0 st2 ∧ pendingOf st2 = pendingOf st' ∧ c.1 = none ∧ c.2.1 = x) (Q := fun c st2 => SB kd xs0 st2 ∧ pendingOf st2 = pendingOf st' ∧ c.1 = none ∧ 1 ≤ c.2.1 ∧ c.2.1 ≤ nrem) ?step4 ?fin4 ⟨B, p6, rfl, rfl⟩) ?post4)
      case step4 =>
        rintro x ⟨o, m, q⟩ st2 a b ⟨B2, p2, rfl, rfl⟩
        dsimp only at a b ⊢
        refine wpS_bind (ask_at L G B2 (by omega) (by omega) fun c => ?_)
        dsimp only
        refine ifc (fun _ => ?_) (fun _ => ?_)
        · refine ifc (fun _ => ?_) (fun _ => ?_)
          · exact wpS_bind (rev_at B2 fun st3 B3 p3 => wpS_pure ⟨B3, p3.trans p2, rfl, rfl⟩)
          · exact wpS_pure ⟨B2, p2, rfl, rfl⟩
        · refine wpS_bind (ask_at L G B2 (by omega) (by omega) fun c2 => ?_)
          dsimp only
          refine ifc (fun _ => ?_) (fun _ => ?_)
          · exact wpS_pure ⟨B2, p2, rfl, by dsimp only; omega, by dsimp only; omega⟩
          · exact wpS_pure ⟨B2, p2, rfl, rfl⟩
      case fin4 =>
        rintro ⟨o, m, q⟩ st2 ⟨B2, p2, rfl, e2⟩
        dsimp only at e2
        exact ⟨B2, p2, rfl, by dsimp only; omega, by dsimp only; omega⟩
      case post4 =>
        rintro ⟨o, m, q⟩ st2 ⟨B2, p2, rfl, m1, m2⟩
        dsimp only at m1 m2 ⊢
        refine ifc (fun _ => ?_) (fun _ => ?_)
        · refine wpS_bind (rev_at B2 fun st3 B3 p3 => ?_)
          refine wpS_bind (rev_at B3 fun st4 B4 p4 => ?_)
          refine wpS_bind (wpS_mono (wpS_forRange (I := fun x c st5 => st5 = st4 ∧ c.1 = none ∧ c.2 = x) (Q := fun c st5 => st5 = st4 ∧ c.1 = none ∧ 1 ≤ c.2 ∧ c.2 ≤ nrem) ?stepL5 ?finL5 ⟨rfl, rfl, rfl⟩) ?postL5)
          case stepL5 =>
            rintro x ⟨o, m⟩ st5 a b ⟨rfl, rfl, rfl⟩
            dsimp only at a b ⊢
            refine wpS_bind (ask_at L G B4 (by omega) (by omega) fun c => ?_)
            dsimp only
            refine ifc (fun _ => wpS_pure ⟨rfl, rfl, by dsimp only; omega, by dsimp only; omega⟩) (fun _ => wpS_pure ⟨rfl, rfl, rfl⟩)
          case finL5 =>
            rintro ⟨o, m⟩ st5 ⟨rfl, rfl, e2⟩
            dsimp only at e2
            exact ⟨rfl, rfl, by dsimp only; omega, by dsimp only; omega⟩
          case postL5 =>
            rintro ⟨o, m⟩ st5 ⟨rfl, rfl, k1, k2⟩
            dsimp only at k1 k2 ⊢
            exact wpS_pure (h _ _ B4 (p4.trans (p3.trans p2)) k1 k2)
        · refine wpS_bind (rev_at B2 fun st4 B4 p4 => ?_)
          refine wpS_bind (wpS_mono (wpS_forRange (I := fun x c st5 => st5 = st4 ∧ c.1 = none ∧ c.2 = x) (Q := fun c st5 => st5 = st4 ∧ c.1 = none ∧ 1 ≤ c.2 ∧ c.2 ≤ nrem) ?stepL6 ?finL6 ⟨rfl, rfl, rfl⟩) ?postL6)
          case stepL6 =>
            rintro x ⟨o, m⟩ st5 a b ⟨rfl, rfl, rfl⟩
            dsimp only at a b ⊢
            refine wpS_bind (ask_at L G B4 (by omega) (by omega) fun c => ?_)
            dsimp only
            refine ifc (fun _ => wpS_pure ⟨rfl, rfl, by dsimp only; omega, by dsimp only; omega⟩) (fun _ => wpS_pure ⟨rfl, rfl, rfl⟩)
          case finL6 =>
            rintro ⟨o, m⟩ st5 ⟨rfl, rfl, e2⟩
            dsimp only at e2
            exact ⟨rfl, rfl, by dsimp only; omega, by dsimp only; omega⟩
          case postL6 =>
            rintro ⟨o, m⟩ st5 ⟨rfl, rfl, k1, k2⟩
            dsimp only at k1 k2 ⊢
            exact wpS_pure (h _ _ B4 (p4.trans p2) k1 k2)
theorem bin_ok {st : SortSt} {lo n k : Nat} {Q : Bool → SortSt → Prop} (L : Asks prog w A s kd P) (G : Good P xs0) (B : SB kd xs0 st) (hn : lo + n ≤ xs0.size) (h : ∀ st', SB kd xs0 st' → pendingOf st' = pendingOf st → Q true st') :
    wpS (model prog w) A E s (binarySort' lo n k) Q st := by
  unfold binarySort'
  refine wpS_bind (wpS_mono (wpS_forRange (I := fun x c st' => SB kd xs0 st' ∧ pendingOf st' = pendingOf st ∧ c.1 = none) (Q := fun c st' => SB kd xs0 st' ∧ pendingOf st' = pendingOf st ∧ c.1 = none) ?step (fun _ _ q => q) ⟨B, rfl, rfl⟩) ?post)
  case post =>
    rintro ⟨o, u⟩ st' ⟨B1, p1, rfl⟩
    exact wpS_pure (h _ B1 p1)
  case step =>
    rintro x ⟨o, u⟩ st' a b ⟨B1, p1, rfl⟩
    dsimp only
    refine wpS_bind (wpS_mono (wpS_forRange (I := fun y c st2 => st2 = st' ∧ c.1 = none ∧ c.2.2 ≤ x) (Q := fun c st2 => st2 = st' ∧ c.1 = none ∧ c.2.2 ≤ x) ?step1 (fun _ _ q => q) ⟨rfl, rfl, Nat.le_refl _⟩) ?post1)
    case step1 =>
      rintro y ⟨o, l, r⟩ st2 _ _ ⟨rfl, rfl, le⟩
      dsimp only at le ⊢
      refine ifc (fun _ => wpS_pure ⟨rfl, rfl, le⟩) (fun lr => ?_)
      refine wpS_bind (ask_at L G B1 (by omega) (by omega) fun c => ?_)
      dsimp only
      refine ifc (fun _ => wpS_pure ⟨rfl, rfl, by dsimp only; omega⟩) (fun _ => wpS_pure ⟨rfl, rfl, le⟩)
    case post1 =>
      rintro ⟨o, l, r⟩ st2 ⟨rfl, rfl, le⟩
      dsimp only
      refine wpS_bind (wpS_modify ?_)
      exact wpS_pure ⟨⟨(bubble_perm _ _ _).trans B1.perm, B1.kind, B1.ok⟩, p1, rfl⟩
end
end TS

namespace TS
open PySem PyProof.Rows
theorem fold_set (sa : Nat) : ∀ (l : List Keyed) (i : Nat) (a : Array Keyed), sa + i + l.length ≤ a.size → ((l.zipIdx i).foldl (fun a (x : Keyed × Nat) => a.setIfInBounds (sa + x.2) x.1) a).toList = a.toList.take (sa + i) ++ (l ++ a.toList.drop (sa + i + l.length))
  | [], i, a, h => by simp
  | p :: r, i, a, h => by
    have hl : (p :: r).length = r.length + 1 := rfl
    rw [hl] at h
    rw [List.zipIdx_cons, List.foldl_cons, fold_set sa r (i + 1) _ (by rw [Array.size_setIfInBounds]; omega)]
    rw [Array.toList_setIfInBounds]
    have lt : sa + i < a.toList.length := by simp; omega
    have e1 : (a.toList.set (sa + i) p).take (sa + (i + 1)) = a.toList.take (sa + i) ++ [p] := by
      rw [show sa + (i + 1) = sa + i + 1 by omega, List.take_succ, List.take_set_of_le (Nat.le_refl _), List.getElem?_set_self lt]
      rfl
    have e2 : (a.toList.set (sa + i) p).drop (sa + (i + 1) + r.length) = a.toList.drop (sa + i + (p :: r).length) := by
      rw [List.drop_set_of_lt (by omega), hl]
      congr 1
      omega
    rw [e1, e2]
    simp
theorem seg (a : Array Keyed) {i j k : Nat} (h1 : i ≤ j) (h2 : j ≤ k) : a.toList = a.toList.take i ++ ((a.extract i j).toList ++ ((a.extract j k).toList ++ a.toList.drop k)) := by
  have e1 := drop_ext a h1
  have e2 := drop_ext a h2
  rw [← e2, ← e1, List.take_append_drop]
section
variable {prog : Program} {w : World} {A : Around} {E : Value → Shared → Prop} {s : Shared} {kd : SortKind} {P : Value → Prop} {xs0 : Array Keyed}
theorem Good.extract {xs : Array Keyed} (G : Good P xs) (i j : Nat) : Good P (xs.extract i j) := fun k p h => by
  rw [Array.getElem?_extract] at h
  split at h
  · exact G _ _ h
  · cases h
theorem merge_ok {st : SortSt} {i sa na pw sb nb pb : Nat} {Q : Bool → SortSt → Prop} (L : Asks prog w A s kd P) (G : Good P xs0) (B : SB kd xs0 st) (e1 : (pendingOf st)[i]? = some (sa, na, pw)) (e2 : (pendingOf st)[i + 1]? = some (sb, nb, pb)) (c : sb = sa + na) (n1 : 1 ≤ na) (n2 : 1 ≤ nb) (le : sb + nb ≤ xs0.size)
    (h : ∀ st', SB kd xs0 st' → pendingOf st' = ((pendingOf st).setIfInBounds i (sa, na + nb, pw)).eraseIdxIfInBounds (i + 1) → Q true st') : wpS (model prog w) A E s (mergeAt' i) Q st := by
  have G' := G.perm B.perm
  have sz := B.size
  unfold mergeAt'
  refine wpS_bind (wpS_get ?_)
  dsimp only
  rw [e1, e2]
  dsimp only
  refine wpS_bind (?_ : wpS _ _ _ _ (set _) _ _)
  unfold wpS
  rw [StateT.run_set]
  refine wpAny_pure ⟨rfl, ?_⟩
  refine wpS_bind (at_elem (by rw [sz]; omega) fun p hp => ?_)
  have B1 : SB kd xs0 (SortSt.mk' (kindOf st) (arrOf st) (((pendingOf st).setIfInBounds i (sa, na + nb, pw)).eraseIdxIfInBounds (i + 1)) (gallopOf st) (failedOf st)) := ⟨B.perm, B.kind, B.ok⟩
  refine wpS_bind (gallop_ok L B.kind (G' _ _ hp) G' (show sa + na ≤ (arrOf st).size by omega) (by omega) fun k hk => ?_)
  dsimp only
  refine ifeq (fun _ => wpS_pure (h _ B1 rfl)) (fun e3 => ?_)
  refine wpS_bind (at_elem (show sa + k + (na - k) - 1 < (arrOf st).size by omega) fun p2 hp2 => ?_)
  refine wpS_bind (gallop_ok L B.kind (G' _ _ hp2) G' (show sb + nb ≤ (arrOf st).size by omega) (by omega) fun k2 hk2 => ?_)
  dsimp only
  refine ifeq (fun _ => wpS_pure (h _ B1 rfl)) (fun e4 => ?_)
  have x1 : ((arrOf st).extract (sa + k) sb).size = sb - (sa + k) := by
    rw [Array.size_extract]
    omega
  have x2 : ((arrOf st).extract sb (sb + k2)).size = k2 := by
    rw [Array.size_extract]
    omega
  have fin : ∀ zs : Array Keyed, zs.toList.Perm (((arrOf st).extract (sa + k) sb).toList ++ ((arrOf st).extract sb (sb + k2)).toList) → (zs.toList.zipIdx.foldl (fun a (x : Keyed × Nat) => a.setIfInBounds (sa + k + x.2) x.1) (arrOf st)).Perm xs0 := fun zs pm => by
    have zl : zs.toList.length = sb + k2 - (sa + k) := by
      rw [pm.length_eq, List.length_append, Array.length_toList, Array.length_toList, x1, x2]
      omega
    refine Array.Perm.trans (Array.perm_iff_toList_perm.mpr ?_) B.perm
    rw [fold_set (sa + k) zs.toList 0 (arrOf st) (by omega)]
    have e := seg (arrOf st) (show sa + k ≤ sb by omega) (show sb ≤ sb + k2 by omega)
    rw [Nat.add_zero, show sa + k + zs.toList.length = sb + k2 by omega]
    conv => rhs; rw [e]
    refine List.Perm.append_left _ ?_
    rw [← List.append_assoc]
    exact pm.append_right _
  refine ifc (fun _ => ?_) (fun _ => ?_)
  · refine wpS_bind (lo_ok L B.kind (G'.extract _ _) (G'.extract _ _) (show 1 ≤ ((arrOf st).extract (sa + k) sb).size by omega) (show 1 ≤ ((arrOf st).extract sb (sb + k2)).size by omega) fun zs st2 g pm => ?_)
    obtain ⟨g1, g2, g3, g4⟩ := g
    refine wpS_bind (wpS_modify ?_)
    refine wpS_bind (wpS_get ?_)
    refine wpS_pure ?_
    have e : (failedOf st2).isNone = true := by
      rw [g4]
      show (failedOf st).isNone = true
      rw [B.ok]
      rfl
    show Q (failedOf st2).isNone _
    rw [e]
    refine h _ ⟨?_, g1.trans B.kind, g4.trans B.ok⟩ g3
    show (zs.toList.zipIdx.foldl (fun a (x : Keyed × Nat) => a.setIfInBounds (sa + k + x.2) x.1) (arrOf st2)).Perm xs0
    rw [g2]
    exact fin zs pm
  · refine wpS_bind (hi_ok L B.kind (G'.extract _ _) (G'.extract _ _) (show 1 ≤ ((arrOf st).extract (sa + k) sb).size by omega) (show 1 ≤ ((arrOf st).extract sb (sb + k2)).size by omega) fun zs st2 g pm => ?_)
    obtain ⟨g1, g2, g3, g4⟩ := g
    refine wpS_bind (wpS_modify ?_)
    refine wpS_bind (wpS_get ?_)
    refine wpS_pure ?_
    have e : (failedOf st2).isNone = true := by
      rw [g4]
      show (failedOf st).isNone = true
      rw [B.ok]
      rfl
    show Q (failedOf st2).isNone _
    rw [e]
    refine h _ ⟨?_, g1.trans B.kind, g4.trans B.ok⟩ g3
    show (zs.toList.zipIdx.foldl (fun a (x : Keyed × Nat) => a.setIfInBounds (sa + k + x.2) x.1) (arrOf st2)).Perm xs0
    rw [g2]
    exact fin zs pm
end
end TS

namespace TS
open PySem PyProof.Rows
noncomputable def Cont : Nat → List (Nat × Nat × Nat) → Nat → Prop
  | f, [], lo => f = lo
  | f, (s, n, _) :: r, lo => s = f ∧ 1 ≤ n ∧ Cont (f + n) r lo
theorem Cont.le : ∀ {l : List (Nat × Nat × Nat)} {f lo : Nat}, Cont f l lo → f ≤ lo
  | [], f, lo, h => Nat.le_of_eq h
  | (s, n, p) :: r, f, lo, ⟨_, h1, h⟩ => by
    have := Cont.le h
    omega
theorem Cont.two : ∀ {l : List (Nat × Nat × Nat)} {f lo : Nat} (i : Nat), Cont f l lo → i + 1 < l.length → ∃ sa na pw sb nb pb, l[i]? = some (sa, na, pw) ∧ l[i + 1]? = some (sb, nb, pb) ∧ sb = sa + na ∧ 1 ≤ na ∧ 1 ≤ nb ∧ sb + nb ≤ lo
  | (s, n, p) :: (s2, n2, p2) :: r, f, lo, 0, ⟨h1, h2, h3, h4, h5⟩, _ => ⟨s, n, p, s2, n2, p2, rfl, rfl, by omega, h2, h4, by have := h5.le; omega⟩
  | (s, n, p) :: r, f, lo, i + 1, ⟨_, _, h⟩, hl => Cont.two i h (by simpa using hl)
  | [], _, _, _, _, hl => by simp at hl
  | [_], _, _, 0, _, hl => by simp at hl
theorem Cont.merge : ∀ {l : List (Nat × Nat × Nat)} {f lo : Nat} (i : Nat) {sa na pw sb nb pb : Nat}, Cont f l lo → l[i]? = some (sa, na, pw) → l[i + 1]? = some (sb, nb, pb) → Cont f ((l.set i (sa, na + nb, pw)).eraseIdx (i + 1)) lo
  | (s, n, p) :: (s2, n2, p2) :: r, f, lo, 0, sa, na, pw, sb, nb, pb, ⟨h1, h2, h3, h4, h5⟩, e1, e2 => by
    cases e1
    cases e2
    refine ⟨h1, by omega, ?_⟩
    rw [← Nat.add_assoc]
    exact h5
  | (s, n, p) :: r, f, lo, i + 1, sa, na, pw, sb, nb, pb, ⟨h1, h2, h⟩, e1, e2 => ⟨h1, h2, Cont.merge i h e1 e2⟩
  | [], _, _, _, _, _, _, _, _, _, _, e1, _ => by cases e1
  | [_], _, _, 0, _, _, _, _, _, _, _, _, e2 => by cases e2
theorem Cont.mod (pw : Nat) : ∀ {l : List (Nat × Nat × Nat)} {f lo : Nat} (j : Nat), Cont f l lo → Cont f (l.modify j fun x => (x.1, x.2.1, pw)) lo
  | [], f, lo, j, h => by
    rw [List.modify_nil]
    exact h
  | (s, n, p) :: r, f, lo, 0, ⟨h1, h2, h⟩ => ⟨h1, h2, h⟩
  | (s, n, p) :: r, f, lo, j + 1, ⟨h1, h2, h⟩ => ⟨h1, h2, Cont.mod pw j h⟩
theorem Cont.push {n : Nat} (hn : 1 ≤ n) : ∀ {l : List (Nat × Nat × Nat)} {f lo : Nat}, Cont f l lo → Cont f (l ++ [(lo, n, 0)]) (lo + n)
  | [], f, lo, h => ⟨h.symm, hn, by show f + n = lo + n; rw [show f = lo from h]⟩
  | (s, m, p) :: r, f, lo, ⟨h1, h2, h⟩ => ⟨h1, h2, Cont.push hn h⟩
section
variable {prog : Program} {w : World} {A : Around} {E : Value → Shared → Prop} {s : Shared} {kd : SortKind} {P : Value → Prop} {xs0 : Array Keyed}
theorem merge_at {st : SortSt} {i lo : Nat} {Q : Bool → SortSt → Prop} (L : Asks prog w A s kd P) (G : Good P xs0) (B : SB kd xs0 st) (C : Cont 0 (pendingOf st).toList lo) (le : lo ≤ xs0.size) (hi : i + 1 < (pendingOf st).size)
    (h : ∀ st', SB kd xs0 st' → Cont 0 (pendingOf st').toList lo → Q true st') : wpS (model prog w) A E s (mergeAt' i) Q st := by
  obtain ⟨sa, na, pw, sb, nb, pb, e1, e2, c, n1, n2, l2⟩ := C.two i (by simpa using hi)
  refine merge_ok L G B (by rw [← Array.getElem?_toList]; exact e1) (by rw [← Array.getElem?_toList]; exact e2) c n1 n2 (by omega) fun st' B' p' => h st' B' ?_
  rw [p', Array.toList_eraseIdxIfInBounds, Array.toList_setIfInBounds]
  exact C.merge i e1 e2
theorem runs_ok {st : SortSt} {Q : Unit → SortSt → Prop} (L : Asks prog w A s kd P) (G : Good P xs0) (B : SB kd xs0 st) (p0 : pendingOf st = #[]) (h : ∀ st', SB kd xs0 st' → Q () st') : wpS (model prog w) A E s sortRuns' Q st := by
  rw [sortRuns'_eq]
  refine wpS_bind (wpS_get ?_)
  dsimp only
  rw [B.size]
  refine wpS_bind (wpS_mono (wpS_forRange (I := fun x c st' => SB kd xs0 st' ∧ c.1 = none ∧ Cont 0 (pendingOf st').toList c.2 ∧ c.2 ≤ xs0.size) (Q := fun c st' => SB kd xs0 st' ∧ c.1 = none ∧ Cont 0 (pendingOf st').toList c.2 ∧ c.2 ≤ xs0.size) ?step (fun _ _ q => q) ⟨B, rfl, by rw [p0]; rfl, Nat.zero_le _⟩) ?post)
  case step =>
    rintro x ⟨o, lo⟩ st' _ _ ⟨B1, rfl, C1, l1⟩
    dsimp only at C1 l1 ⊢
    refine ifc (fun _ => wpS_pure ⟨B1, rfl, C1, l1⟩) (fun ge => ?_)
    refine wpS_bind (count_ok L G B1 (by omega) (by omega) fun m st2 B2 p2 m1 m2 => ?_)
    dsimp only
    have C2 : Cont 0 (pendingOf st2).toList lo := by rw [p2]; exact C1
    refine ifc (fun lt => ?_) (fun lt => ?_)
    · refine wpS_bind (wpS_lift (wpAny_rule ⟨rfl, ?_⟩))
      generalize hf : min (xs0.size - lo) (minRun' xs0.size xs0.size 0) = force
      have f1 : 1 ≤ force := by omega
      have f2 : lo + force ≤ xs0.size := by omega
      refine wpS_bind (bin_ok L G B2 f2 fun st3 B3 p3 => ?_)
      have C3 : Cont 0 (pendingOf st3).toList lo := by rw [p3]; exact C2
      refine ifc (fun z => absurd z (by decide)) (fun _ => ?_)
      refine wpS_bind (wpS_get ?_)
      cases hb : (pendingOf st3).back? with
      | none =>
        dsimp only
        refine wpS_bind (wpS_modify ?_)
        refine wpS_pure ⟨⟨B3.perm, B3.kind, B3.ok⟩, rfl, ?_, f2⟩
        show Cont 0 ((pendingOf st3).push (lo, force, 0)).toList (lo + force)
        rw [Array.toList_push]
        exact C3.push f1
      | some t =>
        obtain ⟨s1, n1', q1⟩ := t
        dsimp only
        refine wpS_bind (wpS_mono (wpS_forRange (I := fun y c st4 => SB kd xs0 st4 ∧ c.1 = none ∧ Cont 0 (pendingOf st4).toList lo) (Q := fun c st4 => SB kd xs0 st4 ∧ c.1 = none ∧ Cont 0 (pendingOf st4).toList lo) ?step1 (fun _ _ q => q) ⟨B3, rfl, C3⟩) ?post1)
        case step1 =>
          rintro y ⟨o, u⟩ st4 _ _ ⟨B4, rfl, C4⟩
          refine wpS_bind (wpS_get ?_)
          cases hm : (if (pendingOf st4).size > 1 then (pendingOf st4)[(pendingOf st4).size - 2]? else none) with
          | none => exact wpS_pure ⟨B4, rfl, C4⟩
          | some t =>
            obtain ⟨f1, f2, older⟩ := t
            dsimp only
            refine ifc (fun _ => wpS_pure ⟨B4, rfl, C4⟩) (fun _ => ?_)
            have s2 : (pendingOf st4).size > 1 := by
              by_cases z : (pendingOf st4).size > 1
              · exact z
              · rw [if_neg z] at hm
                cases hm
            refine wpS_bind (merge_at L G B4 C4 l1 (by omega) fun st5 B5 C5 => ?_)
            exact ifc (fun z => absurd z (by decide)) (fun _ => wpS_pure ⟨B5, rfl, C5⟩)
        case post1 =>
          rintro ⟨o, u⟩ st4 ⟨B4, rfl, C4⟩
          dsimp only
          refine wpS_bind (wpS_modify ?_)
          refine wpS_bind (wpS_modify ?_)
          refine wpS_pure ⟨⟨B4.perm, B4.kind, B4.ok⟩, rfl, ?_, f2⟩
          refine id (?_ : Cont 0 (((pendingOf st4).modify ((pendingOf st4).size - 1) fun x => (x.1, x.2.1, _)).push (lo, force, 0)).toList (lo + force))
          rw [Array.toList_push, Array.toList_modify]
          exact (C4.mod _ _).push f1
    · have f2 : lo + m ≤ xs0.size := by omega
      refine wpS_bind (wpS_get ?_)
      cases hb : (pendingOf st2).back? with
      | none =>
        dsimp only
        refine wpS_bind (wpS_modify ?_)
        refine wpS_pure ⟨⟨B2.perm, B2.kind, B2.ok⟩, rfl, ?_, f2⟩
        show Cont 0 ((pendingOf st2).push (lo, m, 0)).toList (lo + m)
        rw [Array.toList_push]
        exact C2.push m1
      | some t =>
        obtain ⟨s1, n1', q1⟩ := t
        dsimp only
        refine wpS_bind (wpS_mono (wpS_forRange (I := fun y c st4 => SB kd xs0 st4 ∧ c.1 = none ∧ Cont 0 (pendingOf st4).toList lo) (Q := fun c st4 => SB kd xs0 st4 ∧ c.1 = none ∧ Cont 0 (pendingOf st4).toList lo) ?step2 (fun _ _ q => q) ⟨B2, rfl, C2⟩) ?post2)
        case step2 =>
          rintro y ⟨o, u⟩ st4 _ _ ⟨B4, rfl, C4⟩
          refine wpS_bind (wpS_get ?_)
          cases hm : (if (pendingOf st4).size > 1 then (pendingOf st4)[(pendingOf st4).size - 2]? else none) with
          | none => exact wpS_pure ⟨B4, rfl, C4⟩
          | some t =>
            obtain ⟨f1, f2, older⟩ := t
            dsimp only
            refine ifc (fun _ => wpS_pure ⟨B4, rfl, C4⟩) (fun _ => ?_)
            have s2 : (pendingOf st4).size > 1 := by
              by_cases z : (pendingOf st4).size > 1
              · exact z
              · rw [if_neg z] at hm
                cases hm
            refine wpS_bind (merge_at L G B4 C4 l1 (by omega) fun st5 B5 C5 => ?_)
            exact ifc (fun z => absurd z (by decide)) (fun _ => wpS_pure ⟨B5, rfl, C5⟩)
        case post2 =>
          rintro ⟨o, u⟩ st4 ⟨B4, rfl, C4⟩
          dsimp only
          refine wpS_bind (wpS_modify ?_)
          refine wpS_bind (wpS_modify ?_)
          refine wpS_pure ⟨⟨B4.perm, B4.kind, B4.ok⟩, rfl, ?_, f2⟩
          refine id (?_ : Cont 0 (((pendingOf st4).modify ((pendingOf st4).size - 1) fun x => (x.1, x.2.1, _)).push (lo, m, 0)).toList (lo + m))
          rw [Array.toList_push, Array.toList_modify]
          exact (C4.mod _ _).push m1
  case post =>
    rintro ⟨o, lo⟩ st' ⟨B1, rfl, C1, l1⟩
    dsimp only at C1 l1 ⊢
    refine wpS_bind (wpS_mono (wpS_forRange (I := fun y c st4 => SB kd xs0 st4 ∧ c.1 = none ∧ Cont 0 (pendingOf st4).toList lo) (Q := fun c st4 => SB kd xs0 st4 ∧ c.1 = none ∧ Cont 0 (pendingOf st4).toList lo) ?stepE (fun _ _ q => q) ⟨B1, rfl, C1⟩) ?postE)
    case stepE =>
      rintro y ⟨o, u⟩ st4 _ _ ⟨B4, rfl, C4⟩
      refine wpS_bind (wpS_get ?_)
      refine ifc (fun _ => wpS_pure ⟨B4, rfl, C4⟩) (fun gt => ?_)
      refine wpS_bind (merge_at L G B4 C4 l1 (by (repeat' split) <;> omega) fun st5 B5 C5 => ?_)
      exact ifc (fun z => absurd z (by decide)) (fun _ => wpS_pure ⟨B5, rfl, C5⟩)
    case postE =>
      rintro ⟨o, u⟩ st4 ⟨B4, rfl, C4⟩
      dsimp only
      exact wpS_pure (h _ B4)
end
end TS

namespace TS
open PySem PyProof.Rows
noncomputable def IsPair (h : Heap) (v : Value) : Prop := ∃ (a : Addr) (o : Obj) (i j : Int) (t u : Tok) (n : Nat), v = .ref a ∧ h.get? a = some o ∧ o.cls = .type "tuple" ∧ o.data = .seq #[.int i t, .int j u] n
section
variable {prog : Program} {w : World} {A : Around} {E : Value → Shared → Prop} {s : Shared}
theorem one_lt (b : Bool) {i j : Int} {t u : Tok} {Q : Bool → Shared → Prop} (h : ∀ c, Q c s) : wpAny (model prog w) A (oneLt' b (.int i t) (.int j u)) Q E s := by
  cases b with
  | true => exact oneLt_int (h _)
  | false =>
    rw [oneLt'_eq]
    rw [if_neg Bool.false_ne_true]
    refine wpAny_bind (?_ : wpAny _ _ (compareOp .Lt (.int i t) (.int j u)) _ _ _)
    exact lt_int (wpAny_truthy_bool (h _))
theorem asks_pairs : Asks prog w A s (tuples' true) (IsPair s.heap) := by
  rintro E x y ⟨a, o, i, j, t, u, n, rfl, ho, hc, hd⟩ ⟨a2, o2, i2, j2, t2, u2, n2, rfl, ho2, hc2, hd2⟩ Q h
  refine wpAny_bind (listItems_at ho hd ?_)
  refine wpAny_bind (listItems_at ho2 hd2 ?_)
  dsimp only
  refine wpAny_bind ?_
  refine wpAny_forIn_list _ (fun rest r s' => s' = s ∧ r.1 = none ∧ ∀ x ∈ rest, ∃ (i j : Int) (t u : Tok), x.1 = (Value.int i t, Value.int j u)) _ ?_ ?_ _ _ ⟨rfl, rfl, fun x hx => ?_⟩
  · rintro ⟨⟨p, q⟩, k⟩ rest ⟨r, ⟨⟩⟩ s' ⟨rfl, rfl, hall⟩
    obtain ⟨i3, j3, t3, u3, e⟩ := hall _ List.mem_cons_self
    dsimp only at e
    cases e
    dsimp only
    refine wpAny_bind ((intKind prog w).eqBool (a := i3) (b := j3) (intKind_is _ _ i3 t3) (intKind_is _ _ j3 u3) ?_)
    cases decide (i3 = j3) with
    | true => exact wpAny_pure ⟨rfl, rfl, fun x hx => hall x (List.mem_cons_of_mem _ hx)⟩
    | false => exact wpAny_bind (one_lt _ fun c => wpAny_pure (wpAny_pure (h c)))
  · rintro ⟨r, ⟨⟩⟩ s' ⟨rfl, rfl, _⟩
    exact wpAny_pure (h _)
  · have hx' : x = ((Value.int i t, Value.int i2 t2), 0) ∨ x = ((Value.int j u, Value.int j2 u2), 1) := by simpa using hx
    rcases hx' with rfl | rfl
    · exact ⟨_, _, _, _, rfl⟩
    · exact ⟨_, _, _, _, rfl⟩
theorem first_pair {v : Value} {Q : Option Value → Shared → Prop} (hv : IsPair s.heap v) (h : ∀ i t, Q (some (.int i t)) s) : wpAny (model prog w) A (firstOfTuple' v) Q E s := by
  obtain ⟨a, o, i, j, t, u, n, rfl, ho, hc, hd⟩ := hv
  unfold firstOfTuple'
  refine wpAny_bind (wpAny_typeOf (T := "tuple") ⟨o, ho, hc⟩ ?_)
  rw [if_neg (by decide)]
  refine wpAny_bind (listItems_at ho hd (wpAny_pure ?_))
  exact h i t
theorem firsts {Q : List (Option Value) → Shared → Prop} : ∀ {vs : List Value}, (∀ v ∈ vs, IsPair s.heap v) → (∀ os : List (Option Value), os.length = vs.length → (∀ o ∈ os, ∃ i t, o = some (Value.int i t)) → Q os s) → wpAny (model prog w) A (vs.mapM firstOfTuple') Q E s
  | [], _, h => by
    rw [List.mapM_nil]
    exact wpAny_pure (h [] rfl fun o ho => (nomatch ho))
  | v :: r, hv, h => by
    rw [List.mapM_cons]
    refine wpAny_bind (first_pair (hv v List.mem_cons_self) fun i t => ?_)
    refine wpAny_bind (firsts (fun x hx => hv x (List.mem_cons_of_mem _ hx)) fun os ol oh => ?_)
    refine wpAny_pure (h _ (by simp [ol]) fun o ho => ?_)
    rcases List.mem_cons.mp ho with rfl | ho
    · exact ⟨i, t, rfl⟩
    · exact oh o ho
theorem kind_pairs {vs : List Value} {Q : SortKind → Shared → Prop} (h0 : vs ≠ []) (hv : ∀ v ∈ vs, IsPair s.heap v) (h : Q (tuples' true) s) : wpAny (model prog w) A (keyKind' vs.toArray) Q E s := by
  rw [keyKind'_eq, List.mapM_toArray]
  rw [map_eq_pure_bind, bind_assoc]
  refine wpAny_bind (firsts hv fun os ol oh => ?_)
  rw [pure_bind]
  have all : os.toArray.all (·.isSome) = true := by
    rw [List.all_toArray, List.all_eq_true]
    intro o ho
    obtain ⟨i, t, rfl⟩ := oh o ho
    rfl
  rw [if_pos all]
  refine wpAny_bind (wpAny_rule ?_)
  have inte : ∃ us : List Value, os.toArray.filterMap id = us.toArray ∧ us ≠ [] ∧ ∃ ns, IntsAre us ns := by
    have go : ∀ os : List (Option Value), (∀ o ∈ os, ∃ i t, o = some (Value.int i t)) → ∃ us ns, os.filterMap id = us ∧ us.length = os.length ∧ IntsAre us ns := fun os => by
      induction os with
      | nil => exact fun _ => ⟨[], [], rfl, rfl, .nil⟩
      | cons o r ih =>
        intro hh
        obtain ⟨i, t, rfl⟩ := hh o List.mem_cons_self
        obtain ⟨us, ns, e, l, I⟩ := ih fun x hx => hh x (List.mem_cons_of_mem _ hx)
        exact ⟨.int i t :: us, i :: ns, by simp [e], by simp [l], .cons i t I⟩
    obtain ⟨us, ns, e, l, I⟩ := go os oh
    refine ⟨us, ?_, fun z => h0 ?_, ns, I⟩
    · rw [List.filterMap_toArray, e]
    · rw [z] at l
      have : vs.length = 0 := by
        rw [← ol, ← l]
        rfl
      exact List.length_eq_zero_iff.mp this
  obtain ⟨us, e, un, ns, I⟩ := inte
  rw [e, oneTypeOnly'_eq, List.mapM_toArray, mapM_typeOf_ints I]
  simp only [map_pure, pure_bind]
  obtain ⟨u0, ur, rfl⟩ := List.exists_cons_of_ne_nil un
  have hall : ((List.map (fun _ => Value.type "int") (u0 :: ur)).toArray.all fun x => x == Value.type "int") = true := by
    simp only [List.all_toArray, List.all_map, List.all_eq_true]
    intro _ _
    rfl
  have h1 : (List.map (fun _ => Value.type "int") (u0 :: ur)).toArray[0]? = some (Value.type "int") := by simp
  rw [h1]
  simp only [hall, if_true, pure_bind]
  exact wpAny_pure h
end
end TS

namespace TS
open PySem PyProof.Rows
theorem IsPair.keep {h h' : Heap} {v : Value} {a : Addr} {c : Obj} (p : IsPair h v) (ha : h.get? a = some c) (hc : c.cls = .type "list") (k : ∀ b o, b ≠ a → h.get? b = some o → h'.get? b = some o) : IsPair h' v := by
  obtain ⟨b, o, i, j, t, u, n, rfl, ho, hco, hd⟩ := p
  refine ⟨b, o, i, j, t, u, n, rfl, k b o (fun z => ?_) ho, hco, hd⟩
  rw [z, ha] at ho
  cases ho
  rw [hc] at hco
  injection hco with z
  exact absurd z (by decide)
section
variable {prog : Program} {w : World} {A : Around} {E : Value → Shared → Prop} {s : Shared}
theorem sort_pairs {a : Addr} {vs : List Value} {n : Nat} {R : Fin → Shared → Prop} (ho : s.heap.get? a = some (seqObj "list" vs.toArray n)) (hv : ∀ v ∈ vs, IsPair s.heap v) (few : vs.length ≤ 1000)
    (h : ∀ us : Array Value, us.toList.Perm vs → R (.done (.ret .none)) { s with heap := sortedHeap s.heap a vs us }) : wpAny (model prog w) A (Builtin.«list.sort» ⟨[.ref a], []⟩) R E s := by
  have line : (1000 : Nat) ≤ sizeLine := by decide
  have az : a < s.heap.objs.size := Heap.lt_size ho
  rw [list_sort_plain (a : Addr)]
  refine wpAny_bind (listItems_at ho rfl (?_ : _))
  refine wpAny_bind (listUpdate_at ho rfl (?_ : _) (by simp; omega) (by simp))
  obtain ⟨ep, g1⟩ : ∃ ep, (s.heap.update a (Obj.mapSeq fun _ => #[])).get? a = some (seqObj "list" #[] ep) := ⟨_, get?_update_seq ho fun _ => #[]⟩
  refine wpAny_bind (seqEpoch_at g1 rfl (?_ : _))
  refine wpAny_bind (wpAny_newTuple (?_ : _) (by simp; omega))
  refine wpAny_bind (wpAny_newList (?_ : _))
  refine wpAny_holding (?_ : _)
  have g6 : (((s.heap.update a (Obj.mapSeq fun _ => #[])).push (seqObj "tuple" vs.toArray 0)).push (seqObj "list" #[] 0)).get? a = some (seqObj "list" #[] ep) := Heap.get?_push_of_some _ (Heap.get?_push_of_some _ g1)
  have keep : ∀ b o, b ≠ a → s.heap.get? b = some o → (((s.heap.update a (Obj.mapSeq fun _ => #[])).push (seqObj "tuple" vs.toArray 0)).push (seqObj "list" #[] 0)).get? b = some o := fun b o hb e => Heap.get?_push_of_some _ (Heap.get?_push_of_some _ ((Heap.get?_update_other _ _ (Ne.symm hb)).trans e))
  have hv6 : ∀ v ∈ vs, IsPair (((s.heap.update a (Obj.mapSeq fun _ => #[])).push (seqObj "tuple" vs.toArray 0)).push (seqObj "list" #[] 0)) v := fun v m => (hv v m).keep ho rfl keep
  refine id (?_ : wpAny (model prog w) A _ R E { s with heap := ((s.heap.update a (Obj.mapSeq fun _ => #[])).push (seqObj "tuple" vs.toArray 0)).push (seqObj "list" #[] 0) })
  dsimp only
  have psz : (vs.toArray.zip vs.toArray).size = vs.length := by simp
  have out : ∀ zs : Array Keyed, zs.Perm (vs.toArray.zip vs.toArray) → (zs.map (·.2)).toList.Perm vs := fun zs p => by
    have p2 := (Array.perm_iff_toList_perm.mp p).map (·.2)
    rw [Array.toList_map]
    refine p2.trans ?_
    have : ((vs.toArray.zip vs.toArray).toList.map (·.2)) = vs := by
      rw [Array.toList_zip]
      simp [List.map_snd_zip]
    rw [this]
  by_cases h2 : vs.toArray.size < 2
  · rw [if_pos h2, if_pos h2]
    refine wpAny_bind (wpAny_pure (?_ : _))
    rw [StateT.run_pure]
    refine wpAny_bind (wpAny_pure (?_ : _))
    dsimp only
    refine wpAny_bind (seqEpoch_at g6 rfl (?_ : _))
    have o1 := out (vs.toArray.zip vs.toArray) (Array.Perm.refl _)
    have l1 := o1.length_eq
    rw [Array.length_toList] at l1
    refine wpAny_bind (listUpdate_at g6 rfl (?_ : _) (by simp) (Nat.le_trans (Nat.le_of_eq l1) (by omega)))
    simp only [bne_self_eq_false, Bool.false_eq_true, if_false]
    refine wpAny_pure (?_ : _)
    exact h _ o1
  · rw [if_neg h2, if_neg h2]
    have ne : vs ≠ [] := fun z => h2 (by rw [z]; decide)
    refine wpAny_bind (kind_pairs (s := { s with heap := ((s.heap.update a (Obj.mapSeq fun _ => #[])).push (seqObj "tuple" vs.toArray 0)).push (seqObj "list" #[] 0) }) ne hv6 (?_ : _))
    refine wpAny_bind (wpAny_mono (runs_ok (kd := tuples' true) (P := IsPair (((s.heap.update a (Obj.mapSeq fun _ => #[])).push (seqObj "tuple" vs.toArray 0)).push (seqObj "list" #[] 0))) (xs0 := vs.toArray.zip vs.toArray) (s := { s with heap := ((s.heap.update a (Obj.mapSeq fun _ => #[])).push (seqObj "tuple" vs.toArray 0)).push (seqObj "list" #[] 0) }) (Q := fun _ st' => SB (tuples' true) (vs.toArray.zip vs.toArray) st') asks_pairs (fun k p hp => ?_) ⟨Array.Perm.refl _, rfl, rfl⟩ rfl fun st' B => B) ?_ fun _ _ e => e)
    · have m : p ∈ (vs.toArray.zip vs.toArray).toList := List.mem_of_getElem? (by rw [Array.getElem?_toList]; exact hp)
      rw [Array.toList_zip] at m
      exact hv6 _ (List.of_mem_zip m).1
    · rintro ⟨⟨⟩, st'⟩ s' ⟨rfl, B⟩
      dsimp only
      refine wpAny_bind (seqEpoch_at g6 rfl (?_ : _))
      have o1 := out _ B.perm
      have l1 := o1.length_eq
      rw [Array.length_toList] at l1
      refine wpAny_bind (listUpdate_at g6 rfl (?_ : _) (by simp) (Nat.le_trans (Nat.le_of_eq l1) (by omega)))
      rw [B.ok]
      simp only [bne_self_eq_false, Bool.false_eq_true, if_false]
      refine wpAny_pure (?_ : _)
      exact h _ o1
end
end TS

namespace L2
open PySem PySem.Spec PyProof.Rows
theorem vals_perm {us its : List Value} (p : us.Perm its) : ∀ {ys : List V}, Vals ys its → ∃ zs, zs.Perm ys ∧ Vals zs us := by
  induction p with
  | nil => exact fun {ys} r => ⟨ys, List.Perm.refl _, r⟩
  | cons x _ ih =>
    intro ys r
    cases r with
    | cons h r =>
      obtain ⟨zs, p1, r1⟩ := ih r
      exact ⟨_ :: zs, p1.cons _, .cons h r1⟩
  | swap x y l =>
    intro ys r
    cases r with
    | cons h r =>
      cases r with
      | cons h2 r => exact ⟨_ :: _ :: _, List.Perm.swap _ _ _, .cons h2 (.cons h r)⟩
  | trans _ _ ih1 ih2 =>
    intro ys r
    obtain ⟨zs, p1, r1⟩ := ih2 r
    obtain ⟨ws, p2, r2⟩ := ih1 r1
    exact ⟨ws, p2.trans p1, r2⟩
section
variable {X : Cx}
inductive rSortPI (K : PySem.W.Frag) (xs : List V) (H : Hp) (Q : VK) : Prop
  | mk : ∀ (a : Addr) (ys : List V), (xs = [.ref a]) → (SqL K H a ys) → ((∀ y ∈ ys, ∃ (b : Addr) (i j : Int), y = .ref b ∧ SqT K H b [.int i, .int j])) → (ys.length ≤ 1000) → (∀ (zs : List V) (p : Addr), zs.Perm ys → H p = none → Q (.ref p) (upd H p (.lst zs))) → rSortPI K xs H Q
noncomputable def rSortP (K : PySem.W.Frag) : List V → Hp → VK → Prop := fun xs H Q => rSortPI K xs H Q
theorem call_sortedP : CallR X (.builtin "sorted") (rSortP X.K) := by
  intro pins s σ H xs us Q I r h
  obtain ⟨a, ys, rfl, hq, tu, few, q⟩ := h
  obtain ⟨u, rfl, ru⟩ := r.one
  cases ru
  obtain ⟨its, rv, p, _⟩ := I.list hq
  have hlen : its.length = ys.length := rv.length.symm
  have hv : ∀ v ∈ its, TS.IsPair s.heap v := fun v m => by
    obtain ⟨i, hi⟩ := List.getElem?_of_mem m
    have go : ∀ {ys : List V} {its : List Value}, Vals ys its → ∀ (i : Nat) (u : Value), its[i]? = some u → ∃ x, ys[i]? = some x ∧ RelV x u := fun {ys its} r => by
      induction r with
      | nil => exact fun i u h => (nomatch h)
      | cons h _ ih =>
        intro i u e
        cases i with
        | zero =>
          cases e
          exact ⟨_, rfl, h⟩
        | succ i => exact ih i u e
    obtain ⟨x, hx, rx⟩ := go rv i v hi
    obtain ⟨b, i1, j1, rfl, sb⟩ := tu x (List.mem_of_getElem? hx)
    cases rx
    obtain ⟨its2, r2, ⟨o2, e2, c2, n2, d2⟩, _⟩ := I.tuple sb
    cases r2 with
    | cons ra r3 =>
      cases r3 with
      | cons rb r4 =>
        cases r4
        obtain ⟨t, rfl⟩ := ra
        obtain ⟨u, rfl⟩ := rb
        exact ⟨b, o2, i1, j1, t, u, n2, rfl, e2, c2, d2⟩
  have line : (1000 : Nat) ≤ sizeLine := by decide
  refine Calls.call_function_entry kind_sorted plain_sorted entry_sorted (args_sorted1 _) (?_ : _)
  unfold Builtin.«sorted»
  refine wpAny_bind (m := checkCount "sorted" 1 1 _) (wpAny_pure (?_ : _))
  refine wpAny_bind (collect_list p.isList (?_ : _) (by omega))
  refine wpAny_bind (wpAny_newList (?_ : _) (by omega))
  have sz : ((s.heap.push (seqObj "list" #[] 0)).update s.heap.objs.size (Obj.mapSeq (· ++ its.toArray))).objs.size = s.heap.objs.size + 1 := by
    rw [Heap.size_update]
    exact size_push' _ _
  have g0 : (((s.heap.push (seqObj "list" #[] 0)).update s.heap.objs.size (Obj.mapSeq (· ++ its.toArray))).push (seqObj "list" its.toArray 0)).get? (s.heap.objs.size + 1) = some (seqObj "list" its.toArray 0) := by
    rw [← sz]
    exact Heap.get?_push_size _ rfl
  have old : ∀ b o, s.heap.get? b = some o → (((s.heap.push (seqObj "list" #[] 0)).update s.heap.objs.size (Obj.mapSeq (· ++ its.toArray))).push (seqObj "list" its.toArray 0)).get? b = some o := fun b o e => Heap.get?_push_of_some _ ((Heap.get?_update_other _ _ (Nat.ne_of_gt (Heap.lt_size e))).trans (Heap.get?_push_of_some _ e))
  refine id (?_ : wpAny _ _ _ _ _ { s with heap := ((s.heap.push (seqObj "list" #[] 0)).update s.heap.objs.size (Obj.mapSeq (· ++ its.toArray))).push (seqObj "list" its.toArray 0) })
  rw [sz]
  have hv2 : ∀ v ∈ its, TS.IsPair (((s.heap.push (seqObj "list" #[] 0)).update s.heap.objs.size (Obj.mapSeq (· ++ its.toArray))).push (seqObj "list" its.toArray 0)) v := fun v m => by
    obtain ⟨b, o, i, j, t, u, n, e, ho, r⟩ := hv v m
    exact ⟨b, o, i, j, t, u, n, e, old b o ho, r⟩
  refine wpAny_bind (wpAny_holding (wpAny_call_entry slot_list_sort ⟨_, g0, rfl⟩ entry_list_sort (TS.sort_pairs g0 hv2 (by omega) fun out pm => ⟨_, rfl, (?_ : _)⟩) (args_list_sort _)))
  obtain ⟨n, hn⟩ := sortedHeap_at (vs := its) (out := out) g0
  obtain ⟨zs, pz, rz⟩ := vals_perm pm rv
  have new : s.heap.get? (s.heap.objs.size + 1) = none := Heap.get?_none_of_le (Nat.le_succ _)
  have I2 := I.laidN (a := s.heap.objs.size + 1) (o := .lst zs) (t' := s.toks) (h' := sortedHeap (((s.heap.push (seqObj "list" #[] 0)).update s.heap.objs.size (Obj.mapSeq (· ++ its.toArray))).push (seqObj "list" its.toArray 0)) (s.heap.objs.size + 1) its out) (fun b o hb => by
      have lt := Heap.lt_size hb
      rw [sortedHeap_old (Nat.ne_of_lt (Nat.lt_succ_of_lt lt)) (by rw [size_push', sz]; exact Nat.lt_succ_of_lt (Nat.lt_succ_of_lt lt))]
      exact old b o hb) new
    ⟨by rw [pz.length_eq]; omega, out.toList, n, rz, by simpa using hn⟩
  exact wpAny_pure ⟨_, rfl, .ref (s.heap.objs.size + 1), _, I2, rfl, q zs _ pz (I.free_of new)⟩
end
end L2

namespace DL
open PySem PySem.W PyProof.Rows
noncomputable def DictE (h : Heap) (d : Addr) (es : Array DictEntry) (ep : Nat) : Prop := ∃ o, h.get? d = some o ∧ o.ExactDict ∧ o.data = .dict es ep
noncomputable def KeyIt (h : Heap) (it d : Addr) (i n ep : Nat) : Prop := ∃ o, h.get? it = some o ∧ o.cls = .type "dict_keyiterator" ∧ o.data = .fields #[.ref d, .int i 0, .int n 0, .int ep 0]
theorem KeyIt.ty {s : Shared} {it d : Addr} {i n ep : Nat} (x : KeyIt s.heap it d i n ep) : s.TypeIs (.ref it) "dict_keyiterator" := by
  obtain ⟨o, h1, h2, _⟩ := x
  exact ⟨o, h1, h2⟩
theorem DictE.ty {s : Shared} {d : Addr} {es : Array DictEntry} {ep : Nat} (x : DictE s.heap d es ep) : s.TypeIs (.ref d) "dict" := by
  obtain ⟨o, h1, h2, _⟩ := x
  exact ⟨o, h1, h2.1⟩
section
variable {prog : Program} {w : World} {A : Around} {E : Value → Shared → Prop} {s : Shared} {d it : Addr} {es : Array DictEntry} {ep : Nat}
theorem iter_dict {Q : Value → Shared → Prop} (no : (d == sysModules) = false) (D : DictE s.heap d es ep) (q : Q (.ref s.heap.objs.size) { s with heap := s.heap.push { cls := .type "dict_keyiterator", data := .fields #[.ref d, .int 0 0, .int es.size 0, .int ep 0] } }) :
    wpAny (model prog w) A (pyIter (.ref d)) Q E s := by
  obtain ⟨o, ho, ex, hd⟩ := id D
  refine wpAny_pyIter_slot D.ty F.slot_dict_iter (wpAny_call_entry F.slot_dict_iter D.ty F.entry_dict_iter (?_ : _) (F.args_dict_iter_1 _))
  unfold Builtin.«dict.__iter__»
  refine wpAny_bind (?_ : _)
  unfold Builtin.Dict.dictSlotNone
  refine wpAny_bind (wpAny_notOrdered_dict D.ty (?_ : _))
  refine id (?_ : wpAny _ _ (pure (Value.ref d)) _ _ s)
  refine wpAny_pure (?_ : _)
  refine id (?_ : wpAny _ _ (Builtin.Dict.showsAll d >>= _) _ _ s)
  unfold Builtin.Dict.showsAll
  rw [if_neg (show ¬ ((d == sysModules) = true) by rw [no]; exact Bool.false_ne_true)]
  refine wpAny_bind (wpAny_pure (?_ : _))
  refine wpAny_bind (wpAny_dictEntries ho hd (?_ : _))
  refine wpAny_bind (wpAny_dictEpoch ho hd (?_ : _))
  refine wpAny_bind (wpAny_newObj_type (wpAny_pure ⟨_, rfl, "dict_keyiterator", _, ⟨_, Heap.get?_push_size _ rfl, rfl⟩, F.slot_dict_keyiterator_next.lookup, (?_ : _)⟩))
  simpa [rawInt] using q
theorem iter_self {i n : Nat} {Q : Value → Shared → Prop} (hit : KeyIt s.heap it d i n ep) (q : Q (.ref it) s) : wpAny (model prog w) A (pyIter (.ref it)) Q E s := by
  refine wpAny_pyIter_slot hit.ty F.slot_dict_keyiterator_iter (wpAny_call_entry F.slot_dict_keyiterator_iter hit.ty F.entry_dict_keyiterator_iter (?_ : _) (F.args_dict_keyiterator_iter_1 _))
  refine id (?_ : wpAny _ _ (ret (.ref it)) _ _ s)
  exact wpAny_pure ⟨_, rfl, "dict_keyiterator", _, hit.ty, F.slot_dict_keyiterator_next.lookup, q⟩
theorem next_key {i : Nat} {Q : Option Value → Shared → Prop} (hit : KeyIt s.heap it d i es.size ep) (D : DictE s.heap d es ep) (lt : i < es.size)
    (q : ∀ h', KeyIt h' it d (i + 1) es.size ep → Heap.SameBut it s.heap h' → Q (some es[i].key) { s with heap := h' }) : wpAny (model prog w) A (pyNext (.ref it)) Q E s := by
  obtain ⟨o, ho, hc, hd⟩ := id hit
  obtain ⟨od, hod, ex, hdd⟩ := id D
  unfold pyNext
  refine wpAny_bind (wpAny_attempt (wpAny_callSpecial?_slot (name := Str.ofString "__next__") hit.ty F.slot_dict_keyiterator_next
    (wpAny_call_entry F.slot_dict_keyiterator_next hit.ty F.entry_dict_keyiterator_next (?_ : _) (F.args_dict_keyiterator_next_1 _))))
  refine wpAny_bind (wpAny_pure (?_ : _))
  refine wpAny_bind (?_ : _)
  refine wpAny_bind (?_ : _)
  first
    | refine wpAny_bind (wpAny_typeNameOfWhole_keyiter hit.ty (wpAny_pure (?_ : _)))
    | refine wpAny_bind (wpAny_typeNameOf_keyiter hit.ty (wpAny_pure (?_ : _)))
  refine wpAny_bind (wpAny_fieldsOf ho hd (?_ : _))
  have own : Builtin.Dict_items.ownsTuple "dict_keyiterator" = false := by decide
  simp only [own, Bool.false_eq_true, if_false]
  refine id (?_ : wpAny _ _ (if (Value.ref d == Value.none) = true then _ else _) _ _ s)
  rw [if_neg (by exact Bool.false_ne_true)]
  refine wpAny_bind (wpAny_pure (?_ : _))
  refine wpAny_bind (wpAny_dictEntries hod hdd (?_ : _))
  rw [if_neg (show ¬ _ by simp)]
  refine wpAny_bind (wpAny_pure (?_ : _))
  refine wpAny_bind (wpAny_dictEpoch hod hdd (?_ : _))
  rw [if_neg (show ¬ _ by simp)]
  refine wpAny_pure (?_ : _)
  simp only [show ¬ ((i : Int) < 0) from by omega, if_false, Int.toNat_natCast, Array.getElem?_eq_getElem lt]
  refine wpAny_bind (?_ : _)
  first
    | refine wpAny_bind (wpAny_typeNameOfWhole_keyiter hit.ty (wpAny_pure (?_ : _)))
    | refine wpAny_bind (wpAny_typeNameOf_keyiter hit.ty (wpAny_pure (?_ : _)))
  refine wpAny_bind (wpAny_isOneOf_keyiter hit.ty (?_ : _))
  refine id (?_ : wpAny _ _ (setField (.ref it) 1 (rawInt ((i : Int) + 1)) >>= _) _ _ s)
  refine wpAny_bind (wpAny_setField ho hd (by simp) (?_ : _))
  have hit2 : KeyIt (s.heap.update it (Obj.mapFields (·.setIfInBounds 1 (rawInt ((i : Int) + 1))))) it d (i + 1) es.size ep :=
    ⟨_, Heap.get?_update_self _ ho (Obj.isFreed_of_fields (Obj.data_mapFields hd _)), (Obj.cls_mapFields ..).trans hc, by
      rw [Obj.data_mapFields hd]
      simp [rawInt]⟩
  refine wpAny_bind (wpAny_holding (?_ : _))
  refine wpAny_bind (wpAny_isOneOf_keyiter (s := { s with heap := s.heap.update it (Obj.mapFields (·.setIfInBounds 1 (rawInt ((i : Int) + 1)))) }) hit2.ty (?_ : _))
  refine id (?_ : wpAny _ _ (pure es[i].key) _ _ _)
  exact wpAny_pure (wpAny_pure ⟨_, rfl, wpAny_pure (q _ hit2 (Heap.SameBut.update ..))⟩)
theorem next_none {i : Nat} {Q : Option Value → Shared → Prop} (hh : A.handled = none) (hit : KeyIt s.heap it d i es.size ep) (D : DictE s.heap d es ep) (ge : es.size ≤ i)
    (q : ∀ h', Heap.ExtBut it s.heap h' → Q none { s with heap := h' }) : wpAny (model prog w) A (pyNext (.ref it)) Q E s := by
  obtain ⟨o, ho, hc, hd⟩ := id hit
  obtain ⟨od, hod, ex, hdd⟩ := id D
  unfold pyNext
  refine wpAny_bind (wpAny_attempt (wpAny_callSpecial?_slot (name := Str.ofString "__next__") hit.ty F.slot_dict_keyiterator_next
    (wpAny_call_entry F.slot_dict_keyiterator_next hit.ty F.entry_dict_keyiterator_next (?_ : _) (F.args_dict_keyiterator_next_1 _))))
  refine wpAny_bind (wpAny_pure (?_ : _))
  refine wpAny_bind (?_ : _)
  refine wpAny_bind (?_ : _)
  first
    | refine wpAny_bind (wpAny_typeNameOfWhole_keyiter hit.ty (wpAny_pure (?_ : _)))
    | refine wpAny_bind (wpAny_typeNameOf_keyiter hit.ty (wpAny_pure (?_ : _)))
  refine wpAny_bind (wpAny_fieldsOf ho hd (?_ : _))
  have own : Builtin.Dict_items.ownsTuple "dict_keyiterator" = false := by decide
  simp only [own, Bool.false_eq_true, if_false]
  refine id (?_ : wpAny _ _ (if (Value.ref d == Value.none) = true then _ else _) _ _ s)
  rw [if_neg (by exact Bool.false_ne_true)]
  refine wpAny_bind (wpAny_pure (?_ : _))
  refine wpAny_bind (wpAny_dictEntries hod hdd (?_ : _))
  rw [if_neg (show ¬ _ by simp)]
  refine wpAny_bind (wpAny_pure (?_ : _))
  refine wpAny_bind (wpAny_dictEpoch hod hdd (?_ : _))
  rw [if_neg (show ¬ _ by simp)]
  refine wpAny_pure (?_ : _)
  simp only [show ¬ ((i : Int) < 0) from by omega, if_false, Int.toNat_natCast, Array.getElem?_eq_none ge]
  refine wpAny_bind (?_ : _)
  first
    | refine wpAny_bind (wpAny_typeNameOfWhole_keyiter hit.ty (wpAny_pure (?_ : _)))
    | refine wpAny_bind (wpAny_typeNameOf_keyiter hit.ty (wpAny_pure (?_ : _)))
  refine id (?_ : wpAny _ _ (setField (.ref it) 0 .none >>= _) _ _ s)
  refine wpAny_bind (wpAny_setField ho hd (by simp) (?_ : _))
  refine wpAny_bind (m := newExc (.type "StopIteration") []) (?_ : _)
  simp only [newExc, newTuple]
  refine wpAny_bind (wpAny_newObj_type (?_ : _) (by size_fits))
  refine wpAny_bind (m := firstArgMember _ _) (wpAny_of_eq (a := Value.none) (by
    first
    | rfl
    | (simp only [firstArgMember]; rfl)) (?_ : _))
  refine wpAny_newObj_type (?_ : _) (by size_fits)
  simp only [raiseNew]
  refine wpAny_bind (wpAny_handled (?_ : _))
  rw [show A.in1.handled = none from hh]
  refine wpAny_bind (wpAny_pure (wpAny_throw (?_ : _)))
  refine wpAny_bind (wpAny_isInstance (T := "StopIteration") (b := true) ⟨_, Heap.get?_push_size _ rfl, rfl⟩ isSubtype_stop (?_ : _))
  exact wpAny_pure (q _ (((Heap.SameBut.update ..).extBut.push _).push _))
theorem DictE.at {h h' : Heap} (D : DictE h d es ep) (k : ∀ o, h.get? d = some o → h'.get? d = some o) : DictE h' d es ep := by
  obtain ⟨o, ho, r⟩ := D
  exact ⟨o, k o ho, r⟩
theorem walk_keys (hh : A.handled = none) (I d : Addr) (ne : d ≠ I) (es : Array DictEntry) (ep : Nat) :
    Walks prog w A I [I, d] [I] es.size (fun i v => ∃ e, es[i]? = some e ∧ v = e.key) (fun i h => KeyIt h I d i es.size ep ∧ DictE h d es ep) where
  sub := fun b hb => by
    simp at hb
    simp [hb]
  frame := fun i h h' st hk => by
    obtain ⟨⟨o, ho, r⟩, D⟩ := st
    exact ⟨⟨o, hk I (by simp) o ho, r⟩, D.at fun o e => hk d (by simp) o e⟩
  item := fun i s Q E hi st hQ => by
    refine next_key st.1 st.2 hi fun h' hit' sb => ?_
    exact hQ _ h' s.toks ⟨_, Array.getElem?_eq_getElem hi, rfl⟩ ⟨hit', st.2.at fun o e => by rw [sb.2 d ne]; exact e⟩ fun b o hb e => by rw [sb.2 b (fun z => hb (by simp [z]))]; exact e
  done := fun s Q E st hQ => next_none hh st.1 st.2 (Nat.le_refl _) fun h' eb => hQ h' s.toks fun b o hb e => eb b o (fun z => hb (by simp [z])) e
  self := fun i s Q E st hQ => iter_self st.1 hQ
theorem src_keys (no : (d == sysModules) = false) : KdlSrc prog w "dict" d d es.size (fun i v => ∃ e, es[i]? = some e ∧ v = e.key) (fun h => DictE h d es ep) where
  type := fun s D => D.ty
  there := fun h D => by
    obtain ⟨o, ho, _⟩ := D
    exact ⟨Heap.lt_size ho, Heap.lt_size ho⟩
  keep := fun h h' D hk => D.at fun o e => hk d (.inl rfl) o e
  notList := by decide
  notTuple := by decide
  hint := fun A E s Q D q => kdl_hint_dict D.ty q
  iter := fun A s hh D => by
    refine ⟨_, _, fun E Q q => iter_dict no D q, walk_keys hh _ d ?_ es ep, ⟨⟨_, Heap.get?_push_size _ rfl, rfl, rfl⟩, D.at fun o e => Heap.get?_push_of_some _ e⟩⟩
    obtain ⟨o, ho, _⟩ := D
    exact Nat.ne_of_lt (Heap.lt_size ho)
end
end DL

namespace L2
open PySem PySem.Spec PyProof.Rows
noncomputable def KeysAt (H : Hp) (kvs : List (List Key × V)) (bs : List Addr) : Prop := bs.length = kvs.length ∧ ∀ (i : Nat) (b : Addr) (p : List Key × V), bs[i]? = some b → kvs[i]? = some p → H b = some (.tup (p.1.map kV))
section
variable {X : Cx}
theorem call_listT (hc : X.calm = true) : CallR X (.type "list") (fun xs H Q => ∃ (a : Addr) (kvs : List (List Key × V)), xs = [.ref a] ∧ H a = some (.dT kvs) ∧ ∀ (bs : List Addr) (l : Addr), KeysAt H kvs bs → H l = none → Q (.ref l) (upd H l (.lst (bs.map V.ref)))) := by
  intro pins s σ H xs us Q I r h
  obtain ⟨a, kvs, rfl, ha, q⟩ := h
  obtain ⟨u, rfl, ru⟩ := vals1 r
  cases ru
  obtain ⟨z, no, ks, pr, o, es, ep, ho, ex, hd, hes, nd⟩ := (show ObjOk X.prog X.w H s.heap a (.dT kvs) from I.hok a _ ha)
  have kl : ks.length = kvs.length := pr.length.symm
  have el : es.size = ks.length := by
    rw [← Array.length_toList, hes, List.length_map]
  have pk : ∀ (i : Nat) (p : List Key × V) (k : List Key × Addr × Value), kvs[i]? = some p → ks[i]? = some k → H k.2.1 = some (.tup (p.1.map kV)) := by
    clear hes nd el kl z ha q
    induction pr with
    | nil => exact fun i p k h => (nomatch h)
    | cons h _ ih =>
      intro i p k h1 h2
      cases i with
      | zero =>
        cases h1
        cases h2
        exact h.2.1
      | succ i => exact ih i p k h1 h2
  refine PySem.W.kdl_call (DL.src_keys (es := es) (ep := ep) no) (I.ok.hd hc) ⟨o, ho, ex, hd⟩ (by omega) fun h' tk acc c kp hS its => ?_
  obtain ⟨z1, z2⟩ := its
  have ea : acc.toList = (ks.map fun k => k.2.1).map Value.ref := by
    refine List.ext_getElem? fun j => ?_
    rw [List.map_map, List.getElem?_map, Array.getElem?_toList]
    cases e : acc[j]? with
    | none =>
      have := Array.getElem?_eq_none_iff.mp e
      rw [List.getElem?_eq_none (by omega)]
      rfl
    | some v =>
      obtain ⟨en, e1, e2⟩ := z2 j v e
      rw [← Array.getElem?_toList, hes, List.getElem?_map] at e1
      cases e3 : ks[j]? with
      | none =>
        rw [e3] at e1
        cases e1
      | some k =>
        rw [e3] at e1
        cases e1
        rw [e2]
        rfl
  have rv : ∀ l : List Addr, Vals (l.map V.ref) (l.map Value.ref) := fun l => by
    induction l with
    | nil => exact .nil
    | cons b r ih => exact .cons rfl ih
  refine ⟨.ref s.heap.objs.size, _, I.laid (t' := tk) kp (Nat.le_refl _) (o := .lst ((ks.map fun k => k.2.1).map V.ref)) ⟨by rw [List.length_map, List.length_map]; omega, acc.toList, c, by rw [ea]; exact rv _, by simpa using hS⟩, rfl, q _ _ ⟨by rw [List.length_map]; exact kl, fun i b p h1 h2 => ?_⟩ (I.hok.fresh (Nat.le_refl _))⟩
  rw [List.getElem?_map] at h1
  cases e3 : ks[i]? with
  | none =>
    rw [e3] at h1
    cases h1
  | some k =>
    rw [e3] at h1
    cases h1
    exact pk i p k h2 e3
end
end L2

namespace L2
open PySem PySem.Spec PyProof.Rows
section
variable {X : Cx}
theorem call_range1 : CallR X (.type "range") (fun xs H Q => ∃ j : Int, xs = [.int j] ∧ ∀ p, H p = none → Q (.ref p) (upd H p (.rng 0 j))) := by
  intro pins s σ H xs us Q I r h
  obtain ⟨j, rfl, q⟩ := h
  obtain ⟨u, rfl, ru⟩ := vals1 r
  obtain ⟨t, rfl⟩ := ru
  refine call_range_1 (?_ : _)
  exact ⟨.ref s.heap.objs.size, _, I.laid (o := .rng 0 j) (fun b o e => Heap.get?_push_of_some _ e) (Nat.le_refl _) ⟨_, _, _, Heap.get?_push_size _ rfl⟩, rfl, q _ (I.hok.fresh (Nat.le_refl _))⟩
theorem call_listR (hc : X.calm = true) : CallR X (.type "list") (fun xs H Q => ∃ (a : Addr) (j : Int), xs = [.ref a] ∧ H a = some (.rng 0 j) ∧ 0 ≤ j ∧ j ≤ 1000 ∧ ∀ l, H l = none → Q (.ref l) (upd H l (.lst (((List.range j.toNat).map fun i : Nat => (i : Int)).map V.int)))) := by
  intro pins s σ H xs us Q I r h
  obtain ⟨a, j, rfl, ha, j0, j1, q⟩ := h
  obtain ⟨u, rfl, ru⟩ := vals1 r
  cases ru
  obtain ⟨t, u, v, e⟩ := I.hok a _ ha
  refine call_list_range (n := j.toNat) (I.ok.hd hc) e (small_one (by decide) (by decide) (by omega) (by omega)) (by rw [rangeSize_one]; split <;> omega) (by omega) fun h' tk acc c kp hS its => ?_
  obtain ⟨z1, z2⟩ := its
  have rv : Vals (((List.range j.toNat).map fun i : Nat => (i : Int)).map V.int) acc.toList := by
    have go : ∀ (l : List Value) (k : Nat), (∀ (i : Nat) (v : Value), l[i]? = some v → ∃ t : Tok, v = Value.int ((k + i : Nat) : Int) t) → Vals (((List.range' k l.length).map fun i : Nat => (i : Int)).map V.int) l := fun l => by
      induction l with
      | nil => exact fun k _ => .nil
      | cons x l ih =>
        intro k h
        obtain ⟨t, e⟩ := h 0 x rfl
        refine .cons ⟨t, by simpa using e⟩ (ih (k + 1) fun i v hv => ?_)
        obtain ⟨t, e⟩ := h (i + 1) v hv
        exact ⟨t, by rw [e, Nat.add_assoc, Nat.add_comm 1 i]⟩
    have := go acc.toList 0 fun i v hv => by
      obtain ⟨t, e⟩ := z2 i v (by simpa using hv)
      exact ⟨t, by rw [e]; simp⟩
    rw [List.range_eq_range']
    simpa [z1] using this
  exact ⟨.ref s.heap.objs.size, _, I.laid (t' := tk) kp (Nat.le_refl _) (o := .lst _) ⟨by rw [List.length_map, List.length_map, List.length_range]; exact Nat.le_trans (show j.toNat ≤ 1000 by omega) (by decide), acc.toList, c, rv, by simpa using hS⟩, rfl, q _ (I.hok.fresh (Nat.le_refl _))⟩
end
end L2

namespace Gr
inductive R (E : Nat → Nat → Prop) (p : Nat) : Nat → Nat → Prop
  | zero : R E p 0 p
  | step {d x y : Nat} : R E p d x → E x y → R E p (d + 1) y
noncomputable def IsD (E : Nat → Nat → Prop) (p x d : Nat) : Prop := R E p d x ∧ ∀ e, e < d → ¬ R E p e x
section
variable {E : Nat → Nat → Prop} {p : Nat}
theorem IsD.eq {x d e : Nat} (h : IsD E p x d) (g : IsD E p x e) : d = e := by
  rcases Nat.lt_trichotomy d e with l | l | l
  · exact absurd h.1 (g.2 d l)
  · exact l
  · exact absurd g.1 (h.2 e l)
open Classical in
noncomputable def dst (E : Nat → Nat → Prop) (p x : Nat) : Nat := if h : ∃ d, IsD E p x d then Classical.choose h else 0
theorem dst_of {x d : Nat} (h : IsD E p x d) : dst E p x = d := by
  have h' : ∃ d, IsD E p x d := ⟨d, h⟩
  unfold dst
  rw [dif_pos h']
  exact (Classical.choose_spec h').eq h
theorem R.trans {q : Nat} {d e x : Nat} (h : R E p d q) (g : R E q e x) : R E p (d + e) x := by
  induction g with
  | zero => exact h
  | step _ s ih => exact ih.step s
theorem R.head {q d x : Nat} (h : E p q) (g : R E q d x) : R E p (1 + d) x := R.trans (R.step .zero h) g
theorem R.symm (sy : ∀ x y, E x y → E y x) {d x : Nat} (h : R E p d x) : R E x d p := by
  induction h with
  | zero => exact .zero
  | step _ s ih =>
    have := R.head (sy _ _ s) ih
    rwa [Nat.add_comm] at this
structure Bfs (E : Nat → Nat → Prop) (p r : Nat) (f : Nat → Option Nat) (edge : List Nat) : Prop where
  sound : ∀ x d, f x = some d → IsD E p x d
  upto : ∀ x d, d ≤ r → R E p d x → ∃ e, f x = some e
  low : ∀ x d, f x = some d → d ≤ r
  edge : ∀ x, x ∈ edge ↔ f x = some r
structure BfsIn (E : Nat → Nat → Prop) (r : Nat) (f : Nat → Option Nat) (edge : List Nat) (g : Nat → Option Nat) (reached : List Nat) : Prop where
  ext : ∀ x d, f x = some d → g x = some d
  new : ∀ x d, g x = some d → f x = some d ∨ (f x = none ∧ d = r + 1 ∧ ∃ h, h ∈ edge ∧ E h x)
  got : ∀ x, x ∈ reached ↔ (f x = none ∧ g x = some (r + 1))
theorem Bfs.start : Bfs E p 0 (fun x => if x = p then some 0 else none) [p] := by
  refine ⟨fun x d h => ?_, fun x d l h => ?_, fun x d h => ?_, fun x => ?_⟩
  · by_cases c : x = p
    · rw [if_pos c] at h
      cases h
      rw [c]
      exact ⟨.zero, fun e he => absurd he (Nat.not_lt_zero e)⟩
    · rw [if_neg c] at h
      cases h
  · obtain rfl : d = 0 := by omega
    cases h
    exact ⟨0, if_pos rfl⟩
  · by_cases c : x = p
    · rw [if_pos c] at h
      cases h
      exact Nat.le_refl _
    · rw [if_neg c] at h
      cases h
  · rw [List.mem_singleton]
    constructor
    · intro e
      exact if_pos e
    · intro h
      by_cases c : x = p
      · exact c
      · rw [if_neg c] at h
        cases h
theorem BfsIn.start {r : Nat} {f : Nat → Option Nat} {edge : List Nat} : BfsIn E r f edge f [] := by
  refine ⟨fun x d h => h, fun x d h => .inl h, fun x => ?_⟩
  constructor
  · intro h
    cases h
  · rintro ⟨h1, h2⟩
    rw [h1] at h2
    cases h2
theorem BfsIn.put {r : Nat} {f g : Nat → Option Nat} {edge reached : List Nat} {h y : Nat} (B : BfsIn E r f edge g reached) (he : h ∈ edge) (hy : E h y) (n : g y = none) : BfsIn E r f edge (fun x => if x = y then some (r + 1) else g x) (reached ++ [y]) := by
  have fy : f y = none := by
    cases e : f y with
    | none => rfl
    | some d =>
      rw [B.ext y d e] at n
      cases n
  refine ⟨fun x d e => ?_, fun x d e => ?_, fun x => ?_⟩
  · by_cases c : x = y
    · rw [c, fy] at e
      cases e
    · show (if x = y then _ else _) = _
      rw [if_neg c]
      exact B.ext x d e
  · by_cases c : x = y
    · rw [if_pos c] at e
      cases e
      rw [c]
      exact .inr ⟨fy, rfl, h, he, hy⟩
    · rw [if_neg c] at e
      exact B.new x d e
  · rw [List.mem_append, List.mem_singleton, B.got x]
    constructor
    · rintro (⟨h1, h2⟩ | rfl)
      · refine ⟨h1, ?_⟩
        by_cases c : x = y
        · exact if_pos c
        · show (if x = y then _ else _) = _
          rw [if_neg c]
          exact h2
      · exact ⟨fy, if_pos rfl⟩
    · rintro ⟨h1, h2⟩
      by_cases c : x = y
      · exact .inr c
      · rw [if_neg c] at h2
        exact .inl ⟨h1, h2⟩
theorem BfsIn.none {r : Nat} {f g : Nat → Option Nat} {edge reached : List Nat} (B : BfsIn E r f edge g reached) {x : Nat} (h : g x = .none) : f x = .none := by
  cases e : f x with
  | none => rfl
  | some d =>
    rw [B.ext x d e] at h
    cases h
theorem BfsIn.at {r : Nat} {f g : Nat → Option Nat} {edge reached : List Nat} (B : BfsIn E r f edge g reached) (A : Bfs E p r f edge) {h : Nat} (he : h ∈ edge) : g h = some r := B.ext h r ((A.edge h).mp he)
theorem Bfs.next {r : Nat} {f g : Nat → Option Nat} {edge reached : List Nat} (A : Bfs E p r f edge) (B : BfsIn E r f edge g reached) (all : ∀ h, h ∈ edge → ∀ x, E h x → g x ≠ none) : Bfs E p (r + 1) g reached := by
  refine ⟨fun x d e => ?_, fun x d l h => ?_, fun x d e => ?_, fun x => ?_⟩
  · rcases B.new x d e with h | ⟨h1, rfl, h, he, hx⟩
    · exact A.sound x d h
    · have rh := (A.sound h r ((A.edge h).mp he)).1
      refine ⟨rh.step hx, fun e he hr => ?_⟩
      obtain ⟨d, hd⟩ := A.upto x e (by omega) hr
      rw [h1] at hd
      cases hd
  · by_cases c : d ≤ r
    · obtain ⟨e, he⟩ := A.upto x d c h
      exact ⟨e, B.ext x e he⟩
    · obtain rfl : d = r + 1 := by omega
      cases h with
      | @step _ y _ hy hyx =>
        obtain ⟨e, he⟩ := A.upto y r (Nat.le_refl _) hy
        have el := A.low y e he
        by_cases ce : e = r
        · have := all y ((A.edge y).mpr (ce ▸ he)) x hyx
          cases e' : g x with
          | none => exact absurd e' this
          | some d => exact ⟨d, rfl⟩
        · obtain ⟨e', he'⟩ := A.upto x (e + 1) (by omega) ((A.sound y e he).1.step hyx)
          exact ⟨e', B.ext x e' he'⟩
  · rcases B.new x d e with h | ⟨_, rfl, _⟩
    · have := A.low x d h
      omega
    · exact Nat.le_refl _
  · rw [B.got x]
    constructor
    · exact fun h => h.2
    · intro h
      refine ⟨?_, h⟩
      rcases B.new x (r + 1) h with h' | ⟨h', _⟩
      · have := A.low x _ h'
        omega
      · exact h'
theorem Bfs.done {r : Nat} {f : Nat → Option Nat} (A : Bfs E p r f []) : ∀ {d x : Nat}, R E p d x → ∃ e, f x = some e := by
  intro d x h
  induction h with
  | zero => exact A.upto p 0 (Nat.zero_le _) .zero
  | @step d x y _ hxy ih =>
    obtain ⟨e, he⟩ := ih
    have el := A.low x e he
    have ne : e ≠ r := fun c => by
      have := (A.edge x).mpr (c ▸ he)
      cases this
    exact A.upto y (e + 1) (by omega) ((A.sound x e he).1.step hxy)
theorem Bfs.val {r : Nat} {f : Nat → Option Nat} (A : Bfs E p r f []) {x d : Nat} (h : R E p d x) : f x = some (dst E p x) := by
  obtain ⟨e, he⟩ := A.done h
  rw [he, dst_of (A.sound x e he)]
end
noncomputable def cnt (f : Nat → Option Nat) : Nat → Nat
  | 0 => 0
  | m + 1 => cnt f m + (if f m = none then 1 else 0)
theorem cnt_le {f g : Nat → Option Nat} (h : ∀ x, g x = none → f x = none) : ∀ m, cnt g m ≤ cnt f m
  | 0 => Nat.le_refl _
  | m + 1 => by
    have := cnt_le h m
    unfold cnt
    by_cases c : g m = none
    · rw [if_pos c, if_pos (h m c)]
      omega
    · rw [if_neg c]
      omega
theorem cnt_lt {f g : Nat → Option Nat} (h : ∀ x, g x = none → f x = none) {y : Nat} (fy : f y = none) (gy : g y ≠ none) : ∀ m, y < m → cnt g m < cnt f m
  | 0, l => absurd l (Nat.not_lt_zero _)
  | m + 1, l => by
    unfold cnt
    by_cases c : y = m
    · have := cnt_le h m
      rw [← c, if_neg gy, if_pos fy, c]
      omega
    · have := cnt_lt h fy gy m (by omega)
      by_cases c : g m = none
      · rw [if_pos c, if_pos (h m c)]
        omega
      · rw [if_neg c]
        omega
noncomputable def Adj (es : List (Nat × Nat)) (x y : Nat) : Prop := (x, y) ∈ es ∨ (y, x) ∈ es
theorem adj_symm {es : List (Nat × Nat)} (x y : Nat) (h : Adj es x y) : Adj es y x := h.elim .inr .inl
noncomputable def Conn (m : Nat) (es : List (Nat × Nat)) : Prop := ∀ p, p < m → ∀ x, x < m → ∃ d, R (Adj es) p d x
theorem conn_of {m : Nat} {es : List (Nat × Nat)} (h : ∀ k, 0 < k → k < m → ∃ p, p < k ∧ (p, k) ∈ es) : Conn m es := by
  have z : ∀ n x, x < n → x < m → ∃ d, R (Adj es) x d 0 := by
    intro n
    induction n with
    | zero => exact fun x h _ => absurd h (Nat.not_lt_zero _)
    | succ n ih =>
      intro x hx hm
      by_cases c : x = 0
      · rw [c]
        exact ⟨0, .zero⟩
      · obtain ⟨q, hq, he⟩ := h x (by omega) hm
        obtain ⟨d, hd⟩ := ih q (by omega) (by omega)
        exact ⟨1 + d, R.head (.inr he) hd⟩
  intro p hp x hx
  obtain ⟨d, hd⟩ := z (p + 1) p (by omega) hp
  obtain ⟨e, he⟩ := z (x + 1) x (by omega) hx
  exact ⟨d + e, hd.trans (he.symm adj_symm)⟩
theorem conn_map {m : Nat} {es fs : List (Nat × Nat)} {nm : Nat → Nat} (h : Conn m es) (onto : ∀ x, x < m → ∃ a, a < m ∧ nm a = x) (e : ∀ a b, (a, b) ∈ es → Adj fs (nm a) (nm b)) : Conn m fs := by
  intro p hp x hx
  obtain ⟨a, ha, rfl⟩ := onto p hp
  obtain ⟨b, hb, rfl⟩ := onto x hx
  obtain ⟨d, hd⟩ := h a ha b hb
  have go : ∀ {d b : Nat}, R (Adj es) a d b → R (Adj fs) (nm a) d (nm b) := by
    intro d b hd
    induction hd with
    | zero => exact .zero
    | step _ s ih =>
      refine R.step ih ?_
      rcases s with s | s
      · exact e _ _ s
      · exact adj_symm _ _ (e _ _ s)
  exact ⟨d, go hd⟩
end Gr

namespace Gr
theorem nodup_len : ∀ (m : Nat) (l : List Nat), l.Nodup → (∀ x ∈ l, x < m) → l.length ≤ m
  | 0, [], _, _ => Nat.le_refl _
  | 0, x :: _, _, h => absurd (h x (List.mem_cons_self ..)) (Nat.not_lt_zero _)
  | m + 1, l, nd, h => by
    have h1 : (l.erase m).length ≤ m := nodup_len m (l.erase m) (nd.sublist (List.erase_sublist ..)) fun x hx => by
      have := (nd.mem_erase_iff.mp hx)
      have := h x this.2
      omega
    have h2 : l.length ≤ (l.erase m).length + 1 := by
      rw [List.length_erase]
      split <;> omega
    omega
noncomputable def nb (x : Nat) (e : Nat × Nat) : Option Nat := if e.1 = x then some e.2 else if e.2 = x then some e.1 else none
noncomputable def nbr (es : List (Nat × Nat)) (x : Nat) : List Nat := es.filterMap (nb x)
theorem nb_some {x y : Nat} {e : Nat × Nat} (h : nb x e = some y) : e = (x, y) ∨ e = (y, x) := by
  obtain ⟨a, b⟩ := e
  unfold nb at h
  by_cases c : a = x
  · rw [if_pos c] at h
    cases h
    rw [c]
    exact .inl rfl
  · rw [if_neg c] at h
    by_cases c2 : b = x
    · rw [if_pos c2] at h
      cases h
      rw [c2]
      exact .inr rfl
    · rw [if_neg c2] at h
      cases h
theorem mem_nbr {es : List (Nat × Nat)} {x y : Nat} : y ∈ nbr es x ↔ Adj es x y := by
  unfold nbr
  rw [List.mem_filterMap]
  constructor
  · rintro ⟨e, he, h⟩
    rcases nb_some h with rfl | rfl
    · exact .inl he
    · exact .inr he
  · rintro (h | h)
    · exact ⟨_, h, if_pos rfl⟩
    · refine ⟨_, h, ?_⟩
      show (if y = x then some x else if x = x then some y else none) = some y
      by_cases c : y = x
      · rw [if_pos c, c]
      · rw [if_neg c, if_pos rfl]
theorem nbr_app {es fs : List (Nat × Nat)} {x : Nat} : nbr (es ++ fs) x = nbr es x ++ nbr fs x := List.filterMap_append ..
structure Good (m : Nat) (es : List (Nat × Nat)) : Prop where
  lt : ∀ e ∈ es, e.1 < e.2 ∧ e.2 < m
  nd : es.Nodup
theorem Good.adj {m : Nat} {es : List (Nat × Nat)} (g : Good m es) {x y : Nat} (h : Adj es x y) : x < m ∧ y < m := by
  rcases h with h | h
  · have : x < y ∧ y < m := g.lt _ h
    omega
  · have : y < x ∧ x < m := g.lt _ h
    omega
theorem Good.nbr_nodup {m : Nat} {es : List (Nat × Nat)} (g : Good m es) (x : Nat) : (nbr es x).Nodup := by
  unfold nbr List.Nodup
  rw [List.pairwise_filterMap]
  refine List.Pairwise.imp_of_mem ?_ g.nd
  intro a b ha hb ne y hy z hz e
  subst e
  rcases nb_some hy with rfl | rfl <;> rcases nb_some hz with rfl | rfl
  · exact ne rfl
  · have h1 : x < y ∧ y < m := g.lt _ ha
    have h2 : y < x ∧ x < m := g.lt _ hb
    omega
  · have h1 : y < x ∧ x < m := g.lt _ ha
    have h2 : x < y ∧ y < m := g.lt _ hb
    omega
  · exact ne rfl
theorem Good.nbr_len {m : Nat} {es : List (Nat × Nat)} (g : Good m es) (x : Nat) : (nbr es x).length ≤ m := nodup_len m _ (g.nbr_nodup x) fun y hy => (g.adj (mem_nbr.mp hy)).2
theorem Good.perm {m : Nat} {es fs : List (Nat × Nat)} (p : fs.Perm es) (g : Good m es) : Good m fs := ⟨fun e h => g.lt e (p.mem_iff.mp h), p.nodup_iff.mpr g.nd⟩
theorem conn_perm {m : Nat} {es fs : List (Nat × Nat)} (p : fs.Perm es) (h : Conn m es) : Conn m fs := conn_map (nm := id) h (fun x hx => ⟨x, hx, rfl⟩) fun a b h => .inl (p.mem_iff.mpr h)
noncomputable def nmd (ms : List Nat) (e : Nat × Nat) : Nat × Nat := (min (ms.getD e.1 0) (ms.getD e.2 0), max (ms.getD e.1 0) (ms.getD e.2 0))
theorem getD_inj {ms : List Nat} (nd : ms.Nodup) {a b : Nat} (ha : a < ms.length) (hb : b < ms.length) (e : ms.getD a 0 = ms.getD b 0) : a = b := by
  rw [List.getD_eq_getElem?_getD, List.getD_eq_getElem?_getD, List.getElem?_eq_getElem ha, List.getElem?_eq_getElem hb] at e
  have e' : ms[a] = ms[b] := e
  rcases Nat.lt_trichotomy a b with l | l | l
  · exact absurd e' (List.pairwise_iff_getElem.mp nd a b ha hb l)
  · exact l
  · exact absurd e'.symm (List.pairwise_iff_getElem.mp nd b a hb ha l)
theorem named_good {m : Nat} {ps : List (Nat × Nat)} {ms : List Nat} (pm : ms.Perm (List.range m)) (g : Good m ps) : Good m (ps.map (nmd ms)) := by
  have nd : ms.Nodup := pm.nodup_iff.mpr List.nodup_range
  have ln : ms.length = m := by rw [pm.length_eq, List.length_range]
  have lt : ∀ a, a < m → ms.getD a 0 < m := fun a ha => by
    have h : a < ms.length := by omega
    rw [List.getD_eq_getElem?_getD, List.getElem?_eq_getElem h]
    exact List.mem_range.mp (pm.mem_iff.mp (List.getElem_mem h))
  refine ⟨fun e he => ?_, ?_⟩
  · obtain ⟨⟨a, b⟩, hp, rfl⟩ := List.mem_map.mp he
    have h : a < b ∧ b < m := g.lt _ hp
    have h1 := lt a (by omega)
    have h2 := lt b (by omega)
    have ne : ms.getD a 0 ≠ ms.getD b 0 := fun e => by
      have := getD_inj nd (by omega) (by omega) e
      omega
    show min (ms.getD a 0) (ms.getD b 0) < max (ms.getD a 0) (ms.getD b 0) ∧ max (ms.getD a 0) (ms.getD b 0) < m
    omega
  · refine List.Pairwise.map _ ?_ (List.Pairwise.imp_of_mem (S := fun x y => x ≠ y ∧ (x.1 < x.2 ∧ x.2 < m) ∧ (y.1 < y.2 ∧ y.2 < m)) (fun {a b} ha hb h => ⟨h, g.lt _ ha, g.lt _ hb⟩) g.nd)
    rintro ⟨a, b⟩ ⟨c, d⟩ ⟨ne, h1, h2⟩ e
    have h1 : a < b ∧ b < m := h1
    have h2 : c < d ∧ d < m := h2
    have e1 : min (ms.getD a 0) (ms.getD b 0) = min (ms.getD c 0) (ms.getD d 0) := congrArg Prod.fst e
    have e2 : max (ms.getD a 0) (ms.getD b 0) = max (ms.getD c 0) (ms.getD d 0) := congrArg Prod.snd e
    have e3 : (ms.getD a 0 = ms.getD c 0 ∧ ms.getD b 0 = ms.getD d 0) ∨ (ms.getD a 0 = ms.getD d 0 ∧ ms.getD b 0 = ms.getD c 0) := by omega
    rcases e3 with ⟨p, q⟩ | ⟨p, q⟩
    · have r1 := getD_inj nd (by omega) (by omega) p
      have r2 := getD_inj nd (by omega) (by omega) q
      subst r1
      subst r2
      exact ne rfl
    · have r1 := getD_inj nd (by omega) (by omega) p
      have r2 := getD_inj nd (by omega) (by omega) q
      omega
theorem named_conn {m : Nat} {ps : List (Nat × Nat)} {ms : List Nat} (pm : ms.Perm (List.range m)) (h : Conn m ps) : Conn m (ps.map (nmd ms)) := by
  refine conn_map (nm := fun a => ms.getD a 0) h (fun x hx => ?_) fun a b he => ?_
  · obtain ⟨i, hi⟩ := List.getElem?_of_mem (pm.mem_iff.mpr (List.mem_range.mpr hx))
    have li := (List.getElem?_eq_some_iff.mp hi).1
    rw [pm.length_eq, List.length_range] at li
    refine ⟨i, li, ?_⟩
    show ms.getD i 0 = x
    rw [List.getD_eq_getElem?_getD, hi]
    rfl
  · have hm : nmd ms (a, b) ∈ ps.map (nmd ms) := List.mem_map.mpr ⟨_, he, rfl⟩
    show Adj _ (ms.getD a 0) (ms.getD b 0)
    have e : nmd ms (a, b) = (min (ms.getD a 0) (ms.getD b 0), max (ms.getD a 0) (ms.getD b 0)) := rfl
    rw [e] at hm
    rcases Nat.le_total (ms.getD a 0) (ms.getD b 0) with l | l
    · rw [Nat.min_eq_left l, Nat.max_eq_right l] at hm
      exact .inl hm
    · rw [Nat.min_eq_right l, Nat.max_eq_left l] at hm
      exact .inr hm
end Gr

namespace K42
open PySem L2 PySem.W
noncomputable def top (i : Nat) : Stmt := PySem.Challenge.pw_farhail_k42_strengths_told.main.body.getD i (.Pass ⟨0, 0, 0, 0⟩)
noncomputable abbrev sNbl : Stmt := top 5
noncomputable abbrev sFon : Stmt := top 6
noncomputable abbrev sRnp : Stmt := top 7
noncomputable abbrev sFfr : Stmt := top 8
noncomputable abbrev sNre : Stmt := top 9
noncomputable abbrev sThi : Stmt := top 11
noncomputable abbrev sAre : Stmt := top 12
noncomputable abbrev sRefuse : Stmt := top 13
noncomputable abbrev sTfa : Stmt := top 14
noncomputable abbrev sCod : Stmt := top 15
noncomputable abbrev sUnl : Stmt := top 17
noncomputable abbrev sStr : Stmt := top 18
noncomputable abbrev sMst : Stmt := top 19
noncomputable abbrev sCells : Stmt := top 21
noncomputable abbrev sPool : Stmt := top 22
noncomputable abbrev sTake : Stmt := top 23
noncomputable abbrev sSome : Stmt := top 24
noncomputable abbrev sNamed : Stmt := top 25
noncomputable abbrev sWeb : Stmt := top 26
noncomputable abbrev sNear : Stmt := top 27
noncomputable abbrev sSteps : Stmt := top 28
noncomputable abbrev sLThings : Stmt := top 29
noncomputable abbrev sLCode : Stmt := top 30
noncomputable abbrev sLCodes : Stmt := top 31
noncomputable abbrev sLUnl : Stmt := top 32
noncomputable abbrev sLeast : Stmt := top 33
noncomputable abbrev sWhole : Stmt := top 34
noncomputable abbrev sLooks : Stmt := top 35
noncomputable abbrev sLaw : Stmt := top 36
structure Txt (K : Frag) (mg : Str → Option Value) : Prop where
  len : mg "len" = none
  min : mg "min" = none
  max : mg "max" = none
  abs : mg "abs" = none
  int : mg "int" = none
  range : mg "range" = none
  tuple : mg "tuple" = none
  isi : mg "isinstance" = none
  list : mg "list" = none
  sorted : mg "sorted" = none
  enum : mg "enumerate" = none
  zip : mg "zip" = none
  all : mg "all" = none
  bool : mg "bool" = none
end K42

namespace K42
open PySem L2 PySem.W
noncomputable def StA (H : Hp) (a : Addr) : Prop := ∃ x y : Int, H a = some (.lst [.int x, .int y]) ∧ 0 ≤ y ∧ y < 2147483647
theorem st_ne {H : Hp} {a p : Addr} (s : StA H a) (h : H p = none) : p ≠ a := fun z => by
  obtain ⟨x, y, e, _⟩ := s
  rw [z, e] at h
  cases h
theorem st_new {H : Hp} {a p : Addr} {o : HO} (s : StA H a) (h : H p = none) : StA (upd H p o) a := by
  obtain ⟨x, y, e, r⟩ := s
  exact ⟨x, y, new_same h _ _ e, r⟩
theorem StA.mono {H H' : Hp} {a : Addr} (st : StA H a) (s : Same H H') : StA H' a := by
  obtain ⟨x, y, e, r⟩ := st
  exact ⟨x, y, s _ _ e, r⟩
theorem at_d {ls : List Int} {j : Nat} (h : j < ls.length) : atI (ls.map V.int) (j : Int) = some (.int (ls.getD j 0)) := atI_nat (by rw [List.getElem?_map, List.getElem?_eq_getElem h, List.getD_eq_getElem?_getD, List.getElem?_eq_getElem h]; rfl)
theorem if_split {t : TT} {a b : TS} {D : Ends} {σ : St} {H : Hp} (R : St → Hp → Prop) (hk : ∀ σ' H', R σ' H' → D.nx σ' H') (h : ∀ nx : St → Hp → Prop, (∀ σ' H', R σ' H' → nx σ' H') → tIfS t a b { D with nx := nx } σ H) : tIfS t a b D σ H := h D.nx hk
inductive spTakeI (vs : List V) (H : Hp) (Q : VK) : Prop
  | mk : ∀ (a : Addr) (m : Int), (vs = [.ref a, .int m]) → (0 < m) → (m < 1073741824) → (StA H a) → (∀ r H', 0 ≤ r → r < m → StA H' a → Mv a H H' → Q (.int r) H') → spTakeI vs H Q
noncomputable def spTake : Sp := fun vs H Q _E3 => spTakeI vs H Q
inductive spPoolI (K : Frag) (vs : List V) (H : Hp) (Q : VK) : Prop
  | mk : ∀ (p : Addr) (cs : List Int) (k : Nat), (vs = [.ref p, .int k]) → (SqL K H p (cs.map V.int)) → (cs.length ≤ 3) → (k ≤ 10) → (∀ u H', H u = none → Same H H' → StA H' u → Q (.ref u) H') → spPoolI K vs H Q
noncomputable def spPool (K : Frag) : Sp := fun vs H Q _E3 => spPoolI K vs H Q
inductive spCellsI (K : Frag) (vs : List V) (H : Hp) (Q : VK) : Prop
  | mk : ∀ (a : Addr) (ns : List Int), (vs = [.ref a, .int 3]) → (SqL K H a (ns.map V.int)) → (ns.length ≤ 63) → (∀ (cs : List Int) (p : Addr) H', Same H H' → H' p = some (.lst (cs.map V.int)) → cs.length ≤ 3 → Q (.ref p) H') → spCellsI K vs H Q
noncomputable def spCells (K : Frag) : Sp := fun vs H Q _E3 => spCellsI K vs H Q
section
variable {P : Program} {w : World} {K : Frag} {mg : Str → Option Value} {base : Heap}
theorem scTake : FnScope ["pool", "many", "found"] ["pool", "many"] (defScope sTake) := ⟨rfl, rfl, rfl, by decide +kernel, rfl, by decide +kernel, by decide +kernel⟩
theorem ok_take {f : Addr} {fd : FuncData} (F : Fun K "_law_take" "_law_take" sTake f fd) : FnOk P w K mg base CX0 1 f fd ["pool", "many"] spTake := by
  refine F.ok scTake (fun vs H Q E h => ?_) (fun cdv A outer s H vs Q E hr h => ?_)
  · obtain ⟨a, m, rfl, _⟩ := h
    rfl
  · obtain ⟨a, m, rfl, m0, m1, ⟨x, y, ha, y0, y1⟩, q⟩ := h
    refine ⟨_, pss_cons (ps_if (pt_cmpR op_gt (pe_ix ix_list (pv 0) pe_int (fun _ _ => rfl)) pe_int (nomark _))
        (pss_cons (ps_set (i := 2) scTake.nd rfl (Or.inl rfl) (pe_op op_mod (pe_ix ix_list (pv 0) pe_int (fun _ _ => rfl)) (pv 1)))
        (pss_cons (ps_asg (pe_op op_fdiv (pe_ix ix_list (pv 0) pe_int (fun _ _ => rfl)) (pv 1)) (pg_sub (pv 0) pe_int set_list)) (pss_one (ps_ret (pv 2))))) pss_nil)
      (pss_cons (ps_asg (pe_op op_mod (pe_op op_add (pe_op op_mul (pe_ix ix_list (pv 0) pe_int (fun _ _ => rfl)) pe_int) pe_int) pe_int) (pg_sub (pv 0) pe_int set_list))
      (pss_one (ps_ret (pe_op op_mod (pe_op op_fdiv (pe_op op_mod (pe_op op_mul (pe_op op_mod (pe_op op_mul (pe_ix ix_list (pv 0) pe_int (fun _ _ => rfl)) (pe_ix ix_list (pv 0) pe_int (fun _ _ => rfl))) pe_int) pe_int) pe_int) pe_int) (pv 1))))), ?_⟩
    refine ⟨_, rfl, a, _, 0, .int x, rfl, rfl, SqL.of ha, atI_nat (j := 0) rfl, _, _, rfl, rfl, _, rfl, ?_⟩
    refine ite2 (fun c => ?_) (fun c => ?_)
    · refine ⟨_, rfl, a, _, 0, .int x, rfl, rfl, SqL.of ha, atI_nat (j := 0) rfl, _, rfl, _, _, rfl, rfl, m0, ?_⟩
      refine ⟨_, rfl, a, _, 0, .int x, rfl, rfl, SqL.of ha, atI_nat (j := 0) rfl, _, rfl, _, _, rfl, rfl, ⟨m0, m1⟩, _, rfl, a, _, 0, 0, rfl, rfl, ha, rfl, ?_⟩
      exact ⟨_, rfl, q _ _ (Int.emod_nonneg _ (by omega)) (Int.emod_lt_of_pos _ m0) ⟨_, y, upd_same, y0, y1⟩ (Mv.upd a H _)⟩
    · refine ⟨_, rfl, a, _, 1, .int y, rfl, rfl, SqL.of ha, atI_nat (j := 1) rfl, _, _, rfl, rfl, .inr ⟨by decide, by decide⟩, _, _, rfl, rfl, _, _, rfl, rfl, (by show (0 : Int) < 2147483647; decide), _, rfl, a, _, 1, 1, rfl, rfl, ha, rfl, ?_⟩
      have z0 : 0 ≤ (y * 48271 + 12820163) % 2147483647 := by omega
      have z1 : (y * 48271 + 12820163) % 2147483647 < 2147483647 := by omega
      have hb : upd H a (.lst [.int x, .int ((y * 48271 + 12820163) % 2147483647)]) a = some (.lst [.int x, .int ((y * 48271 + 12820163) % 2147483647)]) := upd_same
      refine ⟨_, rfl, a, _, 1, .int ((y * 48271 + 12820163) % 2147483647), rfl, rfl, SqL.of hb, atI_nat (j := 1) rfl, _, rfl, a, _, 1, .int ((y * 48271 + 12820163) % 2147483647), rfl, rfl, SqL.of hb, atI_nat (j := 1) rfl, _, _, rfl, rfl, .inl ⟨by omega, by omega⟩, _, _, rfl, rfl, (by show (0 : Int) < 2147483629; decide), _, _, rfl, rfl, .inr ⟨by decide, by decide⟩, _, _, rfl, rfl, (by show (0 : Int) < 2147483587; decide), _, _, rfl, rfl, ⟨by decide, by decide⟩, _, rfl, _, _, rfl, rfl, m0, ?_⟩
      exact q _ _ (Int.emod_nonneg _ (by omega)) (Int.emod_lt_of_pos _ m0) ⟨x, _, hb, z0, z1⟩ (Mv.upd a H _)
theorem scPool : FnScope ["cells", "k", "cell", "rest"] ["cells", "k"] (defScope sPool) := ⟨rfl, rfl, rfl, by decide +kernel, rfl, by decide +kernel, by decide +kernel⟩
theorem ok_pool {f : Addr} {fd : FuncData} (F : Fun K "_law_pool" "_law_pool" sPool f fd) (T : Txt K mg) : FnOk P w K mg base CX0 1 f fd ["cells", "k"] (spPool K) := by
  refine F.ok scPool (fun vs H Q E h => ?_) (fun cdv A outer s H vs Q E hr h => ?_)
  · obtain ⟨p, cs, k, rfl, _⟩ := h
    rfl
  · obtain ⟨p, cs, k, rfl, hp, l5, k10, q⟩ := h
    refine ⟨_, pss_cons (ps_set (i := 2) scPool.nd rfl (Or.inl rfl) pe_int)
      (pss_cons (ps_if (pt_cmpR op_gt (pe_callB call_len_seq (by rfl) T.len PySem.boot_len (pa_cons (pv 0) pa_nil)) pe_int (nomark _)) (pss_one (ps_set (i := 2) scPool.nd rfl (Or.inl rfl) (pe_op op_add (pe_ix ix_list (pv 0) (pe_op op_mod (pv 1) (pe_callB call_len_seq (by rfl) T.len PySem.boot_len (pa_cons (pv 0) pa_nil))) (fun _ _ => rfl)) (pe_op op_fdiv (pv 1) (pe_callB call_len_seq (by rfl) T.len PySem.boot_len (pa_cons (pv 0) pa_nil)))))) pss_nil)
      (pss_cons (ps_set (i := 3) scPool.nd rfl (Or.inl rfl) pe_int)
      (pss_cons (ps_if (PW.pt (pw_or (pt_cmpR op_lt (pv 2) pe_int (nomark _)) (pw_or1 (pt_cmpR op_ge (pv 2) (pe_op op_pow pe_int pe_int) (nomark _))))) (pss_one (ps_set (i := 3) scPool.nd rfl (Or.inl rfl) (pe_callB call_abs (by rfl) T.abs PyProof.Rows.boot_abs (pa_cons (pv 2) pa_nil)))) pss_nil)
      (pss_one (ps_ret (pe_lst (pa_cons (pv 3) (pa_cons (pe_op op_mod (pe_op op_add (pe_op op_mul (pe_op op_mod (pv 2) pe_int) pe_int) (pe_op op_mul (pe_op op_mul pe_int (pe_op op_add (pv 1) pe_int)) (pe_op op_add (pv 1) pe_int))) pe_int) pa_nil)))))))), ?_⟩
    dsimp only [gName, tSeq, tAsg, tC]
    refine if_split (fun σ' H' => ∃ c : Int, σ' = [some (.ref p), some (.int (k : Int)), some (.int c), none] ∧ H' = H) ?_ ?_
    · rintro σ' H' ⟨c, rfl, rfl⟩
      dsimp only [gName, tSeq, tAsg, tC]
      refine if_split (fun σ' H2 => ∃ r : Int, σ' = [some (.ref p), some (.int (k : Int)), some (.int c), some (.int r)] ∧ H2 = H') ?_ ?_
      · rintro σ' H2 ⟨r, rfl, rfl⟩
        refine ⟨_, rfl, _, rfl, _, _, rfl, rfl, (by show (0 : Int) < 2147483629; decide), _, _, rfl, rfl, .inr ⟨by decide, by decide⟩, _, rfl, _, _, rfl, rfl, _, _, rfl, rfl, .inl ⟨by decide, by decide⟩, _, rfl, _, _, rfl, rfl, _, _, rfl, rfl, .inr ⟨by omega, by omega⟩, _, _, rfl, rfl, _, _, rfl, rfl, (by show (0 : Int) < 2147483629; decide), (by show 2 ≤ sizeLine; decide), fun u hu => ?_⟩
        exact q u _ hu (new_same hu) ⟨_, _, upd_same, by omega, by omega⟩
      · intro nx hnx
        refine ⟨_, rfl, _, _, rfl, rfl, _, rfl, ?_⟩
        refine ite2 (fun c1 => ?_) (fun c1 => ?_)
        · exact ⟨_, rfl, c, rfl, hnx _ _ ⟨_, rfl, rfl⟩⟩
        · refine ⟨_, rfl, _, _, rfl, rfl, ⟨by decide, by decide, by decide⟩, _, _, rfl, rfl, _, rfl, ?_⟩
          refine ite2 (fun c2 => ?_) (fun c2 => ?_)
          · exact ⟨_, rfl, c, rfl, hnx _ _ ⟨_, rfl, rfl⟩⟩
          · exact hnx _ _ ⟨0, rfl, rfl⟩
    · intro nx hnx
      have hL : ((cs.map V.int).length : Int) = cs.length := by rw [List.length_map]
      refine ⟨_, rfl, p, _, rfl, .inl hp, _, _, rfl, rfl, _, rfl, ?_⟩
      refine ite2 (fun c1 => ?_) (fun c1 => ?_)
      · have l0 : 0 < cs.length := by
          have : (0 : Int) < ((cs.map V.int).length : Int) := of_decide_eq_true c1
          omega
        have e : (k : Int) % ((cs.map V.int).length : Int) = ((k % cs.length : Nat) : Int) := by rw [hL]; rfl
        have lt : k % cs.length < cs.length := Nat.mod_lt _ l0
        refine ⟨_, rfl, _, rfl, _, rfl, p, _, rfl, .inl hp, _, _, rfl, rfl, (by rw [hL]; omega), p, _, _, .int (cs.getD (k % cs.length) 0), rfl, rfl, hp, (by rw [e]; exact at_d lt), ?_⟩
        refine ⟨_, rfl, _, rfl, p, _, rfl, .inl hp, _, _, rfl, rfl, ⟨by rw [hL]; omega, by rw [hL]; omega⟩, _, _, rfl, rfl, ?_⟩
        exact hnx _ _ ⟨_, rfl, rfl⟩
      · exact hnx _ _ ⟨0, rfl, rfl⟩
end
end K42

namespace K42
open PySem L2 PySem.W
theorem same_upd {H H1 : Hp} {p : Addr} {o : HO} (s : Same H H1) (h : H p = none) : Same H (upd H1 p o) := fun q u e => by
  have ne : q ≠ p := fun z => by
    rw [z, h] at e
    cases e
  rw [upd_ne ne]
  exact s _ _ e
theorem none_of {H H' : Hp} {u : Addr} (s : Same H H') (h : H' u = none) : H u = none := by
  cases e : H u with
  | none => rfl
  | some o =>
    rw [s _ _ e] at h
    cases h
theorem cut_take (xs : List V) (n : Nat) : cutV xs none (some (n : Int)) = xs.take n := by
  unfold cutV
  have e : HT.sIx xs.length xs.length (some (n : Int)) = min n xs.length := HT.sIx_nat xs.length xs.length n
  have e2 : HT.sIx xs.length 0 none = 0 := rfl
  rw [e, e2, Nat.sub_zero, List.drop_zero]
  rcases Nat.le_total n xs.length with h | h
  · rw [Nat.min_eq_left h]
  · rw [Nat.min_eq_right h, List.take_length, List.take_of_length_le h]
theorem cut_some (ns : List Int) (i j : Nat) : ∃ ms : List Int, cutV (ns.map V.int) (some (i : Int)) (some (j : Int)) = ms.map V.int ∧ ms.length ≤ ns.length - i := by
  unfold cutV
  have e : HT.sIx (ns.map V.int).length 0 (some (i : Int)) = min i (ns.map V.int).length := HT.sIx_nat _ 0 i
  have e1 : HT.sIx (ns.map V.int).length (ns.map V.int).length (some (j : Int)) = min j (ns.map V.int).length := HT.sIx_nat _ _ j
  rw [e, e1]
  refine ⟨(ns.drop (min i (ns.map V.int).length)).take (min j (ns.map V.int).length - min i (ns.map V.int).length), by rw [List.map_take, List.map_drop], ?_⟩
  rw [List.length_take, List.length_drop, List.length_map]
  omega
section
variable {P : Program} {w : World} {K : Frag} {mg : Str → Option Value} {base : Heap}
theorem scCells : FnScope ["script", "many", "cells", "k", "cell"] ["script", "many"] (defScope sCells) := ⟨rfl, rfl, rfl, by decide +kernel, rfl, by decide +kernel, by decide +kernel⟩
theorem ok_cells {f : Addr} {fd : FuncData} (F : Fun K "_law_cells" "_law_cells" sCells f fd) (T : Txt K mg) : FnOk P w K mg base CX0 1 f fd ["script", "many"] (spCells K) := by
  refine F.ok scCells (fun vs H Q E h => ?_) (fun cdv A outer s H vs Q E hr h => ?_)
  · obtain ⟨a, ns, rfl, _⟩ := h
    rfl
  · obtain ⟨a, ns, rfl, hA, l63, q⟩ := h
    refine ⟨_, pss_cons (ps_set (i := 2) scCells.nd rfl (Or.inl rfl) (pe_callTy call_list_of (by rfl) T.list PyProof.Rows.boot_list (pa_cons (pe_slice sl_list (pv 0) po_none (po_some (pv 1))) pa_nil)))
      (pss_cons (ps_for PassesOwn.never rfl (pi_enum rfl T.enum (pa_cons (pe_slice sl_list (pv 0) (po_some (pv 1)) (po_some pe_int)) pa_nil)) (pg_tup rfl (pgs_cons (pg_name (i := 3) scCells.nd rfl (Or.inl rfl)) (pgs_cons (pg_name (i := 4) scCells.nd rfl (Or.inl rfl)) pgs_nil)))
        (pss_one (ps_asg (pe_op op_add (pe_op op_mul (pe_ix ix_list (pv 2) (pe_op op_mod (pv 3) (pv 1)) (fun _ _ => rfl)) pe_int) (pv 4)) (pg_sub (pv 2) (pe_op op_mod (pv 3) (pv 1)) set_list))))
      (pss_one (ps_ret (pv 2)))), ?_⟩
    refine ⟨_, rfl, _, rfl, 3, rfl, a, _, rfl, hA, fun u1 h1 => ?_⟩
    have e5 : cutV (ns.map V.int) none (some 3) = (ns.take 3).map V.int := (cut_take _ 3).trans (by rw [List.map_take])
    rw [e5]
    have s1 := new_same (o := .lst ((ns.take 3).map V.int)) h1
    refine ⟨u1, _, rfl, .inl (SqL.of upd_same), fun l hl => ?_⟩
    have s2 := s1.trans (new_same (o := .lst ((ns.take 3).map V.int)) hl)
    have nl : H l = none := none_of s1 hl
    have l2 : upd (upd H u1 (.lst ((ns.take 3).map V.int))) l (.lst ((ns.take 3).map V.int)) l = some (.lst ((ns.take 3).map V.int)) := upd_same
    generalize upd (upd H u1 (.lst ((ns.take 3).map V.int))) l (.lst ((ns.take 3).map V.int)) = H2 at s2 l2 ⊢
    refine ⟨_, rfl, _, rfl, 3, rfl, 63, rfl, a, _, rfl, s2.seq hA, fun v hv => ?_⟩
    obtain ⟨ms, em, ml⟩ := cut_some ns 3 63
    rw [show cutV (ns.map V.int) (some 3) (some 63) = ms.map V.int from em]
    have s3 := new_same (o := .lst (ms.map V.int)) hv
    have nvl : l ≠ v := fun z => by
      rw [← z, l2] at hv
      cases hv
    refine ⟨v, rfl, ⟨_, SqL.of upd_same⟩, for_enum (xs := ms.map V.int) (fun i σ H3 => ∃ (w3 w4 : Option V) (cs : List Int), σ = [some (.ref a), some (.int 3), some (.ref l), w3, w4] ∧ Same H H3 ∧ H3 l = some (.lst (cs.map V.int)) ∧ H3 v = some (.lst (ms.map V.int)) ∧ cs.length = (ns.take 3).length) ⟨none, none, ns.take 3, rfl, s2.trans s3, s3 _ _ l2, upd_same, rfl⟩ ?_ ?_ ?_⟩
    · rintro i σ H3 hi ⟨_, _, _, _, _, _, ev, _⟩
      exact SqL.of ev
    · rintro i x σ H3 T5 hx ⟨w3, w4, cs, rfl, s4, el, ev, cl⟩ hT
      obtain ⟨c, rfl⟩ : ∃ c, x = .int c := by
        rw [List.getElem?_map] at hx
        cases e : ms[i]? with
        | none => rw [e] at hx; cases hx
        | some c => rw [e] at hx; cases hx; exact ⟨c, rfl⟩
      have mi : i < ms.length := by
        have := (List.getElem?_eq_some_iff.mp hx).1
        simpa using this
      have c5 : cs.length = 3 := by
        rw [cl, List.length_take]
        omega
      refine ⟨T5, _, rfl, .inl (.inl upd_same), rfl, _, _, rfl, _, _, rfl, rfl, ?_⟩
      have s5 := new_same (o := .tup [.int (i : Int), .int c]) hT
      have el5 := s5 _ _ el
      have ev5 := s5 _ _ ev
      have ei : (i : Int) % 3 = ((i % 3 : Nat) : Int) := rfl
      have lt : i % 3 < cs.length := by omega
      refine ⟨_, rfl, _, rfl, _, rfl, _, _, rfl, rfl, (by show (0 : Int) < 3; decide), l, _, _, .int (cs.getD (i % 3) 0), rfl, rfl, SqL.of el5, at_d lt, _, _, rfl, rfl, .inr ⟨by decide, by decide⟩, _, rfl, _, _, rfl, rfl, ?_⟩
      refine ⟨_, rfl, _, rfl, _, rfl, _, _, rfl, rfl, (by show (0 : Int) < 3; decide), l, _, _, i % 3, rfl, rfl, el5, ?_, ?_⟩
      · show ixN (cs.map V.int).length ((i : Int) % 3) = some (i % 3)
        unfold ixN
        rw [ei, if_pos (by omega), if_pos (by rw [List.length_map]; omega), Int.toNat_natCast]
      · refine ⟨_, _, cs.set (i % 3) (cs.getD (i % 3) 0 * 31 + c), rfl, same_upd (s4.trans s5) nl, ?_, ?_, ?_⟩
        · rw [upd_same, List.map_set]
        · rw [upd_ne (Ne.symm nvl)]
          exact ev5
        · rw [List.length_set]
          exact cl
    · rintro σ H3 ⟨w3, w4, cs, rfl, s4, el, ev, cl⟩
      exact ⟨_, rfl, q cs l H3 s4 el (by rw [cl, List.length_take]; omega)⟩
end
end K42

namespace K42
open PySem L2 PySem.W
noncomputable def asgScope : Stmt → Scope
  | .Assign _ (.ListComp _ _ sc _) _ => sc
  | .Return (some (.ListComp _ _ sc _)) _ => sc
  | _ => { kind := .function, names := [], isGenerator := false, isCoroutine := false }
noncomputable abbrev scoS : Scope := asgScope ((defBody sSome).getD 1 (.Pass ⟨0, 0, 0, 0⟩))
theorem blockS : blockB ["pool", "menu", "many", "rest"] (defScope sSome) scoS "k" ["k", "pool", "rest"] [0, 3] = true := by decide +kernel
noncomputable def rLen (K : Frag) : List V → Hp → VK → Prop := fun xs H Q => ∃ p ys, xs = [.ref p] ∧ (SqL K H p ys ∨ SqT K H p ys) ∧ Q (.int ys.length) H
inductive spSomeI (K : Frag) (vs : List V) (H : Hp) (Q : VK) : Prop
  | mk : ∀ (a p : Addr) (ns : List Int), (vs = [.ref a, .ref p, .int ns.length]) → (SqL K H p (ns.map V.int)) → (ns.length ≤ 60) → (StA H a) → (∀ (ms : List Int) (u : Addr) H', ms.Perm ns → StA H' a → Mv a H H' → H' u = some (.lst (ms.map V.int)) → H u = none → Q (.ref u) H') → spSomeI K vs H Q
noncomputable def spSome (K : Frag) : Sp := fun vs H Q _E3 => spSomeI K vs H Q
theorem perm_erase : ∀ (rs : List Int) {j : Nat} (h : j < rs.length), ([rs[j]] ++ rs.eraseIdx j).Perm rs
  | [], j, h => absurd h (Nat.not_lt_zero _)
  | x :: rs, 0, _ => List.Perm.refl _
  | x :: rs, j + 1, h => by
    have h' : j < rs.length := Nat.lt_of_succ_lt_succ h
    have := perm_erase rs h'
    exact (List.Perm.swap x rs[j] (rs.eraseIdx j)).trans (List.Perm.cons x this)
theorem map_eraseIdx' : ∀ (rs : List Int) (j : Nat), (rs.map V.int).eraseIdx j = (rs.eraseIdx j).map V.int
  | [], _ => rfl
  | _ :: _, 0 => rfl
  | x :: rs, j + 1 => congrArg (V.int x :: ·) (map_eraseIdx' rs j)
section
variable {P : Program} {w : World} {K : Frag} {mg : Str → Option Value} {base : Heap}
theorem scSome : FnScope ["pool", "menu", "many", "rest"] ["pool", "menu", "many"] (defScope sSome) := ⟨rfl, rfl, rfl, by decide +kernel, rfl, by decide +kernel, by decide +kernel⟩
theorem ok_some {f : Addr} {fd : FuncData} (F : Fun K "_law_some" "_law_some" sSome f fd) (T : Txt K mg) (hT : Has P w K mg base 1 "_law_take" ["pool", "many"] spTake) : FnOk P w K mg base CX0 2 f fd ["pool", "menu", "many"] (spSome K) := by
  refine F.ok scSome (fun vs H Q E h => ?_) (fun cdv A outer s H vs Q E hr h => ?_)
  · obtain ⟨a, p, ns, rfl, _⟩ := h
    rfl
  · obtain ⟨a, p, ns, rfl, hp, l12, st, q⟩ := h
    refine ⟨_, pss_cons (ps_set (i := 3) scSome.nd rfl (Or.inr rfl) (pe_callTy call_list_of (by rfl) T.list PyProof.Rows.boot_list (pa_cons (pv 1) pa_nil)))
      (pss_one (ps_ret (pe_comp (NB := ["k", "pool", "rest"]) (ix := [0, 3]) (BlockOk.of blockS) rfl (pi_range1 rfl T.range (pa_cons (pv 2) pa_nil)) (fun _ _ _ _ => show PE _ _ (tBM K _ rPopAt _ _) from pe_bm PySem.F.plainAttrs_list PySem.F.slot_list_pop PySem.F.type_list_pop mt_popAt (pv 2) (pa_cons (pe_has hT hr rfl (pa_cons (pv 1) (pa_cons (pe_callB (show CallR _ (.builtin "len") (rLen K) from call_len_seq) (by rfl) T.len PySem.boot_len (pa_cons (pv 2) pa_nil)) pa_nil))) pa_nil)) (fun _ _ _ _ => pts_nil)))), ?_⟩
    refine ⟨_, rfl, p, _, rfl, .inl hp, fun u hu => ?_⟩
    have sU := new_same (o := .lst (ns.map V.int)) hu
    have stU := st.mono sU
    have neU : u ≠ a := st_ne st hu
    refine ⟨_, rfl, (ns.length : Int), rfl, (by omega), (by omega), comp_range (lo := 0) (n := (ns.length : Int).toNat) (fun i ys Hc => ∃ ms rs : List Int, ys = ms.map V.int ∧ (ms ++ rs).Perm ns ∧ rs.length + i = ns.length ∧ Hc u = some (.lst (rs.map V.int)) ∧ StA Hc a ∧ (∀ b o, b ≠ a → b ≠ u → H b = some o → Hc b = some o)) ⟨[], ns, rfl, List.Perm.refl _, rfl, upd_same, stU, fun b o _ n e => by rw [upd_ne n]; exact e⟩ ?_ ?_ ?_⟩
    · rintro i ys Hc hi ⟨ms, rs, rfl, pm, _⟩
      have e := pm.length_eq
      rw [List.length_append] at e
      rw [List.length_map]
      exact Nat.lt_of_le_of_lt (show ms.length ≤ 60 by omega) (by decide)
    · rintro i ys Hc hi ⟨ms, rs, rfl, pm, hl, eu, sa, mv⟩
      unfold tYes
      have lpos : 0 < rs.length := by omega
      refine @iteT _ (∃ _, _) ?_
      refine ⟨_, rfl, .inl ⟨rfl, _, SqL.of eu⟩, _, rfl, _, rfl, u, _, rfl, .inl (SqL.of eu), a, _, rfl, (by rw [List.length_map]; omega), (by rw [List.length_map]; omega), sa, fun r H3 r0 r1 st3 mv3 => ?_⟩
      rw [List.length_map] at r1
      have eu3 := mv3 _ _ neU eu
      have lt : r.toNat < rs.length := by omega
      have hx : ixN (rs.map V.int).length r = some r.toNat := by
        unfold ixN
        rw [if_pos r0, if_pos (by rw [List.length_map]; omega)]
      refine ⟨u, _, r, r.toNat, .int rs[r.toNat], rfl, rfl, eu3, by omega, by omega, (ixN_seq hx).1, (by rw [List.getElem?_map, List.getElem?_eq_getElem lt]; rfl), ms ++ [rs[r.toNat]], rs.eraseIdx r.toNat, by rw [List.map_append]; rfl, ?_, ?_, ?_, ?_, ?_⟩
      · rw [List.append_assoc]
        exact ((List.Perm.append_left ms (perm_erase rs lt)).trans pm)
      · rw [List.length_eraseIdx_of_lt lt]
        omega
      · rw [upd_same, map_eraseIdx']
      · obtain ⟨x, y, e, r'⟩ := st3
        exact ⟨x, y, by rw [upd_ne (Ne.symm neU)]; exact e, r'⟩
      · intro b o n1 n2 e
        rw [upd_ne n2]
        exact mv3 _ _ n1 (mv b o n1 n2 e)
    · rintro ys Hc ⟨ms, rs, rfl, pm, hl, eu, sa, mv⟩ v hv
      obtain rfl : rs = [] := List.eq_nil_of_length_eq_zero (by omega)
      rw [List.append_nil] at pm
      have nv := new_same (o := .lst (ms.map V.int)) hv
      refine q ms v _ pm (sa.mono nv) (fun b o n e => ?_) upd_same ?_
      · exact nv _ _ (mv b o n (ne_of_none e hu) e)
      · cases e : H v with
        | none => rfl
        | some o =>
          have na : v ≠ a := st_ne sa hv
          have nu : v ≠ u := fun z => by rw [z, eu] at hv; cases hv
          rw [mv v o na nu e] at hv
          cases hv
end
end K42

namespace K42
open PySem L2 PySem.W
noncomputable def exScope : Expr → Scope
  | .ListComp _ _ sc _ => sc
  | .Call _ (.ListComp _ _ sc _ :: _) _ _ => sc
  | .Call _ (.Call _ (.ListComp _ _ sc _ :: _) _ _ :: _) _ _ => sc
  | .Tuple [_, .Call _ (.Call _ (.ListComp _ _ sc _ :: _) _ _ :: _) _ _] _ _ => sc
  | _ => { kind := .function, names := [], isGenerator := false, isCoroutine := false }
noncomputable def stScope : Stmt → Scope
  | .Assign _ e _ => exScope e
  | .Return (some e) _ => exScope e
  | _ => { kind := .function, names := [], isGenerator := false, isCoroutine := false }
noncomputable abbrev scoN : Scope := stScope ((defBody sNamed).getD 1 (.Pass ⟨0, 0, 0, 0⟩))
theorem blockN : block2B ["pool", "many", "ties", "names"] (defScope sNamed) scoN "a" "b" ["a", "b", "names"] [3] = true := by decide +kernel
noncomputable def rIxL (K : Frag) : V → V → Hp → VK → Prop := fun x k H Q => ∃ p ys i v, x = .ref p ∧ k = .int i ∧ SqL K H p ys ∧ atI ys i = some v ∧ Q v H
noncomputable def Pr (K : Frag) (H : Hp) (y : V) (e : Nat × Nat) : Prop := ∃ b : Addr, y = .ref b ∧ H b = some (.tup [.int (e.1 : Int), .int (e.2 : Int)])
inductive Prs (K : Frag) (H : Hp) : List V → List (Nat × Nat) → Prop
  | nil : Prs K H [] []
  | cons {y : V} {e : Nat × Nat} {ys : List V} {es : List (Nat × Nat)} : Pr K H y e → Prs K H ys es → Prs K H (y :: ys) (e :: es)
theorem Prs.len {K : Frag} {H : Hp} {ys : List V} {es : List (Nat × Nat)} (h : Prs K H ys es) : ys.length = es.length := by
  induction h with
  | nil => rfl
  | cons _ _ ih => rw [List.length_cons, List.length_cons, ih]
theorem Prs.mono {K : Frag} {H H' : Hp} {ys : List V} {es : List (Nat × Nat)} (h : Prs K H ys es) (s : ∀ b xs, H b = some (.tup xs) → H' b = some (.tup xs)) : Prs K H' ys es := by
  induction h with
  | nil => exact .nil
  | cons p _ ih =>
    obtain ⟨b, e, q⟩ := p
    exact .cons ⟨b, e, s _ _ q⟩ ih
theorem Prs.app {K : Frag} {H : Hp} {ys zs : List V} {es fs : List (Nat × Nat)} (h : Prs K H ys es) (g : Prs K H zs fs) : Prs K H (ys ++ zs) (es ++ fs) := by
  induction h with
  | nil => exact g
  | cons p _ ih => exact .cons p ih
theorem Prs.perm {K : Frag} {H : Hp} {ws ys : List V} (p : ws.Perm ys) : ∀ {es : List (Nat × Nat)}, Prs K H ys es → ∃ fs, fs.Perm es ∧ Prs K H ws fs := by
  induction p with
  | nil => exact fun {es} h => ⟨es, List.Perm.refl _, h⟩
  | cons x _ ih =>
    intro es h
    cases h with
    | cons q r =>
      obtain ⟨fs, p1, r1⟩ := ih r
      exact ⟨_ :: fs, p1.cons _, .cons q r1⟩
  | swap x y l =>
    intro es h
    cases h with
    | cons q r =>
      cases r with
      | cons q2 r => exact ⟨_ :: _ :: _, List.Perm.swap _ _ _, .cons q2 (.cons q r)⟩
  | trans _ _ ih1 ih2 =>
    intro es h
    obtain ⟨fs, p1, r1⟩ := ih2 h
    obtain ⟨gs, p2, r2⟩ := ih1 r1
    exact ⟨gs, p2.trans p1, r2⟩
theorem Prs.at {K : Frag} {H : Hp} {ys : List V} {es : List (Nat × Nat)} (h : Prs K H ys es) : ∀ {i : Nat} {y : V}, ys[i]? = some y → ∃ e, es[i]? = some e ∧ Pr K H y e := by
  induction h with
  | nil => exact fun {i y} h => (nomatch h)
  | cons p _ ih =>
    intro i y h
    cases i with
    | zero =>
      cases h
      exact ⟨_, rfl, p⟩
    | succ i => exact ih h
theorem Prs.pairs {K : Frag} {H : Hp} {ys : List V} {es : List (Nat × Nat)} (h : Prs K H ys es) : ∀ y ∈ ys, ∃ (b : Addr) (i j : Int), y = .ref b ∧ SqT K H b [.int i, .int j] := fun y hy => by
  obtain ⟨i, hi⟩ := List.getElem?_of_mem hy
  obtain ⟨e, _, b, rfl, q⟩ := h.at hi
  exact ⟨b, _, _, rfl, .inl (.inl q)⟩
noncomputable def WebC (K : Frag) (H : Hp) (w : Addr) (m : Nat) (es : List (Nat × Nat)) : Prop := ∃ (t : Addr) (xs : List V), H w = some (.tup [.int m, .ref t]) ∧ H t = some (.tup xs) ∧ Prs K H xs es
theorem WebC.mono {K : Frag} {H H' : Hp} {w : Addr} {m : Nat} {es : List (Nat × Nat)} (h : WebC K H w m es) (s : ∀ b xs, H b = some (.tup xs) → H' b = some (.tup xs)) : WebC K H' w m es := by
  obtain ⟨t, xs, h1, h2, h3⟩ := h
  exact ⟨t, xs, s _ _ h1, s _ _ h2, h3.mono s⟩
inductive spNamedI (K : Frag) (vs : List V) (H : Hp) (Q : VK) : Prop
  | mk : ∀ (a t : Addr) (m : Nat) (ys : List V) (ps : List (Nat × Nat)), (vs = [.ref a, .int m, .ref t]) → (1 ≤ m) → (m ≤ 60) → (StA H a) → (SqL K H t ys) → (t ≠ a) → (Prs K H ys ps) → (Gr.Good m ps) → (Gr.Conn m ps) → (ps.length ≤ 1000) → (∀ v H' es, StA H' a → Mv a H H' → WebC K H' v m es → Gr.Good m es → Gr.Conn m es → es.length = ps.length → Q (.ref v) H') → spNamedI K vs H Q
noncomputable def spNamed (K : Frag) : Sp := fun vs H Q _E3 => spNamedI K vs H Q
theorem toNat_perm {ms : List Int} {m : Nat} (pm : ms.Perm ((List.range m).map fun i : Nat => (i : Int))) : (ms.map Int.toNat).Perm (List.range m) := by
  have := pm.map Int.toNat
  rw [List.map_map] at this
  have e : (List.range m).map (Int.toNat ∘ fun i : Nat => (i : Int)) = List.range m := by
    rw [show (Int.toNat ∘ fun i : Nat => (i : Int)) = id from funext fun i => Int.toNat_natCast i, List.map_id]
  rwa [e] at this
theorem getD_nat {ms : List Int} {m : Nat} (pm : ms.Perm ((List.range m).map fun i : Nat => (i : Int))) {a : Nat} (ha : a < m) : ms.getD a 0 = (((ms.map Int.toNat).getD a 0 : Nat) : Int) := by
  have l : a < ms.length := by
    rw [pm.length_eq, List.length_map, List.length_range]
    exact ha
  rw [List.getD_eq_getElem?_getD, List.getD_eq_getElem?_getD, List.getElem?_map, List.getElem?_eq_getElem l]
  obtain ⟨k, _, e⟩ := List.mem_map.mp (pm.mem_iff.mp (List.getElem_mem l))
  show ms[a] = ((ms[a]).toNat : Int)
  rw [← e]
  rfl
section
variable {P : Program} {w : World} {K : Frag} {mg : Str → Option Value} {base : Heap}
theorem scNamed : FnScope ["pool", "many", "ties", "names"] ["pool", "many", "ties"] (defScope sNamed) := ⟨rfl, rfl, rfl, by decide +kernel, rfl, by decide +kernel, by decide +kernel⟩
theorem ok_named {f : Addr} {fd : FuncData} (F : Fun K "_law_named" "_law_named" sNamed f fd) (T : Txt K mg) (hS : Has P w K mg base 2 "_law_some" ["pool", "menu", "many"] (spSome K)) : FnOk P w K mg base CX0 3 f fd ["pool", "many", "ties"] (spNamed K) := by
  refine F.ok scNamed (fun vs H Q E h => ?_) (fun cdv A outer s H vs Q E hr h => ?_)
  · obtain ⟨a, t, m, ys, ps, rfl, _⟩ := h
    rfl
  · obtain ⟨a, t, m, ys, ps, rfl, m1, m12, st, ht, nta, hy, gd, cn, l1, q⟩ := h
    refine ⟨_, pss_cons (ps_set (i := 3) scNamed.nd rfl (Or.inr rfl) (pe_has hS hr rfl (pa_cons (pv 0) (pa_cons (pe_callTy (call_listR rfl) (by rfl) T.list PyProof.Rows.boot_list (pa_cons (pe_callTy call_range1 (by rfl) T.range PyProof.Rows.boot_range (pa_cons (pv 1) pa_nil)) pa_nil)) (pa_cons (pv 1) pa_nil)))))
      (pss_one (ps_ret (pe_tup (pa_cons (pv 1) (pa_cons (pe_callTy call_tuple_of (by rfl) T.tuple PyProof.Rows.boot_tuple (pa_cons (pe_callB call_sortedP (by rfl) T.sorted PyProof.Rows.boot_sorted (pa_cons
        (pe_comp2 (NB := ["a", "b", "names"]) (ix := [3]) (Block2.of blockN) rfl (pi_list (pv 2)) (fun _ _ _ _ => pe_tup (pa_cons (pe_callB (call_min2 rfl) (by rfl) T.min PyProof.Rows.boot_min (pa_cons (pe_ix (show IxR _ (rIxL K) from ix_list) (pv 2) (pv 0) (fun _ _ => rfl)) (pa_cons (pe_ix (show IxR _ (rIxL K) from ix_list) (pv 2) (pv 1) (fun _ _ => rfl)) pa_nil))) (pa_cons (pe_callB (call_max2 rfl) (by rfl) T.max PyProof.Rows.boot_max (pa_cons (pe_ix (show IxR _ (rIxL K) from ix_list) (pv 2) (pv 0) (fun _ _ => rfl)) (pa_cons (pe_ix (show IxR _ (rIxL K) from ix_list) (pv 2) (pv 1) (fun _ _ => rfl)) pa_nil))) pa_nil))) (fun _ _ _ _ => pts_nil)) pa_nil)) pa_nil)) pa_nil))))), ?_⟩
    refine ⟨_, rfl, _, rfl, (m : Int), rfl, fun u1 h1 => ⟨u1, _, rfl, upd_same, by omega, by omega, fun l hl => ⟨_, rfl, a, l, (List.range m).map fun i : Nat => (i : Int), ?_, SqL.of upd_same, ?_, (st.mono (new_same h1)).mono (new_same hl), ?_⟩⟩⟩
    · rw [List.length_map, List.length_range]
      rfl
    · rw [List.length_map, List.length_range]
      exact m12
    · intro ms v H3 pm st3 mv3 ev nv
      have s2 := (new_same (o := .rng 0 (m : Int)) h1).trans (new_same (o := .lst (((List.range m).map fun i : Nat => (i : Int)).map V.int)) hl)
      have mv : Mv a H H3 := (Mv.of s2).trans mv3
      have ht3 : SqL K H3 t ys := mv.lst nta ht
      have hy3 : Prs K H3 ys ps := by
        obtain ⟨x, z, ea, _⟩ := st
        exact hy.mono fun b xs sq => mv _ _ (fun z => by rw [z, ea] at sq; cases sq) sq
      have lyp : ys.length = ps.length := hy.len
      have lm : ms.length = m := by
        rw [pm.length_eq, List.length_map, List.length_range]
      refine ⟨_, rfl, _, rfl, t, rfl, ⟨_, ht3⟩, comp2_list (xs := ys) (fun i zs Hc => Same H3 Hc ∧ Prs K Hc zs ((ps.take i).map (Gr.nmd (ms.map Int.toNat)))) ⟨Same.refl _, .nil⟩ ?_ ?_ ?_ ?_⟩
      · rintro i zs Hc hi ⟨_, pz⟩
        rw [pz.len, List.length_map, List.length_take]
        exact Nat.lt_of_le_of_lt (show min i ps.length ≤ 1000 by omega) (by decide)
      · rintro i zs Hc hi ⟨s4, _⟩
        exact s4.seq ht3
      · rintro i x zs Hc hx ⟨s4, hz⟩
        obtain ⟨⟨e1, e2⟩, he, b, rfl, sq⟩ := hy3.at hx
        have le : e1 < e2 ∧ e2 < m := gd.lt _ (List.mem_of_getElem? he)
        have ev4 := s4 _ _ ev
        refine ⟨b, _, _, rfl, .inl (.inl (s4 _ _ sq)), ?_⟩
        unfold tYes
        refine @iteT _ (_ ∧ _) ?_
        refine ⟨_, rfl, _, rfl, v, _, _, .int (ms.getD e1 0), rfl, rfl, SqL.of ev4, at_d (by omega), _, rfl, _, rfl, v, _, _, .int (ms.getD e2 0), rfl, rfl, SqL.of ev4, at_d (by omega), _, _, rfl, ?_⟩
        refine ⟨_, rfl, _, rfl, v, _, _, .int (ms.getD e1 0), rfl, rfl, SqL.of ev4, at_d (by omega), _, rfl, _, rfl, v, _, _, .int (ms.getD e2 0), rfl, rfl, SqL.of ev4, at_d (by omega), _, _, rfl, (by show 2 ≤ sizeLine; decide), fun p hp => ?_⟩
        have s5 := new_same (o := .tup [.int (if ms.getD e2 0 < ms.getD e1 0 then ms.getD e2 0 else ms.getD e1 0), .int (if ms.getD e2 0 > ms.getD e1 0 then ms.getD e2 0 else ms.getD e1 0)]) hp
        refine ⟨s4.trans s5, ?_⟩
        rw [List.take_succ, he]
        show Prs K _ _ (((ps.take i) ++ [(e1, e2)]).map _)
        rw [List.map_append]
        refine (hz.mono fun b xs sq => s5 _ _ sq).app (.cons ⟨p, rfl, ?_⟩ .nil)
        show upd Hc p _ p = _
        rw [upd_same]
        have c1 := getD_nat pm (a := e1) (by omega)
        have c2 := getD_nat pm (a := e2) (by omega)
        rw [c1, c2]
        show some (HO.tup [.int (if ((((ms.map Int.toNat).getD e2 0 : Nat) : Int)) < (((ms.map Int.toNat).getD e1 0 : Nat) : Int) then _ else _), .int (if ((((ms.map Int.toNat).getD e2 0 : Nat) : Int)) > (((ms.map Int.toNat).getD e1 0 : Nat) : Int) then _ else _)]) = some (HO.tup [.int ((min ((ms.map Int.toNat).getD e1 0) ((ms.map Int.toNat).getD e2 0) : Nat) : Int), .int ((max ((ms.map Int.toNat).getD e1 0) ((ms.map Int.toNat).getD e2 0) : Nat) : Int)])
        generalize (ms.map Int.toNat).getD e1 0 = A1
        generalize (ms.map Int.toNat).getD e2 0 = A2
        rw [show (if ((A2 : Nat) : Int) < (A1 : Int) then (A2 : Int) else (A1 : Int)) = ((min A1 A2 : Nat) : Int) by split <;> omega, show (if ((A2 : Nat) : Int) > (A1 : Int) then (A2 : Int) else (A1 : Int)) = ((max A1 A2 : Nat) : Int) by split <;> omega]
      · rintro zs Hc ⟨s4, hz⟩ c hc
        rw [lyp, List.take_length] at hz
        have tn := toNat_perm pm
        refine ⟨c, zs, rfl, SqL.of upd_same, (hz.mono fun b xs sq => new_same hc _ _ sq).pairs, ?_, fun ws d pw hd => ?_⟩
        · rw [hz.len, List.length_map]
          omega
        · obtain ⟨fs, pf, hf⟩ := hz.perm pw
          refine ⟨d, ws, rfl, .inl ⟨SqL.of upd_same, fun g hg => ?_⟩⟩
          refine ⟨(by show 2 ≤ sizeLine; decide), fun e he => ?_⟩
          have s6 := (((new_same (o := .lst zs) hc).trans (new_same (o := .lst ws) hd)).trans (new_same (o := .tup ws) hg)).trans (new_same (o := .tup [.int (m : Int), .ref g]) he)
          have s5 := s4.trans s6
          exact q e _ fs (st3.mono s5) (mv.trans (Mv.of s5)) ⟨g, ws, upd_same, new_same he _ _ upd_same, hf.mono fun b xs sq => s6 _ _ sq⟩ ((Gr.named_good tn gd).perm pf) (Gr.conn_perm pf (Gr.named_conn tn cn)) (by rw [pf.length_eq, List.length_map])
end
end K42

namespace K42
open PySem L2 PySem.W
theorem codes_len {m : Nat} {ps : List (Nat × Nat)} (g : Gr.Good m ps) : ps.length ≤ m * m := by
  have h : (ps.map fun e => e.1 * m + e.2).length ≤ m * m := by
    refine Gr.nodup_len (m * m) _ ?_ fun x hx => ?_
    · refine List.Pairwise.map _ ?_ (List.Pairwise.imp_of_mem (S := fun x y => x ≠ y ∧ (x.1 < x.2 ∧ x.2 < m) ∧ (y.1 < y.2 ∧ y.2 < m)) (fun {a b} ha hb h => ⟨h, g.lt _ ha, g.lt _ hb⟩) g.nd)
      rintro ⟨a, b⟩ ⟨c, d⟩ ⟨ne, h1, h2⟩ e
      have h1 : a < b ∧ b < m := h1
      have h2 : c < d ∧ d < m := h2
      have e : a * m + b = c * m + d := e
      have e1 : (a * m + b) / m = a := by
        rw [Nat.add_comm, Nat.add_mul_div_right _ _ (by omega), Nat.div_eq_of_lt h1.2, Nat.zero_add]
      have e2 : (c * m + d) / m = c := by
        rw [Nat.add_comm, Nat.add_mul_div_right _ _ (by omega), Nat.div_eq_of_lt h2.2, Nat.zero_add]
      rw [e, e2] at e1
      subst e1
      have : b = d := by omega
      subst this
      exact ne rfl
    · obtain ⟨⟨a, b⟩, he, rfl⟩ := List.mem_map.mp hx
      have h1 : a < b ∧ b < m := g.lt _ he
      have h3 : a + 1 ≤ m := by omega
      have h2 : (a + 1) * m ≤ m * m := Nat.mul_le_mul_right m h3
      rw [Nat.succ_mul] at h2
      show a * m + b < m * m
      omega
  rw [List.length_map] at h
  exact h
noncomputable def ky (e : Nat × Nat) : List Key := [.inl (e.1 : Int), .inl (e.2 : Int)]
theorem ky_inj {e f : Nat × Nat} (h : ky e = ky f) : e = f := by
  obtain ⟨a, b⟩ := e
  obtain ⟨c, d⟩ := f
  unfold ky at h
  simp only [List.cons.injEq, Sum.inl.injEq, and_true] at h
  have h1 : a = c := by omega
  have h2 : b = d := by omega
  rw [h1, h2]
noncomputable def WI (H : Hp) (a d : Addr) (m n : Nat) (C : List (Nat × Nat) → Prop) (Hc : Hp) : Prop := StA Hc a ∧ Mv a H Hc ∧ ∃ (kvs : List (List Key × V)) (ps : List (Nat × Nat)), Hc d = some (.dT kvs) ∧ kvs.map (·.1) = ps.map ky ∧ (m ≤ 12 ∨ ps.length ≤ n) ∧ Gr.Good m ps ∧ C ps
theorem WI.take {H Hc H' : Hp} {a d : Addr} {m n : Nat} {C : List (Nat × Nat) → Prop} (h : WI H a d m n C Hc) (nd : d ≠ a) (s : StA H' a) (mv : Mv a Hc H') : WI H a d m n C H' := by
  obtain ⟨_, mv0, kvs, ps, e, r⟩ := h
  exact ⟨s, mv0.trans mv, kvs, ps, mv _ _ nd e, r⟩
theorem WI.new {H Hc : Hp} {a d b : Addr} {m n : Nat} {C : List (Nat × Nat) → Prop} {o : HO} (h : WI H a d m n C Hc) (hb : Hc b = none) : WI H a d m n C (upd Hc b o) := by
  obtain ⟨st, mv0, kvs, ps, e, r⟩ := h
  exact ⟨st_new st hb, mv0.trans (Mv.of (new_same hb)), kvs, ps, new_same hb _ _ e, r⟩
theorem WI.mono {H Hc : Hp} {a d : Addr} {m n n' : Nat} {C C' : List (Nat × Nat) → Prop} (h : WI H a d m n C Hc) (l : n ≤ n') (hc : ∀ ps, C ps → C' ps) : WI H a d m n' C' Hc := by
  obtain ⟨st, mv0, kvs, ps, e, k, r, g, c⟩ := h
  exact ⟨st, mv0, kvs, ps, e, k, r.imp id fun r => Nat.le_trans r l, g, hc ps c⟩
theorem WI.put {H Hc : Hp} {a d b : Addr} {m n : Nat} {x y : Int} {v : V} {C C' : List (Nat × Nat) → Prop} (h : WI H a d m n C Hc) (hd : H d = none) (nd : d ≠ a) (hb : Hc b = none) (hx : 0 ≤ x) (hxy : x < y) (hy : y < m) (hn : n < 1000)
    (hc : ∀ ps qs, (∀ e, e ∈ qs ↔ e ∈ ps ∨ e = (x.toNat, y.toNat)) → C ps → C' qs) : ∃ H4, DPut (upd Hc b (.tup [.int x, .int y])) d (.ref b) v H4 ∧ WI H a d m (n + 1) C' H4 := by
  have h1 := h.new (o := .tup [.int x, .int y]) hb
  obtain ⟨⟨x1, y1, ex, rx⟩, mv0, kvs, ps, e, k, l, g, c⟩ := h1
  have len : kvs.length = ps.length := by
    have := congrArg List.length k
    rwa [List.length_map, List.length_map] at this
  have few : kvs.length < sizeLine := by
    have h3 := codes_len g
    refine Nat.lt_of_le_of_lt (show kvs.length ≤ 1000 from ?_) (by decide)
    rcases l with l | l
    · have : m * m ≤ 12 * 12 := Nat.mul_le_mul l l
      omega
    · omega
  have kk : ([.inl x, .inl y] : List Key) = ky (x.toNat, y.toNat) := by
    show _ = [Sum.inl ((x.toNat : Nat) : Int), Sum.inl ((y.toNat : Nat) : Int)]
    rw [Int.toNat_of_nonneg hx, Int.toNat_of_nonneg (by omega : 0 ≤ y)]
  refine ⟨_, DPut.t (k := [.inl x, .inl y]) e upd_same few, ⟨x1, y1, ?_, rx⟩, fun p o n1 e1 => ?_, ?_⟩
  · rw [upd_ne (Ne.symm nd)]
    exact ex
  · rw [upd_ne (ne_of_none e1 hd)]
    exact mv0 p o n1 e1
  · by_cases mem : (x.toNat, y.toNat) ∈ ps
    · have any : (kvs.any fun kv => decide (kv.1 = ([.inl x, .inl y] : List Key))) = true := by
        have : ky (x.toNat, y.toNat) ∈ kvs.map (·.1) := by
          rw [k]
          exact List.mem_map.mpr ⟨_, mem, rfl⟩
        obtain ⟨p, hp, ep⟩ := List.mem_map.mp this
        exact List.any_eq_true.mpr ⟨p, hp, decide_eq_true (ep.trans kk.symm)⟩
      refine ⟨_, ps, upd_same, ?_, l.imp id fun l => Nat.le_succ_of_le l, g, hc ps ps (fun e => ⟨.inl, fun h => h.elim id fun h => h ▸ mem⟩) c⟩
      unfold putK
      rw [if_pos any, List.map_map, ← k]
      refine List.map_congr_left fun p _ => ?_
      show (if p.1 = _ then (p.1, v) else p).1 = p.1
      split <;> rfl
    · have no : valV kvs ([.inl x, .inl y] : List Key) = none := by
        cases ev : valV kvs ([.inl x, .inl y] : List Key) with
        | none => rfl
        | some u =>
          have := valV_in ev
          rw [k, kk] at this
          obtain ⟨f, hf, ef⟩ := List.mem_map.mp this
          rw [ky_inj ef] at hf
          exact absurd hf mem
      refine ⟨_, ps ++ [(x.toNat, y.toNat)], upd_same, ?_, l.imp id fun l => by rw [List.length_append]; exact Nat.succ_le_succ l, ⟨fun f hf => ?_, ?_⟩, hc ps _ (fun e => by rw [List.mem_append, List.mem_singleton]) c⟩
      · rw [putK_new _ no, List.map_append, List.map_append, k, kk]
        rfl
      · rcases List.mem_append.mp hf with hf | hf
        · exact g.lt f hf
        · cases List.mem_singleton.mp hf
          show x.toNat < y.toNat ∧ y.toNat < m
          omega
      · refine List.nodup_append.mpr ⟨g.nd, List.nodup_cons.mpr ⟨List.not_mem_nil, List.nodup_nil⟩, fun f hf f' hf' e => ?_⟩
        cases List.mem_singleton.mp hf'
        exact mem (e ▸ hf)
theorem WI.get {H Hc : Hp} {a d b : Addr} {m n : Nat} {i j : Int} {C : List (Nat × Nat) → Prop} (h : WI H a d m n C Hc) (hb : Hc b = none) (hi : 0 ≤ i) (hj : 0 ≤ j) : ∃ o, DGet (upd Hc b (.tup [.int i, .int j])) d (.ref b) o ∧ (o.isSome = true → WI H a d m n (fun ps => C ps ∧ (i.toNat, j.toNat) ∈ ps) (upd Hc b (.tup [.int i, .int j]))) ∧ (¬ o.isSome = true → WI H a d m n (fun ps => C ps ∧ (i.toNat, j.toNat) ∉ ps) (upd Hc b (.tup [.int i, .int j]))) := by
  obtain ⟨st, mv, kvs, ps, e, k, l, g, c⟩ := h.new (o := .tup [.int i, .int j]) hb
  have kk : ([.inl i, .inl j] : List Key) = ky (i.toNat, j.toNat) := by
    show _ = [Sum.inl ((i.toNat : Nat) : Int), Sum.inl ((j.toNat : Nat) : Int)]
    rw [Int.toNat_of_nonneg hi, Int.toNat_of_nonneg hj]
  refine ⟨_, DGet.t (k := [.inl i, .inl j]) e upd_same, fun h => ⟨st, mv, kvs, ps, e, k, l, g, c, ?_⟩, fun h => ⟨st, mv, kvs, ps, e, k, l, g, c, fun mem => ?_⟩⟩
  · cases ev : valV kvs ([.inl i, .inl j] : List Key) with
    | none =>
      rw [ev] at h
      cases h
    | some u =>
      have := valV_in ev
      rw [k, kk] at this
      obtain ⟨f, hf, ef⟩ := List.mem_map.mp this
      rw [ky_inj ef] at hf
      exact hf
  · refine h ?_
    cases ev : valV kvs ([.inl i, .inl j] : List Key) with
    | none =>
      refine absurd (List.mem_map.mpr ⟨_, mem, rfl⟩ : ky (i.toNat, j.toNat) ∈ ps.map ky) ?_
      rw [← k, ← kk]
      exact valV_not ev
    | some u => rfl
noncomputable def TT (i : Nat) (ps : List (Nat × Nat)) : Prop := ∀ k, 0 < k → k ≤ i → ∃ p, p < k ∧ (p, k) ∈ ps
theorem TT.mono {i : Nat} {ps qs : List (Nat × Nat)} (h : TT i ps) (s : ∀ e, e ∈ ps → e ∈ qs) : TT i qs := fun k h0 h1 => by
  obtain ⟨p, l, m⟩ := h k h0 h1
  exact ⟨p, l, s _ m⟩
theorem TT.succ {i p : Nat} {ps : List (Nat × Nat)} (h : TT i ps) (l : p < i + 1) (m : (p, i + 1) ∈ ps) : TT (i + 1) ps := fun k h0 h1 => by
  by_cases c : k = i + 1
  · rw [c]
    exact ⟨p, l, m⟩
  · exact h k h0 (by omega)
noncomputable def Like (p k j : Nat) (ps : List (Nat × Nat)) : Prop := ∀ q, q < j → (min q p, max q p) ∈ ps → (q, k) ∈ ps
theorem like_end {i p : Nat} {ps : List (Nat × Nat)} (h : TT i ps) (i1 : 0 < i) (hp : p < i + 1) (l : Like p (i + 1) (i + 1) ps) : TT (i + 1) ps := by
  have : ∃ q, q < i + 1 ∧ (min q p, max q p) ∈ ps := by
    by_cases c : p = 0
    · obtain ⟨q, hq, m⟩ := h 1 (by omega) (by omega)
      obtain rfl : q = 0 := by omega
      refine ⟨1, by omega, ?_⟩
      rw [c]
      exact m
    · obtain ⟨q, hq, m⟩ := h p (by omega) (by omega)
      refine ⟨q, by omega, ?_⟩
      rw [Nat.min_eq_left (by omega), Nat.max_eq_right (by omega)]
      exact m
  obtain ⟨q, hq, m⟩ := this
  exact h.succ hq (l q hq m)
theorem mod_ne {x y m : Int} (x0 : 0 ≤ x) (x1 : x < m) (y0 : 0 ≤ y) (y1 : y < m - 1) : (x + 1 + y) % m ≠ x := by
  by_cases c : x + 1 + y < m
  · rw [Int.emod_eq_of_lt (by omega) c]
    omega
  · have e : x + 1 + y = (x + 1 + y - m) + m := by omega
    rw [e, Int.add_emod_right, Int.emod_eq_of_lt (by omega) (by omega)]
    omega
inductive spWebI (K : Frag) (vs : List V) (H : Hp) (Q : VK) : Prop
  | mk : ∀ (a : Addr) (mo : Int), (vs = [.ref a, .int mo]) → ((mo = 9 ∨ mo = 24)) → (StA H a) → (∀ (m : Nat) v H' es, 1 ≤ m → m ≤ 60 → StA H' a → Mv a H H' → WebC K H' v m es → Gr.Good m es → Gr.Conn m es → es.length ≤ 1000 → Q (.ref v) H') → spWebI K vs H Q
noncomputable def spWeb (K : Frag) : Sp := fun vs H Q _E3 => spWebI K vs H Q
noncomputable def webN : List Str := ["pool", "most", "many", "shape", "ties", "k", "ahead", "place", "one", "other"]
theorem andV_split {ta tb : TE} {Q : VK} {σ : St} {H : Hp} (R : Bool → Prop) (hk : ∀ b, R b → Q (.bl b) H) (h : ∀ Q' : VK, (∀ b, R b → Q' (.bl b) H) → tAndV ta tb σ H Q') : tAndV ta tb σ H Q := h Q hk
noncomputable abbrev stW (a : Addr) (mo : Int) (d : Addr) (m : Nat) (sh : Int) (v5 v6 v7 v8 v9 : Option V) : St := [some (.ref a), some (.int mo), some (.int m), some (.int sh), some (.ref d), v5, v6, v7, v8, v9]
theorem prs_of {K : Frag} {H : Hp} : ∀ {ys : List V} {es : List (Nat × Nat)}, ys.length = es.length → (∀ (i : Nat) y e, ys[i]? = some y → es[i]? = some e → Pr K H y e) → Prs K H ys es
  | [], [], _, _ => .nil
  | _ :: _, _ :: _, l, h => .cons (h 0 _ _ rfl rfl) (prs_of (Nat.succ.inj l) fun i y e h1 h2 => h (i + 1) y e h1 h2)
section
variable {P : Program} {w : World} {K : Frag} {mg : Str → Option Value} {base : Heap}
theorem scWeb : FnScope webN ["pool", "most"] (defScope sWeb) := ⟨rfl, rfl, rfl, by decide +kernel, rfl, by decide +kernel, by decide +kernel⟩
theorem ok_web {f : Addr} {fd : FuncData} (F : Fun K "_law_web" "_law_web" sWeb f fd) (T : Txt K mg) (hT : Has P w K mg base 1 "_law_take" ["pool", "many"] spTake) (hN : Has P w K mg base 3 "_law_named" ["pool", "many", "ties"] (spNamed K)) : FnOk P w K mg base CX0 4 f fd ["pool", "most"] (spWeb K) := by
  refine F.ok scWeb (fun vs H Q E h => ?_) (fun cdv A outer s H vs Q E hr h => ?_)
  · obtain ⟨a, mo, rfl, _⟩ := h
    rfl
  · obtain ⟨a, mo, rfl, hmo, st, q⟩ := h
    have hu : _ + 1 < cLine := Nat.lt_of_le_of_lt (Nat.add_le_add_left (by decide : 1 ≤ 64) _) hr.units
    have hr1 := hr.mono (show 1 ≤ 3 by decide)
    refine ⟨_, pss_cons (ps_set (i := 2) scWeb.nd rfl (Or.inl rfl) (pe_op op_add pe_int (pe_has hT hr1 rfl (pa_cons (pv 0) (pa_cons (pv 1) pa_nil)))))
      (pss_cons (ps_set (i := 3) scWeb.nd rfl (Or.inl rfl) (pe_has hT hr1 rfl (pa_cons (pv 0) (pa_cons (pe_ix ix_list (pe_lst (pa_cons pe_int (pa_cons pe_int pa_nil))) (pe_callTy call_int1 (by rfl) T.int PyProof.Rows.boot_int (pa_cons (pe_cmpR op_gt (pv 1) pe_int (nomark _)) pa_nil)) (fun _ _ => rfl)) pa_nil))))
      (pss_cons (ps_set (i := 4) scWeb.nd rfl (Or.inl rfl) pe_dnewT)
      (pss_cons (ps_for PassesOwn.never rfl (pi_range2 rfl T.range (pa_cons pe_int (pa_cons (pv 2) pa_nil))) (pg_name (i := 5) scWeb.nd rfl (Or.inl rfl))
        (pss_cons (ps_set (i := 6) scWeb.nd rfl (Or.inl rfl) (pe_has hT hr1 rfl (pa_cons (pv 0) (pa_cons (pv 5) pa_nil))))
        (pss_cons (ps_if (pt_cmpR op_eq (pv 3) pe_int (nomark _)) (pss_one (ps_set (i := 6) scWeb.nd rfl (Or.inl rfl) (pe_op op_sub (pv 5) pe_int))) pss_nil)
        (pss_cons (ps_if (PW.pt (pw_and (pt_cmpR op_eq (pv 3) pe_int (nomark _)) (pw_and1 (pt_cmpR op_gt (pv 5) pe_int (nomark _)))))
          (pss_one (ps_for PassesOwn.never rfl (pi_range1 rfl T.range (pa_cons (pv 5) pa_nil)) (pg_name (i := 7) scWeb.nd rfl (Or.inl rfl))
            (pss_one (ps_if (pt_cmp (pc_din hu (pe_tup (pa_cons (pe_callB (call_min2 rfl) (by rfl) T.min PyProof.Rows.boot_min (pa_cons (pv 7) (pa_cons (pv 6) pa_nil))) (pa_cons (pe_callB (call_max2 rfl) (by rfl) T.max PyProof.Rows.boot_max (pa_cons (pv 7) (pa_cons (pv 6) pa_nil))) pa_nil))) (pv 4)))
              (pss_one (ps_dput hu (pv 4) (pe_tup (pa_cons (pv 7) (pa_cons (pv 5) pa_nil))) pe_bl rfl)) pss_nil)))) pss_nil)
        (pss_cons (ps_if (pt_cmpR op_eq (pv 3) pe_int (nomark _)) (pss_one (ps_for PassesOwn.never rfl (pi_range1 rfl T.range (pa_cons (pv 5) pa_nil)) (pg_name (i := 7) scWeb.nd rfl (Or.inl rfl))
            (pss_one (ps_dput hu (pv 4) (pe_tup (pa_cons (pv 7) (pa_cons (pv 5) pa_nil))) pe_bl rfl)))) pss_nil)
        (pss_one (ps_if (PW.pt (pw_or (pt_cmpR op_lt (pv 3) pe_int (nomark _)) (pw_or (pt_cmpR op_eq (pv 5) pe_int (nomark _)) (pw_or1 (pt_cmpR op_eq (pe_has hT hr1 rfl (pa_cons (pv 0) (pa_cons pe_int pa_nil))) pe_int (nomark _))))))
          (pss_one (ps_dput hu (pv 4) (pe_tup (pa_cons (pv 6) (pa_cons (pv 5) pa_nil))) pe_bl rfl)) pss_nil)))))))
      (pss_cons (ps_if (PW.pt (pw_and (pt_cmpR op_eq (pv 3) pe_int (nomark _)) (pw_and (pt_cmpR op_gt (pv 2) pe_int (nomark _)) (pw_and1 (pt_cmpR op_gt (pe_has hT hr1 rfl (pa_cons (pv 0) (pa_cons pe_int pa_nil))) pe_int (nomark _))))))
          (pss_one (ps_dput hu (pv 4) (pe_tup (pa_cons pe_int (pa_cons (pe_op op_sub (pv 2) pe_int) pa_nil))) pe_bl rfl)) pss_nil)
      (pss_cons (ps_for PassesOwn.never rfl (pi_range1 rfl T.range (pa_cons (pe_op op_mul (pe_has hT hr1 rfl (pa_cons (pv 0) (pa_cons pe_int pa_nil))) (pe_callTy call_int1 (by rfl) T.int PyProof.Rows.boot_int (pa_cons (pe_and (pe_cmpR op_eq (pv 3) pe_int (nomark _)) (pe_one (pe_cmpR op_gt (pv 2) pe_int (nomark _)))) pa_nil))) pa_nil)) (pg_name (i := 5) scWeb.nd rfl (Or.inl rfl))
          (pss_cons (ps_set (i := 8) scWeb.nd rfl (Or.inl rfl) (pe_has hT hr1 rfl (pa_cons (pv 0) (pa_cons (pv 2) pa_nil))))
          (pss_cons (ps_set (i := 9) scWeb.nd rfl (Or.inl rfl) (pe_op op_mod (pe_op op_add (pe_op op_add (pv 8) pe_int) (pe_has hT hr1 rfl (pa_cons (pv 0) (pa_cons (pe_op op_sub (pv 2) pe_int) pa_nil)))) (pv 2)))
          (pss_one (ps_dput hu (pv 4) (pe_tup (pa_cons (pe_callB (call_min2 rfl) (by rfl) T.min PyProof.Rows.boot_min (pa_cons (pv 8) (pa_cons (pv 9) pa_nil))) (pa_cons (pe_callB (call_max2 rfl) (by rfl) T.max PyProof.Rows.boot_max (pa_cons (pv 8) (pa_cons (pv 9) pa_nil))) pa_nil))) pe_bl rfl)))))
      (pss_one (ps_ret (pe_has hN hr rfl (pa_cons (pv 0) (pa_cons (pv 2) (pa_cons (pe_callTy (call_listT rfl) (by rfl) T.list PyProof.Rows.boot_list (pa_cons (pv 4) pa_nil)) pa_nil))))))))))), ?_⟩
    refine ⟨_, rfl, _, rfl, a, mo, rfl, by omega, by omega, st, fun r H1 r0 r1 st1 mv1 => ⟨1, r, rfl, rfl, ?_⟩⟩
    obtain ⟨m, em⟩ : ∃ m : Nat, 1 + r = m := ⟨(1 + r).toNat, by omega⟩
    have m1 : 1 ≤ m := by omega
    have m60 : m ≤ 60 := by omega
    dsimp only
    rw [em]
    refine ⟨_, rfl, (by show 2 ≤ sizeLine; decide), fun u0 hu0 => ?_⟩
    have s0 := new_same (o := .lst [.int 5, .int 3]) hu0
    obtain ⟨ms, hms, ms0, ms5, msm⟩ : ∃ ms : Int, atI [V.int 5, .int 3] (if decide (mo > 9) = true then 1 else 0) = some (.int ms) ∧ 0 < ms ∧ ms ≤ 5 ∧ (3 < ms → m ≤ 12) := by
      rcases hmo with rfl | rfl
      · exact ⟨5, rfl, by decide, by decide, fun _ => by omega⟩
      · exact ⟨3, rfl, by decide, by decide, fun h => absurd h (by decide)⟩
    refine ⟨_, rfl, _, _, rfl, rfl, .inr ⟨_, rfl, u0, _, _, .int ms, rfl, rfl, SqL.of upd_same, hms, ?_⟩⟩
    refine ⟨a, ms, rfl, ms0, by omega, st1.mono s0, fun sh H2 h0 h1 st2 mv2 => fun d hd => ?_⟩
    have shm : 3 ≤ sh → m ≤ 12 := fun h => msm (by omega)
    have mv12 := (mv1.trans (Mv.of s0)).trans mv2
    have nda : d ≠ a := st_ne st2 hd
    have hdH : H d = none := by
      cases e : H d with
      | none => rfl
      | some o =>
        rw [mv12 _ _ nda e] at hd
        cases hd
    have w0 : WI H a d m 0 (TT 0) (upd H2 d (.dT [])) := ⟨st_new st2 hd, mv12.trans (Mv.of (new_same hd)), [], [], upd_same, rfl, .inr (Nat.le_refl _), ⟨fun e h => (nomatch h), List.nodup_nil⟩, fun k h0 h1 => by omega⟩
    generalize upd H2 d (.dT []) = H3 at w0 ⊢
    refine ⟨_, rfl, 1, m, rfl, ⟨by decide, by decide, by omega, by omega⟩, for_range (lo := 1) (n := ((m : Int) - 1).toNat) (fun i σ Hc => ∃ v5 v6 v7 : Option V, σ = stW a mo d m sh v5 v6 v7 none none ∧ WI H a d m i (TT i) Hc) ⟨none, none, none, rfl, w0⟩ ?_ ?_⟩
    · rintro i σ Hc hi ⟨v5, v6, v7, rfl, wi⟩
      have him : i + 1 < m := by omega
      refine ⟨_, rfl, _, rfl, a, _, rfl, (by omega), (by omega), wi.1, fun r6 H5 r60 r61 st5 mv5 => ?_⟩
      have w5 := wi.take nda st5 mv5
      clear wi mv5 st5
      dsimp only [gName, tSeq, tAsg, tC]
      refine if_split (fun σ' H' => ∃ p : Nat, p < i + 1 ∧ σ' = stW a mo d m sh (some (.int (1 + (i : Int)))) (some (.int p)) v7 none none ∧ H' = H5) ?_ ?_
      · rintro σ' H' ⟨p, hp, rfl, rfl⟩
        dsimp only [gName, tSeq, tAsg, tC]
        refine if_split (fun σ' H' => ∃ v7 : Option V, σ' = stW a mo d m sh (some (.int (1 + (i : Int)))) (some (.int p)) v7 none none ∧ WI H a d m i (fun ps => TT i ps ∧ (sh = 4 → 0 < i → TT (i + 1) ps)) H') ?_ ?_
        · rintro σ' H6 ⟨v7, rfl, w6⟩
          dsimp only [gName, tSeq, tAsg, tC]
          refine if_split (fun σ' H' => ∃ v7 : Option V, σ' = stW a mo d m sh (some (.int (1 + (i : Int)))) (some (.int p)) v7 none none ∧ WI H a d m i (fun ps => TT i ps ∧ (3 ≤ sh → 0 < i → TT (i + 1) ps)) H') ?_ ?_
          · rintro σ' H7 ⟨v7, rfl, w7⟩
            have fin : ∀ H8, WI H a d m i (TT i) H8 → ∀ b, H8 b = none → ∃ a' H4, V.ref d = .ref a' ∧ DPut (upd H8 b (.tup [.int (p : Int), .int (1 + (i : Int))])) a' (.ref b) (.bl true) H4 ∧ ∃ v5 v6 v7' : Option V, stW a mo d m sh (some (.int (1 + (i : Int)))) (some (.int p)) v7 none none = stW a mo d m sh v5 v6 v7' none none ∧ WI H a d m (i + 1) (TT (i + 1)) H4 := by
              intro H8 w8 b hb
              obtain ⟨H4, g, w9⟩ := w8.put (C' := TT (i + 1)) (v := .bl true) (x := (p : Int)) (y := 1 + (i : Int)) hdH nda hb (by omega) (by omega) (by omega) (by omega) fun ps qs hq t => by
                refine (t.mono fun e he => (hq e).mpr (.inl he)).succ (p := p) hp ((hq _).mpr (.inr ?_))
                rw [Int.toNat_natCast, show (1 + (i : Int)).toNat = i + 1 by omega]
              exact ⟨d, H4, rfl, g, _, _, _, rfl, w9⟩
            have w7a := w7.mono (n' := i) (C' := TT i) (Nat.le_refl _) fun ps h => h.1
            refine ⟨_, rfl, _, _, rfl, rfl, _, rfl, ite2 (fun c => ?_) (fun c => ?_)⟩
            · exact ⟨_, rfl, _, rfl, _, rfl, (by show 2 ≤ sizeLine; decide), fun b hb => fin _ w7a b hb⟩
            · have c3 : 3 ≤ sh := by
                have : ¬ sh < 3 := fun h => c (decide_eq_true h)
                omega
              refine ⟨_, rfl, rfl, _, rfl, ite2 (fun c => ?_) (fun c => ?_)⟩
              · exact ⟨_, rfl, _, rfl, _, rfl, (by show 2 ≤ sizeLine; decide), fun b hb => fin _ w7a b hb⟩
              · have ci : 0 < i := by
                  rcases Nat.eq_zero_or_pos i with rfl | h
                  · exact absurd rfl c
                  · exact h
                refine ⟨_, rfl, a, 2, rfl, by decide, by decide, w7.1, fun r8 H8 _ _ st8 mv8 => ⟨rfl, _, rfl, ite2 (fun c => ?_) (fun c => ?_)⟩⟩
                · exact ⟨_, rfl, _, rfl, _, rfl, (by show 2 ≤ sizeLine; decide), fun b hb => fin _ (w7a.take nda st8 mv8) b hb⟩
                · exact ⟨_, _, _, rfl, (w7.take nda st8 mv8).mono (by omega) fun ps h => h.2 c3 ci⟩
          · intro nx hnx
            refine ⟨_, rfl, rfl, _, rfl, ite2 (fun c => ?_) (fun c => ?_)⟩
            · have s3 : sh = 3 := by simpa using c
              have m12 := shm (by omega)
              refine ⟨_, rfl, (1 + (i : Int)), rfl, by omega, by omega, for_range (lo := 0) (n := (1 + (i : Int)).toNat) (fun j σ Hc => ∃ v7 : Option V, σ = stW a mo d m sh (some (.int (1 + (i : Int)))) (some (.int p)) v7 none none ∧ WI H a d m i (fun ps => TT i ps ∧ (0 < j → TT (i + 1) ps)) Hc) ⟨_, rfl, w6.mono (Nat.le_refl _) fun ps h => ⟨h.1, fun h => by omega⟩⟩ ?_ ?_⟩
              · rintro j σ H8 hj ⟨v7, rfl, w8⟩
                refine ⟨_, rfl, _, rfl, _, rfl, (by show 2 ≤ sizeLine; decide), fun b hb => ?_⟩
                obtain ⟨H4, g, w9⟩ := w8.put (C' := fun ps => TT i ps ∧ (0 < j + 1 → TT (i + 1) ps)) (v := .bl true) (x := 0 + (j : Int)) (y := 1 + (i : Int)) hdH nda hb (by omega) (by omega) (by omega) (by omega) fun ps qs hq t => by
                  have t' := t.1.mono fun e he => (hq e).mpr (.inl he)
                  refine ⟨t', fun _ => t'.succ (p := j) (by omega) ((hq _).mpr (.inr ?_))⟩
                  rw [show (0 + (j : Int)).toNat = j by omega, show (1 + (i : Int)).toNat = i + 1 by omega]
                obtain ⟨q1, q2, kvs, ps, e, k, l, g', c'⟩ := w9
                exact ⟨d, H4, rfl, g, _, rfl, q1, q2, kvs, ps, e, k, .inl m12, g', c'⟩
              · rintro σ H8 ⟨v7, rfl, w8⟩
                exact hnx _ _ ⟨_, rfl, w8.mono (by omega) fun ps h => ⟨h.1, fun _ _ => h.2 (by omega)⟩⟩
            · have n3 : sh ≠ 3 := by simpa using c
              exact hnx _ _ ⟨_, rfl, w6.mono (by omega) fun ps h => ⟨h.1, fun h3 hi => h.2 (by omega) hi⟩⟩
        · intro nx hnx
          refine ⟨_, rfl, rfl, _, rfl, ite2 (fun c => ?_) (fun c => ?_)⟩
          · have s4 : sh = 4 := by simpa using c
            have m12 := shm (by omega)
            refine ⟨_, rfl, _, _, rfl, rfl, _, rfl, ite2 (fun c => ?_) (fun c => ?_)⟩
            · have ci : 0 < i := by
                have := of_decide_eq_true c
                omega
              refine ⟨_, rfl, (1 + (i : Int)), rfl, by omega, by omega, for_range (lo := 0) (n := (1 + (i : Int)).toNat) (fun j σ Hc => ∃ v7 : Option V, σ = stW a mo d m sh (some (.int (1 + (i : Int)))) (some (.int p)) v7 none none ∧ WI H a d m i (fun ps => TT i ps ∧ Like p (i + 1) j ps) Hc) ⟨_, rfl, w5.mono (Nat.le_refl _) fun ps h => ⟨h, fun q hq => by omega⟩⟩ ?_ ?_⟩
              · rintro j σ H8 hj ⟨v7, rfl, w8⟩
                have hjk : j < i + 1 := by omega
                refine ⟨_, rfl, _, rfl, _, _, rfl, _, rfl, _, rfl, _, _, rfl, (by show 2 ≤ sizeLine; decide), fun b hb => ?_⟩
                obtain ⟨o, g, wy, wn⟩ := w8.get (i := if (p : Int) < 0 + (j : Int) then (p : Int) else 0 + (j : Int)) (j := if (p : Int) > 0 + (j : Int) then (p : Int) else 0 + (j : Int)) hb (by split <;> omega) (by split <;> omega)
                have e1 : (if (p : Int) < 0 + (j : Int) then (p : Int) else 0 + (j : Int)).toNat = min j p := by split <;> omega
                have e2 : (if (p : Int) > 0 + (j : Int) then (p : Int) else 0 + (j : Int)).toNat = max j p := by split <;> omega
                rw [e1, e2] at wy wn
                refine ⟨_, rfl, d, o, rfl, g, _, rfl, ite2 (fun c => ?_) (fun c => ?_)⟩
                · refine ⟨_, rfl, _, rfl, _, rfl, (by show 2 ≤ sizeLine; decide), fun b2 hb2 => ?_⟩
                  obtain ⟨H4, g, w9⟩ := (wy c).put (C' := fun ps => TT i ps ∧ Like p (i + 1) (j + 1) ps) (v := .bl true) (x := 0 + (j : Int)) (y := 1 + (i : Int)) hdH nda hb2 (by omega) (by omega) (by omega) (by omega) fun ps qs hq t => by
                    rw [show (0 + (j : Int)).toNat = j by omega, show (1 + (i : Int)).toNat = i + 1 by omega] at hq
                    refine ⟨t.1.1.mono fun e he => (hq e).mpr (.inl he), fun q hqj mem => ?_⟩
                    by_cases cq : q = j
                    · exact (hq _).mpr (.inr (by rw [cq]))
                    · rcases (hq _).mp mem with mem | mem
                      · exact (hq _).mpr (.inl (t.1.2 q (by omega) mem))
                      · have := congrArg Prod.snd mem
                        have : max q p = i + 1 := this
                        omega
                  obtain ⟨q1, q2, kvs, ps, e, k, l, g', c'⟩ := w9
                  exact ⟨d, H4, rfl, g, _, rfl, q1, q2, kvs, ps, e, k, .inl m12, g', c'⟩
                · refine ⟨_, rfl, (wn c).mono (Nat.le_refl _) fun ps h => ⟨h.1.1, fun q hqj mem => ?_⟩⟩
                  by_cases cq : q = j
                  · rw [cq] at mem
                    exact absurd mem h.2
                  · exact h.1.2 q (by omega) mem
              · rintro σ H8 ⟨v7, rfl, w8⟩
                refine hnx _ _ ⟨_, rfl, w8.mono (by omega) fun ps h => ⟨h.1, fun _ _ => ?_⟩⟩
                have e : (1 + (i : Int)).toNat = i + 1 := by omega
                have h2 := h.2
                rw [e] at h2
                exact like_end h.1 ci hp h2
            · have ci : ¬ 0 < i := fun h => c (decide_eq_true (by omega))
              exact hnx _ _ ⟨_, rfl, w5.mono (by omega) fun ps h => ⟨h, fun _ h' => absurd h' ci⟩⟩
          · have n4 : sh ≠ 4 := by simpa using c
            exact hnx _ _ ⟨_, rfl, w5.mono (by omega) fun ps h => ⟨h, fun h' => absurd h' n4⟩⟩
      · intro nx hnx
        refine ⟨_, rfl, rfl, _, rfl, ite2 (fun c => ?_) (fun c => ?_)⟩
        · refine ⟨_, rfl, _, _, rfl, rfl, hnx _ _ ⟨i, by omega, ?_, rfl⟩⟩
          have e : (1 + (i : Int)) - 1 = i := by omega
          try dsimp only
          rw [e]
          rfl
        · refine hnx _ _ ⟨r6.toNat, by omega, ?_, rfl⟩
          rw [Int.toNat_of_nonneg r60]
          rfl
    · rintro σ H5 ⟨v5, v6, v7, rfl, wi⟩
      have w5 : WI H a d m 60 (TT (m - 1)) H5 := wi.mono (by omega) fun ps h => by rwa [show ((m : Int) - 1).toNat = m - 1 by omega] at h
      clear wi
      dsimp only [gName, tSeq, tAsg, tC]
      refine if_split (fun σ' H' => σ' = stW a mo d m sh v5 v6 v7 none none ∧ WI H a d m 61 (TT (m - 1)) H') ?_ ?_
      · rintro σ' H6 ⟨rfl, w6⟩
        refine ⟨_, rfl, a, 7, rfl, by decide, by decide, w6.1, fun r7 H7 r70 r71 st7 mv7 => ?_⟩
        have w7 := w6.take nda st7 mv7
        refine andV_split (fun b => b = true → 1 < m) ?_ ?_
        · intro b hb
          obtain ⟨n, hn, zp, z7, zm, zc⟩ : ∃ n : Int, r7 * (if b = true then (1 : Int) else 0) = n ∧ 0 ≤ n ∧ n ≤ 6 ∧ (0 < n → 1 < m) ∧ CMul r7 (if b = true then (1 : Int) else 0) := by
            cases b with
            | true => exact ⟨r7, Int.mul_one _, by omega, by omega, fun _ => hb rfl, .inr ⟨by decide, by decide⟩⟩
            | false => exact ⟨0, Int.mul_zero _, by omega, by omega, fun h => by omega, .inr ⟨by decide, by decide⟩⟩
          refine .inr ⟨b, rfl, r7, _, rfl, rfl, zc, n, congrArg (fun x => [V.int x]) hn, by omega, by omega, for_range (lo := 0) (n := n.toNat) (fun j σ Hc => ∃ v5 v8 v9 : Option V, σ = stW a mo d m sh v5 v6 v7 v8 v9 ∧ WI H a d m (61 + j) (TT (m - 1)) Hc) ⟨_, _, _, rfl, w7⟩ ?_ ?_⟩
          · rintro j σ H8 hj ⟨v5, v8, v9, rfl, w8⟩
            have hm := zm (by omega)
            refine ⟨_, rfl, _, rfl, a, _, rfl, (by omega), (by omega), w8.1, fun x H9 x0 x1 st9 mv9 => ?_⟩
            have w9 := w8.take nda st9 mv9
            refine ⟨_, rfl, _, _, rfl, rfl, _, rfl, _, rfl, _, _, rfl, rfl, a, _, rfl, (by omega), (by omega), w9.1, fun y H10 y0 y1 st10 mv10 => ⟨_, _, rfl, rfl, _, rfl, _, _, rfl, rfl, (by omega), ?_⟩⟩
            have w10 := w9.take nda st10 mv10
            have o0 : 0 ≤ (x + 1 + y) % (m : Int) := Int.emod_nonneg _ (by omega)
            have o1 : (x + 1 + y) % (m : Int) < m := Int.emod_lt_of_pos _ (by omega)
            have o2 : (x + 1 + y) % (m : Int) ≠ x := mod_ne x0 x1 y0 y1
            dsimp only
            generalize (x + 1 + y) % (m : Int) = o at o0 o1 o2 ⊢
            refine ⟨_, rfl, _, rfl, _, rfl, _, _, rfl, _, rfl, _, rfl, _, _, rfl, (by show 2 ≤ sizeLine; decide), fun b hb => ?_⟩
            obtain ⟨H4, g, w11⟩ := w10.put (C' := TT (m - 1)) (v := .bl true) (x := if o < x then o else x) (y := if o > x then o else x) hdH nda hb (by split <;> omega) (by split <;> split <;> omega) (by split <;> omega) (by omega) fun ps qs hq t => t.mono fun e he => (hq e).mpr (.inl he)
            exact ⟨d, H4, rfl, g, _, _, _, rfl, w11⟩
          · rintro σ H8 ⟨v5, v8, v9, rfl, w8⟩
            obtain ⟨st8, mv8, kvs, ps, ed, kp, ln, gd, tt⟩ := w8
            have lnp : kvs.length = ps.length := by
              have := congrArg List.length kp
              rwa [List.length_map, List.length_map] at this
            have few : ps.length ≤ 1000 := by
              have h3 := codes_len gd
              rcases ln with l | l
              · have : m * m ≤ 12 * 12 := Nat.mul_le_mul l l
                omega
              · omega
            refine ⟨_, rfl, _, rfl, _, rfl, d, kvs, rfl, ed, fun bs l kb hl => ⟨a, l, m, bs.map V.ref, ps, rfl, m1, m60, st_new st8 hl, SqL.of upd_same, st_ne st8 hl, ?_, gd, ?_, few, ?_⟩⟩
            · refine prs_of (by rw [List.length_map, kb.1, lnp]) fun i y e hy he => ?_
              rw [List.getElem?_map] at hy
              cases eb : bs[i]? with
              | none => rw [eb] at hy; cases hy
              | some b =>
                rw [eb] at hy
                cases hy
                have li : i < kvs.length := by
                  rw [← kb.1]
                  exact (List.getElem?_eq_some_iff.mp eb).1
                have e3 := kb.2 i b kvs[i] eb (List.getElem?_eq_getElem li)
                have e4 : kvs[i].1 = ky e := by
                  have h1 : (kvs.map (·.1))[i]? = some kvs[i].1 := by rw [List.getElem?_map, List.getElem?_eq_getElem li]; rfl
                  rw [kp, List.getElem?_map, he] at h1
                  exact (Option.some.inj h1).symm
                rw [e4] at e3
                exact ⟨b, rfl, new_same hl _ _ e3⟩
            · exact Gr.conn_of fun k h0 hk => tt k h0 (by omega)
            · intro v H' es st' mv' wb g' c' le
              exact q m v H' es m1 m60 st' ((mv8.trans (Mv.of (new_same hl))).trans mv') wb g' c' (by omega)
        · intro Q' hQ
          refine ⟨_, rfl, rfl, _, rfl, ite2 (fun c => ?_) (fun c => ?_)⟩
          · refine ⟨_, rfl, _, _, rfl, rfl, hQ _ fun c2 => ?_⟩
            have := of_decide_eq_true c2
            omega
          · exact hQ _ fun c => by cases c
      · intro nx hnx
        refine ⟨_, rfl, rfl, _, rfl, ite2 (fun c => ?_) (fun c => ?_)⟩
        · refine ⟨_, rfl, _, _, rfl, rfl, _, rfl, ite2 (fun c => ?_) (fun c => ?_)⟩
          · have m2 : 2 < m := by
              have := of_decide_eq_true c
              omega
            refine ⟨_, rfl, a, 3, rfl, by decide, by decide, w5.1, fun r8 H8 _ _ st8 mv8 => ⟨_, _, rfl, rfl, _, rfl, ite2 (fun c => ?_) (fun c => ?_)⟩⟩
            · refine ⟨_, rfl, _, rfl, _, _, rfl, rfl, (by show 2 ≤ sizeLine; decide), fun b hb => ?_⟩
              obtain ⟨H4, g, w9⟩ := (w5.take nda st8 mv8).put (C' := TT (m - 1)) (v := .bl true) (x := 0) (y := (m : Int) - 1) hdH nda hb (by omega) (by omega) (by omega) (by omega) fun ps qs hq t => t.mono fun e he => (hq e).mpr (.inl he)
              exact ⟨d, H4, rfl, g, hnx _ _ ⟨rfl, w9⟩⟩
            · exact hnx _ _ ⟨rfl, (w5.take nda st8 mv8).mono (by omega) fun _ h => h⟩
          · exact hnx _ _ ⟨rfl, w5.mono (by omega) fun _ h => h⟩
        · exact hnx _ _ ⟨rfl, w5.mono (by omega) fun _ h => h⟩
end
end K42

namespace K42
open PySem L2 PySem.W
noncomputable abbrev nats (ns : List Nat) : List V := ns.map fun n : Nat => V.int n
structure LI (H : Hp) (L : Addr) (ls : List Addr) (m : Nat) (es : List (Nat × Nat)) (Hc : Hp) : Prop where
  same : Same H Hc
  top : Hc L = some (.lst (ls.map V.ref))
  len : ls.length = m
  nd : ls.Nodup
  ne : L ∉ ls
  hL : H L = none
  hl : ∀ x ∈ ls, H x = none
  row : ∀ (i : Nat) x, ls[i]? = some x → Hc x = some (.lst (nats (Gr.nbr es i)))
theorem nodup_at {ls : List Addr} (nd : ls.Nodup) {i j : Nat} {x : Addr} (h1 : ls[i]? = some x) (h2 : ls[j]? = some x) : i = j := by
  obtain ⟨l1, e1⟩ := List.getElem?_eq_some_iff.mp h1
  obtain ⟨l2, e2⟩ := List.getElem?_eq_some_iff.mp h2
  rcases Nat.lt_trichotomy i j with l | l | l
  · exact absurd (e1.trans e2.symm) (List.pairwise_iff_getElem.mp nd i j l1 l2 l)
  · exact l
  · exact absurd (e2.trans e1.symm) (List.pairwise_iff_getElem.mp nd j i l2 l1 l)
theorem LI.tie {H : Hp} {L : Addr} {ls : List Addr} {m : Nat} {es : List (Nat × Nat)} {Hc : Hp} (h : LI H L ls m es Hc) {a b : Nat} (hab : a < b) (hb : b < m) {x y : Addr} (hx : ls[a]? = some x) (hy : ls[b]? = some y) :
    x ≠ y ∧ LI H L ls m (es ++ [(a, b)]) (upd (upd Hc x (.lst (nats (Gr.nbr es a) ++ [V.int b]))) y (.lst (nats (Gr.nbr es b) ++ [V.int a]))) := by
  have nxy : x ≠ y := fun e => by
    rw [e] at hx
    have := nodup_at h.nd hx hy
    omega
  have mx := List.mem_of_getElem? hx
  have my := List.mem_of_getElem? hy
  have nL : ∀ z ∈ ls, L ≠ z := fun z hz e => h.ne (e ▸ hz)
  refine ⟨nxy, ⟨fun p o e => ?_, ?_, h.len, h.nd, h.ne, h.hL, h.hl, fun i z hz => ?_⟩⟩
  · rw [upd_ne (ne_of_none e (h.hl y my)), upd_ne (ne_of_none e (h.hl x mx))]
    exact h.same p o e
  · rw [upd_ne (nL y my), upd_ne (nL x mx)]
    exact h.top
  · rw [Gr.nbr_app]
    by_cases ia : i = a
    · subst ia
      rw [hx] at hz
      cases hz
      rw [upd_ne nxy, upd_same]
      show some (HO.lst _) = some (HO.lst ((Gr.nbr es i ++ Gr.nbr [(i, b)] i).map fun n : Nat => V.int n))
      rw [show Gr.nbr [(i, b)] i = [b] from by unfold Gr.nbr; rw [List.filterMap_cons, show Gr.nb i (i, b) = some b from if_pos rfl]; rfl, List.map_append]
      rfl
    · by_cases ib : i = b
      · subst ib
        rw [hy] at hz
        cases hz
        rw [upd_same]
        show some (HO.lst _) = some (HO.lst ((Gr.nbr es i ++ Gr.nbr [(a, i)] i).map fun n : Nat => V.int n))
        rw [show Gr.nbr [(a, i)] i = [a] from by unfold Gr.nbr; rw [List.filterMap_cons, show Gr.nb i (a, i) = some a from by unfold Gr.nb; rw [if_neg (Ne.symm ia), if_pos rfl]]; rfl, List.map_append]
        rfl
      · have nx : z ≠ x := fun e => by
          rw [e] at hz
          exact ia (nodup_at h.nd hz hx)
        have ny : z ≠ y := fun e => by
          rw [e] at hz
          exact ib (nodup_at h.nd hz hy)
        rw [upd_ne ny, upd_ne nx, h.row i z hz]
        show some (HO.lst _) = some (HO.lst ((Gr.nbr es i ++ Gr.nbr [(a, b)] i).map fun n : Nat => V.int n))
        rw [show Gr.nbr [(a, b)] i = [] from by unfold Gr.nbr; rw [List.filterMap_cons, show Gr.nb i (a, b) = none from by unfold Gr.nb; rw [if_neg (Ne.symm ia), if_neg (Ne.symm ib)]]; rfl, List.append_nil]
theorem at_ls {ls : List Addr} {m i : Nat} (len : ls.length = m) (h : i < m) : ∃ x, ls[i]? = some x ∧ atI (ls.map V.ref) (i : Int) = some (.ref x) := by
  have l : i < ls.length := by omega
  refine ⟨ls[i], List.getElem?_eq_getElem l, atI_nat ?_⟩
  rw [List.getElem?_map, List.getElem?_eq_getElem l]
  rfl
noncomputable def Rows (K : Frag) (H : Hp) (L : Addr) (m : Nat) (E : Nat → Nat → Prop) : Prop := ∃ ls : List Addr, SqL K H L (ls.map V.ref) ∧ ls.length = m ∧ ∀ (i : Nat) x, ls[i]? = some x → ∃ ns : List Nat, SqL K H x (nats ns) ∧ ∀ y, y ∈ ns ↔ E i y
inductive spNblI (K : Frag) (vs : List V) (H : Hp) (Q : VK) : Prop
  | mk : ∀ (v : Addr) (m : Nat) (es : List (Nat × Nat)), (vs = [.ref v]) → (WebC K H v m es) → (m ≤ 60) → (Gr.Good m es) → (es.length ≤ 1000) → (∀ L H', Same H H' → Rows K H' L m (Gr.Adj es) → Q (.ref L) H') → spNblI K vs H Q
noncomputable def spNbl (K : Frag) : Sp := fun vs H Q _E3 => spNblI K vs H Q
noncomputable abbrev nlN : List Str := ["web", "many", "ties", "lists", "one", "other"]
noncomputable abbrev scoL : Scope := stScope ((defBody sNbl).getD 1 (.Pass ⟨0, 0, 0, 0⟩))
theorem blockL : blockB nlN (defScope sNbl) scoL "place" ["place"] [] = true := by decide +kernel
noncomputable def NewL (H : Hp) (i : Nat) (zs : List V) (Hc : Hp) : Prop := Same H Hc ∧ ∃ ls : List Addr, zs = ls.map V.ref ∧ ls.length = i ∧ ls.Nodup ∧ (∀ x ∈ ls, H x = none) ∧ ∀ x ∈ ls, Hc x = some (.lst [])
theorem newL0 {H : Hp} : NewL H 0 [] H := ⟨Same.refl _, [], rfl, rfl, List.nodup_nil, fun _ h => (nomatch h), fun _ h => (nomatch h)⟩
theorem same_none {H H' : Hp} (s : Same H H') {p : Addr} (h : H' p = none) : H p = none := by
  cases e : H p with
  | none => rfl
  | some o =>
    rw [s _ _ e] at h
    cases h
theorem newL_put {H Hc : Hp} {i : Nat} {zs : List V} {p : Addr} (h : NewL H i zs Hc) (hp : Hc p = none) : NewL H (i + 1) (zs ++ [.ref p]) (upd Hc p (.lst [])) := by
  obtain ⟨s, ls, rfl, len, nd, h0, h1⟩ := h
  have sp := new_same (o := .lst []) hp
  refine ⟨s.trans sp, ls ++ [p], by rw [List.map_append]; rfl, by rw [List.length_append, len]; rfl, ?_, fun x hx => ?_, fun x hx => ?_⟩
  · refine List.nodup_append.mpr ⟨nd, List.nodup_cons.mpr ⟨List.not_mem_nil, List.nodup_nil⟩, fun x hx y hy e => ?_⟩
    cases List.mem_singleton.mp hy
    rw [e] at hx
    rw [h1 _ hx] at hp
    cases hp
  · rcases List.mem_append.mp hx with hx | hx
    · exact h0 x hx
    · cases List.mem_singleton.mp hx
      exact same_none s hp
  · rcases List.mem_append.mp hx with hx | hx
    · exact sp _ _ (h1 x hx)
    · cases List.mem_singleton.mp hx
      exact upd_same
theorem newL_end {H Hc : Hp} {m : Nat} {zs : List V} {L : Addr} (h : NewL H m zs Hc) (hL : Hc L = none) : ∃ ls, zs = ls.map V.ref ∧ LI H L ls m [] (upd Hc L (.lst zs)) := by
  obtain ⟨s, ls, rfl, len, nd, h0, h1⟩ := h
  have sp := new_same (o := .lst (ls.map V.ref)) hL
  refine ⟨ls, rfl, s.trans sp, upd_same, len, nd, fun hm => ?_, same_none s hL, h0, fun i x hx => sp _ _ (h1 x (List.mem_of_getElem? hx))⟩
  rw [h1 L hm] at hL
  cases hL
theorem LI.rows {K : Frag} {H : Hp} {L : Addr} {ls : List Addr} {m : Nat} {es : List (Nat × Nat)} {Hc : Hp} (h : LI H L ls m es Hc) : Rows K Hc L m (Gr.Adj es) := ⟨ls, SqL.of h.top, h.len, fun i x hx => ⟨_, SqL.of (h.row i x hx), fun y => Gr.mem_nbr⟩⟩
section
variable {P : Program} {w : World} {K : Frag} {mg : Str → Option Value} {base : Heap}
theorem scNl : FnScope nlN ["web"] (defScope sNbl) := ⟨rfl, rfl, rfl, by decide +kernel, rfl, by decide +kernel, by decide +kernel⟩
theorem ok_nbl {f : Addr} {fd : FuncData} (F : Fun K "neighbour_lists" "neighbour_lists" sNbl f fd) (T : Txt K mg) : FnOk P w K mg base CX0 1 f fd ["web"] (spNbl K) := by
  refine F.ok scNl (fun vs H Q E h => ?_) (fun cdv A outer s H vs Q E hr h => ?_)
  · obtain ⟨v, m, es, rfl, _⟩ := h
    rfl
  · obtain ⟨v, m, es, rfl, ⟨t, xs, hw, ht, hx⟩, m60, gd, few, q⟩ := h
    refine ⟨_, pss_cons (ps_asg (pv 0) (pg_tup rfl (pgs_cons (pg_name (i := 1) scNl.nd rfl (Or.inl rfl)) (pgs_cons (pg_name (i := 2) scNl.nd rfl (Or.inl rfl)) pgs_nil))))
      (pss_cons (ps_comp (j := 3) scNl.nd rfl rfl (NB := ["place"]) (ix := []) (BlockOk.of blockL) rfl (pi_range1 rfl T.range (pa_cons (pv 1) pa_nil)) (fun _ _ _ _ => pe_lst pa_nil) (fun _ _ _ _ => pts_nil) rfl)
      (pss_cons (ps_for PassesOwn.never rfl (pi_tup (pv 2)) (pg_tup rfl (pgs_cons (pg_name (i := 4) scNl.nd rfl (Or.inl rfl)) (pgs_cons (pg_name (i := 5) scNl.nd rfl (Or.inl rfl)) pgs_nil)))
        (pss_cons (ps_expr (pe_bm PySem.F.plainAttrs_list PySem.F.slot_list_append PySem.F.type_list_append mt_append (pe_ix ix_list (pv 3) (pv 4) (fun _ _ => rfl)) (pa_cons (pv 5) pa_nil)))
        (pss_one (ps_expr (pe_bm PySem.F.plainAttrs_list PySem.F.slot_list_append PySem.F.type_list_append mt_append (pe_ix ix_list (pv 3) (pv 5) (fun _ _ => rfl)) (pa_cons (pv 4) pa_nil))))))
      (pss_one (ps_ret (pv 3))))), ?_⟩
    refine ⟨_, rfl, v, _, rfl, .inl (.inl hw), rfl, _, _, rfl, _, _, rfl, rfl, _, rfl, (m : Int), rfl, by omega, by omega, comp_range (lo := 0) (n := (m : Int).toNat) (NewL H) newL0 ?_ ?_ ?_⟩
    · rintro i ys Hc hi ⟨_, ls, rfl, rfl, _⟩
      rw [List.length_map]
      exact Nat.lt_of_le_of_lt (show ls.length ≤ 60 by omega) (by decide)
    · rintro i ys Hc hi nl
      unfold tYes
      refine @iteT _ (_ ∧ _) ?_
      exact ⟨(by show 0 ≤ sizeLine; decide), fun p hp => newL_put nl hp⟩
    · intro zs Hc nl L hL
      rw [show (m : Int).toNat = m from rfl] at nl
      obtain ⟨ls, rfl, li⟩ := newL_end nl hL
      refine ⟨_, rfl, t, rfl, ⟨_, .inl (.inl (li.same _ _ ht))⟩, for_tup (xs := xs) (fun i σ Hd => ∃ v4 v5 : Option V, σ = [some (.ref v), some (.int m), some (.ref t), some (.ref L), v4, v5] ∧ LI H L ls m (es.take i) Hd) ⟨none, none, rfl, by rw [List.take_zero]; exact li⟩ ?_ ?_ ?_⟩
      · rintro i σ Hd _ ⟨_, _, _, li⟩
        exact .inl (.inl (li.same _ _ ht))
      · rintro i x σ Hd hxi ⟨v4, v5, rfl, li⟩
        obtain ⟨⟨a, b⟩, he, p, rfl, sq⟩ := hx.at hxi
        have lab : a < b ∧ b < m := gd.lt _ (List.mem_of_getElem? he)
        obtain ⟨xa, ha, ia⟩ := at_ls li.len (show a < m by omega)
        obtain ⟨xb, hb, ib⟩ := at_ls li.len lab.2
        obtain ⟨nab, li2⟩ := li.tie lab.1 lab.2 ha hb
        have ea := li.row a xa ha
        have eb := li.row b xb hb
        have l1 : (nats (Gr.nbr (es.take i) a)).length < sizeLine := by
          refine Nat.lt_of_le_of_lt (show _ ≤ 1000 from ?_) (by decide)
          rw [List.length_map]
          exact Nat.le_trans (List.length_filterMap_le ..) (by rw [List.length_take]; omega)
        have l2 : (nats (Gr.nbr (es.take i) b)).length < sizeLine := by
          refine Nat.lt_of_le_of_lt (show _ ≤ 1000 from ?_) (by decide)
          rw [List.length_map]
          exact Nat.le_trans (List.length_filterMap_le ..) (by rw [List.length_take]; omega)
        refine ⟨p, _, rfl, (.inl (.inl (li.same _ _ sq))), rfl, _, _, rfl, _, _, rfl, rfl, ?_⟩
        refine ⟨_, rfl, _, rfl, L, _, _, _, rfl, rfl, SqL.of li.top, ia, .inl ⟨rfl, _, SqL.of ea⟩, _, rfl, xa, _, _, rfl, rfl, ea, l1, ?_⟩
        have topU : upd Hd xa (.lst (nats (Gr.nbr (es.take i) a) ++ [V.int b])) L = some (.lst (ls.map V.ref)) := by
          have ne : L ≠ xa := fun e => li.ne (e ▸ List.mem_of_getElem? ha)
          rw [upd_ne ne]
          exact li.top
        have ebU : upd Hd xa (.lst (nats (Gr.nbr (es.take i) a) ++ [V.int b])) xb = some (.lst (nats (Gr.nbr (es.take i) b))) := by
          rw [upd_ne nab.symm]
          exact eb
        refine ⟨_, rfl, _, rfl, L, _, _, _, rfl, rfl, SqL.of topU, ib, .inl ⟨rfl, _, SqL.of ebU⟩, _, rfl, xb, _, _, rfl, rfl, ebU, l2, _, _, rfl, ?_⟩
        rw [List.take_succ, he]
        exact li2
      · rintro σ Hd ⟨v4, v5, rfl, li⟩
        rw [hx.len, List.take_length] at li
        exact ⟨_, rfl, q L Hd li.same li.rows⟩
end
end K42

namespace K42
open PySem L2 PySem.W
noncomputable def vo : Option Nat → V
  | none => .non
  | some d => .int (d : Int)
noncomputable def fl (f : Nat → Option Nat) (m : Nat) : List V := (List.range m).map fun x => vo (f x)
noncomputable def dl (E : Nat → Nat → Prop) (m p : Nat) : List V := (List.range m).map fun x => V.int ((Gr.dst E p x : Nat) : Int)
theorem fl_len {f : Nat → Option Nat} {m : Nat} : (fl f m).length = m := by
  unfold fl
  rw [List.length_map, List.length_range]
theorem ixN_nat {n x : Nat} (h : x < n) : ixN n (x : Int) = some x := by
  unfold ixN
  rw [if_pos (Int.natCast_nonneg x), if_pos (by omega), Int.toNat_natCast]
theorem map_range_at {g : Nat → V} {m x : Nat} (h : x < m) : ((List.range m).map g)[x]? = some (g x) := by
  rw [List.getElem?_map, List.getElem?_range h]
  rfl
theorem fl_at {f : Nat → Option Nat} {m x : Nat} (h : x < m) : atI (fl f m) (x : Int) = some (vo (f x)) := atI_nat (map_range_at h)
theorem fl_set {f : Nat → Option Nat} {m x d : Nat} (h : x < m) : (fl f m).set x (.int (d : Int)) = fl (fun y => if y = x then some d else f y) m := by
  apply List.ext_getElem?
  intro i
  rw [List.getElem?_set]
  by_cases c : x = i
  · subst c
    rw [if_pos rfl, fl_len, if_pos h]
    unfold fl
    rw [map_range_at h]
    show _ = some (vo (if x = x then some d else f x))
    rw [if_pos rfl]
    rfl
  · rw [if_neg c]
    by_cases l : i < m
    · unfold fl
      rw [map_range_at l, map_range_at l]
      show _ = some (vo (if i = x then some d else f i))
      rw [if_neg (Ne.symm c)]
    · unfold fl
      rw [List.getElem?_eq_none (by rw [List.length_map, List.length_range]; omega), List.getElem?_eq_none (by rw [List.length_map, List.length_range]; omega)]
theorem fl_none : ∀ m : Nat, (List.replicate m [V.non]).flatten = fl (fun _ => none) m
  | 0 => rfl
  | m + 1 => by
    rw [List.replicate_succ', List.flatten_append, fl_none m]
    unfold fl
    rw [List.range_succ, List.map_append]
    rfl
theorem sq_mono {K : Frag} {H H' : Hp} {a : Addr} {xs : List V} (s : Same H H') (h : SqL K H a xs) : SqL K H' a xs := s.seq h
theorem Rows.mono {K : Frag} {H H' : Hp} {L : Addr} {m : Nat} {E : Nat → Nat → Prop} (h : Rows K H L m E) (s : Same H H') : Rows K H' L m E := by
  obtain ⟨ls, h1, h2, h3⟩ := h
  refine ⟨ls, sq_mono s h1, h2, fun i x hx => ?_⟩
  obtain ⟨ns, g1, g2⟩ := h3 i x hx
  exact ⟨ns, sq_mono s g1, g2⟩
theorem upd_same_of {H Hc : Hp} {F : Addr} {o : HO} (s : Same H Hc) (n : H F = none) : Same H (upd Hc F o) := fun b u e => by
  rw [upd_ne (ne_of_none e n)]
  exact s b u e
structure Net (K : Frag) (H : Hp) (v : Addr) (m : Nat) (es : List (Nat × Nat)) : Prop where
  web : WebC K H v m es
  m60 : m ≤ 60
  gd : Gr.Good m es
  few : es.length ≤ 1000
  cn : Gr.Conn m es
theorem Net.mono {K : Frag} {H H' : Hp} {v : Addr} {m : Nat} {es : List (Nat × Nat)} (h : Net K H v m es) (s : ∀ b xs, H b = some (.tup xs) → H' b = some (.tup xs)) : Net K H' v m es := ⟨h.web.mono s, h.m60, h.gd, h.few, h.cn⟩
inductive spFonI (K : Frag) (vs : List V) (H : Hp) (Q : VK) : Prop
  | mk : ∀ (v : Addr) (m p : Nat) (es : List (Nat × Nat)), (vs = [.ref v, .int (p : Int)]) → (Net K H v m es) → (p < m) → (∀ F H', Same H H' → H' F = some (.lst (dl (Gr.Adj es) m p)) → H F = none → Q (.ref F) H') → spFonI K vs H Q
noncomputable def spFon (K : Frag) : Sp := fun vs H Q _E3 => spFonI K vs H Q
noncomputable abbrev foN : List Str := ["web", "place", "lists", "fars", "edge", "reached", "here", "there"]
noncomputable abbrev stF (v : Addr) (p : Nat) (L F E : Addr) (v5 v6 v7 : Option V) : St := [some (.ref v), some (.int (p : Int)), some (.ref L), some (.ref F), some (.ref E), v5, v6, v7]
theorem nats_at {ns : List Nat} {i : Nat} {x : V} (h : (nats ns)[i]? = some x) : ∃ y, ns[i]? = some y ∧ x = .int (y : Int) := by
  rw [List.getElem?_map] at h
  cases e : ns[i]? with
  | none => rw [e] at h; cases h
  | some y =>
    rw [e] at h
    cases h
    exact ⟨y, rfl, rfl⟩
section
variable {P : Program} {w : World} {K : Frag} {mg : Str → Option Value} {base : Heap}
theorem scFo : FnScope foN ["web", "place"] (defScope sFon) := ⟨rfl, rfl, rfl, by decide +kernel, rfl, by decide +kernel, by decide +kernel⟩
theorem ok_fon {f : Addr} {fd : FuncData} (F : Fun K "fars_or_none" "fars_or_none" sFon f fd) (T : Txt K mg) (hN : Has P w K mg base 1 "neighbour_lists" ["web"] (spNbl K)) : FnOk P w K mg base CX0 2 f fd ["web", "place"] (spFon K) := by
  refine F.ok scFo (fun vs H Q E h => ?_) (fun cdv A outer s H vs Q E hr h => ?_)
  · obtain ⟨v, m, p, es, rfl, _⟩ := h
    rfl
  · obtain ⟨v, m, p, es, rfl, nt, hp, q⟩ := h
    refine ⟨_, pss_cons (ps_set (i := 2) scFo.nd rfl (Or.inl rfl) (pe_has hN hr rfl (pa_cons (pv 0) pa_nil)))
      (pss_cons (ps_set (i := 3) scFo.nd rfl (Or.inl rfl) (pe_op op_rep (pe_lst (pa_cons pe_non pa_nil)) (pe_ix ix_tup (pv 0) pe_int (fun _ _ => rfl))))
      (pss_cons (ps_asg pe_int (pg_sub (pv 3) (pv 1) set_list))
      (pss_cons (ps_set (i := 4) scFo.nd rfl (Or.inl rfl) (pe_lst (pa_cons (pv 1) pa_nil)))
      (pss_cons (ps_while PassesOwn.never (pt_truth (pv 4) (fun _ => rfl))
        (pss_cons (ps_set (i := 5) scFo.nd rfl (Or.inl rfl) (pe_lst pa_nil))
        (pss_cons (ps_for PassesOwn.never rfl (pi_list (pv 4)) (pg_name (i := 6) scFo.nd rfl (Or.inl rfl))
          (pss_one (ps_for PassesOwn.never rfl (pi_list (pe_ix ix_list (pv 2) (pv 6) (fun _ _ => rfl))) (pg_name (i := 7) scFo.nd rfl (Or.inl rfl))
            (pss_one (ps_if (pt_cmp (pc_isN (pe_ix ix_list (pv 3) (pv 7) (fun _ _ => rfl))))
              (pss_cons (ps_asg (pe_op op_add (pe_ix ix_list (pv 3) (pv 6) (fun _ _ => rfl)) pe_int) (pg_sub (pv 3) (pv 7) set_list))
              (pss_one (ps_expr (pe_bm PySem.F.plainAttrs_list PySem.F.slot_list_append PySem.F.type_list_append mt_append (pv 5) (pa_cons (pv 7) pa_nil))))) pss_nil)))))
        (pss_one (ps_set (i := 4) scFo.nd rfl (Or.inl rfl) (pv 5))))))
      (pss_one (ps_ret (pv 3))))))), ?_⟩
    refine ⟨_, rfl, v, m, es, rfl, nt.web, nt.m60, nt.gd, nt.few, fun L H1 s1 rw1 => ?_⟩
    refine ⟨(by show 1 ≤ sizeLine; decide), fun z hz => ?_⟩
    have t1 := new_same (o := .lst [.non]) hz
    obtain ⟨t, xs, hw, _⟩ := nt.web
    have hw2 := (s1.trans t1) _ _ hw
    have m60 := nt.m60
    refine ⟨_, rfl, v, _, 0, .int m, rfl, rfl, .inl (.inl hw2), atI_nat (j := 0) rfl, z, (m : Int), _, rfl, rfl, upd_same, by omega, by omega, ?_, fun Fa hF => ?_⟩
    · exact Nat.le_trans (show 1 * (m : Int).toNat ≤ 60 by omega) (by decide)
    have e0 : (List.replicate (m : Int).toNat [V.non]).flatten = fl (fun _ => none) m := fl_none m
    rw [e0]
    have t2 := new_same (o := .lst (fl (fun _ => none) m)) hF
    have H1F : H1 Fa = none := same_none t1 hF
    refine ⟨_, rfl, _, rfl, Fa, _, _, p, rfl, rfl, upd_same, (by rw [fl_len]; exact ixN_nat hp), ?_⟩
    rw [show ((fl (fun _ => none) m).set p (V.int 0)) = fl (fun x => if x = p then some 0 else none) m from fl_set (d := 0) hp]
    have s2 : Same H1 (upd (upd (upd H1 z (.lst [.non])) Fa (.lst (fl (fun _ => none) m))) Fa (.lst (fl (fun x => if x = p then some 0 else none) m))) := upd_same_of (t1.trans t2) H1F
    refine ⟨_, rfl, (by show 1 ≤ sizeLine; decide), fun Ea hE => ?_⟩
    have t3 := new_same (o := .lst [.int (p : Int)]) hE
    have eF0 := t3 _ _ (upd_same : (upd (upd (upd H1 z (.lst [.non])) Fa (.lst (fl (fun _ => none) m))) Fa (.lst (fl (fun x => if x = p then some 0 else none) m))) Fa = _)
    have s3 := s2.trans t3
    have nEF : Ea ≠ Fa := (ne_of_none (upd_same : (upd (upd (upd H1 z (.lst [.non])) Fa (.lst (fl (fun _ => none) m))) Fa (.lst (fl (fun x => if x = p then some 0 else none) m))) Fa = _) hE).symm
    obtain ⟨ls, hL, lnl, rows⟩ := rw1
    refine ⟨fun n σ Hc => ∃ (r : Nat) (g : Nat → Option Nat) (ed : List Nat) (Ec : Addr) (v5 v6 v7 : Option V), σ = stF v p L Fa Ec v5 v6 v7 ∧ n = 2 * Gr.cnt g m + (if ed = [] then 0 else 1) ∧ Gr.Bfs (Gr.Adj es) p r g ed ∧ Same H1 Hc ∧ Hc Fa = some (.lst (fl g m)) ∧ Hc Ec = some (.lst (nats ed)) ∧ Ec ≠ Fa ∧ ∀ x ∈ ed, x < m, ⟨_, 0, _, [p], Ea, none, none, none, rfl, rfl, Gr.Bfs.start, s3, eF0, upd_same, nEF, fun x hx => by rw [List.mem_singleton.mp hx]; exact hp⟩, ?_⟩
    rintro n σ Hc ⟨r, g, ed, Ec, v5, v6, v7, rfl, rfl, B, sc, eF, eE, nE, edm⟩
    refine ⟨_, rfl, !(nats ed).isEmpty, .inl ⟨_, SqL.of eE, rfl⟩, ?_⟩
    cases ed with
    | nil =>
      refine iteF ⟨_, rfl, q Fa Hc (s1.trans sc) ?_ (same_none s1 H1F)⟩
      rw [eF]
      congr 2
      refine List.map_congr_left fun x hx => ?_
      obtain ⟨d, hd⟩ := nt.cn p hp x (List.mem_range.mp hx)
      rw [B.val hd]
      rfl
    | cons e0 er =>
      refine iteT ⟨fun σ' H' => ∃ (g' : Nat → Option Nat) (rc : List Nat) (Ra : Addr) (v6 v7 : Option V), σ' = stF v p L Fa Ra (some (.ref Ra)) v6 v7 ∧ Gr.BfsIn (Gr.Adj es) r g (e0 :: er) g' rc ∧ (∀ h, h ∈ e0 :: er → ∀ x, Gr.Adj es h x → g' x ≠ none) ∧ Same H1 H' ∧ H' Fa = some (.lst (fl g' m)) ∧ H' Ra = some (.lst (nats rc)) ∧ Ra ≠ Fa ∧ ∀ x ∈ rc, x < m, ?_, ?_⟩
      · rintro σ' H' ⟨g', rc, Ra, v6, v7, rfl, BI, all, sc', eF', eR', nR, rcm⟩
        refine ⟨_, ?_, r + 1, g', rc, Ra, _, _, _, rfl, rfl, B.next BI all, sc', eF', eR', nR, rcm⟩
        rw [if_neg (List.cons_ne_nil _ _)]
        cases rc with
        | nil =>
          have := Gr.cnt_le (f := g) (g := g') (fun x h => BI.none h) m
          rw [if_pos rfl]
          omega
        | cons y rc =>
          obtain ⟨h1, h2⟩ := (BI.got y).mp (List.mem_cons_self ..)
          have := Gr.cnt_lt (f := g) (g := g') (fun x h => BI.none h) h1 (by rw [h2]; exact fun h => (nomatch h)) m (rcm y (List.mem_cons_self ..))
          rw [if_neg (List.cons_ne_nil _ _)]
          omega
      · generalize e0 :: er = ed at B eE edm ⊢
        refine ⟨(by show 0 ≤ sizeLine; decide), fun Ra hR => ?_⟩
        have tR := new_same (o := .lst []) hR
        have nRF : Ra ≠ Fa := (ne_of_none eF hR).symm
        have nRE : Ra ≠ Ec := (ne_of_none eE hR).symm
        have H1R : H1 Ra = none := same_none sc hR
        refine ⟨_, rfl, Ec, rfl, ⟨_, SqL.of (tR _ _ eE)⟩, for_list (xs := nats ed) (fun i σ Hd => ∃ (g' : Nat → Option Nat) (rc : List Nat) (v6 v7 : Option V), σ = stF v p L Fa Ec (some (.ref Ra)) v6 v7 ∧ Gr.BfsIn (Gr.Adj es) r g ed g' rc ∧ (∀ j h, j < i → ed[j]? = some h → ∀ x, Gr.Adj es h x → g' x ≠ none) ∧ Same H1 Hd ∧ Hd Fa = some (.lst (fl g' m)) ∧ Hd Ra = some (.lst (nats rc)) ∧ Hd Ec = some (.lst (nats ed)) ∧ rc.length ≤ m ∧ rc.Nodup ∧ ∀ x ∈ rc, x < m) ⟨g, [], _, _, rfl, .start, fun j h hj => by omega, sc.trans tR, tR _ _ eF, upd_same, tR _ _ eE, Nat.zero_le _, List.nodup_nil, fun _ h => (nomatch h)⟩ ?_ ?_ ?_⟩
        · rintro i σ Hd _ ⟨g', rc, v6, v7, _, _, _, _, _, _, e, _⟩
          exact SqL.of e
        · rintro i x σ Hd hx ⟨g', rc, v6, v7, rfl, BI, don, sd, eFd, eRd, eEd, rcl, rcn, rcm⟩
          obtain ⟨h, hh, rfl⟩ := nats_at hx
          have mh : h ∈ ed := List.mem_of_getElem? hh
          have hm := edm h mh
          obtain ⟨xa, hxa, ia⟩ := at_ls lnl hm
          obtain ⟨ns, rowx, adj⟩ := rows h xa hxa
          refine ⟨_, rfl, _, rfl, L, _, _, _, rfl, rfl, sq_mono sd hL, ia, xa, rfl, ⟨_, sq_mono sd rowx⟩, for_list (xs := nats ns) (fun i' σ Hd => ∃ (g' : Nat → Option Nat) (rc : List Nat) (v7 : Option V), σ = stF v p L Fa Ec (some (.ref Ra)) (some (.int (h : Int))) v7 ∧ Gr.BfsIn (Gr.Adj es) r g ed g' rc ∧ (∀ j h, j < i → ed[j]? = some h → ∀ x, Gr.Adj es h x → g' x ≠ none) ∧ (∀ j y, j < i' → ns[j]? = some y → g' y ≠ none) ∧ Same H1 Hd ∧ Hd Fa = some (.lst (fl g' m)) ∧ Hd Ra = some (.lst (nats rc)) ∧ Hd Ec = some (.lst (nats ed)) ∧ rc.length ≤ m ∧ rc.Nodup ∧ ∀ x ∈ rc, x < m) ⟨g', rc, _, rfl, BI, don, fun j y hj => by omega, sd, eFd, eRd, eEd, rcl, rcn, rcm⟩ ?_ ?_ ?_⟩
          · rintro i' σ He _ ⟨g', rc, v7, _, _, _, _, se, _⟩
            exact sq_mono se rowx
          · rintro i' x σ He hx' ⟨g', rc, v7, rfl, BI, don, dni, se, eFe, eRe, eEe, rcl, rcn, rcm⟩
            obtain ⟨y, hy, rfl⟩ := nats_at hx'
            have hyE : Gr.Adj es h y := (adj y).mp (List.mem_of_getElem? hy)
            have ym : y < m := (nt.gd.adj hyE).2
            refine ⟨_, rfl, _, rfl, Fa, _, _, _, rfl, rfl, SqL.of eFe, fl_at ym, _, rfl, ite2 (fun c => ?_) (fun c => ?_)⟩
            · have gy : g' y = none := by
                cases e : g' y with
                | none => rfl
                | some d =>
                  rw [e] at c
                  exact absurd c (by simp [vo])
              refine ⟨_, rfl, _, rfl, Fa, _, _, _, rfl, rfl, SqL.of eFe, fl_at hm, r, 1, (by rw [BI.at B mh]; rfl), rfl, ?_⟩
              refine ⟨_, rfl, _, rfl, Fa, _, _, y, rfl, rfl, eFe, (by rw [fl_len]; exact ixN_nat ym), ?_⟩
              rw [show (fl g' m).set y (V.int ((r : Int) + 1)) = fl (fun x => if x = y then some (r + 1) else g' x) m from fl_set (d := r + 1) ym]
              have eRf : upd He Fa (.lst (fl (fun x => if x = y then some (r + 1) else g' x) m)) Ra = some (.lst (nats rc)) := by
                rw [upd_ne nRF]
                exact eRe
              have yrc : y ∉ rc := fun h' => by
                have := ((BI.got y).mp h').2
                rw [gy] at this
                cases this
              have rcl2 : (rc ++ [y]).length ≤ m := Gr.nodup_len m _ (List.nodup_append.mpr ⟨rcn, List.nodup_cons.mpr ⟨List.not_mem_nil, List.nodup_nil⟩, fun a ha b hb e => by
                cases List.mem_singleton.mp hb
                exact yrc (e ▸ ha)⟩) fun a ha => by
                  rcases List.mem_append.mp ha with ha | ha
                  · exact rcm a ha
                  · cases List.mem_singleton.mp ha
                    exact ym
              refine ⟨_, rfl, .inl ⟨rfl, _, SqL.of eRf⟩, _, rfl, Ra, _, _, rfl, rfl, eRf, ?_, ?_⟩
              · rw [List.length_map]
                exact Nat.lt_of_le_of_lt (show rc.length ≤ 60 by omega) (by decide)
              refine ⟨_, rc ++ [y], _, rfl, BI.put mh hyE gy, fun j h' hj he x hx'' => ?_, fun j z hj hz' => ?_, upd_same_of (upd_same_of se H1F) H1R, ?_, ?_, ?_, rcl2, ?_, ?_⟩
              · show (if x = y then some (r + 1) else g' x) ≠ none
                split
                · exact fun h => (nomatch h)
                · exact don j h' hj he x hx''
              · show (if z = y then some (r + 1) else g' z) ≠ none
                by_cases cz : z = y
                · rw [if_pos cz]
                  exact fun h => (nomatch h)
                · rw [if_neg cz]
                  by_cases cj : j = i'
                  · rw [cj, hy] at hz'
                    cases hz'
                    exact absurd rfl cz
                  · exact dni j z (by omega) hz'
              · rw [upd_ne nRF.symm]
                exact upd_same
              · rw [upd_same, show nats (rc ++ [y]) = nats rc ++ [V.int (y : Int)] from List.map_append ..]
              · rw [upd_ne nRE.symm, upd_ne nE]
                exact eEe
              · refine List.nodup_append.mpr ⟨rcn, List.nodup_cons.mpr ⟨List.not_mem_nil, List.nodup_nil⟩, fun a ha b hb e => ?_⟩
                cases List.mem_singleton.mp hb
                exact yrc (e ▸ ha)
              · intro a ha
                rcases List.mem_append.mp ha with ha | ha
                · exact rcm a ha
                · cases List.mem_singleton.mp ha
                  exact ym
            · refine ⟨g', rc, _, rfl, BI, don, fun j z hj hz' => ?_, se, eFe, eRe, eEe, rcl, rcn, rcm⟩
              by_cases cj : j = i'
              · rw [cj, hy] at hz'
                cases hz'
                intro e
                rw [e] at c
                exact c rfl
              · exact dni j z (by omega) hz'
          · rintro σ He ⟨g', rc, v7, rfl, BI, don, dni, se, eFe, eRe, eEe, rcl, rcn, rcm⟩
            refine ⟨g', rc, _, _, rfl, BI, fun j h' hj he x hx'' => ?_, se, eFe, eRe, eEe, rcl, rcn, rcm⟩
            by_cases cj : j = i
            · rw [cj, hh] at he
              cases he
              obtain ⟨k, hk⟩ := List.getElem?_of_mem ((adj x).mpr hx'')
              exact dni k x (by rw [List.length_map]; exact (List.getElem?_eq_some_iff.mp hk).1) hk
            · exact don j h' (by omega) he x hx''
        · rintro σ Hd ⟨g', rc, v6, v7, rfl, BI, don, sd, eFd, eRd, eEd, rcl, rcn, rcm⟩
          refine ⟨_, rfl, g', rc, Ra, _, _, rfl, BI, fun h hm x hx => ?_, sd, eFd, eRd, nRF, rcm⟩
          obtain ⟨k, hk⟩ := List.getElem?_of_mem hm
          exact don k h (by rw [List.length_map]; exact (List.getElem?_eq_some_iff.mp hk).1) hk x hx
end
end K42

namespace K42
open PySem L2 PySem.W
structure Kit (K : Frag) : Prop where
  ii : kitOne K (.type "int") (.type "int") = some true
  ti : kitOne K (.type "tuple") (.type "int") = some false
  it : kitOne K (.type "int") (.type "tuple") = some false
  tt : kitOne K (.type "tuple") (.type "tuple") = some true
  ib : kitOne K (.type "int") (.type "bool") = some false
  tb : kitOne K (.type "tuple") (.type "bool") = some false
  ll : kitOne K (.type "list") (.type "list") = some true
  ia : kitAny K (.type "int") [.type "int", .type "tuple"] = some true
  ta : kitAny K (.type "tuple") [.type "int", .type "tuple"] = some true
noncomputable abbrev Th := Sum Nat (Nat × Nat)
noncomputable def ThAt (H : Hp) : V → Th → Prop
  | x, .inl n => x = .int (n : Int)
  | x, .inr e => ∃ b : Addr, x = .ref b ∧ H b = some (.tup [.int (e.1 : Int), .int (e.2 : Int)])
inductive Ths (H : Hp) : List V → List Th → Prop
  | nil : Ths H [] []
  | cons {x : V} {t : Th} {xs : List V} {ts : List Th} : ThAt H x t → Ths H xs ts → Ths H (x :: xs) (t :: ts)
theorem ThAt.mono {H H' : Hp} {x : V} : ∀ {t : Th}, ThAt H x t → (∀ b xs, H b = some (.tup xs) → H' b = some (.tup xs)) → ThAt H' x t
  | .inl _, h, _ => h
  | .inr _, ⟨b, e, q⟩, s => ⟨b, e, s _ _ q⟩
theorem Ths.len {H : Hp} {xs : List V} {ts : List Th} (h : Ths H xs ts) : xs.length = ts.length := by
  induction h with
  | nil => rfl
  | cons _ _ ih => rw [List.length_cons, List.length_cons, ih]
theorem Ths.app {H : Hp} {xs ys : List V} {ts us : List Th} (h : Ths H xs ts) (g : Ths H ys us) : Ths H (xs ++ ys) (ts ++ us) := by
  induction h with
  | nil => exact g
  | cons p _ ih => exact .cons p ih
theorem Ths.at {H : Hp} {xs : List V} {ts : List Th} (h : Ths H xs ts) : ∀ {i : Nat} {x : V}, xs[i]? = some x → ∃ t, ts[i]? = some t ∧ ThAt H x t := by
  induction h with
  | nil => exact fun {i x} h => (nomatch h)
  | cons p _ ih =>
    intro i x h
    cases i with
    | zero =>
      cases h
      exact ⟨_, rfl, p⟩
    | succ i => exact ih h
noncomputable def TV (m : Nat) : Th → Prop
  | .inl n => n < m
  | .inr e => e.1 < m ∧ e.2 < m
noncomputable def td (E : Nat → Nat → Prop) (p : Nat) : Th → Nat
  | .inl n => Gr.dst E p n
  | .inr e => min (Gr.dst E p e.1) (Gr.dst E p e.2)
theorem dl_at {E : Nat → Nat → Prop} {m p x : Nat} (h : x < m) : atI (dl E m p) (x : Int) = some (.int ((Gr.dst E p x : Nat) : Int)) := atI_nat (map_range_at h)
inductive spRnpI (K : Frag) (vs : List V) (H : Hp) (Q : VK) : Prop
  | mk : ∀ (v : Addr) (m p : Nat) (es : List (Nat × Nat)), (vs = [.ref v, .int (p : Int)]) → (WebC K H v m es) → (p < m) → (Q .non H) → spRnpI K vs H Q
noncomputable def spRnp (K : Frag) : Sp := fun vs H Q _E3 => spRnpI K vs H Q
inductive spNreI (K : Frag) (vs : List V) (H : Hp) (Q : VK) : Prop
  | mk : ∀ (l b : Addr) (E : Nat → Nat → Prop) (m p : Nat) (e : Nat × Nat), (vs = [.ref l, .ref b]) → (SqL K H l (dl E m p)) → (H b = some (.tup [.int (e.1 : Int), .int (e.2 : Int)])) → (e.1 < m) → (e.2 < m) → (Q (.int ((td E p (.inr e) : Nat) : Int)) H) → spNreI K vs H Q
noncomputable def spNre (K : Frag) : Sp := fun vs H Q _E3 => spNreI K vs H Q
inductive spTfaI (K : Frag) (vs : List V) (H : Hp) (Q : VK) : Prop
  | mk : ∀ (l : Addr) (x : V) (E : Nat → Nat → Prop) (m p : Nat) (t : Th), (vs = [.ref l, x]) → (SqL K H l (dl E m p)) → (ThAt H x t) → (TV m t) → (Q (.int ((td E p t : Nat) : Int)) H) → spTfaI K vs H Q
noncomputable def spTfa (K : Frag) : Sp := fun vs H Q _E3 => spTfaI K vs H Q
section
variable {P : Program} {w : World} {K : Frag} {mg : Str → Option Value} {base : Heap}
theorem scRnp : FnScope ["web", "place"] ["web", "place"] (defScope sRnp) := ⟨rfl, rfl, rfl, by decide +kernel, rfl, by decide +kernel, by decide +kernel⟩
theorem ok_rnp {f : Addr} {fd : FuncData} (F : Fun K "refuse_no_place" "refuse_no_place" sRnp f fd) : FnOk P w K mg base CX0 1 f fd ["web", "place"] (spRnp K) := by
  refine F.ok scRnp (fun vs H Q E h => ?_) (fun cdv A outer s H vs Q E hr h => ?_)
  · obtain ⟨v, m, p, es, rfl, _⟩ := h
    rfl
  · obtain ⟨v, m, p, es, rfl, ⟨t, xs, hw, _⟩, hp, q⟩ := h
    refine ⟨_, pss_one (ps_if (pt_not (pt_chain op_le op_lt pe_int (pv 1) (pe_ix ix_tup (pv 0) pe_int (fun _ _ => rfl)))) pss_never pss_nil), ?_⟩
    refine ⟨_, rfl, _, _, rfl, rfl, _, rfl, ite2 (fun c1 => ?_) (fun c1 => absurd (decide_eq_true (Int.natCast_nonneg p)) c1)⟩
    refine ⟨_, rfl, v, _, 0, .int m, rfl, rfl, .inl (.inl hw), atI_nat (j := 0) rfl, _, _, rfl, rfl, _, rfl, ?_⟩
    rw [decide_eq_true (show (p : Int) < (m : Int) by omega)]
    exact iteF q
theorem scFfr : FnScope ["web", "place"] ["web", "place"] (defScope sFfr) := ⟨rfl, rfl, rfl, by decide +kernel, rfl, by decide +kernel, by decide +kernel⟩
theorem ok_ffr {f : Addr} {fd : FuncData} (F : Fun K "fars_from" "fars_from" sFfr f fd) (hR : Has P w K mg base 1 "refuse_no_place" ["web", "place"] (spRnp K)) (hF : Has P w K mg base 2 "fars_or_none" ["web", "place"] (spFon K)) : FnOk P w K mg base CX0 3 f fd ["web", "place"] (spFon K) := by
  refine F.ok scFfr (fun vs H Q E h => ?_) (fun cdv A outer s H vs Q E hr h => ?_)
  · obtain ⟨v, m, p, es, rfl, _⟩ := h
    rfl
  · obtain ⟨v, m, p, es, rfl, nt, hp, q⟩ := h
    refine ⟨_, pss_cons (ps_expr (pe_has hR (hr.mono (by decide)) rfl (pa_cons (pv 0) (pa_cons (pv 1) pa_nil)))) (pss_one (ps_ret (pe_has hF hr rfl (pa_cons (pv 0) (pa_cons (pv 1) pa_nil))))), ?_⟩
    exact ⟨_, rfl, _, rfl, v, m, p, es, rfl, nt.web, hp, _, rfl, _, rfl, v, m, p, es, rfl, nt, hp, q⟩
theorem scNre : FnScope ["fars", "tie"] ["fars", "tie"] (defScope sNre) := ⟨rfl, rfl, rfl, by decide +kernel, rfl, by decide +kernel, by decide +kernel⟩
theorem ok_nre {f : Addr} {fd : FuncData} (F : Fun K "nearer_end" "nearer_end" sNre f fd) (T : Txt K mg) : FnOk P w K mg base CX0 1 f fd ["fars", "tie"] (spNre K) := by
  refine F.ok scNre (fun vs H Q E h => ?_) (fun cdv A outer s H vs Q E hr h => ?_)
  · obtain ⟨l, b, E, m, p, e, rfl, _⟩ := h
    rfl
  · obtain ⟨l, b, E', m, p, ⟨e1, e2⟩, rfl, hl, hb, h1, h2, q⟩ := h
    refine ⟨_, pss_one (ps_ret (pe_callB (call_min2 rfl) (by rfl) T.min PyProof.Rows.boot_min (pa_cons (pe_ix ix_list (pv 0) (pe_ix ix_tup (pv 1) pe_int (fun _ _ => rfl)) (fun _ _ => rfl)) (pa_cons (pe_ix ix_list (pv 0) (pe_ix ix_tup (pv 1) pe_int (fun _ _ => rfl)) (fun _ _ => rfl)) pa_nil)))), ?_⟩
    refine ⟨_, rfl, _, rfl, b, _, 0, _, rfl, rfl, .inl (.inl hb), atI_nat (j := 0) rfl, l, _, _, _, rfl, rfl, hl, dl_at h1, _, rfl, _, rfl, b, _, 1, _, rfl, rfl, .inl (.inl hb), atI_nat (j := 1) rfl, l, _, _, _, rfl, rfl, hl, dl_at h2, _, _, rfl, ?_⟩
    have e : (if ((Gr.dst E' p e2 : Nat) : Int) < ((Gr.dst E' p e1 : Nat) : Int) then ((Gr.dst E' p e2 : Nat) : Int) else ((Gr.dst E' p e1 : Nat) : Int)) = ((min (Gr.dst E' p e1) (Gr.dst E' p e2) : Nat) : Int) := by
      split <;> omega
    show Q (.int _) H
    rw [e]
    exact q
theorem scTfa : FnScope ["fars", "thing"] ["fars", "thing"] (defScope sTfa) := ⟨rfl, rfl, rfl, by decide +kernel, rfl, by decide +kernel, by decide +kernel⟩
theorem ok_tfa {f : Addr} {fd : FuncData} (F : Fun K "thing_far" "thing_far" sTfa f fd) (T : Txt K mg) (Kt : Kit K) (hN : Has P w K mg base 1 "nearer_end" ["fars", "tie"] (spNre K)) : FnOk P w K mg base CX0 2 f fd ["fars", "thing"] (spTfa K) := by
  refine F.ok scTfa (fun vs H Q E h => ?_) (fun cdv A outer s H vs Q E hr h => ?_)
  · obtain ⟨l, x, E, m, p, t, rfl, _⟩ := h
    rfl
  · obtain ⟨l, x, E', m, p, t, rfl, hl, hx, ht, q⟩ := h
    refine ⟨_, pss_cons (ps_if (pt_val (pe_callB call_isT (by rfl) T.isi PyProof.Rows.boot_isinstance (pa_cons (pv 1) (pa_cons (pe_bltn (v := .ty "int") rfl T.int PyProof.Rows.boot_int rfl) pa_nil)))) (pss_one (ps_ret (pe_ix ix_list (pv 0) (pv 1) (fun _ _ => rfl)))) pss_nil)
      (pss_one (ps_ret (pe_has hN hr rfl (pa_cons (pv 0) (pa_cons (pv 1) pa_nil))))), ?_⟩
    cases t with
    | inl n =>
      cases hx
      refine ⟨_, rfl, _, .ty "int", _, true, rfl, .int _, (fun u ru => by cases ru; exact Kt.ii), _, rfl, iteT ?_⟩
      exact ⟨_, rfl, _, rfl, l, _, _, _, rfl, rfl, hl, dl_at ht, q⟩
    | inr e =>
      obtain ⟨b, rfl, hb⟩ := hx
      refine ⟨_, rfl, _, .ty "int", _, false, rfl, .tup hb, (fun u ru => by cases ru; exact Kt.ti), _, rfl, iteF ?_⟩
      exact ⟨_, rfl, _, rfl, l, b, E', m, p, e, rfl, hl, hb, ht.1, ht.2, q⟩
end
end K42

namespace K42
open PySem L2 PySem.W
noncomputable def isS (k x : Str) : Bool := decide (V.str k = V.str x)
noncomputable def plV (k : Str) (m : Nat) : List V := if isS k "ties" = true then [] else nats (List.range m)
noncomputable def jnV (k : Str) (xs : List V) : List V := if isS k "places" = true then [] else xs
noncomputable def thV (k : Str) (m : Nat) (xs : List V) : List V := plV k m ++ jnV k xs
noncomputable def plT (k : Str) (m : Nat) : List Th := if isS k "ties" = true then [] else (List.range m).map Sum.inl
noncomputable def jnT (k : Str) (es : List (Nat × Nat)) : List Th := if isS k "places" = true then [] else es.map Sum.inr
noncomputable def thT (k : Str) (m : Nat) (es : List (Nat × Nat)) : List Th := plT k m ++ jnT k es
theorem ths_places {H : Hp} : ∀ ns : List Nat, Ths H (nats ns) (ns.map Sum.inl)
  | [] => .nil
  | n :: ns => .cons rfl (ths_places ns)
theorem ths_ties {K : Frag} {H : Hp} {xs : List V} {es : List (Nat × Nat)} (h : Prs K H xs es) : Ths H xs (es.map Sum.inr) := by
  induction h with
  | nil => exact .nil
  | cons p _ ih => exact .cons p ih
theorem ths_of {K : Frag} {H : Hp} {k : Str} {m : Nat} {xs : List V} {es : List (Nat × Nat)} (h : Prs K H xs es) : Ths H (thV k m xs) (thT k m es) := by
  refine Ths.app ?_ ?_
  · unfold plV plT
    split
    · exact .nil
    · exact ths_places _
  · unfold jnV jnT
    split
    · exact .nil
    · exact ths_ties h
theorem thT_ok {k : Str} {m : Nat} {es : List (Nat × Nat)} (g : Gr.Good m es) : ∀ t ∈ thT k m es, TV m t := by
  intro t ht
  rcases List.mem_append.mp ht with ht | ht
  · unfold plT at ht
    split at ht
    · cases ht
    · obtain ⟨n, hn, rfl⟩ := List.mem_map.mp ht
      exact List.mem_range.mp hn
  · unfold jnT at ht
    split at ht
    · cases ht
    · obtain ⟨e, he, rfl⟩ := List.mem_map.mp ht
      have := g.lt e he
      exact ⟨by omega, by omega⟩
theorem thT_len {k : Str} {m : Nat} {es : List (Nat × Nat)} : (thT k m es).length ≤ m + es.length := by
  unfold thT plT jnT
  rw [List.length_append]
  split <;> split <;> simp only [List.length_map, List.length_range, List.length_nil] <;> omega
noncomputable def WebX (K : Frag) (H : Hp) (v : Addr) (m : Nat) (xs : List V) (es : List (Nat × Nat)) : Prop := ∃ t : Addr, H v = some (.tup [.int m, .ref t]) ∧ H t = some (.tup xs) ∧ Prs K H xs es
theorem WebX.c {K : Frag} {H : Hp} {v : Addr} {m : Nat} {xs : List V} {es : List (Nat × Nat)} (h : WebX K H v m xs es) : WebC K H v m es := by
  obtain ⟨t, h1, h2, h3⟩ := h
  exact ⟨t, xs, h1, h2, h3⟩
theorem WebX.mono {K : Frag} {H H' : Hp} {v : Addr} {m : Nat} {xs : List V} {es : List (Nat × Nat)} (h : WebX K H v m xs es) (s : ∀ b xs, H b = some (.tup xs) → H' b = some (.tup xs)) : WebX K H' v m xs es := by
  obtain ⟨t, h1, h2, h3⟩ := h
  exact ⟨t, s _ _ h1, s _ _ h2, h3.mono s⟩
inductive spThiI (K : Frag) (vs : List V) (H : Hp) (Q : VK) : Prop
  | mk : ∀ (v : Addr) (k : Str) (m : Nat) (xs : List V) (es : List (Nat × Nat)), (vs = [.ref v, .str k]) → (WebX K H v m xs es) → (m ≤ 60) → (es.length ≤ 1000) → (∀ T H', Same H H' → H' T = some (.lst (thV k m xs)) → H T = none → Q (.ref T) H') → spThiI K vs H Q
noncomputable def spThi (K : Frag) : Sp := fun vs H Q _E3 => spThiI K vs H Q
noncomputable def code (E : Nat → Nat → Prop) (ls : List Nat) (t : Th) : List Nat := ls.map fun p => td E p t
noncomputable def CodesAt (K : Frag) (H : Hp) (C : Addr) (css : List (List Nat)) : Prop := ∃ cs : List Addr, SqL K H C (cs.map V.ref) ∧ cs.length = css.length ∧ ∀ (j : Nat) a c, cs[j]? = some a → css[j]? = some c → SqL K H a (nats c)
inductive spCodI (K : Frag) (vs : List V) (H : Hp) (Q : VK) : Prop
  | mk : ∀ (v l th : Addr) (m : Nat) (es : List (Nat × Nat)) (ls : List Nat) (ths : List V) (ts : List Th), (vs = [.ref v, .ref l, .ref th]) → (Net K H v m es) → (SqL K H l (nats ls)) → ((∀ p ∈ ls, p < m)) → (ls.length ≤ 60) → (SqL K H th ths) → (Ths H ths ts) → ((∀ t ∈ ts, TV m t)) → (ts.length ≤ 2000) → (∀ C H', Same H H' → CodesAt K H' C (ts.map (code (Gr.Adj es) ls)) → Q (.ref C) H') → spCodI K vs H Q
noncomputable def spCod (K : Frag) : Sp := fun vs H Q _E3 => spCodI K vs H Q
noncomputable abbrev tgN : List Str := ["web", "kind", "many", "ties", "places", "joins"]
noncomputable abbrev cdN : List Str := ["web", "looks", "things", "rows"]
noncomputable def inScope : Stmt → Scope
  | .Return (some (.ListComp (.ListComp _ _ sc _) _ _ _)) _ => sc
  | _ => { kind := .function, names := [], isGenerator := false, isCoroutine := false }
noncomputable def relabS (scope fs : Scope) : Scope := { scope with names := scope.names.map fun (n, k) => if (k == .free && fs.kind == .function && fs.names.lookup n == some .cell) then (n, .cell) else (n, k) }
noncomputable abbrev scoR : Scope := stScope ((defBody sCod).getD 0 (.Pass ⟨0, 0, 0, 0⟩))
noncomputable abbrev scoO : Scope := stScope ((defBody sCod).getD 1 (.Pass ⟨0, 0, 0, 0⟩))
noncomputable abbrev scoI : Scope := inScope ((defBody sCod).getD 1 (.Pass ⟨0, 0, 0, 0⟩))
theorem blockR : blockB cdN (defScope sCod) scoR "look" ["look", "web"] [0] = true := by decide +kernel
theorem blockO : blockCB cdN (defScope sCod) scoO "thing" ["thing", "rows"] [3] = true := by decide +kernel
theorem blockI : blockB ["thing", "rows"] (relabS scoO (defScope sCod)) scoI "fars" ["fars", "thing"] [0] = true := by decide +kernel
theorem nats_app {ns : List Nat} {x : Nat} : nats (ns ++ [x]) = nats ns ++ [V.int (x : Int)] := List.map_append ..
theorem refs_at {cs : List Addr} {i : Nat} {x : V} (h : (cs.map V.ref)[i]? = some x) : ∃ a, cs[i]? = some a ∧ x = .ref a := by
  rw [List.getElem?_map] at h
  cases e : cs[i]? with
  | none => rw [e] at h; cases h
  | some y =>
    rw [e] at h
    cases h
    exact ⟨y, rfl, rfl⟩
section
variable {P : Program} {w : World} {K : Frag} {mg : Str → Option Value} {base : Heap}
theorem scTg : FnScope tgN ["web", "kind"] (defScope sThi) := ⟨rfl, rfl, rfl, by decide +kernel, rfl, by decide +kernel, by decide +kernel⟩
theorem ok_thi {f : Addr} {fd : FuncData} (F : Fun K "things_of" "things_of" sThi f fd) (T : Txt K mg) : FnOk P w K mg base CX0 1 f fd ["web", "kind"] (spThi K) := by
  refine F.ok scTg (fun vs H Q E h => ?_) (fun cdv A outer s H vs Q E hr h => ?_)
  · obtain ⟨v, k, m, xs, es, rfl, _⟩ := h
    rfl
  · obtain ⟨v, k, m, xs, es, rfl, ⟨t, hw, ht, hx⟩, m60, few, q⟩ := h
    refine ⟨_, pss_cons (ps_asg (pv 0) (pg_tup rfl (pgs_cons (pg_name (i := 2) scTg.nd rfl (Or.inl rfl)) (pgs_cons (pg_name (i := 3) scTg.nd rfl (Or.inl rfl)) pgs_nil))))
      (pss_cons (ps_set (i := 4) scTg.nd rfl (Or.inl rfl) (pe_ifExp (pt_cmpR op_eq (pv 1) pe_str (nomark _)) (pe_lst pa_nil) (pe_callTy (call_listR rfl) (by rfl) T.list PyProof.Rows.boot_list (pa_cons (pe_callTy call_range1 (by rfl) T.range PyProof.Rows.boot_range (pa_cons (pv 2) pa_nil)) pa_nil))))
      (pss_cons (ps_set (i := 5) scTg.nd rfl (Or.inl rfl) (pe_ifExp (pt_cmpR op_eq (pv 1) pe_str (nomark _)) (pe_lst pa_nil) (pe_callTy call_list_of (by rfl) T.list PyProof.Rows.boot_list (pa_cons (pv 3) pa_nil))))
      (pss_one (ps_ret (pe_op op_cat (pv 4) (pv 5)))))), ?_⟩
    have hlen : xs.length = es.length := hx.len
    have fin : ∀ (pl jn : List V) (a b : Addr) (H1 : Hp), pl = plV k m → jn = jnV k xs → Same H H1 → H1 a = some (.lst pl) → H1 b = some (.lst jn) → ∃ l r xs ys, V.ref a = .ref l ∧ V.ref b = .ref r ∧ H1 l = some (.lst xs) ∧ H1 r = some (.lst ys) ∧ xs.length + ys.length ≤ sizeLine ∧ ∀ p, H1 p = none → Q (.ref p) (upd H1 p (.lst (xs ++ ys))) := by
      rintro pl jn a b H1 rfl rfl s1 ea eb
      refine ⟨a, b, _, _, rfl, rfl, ea, eb, ?_, fun p hp => q p _ (s1.trans (new_same hp)) upd_same (same_none s1 hp)⟩
      refine Nat.le_trans (show _ ≤ 2000 from ?_) (by decide)
      unfold plV jnV
      split <;> split <;> simp only [List.length_map, List.length_range, List.length_nil] <;> omega
    refine ⟨_, rfl, v, _, rfl, .inl (.inl hw), rfl, _, _, rfl, _, _, rfl, rfl, _, rfl, rfl, _, rfl, ite2 (fun c => ?_) (fun c => ?_)⟩
    · refine ⟨(by show 0 ≤ sizeLine; decide), fun a ha => ?_⟩
      have s1 := new_same (o := .lst []) ha
      have ea : upd H a (.lst []) a = some (.lst []) := upd_same
      refine ⟨_, rfl, rfl, _, rfl, ite2 (fun c2 => ?_) (fun c2 => ?_)⟩
      · refine ⟨(by show 0 ≤ sizeLine; decide), fun b hb => ⟨_, rfl, _, rfl, fin _ [] a b _ (by unfold plV isS; rw [if_pos c]) (by unfold jnV isS; rw [if_pos c2]) (s1.trans (new_same hb)) (new_same hb _ _ ea) upd_same⟩⟩
      · refine ⟨_, rfl, t, xs, rfl, .inr (.inl (.inl (s1 _ _ ht))), fun b hb => ⟨_, rfl, _, rfl, fin _ xs a b _ (by unfold plV isS; rw [if_pos c]) (by unfold jnV isS; rw [if_neg c2]) (s1.trans (new_same hb)) (new_same hb _ _ ea) upd_same⟩⟩
    · refine ⟨_, rfl, (m : Int), rfl, fun u1 h1 => ⟨u1, _, rfl, upd_same, by omega, by omega, fun a ha => ?_⟩⟩
      have s1 := (new_same (o := .rng 0 (m : Int)) h1).trans (new_same (o := .lst (((List.range (m : Int).toNat).map fun i : Nat => (i : Int)).map V.int)) ha)
      have ea : upd (upd H u1 (.rng 0 (m : Int))) a (.lst (((List.range (m : Int).toNat).map fun i : Nat => (i : Int)).map V.int)) a = some (.lst (((List.range (m : Int).toNat).map fun i : Nat => (i : Int)).map V.int)) := upd_same
      refine ⟨_, rfl, rfl, _, rfl, ite2 (fun c2 => ?_) (fun c2 => ?_)⟩
      · refine ⟨(by show 0 ≤ sizeLine; decide), fun b hb => ⟨_, rfl, _, rfl, fin _ [] a b _ (by unfold plV isS; rw [if_neg c, List.map_map]; rfl) (by unfold jnV isS; rw [if_pos c2]) (s1.trans (new_same hb)) (new_same hb _ _ ea) upd_same⟩⟩
      · refine ⟨_, rfl, t, xs, rfl, .inr (.inl (.inl (s1 _ _ ht))), fun b hb => ⟨_, rfl, _, rfl, fin _ xs a b _ (by unfold plV isS; rw [if_neg c, List.map_map]; rfl) (by unfold jnV isS; rw [if_neg c2]) (s1.trans (new_same hb)) (new_same hb _ _ ea) upd_same⟩⟩
theorem scCd : FnScope cdN ["web", "looks", "things"] (defScope sCod) := ⟨rfl, rfl, rfl, by decide +kernel, rfl, by decide +kernel, by decide +kernel⟩
theorem ok_cod {f : Addr} {fd : FuncData} (F : Fun K "codes_of" "codes_of" sCod f fd) (T : Txt K mg) (hF : Has P w K mg base 3 "fars_from" ["web", "place"] (spFon K)) (hT : Has P w K mg base 2 "thing_far" ["fars", "thing"] (spTfa K)) : FnOk P w K mg base CX0 4 f fd ["web", "looks", "things"] (spCod K) := by
  refine F.ok scCd (fun vs H Q E h => ?_) (fun cdv A outer s H vs Q E hr h => ?_)
  · obtain ⟨v, l, th, m, es, ls, ths, ts, rfl, _⟩ := h
    rfl
  · obtain ⟨v, l, th, m, es, ls, ths, ts, rfl, nt, hl, hlm, l60, hth, tha, tok, few, q⟩ := h
    have hr2 := hr.mono (show 2 ≤ 3 by decide)
    refine ⟨_, pss_cons (ps_set (i := 3) scCd.nd rfl (Or.inr rfl) (pe_comp (NB := ["look", "web"]) (ix := [0]) (BlockOk.of blockR) rfl (pi_list (pv 1)) (fun _ _ _ _ => pe_has hF hr rfl (pa_cons (pv 1) (pa_cons (pv 0) pa_nil))) (fun _ _ _ _ => pts_nil)))
      (pss_one (ps_ret (pe_compC (NB := ["thing", "rows"]) (ix := [3]) (BlockC.of blockO) rfl (pi_list (pv 2))
        (fun _ _ _ _ _ => pe_comp (NB := ["fars", "thing"]) (ix := [0]) (BlockOk.of blockI) rfl (show PI _ _ _ (iList K (tVar 1)) from pi_list (pv 1)) (fun _ _ _ _ => pe_has hT hr2 rfl (pa_cons (pv 0) (pa_cons (pv 1) pa_nil))) (fun _ _ _ _ => pts_nil))
        (fun _ _ _ _ _ => pts_nil)))), ?_⟩
    refine ⟨_, rfl, l, rfl, ⟨_, hl⟩, comp_list (xs := nats ls) (fun i zs Hc => Same H Hc ∧ ∃ rs : List Addr, zs = rs.map V.ref ∧ rs.length = i ∧ ∀ (j : Nat) a p, rs[j]? = some a → ls[j]? = some p → Hc a = some (.lst (dl (Gr.Adj es) m p))) ⟨Same.refl _, [], rfl, rfl, fun j a p h => (nomatch h)⟩ ?_ ?_ ?_ ?_⟩
    · rintro i zs Hc hi ⟨_, rs, rfl, rfl, _⟩
      rw [List.length_map] at hi ⊢
      exact Nat.lt_of_le_of_lt (show rs.length ≤ 60 by omega) (by decide)
    · rintro i zs Hc hi ⟨sc, _⟩
      exact sq_mono sc hl
    · rintro i x zs Hc hx ⟨sc, rs, rfl, lr, hrs⟩
      obtain ⟨p, hp, rfl⟩ := nats_at hx
      unfold tYes
      refine @iteT _ (_ ∧ _) ?_
      refine ⟨_, rfl, _, rfl, v, m, p, es, rfl, nt.mono fun b xs e => sc _ _ e, hlm p (List.mem_of_getElem? hp), fun Fa H' s' eF nF => ⟨sc.trans s', rs ++ [Fa], by rw [List.map_append]; rfl, by rw [List.length_append, lr]; rfl, fun j a p' ha hp' => ?_⟩⟩
      by_cases c : j < rs.length
      · rw [List.getElem?_append_left c] at ha
        exact s' _ _ (hrs j a p' ha hp')
      · rw [List.getElem?_append_right (by omega)] at ha
        have hj : j - rs.length = 0 := by
          have := (List.getElem?_eq_some_iff.mp ha).1
          rw [List.length_singleton] at this
          omega
        rw [hj] at ha
        cases ha
        have : j = i := by omega
        rw [this, hp] at hp'
        cases hp'
        exact eF
    · rintro zs Hc ⟨sc, rs, rfl, lr, hrs⟩ R hR
      rw [List.length_map] at lr
      have sR := new_same (o := .lst (rs.map V.ref)) hR
      have eR : upd Hc R (.lst (rs.map V.ref)) R = some (.lst (rs.map V.ref)) := upd_same
      have hrs2 : ∀ (j : Nat) a p, rs[j]? = some a → ls[j]? = some p → upd Hc R (.lst (rs.map V.ref)) a = some (.lst (dl (Gr.Adj es) m p)) := fun j a p h1 h2 => sR _ _ (hrs j a p h1 h2)
      have s2 := sc.trans sR
      generalize upd Hc R (.lst (rs.map V.ref)) = H2 at eR hrs2 s2 ⊢
      clear hrs sR hR sc
      refine ⟨_, rfl, th, rfl, ⟨_, sq_mono s2 hth⟩, comp_list (xs := ths) (fun i zs Hc => Same H2 Hc ∧ ∃ cs : List Addr, zs = cs.map V.ref ∧ cs.length = i ∧ ∀ (j : Nat) a t, cs[j]? = some a → ts[j]? = some t → Hc a = some (.lst (nats (code (Gr.Adj es) ls t)))) ⟨Same.refl _, [], rfl, rfl, fun j a p h => (nomatch h)⟩ ?_ ?_ ?_ ?_⟩
      · rintro i zs Hd hi ⟨_, cs, rfl, rfl, _⟩
        rw [tha.len] at hi
        rw [List.length_map]
        exact Nat.lt_of_le_of_lt (show cs.length ≤ 2000 by omega) (by decide)
      · rintro i zs Hd hi ⟨sd, _⟩
        exact sq_mono (s2.trans sd) hth
      · rintro i x zs Hd hx ⟨sd, cs, rfl, lc, hcs⟩
        obtain ⟨t, htt, hxt⟩ := tha.at hx
        have tv := tok t (List.mem_of_getElem? htt)
        unfold tYes
        refine @iteT _ (_ ∧ _) ?_
        refine ⟨_, rfl, R, rfl, ⟨_, SqL.of (sd _ _ eR)⟩, comp_list (xs := rs.map V.ref) (fun j ys He => Same Hd He ∧ ys = nats ((ls.take j).map fun p => td (Gr.Adj es) p t)) ⟨Same.refl _, rfl⟩ ?_ ?_ ?_ ?_⟩
        · rintro j ys He hj ⟨_, rfl⟩
          rw [List.length_map, List.length_map, List.length_take]
          exact Nat.lt_of_le_of_lt (show min j ls.length ≤ 60 by omega) (by decide)
        · rintro j ys He hj ⟨se, _⟩
          exact SqL.of (se _ _ (sd _ _ eR))
        · rintro j y ys He hy ⟨se, rfl⟩
          obtain ⟨a, ha, rfl⟩ := refs_at hy
          have lj : j < ls.length := by
            have := (List.getElem?_eq_some_iff.mp ha).1
            omega
          have hp := List.getElem?_eq_getElem lj
          refine @iteT _ (_ ∧ _) ?_
          refine ⟨_, rfl, _, rfl, a, x, Gr.Adj es, m, ls[j], t, rfl, SqL.of (se _ _ (sd _ _ (hrs2 j a _ ha hp))), hxt.mono fun b xs e => (s2.trans (sd.trans se)) _ _ e, tv, se, ?_⟩
          rw [List.take_succ, hp]
          show _ = nats (((ls.take j) ++ [ls[j]]).map _)
          rw [List.map_append]
          exact nats_app.symm
        · rintro ys He ⟨se, rfl⟩ b hb
          rw [List.length_map, lr, List.take_length] at *
          have sb := new_same (o := .lst (nats (ls.map fun p => td (Gr.Adj es) p t))) hb
          refine ⟨sd.trans (se.trans sb), cs ++ [b], by rw [List.map_append]; rfl, by rw [List.length_append, lc]; rfl, fun j a t' ha ht' => ?_⟩
          by_cases c : j < cs.length
          · rw [List.getElem?_append_left c] at ha
            exact (se.trans sb) _ _ (hcs j a t' ha ht')
          · rw [List.getElem?_append_right (by omega)] at ha
            have hj : j - cs.length = 0 := by
              have := (List.getElem?_eq_some_iff.mp ha).1
              rw [List.length_singleton] at this
              omega
            rw [hj] at ha
            cases ha
            have : j = i := by omega
            rw [this, htt] at ht'
            cases ht'
            exact upd_same
      · rintro zs Hd ⟨sd, cs, rfl, lc, hcs⟩ Ca hC
        have sC := new_same (o := .lst (cs.map V.ref)) hC
        refine q Ca _ (s2.trans (sd.trans sC)) ⟨cs, SqL.of upd_same, by rw [lc, tha.len, List.length_map], fun j a c ha hc => ?_⟩
        rw [List.getElem?_map] at hc
        cases e : ts[j]? with
        | none => rw [e] at hc; cases hc
        | some t =>
          rw [e] at hc
          cases hc
          exact SqL.of (sC _ _ (hcs j a t ha e))
end
end K42

namespace K42
open PySem L2 PySem.W
noncomputable def WebA (K : Frag) (H : Hp) (w : Addr) (m : Nat) : Prop := ∃ x, SqT K H w [.int m, x]
theorem WebX.a {K : Frag} {H : Hp} {w : Addr} {m : Nat} {xs : List V} {es : List (Nat × Nat)} (h : WebX K H w m xs es) : WebA K H w m := by
  obtain ⟨t, h, _⟩ := h
  exact ⟨_, .inl (.inl h)⟩
noncomputable def lk (m : Int) : Int → List Int → Bool
  | _, [] => true
  | last, x :: xs => (decide (last < x) && decide (x < m)) && lk m x xs
theorem lk_of {m : Int} : ∀ {xs : List Int} {last : Int}, xs.Pairwise (· < ·) → (∀ x ∈ xs, last < x ∧ x < m) → lk m last xs = true
  | [], _, _, _ => rfl
  | x :: xs, last, p, q => by
    unfold lk
    cases p with
    | cons p1 p2 =>
      have hx := q x (List.mem_cons_self ..)
      rw [decide_eq_true hx.1, decide_eq_true hx.2, lk_of p2 fun y hy => ⟨p1 y hy, (q y (List.mem_cons_of_mem _ hy)).2⟩]
      rfl
inductive spAreI (K : Frag) (vs : List V) (H : Hp) (Q : VK) : Prop
  | mk : ∀ (v l : Addr) (m : Nat) (ls : List Int), (vs = [.ref v, .ref l]) → (WebA K H v m) → (SqL K H l (ls.map V.int)) → (Q (.bl (lk m (-1) ls)) H) → spAreI K vs H Q
noncomputable def spAre (K : Frag) : Sp := fun vs H Q _E3 => spAreI K vs H Q
inductive spRefuseI (K : Frag) (vs : List V) (H : Hp) (Q : VK) : Prop
  | mk : ∀ (v l : Addr) (m : Nat) (ls : List Int), (vs = [.ref v, .ref l]) → (WebA K H v m) → (SqL K H l (ls.map V.int)) → (lk m (-1) ls = true) → (Q .non H) → spRefuseI K vs H Q
noncomputable def spRefuse (K : Frag) : Sp := fun vs H Q _E3 => spRefuseI K vs H Q
noncomputable def lk_drop {m : Int} {last : Int} {ls : List Int} {i : Nat} {x : Int} (h : ls[i]? = some x) : lk m last (ls.drop i) = ((decide (last < x) && decide (x < m)) && lk m x (ls.drop (i + 1))) := by
  have lt := (List.getElem?_eq_some_iff.mp h).1
  have e := (List.getElem?_eq_some_iff.mp h).2
  rw [List.drop_eq_getElem_cons lt, e]
  rfl
noncomputable def Rise (m : Nat) (ls : List Nat) : Prop := ls.Pairwise (· < ·) ∧ ∀ x ∈ ls, x < m
theorem rise_lk {m : Nat} {ls : List Nat} (h : Rise m ls) : lk m (-1) (ls.map fun n : Nat => (n : Int)) = true := by
  refine lk_of (List.Pairwise.map _ (fun a b l => by omega) h.1) fun x hx => ?_
  obtain ⟨n, hn, rfl⟩ := List.mem_map.mp hx
  have := h.2 n hn
  omega
theorem rise_len {m : Nat} {ls : List Nat} (h : Rise m ls) : ls.length ≤ m := Gr.nodup_len m ls (h.1.imp fun l => Nat.ne_of_lt l) h.2
theorem nats_map {ns : List Nat} : nats ns = (ns.map fun n : Nat => (n : Int)).map V.int := by
  rw [List.map_map]
  rfl
noncomputable def lenScope : Stmt → Scope
  | .Return (some (.Call _ (.ListComp _ _ sc _ :: _) _ _)) _ => sc
  | _ => { kind := .function, names := [], isGenerator := false, isCoroutine := false }
section
variable {P : Program} {w : World} {K : Frag} {mg : Str → Option Value} {base : Heap}
theorem scAre : FnScope ["web", "looks", "last", "look"] ["web", "looks"] (defScope sAre) := ⟨rfl, rfl, rfl, by decide +kernel, rfl, by decide +kernel, by decide +kernel⟩
theorem ok_are {f : Addr} {fd : FuncData} (F : Fun K "are_looks" "are_looks" sAre f fd) (T : Txt K mg) : FnOk P w K mg base CX0 1 f fd ["web", "looks"] (spAre K) := by
  refine F.ok scAre (fun vs H Q E h => ?_) (fun cdv A outer s H vs Q E hr h => ?_)
  · obtain ⟨v, l, m, ls, rfl, _⟩ := h
    rfl
  · obtain ⟨v, l, m, ls, rfl, ⟨wx, hw⟩, hl, q⟩ := h
    refine ⟨_, pss_cons (ps_set (i := 2) scAre.nd rfl (Or.inl rfl) (pe_un un_neg pe_int))
      (pss_cons (ps_for PassesOwn.never rfl (pi_list (pv 1)) (pg_name (i := 3) scAre.nd rfl (Or.inl rfl))
        (pss_cons (ps_if (pt_not (pt_chain op_lt op_lt (pv 2) (pv 3) (pe_ix ix_tup (pv 0) pe_int (fun _ _ => rfl)))) (pss_one (ps_ret pe_bl)) pss_nil)
        (pss_one (ps_set (i := 2) scAre.nd rfl (Or.inl rfl) (pv 3)))))
      (pss_one (ps_ret pe_bl))), ?_⟩
    refine ⟨1, rfl, _, rfl, l, rfl, ⟨_, hl⟩, for_list (xs := ls.map V.int) (fun i σ H2 => ∃ (v3 : Option V) (last : Int), σ = [some (.ref v), some (.ref l), some (.int last), v3] ∧ H2 = H ∧ lk m (-1) ls = lk m last (ls.drop i)) ⟨none, -1, rfl, rfl, rfl⟩ ?_ ?_ ?_⟩
    · rintro i σ H2 _ ⟨_, _, _, rfl, _⟩
      exact hl
    · rintro i x σ H2 hx ⟨v3, last, rfl, rfl, e⟩
      obtain ⟨c, hc, rfl⟩ : ∃ c, ls[i]? = some c ∧ x = .int c := by
        rw [List.getElem?_map] at hx
        cases e : ls[i]? with
        | none => rw [e] at hx; cases hx
        | some c => rw [e] at hx; cases hx; exact ⟨c, rfl, rfl⟩
      rw [lk_drop hc] at e
      refine ⟨_, rfl, _, rfl, _, _, rfl, rfl, _, rfl, ite2 (fun c1 => ?_) (fun c1 => ?_)⟩
      · refine ⟨_, rfl, v, _, 0, .int m, rfl, rfl, hw, atI_nat (j := 0) rfl, _, _, rfl, rfl, _, rfl, ite2 (fun c2 => ?_) (fun c2 => ?_)⟩
        · rw [c1] at e
          have c3 : decide (c < (m : Int)) = false := by simpa using c2
          rw [c3] at e
          rw [e] at q
          exact q
        · have c3 : decide (c < (m : Int)) = true := by simpa using c2
          rw [c1, c3] at e
          exact ⟨_, rfl, _, _, rfl, rfl, e⟩
      · rw [Bool.not_eq_true _ |>.mp c1] at e
        rw [e] at q
        exact ⟨_, rfl, q⟩
    · rintro σ H2 ⟨v3, last, rfl, rfl, e⟩
      rw [List.length_map, List.drop_length] at e
      rw [e] at q
      exact q
theorem scRef : FnScope ["web", "looks"] ["web", "looks"] (defScope sRefuse) := ⟨rfl, rfl, rfl, by decide +kernel, rfl, by decide +kernel, by decide +kernel⟩
theorem ok_refuse {f : Addr} {fd : FuncData} (F : Fun K "refuse_wrong_looks" "refuse_wrong_looks" sRefuse f fd) (hA : Has P w K mg base 1 "are_looks" ["web", "looks"] (spAre K)) : FnOk P w K mg base CX0 2 f fd ["web", "looks"] (spRefuse K) := by
  refine F.ok scRef (fun vs H Q E h => ?_) (fun cdv A outer s H vs Q E hr h => ?_)
  · obtain ⟨v, l, m, ls, rfl, _⟩ := h
    rfl
  · obtain ⟨v, l, m, ls, rfl, hw, hl, e, q⟩ := h
    refine ⟨_, pss_one (ps_if (pt_not (pt_val (pe_has hA hr rfl (pa_cons (pv 0) (pa_cons (pv 1) pa_nil))))) pss_never pss_nil), ?_⟩
    refine ⟨_, rfl, _, rfl, v, l, m, ls, rfl, hw, hl, _, rfl, ?_⟩
    rw [e]
    exact iteF q
end
end K42

namespace K42
open PySem L2 PySem.W
noncomputable def rSortI (K : Frag) : List V → Hp → VK → Prop := fun xs H Q => ∃ (a : Addr) (ns : List Int), xs = [.ref a] ∧ SqL K H a (ns.map V.int) ∧ ns.length < 64 ∧ ∀ (ms : List Int) (p : Addr), ms.Perm ns → ms.Pairwise (· ≤ ·) → H p = none → Q (.ref p) (upd H p (.lst (ms.map V.int)))
inductive spNearI (K : Frag) (vs : List V) (H : Hp) (Q : VK) : Prop
  | mk : ∀ (v : Addr) (m : Nat) (es : List (Nat × Nat)), (vs = [.ref v]) → (Net K H v m es) → (∀ L H', Same H H' → Rows K H' L m (Gr.Adj es) → Q (.ref L) H') → spNearI K vs H Q
noncomputable def spNear (K : Frag) : Sp := fun vs H Q _E3 => spNearI K vs H Q
noncomputable abbrev nrN : List Str := ["web", "found", "a", "b"]
noncomputable abbrev scoN1 : Scope := stScope ((defBody sNear).getD 0 (.Pass ⟨0, 0, 0, 0⟩))
noncomputable abbrev scoN2 : Scope := stScope ((defBody sNear).getD 2 (.Pass ⟨0, 0, 0, 0⟩))
theorem blockN1 : blockB nrN (defScope sNear) scoN1 "place" ["place"] [] = true := by decide +kernel
theorem blockN2 : blockB nrN (defScope sNear) scoN2 "row" ["row"] [] = true := by decide +kernel
theorem perm_nats {ms : List Int} {ns : List Nat} (p : ms.Perm (ns.map fun n : Nat => (n : Int))) : ∃ ks : List Nat, ms = ks.map (fun n : Nat => (n : Int)) ∧ ks.Perm ns := by
  refine ⟨ms.map Int.toNat, ?_, ?_⟩
  · rw [List.map_map]
    have : ∀ x ∈ ms, ((fun n : Nat => (n : Int)) ∘ Int.toNat) x = id x := fun x hx => by
      obtain ⟨n, _, rfl⟩ := List.mem_map.mp (p.mem_iff.mp hx)
      rfl
    rw [List.map_congr_left this, List.map_id]
  · have := p.map Int.toNat
    rw [List.map_map] at this
    have e : ns.map (Int.toNat ∘ fun n : Nat => (n : Int)) = ns := by
      rw [show (Int.toNat ∘ fun n : Nat => (n : Int)) = id from funext fun n => Int.toNat_natCast n, List.map_id]
    rwa [e] at this
noncomputable def StepsAt (H : Hp) (D : Addr) (E : Nat → Nat → Prop) (m p : Nat) : Prop := ∃ kvs : List (Key × V), H D = some (.dK kvs) ∧ ∀ x, x < m → valV kvs (.inl (x : Int)) = some (.int ((Gr.dst E p x : Nat) : Int))
inductive spStepsI (K : Frag) (vs : List V) (H : Hp) (Q : VK) : Prop
  | mk : ∀ (N : Addr) (m p : Nat) (es : List (Nat × Nat)), (vs = [.ref N, .int (p : Int)]) → (Rows K H N m (Gr.Adj es)) → (m ≤ 60) → (Gr.Good m es) → (Gr.Conn m es) → (p < m) → (∀ D H', Same H H' → StepsAt H' D (Gr.Adj es) m p → H D = none → Q (.ref D) H') → spStepsI K vs H Q
noncomputable def spSteps (K : Frag) : Sp := fun vs H Q _E3 => spStepsI K vs H Q
noncomputable abbrev spN : List Str := ["near", "place", "found", "edge", "beyond", "one", "other"]
noncomputable abbrev stS (N : Addr) (p : Nat) (D E : Addr) (v4 v5 v6 : Option V) : St := [some (.ref N), some (.int (p : Int)), some (.ref D), some (.ref E), v4, v5, v6]
noncomputable def FV (kvs : List (Key × V)) (g : Nat → Option Nat) : Prop := ∀ x : Nat, valV kvs (.inl (x : Int)) = (g x).map fun d : Nat => V.int (d : Int)
theorem FV.put {kvs : List (Key × V)} {g : Nat → Option Nat} (h : FV kvs g) (y d : Nat) : FV (putK kvs (.inl (y : Int)) (.int (d : Int))) (fun x => if x = y then some d else g x) := fun x => by
  rw [valV_put]
  show _ = (if x = y then some d else g x).map _
  by_cases c : x = y
  · rw [if_pos c, if_pos (by rw [c])]
    rfl
  · rw [if_neg c, if_neg (fun e => c (by injection e with e; exact Int.ofNat_inj.mp e))]
    exact h x
theorem cnt_m (f : Nat → Option Nat) : ∀ m, Gr.cnt f m ≤ m
  | 0 => Nat.le_refl _
  | m + 1 => by
    have := cnt_m f m
    unfold Gr.cnt
    split <;> omega
theorem putK_len1 {kvs : List (Key × V)} {k : Key} {v : V} : (putK kvs k v).length ≤ kvs.length + 1 := by
  unfold putK
  split
  · rw [List.length_map]
    exact Nat.le_succ _
  · rw [List.length_append]
    exact Nat.le_refl _
section
variable {P : Program} {w : World} {K : Frag} {mg : Str → Option Value} {base : Heap}
theorem scNr : FnScope nrN ["web"] (defScope sNear) := ⟨rfl, rfl, rfl, by decide +kernel, rfl, by decide +kernel, by decide +kernel⟩
theorem ok_near {f : Addr} {fd : FuncData} (F : Fun K "_law_near" "_law_near" sNear f fd) (T : Txt K mg) : FnOk P w K mg base CX0 1 f fd ["web"] (spNear K) := by
  refine F.ok scNr (fun vs H Q E h => ?_) (fun cdv A outer s H vs Q E hr h => ?_)
  · obtain ⟨v, m, es, rfl, _⟩ := h
    rfl
  · obtain ⟨v, m, es, rfl, nt, q⟩ := h
    obtain ⟨t, xs, hw, ht, hx⟩ := nt.web
    have m60 := nt.m60
    have gd := nt.gd
    have few := nt.few
    refine ⟨_, pss_cons (ps_comp (j := 1) scNr.nd rfl rfl (NB := ["place"]) (ix := []) (BlockOk.of blockN1) rfl (pi_range1 rfl T.range (pa_cons (pe_ix ix_tup (pv 0) pe_int (fun _ _ => rfl)) pa_nil)) (fun _ _ _ _ => pe_lst pa_nil) (fun _ _ _ _ => pts_nil) rfl)
      (pss_cons (ps_for PassesOwn.never rfl (pi_tup (pe_ix ix_tup (pv 0) pe_int (fun _ _ => rfl))) (pg_tup rfl (pgs_cons (pg_name (i := 2) scNr.nd rfl (Or.inl rfl)) (pgs_cons (pg_name (i := 3) scNr.nd rfl (Or.inl rfl)) pgs_nil)))
        (pss_cons (ps_expr (pe_bm PySem.F.plainAttrs_list PySem.F.slot_list_append PySem.F.type_list_append mt_append (pe_ix ix_list (pv 1) (pv 2) (fun _ _ => rfl)) (pa_cons (pv 3) pa_nil)))
        (pss_one (ps_expr (pe_bm PySem.F.plainAttrs_list PySem.F.slot_list_append PySem.F.type_list_append mt_append (pe_ix ix_list (pv 1) (pv 3) (fun _ _ => rfl)) (pa_cons (pv 2) pa_nil))))))
      (pss_one (ps_ret (pe_comp (NB := ["row"]) (ix := []) (BlockOk.of blockN2) rfl (pi_list (pv 1)) (fun _ _ _ _ => pe_callB (show CallR _ (.builtin "sorted") (rSortI K) from call_sortedI) (by rfl) T.sorted PyProof.Rows.boot_sorted (pa_cons (pv 0) pa_nil)) (fun _ _ _ _ => pts_nil))))), ?_⟩
    refine ⟨_, rfl, v, _, 0, .int m, rfl, rfl, .inl (.inl hw), atI_nat (j := 0) rfl, (m : Int), rfl, by omega, by omega, comp_range (lo := 0) (n := (m : Int).toNat) (NewL H) newL0 ?_ ?_ ?_⟩
    · rintro i ys Hc hi ⟨_, ls, rfl, rfl, _⟩
      rw [List.length_map]
      exact Nat.lt_of_le_of_lt (show ls.length ≤ 60 by omega) (by decide)
    · rintro i ys Hc hi nl
      unfold tYes
      refine @iteT _ (_ ∧ _) ?_
      exact ⟨(by show 0 ≤ sizeLine; decide), fun p hp => newL_put nl hp⟩
    · intro zs Hc nl L hL
      rw [show (m : Int).toNat = m from rfl] at nl
      obtain ⟨ls, rfl, li⟩ := newL_end nl hL
      refine ⟨_, rfl, v, _, 1, .ref t, rfl, rfl, .inl (.inl (li.same _ _ hw)), atI_nat (j := 1) rfl, t, rfl, ⟨_, .inl (.inl (li.same _ _ ht))⟩, for_tup (xs := xs) (fun i σ Hd => ∃ v4 v5 : Option V, σ = [some (.ref v), some (.ref L), v4, v5] ∧ LI H L ls m (es.take i) Hd) ⟨none, none, rfl, by rw [List.take_zero]; exact li⟩ ?_ ?_ ?_⟩
      · rintro i σ Hd _ ⟨_, _, _, li⟩
        exact .inl (.inl (li.same _ _ ht))
      · rintro i x σ Hd hxi ⟨v4, v5, rfl, li⟩
        obtain ⟨⟨a, b⟩, he, p, rfl, sq⟩ := hx.at hxi
        have lab : a < b ∧ b < m := gd.lt _ (List.mem_of_getElem? he)
        obtain ⟨xa, ha, ia⟩ := at_ls li.len (show a < m by omega)
        obtain ⟨xb, hb, ib⟩ := at_ls li.len lab.2
        obtain ⟨nab, li2⟩ := li.tie lab.1 lab.2 ha hb
        have ea := li.row a xa ha
        have eb := li.row b xb hb
        have l1 : (nats (Gr.nbr (es.take i) a)).length < sizeLine := by
          refine Nat.lt_of_le_of_lt (show _ ≤ 1000 from ?_) (by decide)
          rw [List.length_map]
          exact Nat.le_trans (List.length_filterMap_le ..) (by rw [List.length_take]; omega)
        have l2 : (nats (Gr.nbr (es.take i) b)).length < sizeLine := by
          refine Nat.lt_of_le_of_lt (show _ ≤ 1000 from ?_) (by decide)
          rw [List.length_map]
          exact Nat.le_trans (List.length_filterMap_le ..) (by rw [List.length_take]; omega)
        refine ⟨p, _, rfl, (.inl (.inl (li.same _ _ sq))), rfl, _, _, rfl, _, _, rfl, rfl, ?_⟩
        refine ⟨_, rfl, _, rfl, L, _, _, _, rfl, rfl, SqL.of li.top, ia, .inl ⟨rfl, _, SqL.of ea⟩, _, rfl, xa, _, _, rfl, rfl, ea, l1, ?_⟩
        have topU : upd Hd xa (.lst (nats (Gr.nbr (es.take i) a) ++ [V.int b])) L = some (.lst (ls.map V.ref)) := by
          have ne : L ≠ xa := fun e => li.ne (e ▸ List.mem_of_getElem? ha)
          rw [upd_ne ne]
          exact li.top
        have ebU : upd Hd xa (.lst (nats (Gr.nbr (es.take i) a) ++ [V.int b])) xb = some (.lst (nats (Gr.nbr (es.take i) b))) := by
          rw [upd_ne nab.symm]
          exact eb
        refine ⟨_, rfl, _, rfl, L, _, _, _, rfl, rfl, SqL.of topU, ib, .inl ⟨rfl, _, SqL.of ebU⟩, _, rfl, xb, _, _, rfl, rfl, ebU, l2, _, _, rfl, ?_⟩
        rw [List.take_succ, he]
        exact li2
      · rintro σ Hd ⟨v4, v5, rfl, li⟩
        rw [hx.len, List.take_length] at li
        refine ⟨_, rfl, L, rfl, ⟨_, SqL.of li.top⟩, comp_list (xs := ls.map V.ref) (fun i zs He => Same Hd He ∧ ∃ rs : List Addr, zs = rs.map V.ref ∧ rs.length = i ∧ ∀ (j : Nat) a, rs[j]? = some a → ∃ ns : List Nat, He a = some (.lst (nats ns)) ∧ ∀ y, y ∈ ns ↔ Gr.Adj es j y) ⟨Same.refl _, [], rfl, rfl, fun j a h => (nomatch h)⟩ ?_ ?_ ?_ ?_⟩
        · rintro i zs He hi ⟨_, rs, rfl, rfl, _⟩
          rw [List.length_map, li.len] at hi
          rw [List.length_map]
          exact Nat.lt_of_le_of_lt (show rs.length ≤ 60 by omega) (by decide)
        · rintro i zs He hi ⟨se, _⟩
          exact SqL.of (se _ _ li.top)
        · rintro i x zs He hx' ⟨se, rs, rfl, lr, hrs⟩
          obtain ⟨xa, hxa, rfl⟩ := refs_at hx'
          have ex := se _ _ (li.row i xa hxa)
          unfold tYes
          refine @iteT _ (_ ∧ _) ?_
          refine ⟨_, rfl, xa, (Gr.nbr es i).map (fun n : Nat => (n : Int)), rfl, SqL.of (by rw [ex, nats_map]), ?_, fun ms p pm _ hp => ?_⟩
          · rw [List.length_map]
            have := gd.nbr_len i
            omega
          obtain ⟨ks, rfl, pk⟩ := perm_nats pm
          have sp := new_same (o := .lst ((ks.map fun n : Nat => (n : Int)).map V.int)) hp
          refine ⟨se.trans sp, rs ++ [p], by rw [List.map_append]; rfl, by rw [List.length_append, lr]; rfl, fun j a ha => ?_⟩
          by_cases c : j < rs.length
          · rw [List.getElem?_append_left c] at ha
            obtain ⟨ns, h1, h2⟩ := hrs j a ha
            exact ⟨ns, sp _ _ h1, h2⟩
          · rw [List.getElem?_append_right (by omega)] at ha
            have hj : j - rs.length = 0 := by
              have := (List.getElem?_eq_some_iff.mp ha).1
              rw [List.length_singleton] at this
              omega
            rw [hj] at ha
            cases ha
            have : j = i := by omega
            rw [this]
            exact ⟨ks, by rw [upd_same, nats_map], fun y => by rw [pk.mem_iff, Gr.mem_nbr]⟩
        · rintro zs He ⟨se, rs, rfl, lr, hrs⟩ N hN
          have sN := new_same (o := .lst (rs.map V.ref)) hN
          refine q N _ (li.same.trans (se.trans sN)) ⟨rs, SqL.of upd_same, by rw [lr, List.length_map, li.len], fun j a ha => ?_⟩
          obtain ⟨ns, h1, h2⟩ := hrs j a ha
          exact ⟨ns, SqL.of (sN _ _ h1), h2⟩
theorem scSt : FnScope spN ["near", "place"] (defScope sSteps) := ⟨rfl, rfl, rfl, by decide +kernel, rfl, by decide +kernel, by decide +kernel⟩
theorem ok_steps {f : Addr} {fd : FuncData} (F : Fun K "_law_steps" "_law_steps" sSteps f fd) (T : Txt K mg) : FnOk P w K mg base CX0 1 f fd ["near", "place"] (spSteps K) := by
  refine F.ok scSt (fun vs H Q E h => ?_) (fun cdv A outer s H vs Q E hr h => ?_)
  · obtain ⟨N, m, p, es, rfl, _⟩ := h
    rfl
  · obtain ⟨N, m, p, es, rfl, ⟨ls, hL, lnl, rows⟩, m60, gd, cn, hp, q⟩ := h
    have hu : _ + 1 < cLine := Nat.lt_of_le_of_lt (Nat.add_le_add_left (by decide : 1 ≤ 64) _) hr.units
    refine ⟨_, pss_cons (ps_set (i := 2) scSt.nd rfl (Or.inl rfl) (pe_disp (pps_cons (pv 1) pe_int pps_nil) rfl rfl (by decide) (by decide)))
      (pss_cons (ps_set (i := 3) scSt.nd rfl (Or.inl rfl) (pe_lst (pa_cons (pv 1) pa_nil)))
      (pss_cons (ps_while PassesOwn.never (pt_cmpR op_gt (pe_callB call_len_seq (by rfl) T.len PySem.boot_len (pa_cons (pv 3) pa_nil)) pe_int (nomark _))
        (pss_cons (ps_set (i := 4) scSt.nd rfl (Or.inl rfl) (pe_lst pa_nil))
        (pss_cons (ps_for PassesOwn.never rfl (pi_list (pv 3)) (pg_name (i := 5) scSt.nd rfl (Or.inl rfl))
          (pss_one (ps_for PassesOwn.never rfl (pi_list (pe_ix ix_list (pv 0) (pv 5) (fun _ _ => rfl))) (pg_name (i := 6) scSt.nd rfl (Or.inl rfl))
            (pss_one (ps_if (pt_cmp (pc_dnotin hu (pv 6) (pv 2)))
              (pss_cons (ps_dput hu (pv 2) (pv 6) (pe_op op_add (pe_dget hu (pv 2) (pv 5) (fun _ _ => rfl)) pe_int) rfl)
              (pss_one (ps_expr (pe_bm PySem.F.plainAttrs_list PySem.F.slot_list_append PySem.F.type_list_append mt_append (pv 4) (pa_cons (pv 6) pa_nil))))) pss_nil)))))
        (pss_one (ps_set (i := 3) scSt.nd rfl (Or.inl rfl) (pv 4))))))
      (pss_one (ps_ret (pv 2))))), ?_⟩
    intro Da hD
    have t0 := new_same (o := .dK []) hD
    refine ⟨_, rfl, upd_same, [(.inl (p : Int), .int 0)], rfl, (by show 1 ≤ 15; decide), ?_⟩
    have s1 : Same H (upd (upd H Da (.dK [])) Da (.dK (mergeK [] [(.inl (p : Int), .int 0)]))) := upd_same_of t0 hD
    have eD1 : (upd (upd H Da (.dK [])) Da (.dK (mergeK [] [(.inl (p : Int), .int 0)]))) Da = some (.dK [(.inl (p : Int), .int 0)]) := upd_same
    generalize upd (upd H Da (.dK [])) Da (.dK (mergeK [] [(.inl (p : Int), .int 0)])) = H1 at s1 eD1 ⊢
    refine ⟨_, rfl, (by show 1 ≤ sizeLine; decide), fun Ea hE => ?_⟩
    have t3 := new_same (o := .lst [.int (p : Int)]) hE
    have nED : Ea ≠ Da := (ne_of_none eD1 hE).symm
    have fv0 : FV [(.inl (p : Int), .int 0)] (fun x => if x = p then some 0 else none) := fun x => by
      show _ = (if x = p then some 0 else none).map _
      by_cases c : x = p
      · rw [if_pos c, c]
        exact valV_pos rfl
      · rw [if_neg c]
        exact valV_neg (fun e => c (by injection e with e; exact (Int.ofNat_inj.mp e).symm))
    refine ⟨fun n σ Hc => ∃ (r : Nat) (g : Nat → Option Nat) (ed : List Nat) (Ec : Addr) (kvs : List (Key × V)) (v4 v5 v6 : Option V), σ = stS N p Da Ec v4 v5 v6 ∧ n = 2 * Gr.cnt g m + (if ed = [] then 0 else 1) ∧ Gr.Bfs (Gr.Adj es) p r g ed ∧ Same H Hc ∧ Hc Da = some (.dK kvs) ∧ FV kvs g ∧ kvs.length + Gr.cnt g m ≤ m + 1 ∧ Hc Ec = some (.lst (nats ed)) ∧ Ec ≠ Da ∧ ∀ x ∈ ed, x < m, ⟨_, 0, _, [p], Ea, _, none, none, none, rfl, rfl, Gr.Bfs.start, s1.trans t3, t3 _ _ eD1, fv0, ?_, upd_same, nED, fun x hx => by rw [List.mem_singleton.mp hx]; exact hp⟩, ?_⟩
    · have := cnt_m (fun x => if x = p then some 0 else none) m
      show 1 + _ ≤ m + 1
      omega
    rintro n σ Hc ⟨r, g, ed, Ec, kvs, v4, v5, v6, rfl, rfl, B, sc, eD, fv, kl, eE, nE, edm⟩
    refine ⟨_, rfl, Ec, _, rfl, .inl (SqL.of eE), _, _, rfl, rfl, _, rfl, ?_⟩
    cases ed with
    | nil =>
      refine iteF ⟨_, rfl, q Da Hc sc ⟨kvs, eD, fun x hx => ?_⟩ hD⟩
      obtain ⟨d, hd⟩ := cn p hp x hx
      rw [fv x, B.val hd]
      rfl
    | cons e0 er =>
      refine ite2 (fun _ => ?_) (fun c => absurd (decide_eq_true (show ((nats (e0 :: er)).length : Int) > 0 by rw [List.length_map, List.length_cons]; omega)) c)
      refine ⟨fun σ' H' => ∃ (g' : Nat → Option Nat) (rc : List Nat) (Ra : Addr) (kvs : List (Key × V)) (v5 v6 : Option V), σ' = stS N p Da Ra (some (.ref Ra)) v5 v6 ∧ Gr.BfsIn (Gr.Adj es) r g (e0 :: er) g' rc ∧ (∀ h, h ∈ e0 :: er → ∀ x, Gr.Adj es h x → g' x ≠ none) ∧ Same H H' ∧ H' Da = some (.dK kvs) ∧ FV kvs g' ∧ kvs.length + Gr.cnt g' m ≤ m + 1 ∧ H' Ra = some (.lst (nats rc)) ∧ Ra ≠ Da ∧ ∀ x ∈ rc, x < m, ?_, ?_⟩
      · rintro σ' H' ⟨g', rc, Ra, kvs', v5, v6, rfl, BI, all, sc', eD', fv', kl', eR', nR, rcm⟩
        refine ⟨_, ?_, r + 1, g', rc, Ra, kvs', _, _, _, rfl, rfl, B.next BI all, sc', eD', fv', kl', eR', nR, rcm⟩
        rw [if_neg (List.cons_ne_nil _ _)]
        cases rc with
        | nil =>
          have := Gr.cnt_le (f := g) (g := g') (fun x h => BI.none h) m
          rw [if_pos rfl]
          omega
        | cons y rc =>
          obtain ⟨h1, h2⟩ := (BI.got y).mp (List.mem_cons_self ..)
          have := Gr.cnt_lt (f := g) (g := g') (fun x h => BI.none h) h1 (by rw [h2]; exact fun h => (nomatch h)) m (rcm y (List.mem_cons_self ..))
          rw [if_neg (List.cons_ne_nil _ _)]
          omega
      · generalize e0 :: er = ed at B eE edm ⊢
        refine ⟨(by show 0 ≤ sizeLine; decide), fun Ra hR => ?_⟩
        have tR := new_same (o := .lst []) hR
        have nRD : Ra ≠ Da := (ne_of_none eD hR).symm
        have nRE : Ra ≠ Ec := (ne_of_none eE hR).symm
        have HR : H Ra = none := same_none sc hR
        refine ⟨_, rfl, Ec, rfl, ⟨_, SqL.of (tR _ _ eE)⟩, for_list (xs := nats ed) (fun i σ Hd => ∃ (g' : Nat → Option Nat) (rc : List Nat) (kvs : List (Key × V)) (v5 v6 : Option V), σ = stS N p Da Ec (some (.ref Ra)) v5 v6 ∧ Gr.BfsIn (Gr.Adj es) r g ed g' rc ∧ (∀ j h, j < i → ed[j]? = some h → ∀ x, Gr.Adj es h x → g' x ≠ none) ∧ Same H Hd ∧ Hd Da = some (.dK kvs) ∧ FV kvs g' ∧ kvs.length + Gr.cnt g' m ≤ m + 1 ∧ Hd Ra = some (.lst (nats rc)) ∧ Hd Ec = some (.lst (nats ed)) ∧ rc.length ≤ m ∧ rc.Nodup ∧ ∀ x ∈ rc, x < m) ⟨g, [], kvs, _, _, rfl, .start, fun j h hj => by omega, sc.trans tR, tR _ _ eD, fv, kl, upd_same, tR _ _ eE, Nat.zero_le _, List.nodup_nil, fun _ h => (nomatch h)⟩ ?_ ?_ ?_⟩
        · rintro i σ Hd _ ⟨g', rc, kvs', v5, v6, _, _, _, _, _, _, _, _, e, _⟩
          exact SqL.of e
        · rintro i x σ Hd hx ⟨g', rc, kvs', v5, v6, rfl, BI, don, sd, eDd, fvd, kld, eRd, eEd, rcl, rcn, rcm⟩
          obtain ⟨h, hh, rfl⟩ := nats_at hx
          have mh : h ∈ ed := List.mem_of_getElem? hh
          have hm := edm h mh
          obtain ⟨xa, hxa, ia⟩ := at_ls lnl hm
          obtain ⟨ns, rowx, adj⟩ := rows h xa hxa
          refine ⟨_, rfl, _, rfl, N, _, _, _, rfl, rfl, sq_mono sd hL, ia, xa, rfl, ⟨_, sq_mono sd rowx⟩, for_list (xs := nats ns) (fun i' σ Hd => ∃ (g' : Nat → Option Nat) (rc : List Nat) (kvs : List (Key × V)) (v6 : Option V), σ = stS N p Da Ec (some (.ref Ra)) (some (.int (h : Int))) v6 ∧ Gr.BfsIn (Gr.Adj es) r g ed g' rc ∧ (∀ j h, j < i → ed[j]? = some h → ∀ x, Gr.Adj es h x → g' x ≠ none) ∧ (∀ j y, j < i' → ns[j]? = some y → g' y ≠ none) ∧ Same H Hd ∧ Hd Da = some (.dK kvs) ∧ FV kvs g' ∧ kvs.length + Gr.cnt g' m ≤ m + 1 ∧ Hd Ra = some (.lst (nats rc)) ∧ Hd Ec = some (.lst (nats ed)) ∧ rc.length ≤ m ∧ rc.Nodup ∧ ∀ x ∈ rc, x < m) ⟨g', rc, kvs', _, rfl, BI, don, fun j y hj => by omega, sd, eDd, fvd, kld, eRd, eEd, rcl, rcn, rcm⟩ ?_ ?_ ?_⟩
          · rintro i' σ He _ ⟨g', rc, kvs', v6, _, _, _, _, se, _⟩
            exact sq_mono se rowx
          · rintro i' x σ He hx' ⟨g', rc, kvs', v6, rfl, BI, don, dni, se, eDe, fve, kle, eRe, eEe, rcl, rcn, rcm⟩
            obtain ⟨y, hy, rfl⟩ := nats_at hx'
            have hyE : Gr.Adj es h y := (adj y).mp (List.mem_of_getElem? hy)
            have ym : y < m := (gd.adj hyE).2
            refine ⟨_, rfl, _, rfl, Da, _, rfl, DGet.k (k := .inl (y : Int)) eDe, _, rfl, ite2 (fun c => ?_) (fun c => ?_)⟩
            · have gy : g' y = none := by
                rw [fve y] at c
                cases e : g' y with
                | none => rfl
                | some d =>
                  rw [e] at c
                  exact absurd c (by simp)
              have hv : DGet He Da (.int (h : Int)) (some (.int (r : Int))) := by
                have := DGet.k (k := .inl (h : Int)) eDe
                rw [fve h, BI.at B mh] at this
                exact this
              refine ⟨_, rfl, _, rfl, Da, _, rfl, hv, (r : Int), 1, rfl, rfl, _, rfl, _, rfl, Da, _, rfl, DPut.k (k := .inl (y : Int)) eDe ?_, ?_⟩
              · exact Nat.lt_of_le_of_lt (show kvs'.length ≤ 61 by omega) (by decide)
              have eRf : upd He Da (.dK (putK kvs' (.inl (y : Int)) (.int ((r : Int) + 1)))) Ra = some (.lst (nats rc)) := by
                rw [upd_ne nRD]
                exact eRe
              have yrc : y ∉ rc := fun h' => by
                have := ((BI.got y).mp h').2
                rw [gy] at this
                cases this
              have nd2 : (rc ++ [y]).Nodup := List.nodup_append.mpr ⟨rcn, List.nodup_cons.mpr ⟨List.not_mem_nil, List.nodup_nil⟩, fun a ha b hb e => by
                cases List.mem_singleton.mp hb
                exact yrc (e ▸ ha)⟩
              have rm2 : ∀ a ∈ rc ++ [y], a < m := fun a ha => by
                rcases List.mem_append.mp ha with ha | ha
                · exact rcm a ha
                · cases List.mem_singleton.mp ha
                  exact ym
              refine ⟨_, rfl, .inl ⟨rfl, _, SqL.of eRf⟩, _, rfl, Ra, _, _, rfl, rfl, eRf, ?_, ?_⟩
              · rw [List.length_map]
                exact Nat.lt_of_le_of_lt (show rc.length ≤ 60 by omega) (by decide)
              refine ⟨_, rc ++ [y], _, _, rfl, BI.put mh hyE gy, fun j h' hj he x hx'' => ?_, fun j z hj hz' => ?_, upd_same_of (upd_same_of se hD) HR, ?_, fve.put y (r + 1), ?_, ?_, ?_, Gr.nodup_len m _ nd2 rm2, nd2, rm2⟩
              · show (if x = y then some (r + 1) else g' x) ≠ none
                split
                · exact fun h => (nomatch h)
                · exact don j h' hj he x hx''
              · show (if z = y then some (r + 1) else g' z) ≠ none
                by_cases cz : z = y
                · rw [if_pos cz]
                  exact fun h => (nomatch h)
                · rw [if_neg cz]
                  by_cases cj : j = i'
                  · rw [cj, hy] at hz'
                    cases hz'
                    exact absurd rfl cz
                  · exact dni j z (by omega) hz'
              · rw [upd_ne nRD.symm]
                exact upd_same
              · have h1 := Gr.cnt_lt (f := g') (g := fun x => if x = y then some (r + 1) else g' x) (fun x h => by
                  by_cases c : x = y
                  · rw [c]
                    exact gy
                  · rw [if_neg c] at h
                    exact h) gy (by show (if y = y then some (r + 1) else g' y) ≠ none; rw [if_pos rfl]; exact fun h => (nomatch h)) m ym
                have h2 := putK_len1 (kvs := kvs') (k := .inl (y : Int)) (v := .int (((r + 1 : Nat)) : Int))
                omega
              · rw [upd_same, nats_app]
              · rw [upd_ne nRE.symm, upd_ne nE]
                exact eEe
            · refine ⟨g', rc, kvs', _, rfl, BI, don, fun j z hj hz' => ?_, se, eDe, fve, kle, eRe, eEe, rcl, rcn, rcm⟩
              by_cases cj : j = i'
              · rw [cj, hy] at hz'
                cases hz'
                intro e
                rw [fve y, e] at c
                exact c rfl
              · exact dni j z (by omega) hz'
          · rintro σ He ⟨g', rc, kvs', v6, rfl, BI, don, dni, se, eDe, fve, kle, eRe, eEe, rcl, rcn, rcm⟩
            refine ⟨g', rc, kvs', _, _, rfl, BI, fun j h' hj he x hx'' => ?_, se, eDe, fve, kle, eRe, eEe, rcl, rcn, rcm⟩
            by_cases cj : j = i
            · rw [cj, hh] at he
              cases he
              obtain ⟨k, hk⟩ := List.getElem?_of_mem ((adj x).mpr hx'')
              exact dni k x (by rw [List.length_map]; exact (List.getElem?_eq_some_iff.mp hk).1) hk
            · exact don j h' (by omega) he x hx''
        · rintro σ Hd ⟨g', rc, kvs', v5, v6, rfl, BI, don, sd, eDd, fvd, kld, eRd, eEd, rcl, rcn, rcm⟩
          refine ⟨_, rfl, g', rc, Ra, kvs', _, _, rfl, BI, fun h hm x hx => ?_, sd, eDd, fvd, kld, eRd, nRD, rcm⟩
          obtain ⟨k, hk⟩ := List.getElem?_of_mem hm
          exact don k h (by rw [List.length_map]; exact (List.getElem?_eq_some_iff.mp hk).1) hk x hx
end
end K42

namespace K42
open PySem L2 PySem.W
noncomputable def Kd (k : Str) : Prop := k = "places" ∨ k = "ties" ∨ k = "all"
inductive spLThingsI (K : Frag) (vs : List V) (H : Hp) (Q : VK) : Prop
  | mk : ∀ (v : Addr) (k : Str) (m : Nat) (xs : List V) (es : List (Nat × Nat)), (vs = [.ref v, .str k]) → (Kd k) → (WebX K H v m xs es) → (m ≤ 60) → (es.length ≤ 1000) → (∀ T H', Same H H' → H' T = some (.lst (thV k m xs)) → H T = none → Q (.ref T) H') → spLThingsI K vs H Q
noncomputable def spLThings (K : Frag) : Sp := fun vs H Q _E3 => spLThingsI K vs H Q
theorem val3 {x y z : V} : valV (mergeK [] [(.inr "places", x), (.inr "ties", y), (.inr "all", z)]) (.inr "places" : Key) = some x ∧ valV (mergeK [] [(.inr "places", x), (.inr "ties", y), (.inr "all", z)]) (.inr "ties" : Key) = some y ∧ valV (mergeK [] [(.inr "places", x), (.inr "ties", y), (.inr "all", z)]) (.inr "all" : Key) = some z := by
  simp only [mergeK, List.foldl_cons, List.foldl_nil, valV_put]
  refine ⟨?_, ?_, ?_⟩
  · rw [if_neg (by decide), if_neg (by decide), if_pos True.intro]
  · rw [if_neg (by decide), if_pos True.intro]
  · rw [if_pos True.intro]
theorem thV_places {m : Nat} {xs : List V} : thV "places" m xs = nats (List.range m) := by
  unfold thV plV jnV isS
  rw [if_neg (by decide), if_pos (by decide), List.append_nil]
theorem thV_ties {m : Nat} {xs : List V} : thV "ties" m xs = xs := by
  unfold thV plV jnV isS
  rw [if_pos (by decide), if_neg (by decide), List.nil_append]
theorem thV_all {m : Nat} {xs : List V} : thV "all" m xs = nats (List.range m) ++ xs := by
  unfold thV plV jnV isS
  rw [if_neg (by decide), if_neg (by decide)]
noncomputable def StepsAll (H : Hp) (ds : List Addr) (E : Nat → Nat → Prop) (m : Nat) (ls : List Nat) : Prop := ds.length = ls.length ∧ ∀ (j : Nat) d p, ds[j]? = some d → ls[j]? = some p → StepsAt H d E m p
inductive spLCodeI (K : Frag) (vs : List V) (H : Hp) (Q : VK) : Prop
  | mk : ∀ (st : Addr) (x : V) (ds : List Addr) (E : Nat → Nat → Prop) (m : Nat) (ls : List Nat) (t : Th), (vs = [.ref st, x]) → (SqL K H st (ds.map V.ref)) → (StepsAll H ds E m ls) → (ThAt H x t) → (TV m t) → (ls.length ≤ 60) → (∀ U H', Same H H' → H' U = some (.tup (nats (code E ls t))) → Q (.ref U) H') → spLCodeI K vs H Q
noncomputable def spLCode (K : Frag) : Sp := fun vs H Q _E3 => spLCodeI K vs H Q
noncomputable def CodesT (K : Frag) (H : Hp) (C : Addr) (css : List (List Nat)) : Prop := ∃ cs : List Addr, H C = some (.lst (cs.map V.ref)) ∧ cs.length = css.length ∧ ∀ (j : Nat) a c, cs[j]? = some a → css[j]? = some c → H a = some (.tup (nats c))
inductive spLCodesI (K : Frag) (vs : List V) (H : Hp) (Q : VK) : Prop
  | mk : ∀ (v l : Addr) (k : Str) (m : Nat) (xs : List V) (es : List (Nat × Nat)) (ls : List Nat), (vs = [.ref v, .ref l, .str k]) → (Kd k) → (WebX K H v m xs es) → (Net K H v m es) → (SqL K H l (nats ls)) → (Rise m ls) → (∀ C H', Same H H' → H C = none → CodesT K H' C ((thT k m es).map (code (Gr.Adj es) ls)) → Q (.ref C) H') → spLCodesI K vs H Q
noncomputable def spLCodes (K : Frag) : Sp := fun vs H Q _E3 => spLCodesI K vs H Q
noncomputable def ifScope : Stmt → Scope
  | .If _ (.Return (some (.Call _ (.ListComp _ _ sc _ :: _) _ _)) _ :: _) _ _ => sc
  | _ => { kind := .function, names := [], isGenerator := false, isCoroutine := false }
noncomputable abbrev scoC1 : Scope := ifScope ((defBody sLCode).getD 0 (.Pass ⟨0, 0, 0, 0⟩))
noncomputable abbrev scoC2 : Scope := lenScope ((defBody sLCode).getD 1 (.Pass ⟨0, 0, 0, 0⟩))
theorem blockC1 : blockB ["steps", "thing"] (defScope sLCode) scoC1 "row" ["row", "thing"] [1] = true := by decide +kernel
theorem blockC2 : blockB ["steps", "thing"] (defScope sLCode) scoC2 "row" ["row", "thing"] [1] = true := by decide +kernel
noncomputable abbrev lcN : List Str := ["web", "looks", "kind", "near", "steps"]
noncomputable abbrev scoD1 : Scope := stScope ((defBody sLCodes).getD 1 (.Pass ⟨0, 0, 0, 0⟩))
noncomputable abbrev scoD2 : Scope := stScope ((defBody sLCodes).getD 2 (.Pass ⟨0, 0, 0, 0⟩))
theorem blockD1 : blockB lcN (defScope sLCodes) scoD1 "look" ["look", "near"] [3] = true := by decide +kernel
theorem blockD2 : blockB lcN (defScope sLCodes) scoD2 "thing" ["thing", "steps"] [4] = true := by decide +kernel
theorem StepsAt.mono {H H' : Hp} {D : Addr} {E : Nat → Nat → Prop} {m p : Nat} (h : StepsAt H D E m p) (s : Same H H') : StepsAt H' D E m p := by
  obtain ⟨kvs, e, r⟩ := h
  exact ⟨kvs, s _ _ e, r⟩
theorem StepsAll.mono {H H' : Hp} {ds : List Addr} {E : Nat → Nat → Prop} {m : Nat} {ls : List Nat} (h : StepsAll H ds E m ls) (s : Same H H') : StepsAll H' ds E m ls := ⟨h.1, fun j d p h1 h2 => (h.2 j d p h1 h2).mono s⟩
theorem StepsAt.get {H : Hp} {D : Addr} {E : Nat → Nat → Prop} {m p x : Nat} (h : StepsAt H D E m p) (hx : x < m) : DGet H D (.int (x : Int)) (some (.int ((Gr.dst E p x : Nat) : Int))) := by
  obtain ⟨kvs, e, r⟩ := h
  have := DGet.k (k := .inl (x : Int)) e
  rw [r x hx] at this
  exact this
section
variable {P : Program} {w : World} {K : Frag} {mg : Str → Option Value} {base : Heap}
theorem scLT : FnScope ["web", "kind", "places"] ["web", "kind"] (defScope sLThings) := ⟨rfl, rfl, rfl, by decide +kernel, rfl, by decide +kernel, by decide +kernel⟩
theorem ok_lthings {f : Addr} {fd : FuncData} (F : Fun K "_law_things" "_law_things" sLThings f fd) (T : Txt K mg) : FnOk P w K mg base CX0 1 f fd ["web", "kind"] (spLThings K) := by
  refine F.ok scLT (fun vs H Q E h => ?_) (fun cdv A outer s H vs Q E hr h => ?_)
  · obtain ⟨v, k, m, xs, es, rfl, _⟩ := h
    rfl
  · obtain ⟨v, k, m, xs, es, rfl, kd, ⟨t, hw, ht, hx⟩, m60, few, q⟩ := h
    have hu : _ + 1 < cLine := Nat.lt_of_le_of_lt (Nat.add_le_add_left (by decide : 1 ≤ 64) _) hr.units
    refine ⟨_, pss_cons (ps_set (i := 2) scLT.nd rfl (Or.inl rfl) (pe_callTy (call_listR rfl) (by rfl) T.list PyProof.Rows.boot_list (pa_cons (pe_callTy call_range1 (by rfl) T.range PyProof.Rows.boot_range (pa_cons (pe_ix ix_tup (pv 0) pe_int (fun _ _ => rfl)) pa_nil)) pa_nil)))
      (pss_one (ps_ret (pe_dget hu (pe_disp (pps_cons pe_str (pv 2) (pps_cons pe_str (pe_callTy call_list_of (by rfl) T.list PyProof.Rows.boot_list (pa_cons (pe_ix ix_tup (pv 0) pe_int (fun _ _ => rfl)) pa_nil)) (pps_cons pe_str (pe_op op_cat (pv 2) (pe_callTy call_list_of (by rfl) T.list PyProof.Rows.boot_list (pa_cons (pe_ix ix_tup (pv 0) pe_int (fun _ _ => rfl)) pa_nil))) pps_nil))) rfl rfl (by decide) (by decide)) (pv 1) (fun _ _ => rfl)))), ?_⟩
    have hlen : xs.length = es.length := hx.len
    refine ⟨_, rfl, v, _, 0, .int m, rfl, rfl, .inl (.inl hw), atI_nat (j := 0) rfl, (m : Int), rfl, fun u1 h1 => ⟨u1, _, rfl, upd_same, by omega, by omega, fun a ha => ?_⟩⟩
    have s1 := (new_same (o := .rng 0 (m : Int)) h1).trans (new_same (o := .lst (((List.range (m : Int).toNat).map fun i : Nat => (i : Int)).map V.int)) ha)
    have nA : H a = none := same_none (new_same (o := .rng 0 (m : Int)) h1) ha
    have ea : upd (upd H u1 (.rng 0 (m : Int))) a (.lst (((List.range (m : Int).toNat).map fun i : Nat => (i : Int)).map V.int)) a = some (.lst (nats (List.range m))) := by
      rw [upd_same, nats_map]
      rfl
    generalize upd (upd H u1 (.rng 0 (m : Int))) a (.lst (((List.range (m : Int).toNat).map fun i : Nat => (i : Int)).map V.int)) = H1 at s1 ea ⊢
    intro D hD
    have tD := new_same (o := .dK []) hD
    have sD := s1.trans tD
    refine ⟨_, rfl, _, rfl, v, _, 1, .ref t, rfl, rfl, .inl (.inl (sD _ _ hw)), atI_nat (j := 1) rfl, t, xs, rfl, .inr (.inl (.inl (sD _ _ ht))), fun b hb => ?_⟩
    have tb := new_same (o := .lst xs) hb
    have sb := sD.trans tb
    refine ⟨_, rfl, _, rfl, v, _, 1, .ref t, rfl, rfl, .inl (.inl (sb _ _ hw)), atI_nat (j := 1) rfl, t, xs, rfl, .inr (.inl (.inl (sb _ _ ht))), fun c hc => ?_⟩
    have tc := new_same (o := .lst xs) hc
    have sc := sb.trans tc
    have ea2 := tc _ _ (tb _ _ (tD _ _ ea))
    refine ⟨a, c, _, _, rfl, rfl, ea2, upd_same, ?_, fun d hd => ?_⟩
    · rw [List.length_map, List.length_range]
      exact Nat.le_trans (show m + xs.length ≤ 2000 by omega) (by decide)
    have td := new_same (o := .lst (nats (List.range m) ++ xs)) hd
    have sd := sc.trans td
    have eD := td _ _ (tc _ _ (tb _ _ (upd_same : upd H1 D (.dK []) D = some (.dK []))))
    refine ⟨eD, [(.inr "places", .ref a), (.inr "ties", .ref b), (.inr "all", .ref d)], rfl, (by show 3 ≤ 15; decide), _, rfl, D, ?_⟩
    have HD : H D = none := same_none s1 hD
    have sE := upd_same_of (o := .dK (mergeK [] [(.inr "places", .ref a), (.inr "ties", .ref b), (.inr "all", .ref d)])) sd HD
    have g : ∀ (k : Str), DGet _ D (.str k) (valV (mergeK [] [(.inr "places", .ref a), (.inr "ties", .ref b), (.inr "all", .ref d)]) (.inr k)) := fun k => DGet.k (k := .inr k) (H := upd (upd (upd (upd (upd H1 D (.dK [])) b (.lst xs)) c (.lst xs)) d (.lst (nats (List.range m) ++ xs))) D (.dK (mergeK [] [(.inr "places", .ref a), (.inr "ties", .ref b), (.inr "all", .ref d)]))) upd_same
    have keep : ∀ (z : Addr) o, z ≠ D → upd (upd (upd (upd H1 D (.dK [])) b (.lst xs)) c (.lst xs)) d (.lst (nats (List.range m) ++ xs)) z = some o → upd (upd (upd (upd (upd H1 D (.dK [])) b (.lst xs)) c (.lst xs)) d (.lst (nats (List.range m) ++ xs))) D (.dK (mergeK [] [(.inr "places", .ref a), (.inr "ties", .ref b), (.inr "all", .ref d)])) z = some o := fun z o ne e => by
      rw [upd_ne ne]
      exact e
    rcases kd with rfl | rfl | rfl
    · rw [thV_places] at q
      have g1 := g "places"
      rw [val3.1] at g1
      exact ⟨_, rfl, g1, q a _ sE (keep a _ (ne_of_none ea hD) (td _ _ ea2)) nA⟩
    · rw [thV_ties] at q
      have g1 := g "ties"
      rw [val3.2.1] at g1
      exact ⟨_, rfl, g1, q b _ sE (keep b _ (fun e => by
        rw [e] at hb
        rw [upd_same] at hb
        cases hb) (td _ _ (tc _ _ upd_same))) (same_none sD hb)⟩
    · rw [thV_all] at q
      have g1 := g "all"
      rw [val3.2.2] at g1
      exact ⟨_, rfl, g1, q d _ sE (keep d _ (fun e => by
        rw [e] at hd
        rw [tc _ _ (tb _ _ (upd_same : upd H1 D (.dK []) D = some (.dK [])))] at hd
        cases hd) upd_same) (same_none sc hd)⟩
theorem scLC : FnScope ["steps", "thing"] ["steps", "thing"] (defScope sLCode) := ⟨rfl, rfl, rfl, by decide +kernel, rfl, by decide +kernel, by decide +kernel⟩
theorem ok_lcode {f : Addr} {fd : FuncData} (F : Fun K "_law_code" "_law_code" sLCode f fd) (T : Txt K mg) (Kt : Kit K) : FnOk P w K mg base CX0 1 f fd ["steps", "thing"] (spLCode K) := by
  refine F.ok scLC (fun vs H Q E h => ?_) (fun cdv A outer s H vs Q E hr h => ?_)
  · obtain ⟨st, x, ds, E, m, ls, t, rfl, _⟩ := h
    rfl
  · obtain ⟨st, x, ds, E', m, ls, t, rfl, hst, sa, hx, tv, l60, q⟩ := h
    have hu : _ + 1 < cLine := Nat.lt_of_le_of_lt (Nat.add_le_add_left (by decide : 1 ≤ 64) _) hr.units
    refine ⟨_, pss_cons (ps_if (pt_val (pe_callB call_isT (by rfl) T.isi PyProof.Rows.boot_isinstance (pa_cons (pv 1) (pa_cons (pe_bltn (v := .ty "tuple") rfl T.tuple PyProof.Rows.boot_tuple rfl) pa_nil))))
        (pss_one (ps_ret (pe_callTy call_tuple_of (by rfl) T.tuple PyProof.Rows.boot_tuple (pa_cons (pe_comp (NB := ["row", "thing"]) (ix := [1]) (BlockOk.of blockC1) rfl (pi_list (pv 0)) (fun _ _ _ _ => pe_callB (call_min2 rfl) (by rfl) T.min PyProof.Rows.boot_min (pa_cons (pe_dget hu (pv 0) (pe_ix (show IxR _ (rIxT K) from ix_tup) (pv 1) pe_int (fun _ _ => rfl)) (fun _ _ => rfl)) (pa_cons (pe_dget hu (pv 0) (pe_ix (show IxR _ (rIxT K) from ix_tup) (pv 1) pe_int (fun _ _ => rfl)) (fun _ _ => rfl)) pa_nil))) (fun _ _ _ _ => pts_nil)) pa_nil)))) pss_nil)
      (pss_one (ps_ret (pe_callTy call_tuple_of (by rfl) T.tuple PyProof.Rows.boot_tuple (pa_cons (pe_comp (NB := ["row", "thing"]) (ix := [1]) (BlockOk.of blockC2) rfl (pi_list (pv 0)) (fun _ _ _ _ => pe_dget hu (pv 0) (pv 1) (fun _ _ => rfl)) (fun _ _ _ _ => pts_nil)) pa_nil)))), ?_⟩
    have small : ∀ j : Nat, j < (ds.map V.ref).length → ∀ ys : List V, ys = nats ((ls.take j).map fun p => td E' p t) → ys.length < sizeLine := fun j hj ys e => by
      rw [e, List.length_map, List.length_map, List.length_take]
      exact Nat.lt_of_le_of_lt (show min j ls.length ≤ 60 by omega) (by decide)
    have step : ∀ (j : Nat) d, ds[j]? = some d → ∃ p, ls[j]? = some p ∧ StepsAt H d E' m p ∧ nats ((ls.take (j + 1)).map fun p => td E' p t) = nats ((ls.take j).map fun p => td E' p t) ++ [.int ((td E' p t : Nat) : Int)] := fun j d hd => by
      have lj : j < ls.length := by
        rw [← sa.1]
        exact (List.getElem?_eq_some_iff.mp hd).1
      have hp := List.getElem?_eq_getElem lj
      refine ⟨ls[j], hp, sa.2 j d _ hd hp, ?_⟩
      rw [List.take_succ, hp]
      show nats (((ls.take j) ++ [ls[j]]).map _) = _
      rw [List.map_append]
      exact nats_app
    have fin : ∀ (ys : List V) (He : Hp) (b : Addr), Same H He → ys = nats ((ls.take (ds.map V.ref).length).map fun p => td E' p t) → He b = none → ∃ p zs, [V.ref b] = [.ref p] ∧ ((SqL K (upd He b (.lst ys)) p zs ∧ ∀ l, upd He b (.lst ys) l = none → Q (.ref l) (upd (upd He b (.lst ys)) l (.tup zs))) ∨ (SqT K (upd He b (.lst ys)) p zs ∧ Q (.ref p) (upd He b (.lst ys)))) := by
      intro ys He b se e hb
      rw [List.length_map, sa.1, List.take_length] at e
      subst e
      exact ⟨b, _, rfl, .inl ⟨SqL.of upd_same, fun l hl => q l _ (se.trans ((new_same hb).trans (new_same hl))) upd_same⟩⟩
    cases t with
    | inl n =>
      cases hx
      refine ⟨_, rfl, _, .ty "tuple", _, false, rfl, .int _, (fun u ru => by cases ru; exact Kt.it), _, rfl, iteF ?_⟩
      refine ⟨_, rfl, st, rfl, ⟨_, hst⟩, comp_list (xs := ds.map V.ref) (fun j ys He => Same H He ∧ ys = nats ((ls.take j).map fun p => td E' p (.inl n))) ⟨Same.refl _, rfl⟩ ?_ ?_ ?_ ?_⟩
      · rintro j ys He hj ⟨_, e⟩
        exact small j hj ys e
      · rintro j ys He hj ⟨se, _⟩
        exact sq_mono se hst
      · rintro j y ys He hy ⟨se, rfl⟩
        obtain ⟨d, hd, rfl⟩ := refs_at hy
        obtain ⟨p, hp, sp, e⟩ := step j d hd
        unfold tYes
        refine @iteT _ (_ ∧ _) ?_
        exact ⟨_, rfl, _, rfl, d, _, rfl, (sp.mono se).get tv, se, e.symm⟩
      · rintro ys He ⟨se, e⟩ b hb
        exact fin ys He b se e hb
    | inr e =>
      obtain ⟨tb, rfl, htb⟩ := hx
      refine ⟨_, rfl, _, .ty "tuple", _, true, rfl, .tup htb, (fun u ru => by cases ru; exact Kt.tt), _, rfl, iteT ?_⟩
      refine ⟨_, rfl, st, rfl, ⟨_, hst⟩, comp_list (xs := ds.map V.ref) (fun j ys He => Same H He ∧ ys = nats ((ls.take j).map fun p => td E' p (.inr e))) ⟨Same.refl _, rfl⟩ ?_ ?_ ?_ ?_⟩
      · rintro j ys He hj ⟨_, e⟩
        exact small j hj ys e
      · rintro j ys He hj ⟨se, _⟩
        exact sq_mono se hst
      · rintro j y ys He hy ⟨se, rfl⟩
        obtain ⟨d, hd, rfl⟩ := refs_at hy
        obtain ⟨p, hp, sp, e3⟩ := step j d hd
        unfold tYes
        refine @iteT _ (_ ∧ _) ?_
        refine ⟨_, rfl, _, rfl, tb, _, 0, _, rfl, rfl, .inl (.inl (se _ _ htb)), atI_nat (j := 0) rfl, d, _, rfl, (sp.mono se).get tv.1, _, rfl, _, rfl, tb, _, 1, _, rfl, rfl, .inl (.inl (se _ _ htb)), atI_nat (j := 1) rfl, d, _, rfl, (sp.mono se).get tv.2, _, _, rfl, se, ?_⟩
        rw [e3]
        have e5 : (if ((Gr.dst E' p e.2 : Nat) : Int) < ((Gr.dst E' p e.1 : Nat) : Int) then ((Gr.dst E' p e.2 : Nat) : Int) else ((Gr.dst E' p e.1 : Nat) : Int)) = ((min (Gr.dst E' p e.1) (Gr.dst E' p e.2) : Nat) : Int) := by
          split <;> omega
        show _ ++ [V.int _] = _
        rw [e5]
        rfl
      · rintro ys He ⟨se, e⟩ b hb
        exact fin ys He b se e hb
theorem scLD : FnScope lcN ["web", "looks", "kind"] (defScope sLCodes) := ⟨rfl, rfl, rfl, by decide +kernel, rfl, by decide +kernel, by decide +kernel⟩
theorem ok_lcodes {f : Addr} {fd : FuncData} (F : Fun K "_law_codes" "_law_codes" sLCodes f fd) (T : Txt K mg) (hN : Has P w K mg base 1 "_law_near" ["web"] (spNear K)) (hS : Has P w K mg base 1 "_law_steps" ["near", "place"] (spSteps K)) (hT : Has P w K mg base 1 "_law_things" ["web", "kind"] (spLThings K)) (hC : Has P w K mg base 1 "_law_code" ["steps", "thing"] (spLCode K)) : FnOk P w K mg base CX0 2 f fd ["web", "looks", "kind"] (spLCodes K) := by
  refine F.ok scLD (fun vs H Q E h => ?_) (fun cdv A outer s H vs Q E hr h => ?_)
  · obtain ⟨v, l, k, m, xs, es, ls, rfl, _⟩ := h
    rfl
  · obtain ⟨v, l, k, m, xs, es, ls, rfl, kd, wx, nt, hl, ri, q⟩ := h
    have m60 := nt.m60
    have rl := rise_len ri
    refine ⟨_, pss_cons (ps_set (i := 3) scLD.nd rfl (Or.inr rfl) (pe_has hN hr rfl (pa_cons (pv 0) pa_nil)))
      (pss_cons (ps_set (i := 4) scLD.nd rfl (Or.inr rfl) (pe_comp (NB := ["look", "near"]) (ix := [3]) (BlockOk.of blockD1) rfl (pi_list (pv 1)) (fun _ _ _ _ => pe_has hS hr rfl (pa_cons (pv 1) (pa_cons (pv 0) pa_nil))) (fun _ _ _ _ => pts_nil)))
      (pss_one (ps_ret (pe_comp (NB := ["thing", "steps"]) (ix := [4]) (BlockOk.of blockD2) rfl (pi_list (pe_has hT hr rfl (pa_cons (pv 0) (pa_cons (pv 2) pa_nil)))) (fun _ _ _ _ => pe_has hC hr rfl (pa_cons (pv 1) (pa_cons (pv 0) pa_nil))) (fun _ _ _ _ => pts_nil))))), ?_⟩
    refine ⟨_, rfl, v, m, es, rfl, nt, fun N H1 s1 rows => ?_⟩
    refine ⟨_, rfl, l, rfl, ⟨_, sq_mono s1 hl⟩, comp_list (xs := nats ls) (fun i zs Hc => Same H1 Hc ∧ ∃ ds : List Addr, zs = ds.map V.ref ∧ ds.length = i ∧ ∀ (j : Nat) d p, ds[j]? = some d → ls[j]? = some p → StepsAt Hc d (Gr.Adj es) m p) ⟨Same.refl _, [], rfl, rfl, fun j a p h => (nomatch h)⟩ ?_ ?_ ?_ ?_⟩
    · rintro i zs Hc hi ⟨_, rs, rfl, rfl, _⟩
      rw [List.length_map] at hi ⊢
      exact Nat.lt_of_le_of_lt (show rs.length ≤ 60 by omega) (by decide)
    · rintro i zs Hc hi ⟨sc, _⟩
      exact sq_mono (s1.trans sc) hl
    · rintro i x zs Hc hx ⟨sc, rs, rfl, lr, hrs⟩
      obtain ⟨p, hp, rfl⟩ := nats_at hx
      unfold tYes
      refine @iteT _ (_ ∧ _) ?_
      refine ⟨_, rfl, _, rfl, N, m, p, es, rfl, rows.mono sc, m60, nt.gd, nt.cn, ri.2 p (List.mem_of_getElem? hp), fun Da H' s' eF nF => ⟨sc.trans s', rs ++ [Da], by rw [List.map_append]; rfl, by rw [List.length_append, lr]; rfl, fun j a p' ha hp' => ?_⟩⟩
      by_cases c : j < rs.length
      · rw [List.getElem?_append_left c] at ha
        exact (hrs j a p' ha hp').mono s'
      · rw [List.getElem?_append_right (by omega)] at ha
        have hj : j - rs.length = 0 := by
          have := (List.getElem?_eq_some_iff.mp ha).1
          rw [List.length_singleton] at this
          omega
        rw [hj] at ha
        cases ha
        have : j = i := by omega
        rw [this, hp] at hp'
        cases hp'
        exact eF
    · rintro zs Hc ⟨sc, ds, rfl, lr, hrs⟩ R hR
      rw [List.length_map] at lr
      have sR := new_same (o := .lst (ds.map V.ref)) hR
      have eR : upd Hc R (.lst (ds.map V.ref)) R = some (.lst (ds.map V.ref)) := upd_same
      have sa : StepsAll (upd Hc R (.lst (ds.map V.ref))) ds (Gr.Adj es) m ls := ⟨lr, fun j d p h1 h2 => (hrs j d p h1 h2).mono sR⟩
      have s2 := s1.trans (sc.trans sR)
      generalize upd Hc R (.lst (ds.map V.ref)) = H2 at eR sa s2 ⊢
      refine ⟨_, rfl, _, rfl, v, k, m, xs, es, rfl, kd, wx.mono fun b xs e => s2 _ _ e, m60, nt.few, fun Ta H3 s3 eT _ => ?_⟩
      have tt : Ths H3 (thV k m xs) (thT k m es) := by
        obtain ⟨t, _, _, pr⟩ := wx
        exact ths_of (pr.mono fun b xs e => (s2.trans s3) _ _ e)
      have tfew : (thT k m es).length ≤ 2000 := by
        have h1 := thT_len (k := k) (m := m) (es := es)
        have h2 := nt.few
        omega
      refine ⟨Ta, rfl, ⟨_, SqL.of eT⟩, comp_list (xs := thV k m xs) (fun i zs Hc => Same H3 Hc ∧ ∃ cs : List Addr, zs = cs.map V.ref ∧ cs.length = i ∧ ∀ (j : Nat) a t, cs[j]? = some a → (thT k m es)[j]? = some t → Hc a = some (.tup (nats (code (Gr.Adj es) ls t)))) ⟨Same.refl _, [], rfl, rfl, fun j a p h => (nomatch h)⟩ ?_ ?_ ?_ ?_⟩
      · rintro i zs Hd hi ⟨_, cs, rfl, rfl, _⟩
        rw [tt.len] at hi
        rw [List.length_map]
        exact Nat.lt_of_le_of_lt (show cs.length ≤ 2000 by omega) (by decide)
      · rintro i zs Hd hi ⟨sd, _⟩
        exact SqL.of (sd _ _ eT)
      · rintro i x zs Hd hx ⟨sd, cs, rfl, lc, hcs⟩
        obtain ⟨t, htt, hxt⟩ := tt.at hx
        have tv := thT_ok nt.gd t (List.mem_of_getElem? htt)
        unfold tYes
        refine @iteT _ (_ ∧ _) ?_
        refine ⟨_, rfl, _, rfl, R, x, ds, Gr.Adj es, m, ls, t, rfl, SqL.of (sd _ _ (s3 _ _ eR)), sa.mono (s3.trans sd), hxt.mono fun b xs e => sd _ _ e, tv, by omega, fun U H' s' eU => ⟨sd.trans s', cs ++ [U], by rw [List.map_append]; rfl, by rw [List.length_append, lc]; rfl, fun j a t' ha ht' => ?_⟩⟩
        by_cases c : j < cs.length
        · rw [List.getElem?_append_left c] at ha
          exact s' _ _ (hcs j a t' ha ht')
        · rw [List.getElem?_append_right (by omega)] at ha
          have hj : j - cs.length = 0 := by
            have := (List.getElem?_eq_some_iff.mp ha).1
            rw [List.length_singleton] at this
            omega
          rw [hj] at ha
          cases ha
          have : j = i := by omega
          rw [this, htt] at ht'
          cases ht'
          exact eU
      · rintro zs Hd ⟨sd, cs, rfl, lc, hcs⟩ Ca hC
        have sC := new_same (o := .lst (cs.map V.ref)) hC
        refine q Ca _ (s2.trans (s3.trans (sd.trans sC))) (same_none (s2.trans (s3.trans sd)) hC) ⟨cs, upd_same, by rw [lc, tt.len, List.length_map], fun j a c ha hc => ?_⟩
        rw [List.getElem?_map] at hc
        cases e : (thT k m es)[j]? with
        | none => rw [e] at hc; cases hc
        | some t =>
          rw [e] at hc
          cases hc
          exact sC _ _ (hcs j a t ha e)
end
end K42

namespace L2
open PySem PySem.Spec PyProof.Rows PySem.SeqAt PySem.W
mutual
theorem mix_self : ∀ d : PyData, d.canLay0 = true → noMix d d = true
  | .none, _ => by simp [noMix]
  | .bool _, _ => by simp [noMix]
  | .int _, _ => by simp [noMix]
  | .str _, _ => by simp [noMix]
  | .list xs, h => by
    rw [noMix]
    exact mix_selfs xs (by rw [PyData.canLay0] at h; exact h)
  | .tuple xs, h => by
    rw [noMix]
    exact mix_selfs xs (by rw [PyData.canLay0] at h; exact h)
  | .dict _, h => by simp [PyData.canLay0] at h
theorem mix_selfs : ∀ xs : List PyData, PyData.canLayAll0 xs = true → noMixAll xs xs = true
  | [], _ => by simp [noMixAll]
  | x :: xs, h => by
    rw [PyData.canLayAll0, Bool.and_eq_true] at h
    rw [noMixAll, mix_self x h.1, mix_selfs xs h.2]
    rfl
end
noncomputable def Dt (n : Nat) (d : PyData) : Prop := d.canLay0 = true ∧ d.depth ≤ n
theorem Dt.mono {n k : Nat} {d : PyData} (h : Dt n d) (l : n ≤ k) : Dt k d := ⟨h.1, Nat.le_trans h.2 l⟩
theorem dt_int (i : Int) : Dt 0 (.int i) := ⟨by simp [PyData.canLay0], by simp [PyData.depth]⟩
theorem dt_none : Dt 0 .none := ⟨by simp [PyData.canLay0], by simp [PyData.depth]⟩
theorem dts {n : Nat} : ∀ {ds : List PyData}, (∀ d ∈ ds, Dt n d) → PyData.canLayAll0 ds = true ∧ PyData.depthAll ds ≤ n
  | [], _ => ⟨by simp [PyData.canLayAll0], by simp [PyData.depthAll]⟩
  | d :: ds, h => by
    obtain ⟨h1, h2⟩ := h d (List.mem_cons_self ..)
    obtain ⟨h3, h4⟩ := dts fun e he => h e (List.mem_cons_of_mem _ he)
    refine ⟨?_, ?_⟩
    · rw [PyData.canLayAll0, h1, h3]
      rfl
    · rw [PyData.depthAll]
      exact Nat.max_le.mpr ⟨h2, h4⟩
theorem dt_list {n : Nat} {ds : List PyData} (h : ∀ d ∈ ds, Dt n d) : Dt (n + 1) (.list ds) := by
  obtain ⟨h1, h2⟩ := dts h
  refine ⟨?_, ?_⟩
  · rw [PyData.canLay0]
    exact h1
  · rw [PyData.depth]
    exact Nat.succ_le_succ h2
theorem dt_tup {n : Nat} {ds : List PyData} (h : ∀ d ∈ ds, Dt n d) : Dt (n + 1) (.tuple ds) := by
  obtain ⟨h1, h2⟩ := dts h
  refine ⟨?_, ?_⟩
  · rw [PyData.canLay0]
    exact h1
  · rw [PyData.depth]
    exact Nat.succ_le_succ h2
theorem Dt.shaped {n : Nat} {d : PyData} (h : Dt n d) (l : n ≤ 64) : shaped d = true := by
  unfold PySem.SeqAt.shaped
  rw [h.1, decide_eq_true (Nat.le_trans h.2 l)]
  rfl
section
variable {X : Cx}
inductive rNeSI (K : PySem.W.Frag) (x : V) (y : V) (H : Hp) (Q : VK) : Prop
  | mk : ∀ d, (RdD K H x d) → (RdD K H y d) → (Dt 60 d) → (Q (.bl false) H) → rNeSI K x y H Q
noncomputable def rNeS (K : PySem.W.Frag) : R2 := fun x y H Q => rNeSI K x y H Q
theorem op_neS (hu : X.A.units + 64 < cLine) : OpR X (compareOp .NotEq) (rNeS X.K) := by
  intro pins s σ H x y v u Q I rx ry h
  obtain ⟨d, h1, h2, dt, q⟩ := h
  refine op_neD hu pins s σ H x y v u Q I rx ry ⟨d, d, h1, h2, dt.shaped (by decide), dt.shaped (by decide), mix_self d dt.1, ?_⟩
  rw [Spec.same_self]
  exact q
end
theorem for_zip {K : PySem.W.Frag} {a b : Addr} {xs zs : List V} {g : TG} {tb : TS} {D : Ends} {σ : St} {H : Hp} (same : zs.length = xs.length) (Pv : Nat → St → Hp → Prop) (h0 : Pv 0 σ H) (hl : ∀ i σ H, i ≤ xs.length → Pv i σ H → SqL K H a xs ∧ SqL K H b zs)
    (hs : ∀ (i : Nat) x z σ H T, xs[i]? = some x → zs[i]? = some z → Pv i σ H → H T = none → g (.ref T) σ (upd H T (.tup [x, z])) fun σ2 H2 => tb { D with nx := Pv (i + 1), ct := Pv (i + 1), bk := D.nx } σ2 H2) (hd : ∀ σ H, Pv xs.length σ H → D.nx σ H) :
    ∃ W : Nat → Nat → St → Hp → Prop, (∃ m, W 0 m σ H) ∧ ∀ i m σ H, W i m σ H →
      ((Itz K a b).stop i H ∧ D.nx σ H) ∨ ((Itz K a b).go i H ∧ ∃ N : St → Hp → Prop, (∀ σ' H', N σ' H' → ∃ m', m' < m ∧ W (i + 1) m' σ' H') ∧ ∀ x H', (Itz K a b).yld i H x H' → g x σ H' fun σ2 H2 => tb { D with nx := N, ct := N, bk := D.nx } σ2 H2) := by
  refine ⟨fun i m σ H => m = xs.length - i ∧ i ≤ xs.length ∧ Pv i σ H, ⟨xs.length, by simp, Nat.zero_le _, h0⟩, ?_⟩
  rintro i m σ H ⟨rfl, hi, p⟩
  obtain ⟨q, q2⟩ := hl i σ H hi p
  by_cases hlt : i < xs.length
  · refine .inr ⟨⟨xs, zs, xs[i], zs[i]'(by omega), q, q2, by simp [hlt], by rw [List.getElem?_eq_getElem (by omega)]⟩, Pv (i + 1), fun σ' H' p' => ⟨xs.length - (i + 1), by omega, rfl, hlt, p'⟩, fun v H' y => ?_⟩
    obtain ⟨T, hT, rfl, y⟩ := y
    obtain ⟨x, z, hx, hz2, rfl⟩ := y xs zs q q2
    exact hs i x z σ _ T hx hz2 p hT
  · have e : i = xs.length := by omega
    subst e
    refine .inl ⟨?_, hd σ H p⟩
    exact ⟨xs, zs, q, q2, .inl (Nat.le_refl _)⟩
end L2

namespace K42
open PySem L2 PySem.W
inductive spLooksI (vs : List V) (H : Hp) (Q : VK) : Prop
  | mk : ∀ (a : Addr) (m : Nat), (vs = [.ref a, .int (m : Int)]) → (m ≤ 60) → (StA H a) → (∀ (ls : List Nat) L H', StA H' a → Mv a H H' → Rise m ls → H' L = some (.lst (nats ls)) → H L = none → Q (.ref L) H') → spLooksI vs H Q
noncomputable def spLooks (K : Frag) : Sp := fun vs H Q _E3 => spLooksI vs H Q
noncomputable abbrev scoK : Scope := stScope ((defBody sLooks).getD 1 (.Pass ⟨0, 0, 0, 0⟩))
theorem blockK : blockB ["pool", "many", "part"] (defScope sLooks) scoK "place" ["place", "pool", "part"] [0, 2] = true := by decide +kernel
theorem none_mv {a u : Addr} {H H' : Hp} (mv : Mv a H H') (st : StA H' a) (h : H' u = none) : H u = none := by
  cases e : H u with
  | none => rfl
  | some o =>
    rw [mv _ _ (st_ne st h) e] at h
    cases h
noncomputable def DrawI (a : Addr) (H : Hp) (m : Nat) (i : Nat) (ys : List V) (Hc : Hp) : Prop := ∃ ls : List Nat, ys = nats ls ∧ ls.Pairwise (· < ·) ∧ (∀ x ∈ ls, x < i ∧ x < m) ∧ ls.length ≤ i ∧ StA Hc a ∧ Mv a H Hc
theorem draw_skip {a : Addr} {H Hc H' : Hp} {m i : Nat} {ys : List V} (h : DrawI a H m i ys Hc) (st : StA H' a) (mv : Mv a Hc H') : DrawI a H m (i + 1) ys H' := by
  obtain ⟨ls, e, p, q, l, _, mv0⟩ := h
  exact ⟨ls, e, p, fun x hx => by have := q x hx; omega, by omega, st, mv0.trans mv⟩
theorem draw_put {a : Addr} {H Hc H' : Hp} {m i : Nat} {ys : List V} (h : DrawI a H m i ys Hc) (st : StA H' a) (mv : Mv a Hc H') (hi : i < m) : DrawI a H m (i + 1) (ys ++ [.int (0 + (i : Int))]) H' := by
  obtain ⟨ls, rfl, p, q, l, _, mv0⟩ := h
  refine ⟨ls ++ [i], by rw [nats_app, Int.zero_add], ?_, ?_, by rw [List.length_append]; exact Nat.succ_le_succ l, st, mv0.trans mv⟩
  · refine List.pairwise_append.mpr ⟨p, List.pairwise_singleton _ _, fun x hx y hy => ?_⟩
    cases List.mem_singleton.mp hy
    exact (q x hx).1
  · intro x hx
    rcases List.mem_append.mp hx with h | h
    · have := q x h
      omega
    · cases List.mem_singleton.mp h
      omega
theorem six_at {r : Int} (h0 : 0 ≤ r) (h1 : r < 6) : ∃ z : Int, atI [V.int 0, .int 1, .int 2, .int 3, .int 5, .int 6] r = some (.int z) := by
  rcases (show r = 0 ∨ r = 1 ∨ r = 2 ∨ r = 3 ∨ r = 4 ∨ r = 5 by omega) with rfl | rfl | rfl | rfl | rfl | rfl
  · exact ⟨_, rfl⟩
  · exact ⟨_, rfl⟩
  · exact ⟨_, rfl⟩
  · exact ⟨_, rfl⟩
  · exact ⟨_, rfl⟩
  · exact ⟨_, rfl⟩
section
variable {P : Program} {w : World} {K : Frag} {mg : Str → Option Value} {base : Heap}
theorem scLk : FnScope ["pool", "many", "part"] ["pool", "many"] (defScope sLooks) := ⟨rfl, rfl, rfl, by decide +kernel, rfl, by decide +kernel, by decide +kernel⟩
theorem ok_looks {f : Addr} {fd : FuncData} (F : Fun K "_law_looks" "_law_looks" sLooks f fd) (T : Txt K mg) (hT : Has P w K mg base 1 "_law_take" ["pool", "many"] spTake) : FnOk P w K mg base CX0 2 f fd ["pool", "many"] (spLooks K) := by
  refine F.ok scLk (fun vs H Q E h => ?_) (fun cdv A outer s H vs Q E hr h => ?_)
  · obtain ⟨a, m, rfl, _⟩ := h
    rfl
  · obtain ⟨a, m, rfl, m60, st, q⟩ := h
    refine ⟨_, pss_cons (ps_set (i := 2) scLk.nd rfl (Or.inr rfl) (pe_has hT hr rfl (pa_cons (pv 0) (pa_cons pe_int pa_nil))))
      (pss_one (ps_ret (pe_comp (NB := ["place", "pool", "part"]) (ix := [0, 2]) (BlockOk.of blockK) rfl (pi_range1 rfl T.range (pa_cons (pv 1) pa_nil)) (fun _ _ _ _ => pv 0) (fun _ _ _ _ => pts_one (pt_cmpR op_lt (pe_has hT hr rfl (pa_cons (pv 1) (pa_cons pe_int pa_nil))) (pe_ix (show IxR _ (rIxL K) from ix_list) (pe_lst (pa_cons pe_int (pa_cons pe_int (pa_cons pe_int (pa_cons pe_int (pa_cons pe_int (pa_cons pe_int pa_nil))))))) (pv 2) (fun _ _ => rfl)) (nomark _)))))), ?_⟩
    refine ⟨_, rfl, a, 6, rfl, by decide, by decide, st, fun r H1 r0 r1 st1 mv1 => ?_⟩
    obtain ⟨z, hz⟩ := six_at r0 r1
    refine ⟨_, rfl, (m : Int), rfl, by omega, by omega, comp_range (lo := 0) (n := (m : Int).toNat) (DrawI a H m) ⟨[], rfl, .nil, fun _ h => (nomatch h), Nat.le_refl _, st1, mv1⟩ ?_ ?_ ?_⟩
    · rintro i ys Hc hi ⟨ls, rfl, _, _, l, _⟩
      rw [List.length_map]
      exact Nat.lt_of_le_of_lt (show ls.length ≤ 60 by omega) (by decide)
    · intro i ys Hc hi dr
      obtain ⟨_, _, _, _, _, stc, _⟩ := id dr
      refine ⟨_, rfl, a, 6, rfl, by decide, by decide, stc, fun r2 H2 _ _ st2 mv2 => ⟨(by show 6 ≤ sizeLine; decide), fun u hu => ?_⟩⟩
      have su := new_same (o := .lst [.int 0, .int 1, .int 2, .int 3, .int 5, .int 6]) hu
      refine ⟨_, rfl, u, _, r, .int z, rfl, rfl, SqL.of upd_same, hz, _, _, rfl, rfl, _, rfl, ite2 (fun c => ?_) (fun c => ?_)⟩
      · exact ⟨_, rfl, draw_put dr (st2.mono su) (mv2.trans (Mv.of su)) (by omega)⟩
      · exact draw_skip dr (st2.mono su) (mv2.trans (Mv.of su))
    · rintro ys Hc ⟨ls, rfl, pw, al, ln, stc, mvc⟩ p hp
      have sp := new_same (o := .lst (nats ls)) hp
      exact q ls p _ (stc.mono sp) (mvc.trans (Mv.of sp)) ⟨pw, fun x hx => (al x hx).2⟩ upd_same (none_mv mvc stc hp)
end
end K42

namespace L2
open PySem PySem.Spec PyProof.Rows
/-! ### a comprehension of several clauses -/
noncomputable def compRest (elt : Expr) (gens : List Comprehension) (scope : Scope) (pos : Pos) (k : Nat) (acc : Value) (env : Env) (fin : Sem Fin) : Sem Fin := match gens[k]? with
  | some g' => do
    let x ← eval g'.iter env
    standAt g'.iter.pos
    let x ← foldedSetIterable g'.iter env x
    let y ← holding [x] (pyIter x)
    let _ ← runOwn (.compStart (.ListComp elt gens scope pos) k y acc env) env
    fin
  | none => do
    (do let _ ← call (.builtin "list.append") [acc, ← eval elt env])
    fin
theorem compTurn_gen {elt : Expr} {gens : List Comprehension} {scope : Scope} {pos : Pos} {k : Nat} {tg iter : Expr} {ifs : List Expr} (hk : gens[k]? = some ⟨tg, iter, ifs, 0⟩) (ha : ∀ g ∈ gens, g.is_async = 0) (it acc : Value) (env : Env) :
    compTurn (.ListComp elt gens scope pos) k it acc env = (do
      standAt iter.pos
      match ← pyNext it with
      | none => pure (.done .next)
      | some v =>
        letOwnedTupleGo tg it v
        assign tg env v
        let mut ok := true
        for c in ifs do
          if ok then ok ← isTrue c env (eval c env)
        if ok then compRest elt gens scope pos (k + 1) acc env (again (.compLoop (.ListComp elt gens scope pos) k it acc env))
        else again (.compLoop (.ListComp elt gens scope pos) k it acc env)) := by
  unfold compTurn compRest
  simp only [hk]
  cases h : gens[k + 1]? with
  | none => rfl
  | some g' =>
    have e := ha g' (List.mem_of_getElem? h)
    obtain ⟨t, i, f, a⟩ := g'
    dsimp only at e
    subst e
    rfl
section
variable {prog : Program} {w : World} {A : Around} {R : Result → Shared → Prop} {s : Shared} {elt tg iter : Expr} {gens : List Comprehension} {ifs : List Expr} {scope : Scope} {pos : Pos} {k : Nat}
theorem comp_loopG (hk : gens[k]? = some ⟨tg, iter, ifs, 0⟩) (ha : ∀ g ∈ gens, g.is_async = 0) {it acc : Value} {env : Env} (I : Nat → Shared → Prop)
    (turn : ∀ n s, I n s → wpAny (model prog w) A (pyNext it) (fun r s1 => match r with
      | none => R (.ok .next) s1
      | some v => wpAny (model prog w) A (letOwnedTupleGo tg it v) (fun _ s0 => wpAny (model prog w) A (assign tg env v) (fun _ s2 => wpAny (model prog w) A (forIn ifs true fun c r => if r = true then do let ok ← isTrue c env (eval c env); pure (ForInStep.yield ok) else pure (ForInStep.yield r)) (fun ok s3 =>
            if ok = true then ∀ (fin : Sem Fin) (Qf : Fin → Shared → Prop), (∀ s5, (∃ m, m < n ∧ I m s5) → wpAny (model prog w) A fin Qf (nb2 prog w A env R) s5) → wpAny (model prog w) A (compRest elt gens scope pos (k + 1) acc env fin) Qf (nb2 prog w A env R) s3
            else ∃ m, m < n ∧ I m s3) (nb2 prog w A env R) s2) (nb2 prog w A env R) s0) (nb2 prog w A env R) s1) (nb2 prog w A env R) s)
    (n : Nat) (h : I n s) : codeAny (model prog w) A (.compLoop (.ListComp elt gens scope pos) k it acc env) R s := by
  refine codeAny_loop rfl I (fun n s hI => ?_) n h
  refine (wpAny_noted (?_ : _) : wpAny _ A ((compTurn (.ListComp elt gens scope pos) k it acc env).onRaise (fun x => do noteFrame x env; theTreesLotGoes x)) _ _ s)
  rw [compTurn_gen hk ha]
  refine wpAny_bind (wpAny_standAt (wpAny_bind (wpAny_mono (turn n s hI) (fun r s1 h1 => ?_) fun _ _ z => z)))
  cases r with
  | none => exact wpAny_pure h1
  | some v =>
    refine wpAny_bind (wpAny_mono h1 (fun _ s0 h0 => wpAny_bind (wpAny_mono h0 (fun _ s2 h2 => wpAny_bind (wpAny_mono h2 (fun ok s3 h3 => ?_) fun _ _ z => z)) fun _ _ z => z)) fun _ _ z => z)
    cases ok with
    | false => exact wpAny_pure ⟨rfl, h3⟩
    | true => exact h3 _ _ fun s5 h5 => wpAny_pure ⟨rfl, h5⟩
theorem comp_startG (hk : gens[k]? = some ⟨tg, iter, ifs, 0⟩) {it acc : Value} {env : Env}
    (h0 : codeAny (model prog w) A (.compLoop (.ListComp elt gens scope pos) k it acc env) R s)
    (h : wpAny (model prog w) A (pyIter it) (fun it' s' => codeAny (model prog w) A (.compLoop (.ListComp elt gens scope pos) k it' acc env) R s') (notedBy (model prog w) A env fun x s' => R (.error x) s') s) :
    codeAny (model prog w) A (.compStart (.ListComp elt gens scope pos) k it acc env) R s := by
  refine codeAny_of_tree ?_
  show wpAny _ _ ((compStart (.ListComp elt gens scope pos) k it acc env).onRaise (fun x => do noteFrame x env; standAt theWindowsPlace)) _ _ s
  refine wpAny_notedAt ?_
  unfold compStart
  have ec : (clausesOf (.ListComp elt gens scope pos))[k]? = some ⟨tg, iter, ifs, 0⟩ := hk
  rw [ec]
  show wpAny _ _ (ask >>= _) _ _ s
  refine wpAny_bind (wpAny_askSetting (wpAny_ite ?_))
  split
  · first
      | exact wpAny_bind (wpAny_pure (wpAny_pure (And.intro rfl h0)))
      | exact wpAny_pure (And.intro rfl h0)
  · first
      | exact wpAny_bind (wpAny_rule (wpAny_bind (wpAny_standAt (wpAny_bind (wpAny_mono h (fun it' s' h' => wpAny_pure (And.intro rfl h')) fun _ _ x => x)))))
      | (refine wpAny_bind (wpAny_rule ?_); show wpAny _ _ (standAt iter.pos >>= _) _ _ s; exact wpAny_bind (wpAny_standAt (wpAny_bind (wpAny_mono h (fun it' s' h' => wpAny_pure (And.intro rfl h')) fun _ _ x => x))))
end
end L2

namespace L2
open PySem PySem.Spec PyProof.Rows
noncomputable def blockGB (N : List Str) (fs scope : Scope) (vs NB : List Str) (ix : List Nat) : Bool :=
  decide (scope.kind = .function) && scope.names.all (fun y => decide (y.2 ≠ .cell)) && scope.names.all (fun y => decide (y.2 ≠ .local) || decide (scope.names.lookup y.1 = some .local)) &&
  scope.names.all (fun y => decide (y.2 ≠ .free) || (decide (fs.names.lookup y.1 = some .cell) || decide (fs.names.lookup y.1 = some .free))) &&
  decide (NB = vs ++ ix.map fun i => N.getD i "") && decide NB.Nodup && ix.all fun i => match N[i]? with | some y => decide (scope.names.lookup y = some .free) | none => false
structure BlockG (X : Cx) (scope : Scope) (vs NB : List Str) (ix : List Nat) : Prop where
  kind : scope.kind = .function
  cell : ∀ y ∈ scope.names, y.2 ≠ .cell
  names : ∀ y ∈ scope.names, y.2 = .local → scope.names.lookup y.1 = some .local
  free : ∀ y, (y, NameKind.free) ∈ scope.names → (X.env.kindOf y = some .cell ∨ X.env.kindOf y = some .free)
  nb : NB = vs ++ ix.map fun i => X.N.getD i ""
  nd : NB.Nodup
  cap : ∀ i ∈ ix, ∃ y, X.N[i]? = some y ∧ scope.names.lookup y = some .free
theorem BlockG.of {X : Cx} {N : List Str} {fs scope : Scope} {vs NB : List Str} {ix : List Nat} (h : blockGB N fs scope vs NB ix = true) (hN : X.N = N := by rfl) (hf : X.env.scope = fs := by rfl) : BlockG X scope vs NB ix := by
  subst hN hf
  unfold blockGB at h
  simp only [Bool.and_eq_true] at h
  obtain ⟨⟨⟨⟨⟨⟨h1, h2⟩, h3⟩, h4⟩, h6⟩, h7⟩, h8⟩ := h
  refine ⟨of_decide_eq_true h1, fun y hy => of_decide_eq_true (List.all_eq_true.mp h2 y hy), fun y hy e => ?_, fun y hy => ?_, of_decide_eq_true h6, of_decide_eq_true h7, fun i hi => ?_⟩
  · have z := List.all_eq_true.mp h3 y hy
    rw [Bool.or_eq_true] at z
    rcases z with z | z
    · exact absurd e (of_decide_eq_true z)
    · exact of_decide_eq_true z
  · have z := List.all_eq_true.mp h4 _ hy
    rw [Bool.or_eq_true, Bool.or_eq_true] at z
    rcases z with z | z | z
    · exact absurd rfl (of_decide_eq_true z)
    · exact .inl (of_decide_eq_true z)
    · exact .inr (of_decide_eq_true z)
  · have z := List.all_eq_true.mp h8 i hi
    cases e : X.N[i]? with
    | none => rw [e] at z; cases z
    | some y => rw [e] at z; exact ⟨y, rfl, of_decide_eq_true z⟩
section
variable {X : Cx} {scope : Scope} {vs : List Str} {NB : List Str} {ix : List Nat} {pins : List (Addr × Obj)} {σ : St} {H2 : Hp} {s2 : Shared} {fp : List Addr}
theorem BlockG.clos (B : BlockG X scope vs NB ix) (I2 : Inv X pins σ H2 s2) : closureFor scope X.env = pure (closOf X.env.cells scope.names []) :=
  closureFor_clos fun n hn => I2.ok.has n (B.free n hn)
theorem BlockG.look (B : BlockG X scope vs NB ix) (I2 : Inv X pins σ H2 s2) {y : Str} {c : Addr} (h : (closOf X.env.cells scope.names []).lookup y = some c) : X.env.cells.lookup y = some c := by
  rcases closOf_look _ _ h with ⟨m, e⟩ | e
  · obtain ⟨c', hc⟩ := I2.ok.has y (B.free y m)
    rw [hc] at e ⊢
    exact congrArg some e
  · cases e
theorem blockG_ok (B : BlockG X scope vs NB ix) (I2 : Inv X pins σ H2 s2) {C : Addr} (hC : s2.heap.objs.size ≤ C) (f2 : ∀ b ∈ fp, FpOk X pins H2 b) (ft : ∀ b ∈ fp, b < s2.heap.objs.size) : (X.block scope C NB s2 H2 fp).Ok where
  mod := I2.ok.mod
  kind := B.kind
  glob := I2.ok.glob
  blt := I2.ok.blt
  above := hC
  inj := fun a b c h1 h2 => I2.ok.inj a b c (B.look I2 h1) (B.look I2 h2)
  has := fun y hy => by
    have key : ∀ k, (relabel scope X.env).names.lookup y = some k → (k = .cell ∨ k = .free) → ∃ c, (closOf X.env.cells scope.names []).lookup y = some c := fun k hk kk => by
      rcases relab_of (names := scope.names) hk with e | ⟨e, _⟩
      · rcases kk with rfl | rfl
        · exact absurd rfl (B.cell _ (look_mem e))
        · exact closOf_has _ _ (.inl (look_mem e))
      · exact closOf_has _ _ (.inl (look_mem e))
    rcases hy with e | e
    · exact key _ e (.inl rfl)
    · exact key _ e (.inr rfl)
  cab := fun _ _ z => by cases z
  hd := I2.ok.hd
  frames := I2.ok.frames
  stk := .inl rfl
  exf := fun b hb => ⟨Nat.ne_of_lt (Nat.lt_of_lt_of_le (ft b hb) hC), fun y c e => (f2 b hb).2.2.2.2.1 y c (B.look I2 e)⟩
  bs := I2.bs
  bsz := Nat.le_trans I2.ok.bsz I2.sz
  noex := fun b o e hb => by
    rcases (f2 b hb).2.2.2.1 with z | z
    · exact I2.ok.noex b o e z
    · exact absurd (Nat.lt_of_lt_of_le (Heap.lt_size (I2.ok.bs b o e).1) z) (Nat.lt_irrefl _)
  exfs := fun b hb z => by
    rcases List.mem_cons.mp (I2.stkSub b z) with e | e
    · exact (f2 b hb).2.1 e
    · exact (f2 b hb).2.2.1 e
  funs := I2.stack
  frf := I2.stkFree
theorem blockG_inv (B : BlockG X scope vs NB ix) (I2 : Inv X pins σ H2 s2) {C D : Addr} {h1 : Heap} {tk : Nat} {m : Str → Option Value} {oD : Obj} (hC : s2.heap.objs.size ≤ C) (hD : s2.heap.objs.size ≤ D) (hDC : D ≠ C) (f2 : ∀ b ∈ fp, FpOk X pins H2 b) (ft : ∀ b ∈ fp, b < s2.heap.objs.size)
    (old : ∀ b o, s2.heap.get? b = some o → h1.get? b = some o) (hn : h1.Ns C m) (ho : h1.get? D = some oD) (hcl : ∀ v, oD.data ≠ .cell v) :
    Inv (X.block scope C NB s2 H2 fp) [(D, oD)] (List.replicate vs.length none ++ caps ix σ) H2 { s2 with heap := h1, toks := tk } where
  ok := blockG_ok B I2 hC f2 ft
  os := rfl
  bare := I2.bare
  base := Un.kept old
  loc := by
    refine ⟨m, hn, fun i y v e1 e2 _ => ?_⟩
    have e1 : NB[i]? = some y := e1
    by_cases li : i < vs.length
    · rw [List.getElem?_append_left (by rw [List.length_replicate]; exact li), List.getElem?_replicate, if_pos li] at e2
      cases e2
    · obtain ⟨j, rfl⟩ : ∃ j, i = vs.length + j := ⟨i - vs.length, by omega⟩
      have e2 : (caps ix σ)[j]? = some (some v) := by
        rw [List.getElem?_append_right (by rw [List.length_replicate]; omega), List.length_replicate, Nat.add_sub_cancel_left] at e2
        exact e2
      rw [B.nb] at e1
      have e1 : (ix.map fun i => X.N.getD i "")[j]? = some y := by
        rw [List.getElem?_append_right (by omega), Nat.add_sub_cancel_left] at e1
        exact e1
      rw [List.getElem?_map] at e1
      unfold caps at e2
      rw [List.getElem?_map] at e2
      cases q : ix[j]? with
      | none => rw [q] at e1; cases e1
      | some i =>
        rw [q] at e1 e2
        obtain ⟨z, hz, fz⟩ := B.cap i (List.mem_of_getElem? q)
        have ey : y = z := by
          have w : X.N.getD i "" = y := Option.some.inj e1
          rw [← w, List.getD_eq_getElem?_getD, hz]
          rfl
        subst ey
        have e2 : (σ[i]?).join = some v := Option.some.inj e2
        have es : σ[i]? = some (some v) := by
          cases w : σ[i]? with
          | none => rw [w] at e2; cases e2
          | some o => rw [w] at e2; exact congrArg some e2
        have fk := B.free y (look_mem fz)
        have vis : Vis X.env.scope y := .inr fk
        obtain ⟨mm, _, hl⟩ := I2.loc
        obtain ⟨u, ru, lk⟩ := hl i y v hz es vis
        refine ⟨u, ru, .inr ⟨?_, ?_⟩⟩
        · rcases relab_some (env := X.env) (names := scope.names) fz with e | ⟨_, e⟩
          · exact .inr e
          · exact .inl e
        · rcases lk with ⟨lk, _⟩ | ⟨_, c, hc, hcell⟩
          · rcases fk with fk | fk
            · rw [lk] at fk; cases fk
            · rw [lk] at fk; cases fk
          · obtain ⟨c', hc'⟩ := closOf_has (cells := X.env.cells) scope.names [] (.inl (look_mem fz))
            have e3 := B.look I2 hc'
            rw [hc] at e3
            cases e3
            obtain ⟨oc, g1, g2⟩ := hcell
            exact ⟨c, hc', oc, old _ _ g1, g2⟩
  cell := fun y c e => by
    obtain ⟨v, o, g1, g2⟩ := I2.cell y c (B.look I2 e)
    exact ⟨v, o, old _ _ g1, g2⟩
  free := I2.hok.fresh hC
  freeC := fun y c e => I2.freeC y c (B.look I2 e)
  pin := fun p hp => by
    have e : p = (D, oD) := by simpa [Cx.block] using hp
    subst e
    refine ⟨ho, I2.hok.fresh hD, hDC, fun z => ?_, hcl⟩
    rcases List.mem_cons.mp (I2.stkSub D z) with e | e
    · have e : D = X.env.locals := e
      exact absurd (Nat.lt_of_lt_of_le I2.lt (e ▸ hD)) (Nat.lt_irrefl _)
    · exact I2.nofs hD e
  hok := I2.hok.kept old
  len := by
    show (List.replicate vs.length none ++ caps ix σ).length = NB.length
    rw [B.nb, List.length_append, List.length_append, caps_len, List.length_map, List.length_replicate]
end
end L2

namespace L2
open PySem PySem.Spec PyProof.Rows
noncomputable abbrev TL := List V → St → Hp → (List V → St → Hp → Prop) → Prop
noncomputable def PL (X : Cx) (D : Addr) (elt : Expr) (gens : List Comprehension) (scope : Scope) (pos : Pos) (k : Nat) (t : TL) : Prop :=
  X.s₀.heap.objs.size ≤ D → (∀ y c, X.env.cells.lookup y = some c → c ≠ D) → (∀ e s', X.xe e s' → False) →
  ∀ (pins : List (Addr × Obj)) (s : Shared) (σ : St) (H : Hp) (ys : List V) (its : List Value) (nn : Nat) (Q : List V → St → Hp → Prop) (fin : Sem Fin) (Qf : Fin → Shared → Prop) (E : Value → Shared → Prop),
    (∀ p ∈ X.pn ++ pins, p.1 ≠ D) → Inv X ((D, lstO its nn) :: pins) σ H s → Vals ys its → ys.length ≤ sizeLine → t ys σ H Q →
    (∀ s' ys' its' nn' σ' H', Inv X ((D, lstO its' nn') :: pins) σ' H' s' → Vals ys' its' → ys'.length ≤ sizeLine → Q ys' σ' H' → wpAny (model X.prog X.w) X.A fin Qf E s') →
    wpAny (model X.prog X.w) X.A (compRest elt gens scope pos k (.ref D) X.env fin) Qf E s
noncomputable def tEmit (te : TE) : TL := fun ys σ H Q => te σ H fun v H1 => ys.length < sizeLine ∧ Q (ys ++ [v]) σ H1
noncomputable def ForL (J : It) (g : TG) (tt : TT) (tr : TL) (ys0 : List V) (σ0 : St) (H1 : Hp) (Q : List V → St → Hp → Prop) : Prop :=
  ∃ W : Nat → Nat → List V → St → Hp → Prop, (∃ m, W 0 m ys0 σ0 H1) ∧ ∀ i m ys σ H, W i m ys σ H →
    (J.stop i H ∧ Q ys σ H) ∨ (J.go i H ∧ ∃ N : List V → St → Hp → Prop, (∀ ys' σ' H', N ys' σ' H' → ∃ m', m' < m ∧ W (i + 1) m' ys' σ' H') ∧
      ∀ x H', J.yld i H x H' → g x σ H' fun σ2 H2 => tt σ2 H2 fun b H3 => if b = true then tr ys σ2 H3 N else N ys σ2 H3)
noncomputable def tForL (wi : TI) (g : TG) (tt : TT) (tr : TL) : TL := fun ys σ H Q => wi σ H fun J H1 => ForL J g tt tr ys σ H1 Q
section
variable {X : Cx} {D : Addr} {elt tg iter : Expr} {gens : List Comprehension} {ifs : List Expr} {scope : Scope} {pos : Pos} {k : Nat}
theorem pl_emit {te : TE} (he : PE X elt te) (hk : gens[k]? = none := by rfl) : PL X D elt gens scope pos k (tEmit te) := by
  intro hD hc hx pins s σ H ys its nn Q fin Qf E hp I rv hz h hf
  unfold compRest
  rw [hk]
  refine wpAny_bind (wpAny_bind (wpAny_mono (he _ s σ H _ I h) (fun y s8 ⟨yv, H8, I8, r8, hlt, n8⟩ => wpAny_bind ?_) fun e s' z => (hx e s' z).elim))
  have pD := I8.pin (D, lstO its nn) (List.mem_append_right _ List.mem_cons_self)
  refine append_at (hsz := by rw [List.size_toArray, ← rv.length]; exact hz) pD.1 fun h9 hs9 hD9 => wpAny_pure ?_
  have I8n : Inv X pins σ H8 s8 := I8.pins_of fun p hp' => I8.pin p (List.mem_append_right _ (List.mem_cons_of_mem _ hp'))
  have I9 := I8n.turned (h' := h9) (t' := s8.toks) (it := D) (fun b o hb e => hs9.extBut b o hb e) pD.2.1 pD.2.2.1 (.inr hD) hc hp
  have e9 : lstO (its ++ [y]) (nn + 1) = { cls := .type "list", data := .seq (its.toArray.push y) (nn + 1) } := by
    show ({ cls := .type "list", data := .seq (its ++ [y]).toArray (nn + 1) } : Obj) = _
    rw [List.push_toArray]
  have I10 : Inv X ((D, lstO (its ++ [y]) (nn + 1)) :: pins) σ H8 { s8 with heap := h9 } := by
    refine I9.pins_of fun p hp' => ?_
    rcases List.mem_cons.mp hp' with rfl | hp'
    · exact ⟨hD9.trans (congrArg some e9.symm), pD.2.1, pD.2.2.1, pD.2.2.2.1, fun v q => by cases q⟩
    · exact I9.pin p (List.mem_append_right _ hp')
  exact hf _ (ys ++ [yv]) (its ++ [y]) (nn + 1) σ H8 I10 (Vals.append rv (.cons r8 .nil)) (by rw [List.length_append]; exact hlt) n8
theorem fp_other {pins : List (Addr × Obj)} {H H' : Hp} {o o' : Obj} {b : Addr} (f : FpOk X ((D, o) :: pins) H b) (hn : H' b = none) : FpOk X ((D, o') :: pins) H' b := by
  obtain ⟨f0, f1, f2, f3, f4, f5⟩ := f
  refine ⟨hn, f1, f2, f3, f4, fun p hp => ?_⟩
  rcases List.mem_append.mp hp with hp | hp
  · exact f5 p (List.mem_append_left _ hp)
  · rcases List.mem_cons.mp hp with rfl | hp
    · exact f5 (D, o) (List.mem_append_right _ List.mem_cons_self)
    · exact f5 p (List.mem_append_right _ (List.mem_cons_of_mem _ hp))
theorem pl_for {wi : TI} {g : TG} {tt : TT} {tr : TL} (hc : X.calm = true) (hi : PI X tg iter wi) (hg : PG X tg g) (ht : PTs X ifs tt) (hr : PL X D elt gens scope pos (k + 1) tr)
    (hk : gens[k]? = some ⟨tg, iter, ifs, 0⟩ := by rfl) (ha : ∀ g ∈ gens, g.is_async = 0 := by decide) (hs : ∀ v, foldedSetIterable iter X.env v = pure v := by intro _; rfl) : PL X D elt gens scope pos k (tForL wi g tt tr) := by
  intro hD hcD hx pins s σ H ys its nn Q fin Qf E hp I rv hz h hf
  unfold compRest
  rw [hk]
  refine wpAny_bind (wpAny_mono (hi _ s σ H _ I h) (fun v s1 h1 => wpAny_bind (wpAny_standAt (wpAny_bind (wpAny_of_eq (hs v) (wpAny_bind (wpAny_holding (wpAny_mono h1 (fun itv s2 h2 => ?_) fun e s' z => (hx e s' z).elim))))))) fun e s' z => (hx e s' z).elim)
  obtain ⟨it, fp, tn, J, H2, e, I2, T, st2, f2, W, ⟨m0, w0⟩, turn⟩ := h2
  subst e
  refine wpAny_bind (wpAny_runOwn ?_)
  have loop : codeAny (model X.prog X.w) X.A (.compLoop (.ListComp elt gens scope pos) k (.ref it) (.ref D) X.env) (fun r s' => match r with | .ok f => wpAny (model X.prog X.w) X.A fin Qf E s' | .error e => cameBackBy (model X.prog X.w) X.A X.env E e s') s2 := by
    refine comp_loopG hk ha (fun n s' => ∃ i ys' its' nn' σ' H', W i n ys' σ' H' ∧ Inv X ((D, lstO its' nn') :: pins) σ' H' s' ∧ tn i s'.heap ∧ (∀ b ∈ fp, H' b = none) ∧ Vals ys' its' ∧ ys'.length ≤ sizeLine) ?_ m0 ⟨0, ys, its, nn, σ, H2, w0, I2, st2, fun b hb => (f2 b hb).1, rv, hz⟩
    rintro n s' ⟨i, ys', its', nn', σ', H', w', I', st', fr', rv', hz'⟩
    have fy : ∀ {H3 : Hp}, (∀ b ∈ fp, H3 b = none) → ∀ b ∈ fp, FpOk X ((D, lstO its' nn') :: pins) H3 b := fun hn b hb => fp_other (f2 b hb) (hn b hb)
    rcases turn i n ys' σ' H' w' with ⟨stop, q⟩ | ⟨go, Nx, hNx, step⟩
    · refine wpAny_mono (T.done X rfl rfl rfl hc i _ s' _ H' (fun _ _ => False) I' (fy fr') st' stop) (fun r s4 ⟨hr', I4⟩ => ?_) fun _ _ z => z.elim
      subst hr'
      exact hf _ _ _ _ _ _ I4 rv' hz' q
    · refine wpAny_mono (T.item X rfl rfl rfl hc i _ s' _ H' (fun _ _ => False) I' (fy fr') st' go) (fun r s4 ⟨u, hr', h4⟩ => ?_) fun _ _ z => z.elim
      subst hr'
      refine wpAny_mono h4 (fun _ s4 ⟨v, H5, I5, r5, y5, st5, fr5⟩ => ?_) fun _ _ z => z.elim
      have pIt : ∀ b ∈ fp, ∃ o, s4.heap.get? b = some o ∧ ∀ v, o.data ≠ .cell v := T.obj _ _ st5
      have I5' := I5.pinned (fy fr5) pIt
      refine wpAny_mono (hg _ s4 σ' H5 v u _ I5' r5 (step v H5 y5)) (fun _ s6 ⟨σ6, H6, I6, q6⟩ => ?_) fun e s' z => (hx e s' z).elim
      refine wpAny_mono (ht _ s6 σ6 H6 _ I6 q6) (fun b s7 ⟨H7, I7, q7⟩ => ?_) fun e s' z => (hx e s' z).elim
      have stays : ∀ {s9 : Shared} {H9 : Hp} {σ9 : St} {oD : Obj}, Inv X ((D, oD) :: (pins ++ pinsAt fp s4.heap)) σ9 H9 s9 → tn (i + 1) s9.heap ∧ (∀ b ∈ fp, H9 b = none) ∧ Inv X ((D, oD) :: pins) σ9 H9 s9 := fun {s9 H9 σ9 oD} I9 => by
        refine ⟨T.keep _ _ _ st5 fun b hb o e => (I9.pin (b, o) (List.mem_append_right _ (List.mem_cons_of_mem _ (List.mem_append_right _ (mem_pinsAt hb e))))).1, fun b hb => ?_, I9.pins_of fun p hp' => I9.pin p (List.mem_append_right _ ?_)⟩
        · obtain ⟨o, e, d⟩ := pIt b hb
          exact (I9.pin (b, o) (List.mem_append_right _ (List.mem_cons_of_mem _ (List.mem_append_right _ (mem_pinsAt hb e))))).2.1
        · rcases List.mem_cons.mp hp' with rfl | hp'
          · exact List.mem_cons_self
          · exact List.mem_cons_of_mem _ (List.mem_append_left _ hp')
      cases b with
      | false =>
        rw [if_neg Bool.false_ne_true] at q7 ⊢
        obtain ⟨m', hm, w7⟩ := hNx _ _ _ q7
        obtain ⟨g1, g2, g3⟩ := stays I7
        exact ⟨m', hm, i + 1, ys', its', nn', σ6, H7, w7, g3, g1, g2, rv', hz'⟩
      | true =>
        rw [if_pos rfl] at q7 ⊢
        intro fin' Qf' hf'
        refine hr hD hcD hx (pins ++ pinsAt fp s4.heap) s7 σ6 H7 ys' its' nn' Nx fin' Qf' _ (fun p hp' => ?_) I7 rv' hz' q7 fun s8 ys8 its8 nn8 σ8 H8 I8 rv8 hz8 n8 => ?_
        · rcases List.mem_append.mp hp' with hp' | hp'
          · exact hp p (List.mem_append_left _ hp')
          · rcases List.mem_append.mp hp' with hp' | hp'
            · exact hp p (List.mem_append_right _ hp')
            · exact Ne.symm ((f2 p.1 (of_pinsAt hp').1).2.2.2.2.2 (D, lstO its nn) (List.mem_append_right _ List.mem_cons_self))
        · obtain ⟨m', hm, w8⟩ := hNx _ _ _ n8
          obtain ⟨g1, g2, g3⟩ := stays I8
          exact hf' s8 ⟨m', hm, i + 1, ys8, its8, nn8, σ8, H8, w8, g3, g1, g2, rv8, hz8⟩
  exact comp_startG hk loop (T.self _ 0 _ _ _ st2 loop)
end
section
variable {X : Cx} {scope : Scope} {vs : List Str} {NB : List Str} {ix : List Nat}
noncomputable def tCompL (wi : TI) (n : Nat) (ix : List Nat) (g : TG) (tt : TT) (tr : TL) : TE := fun σ H Q => wi σ H fun J H1 => ForL J g tt tr [] (List.replicate n none ++ caps ix σ) H1 fun ys _ H' => ∀ p, H' p = none → Q (.ref p) (upd H' p (.lst ys))
theorem compL_core {elt tg iter : Expr} {ifs : List Expr} {rest : List Comprehension} {pos : Pos} {g : TG} {tt : TT} {tr : TL} {J : It} {it : Addr} {tn : Nat → Heap → Prop} {fp : List Addr} {pins : List (Addr × Obj)} {σ : St} {H2 : Hp} {s2 : Shared} {E : Value → Shared → Prop} {RR : Value → Addr → Result → Shared → Prop} {Qr : VK} (B : BlockG X scope vs NB ix) (hc : X.calm = true)
    (hg : ∀ (C : Addr) (s : Shared) (H : Hp) (fp : List Addr), PG (X.block scope C NB s H fp) tg g) (ht : ∀ (C : Addr) (s : Shared) (H : Hp) (fp : List Addr), PTs (X.block scope C NB s H fp) ifs tt)
    (hr : ∀ (C : Addr) (s : Shared) (H : Hp) (fp : List Addr) (D : Addr), PL (X.block scope C NB s H fp) D elt (⟨tg, iter, ifs, 0⟩ :: rest) scope pos 1 tr)
    (ha : ∀ g ∈ rest, g.is_async = 0) (I2 : Inv X pins σ H2 s2) (T : Turn X.prog X.w X.K tg J fp it tn) (st2 : tn 0 s2.heap) (f2 : ∀ b ∈ fp, FpOk X pins H2 b) (h : ForL J g tt tr [] (List.replicate vs.length none ++ caps ix σ) H2 fun ys _ H' => ∀ p, H' p = none → Qr (.ref p) (upd H' p (.lst ys)))
    (hRR : ∀ (D C : Addr) (Hf : Hp) (s' : Shared) (m' : Str → Option Value), Inv X pins σ Hf s' → s'.heap.Ns C m' → FpOk X pins Hf C → Qr (.ref D) Hf → RR (.ref D) C (.ok .next) s') :
    wpAny (model X.prog X.w) X.A (newList []) (fun acc s3 => wpAny (model X.prog X.w) X.A (newFunctionEnv scope X.env.globals (closOf X.env.cells scope.names []) [] X.env.qual none .none (some X.env)) (fun cenv s4 =>
      codeAny (model X.prog X.w) X.A (.compStart (.ListComp elt (⟨tg, iter, ifs, 0⟩ :: rest) scope pos) 0 (.ref it) acc { cenv with scope := relabel scope X.env }) (RR acc cenv.locals) s4) E s3) E s2 := by
  obtain ⟨W, ⟨m0, w0⟩, turn⟩ := h
  have ha' : ∀ g ∈ (⟨tg, iter, ifs, 0⟩ : Comprehension) :: rest, g.is_async = 0 := fun g hg => by
    rcases List.mem_cons.mp hg with rfl | hg
    · rfl
    · exact ha g hg
  refine wpAny_newObj_type (wpAny_newFunctionEnv B.cell (by intro y hy; simp at hy) (fun h1 hns hsb => ?_) B.kind)
  dsimp only at hns hsb ⊢
  generalize eG : s2.heap.push { cls := .type "list", dict := none, data := .seq ([] : List Value).toArray } = G at hns hsb ⊢
  have hC : G.objs.size = s2.heap.objs.size + 1 := by rw [← eG, Heap.size_push]
  have hDC : s2.heap.objs.size ≠ G.objs.size := by rw [hC]; exact Nat.ne_of_lt (Nat.lt_succ_self _)
  have hCle : s2.heap.objs.size ≤ G.objs.size := by rw [hC]; exact Nat.le_succ _
  have old : ∀ b o, s2.heap.get? b = some o → h1.get? b = some o := fun b o e => by
    have lt := Heap.lt_size e
    exact hsb.extBut b o (Nat.ne_of_lt (Nat.lt_of_lt_of_le lt hCle)) (Heap.get?_push_of_some _ (eG ▸ Heap.get?_push_of_some _ e))
  have hacc : h1.get? s2.heap.objs.size = some (lstO [] 0) := hsb.extBut _ _ hDC (Heap.get?_push_of_some _ (eG ▸ Heap.get?_push_size _ rfl))
  have ft : ∀ b ∈ fp, b < s2.heap.objs.size := fun b hb => by
    obtain ⟨o, e, _⟩ := T.obj _ _ st2 b hb
    exact Heap.lt_size e
  have cD : ∀ y c, (X.block scope G.objs.size NB s2 H2 fp).env.cells.lookup y = some c → c ≠ s2.heap.objs.size := fun y c e z => by
    obtain ⟨w, q⟩ := I2.cell y c (B.look I2 e)
    exact Nat.lt_irrefl _ (z ▸ q.lt)
  have loop : ∀ s3 : Shared, s3 = { s2 with heap := h1, toks := s2.toks + ([] : List (Str × Value)).length } →
      codeAny (model X.prog X.w) X.A (.compLoop (.ListComp elt (⟨tg, iter, ifs, 0⟩ :: rest) scope pos) 0 (.ref it) (.ref s2.heap.objs.size) (compEnvC scope (closOf X.env.cells scope.names []) G.objs.size X.env))
        (RR (.ref s2.heap.objs.size) G.objs.size) s3 := by
    rintro s3 rfl
    have I3 := blockG_inv (tk := s2.toks + ([] : List (Str × Value)).length) B I2 hCle (Nat.le_refl _) hDC f2 ft old hns hacc (fun v q => by cases q)
    have st3 : tn 0 h1 := T.keep _ _ _ st2 fun b _ o e => old b o e
    have fy : ∀ {H' : Hp} {oD : Obj}, (∀ b ∈ fp, H' b = none) → ∀ b ∈ fp, FpOk (X.block scope G.objs.size NB s2 H2 fp) [(s2.heap.objs.size, oD)] H' b := fun {H' oD} hn b hb => by
      refine ⟨hn b hb, Nat.ne_of_lt (Nat.lt_of_lt_of_le (ft b hb) hCle), fun z => ?_, .inl hb, fun y c e => (f2 b hb).2.2.2.2.1 y c (B.look I2 e), fun p hp => ?_⟩
      · rcases List.mem_cons.mp (I2.stkSub b z) with e | e
        · exact (f2 b hb).2.1 e
        · exact (f2 b hb).2.2.1 e
      · have e : p = (s2.heap.objs.size, oD) := by simpa [Cx.block] using hp
        subst e
        exact Ne.symm (Nat.ne_of_lt (ft b hb))
    refine comp_loopG (k := 0) rfl ha' (fun n s' => ∃ i ys its nn σ' H', W i n ys σ' H' ∧ Inv (X.block scope G.objs.size NB s2 H2 fp) [(s2.heap.objs.size, lstO its nn)] σ' H' s' ∧ tn i s'.heap ∧ (∀ b ∈ fp, H' b = none) ∧ Vals ys its ∧ ys.length ≤ sizeLine)
      ?_ m0 ⟨0, [], [], 0, _, H2, w0, I3, st3, fun b hb => (f2 b hb).1, .nil, Nat.zero_le _⟩
    rintro n s' ⟨i, ys, its, nn, σ', H', w', I', st', fr', rv, hz⟩
    rcases turn i n ys σ' H' w' with ⟨stop, q⟩ | ⟨go, Nx, hNx, step⟩
    · refine wpAny_mono (T.done (X.block scope G.objs.size NB s2 H2 fp) rfl rfl rfl hc i _ s' _ H' (fun _ _ => False) I' (fy fr') st' stop) (fun r s4 ⟨hr', I4⟩ => ?_) fun _ _ z => z.elim
      subst hr'
      have I5 := block_end I2 f2 (Nat.le_refl _) I4 rv hz
      obtain ⟨m4, hn4, _⟩ := I4.loc
      have hfree : H' s2.heap.objs.size = none := (I4.pin (s2.heap.objs.size, lstO its nn) (by show _ ∈ [] ++ [(s2.heap.objs.size, lstO its nn)]; simp)).2.1
      have fC : FpOk X pins (upd H' s2.heap.objs.size (.lst ys)) G.objs.size := I2.fpOk hCle (by
        rw [upd_ne (Ne.symm hDC)]
        exact I4.free)
      exact hRR _ _ _ s4 m4 I5 hn4 fC (q _ hfree)
    · refine wpAny_mono (T.item (X.block scope G.objs.size NB s2 H2 fp) rfl rfl rfl hc i _ s' _ H' (fun _ _ => False) I' (fy fr') st' go) (fun r s4 ⟨u, hr', h4⟩ => ?_) fun _ _ z => z.elim
      subst hr'
      refine wpAny_mono h4 (fun _ s4 ⟨v, H5, I5, r5, y5, st5, fr5⟩ => ?_) fun _ _ z => z.elim
      have pIt : ∀ b ∈ fp, ∃ o, s4.heap.get? b = some o ∧ ∀ v, o.data ≠ .cell v := T.obj _ _ st5
      have I5' := I5.pinned (fy fr5) pIt
      refine wpAny_mono (hg _ _ _ _ _ s4 σ' H5 v u _ I5' r5 (step v H5 y5)) (fun _ s6 ⟨σ6, H6, I6, q6⟩ => ?_) fun _ _ z => z.elim
      refine wpAny_mono (ht _ _ _ _ _ s6 σ6 H6 _ I6 q6) (fun b s7 ⟨H7, I7, q7⟩ => ?_) fun _ _ z => z.elim
      have stays : ∀ {s9 : Shared} {H9 : Hp} {σ9 : St} {oD : Obj}, Inv (X.block scope G.objs.size NB s2 H2 fp) ((s2.heap.objs.size, oD) :: pinsAt fp s4.heap) σ9 H9 s9 → tn (i + 1) s9.heap ∧ (∀ b ∈ fp, H9 b = none) ∧ Inv (X.block scope G.objs.size NB s2 H2 fp) [(s2.heap.objs.size, oD)] σ9 H9 s9 := fun {s9 H9 σ9 oD} I9 => by
        refine ⟨T.keep _ _ _ st5 fun b hb o e => (I9.pin (b, o) (List.mem_append_right _ (List.mem_cons_of_mem _ (mem_pinsAt hb e)))).1, fun b hb => ?_, I9.pins_of fun p hp' => I9.pin p (List.mem_append_right _ ?_)⟩
        · obtain ⟨o, e, d⟩ := pIt b hb
          exact (I9.pin (b, o) (List.mem_append_right _ (List.mem_cons_of_mem _ (mem_pinsAt hb e)))).2.1
        · rw [List.mem_singleton.mp hp']
          exact List.mem_cons_self
      cases b with
      | false =>
        rw [if_neg Bool.false_ne_true] at q7 ⊢
        obtain ⟨m', hm, w7⟩ := hNx _ _ _ q7
        obtain ⟨g1, g2, g3⟩ := stays I7
        exact ⟨m', hm, i + 1, ys, its, nn, σ6, H7, w7, g3, g1, g2, rv, hz⟩
      | true =>
        rw [if_pos rfl] at q7 ⊢
        intro fin' Qf' hf'
        refine hr _ _ _ _ s2.heap.objs.size (Nat.le_refl _) cD (fun _ _ z => z) (pinsAt fp s4.heap) s7 σ6 H7 ys its nn Nx fin' Qf' _ (fun p hp' => ?_) I7 rv hz q7 fun s8 ys8 its8 nn8 σ8 H8 I8 rv8 hz8 n8 => ?_
        · have hp'' : p ∈ pinsAt fp s4.heap := hp'
          exact Nat.ne_of_lt (ft _ (of_pinsAt hp'').1)
        · obtain ⟨m', hm, w8⟩ := hNx _ _ _ n8
          obtain ⟨g1, g2, g3⟩ := stays I8
          exact hf' s8 ⟨m', hm, i + 1, ys8, its8, nn8, σ8, H8, w8, g3, g1, g2, rv8, hz8⟩
  exact codeAny_compStart_list (loop _ rfl) (T.self _ 0 _ _ _ (T.keep _ _ _ st2 fun b _ o e => old b o e) (loop _ rfl))
theorem ps_compL {elt tg iter : Expr} {ifs : List Expr} {rest : List Comprehension} {pos py spos : Pos} {wi : TI} {g : TG} {tt : TT} {tr : TL} {j : Nat} {y : Str} (hN : X.N.Nodup) (hj : X.N[j]? = some y) (hy : X.env.scope.names.lookup y = some .local) (B : BlockG X scope vs NB ix) (hc : X.calm = true) (hi : PI X tg iter wi)
    (hg : ∀ (C : Addr) (s : Shared) (H : Hp) (fp : List Addr), PG (X.block scope C NB s H fp) tg g) (ht : ∀ (C : Addr) (s : Shared) (H : Hp) (fp : List Addr), PTs (X.block scope C NB s H fp) ifs tt)
    (hr : ∀ (C : Addr) (s : Shared) (H : Hp) (fp : List Addr) (D : Addr), PL (X.block scope C NB s H fp) D elt (⟨tg, iter, ifs, 0⟩ :: rest) scope pos 1 tr)
    (hsw : swapsWith (.ListComp elt (⟨tg, iter, ifs, 0⟩ :: rest) scope pos) (some (.Name y py)) spos.line X.env = pure true)
    (ha : ∀ g ∈ rest, g.is_async = 0 := by decide) (hs : ∀ v, foldedSetIterable iter X.env v = pure v := by intro _; rfl) : PS X (.Assign [.Name y py] (.ListComp elt (⟨tg, iter, ifs, 0⟩ :: rest) scope pos) spos) (tAsg (tCompL wi vs.length ix g tt tr) (gName j)) := by
  intro pins s σ H Dn I h
  rw [exec_Assign_Name_used _ _ _ _ hsw]
  refine wpAny_bind (wpAny_standAt (wpAny_bind ?_))
  show wpAny (model X.prog X.w) X.A (comprehension (.ListComp elt (⟨tg, iter, ifs, 0⟩ :: rest) scope pos) scope X.env _ (newList []) false (eval iter X.env) (some (assign (.Name y py) X.env)) >>= fun _ => pure ()) _ _ s
  refine wpAny_bind (thn (wpAny_comprehension_free (use := some (assign (.Name y py) X.env)) (Q := fun _ s' => SP X pins Dn .next s') rfl hs (B.clos I) B.kind B.names (thn (hi pins s σ H _ I h) fun v s1 h1 => thn h1 fun itv s2 h2 => ?_)) fun _ s' q => wpAny_pure (wpAny_pure q))
  obtain ⟨it, fp, tn, J, H2, e, I2, T, st2, f2, w⟩ := h2
  subst e
  refine compL_core (Qr := fun x H1 => gName j x σ H1 Dn.nx) (RR := fun acc C => compPost (model X.prog X.w) X.A X.xe (some (assign (.Name y py) X.env)) (fun _ s' => SP X pins Dn .next s') acc C) B hc hg ht hr ha I2 T st2 f2 w fun D C Hf s' m' I' hn' fC q => ?_
  obtain ⟨c0, c1, c2, c3, c4, c5⟩ := fC
  show wpAny (model X.prog X.w) X.A (assign (.Name y py) X.env (.ref D)) _ _ s'
  refine wpAny_assign_Name (store_ok2 I' hN hj (.inl hy) (v := .ref D) rfl (fun s'' I'' ⟨a, sb, ha⟩ => ?_) (.inr hy))
  have hCa : C ≠ a := by
    rcases ha with e | e
    · rw [e]; exact c1
    · exact fun z => c4 y a e z.symm
  refine ⟨m', hn'.sameBut sb hCa, fun h3 hs3 => ⟨_, Hf, ?_, q⟩⟩
  exact I''.turned (it := C) (t' := s''.toks) (fun b o hb e => hs3.extBut b o hb e) c0 c1 c3 c4 c5
end
/-! ### the forms one uses -/
theorem forL_list {K : PySem.W.Frag} {a : Addr} {xs : List V} {g : TG} {tt : TT} {tr : TL} {ys : List V} {σ : St} {H : Hp} {Q : List V → St → Hp → Prop} (Pv : Nat → List V → St → Hp → Prop) (h0 : Pv 0 ys σ H) (hl : ∀ i ys σ H, i ≤ xs.length → Pv i ys σ H → SqL K H a xs)
    (hs : ∀ (i : Nat) x ys σ H, xs[i]? = some x → Pv i ys σ H → g x σ H fun σ2 H2 => tt σ2 H2 fun b H3 => if b = true then tr ys σ2 H3 (Pv (i + 1)) else Pv (i + 1) ys σ2 H3) (hd : ∀ ys σ H, Pv xs.length ys σ H → Q ys σ H) : ForL (Itl K a) g tt tr ys σ H Q := by
  refine ⟨fun i m ys σ H => m = xs.length - i ∧ i ≤ xs.length ∧ Pv i ys σ H, ⟨xs.length, by simp, Nat.zero_le _, h0⟩, ?_⟩
  rintro i m ys σ H ⟨rfl, hi, p⟩
  have q := hl i ys σ H hi p
  by_cases hlt : i < xs.length
  · refine .inr ⟨⟨xs, xs[i], q, by simp [hlt]⟩, Pv (i + 1), fun ys' σ' H' p' => ⟨xs.length - (i + 1), by omega, rfl, hlt, p'⟩, fun x H' y => ?_⟩
    obtain ⟨e, y⟩ := y
    subst e
    exact hs i x ys σ _ (y xs q) p
  · have e : i = xs.length := by omega
    subst e
    exact .inl ⟨⟨xs, q, Nat.le_refl _⟩, hd ys σ H p⟩
theorem forL_enum {K : PySem.W.Frag} {a : Addr} {xs : List V} {g : TG} {tt : TT} {tr : TL} {ys : List V} {σ : St} {H : Hp} {Q : List V → St → Hp → Prop} (Pv : Nat → List V → St → Hp → Prop) (h0 : Pv 0 ys σ H) (hl : ∀ i ys σ H, i ≤ xs.length → Pv i ys σ H → SqL K H a xs)
    (hs : ∀ (i : Nat) x ys σ H T, xs[i]? = some x → Pv i ys σ H → H T = none → g (.ref T) σ (upd H T (.tup [.int i, x])) fun σ2 H2 => tt σ2 H2 fun b H3 => if b = true then tr ys σ2 H3 (Pv (i + 1)) else Pv (i + 1) ys σ2 H3) (hd : ∀ ys σ H, Pv xs.length ys σ H → Q ys σ H) : ForL (Ite K a) g tt tr ys σ H Q := by
  refine ⟨fun i m ys σ H => m = xs.length - i ∧ i ≤ xs.length ∧ Pv i ys σ H, ⟨xs.length, by simp, Nat.zero_le _, h0⟩, ?_⟩
  rintro i m ys σ H ⟨rfl, hi, p⟩
  have q := hl i ys σ H hi p
  by_cases hlt : i < xs.length
  · refine .inr ⟨⟨xs, xs[i], q, by simp [hlt]⟩, Pv (i + 1), fun ys' σ' H' p' => ⟨xs.length - (i + 1), by omega, rfl, hlt, p'⟩, fun v H' y => ?_⟩
    obtain ⟨T, hT, rfl, y⟩ := y
    obtain ⟨x, hx, rfl⟩ := y xs q
    exact hs i x ys σ _ T hx p hT
  · have e : i = xs.length := by omega
    subst e
    exact .inl ⟨⟨xs, q, Nat.le_refl _⟩, hd ys σ H p⟩
end L2

namespace L2
open PySem PySem.Spec PyProof.Rows
/-! ### min(.., default = ..) -/
section
variable {prog : Program} {w : World} {A : Around} {R : Result → Shared → Prop} {it : Addr} {fp wr : List Addr} {n : Nat} {P : Nat → Value → Prop} {Z : Nat → Heap → Prop}
theorem nmL : (toString "min" ++ toString ".loop" : String) = "min.loop" := by decide
theorem minD_go (Wk : Walks prog w A.in1 it fp wr n P Z) (bt : Nat → Nat → Bool) (cm : CmpOf prog w A.in1 .Lt P bt) (B : Addr) (nB : B ∉ fp) (kw : List (Str × Value)) :
    ∀ (d j : Nat) (t : Shared) (vb : Value) (c : Nat), n - (j + 1) = d → j + 1 ≤ n → Z (j + 1) t.heap → P (argBest bt j) vb → t.heap.get? B = some { cls := .type "list", dict := none, data := .seq #[vb, vb] c, slots := #[] } →
    (∀ v h1 tk, P (argBest bt (n - 1)) v → (∀ b o, b ∉ wr → b ≠ B → t.heap.get? b = some o → h1.get? b = some o) → R (.ok (.ret v)) { t with heap := h1, toks := tk }) →
    codeAny (model prog w) A (.builtin "min.loop" ⟨[.ref it, .none, .ref B], kw⟩) R t := by
  have nBw : B ∉ wr := fun z => nB (Wk.sub _ z)
  intro d
  induction d with
  | zero =>
    intro j t vb c ed lj zt pb eB hR
    have en : j + 1 = n := by omega
    refine codeAny_builtin F.entry_min_loop (id (by
      rw [Around.under_plainId F.plain_min_loop _]
      show wpAny _ A.in1 (seqItems? (.ref B) >>= _) _ _ t
      refine wpAny_bind (wpAny_seqItems eB rfl (id (show wpAny _ A.in1 (tryCatch (pyNext (.ref it)) _ >>= _) _ _ t from wpAny_bind (wpAny_tryCatch (Wk.done t _ _ (en ▸ zt) fun h1 tk k1 => ?_)))))
      have eB1 := k1 B _ nBw eB
      show wpAny _ A.in1 (updateSeq B (fun _ => #[]) >>= _) _ _ _
      refine wpAny_bind (id (wpAny_updateSeq eB1 rfl (wpAny_bind (wpAny_letGo (wpAny_pure ?_)))))
      exact hR vb _ tk (by rw [← en]; exact pb) fun b o bw bB e => (Heap.get?_update_other _ _ (Ne.symm bB)).trans (k1 b o bw e)))
  | succ d ih =>
    intro j t vb c ed lj zt pb eB hR
    have lt : j + 1 < n := by omega
    refine codeAny_builtin F.entry_min_loop (id (by
      rw [Around.under_plainId F.plain_min_loop _]
      show wpAny _ A.in1 (seqItems? (.ref B) >>= _) _ _ t
      refine wpAny_bind (wpAny_seqItems eB rfl (id (show wpAny _ A.in1 (tryCatch (pyNext (.ref it)) _ >>= _) _ _ t from wpAny_bind (wpAny_tryCatch (Wk.item (j + 1) t _ _ lt zt fun v h1 tk pv z1 k1 => ?_)))))
      have eB1 := k1 B _ nBw eB
      show wpAny _ A.in1 (tryCatch (holding [v, v] (richCompare .Lt v vb >>= _)) _ >>= _) _ _ _
      refine wpAny_bind (wpAny_tryCatch (wpAny_holding (wpAny_bind (cm (j + 1) (argBest bt j) v vb _ _ _ pv pb (wpAny_bind (wpAny_holding (wpAny_truthy_bool (wpAny_bind (wpAny_letGo (wpAny_pure ?_))))))))))
      cases hb : bt (j + 1) (argBest bt j) with
      | true =>
        rw [if_pos rfl]
        refine wpAny_bind (id (wpAny_updateSeq eB1 rfl (wpAny_bind (wpAny_letGo ?_))))
        rw [nmL]
        refine wpAny_pure ⟨plainId_quiet F.plain_min_loop _, ih (j + 1) _ v _ (by omega) lt (Wk.frame _ _ _ z1 fun b bf o e => ?_) (by rw [argBest, hb, if_pos rfl]; exact pv) (Heap.get?_update_self _ eB1 rfl) fun v2 h2 tk2 pv2 k2 => ?_⟩
        · exact (Heap.get?_update_other _ _ (fun z : B = b => nB (by rw [z]; exact bf))).trans e
        · exact hR v2 h2 tk2 pv2 fun b o bw bB e => k2 b o bw bB ((Heap.get?_update_other _ _ (Ne.symm bB)).trans (k1 b o bw e))
      | false =>
        rw [if_neg Bool.false_ne_true]
        refine wpAny_bind (wpAny_letGo ?_)
        rw [nmL]
        refine wpAny_pure ⟨plainId_quiet F.plain_min_loop _, ih (j + 1) _ vb c (by omega) lt z1 (by rw [argBest, hb, if_neg Bool.false_ne_true]; exact pb) eB1 fun v2 h2 tk2 pv2 k2 => ?_⟩
        exact hR v2 h2 tk2 pv2 fun b o bw bB e => k2 b o bw bB (k1 b o bw e)))
theorem minD_first (Wk : Walks prog w A.in1 it fp wr n P Z) (bt : Nat → Nat → Bool) (cm : CmpOf prog w A.in1 .Lt P bt) (B : Addr) (nB : B ∉ fp) (kw : List (Str × Value)) (pos : 0 < n) {t : Shared} {c : Nat} (zt : Z 0 t.heap)
    (eB : t.heap.get? B = some { cls := .type "list", dict := none, data := .seq #[] c, slots := #[] })
    (hR : ∀ v h1 tk, P (argBest bt (n - 1)) v → (∀ b o, b ∉ wr → b ≠ B → t.heap.get? b = some o → h1.get? b = some o) → R (.ok (.ret v)) { t with heap := h1, toks := tk }) :
    codeAny (model prog w) A (.builtin "min.loop" ⟨[.ref it, .none, .ref B], kw⟩) R t := by
  have nBw : B ∉ wr := fun z => nB (Wk.sub _ z)
  refine codeAny_builtin F.entry_min_loop (id (by
    rw [Around.under_plainId F.plain_min_loop _]
    show wpAny _ A.in1 (seqItems? (.ref B) >>= _) _ _ t
    refine wpAny_bind (wpAny_seqItems eB rfl (id (show wpAny _ A.in1 (tryCatch (pyNext (.ref it)) _ >>= _) _ _ t from wpAny_bind (wpAny_tryCatch (Wk.item 0 t _ _ pos zt fun v h1 tk pv z1 k1 => ?_)))))
    have eB1 := k1 B _ nBw eB
    show wpAny _ A.in1 (updateSeq B (fun _ => #[v, v]) >>= _) _ _ _
    refine wpAny_bind (id (wpAny_updateSeq eB1 rfl ?_))
    rw [nmL]
    refine wpAny_pure ⟨plainId_quiet F.plain_min_loop _, minD_go Wk bt cm B nB kw _ 0 _ v _ rfl pos (Wk.frame _ _ _ z1 fun b bf o e => ?_) pv (Heap.get?_update_self _ eB1 rfl) fun v2 h2 tk2 pv2 k2 => ?_⟩
    · exact (Heap.get?_update_other _ _ (fun z : B = b => nB (by rw [z]; exact bf))).trans e
    · exact hR v2 h2 tk2 pv2 fun b o bw bB e => k2 b o bw bB ((Heap.get?_update_other _ _ (Ne.symm bB)).trans (k1 b o bw e))))
theorem minD_none (Wk : Walks prog w A.in1 it fp wr 0 P Z) (B : Addr) (nB : B ∉ fp) (k0 : Str) (d : Value) {t : Shared} {c : Nat} (zt : Z 0 t.heap)
    (eB : t.heap.get? B = some { cls := .type "list", dict := none, data := .seq #[] c, slots := #[] })
    (hR : ∀ h1 tk, (∀ b o, b ∉ wr → t.heap.get? b = some o → h1.get? b = some o) → R (.ok (.ret d)) { t with heap := h1, toks := tk }) :
    codeAny (model prog w) A (.builtin "min.loop" ⟨[.ref it, .none, .ref B], [(k0, d)]⟩) R t := by
  refine codeAny_builtin F.entry_min_loop (id (by
    rw [Around.under_plainId F.plain_min_loop _]
    show wpAny _ A.in1 (seqItems? (.ref B) >>= _) _ _ t
    refine wpAny_bind (wpAny_seqItems eB rfl (id (show wpAny _ A.in1 (tryCatch (pyNext (.ref it)) _ >>= _) _ _ t from wpAny_bind (wpAny_tryCatch (Wk.done t _ _ zt fun h1 tk k1 => ?_)))))
    show wpAny _ A.in1 (rule _ >>= _) _ _ _
    exact wpAny_bind (wpAny_rule (wpAny_pure (hR h1 tk k1)))))
end
section
variable {prog : Program} {w : World} {A : Around} {E : Value → Shared → Prop} {s : Shared} {l : Addr} {xs : Array (Int × Tok)}
theorem args_minD (a d : Value) : argsOk "min" ⟨[a], [("default", d)]⟩ := by unfold argsOk; kernel_rfl
theorem minD_call {d : Value} {Q : Value → Shared → Prop} (hh : A.handled = none) (hl : s.heap.IsList l (intItems xs))
    (h0 : xs.size = 0 → ∀ h' tk, (∀ b o, s.heap.get? b = some o → h'.get? b = some o) → Q d { s with heap := h', toks := tk })
    (h : 0 < xs.size → ∀ v h' tk, (intItems xs)[argBest (fun i j => decide (numAt xs i < numAt xs j)) (xs.size - 1)]? = some v → (∀ b o, s.heap.get? b = some o → h'.get? b = some o) → Q v { s with heap := h', toks := tk }) :
    wpAny (model prog w) A (call (.builtin "min") [.ref l] [("default", d)]) Q E s := by
  refine wpAny_call (codeAny_call_builtin F.plain_min F.entry_min ?_)
  have go : wpAny (model prog w) A.in1 (Builtin.«min» ⟨[.ref l], [("default", d)]⟩) (fun fin t => match fin with
      | .done f => (match (Except.ok f : Result) with | .ok (.ret v) => Q v t | .ok _ => False | .error e => E e t)
      | .again c => c.quiet = true ∧ codeAny (model prog w) A c (fun r t => match r with | .ok (.ret v) => Q v t | .ok _ => False | .error e => E e t) t) E s := by
    show wpAny _ A.in1 (Builtin.Builtins.bindParams "min" ["key", "default"] 0 ⟨[], [("default", d)]⟩ >>= _) _ _ s
    refine wpAny_bind (wpAny_of_eq (show Builtin.Builtins.bindParams "min" ["key", "default"] 0 ⟨[], [("default", d)]⟩ = pure [none, some d] from rfl) (wpAny_bind (wpAny_pure (id (wpAny_bind (iter_intList hl fun t e st hfp hlI => wpAny_bind (wpAny_newObj_type ?_)))))))
    subst e
    have nS : (s.heap.push { cls := .type "list_iterator", data := .fields #[.ref l, .int 0 0] }).objs.size ∉ [s.heap.objs.size, l] := fun hm => Nat.lt_irrefl _ (hfp _ hm)
    have Wk := Walks.list (prog := prog) (w := w) (A := A.in1) hh s.heap.objs.size l hlI (intItems xs)
    rw [nmL]
    by_cases c : xs.size = 0
    · have e0 : (intItems xs).size = 0 := by simpa [intItems] using c
      rw [e0] at Wk
      refine wpAny_pure ⟨plainId_quiet F.plain_min_loop _, minD_none Wk _ nS _ d (Wk.frame _ _ _ st fun b _ o e => Heap.get?_push_of_some _ e) (Heap.get?_push_size _ rfl) fun h1 tk k1 => ?_⟩
      exact h0 c h1 tk fun b o e => k1 b o (fun hm => absurd (List.mem_singleton.mp hm ▸ Heap.lt_size e) (Nat.lt_irrefl _)) (Heap.get?_push_of_some _ (Heap.get?_push_of_some _ e))
    · have pos : 0 < (intItems xs).size := by
        have : (intItems xs).size = xs.size := by simp [intItems]
        omega
      refine wpAny_pure ⟨plainId_quiet F.plain_min_loop _, minD_first Wk _ (CmpOf.ints_lt (numAt xs) (fun _ _ => intItems_at)) _ nS _ pos (Wk.frame _ _ _ st fun b _ o e => Heap.get?_push_of_some _ e) (Heap.get?_push_size _ rfl) fun v h1 tk pv k1 => ?_⟩
      refine h (by omega) v h1 tk (by simpa [intItems] using pv) fun b o e => ?_
      have l1 := Heap.lt_size e
      refine k1 b o (fun hm => absurd (List.mem_singleton.mp hm ▸ l1) (Nat.lt_irrefl _)) (fun z => ?_) (Heap.get?_push_of_some _ (Heap.get?_push_of_some _ e))
      rw [z] at l1
      rw [Heap.size_push] at l1
      exact Nat.lt_irrefl _ (Nat.lt_of_succ_lt l1)
  simp only [checkBuiltinCall, F.kind_min]
  cases hsig : Manifest.signature? "min" with
  | none => exact wpAny_pure go
  | some sig =>
    have ha := args_minD (.ref l) d
    have ha' : Bind.checkArgs "min" sig ⟨[.ref l], [("default", d)]⟩ = pure () := by simpa only [argsOk, hsig] using ha
    simp only [ha']
    exact wpAny_pure go
end
section
variable {X : Cx}
noncomputable def tMinD (K : PySem.W.Frag) (ta td : TE) : TE := fun σ H Q => tCons ta tNil σ H fun vs H1 => tCons td tNil σ H1 fun zs H2 => ∃ (a : Addr) (ns : List Int) (d : V), vs = [.ref a] ∧ zs = [d] ∧ SqL K H2 a (ns.map V.int) ∧ (ns = [] → Q d H2) ∧ (∀ M, M ∈ ns → (∀ n ∈ ns, M ≤ n) → Q (.int M) H2)
theorem pe_minD {e d : Expr} {p pos kp : Pos} {ta td : TE} (hc : X.calm = true) (hg : Gl X "min") (hm : X.mg "min" = none) (ha : PE X e ta) (hd : PE X d td)
    (hs : starEach [e] X.env = [(false, eval e X.env)] := by rfl) : PE X (.Call (.Name "min" p) [e] [⟨some "default", d, kp⟩] pos) (tMinD X.K ta td) := by
  intro pins s σ H Q I h
  refine wpAny_Call_Name_kw (ld_blt I hg hm PyProof.Rows.boot_min ?_ (by decide) (by decide))
  refine PyProof.Rows.callWith_kw (e := e) (rest := []) (kws := [⟨some "default", d, kp⟩]) ?_ (by rw [hs]; rfl) (by rw [hs]; rfl) rfl rfl
  have one : PA X [e] (tCons ta tNil) := pa_cons ha pa_nil hs
  have two : PK X [⟨some "default", d, kp⟩] (tCons td tNil) := pk_cons hd pk_nil
  refine thn (one pos pins s σ H _ I h) fun us s1 ⟨vs, H1, I1, r1, q1⟩ => ?_
  refine thn (two pos pins s1 σ H1 _ I1 q1) fun ws s2 ⟨zs, H2, I2, r2, a, ns, dv, e1, e2, hq, q0, q⟩ => ?_
  subst e1 e2
  obtain ⟨u, rfl, ru⟩ := vals1 r1
  obtain ⟨u2, rfl, ru2⟩ := vals1 r2
  cases ru
  obtain ⟨its, rv, pl, _⟩ := I2.list hq
  obtain ⟨ps, rfl, rfl⟩ := toks_of rv
  have hl : s2.heap.IsList a (intItems ps.toArray) := by
    have := pl.isList
    simpa [intItems] using this
  refine minD_call (I2.ok.hd hc) hl (fun e0 h' tk k => ⟨dv, H2, I2.kept (t' := tk) k, ru2, q0 ?_⟩) fun pos v h' tk hv k => ?_
  · have : ps = [] := List.eq_nil_of_length_eq_zero (by simpa using e0)
    rw [this]
    rfl
  · obtain ⟨t, rfl⟩ := intItems_at hv
    obtain ⟨g1, g2⟩ := argBest_lt (numAt ps.toArray) (ps.toArray.size - 1)
    have pos' : 0 < ps.length := by simpa using pos
    refine ⟨.int _, H2, I2.kept (t' := tk) k, ⟨_, rfl⟩, q _ ?_ fun n hn => ?_⟩
    · rw [numAt_eq]
      exact getD_mem (by simp at g1 ⊢; omega)
    · obtain ⟨j, hj, rfl⟩ := mem_getD hn
      rw [List.length_map] at hj
      rw [show (ps.map (·.1)).getD j 0 = numAt ps.toArray j by rw [numAt_eq]]
      exact g2 j (by simp; omega)
end
end L2

namespace K42
open PySem L2 PySem.W
noncomputable def uc (c d : List Nat) : Nat := ((c.zip d).filter fun p => decide (p.1 ≠ p.2)).length
theorem uc_comm : ∀ c d : List Nat, uc c d = uc d c
  | [], d => by cases d <;> rfl
  | _ :: _, [] => rfl
  | x :: c, y :: d => by
    have ih := uc_comm c d
    unfold uc at ih ⊢
    rw [List.zip_cons_cons, List.zip_cons_cons]
    by_cases e : x = y
    · rw [List.filter_cons_of_neg (by simpa using e), List.filter_cons_of_neg (by simpa using e.symm), ih]
    · rw [List.filter_cons_of_pos (by simpa using e), List.filter_cons_of_pos (by simpa using fun h : y = x => e h.symm), List.length_cons, List.length_cons, ih]
noncomputable def LeastO (S : Nat → Prop) : Option Nat → Prop
  | none => ∀ n, ¬ S n
  | some M => S M ∧ ∀ n, S n → M ≤ n
theorem LeastO.uniq {S : Nat → Prop} : ∀ {a b : Option Nat}, LeastO S a → LeastO S b → a = b
  | none, none, _, _ => rfl
  | none, some M, h, g => absurd g.1 (h M)
  | some M, none, h, g => absurd h.1 (g M)
  | some M, some N, h, g => by
    have h1 := h.2 N g.1
    have h2 := g.2 M h.1
    rw [show M = N by omega]
noncomputable def InS (css : List (List Nat)) (n : Nat) : Prop := ∃ (i j : Nat) (c d : List Nat), i < j ∧ css[i]? = some c ∧ css[j]? = some d ∧ n = uc c d
noncomputable def oV : Option Nat → V
  | none => .non
  | some n => .int (n : Int)
noncomputable def cts (css : List (List Nat)) : Nat → List Nat
  | 0 => []
  | i + 1 => cts css i ++ (css.drop (i + 1)).map (uc (css.getD i []))
theorem cts_mem {css : List (List Nat)} : ∀ {i n : Nat}, i ≤ css.length → (n ∈ cts css i ↔ ∃ (a j : Nat) (c d : List Nat), a < i ∧ a < j ∧ css[a]? = some c ∧ css[j]? = some d ∧ n = uc c d)
  | 0, n, _ => by
    constructor
    · intro h
      cases h
    · rintro ⟨a, _, _, _, h, _⟩
      omega
  | i + 1, n, hi => by
    have li : i < css.length := by omega
    have ei : css[i]? = some (css.getD i []) := by rw [List.getD_eq_getElem?_getD, List.getElem?_eq_getElem li]; rfl
    show n ∈ cts css i ++ (css.drop (i + 1)).map (uc (css.getD i [])) ↔ _
    rw [List.mem_append, cts_mem (by omega), List.mem_map]
    constructor
    · rintro (⟨a, j, c, d, h1, h2, h3, h4, h5⟩ | ⟨d, hd, rfl⟩)
      · exact ⟨a, j, c, d, by omega, h2, h3, h4, h5⟩
      · obtain ⟨k, hk⟩ := List.getElem?_of_mem hd
        rw [List.getElem?_drop] at hk
        exact ⟨i, i + 1 + k, _, d, by omega, by omega, ei, hk, rfl⟩
    · rintro ⟨a, j, c, d, h1, h2, h3, h4, h5⟩
      by_cases e : a = i
      · subst e
        rw [ei] at h3
        cases h3
        refine .inr ⟨d, ?_, h5.symm⟩
        refine List.mem_of_getElem? (i := j - (a + 1)) ?_
        rw [List.getElem?_drop, show a + 1 + (j - (a + 1)) = j by omega]
        exact h4
      · exact .inl ⟨a, j, c, d, by omega, h2, h3, h4, h5⟩
theorem cts_len {css : List (List Nat)} : ∀ i, (cts css i).length ≤ i * css.length
  | 0 => Nat.zero_le _
  | i + 1 => by
    have := cts_len (css := css) i
    show (cts css i ++ (css.drop (i + 1)).map _).length ≤ _
    rw [List.length_append, List.length_map, List.length_drop, Nat.succ_mul]
    omega
theorem cts_all {css : List (List Nat)} {n : Nat} : n ∈ cts css css.length ↔ InS css n := by
  rw [cts_mem (Nat.le_refl _)]
  constructor
  · rintro ⟨a, j, c, d, _, h2, h3, h4, h5⟩
    exact ⟨a, j, c, d, h2, h3, h4, h5⟩
  · rintro ⟨a, j, c, d, h2, h3, h4, h5⟩
    exact ⟨a, j, c, d, (List.getElem?_eq_some_iff.mp h3).1, h2, h3, h4, h5⟩
inductive spUnlI (K : Frag) (vs : List V) (H : Hp) (Q : VK) : Prop
  | mk : ∀ (a b : Addr) (c d : List Nat), (vs = [.ref a, .ref b]) → (SqL K H a (nats c)) → (SqL K H b (nats d)) → (d.length = c.length) → (c.length ≤ 60) → (∀ H', Same H H' → Q (.int ((uc c d : Nat) : Int)) H') → spUnlI K vs H Q
noncomputable def spUnl (K : Frag) : Sp := fun vs H Q _E3 => spUnlI K vs H Q
inductive spStrI (K : Frag) (vs : List V) (H : Hp) (Q : VK) : Prop
  | mk : ∀ (v l : Addr) (k : Str) (m : Nat) (xs : List V) (es : List (Nat × Nat)) (ls : List Nat), (vs = [.ref v, .ref l, .str k]) → (WebX K H v m xs es) → (Net K H v m es) → (SqL K H l (nats ls)) → (Rise m ls) → (∀ (o : Option Nat) H', Same H H' → LeastO (InS ((thT k m es).map (code (Gr.Adj es) ls))) o → Q (oV o) H') → spStrI K vs H Q
noncomputable def spStr (K : Frag) : Sp := fun vs H Q _E3 => spStrI K vs H Q
inductive spMstI (K : Frag) (vs : List V) (H : Hp) (Q : VK) : Prop
  | mk : ∀ (v : Addr) (k : Str) (m : Nat) (xs : List V) (es : List (Nat × Nat)), (vs = [.ref v, .str k]) → (WebX K H v m xs es) → (Net K H v m es) → (∀ (o : Option Nat) H', Same H H' → LeastO (InS ((thT k m es).map (code (Gr.Adj es) (List.range m)))) o → Q (oV o) H') → spMstI K vs H Q
noncomputable def spMst (K : Frag) : Sp := fun vs H Q _E3 => spMstI K vs H Q
noncomputable abbrev scoU : Scope := lenScope ((defBody sUnl).getD 0 (.Pass ⟨0, 0, 0, 0⟩))
theorem blockU : block2B ["code", "other"] (defScope sUnl) scoU "far" "another" ["far", "another"] [] = true := by decide +kernel
theorem zip_take {α β : Type} {xs : List α} {ys : List β} {i : Nat} {x : α} {y : β} (h1 : xs[i]? = some x) (h2 : ys[i]? = some y) : (xs.zip ys).take (i + 1) = (xs.zip ys).take i ++ [(x, y)] := by
  rw [List.take_succ, List.getElem?_zip_eq_some (z := (x, y)) |>.mpr ⟨h1, h2⟩]
  rfl
noncomputable abbrev stN : List Str := ["web", "looks", "kind", "codes", "counts"]
noncomputable abbrev scoSt : Scope := stScope ((defBody sStr).getD 2 (.Pass ⟨0, 0, 0, 0⟩))
theorem blockSt : blockGB stN (defScope sStr) scoSt ["at", "code", "other"] ["at", "code", "other", "codes"] [3] = true := by decide +kernel
theorem cut_drop (xs : List V) (n : Nat) : cutV xs (some (n : Int)) none = xs.drop n := by
  unfold cutV
  have e : HT.sIx xs.length xs.length none = xs.length := rfl
  have e2 : HT.sIx xs.length 0 (some (n : Int)) = min n xs.length := HT.sIx_nat xs.length 0 n
  rw [e, e2]
  rcases Nat.le_total n xs.length with h | h
  · rw [Nat.min_eq_left h, List.take_of_length_le (by rw [List.length_drop]; omega)]
  · rw [Nat.min_eq_right h, List.drop_length, List.drop_of_length_le h, List.take_nil]
section
variable {P : Program} {w : World} {K : Frag} {mg : Str → Option Value} {base : Heap}
theorem scUnl : FnScope ["code", "other"] ["code", "other"] (defScope sUnl) := ⟨rfl, rfl, rfl, by decide +kernel, rfl, by decide +kernel, by decide +kernel⟩
theorem ok_unl {f : Addr} {fd : FuncData} (F : Fun K "unlike_count" "unlike_count" sUnl f fd) (T : Txt K mg) : FnOk P w K mg base CX0 1 f fd ["code", "other"] (spUnl K) := by
  refine F.ok scUnl (fun vs H Q E h => ?_) (fun cdv A outer s H vs Q E hr h => ?_)
  · obtain ⟨a, b, c, d, rfl, _⟩ := h
    rfl
  · obtain ⟨a, b, c, d, rfl, ha, hb, le, l60, q⟩ := h
    refine ⟨_, pss_one (ps_ret (pe_callB call_len_seq (by rfl) T.len PySem.boot_len (pa_cons (pe_comp2 (NB := ["far", "another"]) (ix := []) (Block2.of blockU) rfl (pi_zip rfl T.zip (pa_cons (pv 0) (pa_cons (pv 1) pa_nil))) (fun _ _ _ _ => pv 0) (fun _ _ _ _ => pts_one (pt_cmpR op_ne (pv 0) (pv 1) (nomark _)))) pa_nil))), ?_⟩
    refine ⟨_, rfl, _, rfl, a, b, rfl, ⟨_, ha⟩, ⟨_, hb⟩, comp2_zip (xs := nats c) (zs := nats d) (by rw [List.length_map, List.length_map, le]) (fun i ys Hc => Same H Hc ∧ ys.length = (((c.zip d).take i).filter fun p => decide (p.1 ≠ p.2)).length) ⟨Same.refl _, rfl⟩ ?_ ?_ ?_ ?_⟩
    · rintro i ys Hc hi ⟨_, l⟩
      rw [List.length_map] at hi
      have h1 := List.length_filter_le (fun p : Nat × Nat => decide (p.1 ≠ p.2)) ((c.zip d).take i)
      rw [List.length_take] at h1
      exact Nat.lt_of_le_of_lt (show ys.length ≤ 60 by omega) (by decide)
    · rintro i ys Hc hi ⟨sc, _⟩
      exact ⟨sq_mono sc ha, sq_mono sc hb⟩
    · rintro i x z ys Hc U hx hz ⟨sc, ly⟩ hU
      obtain ⟨y, hy, rfl⟩ := nats_at hx
      obtain ⟨y2, hy2, rfl⟩ := nats_at hz
      rw [zip_take hy hy2, List.filter_append, List.length_append]
      have sU := sc.trans (new_same (o := .tup [.int (y : Int), .int (y2 : Int)]) hU)
      refine ⟨_, rfl, _, rfl, rfl, _, rfl, ite2 (fun cc => ?_) (fun cc => ?_)⟩
      · have ne : y ≠ y2 := by
          intro e
          rw [e] at cc
          exact absurd cc (by simp)
        refine ⟨_, rfl, sU, ?_⟩
        rw [List.filter_cons_of_pos (by simpa using ne), List.length_append, ly]
        rfl
      · have e : y = y2 := by
          by_cases e : y = y2
          · exact e
          · refine absurd ?_ cc
            show (!decide (V.int (y : Int) = V.int (y2 : Int))) = true
            rw [decide_eq_false (fun h => e (by injection h with h; exact Int.ofNat_inj.mp h))]
            rfl
        refine ⟨sU, ?_⟩
        rw [List.filter_cons_of_neg (by simpa using e), ly]
        rfl
    · rintro ys Hc ⟨sc, ly⟩ R hR
      refine ⟨R, _, rfl, .inl (SqL.of upd_same), ?_⟩
      rw [List.length_map, List.take_of_length_le (by rw [List.length_zip]; omega)] at ly
      rw [ly]
      exact q _ (sc.trans (new_same hR))
theorem scStr : FnScope stN ["web", "looks", "kind"] (defScope sStr) := ⟨rfl, rfl, rfl, by decide +kernel, rfl, by decide +kernel, by decide +kernel⟩
theorem ok_str {f : Addr} {fd : FuncData} (F : Fun K "strength_of" "strength_of" sStr f fd) (T : Txt K mg) (hR : Has P w K mg base 2 "refuse_wrong_looks" ["web", "looks"] (spRefuse K)) (hT : Has P w K mg base 1 "things_of" ["web", "kind"] (spThi K)) (hC : Has P w K mg base 4 "codes_of" ["web", "looks", "things"] (spCod K)) (hU : Has P w K mg base 1 "unlike_count" ["code", "other"] (spUnl K)) : FnOk P w K mg base CX0 5 f fd ["web", "looks", "kind"] (spStr K) := by
  refine F.ok scStr (fun vs H Q E h => ?_) (fun cdv A outer s H vs Q E hr h => ?_)
  · obtain ⟨v, l, k, m, xs, es, ls, rfl, _⟩ := h
    rfl
  · obtain ⟨v, l, k, m, xs, es, ls, rfl, wx, nt, sl, rise, q⟩ := h
    have hr1 : Room 1 _ := hr.mono (by decide)
    have hr2 : Room 2 _ := hr.mono (by decide)
    have m60 := nt.m60
    have few := nt.few
    have ndS : (["at", "code", "other", "codes"] : List Str).Nodup := by decide
    refine ⟨_, pss_cons (ps_expr (pe_has hR hr2 rfl (pa_cons (pv 0) (pa_cons (pv 1) pa_nil))))
      (pss_cons (ps_set (i := 3) scStr.nd rfl (Or.inr rfl) (pe_has hC hr rfl (pa_cons (pv 0) (pa_cons (pv 1) (pa_cons (pe_has hT hr1 rfl (pa_cons (pv 0) (pa_cons (pv 2) pa_nil))) pa_nil)))))
      (pss_cons (ps_compL (j := 4) scStr.nd rfl rfl (vs := ["at", "code", "other"]) (NB := ["at", "code", "other", "codes"]) (ix := [3]) (BlockG.of blockSt) rfl (pi_enum rfl T.enum (pa_cons (pv 3) pa_nil))
        (fun _ _ _ _ => show PG _ _ (gTup K 2 (gCons (gName 0) (gCons (gName 1) gNil))) from pg_tup rfl (pgs_cons (pg_name (i := 0) ndS rfl (Or.inl rfl) (Or.inr rfl)) (pgs_cons (pg_name (i := 1) ndS rfl (Or.inl rfl) (Or.inr rfl)) pgs_nil))) (fun _ _ _ _ => pts_nil)
        (fun _ _ _ _ _ => pl_for rfl (show PI _ _ _ (iList K (tSl (rSlL K) (tVar 3) (tPart (tOp (rI0 fun i j => .int (i + j)) (tVar 0) (tC (.int 1)))) tNoPart)) from pi_list (pe_slice sl_list (pv 3) (po_some (pe_op op_add (pv 0) pe_int)) po_none)) (pg_name (i := 2) ndS rfl (Or.inl rfl) (Or.inr rfl)) pts_nil
          (pl_emit (pe_has hU hr1 rfl (pa_cons (pv 1) (pa_cons (pv 2) pa_nil)))))
        rfl)
      (pss_one (ps_ret (pe_minD rfl rfl T.min (pv 4) pe_non))))), ?_⟩
    have lm := rise_len rise
    refine ⟨_, rfl, _, rfl, v, l, m, _, rfl, wx.a, nats_map ▸ sl, rise_lk rise, ?_⟩
    refine ⟨_, rfl, _, rfl, _, rfl, _, rfl, v, k, m, xs, es, rfl, wx, m60, few, fun Ta H1 s1 eT nT => ?_⟩
    obtain ⟨t0, hw1, ht1, pr1⟩ := wx.mono fun b xs e => s1 _ _ e
    have tlen : (thT k m es).length ≤ m + es.length := thT_len
    refine ⟨v, l, Ta, m, es, ls, thV k m xs, thT k m es, rfl, nt.mono fun b xs e => s1 _ _ e, sq_mono s1 sl, rise.2, by omega, SqL.of eT, ths_of pr1, thT_ok nt.gd, by omega, fun C H2 s2 ca => ?_⟩
    obtain ⟨cs, sC, clen, crow⟩ := ca
    have s12 := s1.trans s2
    generalize ecss : (thT k m es).map (code (Gr.Adj es) ls) = css at clen crow q
    have cl : css.length = (thT k m es).length := by rw [← ecss, List.length_map]
    have c60 : ∀ c ∈ css, c.length = ls.length := fun c hc => by
      rw [← ecss] at hc
      obtain ⟨t, _, rfl⟩ := List.mem_map.mp hc
      show (ls.map _).length = _
      rw [List.length_map]
    have n1060 : css.length ≤ 1060 := by omega
    have big : ∀ i, i ≤ css.length → (cts css i).length ≤ 1123600 := fun i hi => Nat.le_trans (cts_len i) (Nat.mul_le_mul (Nat.le_trans hi n1060) n1060)
    refine ⟨_, rfl, C, rfl, ⟨_, sC⟩, forL_enum (xs := cs.map V.ref) (fun i ys σ H3 => Same H2 H3 ∧ ys = nats (cts css i) ∧ ∃ v0 v1 v2 : Option V, σ = [v0, v1, v2, some (.ref C)]) ⟨Same.refl _, rfl, none, none, none, rfl⟩ ?_ ?_ ?_⟩
    · rintro i ys σ H3 hi ⟨s3, _⟩
      exact sq_mono s3 sC
    · rintro i x ys σ H3 T3 hx ⟨s3, rfl, v0, v1, v2, rfl⟩ hT3
      obtain ⟨a, ha, rfl⟩ := refs_at hx
      have li : i < cs.length := (List.getElem?_eq_some_iff.mp ha).1
      have ei : css[i]? = some (css.getD i []) := by
        rw [List.getD_eq_getElem?_getD, List.getElem?_eq_getElem (by omega)]
        rfl
      refine ⟨T3, _, rfl, .inl (.inl upd_same), rfl, _, _, rfl, _, _, rfl, rfl, ?_⟩
      have t3 := s3.trans (new_same (o := .tup [.int (i : Int), .ref a]) hT3)
      generalize upd H3 T3 (.tup [.int (i : Int), .ref a]) = H4 at t3 ⊢
      unfold tYes
      refine @iteT _ (_) ?_
      refine ⟨_, rfl, _, rfl, _, _, rfl, rfl, _, rfl, C, _, rfl, sq_mono t3 sC, fun u hu => ?_⟩
      rw [show cutV (cs.map V.ref) (some ((i : Int) + 1)) none = (cs.drop (i + 1)).map V.ref from (cut_drop _ (i + 1)).trans List.map_drop.symm]
      have t4 := t3.trans (new_same (o := .lst ((cs.drop (i + 1)).map V.ref)) hu)
      have eu : upd H4 u (.lst ((cs.drop (i + 1)).map V.ref)) u = some (.lst ((cs.drop (i + 1)).map V.ref)) := upd_same
      generalize upd H4 u (.lst ((cs.drop (i + 1)).map V.ref)) = H5 at t4 eu ⊢
      refine ⟨u, rfl, ⟨_, SqL.of eu⟩, forL_list (xs := (cs.drop (i + 1)).map V.ref) (fun j ys σ H6 => Same H5 H6 ∧ ys = nats (cts css i ++ ((css.drop (i + 1)).take j).map (uc (css.getD i []))) ∧ ∃ v2 : Option V, σ = [some (.int (i : Int)), some (.ref a), v2, some (.ref C)]) ⟨Same.refl _, by rw [List.take_zero, List.map_nil, List.append_nil], _, rfl⟩ ?_ ?_ ?_⟩
      · rintro j ys σ H6 hj ⟨s6, _⟩
        exact SqL.of (s6 _ _ eu)
      · rintro j x2 ys σ H6 hx2 ⟨s6, rfl, v2, rfl⟩
        obtain ⟨b, hb, rfl⟩ := refs_at hx2
        have lj : j < (cs.drop (i + 1)).length := (List.getElem?_eq_some_iff.mp hb).1
        rw [List.length_drop] at lj
        rw [List.getElem?_drop] at hb
        have ej : css[i + 1 + j]? = some (css.getD (i + 1 + j) []) := by
          rw [List.getD_eq_getElem?_getD, List.getElem?_eq_getElem (by omega)]
          rfl
        have l1 := c60 _ (List.mem_of_getElem? ei)
        have l2 := c60 _ (List.mem_of_getElem? ej)
        have e1 := sq_mono s6 (sq_mono t4 (crow i a _ ha ei))
        have e2 := sq_mono s6 (sq_mono t4 (crow (i + 1 + j) b _ hb ej))
        dsimp only [gName, tYes]
        rw [if_pos rfl]
        refine ⟨_, rfl, _, rfl, a, b, _, _, rfl, e1, e2, by rw [l1, l2], by omega, fun H7 s7 => ⟨?_, s6.trans s7, ?_, _, rfl⟩⟩
        · rw [List.length_map, List.length_append, List.length_map, List.length_take, List.length_drop]
          have := big i (by omega)
          exact Nat.lt_of_le_of_lt (show _ ≤ 1124660 by omega) (by decide)
        · rw [List.take_succ, List.getElem?_drop, ej, Option.toList_some, List.map_append, ← List.append_assoc]
          exact nats_app.symm
      · rintro ys σ H6 ⟨s6, rfl, v2, rfl⟩
        refine ⟨t4.trans s6, ?_, _, _, _, rfl⟩
        rw [List.length_map, List.take_of_length_le (by rw [List.length_drop, List.length_drop]; omega)]
        rfl
    · rintro ys σ H3 ⟨s3, rfl, v0, v1, v2, rfl⟩ p hp
      rw [List.length_map, clen]
      have tp := (s12.trans s3).trans (new_same (o := .lst (nats (cts css css.length))) hp)
      refine ⟨_, rfl, p, (cts css css.length).map fun n : Nat => (n : Int), .non, rfl, rfl, SqL.of (upd_same.trans (by rw [nats_map])), fun e0 => q none _ tp ?_, fun M hM le => ?_⟩
      · intro n hn
        have := cts_all.mpr hn
        rw [List.map_eq_nil_iff.mp e0] at this
        cases this
      · obtain ⟨n, hn, rfl⟩ := List.mem_map.mp hM
        refine q (some n) _ tp ⟨cts_all.mp hn, fun n' hn' => ?_⟩
        have := le _ (List.mem_map.mpr ⟨n', cts_all.mpr hn', rfl⟩)
        exact Int.ofNat_le.mp this
theorem scMst : FnScope ["web", "kind"] ["web", "kind"] (defScope sMst) := ⟨rfl, rfl, rfl, by decide +kernel, rfl, by decide +kernel, by decide +kernel⟩
theorem rise_all (m : Nat) : Rise m (List.range m) := ⟨List.pairwise_lt_range, fun x hx => List.mem_range.mp hx⟩
theorem ok_mst {f : Addr} {fd : FuncData} (F : Fun K "most_strength" "most_strength" sMst f fd) (hT : Has P w K mg base 1 "things_of" ["web", "kind"] (spThi K)) (hS : Has P w K mg base 5 "strength_of" ["web", "looks", "kind"] (spStr K)) : FnOk P w K mg base CX0 6 f fd ["web", "kind"] (spMst K) := by
  refine F.ok scMst (fun vs H Q E h => ?_) (fun cdv A outer s H vs Q E hr h => ?_)
  · obtain ⟨v, k, m, xs, es, rfl, _⟩ := h
    rfl
  · obtain ⟨v, k, m, xs, es, rfl, wx, nt, q⟩ := h
    have hr1 : Room 1 _ := hr.mono (by decide)
    refine ⟨_, pss_one (ps_ret (pe_has hS hr rfl (pa_cons (pv 0) (pa_cons (pe_has hT hr1 rfl (pa_cons (pv 0) (pa_cons pe_str pa_nil))) (pa_cons (pv 1) pa_nil))))), ?_⟩
    refine ⟨_, rfl, _, rfl, v, "places", m, xs, es, rfl, wx, nt.m60, nt.few, fun Ta H1 s1 eT nT => ?_⟩
    rw [thV_places] at eT
    exact ⟨_, rfl, v, Ta, k, m, xs, es, List.range m, rfl, wx.mono (fun b xs e => s1 _ _ e), nt.mono (fun b xs e => s1 _ _ e), SqL.of eT, rise_all m, fun o H2 s2 lo => q o H2 (s1.trans s2) lo⟩
end
end K42

namespace K42
open PySem L2 PySem.W
inductive spLUI (vs : List V) (H : Hp) (Q : VK) : Prop
  | mk : ∀ (a b : Addr) (c d : List Nat), (vs = [.ref a, .ref b]) → (H a = some (.tup (nats c))) → (H b = some (.tup (nats d))) → (d.length = c.length) → (c.length ≤ 60) → (∀ H', Same H H' → Q (.int ((uc c d : Nat) : Int)) H') → spLUI vs H Q
noncomputable def spLU (K : Frag) : Sp := fun vs H Q _E3 => spLUI vs H Q
inductive spLeastI (K : Frag) (vs : List V) (H : Hp) (Q : VK) : Prop
  | mk : ∀ (C : Addr) (css : List (List Nat)) (n : Nat), (vs = [.ref C]) → (CodesT K H C css) → ((∀ c ∈ css, c.length = n)) → (n ≤ 60) → (css.length ≤ 1060) → (∀ (o : Option Nat) H', Same H H' → LeastO (InS css) o → Q (oV o) H') → spLeastI K vs H Q
noncomputable def spLeast (K : Frag) : Sp := fun vs H Q _E3 => spLeastI K vs H Q
inductive spWholeI (vs : List V) (H : Hp) (Q : VK) : Prop
  | mk : ∀ i : Int, (vs = [.int i]) → (Q (.bl true) H) → spWholeI vs H Q
noncomputable def spWhole : Sp := fun vs H Q _E3 => spWholeI vs H Q
noncomputable abbrev scoLU : Scope := lenScope ((defBody sLUnl).getD 0 (.Pass ⟨0, 0, 0, 0⟩))
theorem blockLU : blockB ["one", "other"] (defScope sLUnl) scoLU "k" ["k", "one", "other"] [0, 1] = true := by decide +kernel
noncomputable abbrev leN : List Str := ["codes", "found", "k", "other", "many"]
noncomputable def InK (css : List (List Nat)) (k i n : Nat) : Prop := ∃ (a b : Nat) (c d : List Nat), a < b ∧ (b < k ∨ (b = k ∧ a < i)) ∧ css[a]? = some c ∧ css[b]? = some d ∧ n = uc d c
noncomputable def lt1 (n : Nat) : Option Nat → Nat
  | none => n
  | some M => if n < M then n else M
theorem lt1_lt {n M : Nat} (c : n < M) : lt1 n (some M) = n := if_pos c
theorem lt1_ge {n M : Nat} (c : ¬ n < M) : lt1 n (some M) = M := if_neg c
theorem least_turn {S S' : Nat → Prop} {o : Option Nat} {n : Nat} (h : LeastO S o) (ss : ∀ x, S' x ↔ S x ∨ x = n) : LeastO S' (some (lt1 n o)) := by
  cases o with
  | none => exact ⟨(ss n).mpr (.inr rfl), fun x hx => ((ss x).mp hx).elim (fun z => absurd z (h x)) fun e => Nat.le_of_eq e.symm⟩
  | some M =>
    by_cases c : n < M
    · rw [lt1_lt c]
      refine ⟨(ss _).mpr (.inr rfl), fun x hx => ?_⟩
      rcases (ss x).mp hx with z | rfl
      · exact Nat.le_trans (Nat.le_of_lt c) (h.2 x z)
      · exact Nat.le_refl _
    · rw [lt1_ge c]
      refine ⟨(ss _).mpr (.inl h.1), fun x hx => ?_⟩
      rcases (ss x).mp hx with z | rfl
      · exact h.2 x z
      · omega
theorem LeastO.of_iff {S S' : Nat → Prop} (e : ∀ n, S n ↔ S' n) : ∀ {o : Option Nat}, LeastO S o → LeastO S' o
  | none, h => fun n hn => h n ((e n).mpr hn)
  | some M, h => ⟨(e M).mp h.1, fun n hn => h.2 n ((e n).mpr hn)⟩
theorem inK_all {css : List (List Nat)} {n : Nat} : InK css css.length 0 n ↔ InS css n := by
  constructor
  · rintro ⟨a, b, c, d, h1, _, h3, h4, h5⟩
    exact ⟨a, b, c, d, h1, h3, h4, by rw [h5, uc_comm]⟩
  · rintro ⟨a, b, c, d, h1, h3, h4, h5⟩
    exact ⟨a, b, c, d, h1, .inl (List.getElem?_eq_some_iff.mp h4).1, h3, h4, by rw [h5, uc_comm]⟩
theorem inK_next {css : List (List Nat)} {k n : Nat} : InK css k k n ↔ InK css (k + 1) 0 n := by
  constructor
  · rintro ⟨a, b, c, d, h1, h2, r⟩
    exact ⟨a, b, c, d, h1, by omega, r⟩
  · rintro ⟨a, b, c, d, h1, h2, r⟩
    exact ⟨a, b, c, d, h1, by omega, r⟩
theorem inK_turn {css : List (List Nat)} {k i : Nat} {c d : List Nat} (lt : i < k) (hi : css[i]? = some c) (hk : css[k]? = some d) (x : Nat) : InK css k (i + 1) x ↔ InK css k i x ∨ x = uc d c := by
  constructor
  · rintro ⟨a, b, c', d', h1, h2, h3, h4, h5⟩
    by_cases e : b = k ∧ a = i
    · obtain ⟨rfl, rfl⟩ := e
      rw [hi] at h3
      rw [hk] at h4
      cases h3
      cases h4
      exact .inr h5
    · exact .inl ⟨a, b, c', d', h1, by omega, h3, h4, h5⟩
  · rintro (⟨a, b, c', d', h1, h2, r⟩ | rfl)
    · exact ⟨a, b, c', d', h1, by omega, r⟩
    · exact ⟨i, k, c, d, lt, by omega, hi, hk, rfl⟩
section
variable {P : Program} {w : World} {K : Frag} {mg : Str → Option Value} {base : Heap}
theorem scLU : FnScope ["one", "other"] ["one", "other"] (defScope sLUnl) := ⟨rfl, rfl, rfl, by decide +kernel, rfl, by decide +kernel, by decide +kernel⟩
theorem ok_lu {f : Addr} {fd : FuncData} (F : Fun K "_law_unlike" "_law_unlike" sLUnl f fd) (T : Txt K mg) : FnOk P w K mg base CX0 1 f fd ["one", "other"] (spLU K) := by
  refine F.ok scLU (fun vs H Q E h => ?_) (fun cdv A outer s H vs Q E hr h => ?_)
  · obtain ⟨a, b, c, d, rfl, _⟩ := h
    rfl
  · obtain ⟨a, b, c, d, rfl, ha, hb, le, l60, q⟩ := h
    refine ⟨_, pss_one (ps_ret (pe_callB call_len_seq (by rfl) T.len PySem.boot_len (pa_cons (pe_comp (NB := ["k", "one", "other"]) (ix := [0, 1]) (BlockOk.of blockLU) rfl (pi_range1 rfl T.range (pa_cons (pe_callB call_len_seq (by rfl) T.len PySem.boot_len (pa_cons (pv 0) pa_nil)) pa_nil)) (fun _ _ _ _ => pv 0) (fun _ _ _ _ => pts_one (pt_cmpR op_ne (pe_ix (show IxR _ (rIxT K) from ix_tup) (pv 1) (pv 0) (fun _ _ => rfl)) (pe_ix (show IxR _ (rIxT K) from ix_tup) (pv 2) (pv 0) (fun _ _ => rfl)) (nomark _)))) pa_nil))), ?_⟩
    refine ⟨_, rfl, a, _, rfl, .inr (.inl (.inl ha)), _, rfl, by omega, by rw [List.length_map]; omega, comp_range (lo := 0) (n := ((nats c).length : Int).toNat) (fun i ys Hc => Hc = H ∧ ys.length = (((c.zip d).take i).filter fun p => decide (p.1 ≠ p.2)).length) ⟨rfl, rfl⟩ ?_ ?_ ?_⟩
    · rintro i ys Hc hi ⟨_, l⟩
      rw [List.length_map] at hi
      have h1 := List.length_filter_le (fun p : Nat × Nat => decide (p.1 ≠ p.2)) ((c.zip d).take i)
      rw [List.length_take] at h1
      exact Nat.lt_of_le_of_lt (show ys.length ≤ 60 by omega) (by decide)
    · rintro i ys Hc hi ⟨rfl, ly⟩
      rw [List.length_map, Int.toNat_natCast] at hi
      have hy : c[i]? = some c[i] := List.getElem?_eq_getElem hi
      have hy2 : d[i]? = some (d[i]'(by omega)) := List.getElem?_eq_getElem (by omega)
      generalize c[i] = y at hy
      generalize d[i]'(by omega) = y2 at hy2
      rw [zip_take hy hy2, List.filter_append, List.length_append]
      have a1 : atI (nats c) (0 + (i : Int)) = some (.int (y : Int)) := by rw [Int.zero_add]; exact atI_nat (by rw [List.getElem?_map, hy]; rfl)
      have a2 : atI (nats d) (0 + (i : Int)) = some (.int (y2 : Int)) := by rw [Int.zero_add]; exact atI_nat (by rw [List.getElem?_map, hy2]; rfl)
      refine ⟨_, rfl, _, rfl, a, _, _, _, rfl, rfl, .inl (.inl ha), a1, _, rfl, _, rfl, b, _, _, _, rfl, rfl, .inl (.inl hb), a2, rfl, _, rfl, ite2 (fun cc => ?_) (fun cc => ?_)⟩
      · have ne : y ≠ y2 := by
          intro e
          rw [e] at cc
          exact absurd cc (by simp)
        refine ⟨_, rfl, rfl, ?_⟩
        rw [List.filter_cons_of_pos (by simpa using ne), List.length_append, ly]
        rfl
      · have e : y = y2 := by
          by_cases e : y = y2
          · exact e
          · refine absurd ?_ cc
            show (!decide (V.int (y : Int) = V.int (y2 : Int))) = true
            rw [decide_eq_false (fun h => e (by injection h with h; exact Int.ofNat_inj.mp h))]
            rfl
        refine ⟨rfl, ?_⟩
        rw [List.filter_cons_of_neg (by simpa using e), ly]
        rfl
    · rintro ys Hc ⟨rfl, ly⟩ R hR
      refine ⟨R, _, rfl, .inl (SqL.of upd_same), ?_⟩
      rw [List.length_map, Int.toNat_natCast, List.take_of_length_le (by rw [List.length_zip]; omega)] at ly
      rw [ly]
      exact q _ (new_same hR)
theorem scWh : FnScope ["thing"] ["thing"] (defScope sWhole) := ⟨rfl, rfl, rfl, by decide +kernel, rfl, by decide +kernel, by decide +kernel⟩
theorem ok_whole {f : Addr} {fd : FuncData} (F : Fun K "_law_whole" "_law_whole" sWhole f fd) (T : Txt K mg) (Kt : Kit K) : FnOk P w K mg base CX0 1 f fd ["thing"] spWhole := by
  refine F.ok scWh (fun vs H Q E h => ?_) (fun cdv A outer s H vs Q E hr h => ?_)
  · obtain ⟨i, rfl, _⟩ := h
    rfl
  · obtain ⟨i, rfl, q⟩ := h
    refine ⟨_, pss_one (ps_ret (pe_and (pe_callB call_isT (by rfl) T.isi PyProof.Rows.boot_isinstance (pa_cons (pv 0) (pa_cons (pe_bltn (v := .ty "int") rfl T.int PyProof.Rows.boot_int rfl) pa_nil))) (pe_one (pe_not (pe_callB call_isT (by rfl) T.isi PyProof.Rows.boot_isinstance (pa_cons (pv 0) (pa_cons (pe_bltn (v := .ty "bool") rfl T.bool PyProof.Rows.boot_bool rfl) pa_nil))))))), ?_⟩
    refine ⟨_, rfl, _, .ty "int", _, true, rfl, .int _, (fun u ru => by cases ru; exact Kt.ii), _, rfl, iteT ?_⟩
    refine ⟨_, rfl, _, .ty "bool", _, false, rfl, .int _, (fun u ru => by cases ru; exact Kt.ib), _, rfl, q⟩
theorem scLe : FnScope leN ["codes"] (defScope sLeast) := ⟨rfl, rfl, rfl, by decide +kernel, rfl, by decide +kernel, by decide +kernel⟩
theorem ok_least {f : Addr} {fd : FuncData} (F : Fun K "_law_least" "_law_least" sLeast f fd) (T : Txt K mg) (hU : Has P w K mg base 1 "_law_unlike" ["one", "other"] (spLU K)) : FnOk P w K mg base CX0 2 f fd ["codes"] (spLeast K) := by
  refine F.ok scLe (fun vs H Q E h => ?_) (fun cdv A outer s H vs Q E hr h => ?_)
  · obtain ⟨C, css, n, rfl, _⟩ := h
    rfl
  · obtain ⟨C, css, n, rfl, ⟨cs, eC, cl, crow⟩, cn, n60, few, q⟩ := h
    refine ⟨_, pss_cons (ps_set (i := 1) scLe.nd rfl (Or.inl rfl) pe_non)
      (pss_cons (ps_for PassesOwn.never rfl (pi_range1 rfl T.range (pa_cons (pe_callB call_len_seq (by rfl) T.len PySem.boot_len (pa_cons (pv 0) pa_nil)) pa_nil)) (pg_name (i := 2) scLe.nd rfl (Or.inl rfl))
        (pss_one (ps_for PassesOwn.never rfl (pi_list (pe_slice sl_list (pv 0) po_none (po_some (pv 2)))) (pg_name (i := 3) scLe.nd rfl (Or.inl rfl))
          (pss_cons (ps_set (i := 4) scLe.nd rfl (Or.inl rfl) (pe_has hU hr rfl (pa_cons (pe_ix ix_list (pv 0) (pv 2) (fun _ _ => rfl)) (pa_cons (pv 3) pa_nil))))
          (pss_one (ps_if (PW.pt (pw_or (pt_cmp (pc_isN (pv 1))) (pw_or1 (pt_cmpR op_lt (pv 4) (pv 1) (nomark _))))) (pss_one (ps_set (i := 1) scLe.nd rfl (Or.inl rfl) (pv 4))) pss_nil)))))  )
      (pss_one (ps_ret (pv 1)))), ?_⟩
    refine ⟨_, rfl, C, _, rfl, .inl (SqL.of eC), _, rfl, by omega, by rw [List.length_map]; omega, for_range (lo := 0) (n := ((cs.map V.ref).length : Int).toNat) (fun k σ Hc => ∃ (o : Option Nat) (v2 v3 v4 : Option V), σ = [some (.ref C), some (oV o), v2, v3, v4] ∧ Same H Hc ∧ LeastO (InK css k 0) o) ⟨none, none, none, none, rfl, Same.refl _, ?_⟩ ?_ ?_⟩
    · rintro x ⟨a, b, c, d, h1, h2, _⟩
      omega
    · rintro k σ Hc hk ⟨o, v2, v3, v4, rfl, sc, lo⟩
      rw [List.length_map, Int.toNat_natCast] at hk
      have ek : css[k]? = some (css.getD k []) := by
        rw [List.getD_eq_getElem?_getD, List.getElem?_eq_getElem (by omega)]
        rfl
      have hck : cs[k]? = some cs[k] := List.getElem?_eq_getElem hk
      generalize cs[k] = ak at hck
      refine ⟨_, rfl, _, rfl, _, rfl, C, _, rfl, SqL.of (sc _ _ eC), fun u hu => ?_⟩
      have ec : cutV (cs.map V.ref) none (some (0 + (k : Int))) = (cs.take k).map V.ref := by
        rw [Int.zero_add]
        exact (cut_take _ k).trans List.map_take.symm
      rw [ec]
      have tu := sc.trans (new_same (o := .lst ((cs.take k).map V.ref)) hu)
      have eu : upd Hc u (.lst ((cs.take k).map V.ref)) u = some (.lst ((cs.take k).map V.ref)) := upd_same
      generalize upd Hc u (.lst ((cs.take k).map V.ref)) = H1 at tu eu ⊢
      refine ⟨u, rfl, ⟨_, SqL.of eu⟩, for_list (xs := (cs.take k).map V.ref) (fun i σ Hd => ∃ (o : Option Nat) (v3 v4 : Option V), σ = [some (.ref C), some (oV o), some (.int (0 + (k : Int))), v3, v4] ∧ Same H1 Hd ∧ LeastO (InK css k i) o) ⟨o, _, _, rfl, Same.refl _, lo⟩ ?_ ?_ ?_⟩
      · rintro i σ Hd hi ⟨_, _, _, _, sd, _⟩
        exact SqL.of (sd _ _ eu)
      · rintro i x σ Hd hx ⟨o, v3, v4, rfl, sd, lo⟩
        obtain ⟨b, hb, rfl⟩ := refs_at hx
        have lik : i < k := by
          have := (List.getElem?_eq_some_iff.mp hb).1
          rw [List.length_take] at this
          omega
        rw [List.getElem?_take_of_lt lik] at hb
        have ei : css[i]? = some (css.getD i []) := by
          rw [List.getD_eq_getElem?_getD, List.getElem?_eq_getElem (by omega)]
          rfl
        have l1 := cn _ (List.mem_of_getElem? ei)
        have l2 := cn _ (List.mem_of_getElem? ek)
        have td := tu.trans sd
        refine ⟨_, rfl, _, rfl, C, _, _, .ref ak, rfl, rfl, SqL.of (td _ _ eC), by rw [Int.zero_add]; exact atI_nat (by rw [List.getElem?_map, hck]; rfl), _, rfl, ak, b, css.getD k [], css.getD i [], rfl, td _ _ (crow k ak _ hck ek), td _ _ (crow i b _ hb ei), by rw [l1, l2], by omega, fun H2 s2 => ?_⟩
        have nx := least_turn lo (inK_turn lik ei ek)
        have sf := sd.trans s2
        cases o with
        | none =>
          refine ⟨_, rfl, _, rfl, iteT ?_⟩
          exact ⟨_, rfl, some _, _, _, rfl, sf, nx⟩
        | some M =>
          refine ⟨_, rfl, _, rfl, iteF ?_⟩
          refine ⟨_, rfl, _, rfl, _, _, rfl, rfl, _, rfl, ite2 (fun c => ?_) (fun c => ?_)⟩
          · have c : uc (css.getD k []) (css.getD i []) < M := Int.ofNat_lt.mp (of_decide_eq_true c)
            rw [lt1_lt c] at nx
            exact ⟨_, rfl, some _, _, _, rfl, sf, nx⟩
          · have c : ¬ uc (css.getD k []) (css.getD i []) < M := fun h => c (decide_eq_true (Int.ofNat_lt.mpr h))
            rw [lt1_ge c] at nx
            exact ⟨some _, _, _, rfl, sf, nx⟩
      · rintro σ Hd ⟨o, v3, v4, rfl, sd, lo⟩
        rw [List.length_map, List.length_take, Nat.min_eq_left (by omega)] at lo
        exact ⟨o, _, _, _, rfl, tu.trans sd, lo.of_iff fun n => inK_next⟩
    · rintro σ Hc ⟨o, v2, v3, v4, rfl, sc, lo⟩
      rw [List.length_map, Int.toNat_natCast, cl] at lo
      exact ⟨_, rfl, q o _ sc (lo.of_iff fun n => inK_all)⟩
end
end K42

namespace K42
open PySem L2 PySem.W
noncomputable abbrev lawN : List Str := ["script", "cells", "k", "pool", "web", "kind", "looks", "due", "most", "handed", "turn", "found"]
noncomputable def forBody : Stmt → List Stmt
  | .For _ _ b _ _ => b
  | _ => []
noncomputable abbrev pass0 : Stmt := .Pass ⟨0, 0, 0, 0⟩
noncomputable def allScope : Stmt → Scope
  | .If (.UnaryOp _ (.Call _ (.ListComp _ _ sc _ :: _) _ _) _) _ _ _ => sc
  | _ => { kind := .function, names := [], isGenerator := false, isCoroutine := false }
noncomputable abbrev kindBody : List Stmt := forBody ((forBody ((defBody sLaw).getD 1 pass0)).getD 2 pass0)
noncomputable abbrev scoQ : Scope := allScope ((forBody (kindBody.getD 4 pass0)).getD 2 pass0)
theorem blockQ : blockB lawN (defScope sLaw) scoQ "one" ["one"] [] = true := by decide +kernel
inductive spLawI (K : Frag) (vs : List V) (H : Hp) (Q : VK) : Prop
  | mk : ∀ (a : Addr) (ns : List Int), (vs = [.ref a]) → (SqL K H a (ns.map V.int)) → (ns.length ≤ 63) → (∀ H', Q (.bl true) H') → spLawI K vs H Q
noncomputable def spLaw (K : Frag) : Sp := fun vs H Q _E3 => spLawI K vs H Q
noncomputable abbrev stL (sc p : Addr) (v2 v3 v4 v5 v6 v7 v8 v9 v10 v11 : Option V) : St := [some (.ref sc), some (.ref p), v2, v3, v4, v5, v6, v7, v8, v9, v10, v11]
theorem same_mv {a : Addr} {H H1 H2 : Hp} (s : Same H H1) (n : H a = none) (mv : Mv a H1 H2) : Same H H2 := fun b o e => mv b o (ne_of_none e n) (s b o e)
theorem mv_tup {a : Addr} {H H' : Hp} (mv : Mv a H H') (st : StA H a) : ∀ b xs, H b = some (.tup xs) → H' b = some (.tup xs) := fun b xs e => by
  obtain ⟨x, y, ea, _⟩ := st
  exact mv _ _ (fun z => by rw [z, ea] at e; cases e) e
theorem WebC.x {K : Frag} {H : Hp} {v : Addr} {m : Nat} {es : List (Nat × Nat)} (h : WebC K H v m es) : ∃ xs, WebX K H v m xs es := by
  obtain ⟨t, xs, h1, h2, h3⟩ := h
  exact ⟨xs, t, h1, h2, h3⟩
noncomputable def oD : Option Nat → PyData
  | none => .none
  | some n => .int (n : Int)
theorem rd_o {K : Frag} {H : Hp} : ∀ o : Option Nat, RdD K H (oV o) (oD o)
  | none => .non
  | some _ => .int _
theorem dt_o : ∀ o : Option Nat, Dt 0 (oD o)
  | none => dt_none
  | some _ => dt_int _
section
variable {P : Program} {w : World} {K : Frag} {mg : Str → Option Value} {base : Heap}
theorem scLaw : FnScope lawN ["script"] (defScope sLaw) := ⟨rfl, rfl, rfl, by decide +kernel, rfl, by decide +kernel, by decide +kernel⟩
theorem ok_law {f : Addr} {fd : FuncData} (F : Fun K "law" "law" sLaw f fd) (T : Txt K mg) (hC : Has P w K mg base 1 "_law_cells" ["script", "many"] (spCells K)) (hP : Has P w K mg base 1 "_law_pool" ["cells", "k"] (spPool K)) (hT : Has P w K mg base 1 "_law_take" ["pool", "many"] spTake)
    (hW : Has P w K mg base 4 "_law_web" ["pool", "most"] (spWeb K)) (hL : Has P w K mg base 2 "_law_looks" ["pool", "many"] (spLooks K)) (hD : Has P w K mg base 2 "_law_codes" ["web", "looks", "kind"] (spLCodes K)) (hE : Has P w K mg base 2 "_law_least" ["codes"] (spLeast K)) (hS : Has P w K mg base 5 "strength_of" ["web", "looks", "kind"] (spStr K)) (hM : Has P w K mg base 6 "most_strength" ["web", "kind"] (spMst K)) (hO : Has P w K mg base 1 "_law_whole" ["thing"] spWhole) : FnOk P w K mg base CX0 7 f fd ["script"] (spLaw K) := by
  refine F.ok scLaw (fun vs H Q E h => ?_) (fun cdv A outer s H vs Q E hr h => ?_)
  · obtain ⟨a, ns, rfl, _⟩ := h
    rfl
  · obtain ⟨sc, ns, rfl, hA, hlen, q⟩ := h
    have hr1 : Room 1 _ := hr.mono (by decide)
    have hr2 : Room 2 _ := hr.mono (by decide)
    have hr4 : Room 4 _ := hr.mono (by decide)
    have hr5 : Room 5 _ := hr.mono (by decide)
    have hu := hr.units
    refine ⟨_, pss_cons (ps_set (i := 1) scLaw.nd rfl (Or.inl rfl) (pe_has hC hr1 rfl (pa_cons (pv 0) (pa_cons pe_int pa_nil))))
      (pss_cons (ps_for PassesOwn.never rfl (pi_range1 rfl T.range (pa_cons (pe_callB (call_max2 rfl) (by rfl) T.max PyProof.Rows.boot_max (pa_cons pe_int (pa_cons (pe_callB call_len_seq (by rfl) T.len PySem.boot_len (pa_cons (pv 1) pa_nil)) pa_nil))) pa_nil)) (pg_name (i := 2) scLaw.nd rfl (Or.inl rfl))
        (pss_cons (ps_set (i := 3) scLaw.nd rfl (Or.inl rfl) (pe_has hP hr1 rfl (pa_cons (pv 1) (pa_cons (pv 2) pa_nil))))
        (pss_cons (ps_set (i := 4) scLaw.nd rfl (Or.inl rfl) (pe_has hW hr4 rfl (pa_cons (pv 3) (pa_cons (pe_ix ix_list (pe_lst (pa_cons pe_int (pa_cons pe_int pa_nil))) (pe_callTy call_int1 (by rfl) T.int PyProof.Rows.boot_int (pa_cons (pe_cmpR op_eq (pe_has hT hr1 rfl (pa_cons (pv 3) (pa_cons pe_int pa_nil))) pe_int (nomark _)) pa_nil)) (fun _ _ => rfl)) pa_nil))))
        (pss_one (ps_for PassesOwn.never rfl (pi_list (pe_lst (pa_cons pe_str (pa_cons pe_str (pa_cons pe_str pa_nil))))) (pg_name (i := 5) scLaw.nd rfl (Or.inl rfl))
          (pss_cons (ps_set (i := 6) scLaw.nd rfl (Or.inl rfl) (pe_has hL hr2 rfl (pa_cons (pv 3) (pa_cons (pe_ix ix_tup (pv 4) pe_int (fun _ _ => rfl)) pa_nil))))
          (pss_cons (ps_set (i := 7) scLaw.nd rfl (Or.inl rfl) (pe_has hE hr2 rfl (pa_cons (pe_has hD hr2 rfl (pa_cons (pv 4) (pa_cons (pv 6) (pa_cons (pv 5) pa_nil)))) pa_nil)))
          (pss_cons (ps_set (i := 8) scLaw.nd rfl (Or.inl rfl) (pe_has hE hr2 rfl (pa_cons (pe_has hD hr2 rfl (pa_cons (pv 4) (pa_cons (pe_callTy (call_listR rfl) (by rfl) T.list PyProof.Rows.boot_list (pa_cons (pe_callTy call_range1 (by rfl) T.range PyProof.Rows.boot_range (pa_cons (pe_ix ix_tup (pv 4) pe_int (fun _ _ => rfl)) pa_nil)) pa_nil)) (pa_cons (pv 5) pa_nil)))) pa_nil)))
          (pss_cons (ps_set (i := 9) scLaw.nd rfl (Or.inl rfl) (pe_callTy call_list_of (by rfl) T.list PyProof.Rows.boot_list (pa_cons (pv 6) pa_nil)))
          (pss_one (ps_for PassesOwn.never rfl (pi_range1 rfl T.range (pa_cons pe_int pa_nil)) (pg_name (i := 10) scLaw.nd rfl (Or.inl rfl))
            (pss_cons (ps_set (i := 11) scLaw.nd rfl (Or.inl rfl) (pe_lst (pa_cons (pe_has hS hr5 rfl (pa_cons (pv 4) (pa_cons (pv 9) (pa_cons (pv 5) pa_nil)))) (pa_cons (pe_has hM hr rfl (pa_cons (pv 4) (pa_cons (pv 5) pa_nil))) pa_nil))))
            (pss_cons (ps_if (PW.pt (pw_or (pt_cmpR (op_neD hu) (pv 11) (pe_lst (pa_cons (pv 7) (pa_cons (pv 8) pa_nil))) (nomark _)) (pw_or1 (pt_cmpR (op_neL hu) (pv 9) (pv 6) (nomark _))))) (pss_one (ps_ret pe_bl)) pss_nil)
            (pss_one (ps_if (pt_not (pt_val (pe_callB (call_allB rfl) (by rfl) T.all PyProof.Rows.boot_all (pa_cons (pe_comp (NB := ["one"]) (ix := []) (BlockOk.of blockQ) rfl (pi_list (pv 11)) (fun _ _ _ _ => pe_or (pe_cmp (pc_isN (pv 0))) (pe_one (pe_has hO hr1 rfl (pa_cons (pv 0) pa_nil)))) (fun _ _ _ _ => pts_nil)) pa_nil)))) (pss_one (ps_ret pe_bl)) pss_nil)))))))))))))))
      (pss_one (ps_ret pe_bl))), ?_⟩
    refine ⟨_, rfl, sc, ns, rfl, hA, hlen, fun cs p H1 s1 hp hcs => ?_⟩
    obtain ⟨n, hn, n0, n5⟩ : ∃ n : Int, (if ((cs.map V.int).length : Int) > 1 then ((cs.map V.int).length : Int) else 1) = n ∧ 0 ≤ n ∧ n ≤ 6 := by
      refine ⟨_, rfl, ?_, ?_⟩ <;> rw [List.length_map] <;> split <;> omega
    refine ⟨_, rfl, p, _, rfl, .inl (SqL.of hp), _, _, rfl, n, congrArg (fun x => [V.int x]) hn, by omega, by omega, for_range (lo := 0) (n := n.toNat) (fun i σ H2 => ∃ v2 v3 v4 v5 v6 v7 v8 v9 v10 v11 : Option V, σ = stL sc p v2 v3 v4 v5 v6 v7 v8 v9 v10 v11 ∧ Same H1 H2) ⟨_, _, _, _, _, _, _, _, _, _, rfl, Same.refl _⟩ ?_ ?_⟩
    · rintro i σ H2 hi ⟨v2, v3, v4, v5, v6, v7, v8, v9, v10, v11, rfl, s2⟩
      refine ⟨_, rfl, _, rfl, p, cs, i, by rw [Int.zero_add]; rfl, SqL.of (s2 _ _ hp), by omega, by omega, fun a H3 na s3 st3 => ?_⟩
      refine ⟨_, rfl, (by show 2 ≤ sizeLine; decide), fun u1 h1 => ?_⟩
      have t1 := new_same (o := .lst [.int 9, .int 24]) h1
      refine ⟨_, rfl, a, 8, rfl, by decide, by decide, st3.mono t1, fun r H4 r0 r1 st4 mv4 => ?_⟩
      obtain ⟨mo, hmo, mo1⟩ : ∃ mo : Int, atI [V.int 9, .int 24] (if decide (V.int r = V.int 0) = true then 1 else 0) = some (.int mo) ∧ (mo = 9 ∨ mo = 24) := by
        split
        · exact ⟨24, rfl, .inr rfl⟩
        · exact ⟨9, rfl, .inl rfl⟩
      refine ⟨rfl, .inr ⟨_, rfl, u1, _, _, .int mo, rfl, rfl, SqL.of (mv4 _ _ (st_ne st3 h1) upd_same), hmo, a, mo, rfl, mo1, st4, fun m v H5 es m1 m60 st5 mv5 wb5 gd cn few => ⟨(by show 3 ≤ sizeLine; decide), fun lk hli => ?_⟩⟩⟩
      have mv35 := ((Mv.of t1).trans mv4).trans mv5
      obtain ⟨xs, wx5⟩ := wb5.x
      have sb := new_same (o := .lst [.str "places", .str "ties", .str "all"]) hli
      have stB := st5.mono sb
      have mvB := mv35.trans (Mv.of sb)
      have wxB : WebX K (upd H5 lk (.lst [.str "places", .str "ties", .str "all"])) v m xs es := wx5.mono fun b xs e => sb _ _ e
      have eli : upd H5 lk (.lst [.str "places", .str "ties", .str "all"]) lk = some (.lst [.str "places", .str "ties", .str "all"]) := upd_same
      have nli : lk ≠ a := st_ne st5 hli
      generalize upd H5 lk (.lst [.str "places", .str "ties", .str "all"]) = Hb at stB mvB wxB eli ⊢
      have sB : ∀ Hc, Mv a Hb Hc → Same H1 Hc := fun Hc mv => s2.trans (same_mv s3 na (mvB.trans mv))
      clear sb wb5 wx5 mv35 mv5 st5 hli hmo mv4 st4 t1 h1
      have ntB : Net K Hb v m es := ⟨wxB.c, m60, gd, few, cn⟩
      refine ⟨lk, rfl, ⟨_, SqL.of eli⟩, for_list (xs := [.str "places", .str "ties", .str "all"]) (fun j σ Hc => ∃ v5 v6 v7 v8 v9 v10 v11 : Option V, σ = stL sc p (some (.int (0 + (i : Int)))) (some (.ref a)) (some (.ref v)) v5 v6 v7 v8 v9 v10 v11 ∧ StA Hc a ∧ Mv a Hb Hc) ⟨_, _, _, _, _, _, _, rfl, stB, Mv.refl _ _⟩ ?_ ?_ ?_⟩
      · rintro j σ Hc hj ⟨_, _, _, _, _, _, _, _, _, mv⟩
        exact SqL.of (mv _ _ nli eli)
      · rintro j y σ Hc hy ⟨v5, v6, v7, v8, v9, v10, v11, rfl, stc, mvc⟩
        obtain ⟨kk, rfl, kd⟩ : ∃ kk : Str, y = .str kk ∧ Kd kk := by
          have := List.mem_of_getElem? hy
          rcases List.mem_cons.mp this with rfl | h
          · exact ⟨_, rfl, .inl rfl⟩
          · rcases List.mem_cons.mp h with rfl | h
            · exact ⟨_, rfl, .inr (.inl rfl)⟩
            · cases List.mem_singleton.mp h
              exact ⟨_, rfl, .inr (.inr rfl)⟩
        have wxc := wxB.mono (mv_tup mvc stB)
        obtain ⟨t, hw, _⟩ := id wxc
        refine ⟨_, rfl, _, rfl, v, _, 0, .int m, rfl, rfl, .inl (.inl hw), atI_nat (j := 0) rfl, a, m, rfl, m60, stc, fun ls L H6 st6 mv6 ri eL nL => ?_⟩
        have mv06 := mvc.trans mv6
        have wx6 := wxB.mono (mv_tup mv06 stB)
        have nt6 := ntB.mono (mv_tup mv06 stB)
        have rl := rise_len ri
        have tl := thT_len (k := kk) (m := m) (es := es)
        have cl : ∀ ls : List Nat, ∀ c ∈ (thT kk m es).map (code (Gr.Adj es) ls), c.length = ls.length := fun ls c hc => by
          obtain ⟨t, _, rfl⟩ := List.mem_map.mp hc
          show (ls.map _).length = _
          rw [List.length_map]
        have few2 : ∀ ls : List Nat, ((thT kk m es).map (code (Gr.Adj es) ls)).length ≤ 1060 := fun ls => by
          rw [List.length_map]
          omega
        refine ⟨_, rfl, _, rfl, _, rfl, v, L, kk, m, xs, es, ls, rfl, kd, wx6, nt6, SqL.of eL, ri, fun Ca H7 s7 nC cd => ?_⟩
        refine ⟨Ca, _, ls.length, rfl, cd, cl ls, by omega, few2 ls, fun o1 H8 s8 lo1 => ?_⟩
        have s68 := s7.trans s8
        obtain ⟨t8, hw8, _⟩ := wx6.mono fun b xs e => s68 _ _ e
        refine ⟨_, rfl, _, rfl, v, _, 0, .int m, rfl, rfl, .inl (.inl hw8), atI_nat (j := 0) rfl, (m : Int), rfl, fun w1 h1 => ⟨w1, _, rfl, upd_same, by omega, by omega, fun w2 h2 => ?_⟩⟩
        have sr := (new_same (o := .rng 0 (m : Int)) h1).trans (new_same (o := .lst (((List.range (m : Int).toNat).map fun i : Nat => (i : Int)).map V.int)) h2)
        have ew : upd (upd H8 w1 (.rng 0 (m : Int))) w2 (.lst (((List.range (m : Int).toNat).map fun i : Nat => (i : Int)).map V.int)) w2 = some (.lst (nats (List.range m))) := upd_same.trans (by rw [nats_map]; rfl)
        have s69 := s68.trans sr
        generalize upd (upd H8 w1 (.rng 0 (m : Int))) w2 (.lst (((List.range (m : Int).toNat).map fun i : Nat => (i : Int)).map V.int)) = H9 at s69 ew ⊢
        clear sr h1 h2
        refine ⟨_, rfl, v, w2, kk, m, xs, es, List.range m, rfl, kd, wx6.mono (fun b xs e => s69 _ _ e), nt6.mono (fun b xs e => s69 _ _ e), SqL.of ew, rise_all m, fun Cb H10 s10 nCb cdb => ?_⟩
        refine ⟨Cb, _, m, rfl, cdb, (fun c hc => (cl _ c hc).trans List.length_range), m60, few2 _, fun o2 H11 s11 lo2 => ?_⟩
        have s611 := s69.trans (s10.trans s11)
        have eL11 := s611 _ _ eL
        refine ⟨_, rfl, L, _, rfl, .inl (SqL.of eL11), fun hd hh => ?_⟩
        have th := s611.trans (new_same (o := .lst (nats ls)) hh)
        have eh : upd H11 hd (.lst (nats ls)) hd = some (.lst (nats ls)) := upd_same
        generalize upd H11 hd (.lst (nats ls)) = H12 at th eh ⊢
        have eL12 := th _ _ eL
        have wx12 := wx6.mono fun b xs e => th _ _ e
        have nt12 := nt6.mono fun b xs e => th _ _ e
        clear s7 s8 s68 s10 s11 s69 s611 eL11 cd cdb hh
        refine ⟨2, rfl, by decide, by decide, for_range (lo := 0) (n := 2) (fun jj σ Hd => ∃ v10 v11 : Option V, σ = stL sc p (some (.int (0 + (i : Int)))) (some (.ref a)) (some (.ref v)) (some (.str kk)) (some (.ref L)) (some (oV o1)) (some (oV o2)) (some (.ref hd)) v10 v11 ∧ Same H12 Hd) ⟨_, _, rfl, Same.refl _⟩ ?_ ?_⟩
        · rintro jj σ Hd hjj ⟨v10, v11, rfl, sd⟩
          have wxd := wx12.mono fun b xs e => sd _ _ e
          have ntd := nt12.mono fun b xs e => sd _ _ e
          refine ⟨_, rfl, _, rfl, _, rfl, v, hd, kk, m, xs, es, ls, rfl, wxd, ntd, SqL.of (sd _ _ eh), ri, fun o1' H13 s13 lo1' => ?_⟩
          cases lo1'.uniq lo1
          refine ⟨_, rfl, _, rfl, v, kk, m, xs, es, rfl, wxd.mono (fun b xs e => s13 _ _ e), ntd.mono (fun b xs e => s13 _ _ e), fun o2' H14 s14 lo2' => ?_⟩
          cases lo2'.uniq lo2
          refine ⟨(by show 2 ≤ sizeLine; decide), fun fo hfo => ?_⟩
          have s15 := (sd.trans (s13.trans s14)).trans (new_same (o := .lst [oV o1, oV o2]) hfo)
          have ef : upd H14 fo (.lst [oV o1, oV o2]) fo = some (.lst [oV o1, oV o2]) := upd_same
          generalize upd H14 fo (.lst [oV o1, oV o2]) = H15 at s15 ef ⊢
          refine ⟨_, rfl, _, rfl, _, rfl, (by show 2 ≤ sizeLine; decide), fun fu hfu => ?_⟩
          have s16 := s15.trans (new_same (o := .lst [oV o1, oV o2]) hfu)
          have ef16 := (new_same (o := .lst [oV o1, oV o2]) hfu) _ _ ef
          have eu16 : upd H15 fu (.lst [oV o1, oV o2]) fu = some (.lst [oV o1, oV o2]) := upd_same
          generalize upd H15 fu (.lst [oV o1, oV o2]) = H16 at s16 ef16 eu16 ⊢
          have dl : Dt 60 (.list [oD o1, oD o2]) := (dt_list (n := 0) fun d hd => by
            rcases List.mem_cons.mp hd with rfl | hd
            · exact dt_o _
            · cases List.mem_singleton.mp hd
              exact dt_o _).mono (by decide)
          refine ⟨.list [oD o1, oD o2], .list [oD o1, oD o2], .lst (SqL.of ef16) (.cons (rd_o o1) (.cons (rd_o o2) .nil)), .lst (SqL.of eu16) (.cons (rd_o o1) (.cons (rd_o o2) .nil)), dl.shaped (by decide), dl.shaped (by decide), ?_, false, ?_, iteF ?_⟩
          · cases o1 <;> cases o2 <;> simp [oD, SeqAt.noMix, SeqAt.noMixAll]
          · cases o1 <;> cases o2 <;> simp [oD, Spec.same, Spec.sameAll]
          refine ⟨_, rfl, _, rfl, hd, L, ls.map fun n : Nat => (n : Int), ls.map fun n : Nat => (n : Int), rfl, rfl, nats_map ▸ SqL.of (s16 _ _ eh), nats_map ▸ SqL.of (s16 _ _ eL12), false, by simp, iteF ?_⟩
          refine ⟨_, rfl, fo, rfl, ⟨_, SqL.of ef16⟩, comp_list (xs := [oV o1, oV o2]) (fun j ys He => He = H16 ∧ ys = (List.replicate j true).map V.bl) ⟨rfl, rfl⟩ ?_ ?_ ?_ ?_⟩
          · rintro j ys He hj ⟨_, rfl⟩
            have hj : j < 2 := hj
            rw [List.length_map, List.length_replicate]
            exact Nat.lt_of_le_of_lt (show j ≤ 2 by omega) (by decide)
          · rintro j ys He hj ⟨rfl, _⟩
            exact SqL.of ef16
          · rintro j x ys He hx ⟨rfl, rfl⟩
            obtain ⟨o, rfl⟩ : ∃ o, x = oV o := by
              rcases List.mem_cons.mp (List.mem_of_getElem? hx) with rfl | h
              · exact ⟨_, rfl⟩
              · cases List.mem_singleton.mp h
                exact ⟨_, rfl⟩
            have fin : He = He ∧ (List.replicate j true).map V.bl ++ [V.bl true] = (List.replicate (j + 1) true).map V.bl := ⟨rfl, by rw [List.replicate_succ', List.map_append]; rfl⟩
            unfold tYes
            refine @iteT _ (_ ∧ _) ?_
            cases o with
            | none => exact ⟨_, rfl, _, rfl, iteT fin⟩
            | some n => exact ⟨_, rfl, _, rfl, iteF ⟨_, rfl, (n : Int), rfl, fin⟩⟩
          · rintro ys He ⟨rfl, rfl⟩ b hb
            refine ⟨b, [true, true], rfl, SqL.of upd_same, _, rfl, iteF ?_⟩
            exact ⟨_, _, rfl, s16.trans (new_same hb)⟩
        · rintro σ Hd ⟨v10, v11, rfl, sd⟩
          have s6d := th.trans sd
          exact ⟨_, _, _, _, _, _, _, rfl, st6.mono s6d, mv06.trans (Mv.of s6d)⟩
      · rintro σ Hc ⟨v5, v6, v7, v8, v9, v10, v11, rfl, stc, mvc⟩
        exact ⟨_, _, _, _, _, _, _, _, _, _, rfl, sB _ mvc⟩
    · rintro σ H2 ⟨v2, v3, v4, v5, v6, v7, v8, v9, v10, v11, rfl, s2⟩
      exact q _
end
end K42

namespace K42
open PySem L2 PySem.W
theorem us1 : ∀ {us : List Value}, us.length = 1 → ∃ a0, us = [a0]
  | [a0], _ => ⟨_, rfl⟩
theorem us2 : ∀ {us : List Value}, us.length = 2 → ∃ a0 a1, us = [a0, a1]
  | [a0, a1], _ => ⟨_, _, rfl⟩
theorem us3 : ∀ {us : List Value}, us.length = 3 → ∃ a0 a1 a2, us = [a0, a1, a2]
  | [a0, a1, a2], _ => ⟨_, _, _, rfl⟩
theorem all_mk {l : OpenLaw} {w : World} {K : Frag} {h : Heap} {mg : Str → Option Value} { fa fNl fFo fRn fFf fNe fTh fAr fRf fTf fCo fCe fPo fTa fSo fNa fWe fNr fSt fLt fLc fLd fLo fUn fSr fMs fLu fLe fWh fLa : Addr} (X : K.In h) (G : h.Ns mainGlobals mg) (hfa : mg "law" = some (.ref fa))
    {odNl anNl : Option Addr} {slNl : Array (Option Value)} {ocNl kVNl dcNl pmNl cdNl ctNl : Value}
    {odFo anFo : Option Addr} {slFo : Array (Option Value)} {ocFo kVFo dcFo pmFo cdFo ctFo : Value}
    {odRn anRn : Option Addr} {slRn : Array (Option Value)} {ocRn kVRn dcRn pmRn cdRn ctRn : Value}
    {odFf anFf : Option Addr} {slFf : Array (Option Value)} {ocFf kVFf dcFf pmFf cdFf ctFf : Value}
    {odNe anNe : Option Addr} {slNe : Array (Option Value)} {ocNe kVNe dcNe pmNe cdNe ctNe : Value}
    {odTh anTh : Option Addr} {slTh : Array (Option Value)} {ocTh kVTh dcTh pmTh cdTh ctTh : Value}
    {odAr anAr : Option Addr} {slAr : Array (Option Value)} {ocAr kVAr dcAr pmAr cdAr ctAr : Value}
    {odRf anRf : Option Addr} {slRf : Array (Option Value)} {ocRf kVRf dcRf pmRf cdRf ctRf : Value}
    {odTf anTf : Option Addr} {slTf : Array (Option Value)} {ocTf kVTf dcTf pmTf cdTf ctTf : Value}
    {odCo anCo : Option Addr} {slCo : Array (Option Value)} {ocCo kVCo dcCo pmCo cdCo ctCo : Value}
    {odCe anCe : Option Addr} {slCe : Array (Option Value)} {ocCe kVCe dcCe pmCe cdCe ctCe : Value}
    {odPo anPo : Option Addr} {slPo : Array (Option Value)} {ocPo kVPo dcPo pmPo cdPo ctPo : Value}
    {odTa anTa : Option Addr} {slTa : Array (Option Value)} {ocTa kVTa dcTa pmTa cdTa ctTa : Value}
    {odSo anSo : Option Addr} {slSo : Array (Option Value)} {ocSo kVSo dcSo pmSo cdSo ctSo : Value}
    {odNa anNa : Option Addr} {slNa : Array (Option Value)} {ocNa kVNa dcNa pmNa cdNa ctNa : Value}
    {odWe anWe : Option Addr} {slWe : Array (Option Value)} {ocWe kVWe dcWe pmWe cdWe ctWe : Value}
    {odNr anNr : Option Addr} {slNr : Array (Option Value)} {ocNr kVNr dcNr pmNr cdNr ctNr : Value}
    {odSt anSt : Option Addr} {slSt : Array (Option Value)} {ocSt kVSt dcSt pmSt cdSt ctSt : Value}
    {odLt anLt : Option Addr} {slLt : Array (Option Value)} {ocLt kVLt dcLt pmLt cdLt ctLt : Value}
    {odLc anLc : Option Addr} {slLc : Array (Option Value)} {ocLc kVLc dcLc pmLc cdLc ctLc : Value}
    {odLd anLd : Option Addr} {slLd : Array (Option Value)} {ocLd kVLd dcLd pmLd cdLd ctLd : Value}
    {odLo anLo : Option Addr} {slLo : Array (Option Value)} {ocLo kVLo dcLo pmLo cdLo ctLo : Value}
    {odUn anUn : Option Addr} {slUn : Array (Option Value)} {ocUn kVUn dcUn pmUn cdUn ctUn : Value}
    {odSr anSr : Option Addr} {slSr : Array (Option Value)} {ocSr kVSr dcSr pmSr cdSr ctSr : Value}
    {odMs anMs : Option Addr} {slMs : Array (Option Value)} {ocMs kVMs dcMs pmMs cdMs ctMs : Value}
    {odLu anLu : Option Addr} {slLu : Array (Option Value)} {ocLu kVLu dcLu pmLu cdLu ctLu : Value}
    {odLe anLe : Option Addr} {slLe : Array (Option Value)} {ocLe kVLe dcLe pmLe cdLe ctLe : Value}
    {odWh anWh : Option Addr} {slWh : Array (Option Value)} {ocWh kVWh dcWh pmWh cdWh ctWh : Value}
    {odLa anLa : Option Addr} {slLa : Array (Option Value)} {ocLa kVLa dcLa pmLa cdLa ctLa : Value}
    (nNl : nsIn K mainGlobals "neighbour_lists" = some (some (.ref fNl)))
    (lNl : K.lookup fNl = some ⟨ocNl, odNl, .func (fnOf "neighbour_lists" "neighbour_lists" (defArgs sNbl) (defBody sNbl) (defScope sNbl) .none kVNl dcNl pmNl anNl cdNl ctNl), slNl⟩)
    (eNl : codeIn K cdNl "neighbour_lists" = true)
    (pNl : keepIn K (.ref fNl) = true)
    (nFo : nsIn K mainGlobals "fars_or_none" = some (some (.ref fFo)))
    (lFo : K.lookup fFo = some ⟨ocFo, odFo, .func (fnOf "fars_or_none" "fars_or_none" (defArgs sFon) (defBody sFon) (defScope sFon) .none kVFo dcFo pmFo anFo cdFo ctFo), slFo⟩)
    (eFo : codeIn K cdFo "fars_or_none" = true)
    (pFo : keepIn K (.ref fFo) = true)
    (nRn : nsIn K mainGlobals "refuse_no_place" = some (some (.ref fRn)))
    (lRn : K.lookup fRn = some ⟨ocRn, odRn, .func (fnOf "refuse_no_place" "refuse_no_place" (defArgs sRnp) (defBody sRnp) (defScope sRnp) .none kVRn dcRn pmRn anRn cdRn ctRn), slRn⟩)
    (eRn : codeIn K cdRn "refuse_no_place" = true)
    (pRn : keepIn K (.ref fRn) = true)
    (nFf : nsIn K mainGlobals "fars_from" = some (some (.ref fFf)))
    (lFf : K.lookup fFf = some ⟨ocFf, odFf, .func (fnOf "fars_from" "fars_from" (defArgs sFfr) (defBody sFfr) (defScope sFfr) .none kVFf dcFf pmFf anFf cdFf ctFf), slFf⟩)
    (eFf : codeIn K cdFf "fars_from" = true)
    (pFf : keepIn K (.ref fFf) = true)
    (nNe : nsIn K mainGlobals "nearer_end" = some (some (.ref fNe)))
    (lNe : K.lookup fNe = some ⟨ocNe, odNe, .func (fnOf "nearer_end" "nearer_end" (defArgs sNre) (defBody sNre) (defScope sNre) .none kVNe dcNe pmNe anNe cdNe ctNe), slNe⟩)
    (eNe : codeIn K cdNe "nearer_end" = true)
    (pNe : keepIn K (.ref fNe) = true)
    (nTh : nsIn K mainGlobals "things_of" = some (some (.ref fTh)))
    (lTh : K.lookup fTh = some ⟨ocTh, odTh, .func (fnOf "things_of" "things_of" (defArgs sThi) (defBody sThi) (defScope sThi) .none kVTh dcTh pmTh anTh cdTh ctTh), slTh⟩)
    (eTh : codeIn K cdTh "things_of" = true)
    (pTh : keepIn K (.ref fTh) = true)
    (nAr : nsIn K mainGlobals "are_looks" = some (some (.ref fAr)))
    (lAr : K.lookup fAr = some ⟨ocAr, odAr, .func (fnOf "are_looks" "are_looks" (defArgs sAre) (defBody sAre) (defScope sAre) .none kVAr dcAr pmAr anAr cdAr ctAr), slAr⟩)
    (eAr : codeIn K cdAr "are_looks" = true)
    (pAr : keepIn K (.ref fAr) = true)
    (nRf : nsIn K mainGlobals "refuse_wrong_looks" = some (some (.ref fRf)))
    (lRf : K.lookup fRf = some ⟨ocRf, odRf, .func (fnOf "refuse_wrong_looks" "refuse_wrong_looks" (defArgs sRefuse) (defBody sRefuse) (defScope sRefuse) .none kVRf dcRf pmRf anRf cdRf ctRf), slRf⟩)
    (eRf : codeIn K cdRf "refuse_wrong_looks" = true)
    (pRf : keepIn K (.ref fRf) = true)
    (nTf : nsIn K mainGlobals "thing_far" = some (some (.ref fTf)))
    (lTf : K.lookup fTf = some ⟨ocTf, odTf, .func (fnOf "thing_far" "thing_far" (defArgs sTfa) (defBody sTfa) (defScope sTfa) .none kVTf dcTf pmTf anTf cdTf ctTf), slTf⟩)
    (eTf : codeIn K cdTf "thing_far" = true)
    (pTf : keepIn K (.ref fTf) = true)
    (nCo : nsIn K mainGlobals "codes_of" = some (some (.ref fCo)))
    (lCo : K.lookup fCo = some ⟨ocCo, odCo, .func (fnOf "codes_of" "codes_of" (defArgs sCod) (defBody sCod) (defScope sCod) .none kVCo dcCo pmCo anCo cdCo ctCo), slCo⟩)
    (eCo : codeIn K cdCo "codes_of" = true)
    (pCo : keepIn K (.ref fCo) = true)
    (nCe : nsIn K mainGlobals "_law_cells" = some (some (.ref fCe)))
    (lCe : K.lookup fCe = some ⟨ocCe, odCe, .func (fnOf "_law_cells" "_law_cells" (defArgs sCells) (defBody sCells) (defScope sCells) .none kVCe dcCe pmCe anCe cdCe ctCe), slCe⟩)
    (eCe : codeIn K cdCe "_law_cells" = true)
    (pCe : keepIn K (.ref fCe) = true)
    (nPo : nsIn K mainGlobals "_law_pool" = some (some (.ref fPo)))
    (lPo : K.lookup fPo = some ⟨ocPo, odPo, .func (fnOf "_law_pool" "_law_pool" (defArgs sPool) (defBody sPool) (defScope sPool) .none kVPo dcPo pmPo anPo cdPo ctPo), slPo⟩)
    (ePo : codeIn K cdPo "_law_pool" = true)
    (pPo : keepIn K (.ref fPo) = true)
    (nTa : nsIn K mainGlobals "_law_take" = some (some (.ref fTa)))
    (lTa : K.lookup fTa = some ⟨ocTa, odTa, .func (fnOf "_law_take" "_law_take" (defArgs sTake) (defBody sTake) (defScope sTake) .none kVTa dcTa pmTa anTa cdTa ctTa), slTa⟩)
    (eTa : codeIn K cdTa "_law_take" = true)
    (pTa : keepIn K (.ref fTa) = true)
    (nSo : nsIn K mainGlobals "_law_some" = some (some (.ref fSo)))
    (lSo : K.lookup fSo = some ⟨ocSo, odSo, .func (fnOf "_law_some" "_law_some" (defArgs sSome) (defBody sSome) (defScope sSome) .none kVSo dcSo pmSo anSo cdSo ctSo), slSo⟩)
    (eSo : codeIn K cdSo "_law_some" = true)
    (pSo : keepIn K (.ref fSo) = true)
    (nNa : nsIn K mainGlobals "_law_named" = some (some (.ref fNa)))
    (lNa : K.lookup fNa = some ⟨ocNa, odNa, .func (fnOf "_law_named" "_law_named" (defArgs sNamed) (defBody sNamed) (defScope sNamed) .none kVNa dcNa pmNa anNa cdNa ctNa), slNa⟩)
    (eNa : codeIn K cdNa "_law_named" = true)
    (pNa : keepIn K (.ref fNa) = true)
    (nWe : nsIn K mainGlobals "_law_web" = some (some (.ref fWe)))
    (lWe : K.lookup fWe = some ⟨ocWe, odWe, .func (fnOf "_law_web" "_law_web" (defArgs sWeb) (defBody sWeb) (defScope sWeb) .none kVWe dcWe pmWe anWe cdWe ctWe), slWe⟩)
    (eWe : codeIn K cdWe "_law_web" = true)
    (pWe : keepIn K (.ref fWe) = true)
    (nNr : nsIn K mainGlobals "_law_near" = some (some (.ref fNr)))
    (lNr : K.lookup fNr = some ⟨ocNr, odNr, .func (fnOf "_law_near" "_law_near" (defArgs sNear) (defBody sNear) (defScope sNear) .none kVNr dcNr pmNr anNr cdNr ctNr), slNr⟩)
    (eNr : codeIn K cdNr "_law_near" = true)
    (pNr : keepIn K (.ref fNr) = true)
    (nSt : nsIn K mainGlobals "_law_steps" = some (some (.ref fSt)))
    (lSt : K.lookup fSt = some ⟨ocSt, odSt, .func (fnOf "_law_steps" "_law_steps" (defArgs sSteps) (defBody sSteps) (defScope sSteps) .none kVSt dcSt pmSt anSt cdSt ctSt), slSt⟩)
    (eSt : codeIn K cdSt "_law_steps" = true)
    (pSt : keepIn K (.ref fSt) = true)
    (nLt : nsIn K mainGlobals "_law_things" = some (some (.ref fLt)))
    (lLt : K.lookup fLt = some ⟨ocLt, odLt, .func (fnOf "_law_things" "_law_things" (defArgs sLThings) (defBody sLThings) (defScope sLThings) .none kVLt dcLt pmLt anLt cdLt ctLt), slLt⟩)
    (eLt : codeIn K cdLt "_law_things" = true)
    (pLt : keepIn K (.ref fLt) = true)
    (nLc : nsIn K mainGlobals "_law_code" = some (some (.ref fLc)))
    (lLc : K.lookup fLc = some ⟨ocLc, odLc, .func (fnOf "_law_code" "_law_code" (defArgs sLCode) (defBody sLCode) (defScope sLCode) .none kVLc dcLc pmLc anLc cdLc ctLc), slLc⟩)
    (eLc : codeIn K cdLc "_law_code" = true)
    (pLc : keepIn K (.ref fLc) = true)
    (nLd : nsIn K mainGlobals "_law_codes" = some (some (.ref fLd)))
    (lLd : K.lookup fLd = some ⟨ocLd, odLd, .func (fnOf "_law_codes" "_law_codes" (defArgs sLCodes) (defBody sLCodes) (defScope sLCodes) .none kVLd dcLd pmLd anLd cdLd ctLd), slLd⟩)
    (eLd : codeIn K cdLd "_law_codes" = true)
    (pLd : keepIn K (.ref fLd) = true)
    (nLo : nsIn K mainGlobals "_law_looks" = some (some (.ref fLo)))
    (lLo : K.lookup fLo = some ⟨ocLo, odLo, .func (fnOf "_law_looks" "_law_looks" (defArgs sLooks) (defBody sLooks) (defScope sLooks) .none kVLo dcLo pmLo anLo cdLo ctLo), slLo⟩)
    (eLo : codeIn K cdLo "_law_looks" = true)
    (pLo : keepIn K (.ref fLo) = true)
    (nUn : nsIn K mainGlobals "unlike_count" = some (some (.ref fUn)))
    (lUn : K.lookup fUn = some ⟨ocUn, odUn, .func (fnOf "unlike_count" "unlike_count" (defArgs sUnl) (defBody sUnl) (defScope sUnl) .none kVUn dcUn pmUn anUn cdUn ctUn), slUn⟩)
    (eUn : codeIn K cdUn "unlike_count" = true)
    (pUn : keepIn K (.ref fUn) = true)
    (nSr : nsIn K mainGlobals "strength_of" = some (some (.ref fSr)))
    (lSr : K.lookup fSr = some ⟨ocSr, odSr, .func (fnOf "strength_of" "strength_of" (defArgs sStr) (defBody sStr) (defScope sStr) .none kVSr dcSr pmSr anSr cdSr ctSr), slSr⟩)
    (eSr : codeIn K cdSr "strength_of" = true)
    (pSr : keepIn K (.ref fSr) = true)
    (nMs : nsIn K mainGlobals "most_strength" = some (some (.ref fMs)))
    (lMs : K.lookup fMs = some ⟨ocMs, odMs, .func (fnOf "most_strength" "most_strength" (defArgs sMst) (defBody sMst) (defScope sMst) .none kVMs dcMs pmMs anMs cdMs ctMs), slMs⟩)
    (eMs : codeIn K cdMs "most_strength" = true)
    (pMs : keepIn K (.ref fMs) = true)
    (nLu : nsIn K mainGlobals "_law_unlike" = some (some (.ref fLu)))
    (lLu : K.lookup fLu = some ⟨ocLu, odLu, .func (fnOf "_law_unlike" "_law_unlike" (defArgs sLUnl) (defBody sLUnl) (defScope sLUnl) .none kVLu dcLu pmLu anLu cdLu ctLu), slLu⟩)
    (eLu : codeIn K cdLu "_law_unlike" = true)
    (pLu : keepIn K (.ref fLu) = true)
    (nLe : nsIn K mainGlobals "_law_least" = some (some (.ref fLe)))
    (lLe : K.lookup fLe = some ⟨ocLe, odLe, .func (fnOf "_law_least" "_law_least" (defArgs sLeast) (defBody sLeast) (defScope sLeast) .none kVLe dcLe pmLe anLe cdLe ctLe), slLe⟩)
    (eLe : codeIn K cdLe "_law_least" = true)
    (pLe : keepIn K (.ref fLe) = true)
    (nWh : nsIn K mainGlobals "_law_whole" = some (some (.ref fWh)))
    (lWh : K.lookup fWh = some ⟨ocWh, odWh, .func (fnOf "_law_whole" "_law_whole" (defArgs sWhole) (defBody sWhole) (defScope sWhole) .none kVWh dcWh pmWh anWh cdWh ctWh), slWh⟩)
    (eWh : codeIn K cdWh "_law_whole" = true)
    (pWh : keepIn K (.ref fWh) = true)
    (nLa : nsIn K mainGlobals "law" = some (some (.ref fLa)))
    (lLa : K.lookup fLa = some ⟨ocLa, odLa, .func (fnOf "law" "law" (defArgs sLaw) (defBody sLaw) (defScope sLaw) .none kVLa dcLa pmLa anLa cdLa ctLa), slLa⟩)
    (eLa : codeIn K cdLa "law" = true)
    (pLa : keepIn K (.ref fLa) = true)
    (zl : nsIn K mainGlobals "len" = some none)
    (zm : nsIn K mainGlobals "min" = some none)
    (zM : nsIn K mainGlobals "max" = some none)
    (za : nsIn K mainGlobals "abs" = some none)
    (zI : nsIn K mainGlobals "int" = some none)
    (zr : nsIn K mainGlobals "range" = some none)
    (zt : nsIn K mainGlobals "tuple" = some none)
    (zi : nsIn K mainGlobals "isinstance" = some none)
    (zx : nsIn K mainGlobals "list" = some none)
    (zo : nsIn K mainGlobals "sorted" = some none)
    (ze : nsIn K mainGlobals "enumerate" = some none)
    (zz : nsIn K mainGlobals "zip" = some none)
    (zA : nsIn K mainGlobals "all" = some none)
    (zb : nsIn K mainGlobals "bool" = some none)
    (kii : kitOne K (.type "int") (.type "int") = some true)
    (kti : kitOne K (.type "tuple") (.type "int") = some false)
    (kit : kitOne K (.type "int") (.type "tuple") = some false)
    (ktt : kitOne K (.type "tuple") (.type "tuple") = some true)
    (kib : kitOne K (.type "int") (.type "bool") = some false)
    (ktb : kitOne K (.type "tuple") (.type "bool") = some false)
    (kll : kitOne K (.type "list") (.type "list") = some true)
    (kia : kitAny K (.type "int") [.type "int", .type "tuple"] = some true)
    (kta : kitAny K (.type "tuple") [.type "int", .type "tuple"] = some true) :
    ∃ fd : FuncData, (∀ (s : Shared) (v : Value), BindsTo s fd ⟨[v], []⟩ [("script", v)]) ∧ ∀ base : Heap, K.In base → base.Ns mainGlobals mg → FnOk l.prog w K mg base CX0 7 fa fd ["script"] (spLaw K) := by
  have e := hfa.symm.trans (mg_of X G nLa)
  cases e
  have T : Txt K mg := ⟨mg_none_of X G zl, mg_none_of X G zm, mg_none_of X G zM, mg_none_of X G za, mg_none_of X G zI, mg_none_of X G zr, mg_none_of X G zt, mg_none_of X G zi, mg_none_of X G zx, mg_none_of X G zo, mg_none_of X G ze, mg_none_of X G zz, mg_none_of X G zA, mg_none_of X G zb⟩
  have Z : Kit K := ⟨kii, kti, kit, ktt, kib, ktb, kll, kia, kta⟩
  have FNl := fun_mk (st := sNbl) lNl eNl pNl
  have FFo := fun_mk (st := sFon) lFo eFo pFo
  have FRn := fun_mk (st := sRnp) lRn eRn pRn
  have FFf := fun_mk (st := sFfr) lFf eFf pFf
  have FNe := fun_mk (st := sNre) lNe eNe pNe
  have FTh := fun_mk (st := sThi) lTh eTh pTh
  have FAr := fun_mk (st := sAre) lAr eAr pAr
  have FRf := fun_mk (st := sRefuse) lRf eRf pRf
  have FTf := fun_mk (st := sTfa) lTf eTf pTf
  have FCo := fun_mk (st := sCod) lCo eCo pCo
  have FCe := fun_mk (st := sCells) lCe eCe pCe
  have FPo := fun_mk (st := sPool) lPo ePo pPo
  have FTa := fun_mk (st := sTake) lTa eTa pTa
  have FSo := fun_mk (st := sSome) lSo eSo pSo
  have FNa := fun_mk (st := sNamed) lNa eNa pNa
  have FWe := fun_mk (st := sWeb) lWe eWe pWe
  have FNr := fun_mk (st := sNear) lNr eNr pNr
  have FSt := fun_mk (st := sSteps) lSt eSt pSt
  have FLt := fun_mk (st := sLThings) lLt eLt pLt
  have FLc := fun_mk (st := sLCode) lLc eLc pLc
  have FLd := fun_mk (st := sLCodes) lLd eLd pLd
  have FLo := fun_mk (st := sLooks) lLo eLo pLo
  have FUn := fun_mk (st := sUnl) lUn eUn pUn
  have FSr := fun_mk (st := sStr) lSr eSr pSr
  have FMs := fun_mk (st := sMst) lMs eMs pMs
  have FLu := fun_mk (st := sLUnl) lLu eLu pLu
  have FLe := fun_mk (st := sLeast) lLe eLe pLe
  have FWh := fun_mk (st := sWhole) lWh eWh pWh
  have FLa := fun_mk (st := sLaw) lLa eLa pLa
  have bNl := FNl.binds (ps := ["web"]) fun _ _ _ _ _ _ us hl => by obtain ⟨_, rfl⟩ := us1 hl; rfl
  have bFo := FFo.binds (ps := ["web", "place"]) fun _ _ _ _ _ _ us hl => by obtain ⟨_, _, rfl⟩ := us2 hl; rfl
  have bRn := FRn.binds (ps := ["web", "place"]) fun _ _ _ _ _ _ us hl => by obtain ⟨_, _, rfl⟩ := us2 hl; rfl
  have bFf := FFf.binds (ps := ["web", "place"]) fun _ _ _ _ _ _ us hl => by obtain ⟨_, _, rfl⟩ := us2 hl; rfl
  have bNe := FNe.binds (ps := ["fars", "tie"]) fun _ _ _ _ _ _ us hl => by obtain ⟨_, _, rfl⟩ := us2 hl; rfl
  have bTh := FTh.binds (ps := ["web", "kind"]) fun _ _ _ _ _ _ us hl => by obtain ⟨_, _, rfl⟩ := us2 hl; rfl
  have bAr := FAr.binds (ps := ["web", "looks"]) fun _ _ _ _ _ _ us hl => by obtain ⟨_, _, rfl⟩ := us2 hl; rfl
  have bRf := FRf.binds (ps := ["web", "looks"]) fun _ _ _ _ _ _ us hl => by obtain ⟨_, _, rfl⟩ := us2 hl; rfl
  have bTf := FTf.binds (ps := ["fars", "thing"]) fun _ _ _ _ _ _ us hl => by obtain ⟨_, _, rfl⟩ := us2 hl; rfl
  have bCo := FCo.binds (ps := ["web", "looks", "things"]) fun _ _ _ _ _ _ us hl => by obtain ⟨_, _, _, rfl⟩ := us3 hl; rfl
  have bCe := FCe.binds (ps := ["script", "many"]) fun _ _ _ _ _ _ us hl => by obtain ⟨_, _, rfl⟩ := us2 hl; rfl
  have bPo := FPo.binds (ps := ["cells", "k"]) fun _ _ _ _ _ _ us hl => by obtain ⟨_, _, rfl⟩ := us2 hl; rfl
  have bTa := FTa.binds (ps := ["pool", "many"]) fun _ _ _ _ _ _ us hl => by obtain ⟨_, _, rfl⟩ := us2 hl; rfl
  have bSo := FSo.binds (ps := ["pool", "menu", "many"]) fun _ _ _ _ _ _ us hl => by obtain ⟨_, _, _, rfl⟩ := us3 hl; rfl
  have bNa := FNa.binds (ps := ["pool", "many", "ties"]) fun _ _ _ _ _ _ us hl => by obtain ⟨_, _, _, rfl⟩ := us3 hl; rfl
  have bWe := FWe.binds (ps := ["pool", "most"]) fun _ _ _ _ _ _ us hl => by obtain ⟨_, _, rfl⟩ := us2 hl; rfl
  have bNr := FNr.binds (ps := ["web"]) fun _ _ _ _ _ _ us hl => by obtain ⟨_, rfl⟩ := us1 hl; rfl
  have bSt := FSt.binds (ps := ["near", "place"]) fun _ _ _ _ _ _ us hl => by obtain ⟨_, _, rfl⟩ := us2 hl; rfl
  have bLt := FLt.binds (ps := ["web", "kind"]) fun _ _ _ _ _ _ us hl => by obtain ⟨_, _, rfl⟩ := us2 hl; rfl
  have bLc := FLc.binds (ps := ["steps", "thing"]) fun _ _ _ _ _ _ us hl => by obtain ⟨_, _, rfl⟩ := us2 hl; rfl
  have bLd := FLd.binds (ps := ["web", "looks", "kind"]) fun _ _ _ _ _ _ us hl => by obtain ⟨_, _, _, rfl⟩ := us3 hl; rfl
  have bLo := FLo.binds (ps := ["pool", "many"]) fun _ _ _ _ _ _ us hl => by obtain ⟨_, _, rfl⟩ := us2 hl; rfl
  have bUn := FUn.binds (ps := ["code", "other"]) fun _ _ _ _ _ _ us hl => by obtain ⟨_, _, rfl⟩ := us2 hl; rfl
  have bSr := FSr.binds (ps := ["web", "looks", "kind"]) fun _ _ _ _ _ _ us hl => by obtain ⟨_, _, _, rfl⟩ := us3 hl; rfl
  have bMs := FMs.binds (ps := ["web", "kind"]) fun _ _ _ _ _ _ us hl => by obtain ⟨_, _, rfl⟩ := us2 hl; rfl
  have bLu := FLu.binds (ps := ["one", "other"]) fun _ _ _ _ _ _ us hl => by obtain ⟨_, _, rfl⟩ := us2 hl; rfl
  have bLe := FLe.binds (ps := ["codes"]) fun _ _ _ _ _ _ us hl => by obtain ⟨_, rfl⟩ := us1 hl; rfl
  have bWh := FWh.binds (ps := ["thing"]) fun _ _ _ _ _ _ us hl => by obtain ⟨_, rfl⟩ := us1 hl; rfl
  refine ⟨fnOf "law" "law" (defArgs sLaw) (defBody sLaw) (defScope sLaw) .none kVLa dcLa pmLa anLa cdLa ctLa, fun s v => .of_eq rfl, fun base _ _ => ?_⟩
  have HTa : Has l.prog w K mg base 1 "_law_take" ["pool", "many"] spTake := ⟨_, _, mg_of X G nTa, pTa, bTa, ok_take FTa⟩
  have HPo : Has l.prog w K mg base 1 "_law_pool" ["cells", "k"] (spPool K) := ⟨_, _, mg_of X G nPo, pPo, bPo, ok_pool FPo T⟩
  have HCe : Has l.prog w K mg base 1 "_law_cells" ["script", "many"] (spCells K) := ⟨_, _, mg_of X G nCe, pCe, bCe, ok_cells FCe T⟩
  have HSo : Has l.prog w K mg base 2 "_law_some" ["pool", "menu", "many"] (spSome K) := ⟨_, _, mg_of X G nSo, pSo, bSo, ok_some FSo T HTa⟩
  have HNa : Has l.prog w K mg base 3 "_law_named" ["pool", "many", "ties"] (spNamed K) := ⟨_, _, mg_of X G nNa, pNa, bNa, ok_named FNa T HSo⟩
  have HWe : Has l.prog w K mg base 4 "_law_web" ["pool", "most"] (spWeb K) := ⟨_, _, mg_of X G nWe, pWe, bWe, ok_web FWe T HTa HNa⟩
  have HNl : Has l.prog w K mg base 1 "neighbour_lists" ["web"] (spNbl K) := ⟨_, _, mg_of X G nNl, pNl, bNl, ok_nbl FNl T⟩
  have HFo : Has l.prog w K mg base 2 "fars_or_none" ["web", "place"] (spFon K) := ⟨_, _, mg_of X G nFo, pFo, bFo, ok_fon FFo T HNl⟩
  have HRn : Has l.prog w K mg base 1 "refuse_no_place" ["web", "place"] (spRnp K) := ⟨_, _, mg_of X G nRn, pRn, bRn, ok_rnp FRn⟩
  have HFf : Has l.prog w K mg base 3 "fars_from" ["web", "place"] (spFon K) := ⟨_, _, mg_of X G nFf, pFf, bFf, ok_ffr FFf HRn HFo⟩
  have HNe : Has l.prog w K mg base 1 "nearer_end" ["fars", "tie"] (spNre K) := ⟨_, _, mg_of X G nNe, pNe, bNe, ok_nre FNe T⟩
  have HTf : Has l.prog w K mg base 2 "thing_far" ["fars", "thing"] (spTfa K) := ⟨_, _, mg_of X G nTf, pTf, bTf, ok_tfa FTf T Z HNe⟩
  have HTh : Has l.prog w K mg base 1 "things_of" ["web", "kind"] (spThi K) := ⟨_, _, mg_of X G nTh, pTh, bTh, ok_thi FTh T⟩
  have HCo : Has l.prog w K mg base 4 "codes_of" ["web", "looks", "things"] (spCod K) := ⟨_, _, mg_of X G nCo, pCo, bCo, ok_cod FCo T HFf HTf⟩
  have HAr : Has l.prog w K mg base 1 "are_looks" ["web", "looks"] (spAre K) := ⟨_, _, mg_of X G nAr, pAr, bAr, ok_are FAr T⟩
  have HRf : Has l.prog w K mg base 2 "refuse_wrong_looks" ["web", "looks"] (spRefuse K) := ⟨_, _, mg_of X G nRf, pRf, bRf, ok_refuse FRf HAr⟩
  have HNr : Has l.prog w K mg base 1 "_law_near" ["web"] (spNear K) := ⟨_, _, mg_of X G nNr, pNr, bNr, ok_near FNr T⟩
  have HSt : Has l.prog w K mg base 1 "_law_steps" ["near", "place"] (spSteps K) := ⟨_, _, mg_of X G nSt, pSt, bSt, ok_steps FSt T⟩
  have HLt : Has l.prog w K mg base 1 "_law_things" ["web", "kind"] (spLThings K) := ⟨_, _, mg_of X G nLt, pLt, bLt, ok_lthings FLt T⟩
  have HLc : Has l.prog w K mg base 1 "_law_code" ["steps", "thing"] (spLCode K) := ⟨_, _, mg_of X G nLc, pLc, bLc, ok_lcode FLc T Z⟩
  have HLd : Has l.prog w K mg base 2 "_law_codes" ["web", "looks", "kind"] (spLCodes K) := ⟨_, _, mg_of X G nLd, pLd, bLd, ok_lcodes FLd T HNr HSt HLt HLc⟩
  have HLo : Has l.prog w K mg base 2 "_law_looks" ["pool", "many"] (spLooks K) := ⟨_, _, mg_of X G nLo, pLo, bLo, ok_looks FLo T HTa⟩
  have HUn : Has l.prog w K mg base 1 "unlike_count" ["code", "other"] (spUnl K) := ⟨_, _, mg_of X G nUn, pUn, bUn, ok_unl FUn T⟩
  have HSr : Has l.prog w K mg base 5 "strength_of" ["web", "looks", "kind"] (spStr K) := ⟨_, _, mg_of X G nSr, pSr, bSr, ok_str FSr T HRf HTh HCo HUn⟩
  have HMs : Has l.prog w K mg base 6 "most_strength" ["web", "kind"] (spMst K) := ⟨_, _, mg_of X G nMs, pMs, bMs, ok_mst FMs HTh HSr⟩
  have HLu : Has l.prog w K mg base 1 "_law_unlike" ["one", "other"] (spLU K) := ⟨_, _, mg_of X G nLu, pLu, bLu, ok_lu FLu T⟩
  have HLe : Has l.prog w K mg base 2 "_law_least" ["codes"] (spLeast K) := ⟨_, _, mg_of X G nLe, pLe, bLe, ok_least FLe T HLu⟩
  have HWh : Has l.prog w K mg base 1 "_law_whole" ["thing"] spWhole := ⟨_, _, mg_of X G nWh, pWh, bWh, ok_whole FWh T Z⟩
  exact ok_law FLa T HCe HPo HTa HWe HLo HLd HLe HSr HMs HWh
theorem walk {l : OpenLaw} {q : Program} {loose : List Str} {XP : (Str → Option Value) → Heap → Prop} {YP : World → Heap → Prop} {d : DefRec} {K : Params → Frag} (hn : l.most = some 63) (hdf : d.params.defaults = [])
    (hY : ∀ (w : World) (h : Heap), YP w h → (K w.params).In h)
    (F : ∀ (w : World) (mg : Str → Option Value) (fa : Addr) (h : Heap), (K w.params).In h → h.Ns mainGlobals mg → mg d.name = some (.ref fa) →
      ∃ fd : FuncData, (∀ (s : Shared) (u : Value), BindsTo s fd ⟨[u], []⟩ [("script", u)]) ∧ ∀ base : Heap, (K w.params).In base → base.Ns mainGlobals mg → FnOk l.prog w (K w.params) mg base CX0 7 fa fd ["script"] (spLaw (K w.params))) :
    WalkO q loose XP YP l.row.toRowW d [] (fun f vs => PySem.call f vs) :=
  L2.walk_of (n := 63) (k := 7) (x := "script") (CX := fun _ => CX0) (sp := fun w => spLaw (K w.params)) hn (by decide) hdf ⟨rfl, by decide, by decide⟩ hY F (fun _ _ a ns hl _ hS => ⟨a, ns, rfl, hS, hl, fun _ => rfl⟩) fun _ _ _ _ _ z => z
end K42
open PySem PySem.W PyProof.Rows
set_option maxRecDepth 100000 in
set_option maxHeartbeats 0 in
theorem PySem.Challenge.cw_farhail_k42_strengths_told_holds : PySem.Challenge.rw_farhail_k42_strengths_told.Holds := by
  w_on; o_law; k_head; (case hw => w_witness2)
  k_fill
  refine K42.walk (l := PySem.Challenge.rw_farhail_k42_strengths_told) rfl rfl (fun w h Y => PySem.W.kIn_of Y) ?F
  case F =>
    intro w mg fa h KX G hmg
    refine' K42.all_mk KX G hmg ?nNl ?lNl ?eNl ?pNl ?nFo ?lFo ?eFo ?pFo ?nRn ?lRn ?eRn ?pRn ?nFf ?lFf ?eFf ?pFf ?nNe ?lNe ?eNe ?pNe ?nTh ?lTh ?eTh ?pTh ?nAr ?lAr ?eAr ?pAr ?nRf ?lRf ?eRf ?pRf ?nTf ?lTf ?eTf ?pTf ?nCo ?lCo ?eCo ?pCo ?nCe ?lCe ?eCe ?pCe ?nPo ?lPo ?ePo ?pPo ?nTa ?lTa ?eTa ?pTa ?nSo ?lSo ?eSo ?pSo ?nNa ?lNa ?eNa ?pNa ?nWe ?lWe ?eWe ?pWe ?nNr ?lNr ?eNr ?pNr ?nSt ?lSt ?eSt ?pSt ?nLt ?lLt ?eLt ?pLt ?nLc ?lLc ?eLc ?pLc ?nLd ?lLd ?eLd ?pLd ?nLo ?lLo ?eLo ?pLo ?nUn ?lUn ?eUn ?pUn ?nSr ?lSr ?eSr ?pSr ?nMs ?lMs ?eMs ?pMs ?nLu ?lLu ?eLu ?pLu ?nLe ?lLe ?eLe ?pLe ?nWh ?lWh ?eWh ?pWh ?nLa ?lLa ?eLa ?pLa ?zl ?zm ?zM ?za ?zI ?zr ?zt ?zi ?zx ?zo ?ze ?zz ?zA ?zb ?kii ?kti ?kit ?ktt ?kib ?ktb ?kll ?kia ?kta
    (case nNl => first | k_is | kernel_rfl)
    (case lNl => first | k_is | kernel_rfl)
    (case eNl => first | k_is | kernel_rfl)
    (case pNl => first | k_is | kernel_rfl)
    (case nFo => first | k_is | kernel_rfl)
    (case lFo => first | k_is | kernel_rfl)
    (case eFo => first | k_is | kernel_rfl)
    (case pFo => first | k_is | kernel_rfl)
    (case nRn => first | k_is | kernel_rfl)
    (case lRn => first | k_is | kernel_rfl)
    (case eRn => first | k_is | kernel_rfl)
    (case pRn => first | k_is | kernel_rfl)
    (case nFf => first | k_is | kernel_rfl)
    (case lFf => first | k_is | kernel_rfl)
    (case eFf => first | k_is | kernel_rfl)
    (case pFf => first | k_is | kernel_rfl)
    (case nNe => first | k_is | kernel_rfl)
    (case lNe => first | k_is | kernel_rfl)
    (case eNe => first | k_is | kernel_rfl)
    (case pNe => first | k_is | kernel_rfl)
    (case nTh => first | k_is | kernel_rfl)
    (case lTh => first | k_is | kernel_rfl)
    (case eTh => first | k_is | kernel_rfl)
    (case pTh => first | k_is | kernel_rfl)
    (case nAr => first | k_is | kernel_rfl)
    (case lAr => first | k_is | kernel_rfl)
    (case eAr => first | k_is | kernel_rfl)
    (case pAr => first | k_is | kernel_rfl)
    (case nRf => first | k_is | kernel_rfl)
    (case lRf => first | k_is | kernel_rfl)
    (case eRf => first | k_is | kernel_rfl)
    (case pRf => first | k_is | kernel_rfl)
    (case nTf => first | k_is | kernel_rfl)
    (case lTf => first | k_is | kernel_rfl)
    (case eTf => first | k_is | kernel_rfl)
    (case pTf => first | k_is | kernel_rfl)
    (case nCo => first | k_is | kernel_rfl)
    (case lCo => first | k_is | kernel_rfl)
    (case eCo => first | k_is | kernel_rfl)
    (case pCo => first | k_is | kernel_rfl)
    (case nCe => first | k_is | kernel_rfl)
    (case lCe => first | k_is | kernel_rfl)
    (case eCe => first | k_is | kernel_rfl)
    (case pCe => first | k_is | kernel_rfl)
    (case nPo => first | k_is | kernel_rfl)
    (case lPo => first | k_is | kernel_rfl)
    (case ePo => first | k_is | kernel_rfl)
    (case pPo => first | k_is | kernel_rfl)
    (case nTa => first | k_is | kernel_rfl)
    (case lTa => first | k_is | kernel_rfl)
    (case eTa => first | k_is | kernel_rfl)
    (case pTa => first | k_is | kernel_rfl)
    (case nSo => first | k_is | kernel_rfl)
    (case lSo => first | k_is | kernel_rfl)
    (case eSo => first | k_is | kernel_rfl)
    (case pSo => first | k_is | kernel_rfl)
    (case nNa => first | k_is | kernel_rfl)
    (case lNa => first | k_is | kernel_rfl)
    (case eNa => first | k_is | kernel_rfl)
    (case pNa => first | k_is | kernel_rfl)
    (case nWe => first | k_is | kernel_rfl)
    (case lWe => first | k_is | kernel_rfl)
    (case eWe => first | k_is | kernel_rfl)
    (case pWe => first | k_is | kernel_rfl)
    (case nNr => first | k_is | kernel_rfl)
    (case lNr => first | k_is | kernel_rfl)
    (case eNr => first | k_is | kernel_rfl)
    (case pNr => first | k_is | kernel_rfl)
    (case nSt => first | k_is | kernel_rfl)
    (case lSt => first | k_is | kernel_rfl)
    (case eSt => first | k_is | kernel_rfl)
    (case pSt => first | k_is | kernel_rfl)
    (case nLt => first | k_is | kernel_rfl)
    (case lLt => first | k_is | kernel_rfl)
    (case eLt => first | k_is | kernel_rfl)
    (case pLt => first | k_is | kernel_rfl)
    (case nLc => first | k_is | kernel_rfl)
    (case lLc => first | k_is | kernel_rfl)
    (case eLc => first | k_is | kernel_rfl)
    (case pLc => first | k_is | kernel_rfl)
    (case nLd => first | k_is | kernel_rfl)
    (case lLd => first | k_is | kernel_rfl)
    (case eLd => first | k_is | kernel_rfl)
    (case pLd => first | k_is | kernel_rfl)
    (case nLo => first | k_is | kernel_rfl)
    (case lLo => first | k_is | kernel_rfl)
    (case eLo => first | k_is | kernel_rfl)
    (case pLo => first | k_is | kernel_rfl)
    (case nUn => first | k_is | kernel_rfl)
    (case lUn => first | k_is | kernel_rfl)
    (case eUn => first | k_is | kernel_rfl)
    (case pUn => first | k_is | kernel_rfl)
    (case nSr => first | k_is | kernel_rfl)
    (case lSr => first | k_is | kernel_rfl)
    (case eSr => first | k_is | kernel_rfl)
    (case pSr => first | k_is | kernel_rfl)
    (case nMs => first | k_is | kernel_rfl)
    (case lMs => first | k_is | kernel_rfl)
    (case eMs => first | k_is | kernel_rfl)
    (case pMs => first | k_is | kernel_rfl)
    (case nLu => first | k_is | kernel_rfl)
    (case lLu => first | k_is | kernel_rfl)
    (case eLu => first | k_is | kernel_rfl)
    (case pLu => first | k_is | kernel_rfl)
    (case nLe => first | k_is | kernel_rfl)
    (case lLe => first | k_is | kernel_rfl)
    (case eLe => first | k_is | kernel_rfl)
    (case pLe => first | k_is | kernel_rfl)
    (case nWh => first | k_is | kernel_rfl)
    (case lWh => first | k_is | kernel_rfl)
    (case eWh => first | k_is | kernel_rfl)
    (case pWh => first | k_is | kernel_rfl)
    (case nLa => first | k_is | kernel_rfl)
    (case lLa => first | k_is | kernel_rfl)
    (case eLa => first | k_is | kernel_rfl)
    (case pLa => first | k_is | kernel_rfl)
    (case zl => first | k_is | kernel_rfl)
    (case zm => first | k_is | kernel_rfl)
    (case zM => first | k_is | kernel_rfl)
    (case za => first | k_is | kernel_rfl)
    (case zI => first | k_is | kernel_rfl)
    (case zr => first | k_is | kernel_rfl)
    (case zt => first | k_is | kernel_rfl)
    (case zi => first | k_is | kernel_rfl)
    (case zx => first | k_is | kernel_rfl)
    (case zo => first | k_is | kernel_rfl)
    (case ze => first | k_is | kernel_rfl)
    (case zz => first | k_is | kernel_rfl)
    (case zA => first | k_is | kernel_rfl)
    (case zb => first | k_is | kernel_rfl)
    (case kii => first | kernel_rfl | k_is)
    (case kti => first | kernel_rfl | k_is)
    (case kit => first | kernel_rfl | k_is)
    (case ktt => first | kernel_rfl | k_is)
    (case kib => first | kernel_rfl | k_is)
    (case ktb => first | kernel_rfl | k_is)
    (case kll => first | kernel_rfl | k_is)
    (case kia => first | kernel_rfl | k_is)
    (case kta => first | kernel_rfl | k_is)

