import PyProof.Rows.All
import Wide.All
import OpenK.AllK
import Wide.FinOn
import Lean
import PyProof.EqAt
import PyProof.EqKinds
import PyProof.TupleCall
import PyProof.WalksEnum
import PyProof.EnumMake
import PyProof.NeKinds
import PySem.Challenge.RW_leastforge_k07_parts_and_variables
set_option Elab.async false
set_option linter.all false
set_option maxRecDepth 100000
/-! THE HAND LAYER, for ints, bools, texts, own classes, DICTS (int and text keys), calls, loops. Paste it whole ahead of your own text; what your proof does not reach may be deleted. -/
namespace L2
open PySem PySem.Spec PyProof.Rows

/-- a key: an int or a str -/
abbrev Key := Sum Int Str
def keyIs : Key → Value → Bool
  | .inl k, v => Value.isInt k v
  | .inr x, v => Value.isStrOf x v
def keyH (w : World) : Key → Int
  | .inl k => hashInt k
  | .inr x => hashStr w x
theorem keyIs_shape : ∀ {k : Key} {v : Value}, keyIs k v = true → (∃ i t, k = Sum.inl i ∧ v = Value.int i t) ∨ (∃ x t, k = Sum.inr x ∧ v = Value.str x t)
  | .inl i, v, h => by
    obtain ⟨t, e⟩ := Value.isInt_shape (k := i) (v := v) h
    exact .inl ⟨i, t, rfl, e⟩
  | .inr x, v, h => by
    obtain ⟨t, e⟩ := Value.isStrOf_shape (x := x) (v := v) h
    exact .inr ⟨x, t, rfl, e⟩
theorem keyIs_int (i : Int) (t : Tok) : keyIs (.inl i) (.int i t) = true := by simp [keyIs, Value.isInt]
theorem keyIs_str (x : Str) (t : Tok) : keyIs (.inr x) (.str x t) = true := by simp [keyIs, Value.isStrOf]
theorem key_ll (a b : Int) : decide ((Sum.inl a : Key) = Sum.inl b) = (a == b) := by
  by_cases e : a = b
  · subst e; simp
  · have h : ¬ (Sum.inl a : Key) = Sum.inl b := fun q => e (Sum.inl.inj q)
    rw [decide_eq_false h]
    exact (beq_eq_false_iff_ne.mpr e).symm
theorem key_rr (a b : Str) : decide ((Sum.inr a : Key) = Sum.inr b) = decide (a = b) := by
  by_cases e : a = b
  · subst e; simp
  · have h : ¬ (Sum.inr a : Key) = Sum.inr b := fun q => e (Sum.inr.inj q)
    rw [decide_eq_false h, decide_eq_false e]
theorem key_lr (a : Int) (b : Str) : decide ((Sum.inl a : Key) = Sum.inr b) = false := decide_eq_false (fun q => nomatch q)
theorem key_rl (a : Str) (b : Int) : decide ((Sum.inr a : Key) = Sum.inl b) = false := decide_eq_false (fun q => nomatch q)

def mixKind (prog : Program) (w : World) : PySem.KeyKind prog w Key where
  is := keyIs
  hash := keyH w
  inj := fun v a b ha hb => by
    rcases keyIs_shape ha with ⟨i, t, rfl, rfl⟩ | ⟨x, t, rfl, rfl⟩
    · rcases keyIs_shape hb with ⟨j, u, rfl, e⟩ | ⟨y, u, rfl, e⟩
      · injection e with e1 _; rw [e1]
      · exact nomatch e
    · rcases keyIs_shape hb with ⟨j, u, rfl, e⟩ | ⟨y, u, rfl, e⟩
      · exact nomatch e
      · injection e with e1 _; rw [e1]
  byValue := fun k v h => by
    rcases keyIs_shape h with ⟨i, t, rfl, rfl⟩ | ⟨x, t, rfl, rfl⟩ <;> rfl
  pyHash := fun hv h => by
    rcases keyIs_shape hv with ⟨i, t, rfl, rfl⟩ | ⟨x, t, rfl, rfl⟩
    · exact wpAny_pyHash_int h
    · exact wpAny_pyHash_str h
  eqBool := fun hu hv h => by
    rcases keyIs_shape hu with ⟨i, t, rfl, rfl⟩ | ⟨x, t, rfl, rfl⟩
    · rcases keyIs_shape hv with ⟨j, u, rfl, rfl⟩ | ⟨y, u, rfl, rfl⟩
      · rw [key_ll] at h; exact wpAny_eqBool_int h
      · rw [key_lr] at h; exact SeqAt.EqAt.int_str i t y u _ _ _ _ h
    · rcases keyIs_shape hv with ⟨j, u, rfl, rfl⟩ | ⟨y, u, rfl, rfl⟩
      · rw [key_rl] at h; exact SeqAt.EqAt.str_int x t j u _ _ _ _ h
      · rw [key_rr] at h; exact wpAny_eqBool_str h
  «strs» := fun k x t v h => by
    rcases keyIs_shape h with ⟨i, u, rfl, e⟩ | ⟨y, u, rfl, e⟩
    · exact nomatch e
    · injection e with e1 _
      subst e1
      cases v <;> rfl

theorem mixKind_is (prog : Program) (w : World) (k : Key) (v : Value) : (mixKind prog w).is k v = keyIs k v := rfl
theorem mixKind_int (prog : Program) (w : World) (i : Int) (t : Tok) : (mixKind prog w).is (.inl i) (.int i t) = true := keyIs_int i t
theorem mixKind_str (prog : Program) (w : World) (x : Str) (t : Tok) : (mixKind prog w).is (.inr x) (.str x t) = true := keyIs_str x t
end L2

namespace L2
open PySem PySem.Spec PyProof.Rows

/-- a value, without the heap -/
inductive V where
  | non | bl (b : Bool) | int (i : Int) | str (x : Str) | byt (b : Array UInt8) | flt (b : UInt64) | ref (a : Addr) | ty (n : String)
  deriving DecidableEq

def RelV : V → Value → Prop
  | .non, u => u = Value.none
  | .bl b, u => u = Value.bool b
  | .int i, u => ∃ t, u = Value.int i t
  | .str x, u => ∃ t, u = Value.str x t
  | .byt b, u => ∃ t, u = Value.bytes b t
  | .flt b, u => ∃ t, u = Value.float b t
  | .ref a, u => u = Value.ref a
  | .ty n, u => u = Value.type n

abbrev Vals : List V → List Value → Prop := Paired RelV
theorem Vals.length {xs : List V} {us : List Value} (r : Vals xs us) : xs.length = us.length := Paired.length r
theorem Vals.get : ∀ {xs : List V} {us : List Value} {i : Nat} {x : V}, Vals xs us → xs[i]? = some x → ∃ u, us[i]? = some u ∧ RelV x u
  | _, _, _, _, .nil, e => by simp at e
  | _, _, 0, _, .cons r _, e => by simp at e; subst e; exact ⟨_, rfl, r⟩
  | _, _, i + 1, x, .cons _ t, e => by
    obtain ⟨u, h1, h2⟩ := Vals.get (i := i) (x := x) t (by simpa using e)
    exact ⟨u, by simpa using h1, h2⟩
theorem Vals.set {x : V} {u : Value} (r : RelV x u) : ∀ {xs : List V} {us : List Value} (i : Nat), Vals xs us → Vals (xs.set i x) (us.set i u)
  | _, _, _, .nil => .nil
  | _, _, 0, .cons _ t => .cons r t
  | _, _, i + 1, .cons q t => .cons q (Vals.set r i t)
theorem Vals.append : ∀ {xs ys : List V} {us ws : List Value}, Vals xs us → Vals ys ws → Vals (xs ++ ys) (us ++ ws)
  | _, _, _, _, .nil, s => s
  | _, _, _, _, .cons r t, s => .cons r (Vals.append t s)
theorem Vals.take : ∀ {xs : List V} {us : List Value} (n : Nat), Vals xs us → Vals (xs.take n) (us.take n)
  | _, _, 0, _ => .nil
  | _, _, _ + 1, .nil => .nil
  | _, _, n + 1, .cons r t => .cons r (Vals.take n t)
theorem Vals.drop : ∀ {xs : List V} {us : List Value} (n : Nat), Vals xs us → Vals (xs.drop n) (us.drop n)
  | _, _, 0, r => r
  | _, _, _ + 1, .nil => .nil
  | _, _, n + 1, .cons _ t => Vals.drop n t
def RelO : Option V → Option Value → Prop
  | some v, some u => RelV v u
  | none, none => True
  | _, _ => False
def KV {κ : Type} : List (κ × V) → List (κ × Value) → Prop := Paired fun (p : κ × V) (q : κ × Value) => p.1 = q.1 ∧ RelV p.2 q.2

/-- a key of a dict (00_mix): an int or a text -/
def kV : Key → V
  | .inl i => .int i
  | .inr x => .str x

/-- what stands at a tracked address -/
inductive HO where
  /-- a list -/
  | lst (xs : List V)
  /-- a tuple (never changes) -/
  | tup (xs : List V)
  /-- a dict whose keys are ints and texts; one whose keys are tuples of ints and texts (the empty one is both) -/
  | dK (kvs : List (Key × V)) | dT (kvs : List (List Key × V))
  /-- a set of ints: its members, its size -/
  | set (S : Int → Bool) (n : Nat)
  /-- an instance of the class at C, its dict at dx, its attributes -/
  | ins (C dx : Addr) (fs : List (Str × V))
  /-- the dict of the instance at x -/
  | own (x : Addr)
  /-- the dict of an exception -/
  | xd (fs : List (Str × V))
  /-- a bound method, f of x -/
  | met (f x : Addr)
  /-- a range object lo, lo + 1, .. below hi -/
  | rng (lo hi : Int)
  /-- a thing that is known to the object (the script; a dict while a loop walks it): read, never written while it is so -/
  | frz (o : Obj) (u : HO)
  /-- a code object's table -/
  | tbl (ps : Array Value)
  /-- any other thing, by what is true of its one object (a def of one's own: SetO a S n := HO.ext fun h => ..) -/
  | ext (φ : Heap → Prop)

abbrev Hp := Addr → Option HO
def upd (H : Hp) (a : Addr) (o : HO) : Hp := fun b => if b = a then some o else H b
theorem upd_same {H : Hp} {a : Addr} {o : HO} : upd H a o a = some o := by unfold upd; rw [if_pos rfl]
theorem upd_ne {H : Hp} {a b : Addr} {o : HO} (h : b ≠ a) : upd H a o b = H b := by unfold upd; rw [if_neg h]
/-- two objects of different content stand apart -/
theorem ne_of {H : Hp} {a b : Addr} {o u : HO} (h : H a = some o) (h' : H b = some u) (d : o ≠ u) : a ≠ b := by
  intro e; subst e; rw [h] at h'; exact d (Option.some.inj h')
theorem ne_of_none {H : Hp} {a b : Addr} {o : HO} (h : H a = some o) (h' : H b = none) : a ≠ b := by
  intro e; subst e; rw [h] at h'; cases h'

section
variable (P : Program) (w : World)
def ObjOk (H : Hp) (h : Heap) (a : Addr) : HO → Prop
  | .lst xs => xs.length ≤ sizeLine ∧ ∃ (its : List Value) (n : Nat), Vals xs its ∧ h.get? a = some { cls := .type "list", data := .seq its.toArray n }
  | .tup xs => xs.length ≤ sizeLine ∧ ∃ its : List Value, Vals xs its ∧ IsTup h a its.toArray
  | .dK kvs => kvs.length ≤ sizeLine ∧ (a == sysModules) = false ∧ ∃ vs, KV kvs vs ∧ h.DictOf (mixKind P w) a vs
  | .dT kvs => kvs.length ≤ sizeLine ∧ (a == sysModules) = false ∧ ∃ xs : List (List Key × Addr × Value),
      Paired (fun (p : List Key × V) (q : List Key × Addr × Value) => p.1 = q.1 ∧ H q.2.1 = some (.tup (p.1.map kV)) ∧ RelV p.2 q.2.2) kvs xs ∧
      ∃ o es ep, h.get? a = some o ∧ o.ExactDict ∧ o.data = .dict es ep ∧ es.toList = xs.map (entryOfKey (tupleKind (mixKind P w))) ∧ (xs.map (·.1)).Nodup
  | .set S n => h.SetOf (intKind P w) a S n
  | .ins C dx fs => H dx = some (.own a) ∧ fs.length ≤ 1000 ∧ dx ≠ a ∧ h.get? a = some (PySem.W.instObj C dx) ∧
      ∃ mA, h.Ns1 dx mA ∧ (∀ f, RelO (fs.lookup f) (mA f)) ∧ PySem.Within mA (fs.map (·.1))
  | .own _ => ∃ o, h.get? a = some o
  | .xd fs => ∃ mA, h.Ns1 a mA ∧ ∀ f, RelO (fs.lookup f) (mA f)
  | .rng lo hi => ∃ t u v, h.get? a = some { cls := .type "range", data := .fields #[.int lo t, .int hi u, .int 1 v] }
  | .frz o u => h.get? a = some o ∧ ObjOk H h a u
  | .tbl ps => h.get? a = some { cls := .none, data := .fields ps }
  | .met f x => h.get? a = some (PySem.W.methodObj (.ref f) (.ref x))
  | .ext φ => φ h ∧ (∃ o, h.get? a = some o) ∧ ∀ h1 h2 : Heap, φ h1 → (∀ o, h1.get? a = some o → h2.get? a = some o) → φ h2
/-- the abstract heap is held -/
def HOk (H : Hp) (h : Heap) : Prop := ∀ a o, H a = some o → ObjOk P w H h a o
end

section
variable {P : Program} {w : World} {H H' : Hp} {h h' : Heap} {a : Addr} {o : HO}
theorem ObjOk.lt (x : ObjOk P w H h a o) : a < h.objs.size := by
  cases o with
  | lst xs => obtain ⟨_, _, _, _, e⟩ := x; exact Heap.lt_size e
  | tup xs => obtain ⟨_, _, _, p⟩ := x; exact p.lt
  | dK kvs => obtain ⟨_, _, _, _, o, _, _, e, _⟩ := x; exact Heap.lt_size e
  | dT kvs => obtain ⟨_, _, _, _, o, _, _, e, _⟩ := x; exact Heap.lt_size e
  | set S n => obtain ⟨o, _, _, _, e, _⟩ := x; exact Heap.lt_size e
  | ins C dx fs => obtain ⟨_, _, _, e, _⟩ := x; exact Heap.lt_size e
  | own y => obtain ⟨_, e⟩ := x; exact Heap.lt_size e
  | xd fs => obtain ⟨_, ⟨_, _, _, e, _⟩, _⟩ := x; exact Heap.lt_size e
  | rng lo hi => obtain ⟨_, _, _, e⟩ := x; exact Heap.lt_size e
  | frz ob u => obtain ⟨e, _⟩ := x; exact Heap.lt_size e
  | tbl ps => exact Heap.lt_size (show h.get? a = some _ from x)
  | met f y => exact Heap.lt_size (show h.get? a = some _ from x)
  | ext φ => obtain ⟨_, ⟨_, e⟩, _⟩ := x; exact Heap.lt_size e
theorem Paired.mapP {α β : Type} {F G : α → β → Prop} : ∀ {l₁ : List α} {l₂ : List β}, Paired F l₁ l₂ → (∀ a b, F a b → G a b) → Paired G l₁ l₂
  | _, _, .nil, _ => .nil
  | _, _, .cons r t, f => .cons (f _ _ r) (Paired.mapP t f)
/-- what an object's description leans on: its own object, its own dict, the tuples -/
theorem ObjOk.stay (x : ObjOk P w H h a o) (k : ∀ b u, (b = a ∨ H b = some (.own a)) → h.get? b = some u → h'.get? b = some u)
    (ho : ∀ b, H b = some (.own a) → H' b = some (.own a)) (ht : ∀ b xs, H b = some (.tup xs) → H' b = some (.tup xs)) : ObjOk P w H' h' a o := by
  induction o with
  | lst xs => obtain ⟨z, its, n, r, e⟩ := x; exact ⟨z, its, n, r, k _ _ (.inl rfl) e⟩
  | tup xs => obtain ⟨z, its, r, ob, e, c⟩ := x; exact ⟨z, its, r, ob, k _ _ (.inl rfl) e, c⟩
  | dK kvs => obtain ⟨z, y, vs, r, ob, es, ep, e, c⟩ := x; exact ⟨z, y, vs, r, ob, es, ep, k _ _ (.inl rfl) e, c⟩
  | dT kvs =>
    obtain ⟨z, y, xs, r, ob, es, ep, e, c⟩ := x
    exact ⟨z, y, xs, Paired.mapP r fun p q z => ⟨z.1, ht _ _ z.2.1, z.2.2⟩, ob, es, ep, k _ _ (.inl rfl) e, c⟩
  | set S n => obtain ⟨ob, es, ep, t, e, c⟩ := x; exact ⟨ob, es, ep, t, k _ _ (.inl rfl) e, c⟩
  | ins C dx fs =>
    obtain ⟨d, z, ne, e, mA, ⟨od, es, ep, e2, c⟩, r⟩ := x
    exact ⟨ho _ d, z, ne, k _ _ (.inl rfl) e, mA, ⟨od, es, ep, k _ _ (.inr d) e2, c⟩, r⟩
  | own y => obtain ⟨ob, e⟩ := x; exact ⟨ob, k _ _ (.inl rfl) e⟩
  | xd fs => obtain ⟨mA, ⟨od, es, ep, e, c⟩, r⟩ := x; exact ⟨mA, ⟨od, es, ep, k _ _ (.inl rfl) e, c⟩, r⟩
  | rng lo hi => obtain ⟨t, u, v, e⟩ := x; exact ⟨t, u, v, k _ _ (.inl rfl) e⟩
  | frz ob u ih => obtain ⟨e, q⟩ := x; exact ⟨k _ _ (.inl rfl) e, ih q⟩
  | tbl ps =>
    have e : h.get? a = some { cls := .none, data := .fields ps } := x
    show h'.get? a = some { cls := .none, data := .fields ps }
    exact k a _ (.inl rfl) e
  | met f y =>
    have e : h.get? a = some (PySem.W.methodObj (.ref f) (.ref y)) := x
    show h'.get? a = some (PySem.W.methodObj (.ref f) (.ref y))
    exact k a _ (.inl rfl) e
  | ext φ => obtain ⟨p, ⟨o, e⟩, st⟩ := x; exact ⟨st _ _ p fun o q => k _ _ (.inl rfl) q, ⟨o, k _ _ (.inl rfl) e⟩, st⟩
theorem HOk.lt (x : HOk P w H h) (e : H a = some o) : a < h.objs.size := (x a o e).lt
theorem HOk.fresh (x : HOk P w H h) (e : h.objs.size ≤ a) : H a = none := by
  cases q : H a with
  | none => rfl
  | some u => exact absurd (Nat.lt_of_lt_of_le (x.lt q) e) (Nat.lt_irrefl _)
/-- every object of the heap is kept -/
theorem HOk.kept (x : HOk P w H h) (k : ∀ b u, h.get? b = some u → h'.get? b = some u) : HOk P w H h' := fun a o e =>
  (x a o e).stay (fun b u _ q => k b u q) (fun _ q => q) fun _ _ q => q
/-- a new object is laid and tracked -/
theorem HOk.laid (x : HOk P w H h) (k : ∀ b u, h.get? b = some u → h'.get? b = some u) (hp : h.objs.size ≤ a) (new : ObjOk P w (upd H a o) h' a o) : HOk P w (upd H a o) h' := fun b u e => by
  have hn := x.fresh hp
  by_cases hb : b = a
  · subst hb; rw [upd_same] at e; cases e; exact new
  · rw [upd_ne hb] at e
    exact (x b u e).stay (fun c v _ q => k c v q) (fun c q => by rw [upd_ne (ne_of_none q hn)]; exact q) fun c xs q => by rw [upd_ne (ne_of_none q hn)]; exact q
end

/-- what may be read as u: it is u, or a known u -/
def Rd (H : Hp) (a : Addr) (u : HO) : Prop := H a = some u ∨ ∃ o, H a = some (.frz o u)
theorem Rd.of {H : Hp} {a : Addr} {u : HO} (h : H a = some u) : Rd H a u := .inl h
theorem Rd.ok {P : Program} {w : World} {H : Hp} {h : Heap} {a : Addr} {u : HO} (r : Rd H a u) (x : HOk P w H h) : ObjOk P w H h a u := by
  rcases r with r | ⟨o, r⟩
  · exact x a u r
  · obtain ⟨_, q⟩ := x a _ r
    exact q
/-- what may be written -/
def Mut : Option HO → Prop
  | some (.lst _) => True
  | some (.dK _) => True
  | some (.dT _) => True
  | some (.set _ _) => True
  | some (.ins _ _ _) => True
  | some (.ext _) => True
  | _ => False
section
variable {P : Program} {w : World} {H : Hp} {h h' : Heap} {x e : Addr} {o' : HO}
/-- the object at e is changed: x itself, or the dict of the instance x -/
theorem HOk.write (ok : HOk P w H h) (mu : Mut (H x)) (he : e = x ∨ H e = some (.own x)) (k : ∀ b u, b ≠ e → h.get? b = some u → h'.get? b = some u) (heo : ∃ u, h'.get? e = some u)
    (new : ObjOk P w (upd H x o') h' x o') : HOk P w (upd H x o') h' := fun b u q => by
  have nown : ∀ c y, H c = some (.own y) → c ≠ x := fun c y r z => by subst z; rw [r] at mu; exact mu
  have ntup : ∀ c xs, H c = some (.tup xs) → c ≠ x := fun c xs r z => by subst z; rw [r] at mu; exact mu
  by_cases hb : b = x
  · subst hb; rw [upd_same] at q; cases q; exact new
  · rw [upd_ne hb] at q
    by_cases hbe : b = e
    · have q' : H b = some (.own x) := by
        rcases he with z | z
        · exact absurd (hbe.trans z) hb
        · rw [hbe]; exact z
      rw [q] at q'; cases q'
      obtain ⟨v, hv⟩ := heo
      exact ⟨v, by rw [hbe]; exact hv⟩
    · refine (ok b u q).stay (fun c v hc r => k c v ?_ r) (fun c r => by rw [upd_ne (nown c b r)]; exact r) fun c xs r => by rw [upd_ne (ntup c xs r)]; exact r
      rcases hc with rfl | hc
      · exact hbe
      · rintro rfl
        rcases he with z | z
        · exact nown c b hc z
        · rw [hc] at z; cases z; exact hb rfl
end

/-! ### kept unless tracked; of the frames at fs (the callers') the slots may change (an exception that passes writes there); of the records at ex (iterators) nothing is said -/
structure Un (fs ex : List Addr) (H H' : Hp) (h h' : Heap) : Prop where
  keep : ∀ b o, h.get? b = some o → H b = none → b ∉ fs → b ∉ ex → h'.get? b = some o
  slot : ∀ b o, h.get? b = some o → H b = none → b ∈ fs → b ∉ ex → ∃ sl, h'.get? b = some { o with slots := sl }
  free : ∀ b o, h.get? b = some o → H b = none → b ∉ ex → H' b = none
  there : ∀ b o, h.get? b = some o → b ∉ ex → ∃ o', h'.get? b = some o'
  tups : ∀ b xs, H b = some (.tup xs) → H' b = some (.tup xs)
  frzs : ∀ b o u, H b = some (.frz o u) → H' b = some (.frz o u)
  tbls : ∀ b ps, H b = some (.tbl ps) → ∃ more, H' b = some (.tbl (ps ++ more))
section
variable {fs fs' ex ex' : List Addr} {H H1 H2 : Hp} {h h1 h2 h' : Heap} {a x e : Addr} {o : HO}
theorem Un.any (u : Un fs ex H H1 h h1) {b : Addr} {ob : Obj} (q : h.get? b = some ob) (n : H b = none) (hx : b ∉ ex) : ∃ sl, h1.get? b = some { ob with slots := sl } := by
  by_cases hb : b ∈ fs
  · exact u.slot b ob q n hb hx
  · exact ⟨ob.slots, u.keep b ob q n hb hx⟩
theorem Un.trans (a : Un fs ex H H1 h h1) (b : Un fs ex H1 H2 h1 h2) : Un fs ex H H2 h h2 where
  keep := fun c ob q n hc hx => b.keep c ob (a.keep c ob q n hc hx) (a.free c ob q n hx) hc hx
  slot := fun c ob q n hc hx => by
    obtain ⟨sl, e1⟩ := a.slot c ob q n hc hx
    obtain ⟨sl', e2⟩ := b.slot c _ e1 (a.free c ob q n hx) hc hx
    exact ⟨sl', e2⟩
  free := fun c ob q n hx => by
    obtain ⟨o', e1⟩ := a.there c ob q hx
    exact b.free c o' e1 (a.free c ob q n hx) hx
  there := fun c ob q hx => by
    obtain ⟨o', e1⟩ := a.there c ob q hx
    exact b.there c o' e1 hx
  tups := fun c xs q => b.tups c xs (a.tups c xs q)
  frzs := fun c ob xs q => b.frzs c ob xs (a.frzs c ob xs q)
  tbls := fun c ps q => by
    obtain ⟨m1, e1⟩ := a.tbls c ps q
    obtain ⟨m2, e2⟩ := b.tbls c _ e1
    exact ⟨m1 ++ m2, by rw [e2, Array.append_assoc]⟩
theorem Un.kept (k : ∀ b u, h.get? b = some u → h'.get? b = some u) : Un fs ex H H h h' :=
  ⟨fun b ob q _ _ _ => k b ob q, fun b ob q _ _ _ => ⟨ob.slots, k b ob q⟩, fun _ _ _ n _ => n, fun b ob q _ => ⟨ob, k b ob q⟩, fun _ _ q => q, fun _ _ _ q => q, fun _ ps q => ⟨#[], by rw [q]; simp⟩⟩
theorem Un.refl : Un fs ex H H h h := Un.kept fun _ _ q => q
theorem Un.laid (k : ∀ b u, h.get? b = some u → h'.get? b = some u) (hp : h.objs.size ≤ a) (hn : H a = none) : Un fs ex H (upd H a o) h h' where
  keep := fun b u q _ _ _ => k b u q
  slot := fun b u q _ _ _ => ⟨u.slots, k b u q⟩
  free := fun b u q n _ => by rw [upd_ne (Nat.ne_of_lt (Nat.lt_of_lt_of_le (Heap.lt_size q) hp))]; exact n
  there := fun b u q _ => ⟨u, k b u q⟩
  tups := fun b xs q => by rw [upd_ne (ne_of_none q hn)]; exact q
  frzs := fun b u xs q => by rw [upd_ne (ne_of_none q hn)]; exact q
  tbls := fun b ps q => ⟨#[], by rw [upd_ne (ne_of_none q hn), q]; simp⟩
theorem Un.write (mu : Mut (H x)) (he : e = x ∨ H e = some (.own x)) (k : ∀ b u, b ≠ e → h.get? b = some u → h'.get? b = some u) (heo : ∃ u, h'.get? e = some u) : Un fs ex H (upd H x o) h h' := by
  have hx : ∀ b, H b = none → b ≠ x := fun b n z => by subst z; rw [n] at mu; exact mu
  have hb : ∀ b, H b = none → b ≠ e := fun b n z => by
    subst z
    rcases he with r | r
    · exact hx b n r
    · rw [n] at r; cases r
  have hm : ∀ b u, H b = some u → ¬ Mut (some u) → b ≠ x := fun b u q nm z => by subst z; rw [q] at mu; exact nm mu
  refine ⟨fun b u q n _ _ => k b u (hb b n) q, fun b u q n _ _ => ⟨u.slots, k b u (hb b n) q⟩, fun b u q n _ => by rw [upd_ne (hx b n)]; exact n, fun b u q _ => ?_,
    fun b xs q => by rw [upd_ne (hm b _ q fun z => z)]; exact q, fun b u xs q => by rw [upd_ne (hm b _ q fun z => z)]; exact q, fun b ps q => ⟨#[], by rw [upd_ne (hm b _ q fun z => z), q]; simp⟩⟩
  by_cases hbe : b = e
  · subst hbe; exact heo
  · exact ⟨u, k b u hbe q⟩
theorem Un.mono (u : Un fs ex H H1 h h1) (hs : ∀ b ∈ fs, b ∈ fs') (hx : ∀ b ∈ ex, b ∈ ex') : Un fs' ex' H H1 h h1 :=
  ⟨fun b ob q n hb he => u.keep b ob q n (fun z => hb (hs b z)) fun z => he (hx b z), fun _ _ q n _ he => u.any q n fun z => he (hx _ z), fun b ob q n he => u.free b ob q n fun z => he (hx b z), fun b ob q he => u.there b ob q fun z => he (hx b z), u.tups, u.frzs, u.tbls⟩
end

/-! ### the heap without what is tracked -/
def trk (h : Heap) (H : Hp) : List Addr := (List.range h.objs.size).filter fun a => (H a).isSome
def hidT (h : Heap) (H : Hp) : Heap := PySem.W.hideAll h (trk h H)
theorem hidT_size (h : Heap) (H : Hp) : (hidT h H).objs.size = h.objs.size := PySem.W.hideAll_size _ _
theorem hidT_get {h : Heap} {H : Hp} {b : Addr} {o : Obj} (e : h.get? b = some o) (n : H b = none) : (hidT h H).get? b = some o :=
  PySem.W.hideAll_get _ e fun hm => by
    have q : (H b).isSome = true := (List.mem_filter.mp hm).2
    rw [n] at q; simp at q
theorem of_hidT {h : Heap} {H : Hp} {b : Addr} {o : Obj} (e : (hidT h H).get? b = some o) : h.get? b = some o ∧ H b = none := by
  have e' : h.get? b = some o := PySem.W.of_hideAll (trk h H) e
  refine ⟨e', ?_⟩
  cases q : H b with
  | none => rfl
  | some x =>
    have hm : b ∈ trk h H := List.mem_filter.mpr ⟨List.mem_range.mpr (Heap.lt_size e'), by simp [q]⟩
    have z : (hidT h H).get? b = none := PySem.W.hideAll_none (trk h H) hm
    rw [z] at e; cases e

/-! ### OpenK's ledger, filled with every new object but one -/
def allNews (g h : Heap) (L : Addr) : List (Addr × Obj) := (List.range h.objs.size).filterMap fun a => if a = L ∨ (g.get? a).isSome = true then none else (h.get? a).map fun o => (a, o)
def rest (g h : Heap) (L d : Addr) : List (Addr × Obj) := (allNews g h L).filter fun p => decide (p.1 ≠ d)
end L2

namespace L2
open PySem PySem.Spec PyProof.Rows

/-- the module's facts, over the base: the heap at the law's entry without what is tracked there -/
structure Mod (K : PySem.W.Frag) (mg : Str → Option Value) (base : Heap) : Prop where
  kin : K.In base
  glob : base.Ns mainGlobals mg
  blt : ∃ mb, base.Ns builtinsNs mb ∧ ∀ x : Str, x ≠ "__name__" → mb x = bootBuiltins x
  nolimit : base.NoLimit

/-- the context: a def's body (or a comprehension's block) running. base: fixed through the whole law; s₀, H₀: the entry; outer: the frames whose slots others may change (a def's callers); stack: all frames that run;
   ex: iterators that were made ahead of the entry and are walked here (a comprehension's); fn: the names whose cells were made at the entry (a def: all; a comprehension's block: its own); calm: not within an except suite; pn: pins that every state bears; xe: what is wanted of an exception that leaves the code -/
structure Cx where
  prog : Program
  w : World
  K : PySem.W.Frag
  mg : Str → Option Value
  base : Heap
  A : Around
  N : List Str
  s₀ : Shared
  H₀ : Hp
  env : Env
  outer : List Env
  stack : List Env
  ex : List Addr
  fn : Str → Bool
  calm : Bool
  pn : List (Addr × Obj)
  xe : Value → Shared → Prop
/-- the callers' frames -/
def frs (l : List Env) : List Addr := l.filterMap (·.frame)
abbrev Cx.fs (X : Cx) : List Addr := frs X.outer

def Vis (sc : Scope) (x : Str) : Prop := sc.names.lookup x = some .local ∨ sc.names.lookup x = some .cell ∨ sc.names.lookup x = some .free
def Loc (sc : Scope) (x : Str) : Prop := sc.names.lookup x = some .local ∨ sc.names.lookup x = some .cell
def Look (env : Env) (h : Heap) (m : Str → Option Value) (x : Str) (u : Value) : Prop :=
  (env.kindOf x = some .local ∧ m x = some u) ∨ ((env.kindOf x = some .cell ∨ env.kindOf x = some .free) ∧ ∃ c, env.cells.lookup x = some c ∧ h.IsCell c (some u))

structure Cx.Ok (X : Cx) : Prop where
  mod : Mod X.K X.mg X.base
  kind : X.env.scope.kind = .function
  glob : X.env.globals = mainGlobals
  blt : X.env.builtins = builtinsNs
  above : X.s₀.heap.objs.size ≤ X.env.locals
  inj : ∀ x y c, X.env.cells.lookup x = some c → X.env.cells.lookup y = some c → x = y
  has : ∀ x, (X.env.kindOf x = some .cell ∨ X.env.kindOf x = some .free) → ∃ c, X.env.cells.lookup x = some c
  cab : ∀ x c, X.fn x = true → X.env.cells.lookup x = some c → X.s₀.heap.objs.size ≤ c
  hd : X.calm = true → X.A.handled = none
  frames : X.A.frames = some X.stack
  stk : X.stack = X.outer ∨ (X.stack = X.env :: X.outer ∧ X.env.frame = some X.env.locals)
  exf : ∀ b ∈ X.ex, b ≠ X.env.locals ∧ ∀ x c, X.env.cells.lookup x = some c → c ≠ b
  bs : ∀ b o, X.base.get? b = some o → X.s₀.heap.get? b = some o ∧ X.H₀ b = none
  bsz : X.base.objs.size ≤ X.s₀.heap.objs.size
  noex : ∀ b o, X.base.get? b = some o → b ∉ X.ex
  exfs : ∀ b ∈ X.ex, b ∉ X.fs
  funs : X.s₀.heap.FunFrames X.base X.outer
  frf : ∀ b ∈ X.fs, X.H₀ b = none

structure Inv (X : Cx) (pins : List (Addr × Obj)) (σ : List (Option V)) (H : Hp) (s : Shared) : Prop where
  ok : X.Ok
  os : s.os = X.s₀.os
  bare : AllBare s.gens
  base : Un X.fs X.ex X.H₀ H X.s₀.heap s.heap
  loc : ∃ m, s.heap.Ns X.env.locals m ∧ ∀ (i : Nat) (x : Str) (v : V), X.N[i]? = some x → σ[i]? = some (some v) → Vis X.env.scope x → ∃ u, RelV v u ∧ Look X.env s.heap m x u
  cell : ∀ x c, X.env.cells.lookup x = some c → ∃ v, s.heap.IsCell c v
  free : H X.env.locals = none
  freeC : ∀ x c, X.env.cells.lookup x = some c → H c = none
  pin : ∀ p ∈ X.pn ++ pins, s.heap.get? p.1 = some p.2 ∧ H p.1 = none ∧ p.1 ≠ X.env.locals ∧ p.1 ∉ X.fs ∧ ∀ v, p.2.data ≠ .cell v
  hok : HOk X.prog X.w H s.heap
  len : σ.length = X.N.length

section
variable {X : Cx} {pins : List (Addr × Obj)} {σ : List (Option V)} {H H' : Hp} {s : Shared} {h' : Heap}

theorem Cx.Ok.nofr (ok : X.Ok) {b : Addr} {o : Obj} (e : X.base.get? b = some o) : b ∉ X.fs := fun hb => by
  have := (ok.funs.mem hb).1
  rw [e] at this; cases this
theorem Inv.bs (I : Inv X pins σ H s) : ∀ b o, X.base.get? b = some o → s.heap.get? b = some o ∧ H b = none := fun b o e =>
  ⟨I.base.keep b o (I.ok.bs b o e).1 (I.ok.bs b o e).2 (I.ok.nofr e) (I.ok.noex b o e), I.base.free b o (I.ok.bs b o e).1 (I.ok.bs b o e).2 (I.ok.noex b o e)⟩
theorem Inv.bk (I : Inv X pins σ H s) : ∀ b o, X.base.get? b = some o → s.heap.get? b = some o := fun b o e => (I.bs b o e).1
theorem Inv.mod (I : Inv X pins σ H s) : Mod X.K X.mg X.base := I.ok.mod
theorem Inv.kIn (I : Inv X pins σ H s) : X.K.In s.heap := I.ok.mod.kin.keeps I.bk
theorem Inv.nolimit (I : Inv X pins σ H s) : s.heap.NoLimit := I.ok.mod.nolimit.keeps I.bk
/-- the frame over the base: for OpenK's rules (K.In X.base is I.mod.kin) -/
theorem Inv.fr (I : Inv X pins σ H s) : ∃ m, Fr X.base X.env.locals s.heap m :=
  let ⟨m, hn, _⟩ := I.loc
  ⟨m, hn, I.bk, Nat.le_trans I.ok.bsz I.ok.above⟩
theorem Inv.lt (I : Inv X pins σ H s) : X.env.locals < s.heap.objs.size := let ⟨_, hn, _⟩ := I.loc; hn.lt
theorem Inv.sz (I : Inv X pins σ H s) : X.s₀.heap.objs.size ≤ s.heap.objs.size := Nat.le_trans I.ok.above (Nat.le_of_lt I.lt)
theorem Inv.nofs (I : Inv X pins σ H s) {a : Addr} (h : s.heap.objs.size ≤ a) : a ∉ X.fs := fun hb => by
  obtain ⟨_, o, ho, _⟩ := I.ok.funs.mem hb
  exact absurd (Nat.lt_of_lt_of_le (Heap.lt_size ho) (Nat.le_trans I.sz h)) (Nat.lt_irrefl _)
theorem Inv.cne (I : Inv X pins σ H s) : ∀ x c, X.env.cells.lookup x = some c → c ≠ X.env.locals := fun x c e z => by
  obtain ⟨v, o, ho, hd⟩ := I.cell x c e
  obtain ⟨m, ⟨o', es, ep, ho', hd', _⟩, _⟩ := I.loc
  rw [z, ho'] at ho; cases ho; rw [hd'] at hd; cases hd
theorem Inv.funs (I : Inv X pins σ H s) : s.heap.FunFrames X.base X.outer := by
  have all : ∀ (l : List Env), (∀ b ∈ frs l, b ∈ X.fs) → X.s₀.heap.FunFrames X.base l → s.heap.FunFrames X.base l := by
    intro l
    induction l with
    | nil => intro _ _; trivial
    | cons env r ih =>
      intro hs hl
      obtain ⟨hk, ⟨L, o, hf, hn, ho, hd⟩, hr⟩ := hl
      have hL : L ∈ X.fs := hs L (by unfold frs; rw [List.filterMap_cons, hf]; exact List.mem_cons_self)
      obtain ⟨sl, e⟩ := I.base.slot L o ho (I.ok.frf L hL) hL fun z => I.ok.exfs L z hL
      exact ⟨hk, ⟨L, _, hf, hn, e, hd⟩, ih (fun b hb => hs b (by unfold frs; rw [List.filterMap_cons, hf]; exact List.mem_cons_of_mem _ hb)) hr⟩
  exact all X.outer (fun _ hb => hb) I.ok.funs

/-- the frames that run, for a call -/
theorem Inv.stack (I : Inv X pins σ H s) : s.heap.FunFrames X.base X.stack := by
  rcases I.ok.stk with e | ⟨e, hf⟩
  · rw [e]; exact I.funs
  · rw [e]
    obtain ⟨m, hn, _⟩ := I.loc
    refine .cons (by rw [I.ok.kind]; decide) hf hn ?_ I.funs
    exact Heap.get?_none_of_le (Nat.le_trans I.ok.bsz I.ok.above)
theorem Inv.stkSub (I : Inv X pins σ H s) : ∀ b ∈ frs X.stack, b ∈ X.env.locals :: X.fs := fun b hb => by
  rcases I.ok.stk with e | ⟨e, hf⟩
  · rw [e] at hb; exact List.mem_cons_of_mem _ hb
  · rw [e] at hb
    unfold frs at hb
    rw [List.filterMap_cons, hf] at hb
    exact hb
theorem Inv.stkFree (I : Inv X pins σ H s) : ∀ b ∈ frs X.stack, H b = none := fun b hb => by
  rcases List.mem_cons.mp (I.stkSub b hb) with e | hb
  · rw [e]; exact I.free
  · obtain ⟨_, o, ho, _⟩ := I.ok.funs.mem hb
    exact I.base.free b o ho (I.ok.frf b hb) fun z => I.ok.exfs b z hb

/-- THE STEP: the untracked objects but the frame and the records at ch are kept (the callers' frames up to slots), the frame's map is kept, the new abstract heap is held -/
theorem Inv.step {g' : Array GenState} {t' : Nat} {d' : Drawn} {ch : List Addr} (I : Inv X pins σ H s)
    (hch : ∀ b ∈ ch, (b ∈ X.ex ∨ X.s₀.heap.objs.size ≤ b) ∧ b ≠ X.env.locals ∧ (∀ x c, X.env.cells.lookup x = some c → c ≠ b) ∧ ∀ p ∈ X.pn ++ pins, p.1 ≠ b)
    (keep : ∀ b o, b ≠ X.env.locals → b ∉ X.fs → b ∉ ch → s.heap.get? b = some o → H b = none → h'.get? b = some o)
    (slot : ∀ b o, b ≠ X.env.locals → b ∈ X.fs → b ∉ ch → s.heap.get? b = some o → H b = none → ∃ sl, h'.get? b = some { o with slots := sl }) (free : ∀ b o, b ∉ ch → s.heap.get? b = some o → H b = none → H' b = none)
    (there : ∀ b o, b ∉ ch → s.heap.get? b = some o → ∃ o', h'.get? b = some o')
    (tups : ∀ b xs, H b = some (.tup xs) → H' b = some (.tup xs)) (frzs : ∀ b o u, H b = some (.frz o u) → H' b = some (.frz o u)) (tbls : ∀ b ps, H b = some (.tbl ps) → ∃ more, H' b = some (.tbl (ps ++ more)))
    (ns : ∀ m, s.heap.Ns X.env.locals m → h'.Ns X.env.locals m) (hok : HOk X.prog X.w H' h') (hg : AllBare g') :
    Inv X pins σ H' { s with heap := h', gens := g', drawn := d', toks := t' } := by
  have neL : ∀ b o, X.s₀.heap.get? b = some o → b ≠ X.env.locals := fun b o e => Nat.ne_of_lt (Nat.lt_of_lt_of_le (Heap.lt_size e) I.ok.above)
  have neC : ∀ b o, X.s₀.heap.get? b = some o → b ∉ X.ex → b ∉ ch := fun b o e hx hb => by
    rcases (hch b hb).1 with z | z
    · exact hx z
    · exact absurd (Nat.lt_of_lt_of_le (Heap.lt_size e) z) (Nat.lt_irrefl _)
  have cellK : ∀ x c, X.env.cells.lookup x = some c → ∀ v, s.heap.IsCell c v → h'.IsCell c v := fun x c e v ⟨o, ho, hd⟩ => by
    have nch : c ∉ ch := fun z => (hch c z).2.2.1 x c e rfl
    by_cases hc : c ∈ X.fs
    · obtain ⟨sl, q⟩ := slot c o (I.cne x c e) hc nch ho (I.freeC x c e)
      exact ⟨_, q, hd⟩
    · exact ⟨o, keep c o (I.cne x c e) hc nch ho (I.freeC x c e), hd⟩
  refine ⟨I.ok, I.os, hg, ⟨fun b o e n hb hx => ?_, fun b o e n hb hx => ?_, fun b o e n hx => ?_, fun b o e hx => ?_, fun b xs e => tups b xs (I.base.tups b xs e), fun b o xs e => frzs b o xs (I.base.frzs b o xs e), fun b ps e => ?_⟩, ?_, fun x c e => ?_, ?_, fun x c e => ?_, fun p hp => ?_, hok, I.len⟩
  · exact keep b o (neL b o e) hb (neC b o e hx) (I.base.keep b o e n hb hx) (I.base.free b o e n hx)
  · obtain ⟨sl, e1⟩ := I.base.slot b o e n hb hx
    obtain ⟨sl', e2⟩ := slot b _ (neL b o e) hb (neC b o e hx) e1 (I.base.free b o e n hx)
    exact ⟨sl', e2⟩
  · obtain ⟨o', e1⟩ := I.base.there b o e hx
    exact free b o' (neC b o e hx) e1 (I.base.free b o e n hx)
  · obtain ⟨o', e1⟩ := I.base.there b o e hx
    exact there b o' (neC b o e hx) e1
  · obtain ⟨m1, e1⟩ := I.base.tbls b ps e
    obtain ⟨m2, e2⟩ := tbls b _ e1
    exact ⟨m1 ++ m2, by rw [e2, Array.append_assoc]⟩
  · obtain ⟨m, hn, hl⟩ := I.loc
    refine ⟨m, ns m hn, fun i x v e1 e2 e3 => ?_⟩
    obtain ⟨u, r, l⟩ := hl i x v e1 e2 e3
    refine ⟨u, r, ?_⟩
    rcases l with l | ⟨k, c, e, z⟩
    · exact .inl l
    · exact .inr ⟨k, c, e, cellK x c e _ z⟩
  · obtain ⟨v, z⟩ := I.cell x c e
    exact ⟨v, cellK x c e v z⟩
  · obtain ⟨m, ⟨o, _, _, ho, _⟩, _⟩ := I.loc
    exact free _ o (fun z => (hch _ z).2.1 rfl) ho I.free
  · obtain ⟨v, o, ho, hd⟩ := I.cell x c e
    exact free c o (fun z => (hch c z).2.2.1 x c e rfl) ho (I.freeC x c e)
  · obtain ⟨e, n, ne, nf, d⟩ := I.pin p hp
    have nch : p.1 ∉ ch := fun z => (hch p.1 z).2.2.2 p hp rfl
    exact ⟨keep p.1 p.2 ne nf nch e n, free p.1 p.2 nch e n, ne, nf, d⟩
/-- .. where the frame's own object is kept too -/
theorem Inv.un {t' : Nat} (I : Inv X pins σ H s) (u : Un X.fs [] H H' s.heap h') (hok : HOk X.prog X.w H' h') : Inv X pins σ H' { s with heap := h', toks := t' } := by
  obtain ⟨m, ⟨o, es, ep, ho, r⟩, _⟩ := id I.loc
  obtain ⟨sl, hL⟩ := u.any ho I.free (by simp)
  exact I.step (g' := s.gens) (d' := s.drawn) (ch := []) (fun _ z => nomatch z) (fun b o _ hb _ e n => u.keep b o e n hb (by simp)) (fun b o _ hb _ e n => u.slot b o e n hb (by simp)) (fun b o _ e n => u.free b o e n (by simp)) (fun b o _ e => u.there b o e (by simp)) u.tups u.frzs u.tbls (fun m' hm => by
    obtain ⟨o', es', ep', ho', r'⟩ := hm
    rw [ho] at ho'; cases ho'
    exact ⟨_, es', ep', hL, r'⟩) hok I.bare
/-- behind a call (or a comprehension's block): the slots of this frame may have changed too, the records at ch may have turned -/
theorem Inv.call {g' : Array GenState} {t' : Nat} {d' : Drawn} {ch : List Addr} (I : Inv X pins σ H s) (u : Un (frs X.stack) ch H H' s.heap h') (hok : HOk X.prog X.w H' h') (hg : AllBare g')
    (hch : ∀ b ∈ ch, (b ∈ X.ex ∨ X.s₀.heap.objs.size ≤ b) ∧ b ≠ X.env.locals ∧ (∀ x c, X.env.cells.lookup x = some c → c ≠ b) ∧ ∀ p ∈ X.pn ++ pins, p.1 ≠ b) :
    Inv X pins σ H' { s with heap := h', gens := g', drawn := d', toks := t' } := by
  obtain ⟨m, ⟨o, es, ep, ho, r⟩, _⟩ := id I.loc
  obtain ⟨sl, hL⟩ := u.any ho I.free fun z => (hch _ z).2.1 rfl
  exact I.step (ch := ch) hch (fun b o hL hb hc e n => u.keep b o e n (fun z => (List.mem_cons.mp (I.stkSub b z)).elim hL hb) hc) (fun b o _ _ hc e n => u.any e n hc) (fun b o hc e n => u.free b o e n hc) (fun b o hc e => u.there b o e hc) u.tups u.frzs u.tbls (fun m' hm => by
    obtain ⟨o', es', ep', ho', r'⟩ := hm
    rw [ho] at ho'; cases ho'
    exact ⟨_, es', ep', hL, r'⟩) hok hg
/-- an untracked record of ours (an iterator) has turned -/
theorem Inv.turned {t' : Nat} {it : Addr} (I : Inv X pins σ H s) (k : ∀ b o, b ≠ it → s.heap.get? b = some o → h'.get? b = some o) (hn : H it = none) (hL : it ≠ X.env.locals)
    (h1 : it ∈ X.ex ∨ X.s₀.heap.objs.size ≤ it) (h2 : ∀ x c, X.env.cells.lookup x = some c → c ≠ it) (h3 : ∀ p ∈ X.pn ++ pins, p.1 ≠ it) : Inv X pins σ H { s with heap := h', toks := t' } := by
  have nit : ∀ b u, H b = some u → b ≠ it := fun b u e z => by rw [z, hn] at e; cases e
  refine I.step (g' := s.gens) (d' := s.drawn) (ch := [it]) (fun b hb => ?_) (fun b o _ _ hc e _ => k b o (fun z => hc (by simp [z])) e) (fun b o _ _ hc e _ => ⟨o.slots, k b o (fun z => hc (by simp [z])) e⟩) (fun _ _ _ _ n => n)
    (fun b o hc e => ⟨o, k b o (fun z => hc (by simp [z])) e⟩) (fun _ _ e => e) (fun _ _ _ e => e) (fun b ps e => ⟨#[], by rw [e]; simp⟩) (fun m hm => ?_) (fun b u e => ?_) I.bare
  · have e : b = it := by simpa using hb
    subst e
    exact ⟨h1, hL, h2, h3⟩
  · obtain ⟨o, es, ep, ho, r⟩ := hm
    exact ⟨o, es, ep, k _ o (Ne.symm hL) ho, r⟩
  · refine (I.hok b u e).stay (fun c v hc q => k c v ?_ q) (fun _ q => q) fun _ _ q => q
    rcases hc with z | z
    · rw [z]; exact nit b u e
    · exact nit c _ z
theorem Inv.tok (I : Inv X pins σ H s) (t : Nat) : Inv X pins σ H { s with toks := t } := I.un (h' := s.heap) (t' := t) Un.refl I.hok
/-- all objects kept -/
theorem Inv.kept {t' : Nat} (I : Inv X pins σ H s) (k : ∀ b u, s.heap.get? b = some u → h'.get? b = some u) : Inv X pins σ H { s with heap := h', toks := t' } := I.un (Un.kept k) (I.hok.kept k)
/-- a new object laid and tracked -/
theorem Inv.laid {a : Addr} {o : HO} {t' : Nat} (I : Inv X pins σ H s) (k : ∀ b u, s.heap.get? b = some u → h'.get? b = some u) (hp : s.heap.objs.size ≤ a) (new : ObjOk X.prog X.w (upd H a o) h' a o) :
    Inv X pins σ (upd H a o) { s with heap := h', toks := t' } := I.un (Un.laid k hp (I.hok.fresh hp)) (I.hok.laid k hp new)
/-- an object written -/
theorem Inv.write {x e : Addr} {o : HO} {t' : Nat} (I : Inv X pins σ H s) (mu : Mut (H x)) (he : e = x ∨ H e = some (.own x)) (k : ∀ b u, b ≠ e → s.heap.get? b = some u → h'.get? b = some u) (heo : ∃ u, h'.get? e = some u)
    (new : ObjOk X.prog X.w (upd H x o) h' x o) : Inv X pins σ (upd H x o) { s with heap := h', toks := t' } := I.un (Un.write mu he k heo) (I.hok.write mu he k heo new)
/-- forgetting slots, pins -/
theorem Inv.weak {σ' : List (Option V)} (I : Inv X pins σ H s) (hl : σ'.length = σ.length) (w : ∀ (i : Nat) v, σ'[i]? = some (some v) → σ[i]? = some (some v)) : Inv X pins σ' H s :=
  ⟨I.ok, I.os, I.bare, I.base, let ⟨m, hn, hl'⟩ := I.loc; ⟨m, hn, fun i x v e1 e2 e3 => hl' i x v e1 (w i v e2) e3⟩, I.cell, I.free, I.freeC, I.pin, I.hok, hl.trans I.len⟩
theorem Inv.pins_of {pins' : List (Addr × Obj)} (I : Inv X pins σ H s) (h : ∀ p ∈ pins', s.heap.get? p.1 = some p.2 ∧ H p.1 = none ∧ p.1 ≠ X.env.locals ∧ p.1 ∉ X.fs ∧ ∀ v, p.2.data ≠ .cell v) : Inv X pins' σ H s :=
  ⟨I.ok, I.os, I.bare, I.base, I.loc, I.cell, I.free, I.freeC, fun p hp => (List.mem_append.mp hp).elim (fun z => I.pin p (List.mem_append_left _ z)) (h p), I.hok, I.len⟩

theorem nodup_ix {N : List Str} (hN : N.Nodup) {i j : Nat} {x : Str} (a : N[i]? = some x) (b : N[j]? = some x) : i = j := by
  obtain ⟨h1, e1⟩ := List.getElem?_eq_some_iff.mp a
  obtain ⟨h2, e2⟩ := List.getElem?_eq_some_iff.mp b
  exact (List.getElem_inj hN).mp (e1.trans e2.symm)

/-- a name is stored; what changed -/
theorem store_ok2 {M : Model} {A : Around} {E : Value → Shared → Prop} {i : Nat} {x : Str} {v : V} {u : Value} {Q : Unit → Shared → Prop} (I : Inv X pins σ H s) (hN : X.N.Nodup) (hi : X.N[i]? = some x) (hx : Loc X.env.scope x) (r : RelV v u)
    (h : ∀ s', Inv X pins (σ.set i (some v)) H s' → (∃ a, Heap.SameBut a s.heap s'.heap ∧ (a = X.env.locals ∨ X.env.cells.lookup x = some a)) → Q () s') (hf : X.fn x = true ∨ X.env.scope.names.lookup x = some .local := by first | exact .inl rfl | exact .inr rfl | assumption) : wpAny M A (storeName X.env x u) Q E s := by
  obtain ⟨m, hn, hl⟩ := id I.loc
  have hcls : (X.env.scope.kind == .class || (X.env.scope.kind == .module && X.env.locals != X.env.globals)) = false := by rw [I.ok.kind]; rfl
  have hiσ : i < σ.length := by rw [I.len]; exact (List.getElem?_eq_some_iff.mp hi).1
  have cne := I.cne
  have tracked : ∀ {a : Addr} {h' : Heap}, (∃ o, s.heap.get? a = some o ∧ H a = none) → Heap.SameBut a s.heap h' → HOk X.prog X.w H h' := fun {a h'} ha hs b ob e => by
    obtain ⟨_, _, hfree⟩ := ha
    refine (I.hok b ob e).stay (fun c w' hc q => (hs.2 c ?_).trans q) (fun _ q => q) fun _ _ q => q
    rintro rfl
    rcases hc with rfl | hc
    · rw [hfree] at e; cases e
    · rw [hfree] at hc; cases hc
  rcases hx with hk | hk
  · refine wpAny_storeName_local hk hn (fun h' hn' hs => ?_) hcls
    obtain ⟨oL, _, _, hoL, _⟩ := id hn
    refine h _ ⟨I.ok, I.os, I.bare, ⟨fun b o e n hb hx => ?_, fun b o e n hb hx => ?_, I.base.free, fun b o e hx => ?_, I.base.tups, I.base.frzs, I.base.tbls⟩, ⟨_, hn', fun j y v' e1 e2 e3 => ?_⟩, fun y c e => ?_, I.free, I.freeC, fun p hp => ?_, tracked ⟨oL, hoL, I.free⟩ hs, by simpa using I.len⟩ ⟨_, hs, .inl rfl⟩
    · exact (hs.2 b (Nat.ne_of_lt (Nat.lt_of_lt_of_le (Heap.lt_size e) I.ok.above))).trans (I.base.keep b o e n hb hx)
    · obtain ⟨sl, e1⟩ := I.base.slot b o e n hb hx
      exact ⟨sl, (hs.2 b (Nat.ne_of_lt (Nat.lt_of_lt_of_le (Heap.lt_size e) I.ok.above))).trans e1⟩
    · obtain ⟨o', e1⟩ := I.base.there b o e hx
      exact ⟨o', (hs.2 b (Nat.ne_of_lt (Nat.lt_of_lt_of_le (Heap.lt_size e) I.ok.above))).trans e1⟩
    · by_cases hj : j = i
      · subst hj
        rw [hi] at e1; cases e1
        rw [List.getElem?_set_self hiσ] at e2
        cases e2
        exact ⟨u, r, .inl ⟨hk, by simp⟩⟩
      · rw [List.getElem?_set_ne (Ne.symm hj)] at e2
        obtain ⟨u', r', q⟩ := hl j y v' e1 e2 e3
        refine ⟨u', r', ?_⟩
        rcases q with ⟨k, e⟩ | ⟨k, c, e, z⟩
        · refine .inl ⟨k, ?_⟩
          have : y ≠ x := fun e => hj (nodup_ix hN e1 (e ▸ hi))
          simp [this, e]
        · exact .inr ⟨k, c, e, z.sameBut hs (cne y c e)⟩
    · obtain ⟨w', z⟩ := I.cell y c e
      exact ⟨w', z.sameBut hs (cne y c e)⟩
    · obtain ⟨e, n, ne, nf, d⟩ := I.pin p hp
      exact ⟨(hs.2 p.1 ne).trans e, n, ne, nf, d⟩
  · have hfn : X.fn x = true := by
      rcases hf with z | z
      · exact z
      · rw [z] at hk; cases hk
    obtain ⟨c, hc⟩ := I.ok.has x (.inl hk)
    obtain ⟨w', z⟩ := I.cell x c hc
    refine wpAny_storeName_cell I.ok.kind hk hc z (fun h' hc' hs => ?_)
    obtain ⟨oc, hoc, hocd⟩ := id z
    refine h { s with heap := h' } ⟨I.ok, I.os, I.bare, ⟨fun b o e n hb hx => ?_, fun b o e n hb hx => ?_, I.base.free, fun b o e hx => ?_, I.base.tups, I.base.frzs, I.base.tbls⟩, ⟨m, hn.sameBut hs (Ne.symm (cne x c hc)), fun j y v' e1 e2 e3 => ?_⟩, fun y c' e => ?_, I.free, I.freeC, fun p hp => ?_, tracked ⟨oc, hoc, I.freeC x c hc⟩ hs, by simpa using I.len⟩ ⟨c, hs, .inr hc⟩
    · exact (hs.2 b (Nat.ne_of_lt (Nat.lt_of_lt_of_le (Heap.lt_size e) (I.ok.cab x c hfn hc)))).trans (I.base.keep b o e n hb hx)
    · obtain ⟨sl, e1⟩ := I.base.slot b o e n hb hx
      exact ⟨sl, (hs.2 b (Nat.ne_of_lt (Nat.lt_of_lt_of_le (Heap.lt_size e) (I.ok.cab x c hfn hc)))).trans e1⟩
    · obtain ⟨o', e1⟩ := I.base.there b o e hx
      exact ⟨o', (hs.2 b (Nat.ne_of_lt (Nat.lt_of_lt_of_le (Heap.lt_size e) (I.ok.cab x c hfn hc)))).trans e1⟩
    · by_cases hj : j = i
      · subst hj
        rw [hi] at e1; cases e1
        rw [List.getElem?_set_self hiσ] at e2
        cases e2
        exact ⟨u, r, .inr ⟨.inl hk, c, hc, hc'⟩⟩
      · rw [List.getElem?_set_ne (Ne.symm hj)] at e2
        obtain ⟨u', r', q⟩ := hl j y v' e1 e2 e3
        refine ⟨u', r', ?_⟩
        rcases q with q | ⟨k, c', e, z'⟩
        · exact .inl q
        · refine .inr ⟨k, c', e, z'.sameBut hs ?_⟩
          rintro rfl
          exact hj (nodup_ix hN e1 (I.ok.inj _ _ _ e hc ▸ hi))
    · by_cases hcc : c' = c
      · subst hcc; exact ⟨_, hc'⟩
      · obtain ⟨w2, z2⟩ := I.cell y c' e
        exact ⟨w2, z2.sameBut hs hcc⟩
    · obtain ⟨e, n, ne, nf, d⟩ := I.pin p hp
      refine ⟨(hs.2 p.1 ?_).trans e, n, ne, nf, d⟩
      intro q
      rw [q, hoc] at e
      have q' : oc = p.2 := Option.some.inj e
      exact d w' (by rw [← q']; exact hocd)
theorem store_ok {M : Model} {A : Around} {E : Value → Shared → Prop} {i : Nat} {x : Str} {v : V} {u : Value} {Q : Unit → Shared → Prop} (I : Inv X pins σ H s) (hN : X.N.Nodup) (hi : X.N[i]? = some x) (hx : Loc X.env.scope x) (r : RelV v u)
    (h : ∀ s', Inv X pins (σ.set i (some v)) H s' → Q () s') (hf : X.fn x = true ∨ X.env.scope.names.lookup x = some .local := by first | exact .inl rfl | exact .inr rfl | assumption) : wpAny M A (storeName X.env x u) Q E s :=
  store_ok2 I hN hi hx r (fun s' I' _ => h s' I') hf
/-- behind a call or a block, the state as it is -/
theorem Inv.call' {s' : Shared} {ch : List Addr} (I : Inv X pins σ H s) (ho : s'.os = s.os) (u : Un (frs X.stack) ch H H' s.heap s'.heap) (hok : HOk X.prog X.w H' s'.heap) (hg : AllBare s'.gens)
    (hch : ∀ b ∈ ch, (b ∈ X.ex ∨ X.s₀.heap.objs.size ≤ b) ∧ b ≠ X.env.locals ∧ (∀ x c, X.env.cells.lookup x = some c → c ≠ b) ∧ ∀ p ∈ X.pn ++ pins, p.1 ≠ b) : Inv X pins σ H' s' := by
  obtain ⟨h', g', d', t', o'⟩ := s'
  have e : o' = s.os := ho
  subst e
  exact I.call (g' := g') (t' := t') (d' := d') u hok hg hch
end

/-! ### the judgements -/
/-- an exception: its class, its own dict's address (where it has one), the abstract heap behind it -/
abbrev XK := Value → Option Addr → Hp → Prop
abbrev St := List (Option V)
abbrev VK := V → Hp → Prop
/-- an expression's reading; a test's; an argument list's -/
abbrev TE := St → Hp → VK → Prop
abbrev TT := St → Hp → (Bool → Hp → Prop) → Prop
abbrev TA := St → Hp → (List V → Hp → Prop) → Prop
/-- what is wanted behind a statement -/
structure Ends where
  nx : St → Hp → Prop
  rt : VK
  bk : St → Hp → Prop := fun _ _ => False
  ct : St → Hp → Prop := fun _ _ => False
abbrev TS := Ends → St → Hp → Prop

def EP (X : Cx) (pins : List (Addr × Obj)) (σ : St) (Q : VK) (u : Value) (s' : Shared) : Prop := ∃ v H', Inv X pins σ H' s' ∧ RelV v u ∧ Q v H'
def TP (X : Cx) (pins : List (Addr × Obj)) (σ : St) (Q : Bool → Hp → Prop) (b : Bool) (s' : Shared) : Prop := ∃ H', Inv X pins σ H' s' ∧ Q b H'
def AP (X : Cx) (pins : List (Addr × Obj)) (σ : St) (Q : List V → Hp → Prop) (us : List Value) (s' : Shared) : Prop := ∃ vs H', Inv X pins σ H' s' ∧ Vals vs us ∧ Q vs H'
def SP (X : Cx) (pins : List (Addr × Obj)) (D : Ends) (f : Flow) (s' : Shared) : Prop :=
  match f with
  | .next => ∃ σ' H', Inv X pins σ' H' s' ∧ D.nx σ' H'
  | .brk => ∃ σ' H', Inv X pins σ' H' s' ∧ D.bk σ' H'
  | .cont => ∃ σ' H', Inv X pins σ' H' s' ∧ D.ct σ' H'
  | .ret u => ∃ v σ' H', Inv X pins σ' H' s' ∧ RelV v u ∧ D.rt v H'

def PE (X : Cx) (e : Expr) (t : TE) : Prop :=
  ∀ (pins : List (Addr × Obj)) (s : Shared) (σ : St) (H : Hp) (Q : VK), Inv X pins σ H s → t σ H Q → wpAny (model X.prog X.w) X.A (eval e X.env) (EP X pins σ Q) X.xe s
def PT (X : Cx) (e : Expr) (t : TT) : Prop :=
  ∀ (pins : List (Addr × Obj)) (s : Shared) (σ : St) (H : Hp) (Q : Bool → Hp → Prop), Inv X pins σ H s → t σ H Q → wpAny (model X.prog X.w) X.A (isTrue e X.env (eval e X.env)) (TP X pins σ Q) X.xe s
/-- a test whatever its 'whole' is (and, or) -/
def PW (X : Cx) (e : Expr) (t : TT) : Prop :=
  ∀ (whole : Sem Value) (pins : List (Addr × Obj)) (s : Shared) (σ : St) (H : Hp) (Q : Bool → Hp → Prop), Inv X pins σ H s → t σ H Q → wpAny (model X.prog X.w) X.A (isTrue e X.env whole) (TP X pins σ Q) X.xe s
theorem PW.pt {X : Cx} {e : Expr} {t : TT} (h : PW X e t) : PT X e t := h _
/-- an argument list (no star), from the left -/
def PA (X : Cx) (es : List Expr) (t : TA) : Prop :=
  ∀ (pos : Pos) (pins : List (Addr × Obj)) (s : Shared) (σ : St) (H : Hp) (Q : List V → Hp → Prop), Inv X pins σ H s → t σ H Q → wpAny (model X.prog X.w) X.A (spliced (backTo pos (starEach es X.env))) (AP X pins σ Q) X.xe s
def PS (X : Cx) (st : Stmt) (t : TS) : Prop :=
  ∀ (pins : List (Addr × Obj)) (s : Shared) (σ : St) (H : Hp) (D : Ends), Inv X pins σ H s → t D σ H → wpAny (model X.prog X.w) X.A (exec st X.env) (SP X pins D) X.xe s
def PSs (X : Cx) (st : List Stmt) (t : TS) : Prop :=
  ∀ (pins : List (Addr × Obj)) (s : Shared) (σ : St) (H : Hp) (D : Ends), Inv X pins σ H s → t D σ H → wpAny (model X.prog X.w) X.A (execs st X.env) (SP X pins D) X.xe s
/-- weaken the end -/
theorem thn {α : Type} {t : Sem α} {Q Q' : α → Shared → Prop} {M : Model} {A : Around} {E : Value → Shared → Prop} {s : Shared} (h : wpAny M A t Q E s) (hQ : ∀ a s, Q a s → Q' a s) : wpAny M A t Q' E s := wpAny_mono h hQ fun _ _ x => x
end L2

namespace L2
open PySem PySem.Spec PyProof.Rows
section
variable {X : Cx}

/-! ### names and constants -/
def tVar (i : Nat) : TE := fun σ H Q => ∃ v, σ[i]? = some (some v) ∧ Q v H
def tC (v : V) : TE := fun _ H Q => Q v H
theorem pe_var {i : Nat} {x : Str} {pos : Pos} (hN : X.N[i]? = some x) (hv : Vis X.env.scope x) (hd : (x == ("__debug__" : Str)) = false := by decide) (hcd : (x == ("__classdict__" : Str)) = false := by decide) : PE X (.Name x pos) (tVar i) := by
  intro pins s σ H Q I h
  obtain ⟨v, e, h⟩ := h
  obtain ⟨m, hn, hl⟩ := I.loc
  obtain ⟨u, r, l⟩ := hl i x v hN e hv
  have fin : EP X pins σ Q u s := ⟨v, H, I, r, h⟩
  rcases l with ⟨hk, hm⟩ | ⟨hk, c, hc, hcell⟩
  · exact wpAny_Name (wpAny_loadName_local I.ok.kind hk hn hm fin) hd
  · rcases hk with hk | hk
    · exact wpAny_Name (wpAny_loadName_cell I.ok.kind hk hc hcell fin) hd
    · exact wpAny_Name (wpAny_loadName_free I.ok.kind hk hc hcell fin hcd) hd
theorem pe_int {i j pos} : PE X (.Constant (.int i) j pos) (tC (.int i)) := fun _ _ _ H _ I h => wpAny_Constant_int ⟨.int i, H, I.tok _, ⟨_, rfl⟩, h⟩
theorem pe_bl {b j pos} : PE X (.Constant (.bool b) j pos) (tC (.bl b)) := fun _ _ _ H _ I h => Constant_bool ⟨.bl b, H, I, rfl, h⟩
theorem pe_str {x j pos} : PE X (.Constant (.str x) j pos) (tC (.str x)) := fun _ _ _ H _ I h => Calls.Constant_str ⟨.str x, H, I.tok _, ⟨_, rfl⟩, h⟩

/-- a global name of the def -/
def Gl (X : Cx) (x : Str) : Prop := X.env.kindOf x = some .globalImplicit
theorem ld_glob {E : Value → Shared → Prop} {pins : List (Addr × Obj)} {s : Shared} {σ : St} {H : Hp} {x : Str} {u : Value} {pos : Pos} {Q : Value → Shared → Prop} (I : Inv X pins σ H s) (hg : Gl X x) (hm : X.mg x = some u) (h : Q u s)
    (hd : (x == ("__debug__" : Str)) = false := by decide) : wpAny (model X.prog X.w) X.A (eval (.Name x pos) X.env) Q E s :=
  Calls.Name_function_global I.ok.kind hg (Calls.loadGlobal_global (by rw [I.ok.glob]; exact I.mod.glob.keeps I.bk) hm h) hd
theorem ld_blt {E : Value → Shared → Prop} {pins : List (Addr × Obj)} {s : Shared} {σ : St} {H : Hp} {x : Str} {u : Value} {pos : Pos} {Q : Value → Shared → Prop} (I : Inv X pins σ H s) (hg : Gl X x) (hm : X.mg x = none) (hv : bootBuiltins x = some u) (h : Q u s)
    (hn : x ≠ "__name__" := by decide) (hd : (x == ("__debug__" : Str)) = false := by decide) : wpAny (model X.prog X.w) X.A (eval (.Name x pos) X.env) Q E s := by
  obtain ⟨mb, h1, h2⟩ := I.mod.blt
  exact Calls.Name_function_global I.ok.kind hg (Calls.loadGlobal_builtin (by rw [I.ok.glob]; exact I.mod.glob.keeps I.bk) hm (by rw [I.ok.blt]; exact h1.keeps I.bk) ((h2 x hn).trans hv) h) hd
/-- a module's constant, a class, a function, as a value -/
theorem pe_glob {x : Str} {v : V} {u : Value} {pos : Pos} (hg : Gl X x) (hm : X.mg x = some u) (r : RelV v u) (hd : (x == ("__debug__" : Str)) = false := by decide) : PE X (.Name x pos) (tC v) :=
  fun _ _ _ H _ I h => ld_glob I hg hm ⟨v, H, I, r, h⟩ hd
theorem pe_bltn {x : Str} {v : V} {u : Value} {pos : Pos} (hg : Gl X x) (hm : X.mg x = none) (hv : bootBuiltins x = some u) (r : RelV v u) (hn : x ≠ "__name__" := by decide) (hd : (x == ("__debug__" : Str)) = false := by decide) : PE X (.Name x pos) (tC v) :=
  fun _ _ _ H _ I h => ld_blt I hg hm hv ⟨v, H, I, r, h⟩ hn hd

/-! ### arithmetic -/
/-- two ints -/
def t2I (ta tb : TE) (k : Int → Int → Hp → Prop) : St → Hp → Prop := fun σ H => ta σ H fun x H1 => tb σ H1 fun y H2 => ∃ i j, x = .int i ∧ y = .int j ∧ k i j H2
def tAdd (ta tb : TE) : TE := fun σ H Q => t2I ta tb (fun i j H2 => Q (.int (i + j)) H2) σ H
def tSub (ta tb : TE) : TE := fun σ H Q => t2I ta tb (fun i j H2 => Q (.int (i - j)) H2) σ H
/-- the left factor below 2^64 -/
def tMul (ta tb : TE) : TE := fun σ H Q => t2I ta tb (fun i j H2 => (-(2 ^ 64) < i ∧ i < 2 ^ 64) ∧ Q (.int (i * j)) H2) σ H
variable {a b : Expr} {ta tb : TE} {pos : Pos}
/-! ### comparisons -/
def PC (X : Cx) (op : CmpOp) (a b : Expr) (t : TE) : Prop :=
  ∀ (pins : List (Addr × Obj)) (s : Shared) (σ : St) (H : Hp) (Q : VK), Inv X pins σ H s → t σ H Q →
    wpAny (model X.prog X.w) X.A (eval a X.env) (fun v s₁ => wpAny (model X.prog X.w) X.A (eval b X.env) (fun u s₂ => wpAny (model X.prog X.w) X.A (compareOp op v u) (EP X pins σ Q) X.xe s₂) X.xe s₁) X.xe s
def tCmp (p : Int → Int → Bool) (ta tb : TE) : TE := fun σ H Q => t2I ta tb (fun i j H2 => Q (.bl (p i j)) H2) σ H
abbrev tLt : TE → TE → TE := tCmp fun i j => decide (i < j)
abbrev tLe : TE → TE → TE := tCmp fun i j => decide (i ≤ j)
abbrev tGt : TE → TE → TE := tCmp fun i j => decide (j < i)
abbrev tGe : TE → TE → TE := tCmp fun i j => decide (j ≤ i)
abbrev tEqI : TE → TE → TE := tCmp fun i j => decide (i = j)
abbrev tNeI : TE → TE → TE := tCmp fun i j => !decide (i = j)
/-- is None -/
def tIsN (ta : TE) : TE := fun σ H Q => ta σ H fun x H1 => Q (.bl (decide (x = .non))) H1
def tNotN (ta : TE) : TE := fun σ H Q => ta σ H fun x H1 => Q (.bl (!decide (x = .non))) H1
/-- a comparison as a value, as a test -/
def tB (t : TE) : TT := fun σ H Q => t σ H fun x H1 => ∃ c, x = .bl c ∧ Q c H1
/-- an expression whose value is a bool, as a test -/
theorem pt_val {e : Expr} {t : TE} (h : PE X e t) (he : ∀ whole, isTrue e X.env whole = (do let v ← whole; standAt e.pos; holding [v] (truthy v)) := by intro _; rfl) : PT X e (tB t) := by
  intro pins s σ H Q I hw
  refine isTrue_plain (thn (h pins s σ H _ I hw) fun v s1 ⟨x, H1, I1, r1, q1⟩ => ?_) (he _)
  obtain ⟨d, rfl, q⟩ := q1
  cases r1
  exact wpAny_truthy_bool ⟨H1, I1, q⟩

/-! ### and, or, not -/
variable {tA tB' : TT} {rest : List Expr}
def tAnd (t u : TT) : TT := fun σ H Q => t σ H fun c H1 => if c = true then u σ H1 Q else Q false H1
def tOr (t u : TT) : TT := fun σ H Q => t σ H fun c H1 => if c = true then Q true H1 else u σ H1 Q
def tNot (t : TT) : TT := fun σ H Q => t σ H fun c H1 => Q (!c) H1
theorem pw_and1 (ha : PT X a tA) : PW X (.BoolOp .And [a] pos) tA := by
  intro wh pins s σ H Q I h
  refine isTrue_and (thn (ha pins s σ H Q I h) fun c s1 e => ?_)
  cases c with
  | true => exact isTrue_and_nil e
  | false => exact e
theorem pw_or1 (ha : PT X a tA) : PW X (.BoolOp .Or [a] pos) tA := by
  intro wh pins s σ H Q I h
  refine isTrue_or (thn (ha pins s σ H Q I h) fun c s1 e => ?_)
  cases c with
  | false => exact isTrue_or_nil e
  | true => exact e
theorem pw_and (ha : PT X a tA) (hb : PW X (.BoolOp .And (b :: rest) pos) tB') : PW X (.BoolOp .And (a :: b :: rest) pos) (tAnd tA tB') := by
  intro wh pins s σ H Q I h
  refine isTrue_and (thn (ha pins s σ H _ I h) fun c s1 ⟨H1, I1, q1⟩ => ?_)
  cases c with
  | true => exact hb wh pins s1 σ H1 Q I1 q1
  | false => exact ⟨H1, I1, q1⟩
theorem pw_or (ha : PT X a tA) (hb : PW X (.BoolOp .Or (b :: rest) pos) tB') : PW X (.BoolOp .Or (a :: b :: rest) pos) (tOr tA tB') := by
  intro wh pins s σ H Q I h
  refine isTrue_or (thn (ha pins s σ H _ I h) fun c s1 ⟨H1, I1, q1⟩ => ?_)
  cases c with
  | true => exact ⟨H1, I1, q1⟩
  | false => exact hb wh pins s1 σ H1 Q I1 q1
theorem pt_not (ha : PT X a tA) : PT X (.UnaryOp .Not a pos) (tNot tA) := by
  intro pins s σ H Q I h
  exact isTrue_not (ha pins s σ H (fun c H1 => Q (!c) H1) I h)
/-- .. as values (bools) -/
def tAndV (ta tb : TE) : TE := fun σ H Q => ta σ H fun x H1 => ∃ c, x = .bl c ∧ if c = true then tb σ H1 Q else Q (.bl false) H1
def tOrV (ta tb : TE) : TE := fun σ H Q => ta σ H fun x H1 => ∃ c, x = .bl c ∧ if c = true then Q (.bl true) H1 else tb σ H1 Q
def tNotV (ta : TE) : TE := fun σ H Q => ta σ H fun x H1 => ∃ c, x = .bl c ∧ Q (.bl (!c)) H1
theorem pe_one {op} {t : TE} (h : PE X a t) : PE X (.BoolOp op [a] pos) t := fun pins s σ H Q I hw => BoolOp_one (h pins s σ H Q I hw)
theorem pe_and (ha : PE X a ta) (hb : PE X (.BoolOp .And (b :: rest) pos) tb) : PE X (.BoolOp .And (a :: b :: rest) pos) (tAndV ta tb) := by
  intro pins s σ H Q I h
  refine BoolOp_and (thn (ha pins s σ H _ I h) fun v s1 ⟨x, H1, I1, r1, q1⟩ => ?_)
  obtain ⟨c, rfl, q1⟩ := q1
  cases r1
  refine wpAny_truthy_bool ?_
  cases c with
  | true => exact hb pins s1 σ H1 Q I1 q1
  | false => exact ⟨.bl false, H1, I1, rfl, q1⟩
theorem pe_or (ha : PE X a ta) (hb : PE X (.BoolOp .Or (b :: rest) pos) tb) : PE X (.BoolOp .Or (a :: b :: rest) pos) (tOrV ta tb) := by
  intro pins s σ H Q I h
  refine BoolOp_or (thn (ha pins s σ H _ I h) fun v s1 ⟨x, H1, I1, r1, q1⟩ => ?_)
  obtain ⟨c, rfl, q1⟩ := q1
  cases r1
  refine wpAny_truthy_bool ?_
  cases c with
  | false => exact hb pins s1 σ H1 Q I1 q1
  | true => exact ⟨.bl true, H1, I1, rfl, q1⟩
theorem pe_not (ha : PE X a ta) : PE X (.UnaryOp .Not a pos) (tNotV ta) := by
  intro pins s σ H Q I h
  refine UnaryOp_ (thn (ha pins s σ H _ I h) fun v s1 ⟨x, H1, I1, r1, q1⟩ => ?_)
  obtain ⟨c, rfl, q1⟩ := q1
  cases r1
  exact not_of (wpAny_truthy_bool ⟨.bl (!c), H1, I1, rfl, q1⟩)
/-- a if t else b -/
def tIf (t : TT) (ta tb : TE) : TE := fun σ H Q => t σ H fun c H1 => if c = true then ta σ H1 Q else tb σ H1 Q
theorem pe_ifExp {c : Expr} (hc : PT X c tA) (ha : PE X a ta) (hb : PE X b tb) : PE X (.IfExp c a b pos) (tIf tA ta tb) := by
  intro pins s σ H Q I h
  refine wpAny_IfExp (thn (hc pins s σ H _ I h) fun d s1 ⟨H1, I1, q1⟩ => ?_)
  cases d with
  | true => exact ha pins s1 σ H1 Q I1 q1
  | false => exact hb pins s1 σ H1 Q I1 q1
end
end L2

namespace L2
open PySem PySem.Spec PyProof.Rows

/-! ### a list, a tuple that is read: tracked, frozen, or an object of the module -/
def SqL (K : PySem.W.Frag) (H : Hp) (a : Addr) (xs : List V) : Prop :=
  Rd H a (.lst xs) ∨
    ∃ (o : Obj) (its : Array Value) (n : Nat), K.lookup a = some o ∧ o.cls = .type "list" ∧ o.dict = none ∧ o.data = .seq its n ∧ its.size ≤ sizeLine ∧ Vals xs its.toList
def SqT (K : PySem.W.Frag) (H : Hp) (a : Addr) (xs : List V) : Prop :=
  Rd H a (.tup xs) ∨
    ∃ (o : Obj) (its : Array Value) (n : Nat), K.lookup a = some o ∧ o.cls = .type "tuple" ∧ o.data = .seq its n ∧ its.size ≤ sizeLine ∧ Vals xs its.toList
def absV : Value → Option V
  | .none => some .non
  | .bool b => some (.bl b)
  | .int i _ => some (.int i)
  | .str x _ => some (.str x)
  | .bytes b _ => some (.byt b)
  | .float b _ => some (.flt b)
  | .ref a => some (.ref a)
  | .type n => some (.ty n)
  | _ => none
theorem RelV.abs {x : V} {u : Value} (r : RelV x u) : absV u = some x := by
  cases x with
  | non => cases r; rfl
  | bl _ => cases r; rfl
  | int _ => obtain ⟨t, rfl⟩ := r; rfl
  | str _ => obtain ⟨t, rfl⟩ := r; rfl
  | byt _ => obtain ⟨t, rfl⟩ := r; rfl
  | flt _ => obtain ⟨t, rfl⟩ := r; rfl
  | ref _ => cases r; rfl
  | ty _ => cases r; rfl
theorem RelV.inj {x y : V} {u : Value} (r : RelV x u) (q : RelV y u) : x = y := Option.some.inj (r.abs.symm.trans q.abs)
theorem Vals.inj : ∀ {xs ys : List V} {us : List Value}, Vals xs us → Vals ys us → xs = ys
  | _, _, _, .nil, .nil => rfl
  | _, _, _, .cons r t, .cons r' t' => by rw [r.inj r', Vals.inj t t']
section
variable {X : Cx} {pins : List (Addr × Obj)} {σ : St} {H : Hp} {s : Shared} {a : Addr} {xs ys : List V}
theorem SqL.of {K : PySem.W.Frag} (h : H a = some (.lst xs)) : SqL K H a xs := .inl (.inl h)
theorem SqT.of {K : PySem.W.Frag} (h : H a = some (.tup xs)) : SqT K H a xs := .inl (.inl h)
theorem Inv.list (I : Inv X pins σ H s) (h : SqL X.K H a xs) : ∃ its : List Value, Vals xs its ∧ PlainL s.heap a its.toArray ∧ xs.length ≤ sizeLine := by
  rcases h with h | ⟨o, its, n, hk, hc, hd, hs, hz, r⟩
  · obtain ⟨z, its, n, r, e⟩ := h.ok I.hok
    exact ⟨its, r, ⟨_, n, e, rfl, rfl, rfl⟩, z⟩
  · refine ⟨its.toList, r, ⟨o, n, I.kIn a o hk, hc, hd, by simpa using hs⟩, ?_⟩
    have e := r.length
    simp only [Array.length_toList] at e
    omega
theorem Inv.tuple (I : Inv X pins σ H s) (h : SqT X.K H a xs) : ∃ its : List Value, Vals xs its ∧ IsTup s.heap a its.toArray ∧ xs.length ≤ sizeLine := by
  rcases h with h | ⟨o, its, n, hk, hc, hs, hz, r⟩
  · obtain ⟨z, its, r, p⟩ := h.ok I.hok
    exact ⟨its, r, p, z⟩
  · refine ⟨its.toList, r, ⟨o, I.kIn a o hk, hc, n, by simpa using hs⟩, ?_⟩
    have e := r.length
    simp only [Array.length_toList] at e
    omega
theorem Inv.list_inj (I : Inv X pins σ H s) (h : SqL X.K H a xs) (h' : SqL X.K H a ys) : xs = ys := by
  obtain ⟨its, r, ⟨o, n, e, _, _, d⟩, _⟩ := I.list h
  obtain ⟨its', r', ⟨o', n', e', _, _, d'⟩, _⟩ := I.list h'
  rw [e] at e'; cases e'
  rw [d] at d'
  injection d' with d1 _
  have : its = its' := by simpa using congrArg Array.toList d1
  subst this
  exact r.inj r'
theorem Inv.tuple_inj (I : Inv X pins σ H s) (h : SqT X.K H a xs) (h' : SqT X.K H a ys) : xs = ys := by
  obtain ⟨its, r, ⟨o, e, _, n, d⟩, _⟩ := I.tuple h
  obtain ⟨its', r', ⟨o', e', _, n', d'⟩, _⟩ := I.tuple h'
  rw [e] at e'; cases e'
  rw [d] at d'
  injection d' with d1 _
  have : its = its' := by simpa using congrArg Array.toList d1
  subst this
  exact r.inj r'
end

/-! ### another wish about exceptions -/
abbrev Cx.wish (X : Cx) (E : Value → Shared → Prop) : Cx := { X with xe := E }
/-- no exception leaves -/
abbrev Cx.nox (X : Cx) : Cx := X.wish fun _ _ => False
theorem Cx.Ok.wish {X : Cx} (ok : X.Ok) (E : Value → Shared → Prop) : (X.wish E).Ok :=
  ⟨ok.mod, ok.kind, ok.glob, ok.blt, ok.above, ok.inj, ok.has, ok.cab, ok.hd, ok.frames, ok.stk, ok.exf, ok.bs, ok.bsz, ok.noex, ok.exfs, ok.funs, ok.frf⟩
theorem Cx.Ok.unwish {X : Cx} {E : Value → Shared → Prop} (ok : (X.wish E).Ok) : X.Ok :=
  ⟨ok.mod, ok.kind, ok.glob, ok.blt, ok.above, ok.inj, ok.has, ok.cab, ok.hd, ok.frames, ok.stk, ok.exf, ok.bs, ok.bsz, ok.noex, ok.exfs, ok.funs, ok.frf⟩
section
variable {X : Cx} {pins : List (Addr × Obj)} {σ : St} {H : Hp} {s : Shared} {E : Value → Shared → Prop}
theorem Inv.wish (I : Inv X pins σ H s) (E : Value → Shared → Prop) : Inv (X.wish E) pins σ H s := ⟨I.ok.wish E, I.os, I.bare, I.base, I.loc, I.cell, I.free, I.freeC, I.pin, I.hok, I.len⟩
theorem Inv.unwish (I : Inv (X.wish E) pins σ H s) : Inv X pins σ H s := ⟨I.ok.unwish, I.os, I.bare, I.base, I.loc, I.cell, I.free, I.freeC, I.pin, I.hok, I.len⟩
theorem SP.unwish {D : Ends} {f : Flow} {s' : Shared} (h : SP (X.wish E) pins D f s') : SP X pins D f s' := by
  cases f with
  | next => obtain ⟨σ', H', I, q⟩ := h; exact ⟨σ', H', I.unwish, q⟩
  | brk => obtain ⟨σ', H', I, q⟩ := h; exact ⟨σ', H', I.unwish, q⟩
  | cont => obtain ⟨σ', H', I, q⟩ := h; exact ⟨σ', H', I.unwish, q⟩
  | ret u => obtain ⟨v, σ', H', I, r, q⟩ := h; exact ⟨v, σ', H', I.unwish, r, q⟩
theorem PE.nox {e : Expr} {t : TE} (h : PE X.nox e t) : PE X e t := fun pins s σ H Q I hw =>
  wpAny_mono (h pins s σ H Q (I.wish _) hw) (fun _ _ ⟨v, H', I', r, q⟩ => ⟨v, H', I'.unwish, r, q⟩) fun _ _ z => False.elim z
theorem PT.nox {e : Expr} {t : TT} (h : PT X.nox e t) : PT X e t := fun pins s σ H Q I hw =>
  wpAny_mono (h pins s σ H Q (I.wish _) hw) (fun _ _ ⟨H', I', q⟩ => ⟨H', I'.unwish, q⟩) fun _ _ z => False.elim z
theorem PSs.nox {st : List Stmt} {t : TS} (h : PSs X.nox st t) : PSs X st t := fun pins s σ H D I hw =>
  wpAny_mono (h pins s σ H D (I.wish _) hw) (fun _ _ q => q.unwish) fun _ _ z => False.elim z
end

/-! ### blocks and small statements -/
section
variable {X : Cx} {st : Stmt} {rest : List Stmt} {t u : TS} {e : Expr} {te : TE} {pos : Pos}
def tNext : TS := fun D σ H => D.nx σ H
def tSeq (t u : TS) : TS := fun D σ H => t { D with nx := u D } σ H
theorem pss_nil : PSs X [] tNext := fun _ _ σ H _ I h => wpAny_execs_nil ⟨σ, H, I, h⟩
theorem pss_cons (h1 : PS X st t) (h2 : PSs X rest u) : PSs X (st :: rest) (tSeq t u) := by
  intro pins s σ H D I h
  refine wpAny_execs_cons (thn (h1 pins s σ H { D with nx := u D } I h) fun f s1 q => ?_)
  cases f with
  | next =>
    obtain ⟨σ', H', I', q⟩ := q
    exact h2 pins s1 σ' H' D I' q
  | ret v => exact q
  | brk => exact q
  | cont => exact q
theorem pss_one (h1 : PS X st t) : PSs X [st] t := by
  intro pins s σ H D I h
  refine wpAny_execs_cons (thn (h1 pins s σ H D I h) fun f s1 q => ?_)
  cases f with
  | next => exact wpAny_execs_nil q
  | ret v => exact q
  | brk => exact q
  | cont => exact q
def tBreak : TS := fun D σ H => D.bk σ H
def tCont : TS := fun D σ H => D.ct σ H
/-- in a def's body nothing is shown -/
theorem Inv.quiet {pins : List (Addr × Obj)} {σ : St} {H : Hp} {s : Shared} (I : Inv X pins σ H s) : interactive X.env = false := by simp [interactive, I.ok.kind]
/-- an expression whose value is dropped -/
def tDrop (te : TE) : TS := fun D σ H => te σ H fun _ H1 => D.nx σ H1
theorem ps_expr (he : PE X e te) (hs : swapsWith e none pos.line X.env = pure false := by rfl) : PS X (.Expr e pos) (tDrop te) := by
  intro pins s σ H D I h
  exact wpAny_Expr_any (thn (he pins s σ H _ I h) fun v s1 ⟨x, H1, I1, r1, q1⟩ => ⟨σ, H1, I1, q1⟩) I.quiet hs
def tRet (te : TE) : TS := fun D σ H => te σ H D.rt
theorem ps_ret (he : PE X e te) : PS X (.Return (some e) pos) (tRet te) := by
  intro pins s σ H D I h
  exact wpAny_Return_some (thn (he pins s σ H _ I h) fun v s1 ⟨x, H1, I1, r1, q1⟩ => ⟨x, σ, H1, I1, r1, q1⟩)
def tRetN : TS := fun D _ H => D.rt .non H
def tIfS (c : TT) (t u : TS) : TS := fun D σ H => c σ H fun b H1 => if b = true then t D σ H1 else u D σ H1
theorem ps_if {c : Expr} {a b : List Stmt} {tc : TT} (hc : PT X c tc) (ha : PSs X a t) (hb : PSs X b u) : PS X (.If c a b pos) (tIfS tc t u) := by
  intro pins s σ H D I h
  refine wpAny_If (thn (hc pins s σ H _ I h) fun d s1 ⟨H1, I1, q1⟩ => ?_)
  cases d with
  | true => exact ha pins s1 σ H1 D I1 q1
  | false => exact hb pins s1 σ H1 D I1 q1
/-- code that the proof never comes to -/
def tNever : TS := fun _ _ _ => False
end

/-! ### targets -/
abbrev TG := V → St → Hp → (St → Hp → Prop) → Prop
abbrev TGs := List V → St → Hp → (St → Hp → Prop) → Prop
def PG (X : Cx) (target : Expr) (t : TG) : Prop :=
  ∀ (pins : List (Addr × Obj)) (s : Shared) (σ : St) (H : Hp) (v : V) (u : Value) (Q : St → Hp → Prop), Inv X pins σ H s → RelV v u → t v σ H Q →
    wpAny (model X.prog X.w) X.A (assign target X.env u) (fun _ s' => ∃ σ' H', Inv X pins σ' H' s' ∧ Q σ' H') X.xe s
/-- several targets, one after another -/
def PGs (X : Cx) (ts : List Expr) (t : TGs) : Prop :=
  ∀ (pins : List (Addr × Obj)) (s : Shared) (σ : St) (H : Hp) (vs : List V) (us : List Value) (Q : St → Hp → Prop), Inv X pins σ H s → Vals vs us → t vs σ H Q →
    wpAny (model X.prog X.w) X.A (assignInOrder ((assignEach ts X.env).map (·.2)) us) (fun _ s' => ∃ σ' H', Inv X pins σ' H' s' ∧ Q σ' H') X.xe s
/-- o[i] = v, by values -/
abbrev TSet := V → V → V → Hp → (Hp → Prop) → Prop
def PSet (X : Cx) (t : TSet) : Prop :=
  ∀ (pins : List (Addr × Obj)) (s : Shared) (σ : St) (H : Hp) (o i v : V) (ov iv u : Value) (Q : Hp → Prop), Inv X pins σ H s → RelV o ov → RelV i iv → RelV v u → t o i v H Q →
    wpAny (model X.prog X.w) X.A (setItem ov iv u) (fun _ s' => ∃ H', Inv X pins σ H' s' ∧ Q H') X.xe s
/-- a op= b, by values -/
abbrev TIp := V → V → Hp → VK → Prop
def PIp (X : Cx) (op : Operator) (t : TIp) : Prop :=
  ∀ (pins : List (Addr × Obj)) (s : Shared) (σ : St) (H : Hp) (x y : V) (v u : Value) (Q : VK), Inv X pins σ H s → RelV x v → RelV y u → t x y H Q →
    wpAny (model X.prog X.w) X.A (inplaceOp op v u) (EP X pins σ Q) X.xe s
section
variable {X : Cx} {pos : Pos}
def gName (i : Nat) : TG := fun v σ H Q => Q (σ.set i (some v)) H
theorem pg_name {i : Nat} {x : Str} (hN : X.N.Nodup) (hi : X.N[i]? = some x) (hx : Loc X.env.scope x) (hf : X.fn x = true ∨ X.env.scope.names.lookup x = some .local := by first | exact .inl rfl | exact .inr rfl | assumption) : PG X (.Name x pos) (gName i) := by
  intro pins s σ H v u Q I r h
  exact wpAny_assign_Name (store_ok I hN hi hx r (fun s' I' => ⟨_, H, I', h⟩) hf)
def gNil : TGs := fun vs σ H Q => vs = [] ∧ Q σ H
def gCons (t : TG) (u : TGs) : TGs := fun vs σ H Q => ∃ v r, vs = v :: r ∧ t v σ H fun σ' H' => u r σ' H' Q
theorem pgs_nil : PGs X [] gNil := by
  intro pins s σ H vs us Q I r h
  obtain ⟨e, h⟩ := h
  subst e
  cases r
  exact assignInOrder_nil ⟨σ, H, I, h⟩
theorem pgs_cons {e : Expr} {es : List Expr} {t : TG} {u : TGs} (h1 : PG X e t) (h2 : PGs X es u)
    (hs : (assignEach (e :: es) X.env).map (·.2) = assign e X.env :: (assignEach es X.env).map (·.2) := by rfl) : PGs X (e :: es) (gCons t u) := by
  intro pins s σ H vs us Q I r h
  obtain ⟨v, vr, e1, h⟩ := h
  subst e1
  cases r with
  | cons r rr =>
    rw [hs]
    refine assignInOrder_cons (thn (h1 pins s σ H _ _ _ I r h) fun _ s1 ⟨σ1, H1, I1, q1⟩ => ?_)
    exact h2 pins s1 σ1 H1 _ _ Q I1 rr q1
/-- (a, b, ..) = a tuple of that length -/
def gTup (K : PySem.W.Frag) (n : Nat) (t : TGs) : TG := fun v σ H Q => ∃ a xs, v = .ref a ∧ SqT K H a xs ∧ xs.length = n ∧ t xs σ H Q
theorem pg_tup {es : List Expr} {k : Nat} {t : TGs} {n : Nat} (hc : X.calm = true) (h : PGs X es t)
    (hn : (assignEach es X.env).length = n := by rfl) (hst : (assignEach es X.env).findIdx? (·.1) = none := by rfl) : PG X (.Tuple es k pos) (gTup X.K n t) := by
  intro pins s σ H v u Q I r hw
  obtain ⟨a, xs, e1, hq, hl, hw⟩ := hw
  subst e1
  cases r
  obtain ⟨its, rv, ht, hz⟩ := I.tuple hq
  refine assign_Tuple_tuple (I.ok.hd hc) ht (by simp [hn, ← hl, rv.length]) hst fun h' hx => ?_
  have I1 : Inv X pins σ H { s with heap := h' } := I.kept (t' := s.toks) fun b o e => hx b o (Nat.ne_of_lt (Heap.lt_size e)) e
  exact h pins _ σ H xs _ Q I1 (by simpa using rv) hw
/-- o[i] = .. -/
def gSub (to ti : TE) (t : TSet) : TG := fun v σ H Q => to σ H fun o H1 => ti σ H1 fun i H2 => t o i v H2 fun H3 => Q σ H3
theorem pg_sub {o i : Expr} {to ti : TE} {t : TSet} (ho : PE X o to) (hi : PE X i ti) (hs : PSet X t)
    (ha : ∀ v, assign (.Subscript o i pos) X.env v = (do
      let ov ← holding [v] (eval o X.env)
      let iv ← holding [v, ov] (eval i X.env)
      standAt pos
      holding [v, ov, iv] (setItem ov iv v)
      release [v, ov, iv] []) := by intro _; rfl) : PG X (.Subscript o i pos) (gSub to ti t) := by
  intro pins s σ H v u Q I r h
  rw [ha]
  refine wpAny_bind (wpAny_holding (thn (ho pins s σ H _ I h) fun ov s1 ⟨x, H1, I1, r1, q1⟩ => ?_))
  refine wpAny_bind (wpAny_holding (thn (hi pins s1 σ H1 _ I1 q1) fun iv s2 ⟨y, H2, I2, r2, q2⟩ => ?_))
  refine wpAny_bind (wpAny_standAt (wpAny_bind (wpAny_holding (thn (hs pins s2 σ H2 x y v ov iv u _ I2 r1 r2 r q2) fun _ s3 ⟨H3, I3, q3⟩ => ?_))))
  exact wpAny_release ⟨σ, H3, I3, q3⟩
/-- target = value -/
def tAsg (te : TE) (g : TG) : TS := fun D σ H => te σ H fun x H1 => g x σ H1 D.nx
theorem ps_asg {tg e : Expr} {te : TE} {g : TG} (he : PE X e te) (hg : PG X tg g) (hs : swapsWithSole [tg] e pos.line X.env = pure false := by rfl) (hw : swappedStores [tg] e X.env = pure none := by rfl)
    (h1 : (assignEach [tg] X.env).map (·.2) = [assign tg X.env] := by rfl) : PS X (.Assign [tg] e pos) (tAsg te g) := by
  intro pins s σ H D I h
  refine wpAny_Assign_stores (thn (he pins s σ H _ I h) fun v s1 ⟨x, H1, I1, r1, q1⟩ => ?_) hs hw
  rw [h1]
  exact thn (hg pins s1 σ H1 x v _ I1 r1 q1) fun _ s2 q => q
/-- name = value -/
theorem ps_set {i : Nat} {x : Str} {e : Expr} {te : TE} {pos' : Pos} (hN : X.N.Nodup) (hi : X.N[i]? = some x) (hx : Loc X.env.scope x) (he : PE X e te) (hs : swapsWith e (some (.Name x pos')) pos.line X.env = pure false := by rfl) (hf : X.fn x = true ∨ X.env.scope.names.lookup x = some .local := by first | exact .inl rfl | exact .inr rfl | assumption) :
    PS X (.Assign [.Name x pos'] e pos) (tAsg te (gName i)) := by
  intro pins s σ H D I h
  refine wpAny_Assign_Name (thn (he pins s σ H _ I h) fun v s1 ⟨y, H1, I1, r1, q1⟩ => ?_) hs
  exact store_ok I1 hN hi hx r1 (fun s2 I2 => ⟨_, H1, I2, q1⟩) hf
/-- a, b = x, y with plain local names: stored from the right; the pair itself is not tracked (the opening rows as in PyProof/Rows/TupAssign.lean:23) -/
def tPar (i j : Nat) (ta : TA) : TS := fun D σ H => ta σ H fun vs H1 => ∃ v w, vs = [v, w] ∧ D.nx ((σ.set i (some v)).set j (some w)) H1
/-- name op= e -/
def tAug (i : Nat) (te : TE) (ti : TIp) : TS := fun D σ H => ∃ x, σ[i]? = some (some x) ∧ te σ H fun y H1 => ti x y H1 fun z H2 => D.nx (σ.set i (some z)) H2
/-- o[i] op= e -/
def tAugS (to ti te : TE) (tget : V → V → Hp → VK → Prop) (tip : TIp) (tset : TSet) : TS := fun D σ H => to σ H fun o H1 => ti σ H1 fun i H2 => tget o i H2 fun x H3 => te σ H3 fun y H4 => tip x y H4 fun z H5 => tset o i z H5 fun H6 => D.nx σ H6
/-- o[i], by values -/
def PGet (X : Cx) (t : V → V → Hp → VK → Prop) : Prop :=
  ∀ (pins : List (Addr × Obj)) (s : Shared) (σ : St) (H : Hp) (o i : V) (ov iv : Value) (Q : VK), Inv X pins σ H s → RelV o ov → RelV i iv → t o i H Q →
    wpAny (model X.prog X.w) X.A (getItem ov iv) (EP X pins σ Q) X.xe s
/-- ints -/
def ipI (f : Int → Int → Int) : TIp := fun x y H Q => ∃ i j, x = .int i ∧ y = .int j ∧ Q (.int (f i j)) H
end

/-! ### while -/
section
variable {X : Cx} {pos : Pos}
/-- the invariant W with its measure -/
def tWhile (c : TT) (tb : TS) : TS := fun D σ H => ∃ W : Nat → St → Hp → Prop, (∃ m, W m σ H) ∧ ∀ m σ H, W m σ H →
  c σ H fun b H1 => if b = true then ∃ N : St → Hp → Prop, (∀ σ' H', N σ' H' → ∃ m', m' < m ∧ W m' σ' H') ∧ tb { D with nx := N, ct := N, bk := D.nx } σ H1 else D.nx σ H1
theorem ps_while {c : Expr} {body : List Stmt} {tc : TT} {tb : TS} (hp : PassesOwn (model X.prog X.w) X.A X.env X.xe) (hc : PT X c tc) (hb : PSs X body tb) : PS X (.While c body [] pos) (tWhile tc tb) := by
  intro pins s σ H D I h
  obtain ⟨W, ⟨m0, w0⟩, turn⟩ := h
  refine wpAny_While (codeAny_whileLoop (fun n s' => ∃ σ' H', Inv X pins σ' H' s' ∧ W n σ' H') ?_ m0 ⟨σ, H, I, w0⟩)
  rintro n s1 ⟨σ1, H1, I1, w1⟩
  refine wpAny_passesOwn hp (thn (hc pins s1 σ1 H1 _ I1 (turn n σ1 H1 w1)) fun b s2 ⟨H2, I2, q2⟩ => ?_)
  cases b with
  | true =>
    obtain ⟨N, hN, q2⟩ := q2
    rw [if_pos rfl]
    refine wpAny_passesOwn hp (thn (hb pins s2 σ1 H2 _ I2 q2) fun f s3 q3 => ?_)
    cases f with
    | next =>
      obtain ⟨σ3, H3, I3, n3⟩ := q3
      obtain ⟨m', hm, w3⟩ := hN σ3 H3 n3
      exact ⟨m', hm, σ3, H3, I3, w3⟩
    | cont =>
      obtain ⟨σ3, H3, I3, n3⟩ := q3
      obtain ⟨m', hm, w3⟩ := hN σ3 H3 n3
      exact ⟨m', hm, σ3, H3, I3, w3⟩
    | brk => exact q3
    | ret v => exact q3
  | false =>
    rw [if_neg Bool.false_ne_true]
    exact wpAny_execs_nil ⟨σ1, H2, I2, q2⟩
end

/-! ### what a loop or a comprehension walks -/
/-- at turn i: it yields x (the heap may grow), or it stops -/
structure It where
  go : Nat → Hp → Prop
  yld : Nat → Hp → V → Hp → Prop
  stop : Nat → Hp → Prop
/-- the iterator's own objects may turn: they are not the frame's, not pinned, younger than the entry (or a comprehension's own) -/
def FpOk (X : Cx) (pins : List (Addr × Obj)) (H : Hp) (b : Addr) : Prop :=
  H b = none ∧ b ≠ X.env.locals ∧ b ∉ X.fs ∧ (b ∈ X.ex ∨ X.s₀.heap.objs.size ≤ b) ∧ (∀ x c, X.env.cells.lookup x = some c → c ≠ b) ∧ ∀ p ∈ X.pn ++ pins, p.1 ≠ b
theorem Inv.fpOk {X : Cx} {pins : List (Addr × Obj)} {σ : St} {H H' : Hp} {s : Shared} {b : Addr} (I : Inv X pins σ H s) (hb : s.heap.objs.size ≤ b) (hn : H' b = none) : FpOk X pins H' b := by
  refine ⟨hn, Nat.ne_of_gt (Nat.lt_of_lt_of_le I.lt hb), I.nofs hb, .inr (Nat.le_trans I.sz hb), fun x c e z => ?_, fun p hp z => ?_⟩
  · obtain ⟨v, q⟩ := I.cell x c e
    exact absurd (Nat.lt_of_lt_of_le q.lt (by rw [z]; exact hb)) (Nat.lt_irrefl _)
  · exact absurd (Nat.lt_of_lt_of_le (Heap.lt_size (I.pin p hp).1) (by rw [z]; exact hb)) (Nat.lt_irrefl _)
structure Turn (P : Program) (w : World) (K : PySem.W.Frag) (tg : Expr) (J : It) (fp : List Addr) (it : Addr) (tn : Nat → Heap → Prop) : Prop where
  mem : it ∈ fp
  obj : ∀ i h, tn i h → ∀ b ∈ fp, ∃ o, h.get? b = some o ∧ ∀ v, o.data ≠ .cell v
  keep : ∀ i h h', tn i h → (∀ b ∈ fp, ∀ o, h.get? b = some o → h'.get? b = some o) → tn i h'
  item : ∀ (X : Cx), X.prog = P → X.w = w → X.K = K → X.calm = true → ∀ (i : Nat) (pins : List (Addr × Obj)) (s : Shared) (σ : St) (H : Hp) (E : Value → Shared → Prop), Inv X pins σ H s → (∀ b ∈ fp, FpOk X pins H b) → tn i s.heap → J.go i H →
    wpAny (model P w) X.A (pyNext (.ref it)) (fun r s1 => ∃ u, r = some u ∧
      wpAny (model P w) X.A (letOwnedTupleGo tg (.ref it) u) (fun _ s2 => ∃ x H', Inv X pins σ H' s2 ∧ RelV x u ∧ J.yld i H x H' ∧ tn (i + 1) s2.heap ∧ ∀ b ∈ fp, H' b = none) E s1) E s
  done : ∀ (X : Cx), X.prog = P → X.w = w → X.K = K → X.calm = true → ∀ (i : Nat) (pins : List (Addr × Obj)) (s : Shared) (σ : St) (H : Hp) (E : Value → Shared → Prop), Inv X pins σ H s → (∀ b ∈ fp, FpOk X pins H b) → tn i s.heap → J.stop i H →
    wpAny (model P w) X.A (pyNext (.ref it)) (fun r s1 => r = none ∧ Inv X pins σ H s1) E s
  self : ∀ (A : Around) (i : Nat) (s : Shared) (Q : Value → Shared → Prop) (E : Value → Shared → Prop), tn i s.heap → Q (.ref it) s → wpAny (model P w) A (pyIter (.ref it)) Q E s
abbrev TI := St → Hp → (It → Hp → Prop) → Prop
/-- an iterator has come -/
def PIE (X : Cx) (pins : List (Addr × Obj)) (σ : St) (tg : Expr) (R : It → Hp → Prop) (itv : Value) (s2 : Shared) : Prop :=
  ∃ (it : Addr) (fp : List Addr) (tn : Nat → Heap → Prop) (J : It) (H' : Hp), itv = .ref it ∧ Inv X pins σ H' s2 ∧ Turn X.prog X.w X.K tg J fp it tn ∧ tn 0 s2.heap ∧ (∀ b ∈ fp, FpOk X pins H' b) ∧ R J H'
def PI (X : Cx) (tg iter : Expr) (wi : TI) : Prop :=
  ∀ (pins : List (Addr × Obj)) (s : Shared) (σ : St) (H : Hp) (R : It → Hp → Prop), Inv X pins σ H s → wi σ H R →
    wpAny (model X.prog X.w) X.A (eval iter X.env) (fun v s1 => wpAny (model X.prog X.w) X.A (pyIter v) (PIE X pins σ tg R) X.xe s1) X.xe s

/-- the step ahead of the store is nothing for an iterator that keeps no tuple -/
theorem go_of {M : Model} {A : Around} {E : Value → Shared → Prop} {s : Shared} {tg : Expr} {it : Addr} {u : Value} {o : Obj} {n : String} {vs : Array Value} {Q : Unit → Shared → Prop} (ho : s.heap.get? it = some o) (hc : o.cls = .type n) (hd : o.data = .fields vs)
    (hn : ["enumerate", "zip", "dict_itemiterator", "dict_reverseitemiterator", "odict_iterator", "itertools.zip_longest", "itertools.pairwise"].contains n = false) (hQ : Q () s) : wpAny M A (letOwnedTupleGo tg (.ref it) u) Q E s := by
  unfold letOwnedTupleGo
  cases tg <;> first
    | exact wpAny_pure hQ
    | (cases u <;> first
        | exact wpAny_pure hQ
        | (refine wpAny_bind (wpAny_load ho ?_)
           rw [hc, hd]
           show wpAny M A (if (["enumerate", "zip", "dict_itemiterator", "dict_reverseitemiterator", "odict_iterator", "itertools.zip_longest", "itertools.pairwise"].contains n && vs[0]? == some (rawInt _)) = true then _ else _) Q E s
           rw [if_neg (by intro h; rw [hn, Bool.false_and] at h; cases h)]
           exact wpAny_pure hQ))

/-- the list at a, as it stands at each turn (a loop may append to it) -/
def Itl (K : PySem.W.Frag) (a : Addr) : It :=
  ⟨fun i H => ∃ xs x, SqL K H a xs ∧ xs[i]? = some x, fun i H x H' => H' = H ∧ ∀ xs, SqL K H a xs → xs[i]? = some x, fun i H => ∃ xs, SqL K H a xs ∧ xs.length ≤ i⟩
def Itt (K : PySem.W.Frag) (a : Addr) : It :=
  ⟨fun i H => ∃ xs x, SqT K H a xs ∧ xs[i]? = some x, fun i H x H' => H' = H ∧ ∀ xs, SqT K H a xs → xs[i]? = some x, fun i H => ∃ xs, SqT K H a xs ∧ xs.length ≤ i⟩
/-- lo, lo + 1, .. (n of them) -/
def Itr (lo : Int) (n : Nat) : It := ⟨fun i _ => i < n, fun i H x H' => H' = H ∧ x = .int (lo + i), fun i _ => n ≤ i⟩
theorem turn_list {P : Program} {w : World} {K : PySem.W.Frag} {tg : Expr} (a it : Addr) : Turn P w K tg (Itl K a) [it] it (fun i h => h.IsListIter it a i) where
  mem := by simp
  obj := fun i h st b hb => by
    have e : b = it := by simpa using hb
    subst e
    obtain ⟨o, e, c, d⟩ := st
    exact ⟨o, e, fun v z => by rw [d] at z; cases z⟩
  keep := fun i h h' st k => st.at fun o e => k it (by simp) o e
  item := by
    intro X hP hw hK hc i pins s σ H E I hf st hg
    subst hP hw hK
    obtain ⟨xs, x, hq, hx⟩ := hg
    obtain ⟨its, rv, p, hz⟩ := I.list hq
    obtain ⟨u, hu, ru⟩ := rv.get hx
    obtain ⟨f0, f1, f2, f3, f4, f5⟩ := hf it (by simp)
    refine wpAny_pyNext_list_item st p.isList (x := u) (by simpa using hu) fun h' st' sb => ?_
    have I1 : Inv X pins σ H { s with heap := h' } := I.turned (t' := s.toks) (fun b o hb e => (sb.2 b hb).trans e) f0 f1 f3 f4 f5
    obtain ⟨o, e, c, d⟩ := id st'
    exact ⟨u, rfl, go_of (s := { s with heap := h' }) e c d (by decide) ⟨x, H, I1, ru, ⟨rfl, fun ys hy => by rw [I.list_inj hy hq]; exact hx⟩, st', fun b hb => (hf b hb).1⟩⟩
  done := by
    intro X hP hw hK hc i pins s σ H E I hf st hg
    subst hP hw hK
    obtain ⟨xs, hq, hx⟩ := hg
    obtain ⟨its, rv, p, hz⟩ := I.list hq
    obtain ⟨f0, f1, f2, f3, f4, f5⟩ := hf it (by simp)
    have hl := rv.length
    exact wpAny_pyNext_list_end (I.ok.hd hc) st p.isList (by simp; omega) fun h' eb => ⟨rfl, I.turned (t' := s.toks) (fun b o hb e => eb b o hb e) f0 f1 f3 f4 f5⟩
  self := fun _ _ _ _ _ st h => wpAny_pyIter_listiter st h
theorem turn_tuple {P : Program} {w : World} {K : PySem.W.Frag} {tg : Expr} (a it : Addr) : Turn P w K tg (Itt K a) [it] it (fun i h => h.IsTupleIter it a i) where
  mem := by simp
  obj := fun i h st b hb => by
    have e : b = it := by simpa using hb
    subst e
    obtain ⟨o, e, c, d⟩ := st
    exact ⟨o, e, fun v z => by rw [d] at z; cases z⟩
  keep := fun i h h' st k => st.at fun o e => k it (by simp) o e
  item := by
    intro X hP hw hK hc i pins s σ H E I hf st hg
    subst hP hw hK
    obtain ⟨xs, x, hq, hx⟩ := hg
    obtain ⟨its, rv, p, hz⟩ := I.tuple hq
    obtain ⟨u, hu, ru⟩ := rv.get hx
    obtain ⟨f0, f1, f2, f3, f4, f5⟩ := hf it (by simp)
    refine wpAny_pyNext_tuple_item st (show s.heap.IsTuple a its.toArray from p) (x := u) (by simpa using hu) fun h' st' sb => ?_
    have I1 : Inv X pins σ H { s with heap := h' } := I.turned (t' := s.toks) (fun b o hb e => (sb.2 b hb).trans e) f0 f1 f3 f4 f5
    obtain ⟨o, e, c, d⟩ := id st'
    exact ⟨u, rfl, go_of (s := { s with heap := h' }) e c d (by decide) ⟨x, H, I1, ru, ⟨rfl, fun ys hy => by rw [I.tuple_inj hy hq]; exact hx⟩, st', fun b hb => (hf b hb).1⟩⟩
  done := by
    intro X hP hw hK hc i pins s σ H E I hf st hg
    subst hP hw hK
    obtain ⟨xs, hq, hx⟩ := hg
    obtain ⟨its, rv, p, hz⟩ := I.tuple hq
    obtain ⟨f0, f1, f2, f3, f4, f5⟩ := hf it (by simp)
    have hl := rv.length
    exact wpAny_pyNext_tuple_end (I.ok.hd hc) st (show s.heap.IsTuple a its.toArray from p) (by simp; omega) fun h' eb => ⟨rfl, I.turned (t' := s.toks) (fun b o hb e => eb b o hb e) f0 f1 f3 f4 f5⟩
  self := fun _ _ _ _ _ st h => wpAny_pyIter_tupleiter st h
theorem turn_range {P : Program} {w : World} {K : PySem.W.Frag} {tg : Expr} (it : Addr) (lo : Int) (n : Nat) : Turn P w K tg (Itr lo n) [it] it (fun i h => IsRangeIter h it (lo + (i : Nat) * 1) ((n : Int) - (i : Nat)) 1) where
  mem := by simp
  obj := fun i h st b hb => by
    have e : b = it := by simpa using hb
    subst e
    exact ⟨_, st, fun v z => by
      have z' : Data.fields _ = Data.cell v := z
      cases z'⟩
  keep := fun i h h' st k => k it (by simp) _ st
  item := by
    intro X hP hw hK hc i pins s σ H E I hf st hg
    subst hP hw hK
    obtain ⟨f0, f1, f2, f3, f4, f5⟩ := hf it (by simp)
    have W := Walks.range (prog := X.prog) (w := X.w) (I.ok.hd hc) it lo 1 n
    refine W.item i s _ _ hg st fun v h' tk hv st' kk => ?_
    obtain ⟨t, rfl⟩ := hv
    have I1 : Inv X pins σ H { s with heap := h', toks := tk } := I.turned (fun b o hb e => kk b o (by simpa using hb) e) f0 f1 f3 f4 f5
    refine ⟨_, rfl, go_of (s := { s with heap := h', toks := tk }) (n := "range_iterator") st' rfl rfl (by decide) ⟨.int (lo + i), H, I1, ⟨t, ?_⟩, ⟨rfl, rfl⟩, st', fun b hb => (hf b hb).1⟩⟩
    rw [Int.mul_one]
  done := by
    intro X hP hw hK hc i pins s σ H E I hf st hg
    subst hP hw hK
    obtain ⟨f0, f1, f2, f3, f4, f5⟩ := hf it (by simp)
    exact wpAny_pyNext_range_end (I.ok.hd hc) st (by have : n ≤ i := hg; omega) fun h' eb => ⟨rfl, I.turned (t' := s.toks) (fun b o hb e => eb b o hb e) f0 f1 f3 f4 f5⟩
  self := fun _ _ _ _ _ st h => wpAny_pyIter_rangeiter st h
end L2

namespace L2
open PySem PySem.Spec PyProof.Rows
section
variable {X : Cx} {tg : Expr}
def iList (K : PySem.W.Frag) (tl : TE) : TI := fun σ H R => tl σ H fun x H1 => ∃ a, x = .ref a ∧ (∃ xs, SqL K H1 a xs) ∧ R (Itl K a) H1
def iTup (K : PySem.W.Frag) (tl : TE) : TI := fun σ H R => tl σ H fun x H1 => ∃ a, x = .ref a ∧ (∃ xs, SqT K H1 a xs) ∧ R (Itt K a) H1
theorem pi_list {l : Expr} {tl : TE} (hl : PE X l tl) : PI X tg l (iList X.K tl) := by
  intro pins s σ H R I h
  refine thn (hl pins s σ H _ I h) fun v s1 ⟨x, H1, I1, r1, q1⟩ => ?_
  obtain ⟨a, e, ⟨xs, hq⟩, q⟩ := q1
  subst e
  cases r1
  obtain ⟨its, rv, p, hz⟩ := I1.list hq
  refine wpAny_pyIter_list p.isList ?_
  refine ⟨s1.heap.objs.size, [s1.heap.objs.size], _, _, H1, rfl, I1.kept (t' := s1.toks) fun b o e => Heap.get?_push_of_some _ e, turn_list a _, ⟨_, Heap.get?_push_size _ rfl, rfl, rfl⟩, fun b hb => ?_, q⟩
  have e : b = s1.heap.objs.size := by simpa using hb
  subst e
  exact I1.fpOk (Nat.le_refl _) (I1.hok.fresh (Nat.le_refl _))
theorem pi_tup {l : Expr} {tl : TE} (hl : PE X l tl) : PI X tg l (iTup X.K tl) := by
  intro pins s σ H R I h
  refine thn (hl pins s σ H _ I h) fun v s1 ⟨x, H1, I1, r1, q1⟩ => ?_
  obtain ⟨a, e, ⟨xs, hq⟩, q⟩ := q1
  subst e
  cases r1
  obtain ⟨its, rv, p, hz⟩ := I1.tuple hq
  refine wpAny_pyIter_tuple (show s1.heap.IsTuple a its.toArray from p) ?_
  refine ⟨s1.heap.objs.size, [s1.heap.objs.size], _, _, H1, rfl, I1.kept (t' := s1.toks) fun b o e => Heap.get?_push_of_some _ e, turn_tuple a _, ⟨_, Heap.get?_push_size _ rfl, rfl, rfl⟩, fun b hb => ?_, q⟩
  have e : b = s1.heap.objs.size := by simpa using hb
  subst e
  exact I1.fpOk (Nat.le_refl _) (I1.hok.fresh (Nat.le_refl _))
/-- a range object just made, walked -/
theorem range_it {pins : List (Addr × Obj)} {σ : St} {H : Hp} {s : Shared} {R : It → Hp → Prop} {E : Value → Shared → Prop} {lo hi : Int} {t u v : Tok} {tk : Nat} (I : Inv X pins σ H s) (h1 : -(2 ^ 62) ≤ lo) (h2 : lo < 2 ^ 62) (h3 : -(2 ^ 62) ≤ hi) (h4 : hi < 2 ^ 62)
    (q : R (Itr lo (hi - lo).toNat) H) : wpAny (model X.prog X.w) X.A (pyIter (.ref s.heap.objs.size)) (PIE X pins σ tg R) E { s with heap := s.heap.push { cls := .type "range", data := .fields #[.int lo t, .int hi u, .int 1 v] }, toks := tk } := by
  refine wpAny_pyIter_range (IsRange.new ..) (small_one h1 h2 h3 h4) ?_
  have I1 : Inv X pins σ H { s with heap := s.heap.push { cls := .type "range", data := .fields #[.int lo t, .int hi u, .int 1 v] }, toks := tk } := I.kept fun b o e => Heap.get?_push_of_some _ e
  refine ⟨(s.heap.push { cls := .type "range", data := .fields #[.int lo t, .int hi u, .int 1 v] }).objs.size, [(s.heap.push { cls := .type "range", data := .fields #[.int lo t, .int hi u, .int 1 v] }).objs.size], _, _, H, rfl,
    I1.kept (t' := tk) fun b o e => Heap.get?_push_of_some _ e, turn_range _ lo (hi - lo).toNat, ?_, fun b hb => ?_, q⟩
  · have e1 : lo + ((0 : Nat) : Int) * 1 = lo := by simp
    have e2 : (((hi - lo).toNat : Nat) : Int) - ((0 : Nat) : Int) = Builtin.Range.rangeSize lo hi 1 := by rw [rangeSize_one]; split <;> omega
    show IsRangeIter _ _ (lo + ((0 : Nat) : Int) * 1) ((((hi - lo).toNat : Nat) : Int) - ((0 : Nat) : Int)) 1
    rw [e1, e2]
    exact Heap.get?_push_size _ rfl
  · have e : b = (s.heap.push { cls := .type "range", data := .fields #[.int lo t, .int hi u, .int 1 v] }).objs.size := by simpa using hb
    subst e
    exact I1.fpOk (Nat.le_refl _) (I1.hok.fresh (Nat.le_refl _))
def iRng1 (ta : TA) : TI := fun σ H R => ta σ H fun vs H1 => ∃ j : Int, vs = [.int j] ∧ -(2 ^ 62) ≤ j ∧ j < 2 ^ 62 ∧ R (Itr 0 j.toNat) H1
def iRng2 (ta : TA) : TI := fun σ H R => ta σ H fun vs H1 => ∃ i j : Int, vs = [.int i, .int j] ∧ (-(2 ^ 62) ≤ i ∧ i < 2 ^ 62 ∧ -(2 ^ 62) ≤ j ∧ j < 2 ^ 62) ∧ R (Itr i (j - i).toNat) H1
theorem pi_range1 {a : Expr} {ta : TA} {p pos : Pos} (hg : Gl X "range") (hm : X.mg "range" = none) (ha : PA X [a] ta) (hs : starEach [a] X.env = [(false, eval a X.env)] := by rfl) : PI X tg (.Call (.Name "range" p) [a] [] pos) (iRng1 ta) := by
  intro pins s σ H R I h
  refine Call_ (ld_blt I hg hm boot_range (PyProof.Rows.callWith_type1 (thn (ha pos pins s σ H _ I h) fun us s1 ⟨vs, H1, I1, r1, q1⟩ => ?_) hs rfl))
  obtain ⟨j, e, q1, q2, q⟩ := q1
  subst e
  cases r1 with
  | cons r rr =>
    cases rr
    obtain ⟨t, rfl⟩ := r
    exact call_range_1 (range_it I1 (by omega) (by omega) q1 q2 (by simpa using q))
theorem pi_range2 {a b : Expr} {ta : TA} {p pos : Pos} (hg : Gl X "range") (hm : X.mg "range" = none) (ha : PA X [a, b] ta) (hs : starEach [a, b] X.env = [(false, eval a X.env), (false, eval b X.env)] := by rfl) (hs2 : starEach [b] X.env = [(false, eval b X.env)] := by rfl) :
    PI X tg (.Call (.Name "range" p) [a, b] [] pos) (iRng2 ta) := by
  intro pins s σ H R I h
  refine Call_ (ld_blt I hg hm boot_range (PyProof.Rows.callWith_type1 (thn (ha pos pins s σ H _ I h) fun us s1 ⟨vs, H1, I1, r1, q1⟩ => ?_) (by rw [hs, hs2]) (by rw [hs2]; rfl)))
  obtain ⟨i, j, e, ⟨q1, q2, q3, q4⟩, q⟩ := q1
  subst e
  cases r1 with
  | cons r rr =>
    cases rr with
    | cons r' rr =>
      cases rr
      obtain ⟨t, rfl⟩ := r
      obtain ⟨t', rfl⟩ := r'
      exact call_range_2 (range_it I1 q1 q2 q3 q4 q)

/-! ### for -/
/-- W: the invariant by the turn and a measure; N: what the body is to reach -/
def tFor (wi : TI) (g : TG) (tb : TS) : TS := fun D σ H => wi σ H fun J H1 => ∃ W : Nat → Nat → St → Hp → Prop, (∃ m, W 0 m σ H1) ∧ ∀ i m σ H, W i m σ H →
  (J.stop i H ∧ D.nx σ H) ∨ (J.go i H ∧ ∃ N : St → Hp → Prop, (∀ σ' H', N σ' H' → ∃ m', m' < m ∧ W (i + 1) m' σ' H') ∧ ∀ x H', J.yld i H x H' → g x σ H' fun σ2 H2 => tb { D with nx := N, ct := N, bk := D.nx } σ2 H2)
/-- the records at fp as they stand -/
def pinsAt (fp : List Addr) (h : Heap) : List (Addr × Obj) := fp.filterMap fun b => (h.get? b).map fun o => (b, o)
theorem mem_pinsAt {fp : List Addr} {h : Heap} {b : Addr} {o : Obj} (hb : b ∈ fp) (e : h.get? b = some o) : (b, o) ∈ pinsAt fp h := List.mem_filterMap.mpr ⟨b, hb, by rw [e]; rfl⟩
theorem of_pinsAt {fp : List Addr} {h : Heap} {p : Addr × Obj} (hp : p ∈ pinsAt fp h) : p.1 ∈ fp ∧ h.get? p.1 = some p.2 := by
  obtain ⟨b, hb, e⟩ := List.mem_filterMap.mp hp
  cases q : h.get? b with
  | none => rw [q] at e; cases e
  | some o =>
    rw [q] at e
    have e' : (b, o) = p := Option.some.inj e
    subst e'
    exact ⟨hb, q⟩
theorem Inv.pinned {pins : List (Addr × Obj)} {σ : St} {H : Hp} {s : Shared} {fp : List Addr} (I : Inv X pins σ H s) (hf : ∀ b ∈ fp, FpOk X pins H b) (ho : ∀ b ∈ fp, ∃ o, s.heap.get? b = some o ∧ ∀ v, o.data ≠ .cell v) : Inv X (pins ++ pinsAt fp s.heap) σ H s :=
  I.pins_of fun p hp => (List.mem_append.mp hp).elim (fun z => I.pin p (List.mem_append_right _ z)) fun z => by
    obtain ⟨hb, e⟩ := of_pinsAt z
    obtain ⟨f0, f1, f2, _⟩ := hf p.1 hb
    obtain ⟨o, e', d⟩ := ho p.1 hb
    rw [e] at e'; cases e'
    exact ⟨e, f0, f1, f2, d⟩
theorem Inv.unpinned {pins pl : List (Addr × Obj)} {σ : St} {H : Hp} {s : Shared} (I : Inv X (pins ++ pl) σ H s) : Inv X pins σ H s := I.pins_of fun p hp => I.pin p (List.mem_append_right _ (List.mem_append_left _ hp))
theorem ps_for {iter : Expr} {body : List Stmt} {wi : TI} {g : TG} {tb : TS} {pos : Pos} (hp : PassesOwn (model X.prog X.w) X.A X.env X.xe) (hc : X.calm = true) (hi : PI X tg iter wi) (hg : PG X tg g) (hb : PSs X body tb)
    (hs : ∀ x, foldedSetIterable iter X.env x = pure x := by intro _; rfl) : PS X (.For tg iter body [] pos) (tFor wi g tb) := by
  intro pins s σ H D I h
  refine wpAny_For (thn (hi pins s σ H _ I h) fun v s1 h1 => thn h1 fun itv s2 h2 => ?_) hs
  obtain ⟨it, fp, tn, J, H2, e, I2, T, st2, f2, W, ⟨m0, w0⟩, turn⟩ := h2
  subst e
  -- what stays true of the iterator's objects through the loop
  have stat : ∀ {H' : Hp}, (∀ b ∈ fp, H' b = none) → ∀ b ∈ fp, FpOk X pins H' b := fun hn b hb => ⟨hn b hb, (f2 b hb).2⟩
  refine codeAny_forLoop_any (fun n s' => ∃ i σ' H', Inv X pins σ' H' s' ∧ tn i s'.heap ∧ (∀ b ∈ fp, H' b = none) ∧ W i n σ' H') ?_ m0 ⟨0, σ, H2, I2, st2, fun b hb => (f2 b hb).1, w0⟩
  rintro n s3 ⟨i, σ3, H3, I3, st3, fr3, w3⟩
  rcases turn i n σ3 H3 w3 with ⟨stop, qn⟩ | ⟨go, N, hN, step⟩
  · refine wpAny_passesOwn hp (thn (T.done X rfl rfl rfl hc i pins s3 σ3 H3 X.xe I3 (stat fr3) st3 stop) fun r s4 ⟨hr, I4⟩ => ?_)
    subst hr
    exact wpAny_execs_nil ⟨σ3, H3, I4, qn⟩
  · refine wpAny_passesOwn hp (thn (T.item X rfl rfl rfl hc i pins s3 σ3 H3 X.xe I3 (stat fr3) st3 go) fun r s4 ⟨u, hr, h4⟩ => ?_)
    subst hr
    refine wpAny_passesOwn hp (thn h4 fun _ s5 ⟨x, H5, I5, r5, y5, st5, fr5⟩ => ?_)
    have I5' := I5.pinned (stat fr5) (T.obj _ _ st5)
    refine wpAny_passesOwn hp (thn (hg _ s5 σ3 H5 x u _ I5' r5 (step x H5 y5)) fun _ s6 ⟨σ6, H6, I6, q6⟩ => ?_)
    refine wpAny_passesOwn hp (thn (hb _ s6 σ6 H6 _ I6 q6) fun f s7 q7 => ?_)
    have again : ∀ {σ7 : St} {H7 : Hp}, Inv X (pins ++ pinsAt fp s5.heap) σ7 H7 s7 → N σ7 H7 → ∃ m, m < n ∧ ∃ i σ' H', Inv X pins σ' H' s7 ∧ tn i s7.heap ∧ (∀ b ∈ fp, H' b = none) ∧ W i m σ' H' := fun {σ7 H7} I7 n7 => by
      obtain ⟨m', hm, w7⟩ := hN σ7 H7 n7
      refine ⟨m', hm, i + 1, σ7, H7, I7.unpinned, T.keep _ _ _ st5 fun b hb o e => (I7.pin (b, o) (List.mem_append_right _ (List.mem_append_right _ (mem_pinsAt hb e)))).1, fun b hb => ?_, w7⟩
      obtain ⟨o, e, d⟩ := T.obj _ _ st5 b hb
      exact (I7.pin (b, o) (List.mem_append_right _ (List.mem_append_right _ (mem_pinsAt hb e)))).2.1
    cases f with
    | next => obtain ⟨σ7, H7, I7, n7⟩ := q7; exact again I7 n7
    | cont => obtain ⟨σ7, H7, I7, n7⟩ := q7; exact again I7 n7
    | brk => obtain ⟨σ7, H7, I7, q7⟩ := q7; exact ⟨σ7, H7, I7.unpinned, q7⟩
    | ret v => obtain ⟨x7, σ7, H7, I7, r7, q7⟩ := q7; exact ⟨x7, σ7, H7, I7.unpinned, r7, q7⟩
end

/-! ### the forms one uses -/
/-- over a list that the body leaves as it is -/
theorem for_list {K : PySem.W.Frag} {a : Addr} {xs : List V} {g : TG} {tb : TS} {D : Ends} {σ : St} {H : Hp} (Pv : Nat → St → Hp → Prop) (h0 : Pv 0 σ H) (hl : ∀ i σ H, i ≤ xs.length → Pv i σ H → SqL K H a xs)
    (hs : ∀ i x σ H, xs[i]? = some x → Pv i σ H → g x σ H fun σ2 H2 => tb { D with nx := Pv (i + 1), ct := Pv (i + 1), bk := D.nx } σ2 H2) (hd : ∀ σ H, Pv xs.length σ H → D.nx σ H) :
    ∃ W : Nat → Nat → St → Hp → Prop, (∃ m, W 0 m σ H) ∧ ∀ i m σ H, W i m σ H →
      ((Itl K a).stop i H ∧ D.nx σ H) ∨ ((Itl K a).go i H ∧ ∃ N : St → Hp → Prop, (∀ σ' H', N σ' H' → ∃ m', m' < m ∧ W (i + 1) m' σ' H') ∧ ∀ x H', (Itl K a).yld i H x H' → g x σ H' fun σ2 H2 => tb { D with nx := N, ct := N, bk := D.nx } σ2 H2) := by
  refine ⟨fun i m σ H => m = xs.length - i ∧ i ≤ xs.length ∧ Pv i σ H, ⟨xs.length, by simp, Nat.zero_le _, h0⟩, ?_⟩
  rintro i m σ H ⟨rfl, hi, p⟩
  have q := hl i σ H hi p
  by_cases hlt : i < xs.length
  · refine .inr ⟨⟨xs, xs[i], q, by simp [hlt]⟩, Pv (i + 1), fun σ' H' p' => ⟨xs.length - (i + 1), by omega, rfl, hlt, p'⟩, fun x H' y => ?_⟩
    obtain ⟨e, y⟩ := y
    subst e
    exact hs i x σ _ (y xs q) p
  · have e : i = xs.length := by omega
    subst e
    exact .inl ⟨⟨xs, q, Nat.le_refl _⟩, hd σ H p⟩
theorem for_range {lo : Int} {n : Nat} {g : TG} {tb : TS} {D : Ends} {σ : St} {H : Hp} (Pv : Nat → St → Hp → Prop) (h0 : Pv 0 σ H)
    (hs : ∀ i σ H, i < n → Pv i σ H → g (.int (lo + i)) σ H fun σ2 H2 => tb { D with nx := Pv (i + 1), ct := Pv (i + 1), bk := D.nx } σ2 H2) (hd : ∀ σ H, Pv n σ H → D.nx σ H) :
    ∃ W : Nat → Nat → St → Hp → Prop, (∃ m, W 0 m σ H) ∧ ∀ i m σ H, W i m σ H →
      ((Itr lo n).stop i H ∧ D.nx σ H) ∨ ((Itr lo n).go i H ∧ ∃ N : St → Hp → Prop, (∀ σ' H', N σ' H' → ∃ m', m' < m ∧ W (i + 1) m' σ' H') ∧ ∀ x H', (Itr lo n).yld i H x H' → g x σ H' fun σ2 H2 => tb { D with nx := N, ct := N, bk := D.nx } σ2 H2) := by
  refine ⟨fun i m σ H => m = n - i ∧ i ≤ n ∧ Pv i σ H, ⟨n, by simp, Nat.zero_le _, h0⟩, ?_⟩
  rintro i m σ H ⟨rfl, hi, p⟩
  by_cases hlt : i < n
  · refine .inr ⟨hlt, Pv (i + 1), fun σ' H' p' => ⟨n - (i + 1), by omega, rfl, hlt, p'⟩, fun x H' y => ?_⟩
    obtain ⟨e, y⟩ := y
    subst e y
    exact hs i σ _ hlt p
  · have e : i = n := by omega
    subst e
    exact .inl ⟨Nat.le_refl _, hd σ H p⟩
end L2

namespace L2
open PySem PySem.Spec PyProof.Rows

abbrev R2 := V → V → Hp → VK → Prop
/-- a two-place operation on values: f is binaryOp op, inplaceOp op or compareOp op -/
def OpR (X : Cx) (f : Value → Value → Sem Value) (r : R2) : Prop :=
  ∀ (pins : List (Addr × Obj)) (s : Shared) (σ : St) (H : Hp) (x y : V) (v u : Value) (Q : VK), Inv X pins σ H s → RelV x v → RelV y u → r x y H Q →
    wpAny (model X.prog X.w) X.A (f v u) (EP X pins σ Q) X.xe s
/-- a one-place operation -/
def UnR (X : Cx) (f : Value → Sem Value) (r : V → Hp → VK → Prop) : Prop :=
  ∀ (pins : List (Addr × Obj)) (s : Shared) (σ : St) (H : Hp) (x : V) (v : Value) (Q : VK), Inv X pins σ H s → RelV x v → r x H Q →
    wpAny (model X.prog X.w) X.A (f v) (EP X pins σ Q) X.xe s
/-- a call of a value that is known (a builtin, a type) with values -/
def CallR (X : Cx) (f : Value) (r : List V → Hp → VK → Prop) : Prop :=
  ∀ (pins : List (Addr × Obj)) (s : Shared) (σ : St) (H : Hp) (xs : List V) (us : List Value) (Q : VK), Inv X pins σ H s → Vals xs us → r xs H Q →
    wpAny (model X.prog X.w) X.A (call f us) (EP X pins σ Q) X.xe s
/-- a value's truth -/
def TruR (X : Cx) (r : V → Hp → (Bool → Hp → Prop) → Prop) : Prop :=
  ∀ (pins : List (Addr × Obj)) (s : Shared) (σ : St) (H : Hp) (x : V) (v : Value) (Q : Bool → Hp → Prop), Inv X pins σ H s → RelV x v → r x H Q →
    wpAny (model X.prog X.w) X.A (truthy v) (TP X pins σ Q) X.xe s

def tOp (r : R2) (ta tb : TE) : TE := fun σ H Q => ta σ H fun x H1 => tb σ H1 fun y H2 => r x y H2 Q
def tUn (r : V → Hp → VK → Prop) (ta : TE) : TE := fun σ H Q => ta σ H fun x H1 => r x H1 Q
/-- ints in, under C, and a value out -/
def rI (C : Int → Int → Prop) (g : Int → Int → V) : R2 := fun x y H Q => ∃ i j, x = .int i ∧ y = .int j ∧ C i j ∧ Q (g i j) H
def rI0 (g : Int → Int → V) : R2 := fun x y H Q => ∃ i j, x = .int i ∧ y = .int j ∧ Q (g i j) H
def rU (g : Int → V) : V → Hp → VK → Prop := fun x H Q => ∃ i, x = .int i ∧ Q (g i) H

section
variable {X : Cx} {a b c : Expr} {ta tb tc : TE} {pos : Pos}

theorem binT (ha : PE X a ta) (hb : PE X b tb) {pins : List (Addr × Obj)} {s : Shared} {σ : St} {H : Hp} {R : V → V → Hp → Prop} (I : Inv X pins σ H s)
    (h : ta σ H fun x H1 => tb σ H1 fun y H2 => R x y H2) {Q : Value → Shared → Prop} {f : Value → Value → Sem Value}
    (hf : ∀ v u s2 x y H2, Inv X pins σ H2 s2 → RelV x v → RelV y u → R x y H2 → wpAny (model X.prog X.w) X.A (f v u) Q X.xe s2) :
    wpAny (model X.prog X.w) X.A (eval a X.env) (fun v s₁ => wpAny (model X.prog X.w) X.A (eval b X.env) (fun u s₂ => wpAny (model X.prog X.w) X.A (f v u) Q X.xe s₂) X.xe s₁) X.xe s := by
  refine thn (ha pins s σ H _ I h) fun v s1 ⟨x, H1, I1, r1, q1⟩ => ?_
  refine thn (hb pins s1 σ H1 _ I1 q1) fun u s2 ⟨y, H2, I2, r2, q2⟩ => ?_
  exact hf v u s2 x y H2 I2 r1 r2 q2

theorem pe_op {op : Operator} {r : R2} (ho : OpR X (binaryOp op) r) (ha : PE X a ta) (hb : PE X b tb) : PE X (.BinOp a op b pos) (tOp r ta tb) := by
  intro pins s σ H Q I h
  exact wpAny_BinOp (binT ha hb I h fun v u s2 x y H2 I2 rx ry q => ho pins s2 σ H2 x y v u Q I2 rx ry q)
theorem pe_un {op : UnaryOp} {r : V → Hp → VK → Prop} (ho : UnR X (unaryOp op) r) (ha : PE X a ta) : PE X (.UnaryOp op a pos) (tUn r ta) := by
  intro pins s σ H Q I h
  exact UnaryOp_ (thn (ha pins s σ H _ I h) fun v s1 ⟨x, H1, I1, r1, q1⟩ => ho pins s1 σ H1 x v Q I1 r1 q1)
/-! ### ints -/
theorem opI {f : Value → Value → Sem Value} {C : Int → Int → Prop} {g : Int → Int → Int}
    (rule : ∀ (i j : Int) (t u : Tok) (s : Shared) (Q : Value → Shared → Prop) (E : Value → Shared → Prop), C i j → Q (.int (g i j) s.toks) { s with toks := s.toks + 1 } → wpAny (model X.prog X.w) X.A (f (.int i t) (.int j u)) Q E s) :
    OpR X f (rI C fun i j => .int (g i j)) := by
  intro pins s σ H x y v u Q I rx ry h
  obtain ⟨i, j, rfl, rfl, hc, q⟩ := h
  obtain ⟨t, rfl⟩ := rx
  obtain ⟨t', rfl⟩ := ry
  exact rule i j t t' s _ _ hc ⟨.int (g i j), H, I.tok _, ⟨_, rfl⟩, q⟩
theorem opI0 {f : Value → Value → Sem Value} {g : Int → Int → Int}
    (rule : ∀ (i j : Int) (t u : Tok) (s : Shared) (Q : Value → Shared → Prop) (E : Value → Shared → Prop), Q (.int (g i j) s.toks) { s with toks := s.toks + 1 } → wpAny (model X.prog X.w) X.A (f (.int i t) (.int j u)) Q E s) :
    OpR X f (rI0 fun i j => .int (g i j)) := by
  intro pins s σ H x y v u Q I rx ry h
  obtain ⟨i, j, rfl, rfl, q⟩ := h
  obtain ⟨t, rfl⟩ := rx
  obtain ⟨t', rfl⟩ := ry
  exact rule i j t t' s _ _ ⟨.int (g i j), H, I.tok _, ⟨_, rfl⟩, q⟩
theorem opB0 {f : Value → Value → Sem Value} {g : Int → Int → Bool}
    (rule : ∀ (i j : Int) (t u : Tok) (s : Shared) (Q : Value → Shared → Prop) (E : Value → Shared → Prop), Q (.bool (g i j)) s → wpAny (model X.prog X.w) X.A (f (.int i t) (.int j u)) Q E s) :
    OpR X f (rI0 fun i j => .bl (g i j)) := by
  intro pins s σ H x y v u Q I rx ry h
  obtain ⟨i, j, rfl, rfl, q⟩ := h
  obtain ⟨t, rfl⟩ := rx
  obtain ⟨t', rfl⟩ := ry
  exact rule i j t t' s _ _ ⟨.bl (g i j), H, I, rfl, q⟩

def CDiv (i j : Int) : Prop := 0 < j ∧ j < 1073741824
def CDivN (i j : Int) : Prop := j ≠ 0 ∧ j.natAbs < 1073741824
def CPow (i j : Int) : Prop := 0 ≤ j ∧ j ≤ 1000000 ∧ i.natAbs < 2 ^ 64
def CMul (i j : Int) : Prop := (-(2 ^ 64) < i ∧ i < 2 ^ 64) ∨ (-(2 ^ 64) < j ∧ j < 2 ^ 64)
theorem CMul.ok {i j : Int} (h : CMul i j) : IntMulOk i j := by
  rcases h with ⟨h1, h2⟩ | ⟨h1, h2⟩
  · exact .of_left (intBits_le_64 h1 h2)
  · exact .of_right (intBits_le_64 h1 h2)
theorem op_add : OpR X (binaryOp .Add) (rI0 fun i j => .int (i + j)) := opI0 fun _ _ _ _ _ _ _ q => add_int q
theorem op_sub : OpR X (binaryOp .Sub) (rI0 fun i j => .int (i - j)) := opI0 fun _ _ _ _ _ _ _ q => sub_int q
theorem op_mul : OpR X (binaryOp .Mult) (rI CMul fun i j => .int (i * j)) := opI fun _ _ _ _ _ _ _ hc q => mul_int q hc.ok
/-- % by a positive divisor of any size -/
theorem op_mod : OpR X (binaryOp .Mod) (rI (fun _ j => 0 < j) fun i j => .int (i % j)) := opI fun i j _ _ _ _ _ hc q => by
  have h1 : (0 : Int) < j := hc
  exact mod_int' (by omega) (by rw [Int.fmod_eq_emod_of_nonneg i (by omega)]; exact q)
theorem op_pow : OpR X (binaryOp .Pow) (rI CPow fun i j => .int (i ^ j.toNat)) := opI fun _ _ _ _ _ _ _ hc q => pow_int_small hc.1 hc.2.1 hc.2.2 q
theorem unI {f : Value → Sem Value} {g : Int → Int}
    (rule : ∀ (i : Int) (t : Tok) (s : Shared) (Q : Value → Shared → Prop) (E : Value → Shared → Prop), Q (.int (g i) s.toks) { s with toks := s.toks + 1 } → wpAny (model X.prog X.w) X.A (f (.int i t)) Q E s) :
    UnR X f (rU fun i => .int (g i)) := by
  intro pins s σ H x v Q I rx h
  obtain ⟨i, rfl, q⟩ := h
  obtain ⟨t, rfl⟩ := rx
  exact rule i t s _ _ ⟨.int (g i), H, I.tok _, ⟨_, rfl⟩, q⟩
theorem un_neg : UnR X (unaryOp .USub) (rU fun i => .int (-i)) := unI fun _ _ _ _ _ q => neg_int q
/-! ### bools among ints: n += (a < b) -/
end

/-! ### comparisons -/
/-- the scalars that == tells apart as data does -/
def scal : V → V → Bool
  | .non, .non => true | .non, .int _ => true | .int _, .non => true | .non, .bl _ => true | .bl _, .non => true | .non, .str _ => true | .str _, .non => true
  | .int _, .int _ => true | .bl _, .bl _ => true | .str _, .str _ => true | .byt _, .byt _ => true
  | .int _, .str _ => true | .str _, .int _ => true | .bl _, .str _ => true | .str _, .bl _ => true
  | _, _ => false
def rEq : R2 := fun x y H Q => scal x y = true ∧ Q (.bl (decide (x = y))) H
def rNe : R2 := fun x y H Q => scal x y = true ∧ Q (.bl (!decide (x = y))) H

theorem dec_int {i j : Int} : decide (V.int i = V.int j) = (i == j) := by
  rw [Bool.eq_iff_iff]
  simp
theorem dec_bl {i j : Bool} : decide (V.bl i = V.bl j) = (i == j) := by
  rw [Bool.eq_iff_iff]
  simp
theorem dec_str {i j : Str} : decide (V.str i = V.str j) = (i == j) := by
  rw [Bool.eq_iff_iff]
  simp
theorem dec_byt {i j : Array UInt8} : decide (V.byt i = V.byt j) = (i.toList == j.toList) := by
  rw [Bool.eq_iff_iff]
  cases i
  cases j
  simp

section
variable {X : Cx} {a b c : Expr} {ta tb tc : TE} {pos : Pos}
theorem fin_bl {pins : List (Addr × Obj)} {σ : St} {H : Hp} {s : Shared} {Q : VK} {k k' : Bool} (I : Inv X pins σ H s) (q : Q (.bl k) H) (e : k = k') : EP X pins σ Q (.bool k') s := by
  subst e
  exact ⟨.bl k, H, I, rfl, q⟩
theorem op_eq : OpR X (compareOp .Eq) rEq := by
  intro pins s σ H x y v u Q I rx ry h
  obtain ⟨hs, q⟩ := h
  cases x with
  | non =>
    cases rx
    cases y with
    | non => cases ry; exact PySem.EqNone.eq_none_none (fin_bl I q (by simp))
    | bl j => cases ry; exact PySem.EqNone.eq_none_bool (fin_bl I q (by simp))
    | int j => obtain ⟨t', rfl⟩ := ry; exact PySem.EqNone.eq_none_int (fin_bl I q (by simp))
    | str j => obtain ⟨t', rfl⟩ := ry; exact PySem.EqNone.eq_none_str (fin_bl I q (by simp))
    | _ => exact absurd (show false = true from hs) Bool.false_ne_true
  | bl i =>
    cases rx
    cases y with
    | non => cases ry; exact PySem.EqNone.eq_bool_none (fin_bl I q (by simp))
    | bl j => cases ry; exact eq_bool (fin_bl I q dec_bl)
    | str j => obtain ⟨t', rfl⟩ := ry; exact PySem.EqMixed.eq_bool_str (fin_bl I q (by simp))
    | _ => exact absurd (show false = true from hs) Bool.false_ne_true
  | int i =>
    obtain ⟨t, rfl⟩ := rx
    cases y with
    | non => cases ry; exact PySem.EqNone.eq_int_none (fin_bl I q (by simp))
    | int j => obtain ⟨t', rfl⟩ := ry; exact eq_int (fin_bl I q dec_int)
    | str j => obtain ⟨t', rfl⟩ := ry; exact PySem.EqMixed.eq_int_str (fin_bl I q (by simp))
    | _ => exact absurd (show false = true from hs) Bool.false_ne_true
  | str i =>
    obtain ⟨t, rfl⟩ := rx
    cases y with
    | non => cases ry; exact PySem.EqNone.eq_str_none (fin_bl I q (by simp))
    | bl j => cases ry; exact PySem.EqMixed.eq_str_bool (fin_bl I q (by simp))
    | int j => obtain ⟨t', rfl⟩ := ry; exact PySem.EqMixed.eq_str_int (fin_bl I q (by simp))
    | str j => obtain ⟨t', rfl⟩ := ry; exact eq_str (fin_bl I q dec_str)
    | _ => exact absurd (show false = true from hs) Bool.false_ne_true
  | byt i =>
    obtain ⟨t, rfl⟩ := rx
    cases y with
    | byt j => obtain ⟨t', rfl⟩ := ry; exact PySem.W.eq_bytes (fin_bl I q dec_byt)
    | _ => exact absurd (show false = true from hs) Bool.false_ne_true
  | _ => cases y <;> exact absurd (show false = true from hs) Bool.false_ne_true
theorem op_lt : OpR X (compareOp .Lt) (rI0 fun i j => .bl (decide (i < j))) := opB0 fun _ _ _ _ _ _ _ q => lt_int q
theorem op_gt : OpR X (compareOp .Gt) (rI0 fun i j => .bl (decide (j < i))) := opB0 fun _ _ _ _ _ _ _ q => gt_int q
theorem op_ge : OpR X (compareOp .GtE) (rI0 fun i j => .bl (decide (j ≤ i))) := opB0 fun _ _ _ _ _ _ _ q => ge_int q
/-- is, is not of two objects that are tracked lists or instances -/
def isObj : HO → Bool
  | .lst _ => true
  | .ins _ _ _ => true
  | _ => false
/-- two rules for one operation: by cases -/
theorem OpR.or {f : Value → Value → Sem Value} {r r' : R2} (h : OpR X f r) (h' : OpR X f r') : OpR X f (fun x y H Q => r x y H Q ∨ r' x y H Q) := by
  intro pins s σ H x y v u Q I rx ry q
  rcases q with q | q
  · exact h pins s σ H x y v u Q I rx ry q
  · exact h' pins s σ H x y v u Q I rx ry q

theorem nomark (b : Expr) {op : CmpOp} (h : op ≠ .In := by decide) (h2 : op ≠ .NotIn := by decide) : behindInMarks op b = false := by
  have e1 : (op == CmpOp.In) = false := by cases op <;> first | rfl | exact absurd rfl h
  have e2 : (op == CmpOp.NotIn) = false := by cases op <;> first | rfl | exact absurd rfl h2
  cases b <;> simp [behindInMarks, e1, e2]
/-- a comparison as a value; hm: nomark b, or (for in, not in) by with_unfolding_all rfl -/
theorem pe_cmpR {op : CmpOp} {r : R2} (ho : OpR X (compareOp op) r) (ha : PE X a ta) (hb : PE X b tb) (hm : behindInMarks op b = false) : PE X (.Compare a [op] [b] pos) (tOp r ta tb) := by
  intro pins s σ H Q I h
  exact wpAny_Compare1 (binT ha hb I h fun v u s2 x y H2 I2 rx ry q => ho pins s2 σ H2 x y v u Q I2 rx ry q) hm
/-- a reading of a value as a test -/
def tTest (t : TE) : TT := fun σ H Q => t σ H fun x H' => ∃ k, x = .bl k ∧ Q k H'
theorem pt_cmpR {op : CmpOp} {r : R2} (ho : OpR X (compareOp op) r) (ha : PE X a ta) (hb : PE X b tb) (hm : behindInMarks op b = false) : PT X (.Compare a [op] [b] pos) (tTest (tOp r ta tb)) := by
  intro pins s σ H Q I h
  refine wpAny_isTrue_Compare1 (thn (ha pins s σ H _ I h) fun v s1 ⟨x, H1, I1, r1, q1⟩ => thn (hb pins s1 σ H1 _ I1 q1) fun u s2 ⟨y, H2, I2, r2, q2⟩ =>
    thn (ho pins s2 σ H2 x y v u _ I2 r1 r2 q2) fun c s3 ⟨z, H3, I3, r3, k, e, q3⟩ => ?_) hm
  subst e
  cases r3
  exact wpAny_truthy_bool ⟨H3, I3, q3⟩
/-- a op1 b op2 c -/
def tChain (r r' : R2) (ta tb tc : TE) : TE := fun σ H Q => ta σ H fun x H1 => tb σ H1 fun y H2 => r x y H2 fun z H3 => ∃ k, z = .bl k ∧
  (if k = true then tc σ H3 fun w' H4 => r' y w' H4 Q else Q (.bl false) H3)
/-! ### truth -/
/-- a value's truth by the abstract heap -/
def TruV (K : PySem.W.Frag) (x : V) (H : Hp) (k : Bool) : Prop :=
  match x with
  | .non => k = false
  | .bl b => k = b
  | .int i => k = (i != 0)
  | .str y => y.length ≤ sizeLine ∧ k = ((y.length : Int) != 0)
  | .byt y => y.size ≤ sizeLine ∧ k = ((y.size : Int) != 0)
  | .ref p => (∃ xs, SqL K H p xs ∧ k = !xs.isEmpty) ∨ (∃ xs, SqT K H p xs ∧ k = !xs.isEmpty) ∨ ∃ kvs, H p = some (.dK kvs) ∧ k = !kvs.isEmpty
  | _ => False
theorem line63 : (sizeLine : Nat) < 2 ^ 63 := by rw [sizeLine_eq]; decide
/-! ### strs and bytes -/
theorem op_add_str : OpR X (binaryOp .Add) (fun x y H Q => ∃ i j, x = .str i ∧ y = .str j ∧ i.length + j.length ≤ sizeLine ∧ Q (.str (i ++ j)) H) := by
  intro pins s σ H x y v u Q I rx ry h
  obtain ⟨i, j, rfl, rfl, hz, q⟩ := h
  obtain ⟨t, rfl⟩ := rx
  obtain ⟨t', rfl⟩ := ry
  exact add_str (fun t' tk => ⟨.str (i ++ j), H, I.tok _, ⟨_, rfl⟩, q⟩) hz
def PlainIxT (b : Expr) : Prop := ∀ o i, subscripted b false o i = operate [o, i] (getItem o i)
/-! ### scalar builtins, by CallR -/
theorem vals1 {x : V} {us : List Value} (r : Vals [x] us) : ∃ u, us = [u] ∧ RelV x u := by
  cases r with
  | cons r1 r2 => cases r2; exact ⟨_, rfl, r1⟩
theorem vals2 {x y : V} {us : List Value} (r : Vals [x, y] us) : ∃ u w', us = [u, w'] ∧ RelV x u ∧ RelV y w' := by
  cases r with
  | cons r1 r2 =>
    cases r2 with
    | cons r3 r4 => cases r4; exact ⟨_, _, rfl, r1, r3⟩
theorem call_min2 (hc : X.calm = true) : CallR X (.builtin "min") (fun xs H Q => ∃ i j, xs = [.int i, .int j] ∧ Q (.int (if j < i then j else i)) H) := by
  intro pins s σ H xs us Q I r h
  obtain ⟨i, j, rfl, q⟩ := h
  obtain ⟨u, w', rfl, ⟨t, rfl⟩, ⟨t', rfl⟩⟩ := vals2 r
  refine min_two_ints (I.ok.hd hc) fun h' tk k => ⟨_, H, I.kept k, ?_, q⟩
  by_cases hj : j < i
  · rw [if_pos hj, if_pos hj]; exact ⟨_, rfl⟩
  · rw [if_neg hj, if_neg hj]; exact ⟨_, rfl⟩
theorem call_int1 : CallR X (.type "int") (fun xs H Q => (∃ i, xs = [.int i] ∧ Q (.int i) H) ∨ ∃ k, xs = [.bl k] ∧ Q (.int (if k then 1 else 0)) H) := by
  intro pins s σ H xs us Q I r h
  rcases h with ⟨i, rfl, q⟩ | ⟨k, rfl, q⟩
  · obtain ⟨u, rfl, t, rfl⟩ := vals1 r
    exact call_int_int ⟨.int i, H, I, ⟨_, rfl⟩, q⟩
  · obtain ⟨u, rfl, r1⟩ := vals1 r
    cases r1
    exact call_int_bool ⟨.int (if k then 1 else 0), H, I.tok _, ⟨_, rfl⟩, q⟩
/-- len of a str, a bytes, a list, a tuple -/
def LenV (K : PySem.W.Frag) (x : V) (H : Hp) (n : Nat) : Prop :=
  match x with
  | .str y => y.length ≤ sizeLine ∧ n = y.length
  | .byt y => y.size ≤ sizeLine ∧ n = y.size
  | .ref p => (∃ xs, SqL K H p xs ∧ n = xs.length) ∨ ∃ xs, SqT K H p xs ∧ n = xs.length
  | _ => False
theorem call_len : CallR X (.builtin "len") (fun xs H Q => ∃ x n, xs = [x] ∧ LenV X.K x H n ∧ Q (.int n) H) := by
  intro pins s σ H xs us Q I r h
  obtain ⟨x, n, rfl, e, q⟩ := h
  obtain ⟨u, rfl, rx⟩ := vals1 r
  have hl := line63
  have hs : sizeLine = 16777216 := sizeLine_eq
  cases x with
  | str y =>
    obtain ⟨t, rfl⟩ := rx
    obtain ⟨hy, e'⟩ : y.length ≤ sizeLine ∧ n = y.length := e
    subst e'
    exact len_str (by omega) ⟨.int _, H, I.tok _, ⟨_, rfl⟩, q⟩
  | byt y =>
    obtain ⟨t, rfl⟩ := rx
    obtain ⟨hy, e'⟩ : y.size ≤ sizeLine ∧ n = y.size := e
    subst e'
    exact PySem.W.len_bytes (by omega) ⟨.int _, H, I.tok _, ⟨_, rfl⟩, q⟩
  | ref p =>
    cases rx
    have e' : (∃ xs, SqL X.K H p xs ∧ n = xs.length) ∨ ∃ xs, SqT X.K H p xs ∧ n = xs.length := e
    rcases e' with ⟨xs, hx, e'⟩ | ⟨xs, hx, e'⟩
    · subst e'
      obtain ⟨its, r', pl, hz⟩ := I.list hx
      have hlen := r'.length
      exact Calls.call_len_list pl.isList (by simp only [List.size_toArray]; omega) ⟨.int xs.length, H, I.tok _, ⟨_, by simp only [List.size_toArray]; rw [hlen]⟩, q⟩
    · subst e'
      obtain ⟨its, r', pl, hz⟩ := I.tuple hx
      have hlen := r'.length
      exact len_tuple pl (by simp only [List.size_toArray]; omega) ⟨.int xs.length, H, I.tok _, ⟨_, by simp only [List.size_toArray]; rw [hlen]⟩, q⟩
  | _ => exact (show False from e).elim
end
end L2

namespace L2
open PySem PySem.Spec PyProof.Rows

/-! ### an instance, its attributes a map -/
structure ObjM (h : Heap) (x dx C : Addr) (mA : Str → Option Value) : Prop where
  obj : h.get? x = some (PySem.W.instObj C dx)
  ns : h.Ns1 dx mA
  ne : dx ≠ x

theorem lookIn_ns {h : Heap} {dx : Addr} {mA : Str → Option Value} (n : h.Ns1 dx mA) : ∃ od, h.get? dx = some od ∧ ∀ name, PySem.W.lookIn name od = some (mA name) := by
  obtain ⟨o, es, ep, ho, hd, hk, _, hm⟩ := n
  refine ⟨o, ho, fun name => ?_⟩
  have e := hm name
  unfold nsFind findBy at e
  rw [← Array.find?_toList] at e
  unfold PySem.W.lookIn
  rw [hd]
  dsimp only
  split
  · rename_i y q
    rw [q] at e
    exact congrArg some e
  · rename_i q
    rw [q] at e
    have a : es.toList.any (·.refKey) = false := by
      rw [List.any_eq_false]
      intro y hy
      obtain ⟨z, t, hkey⟩ := hk y (Array.mem_toList_iff.mp hy)
      simp [DictEntry.refKey, hkey]
    have a' : ¬ es.toList.any (·.refKey) = true := by rw [a]; exact Bool.false_ne_true
    rw [if_neg a']
    exact congrArg some e

theorem ObjM.look {h : Heap} {x dx C : Addr} {mA : Str → Option Value} (I : ObjM h x dx C mA) : ∃ od, PySem.W.InstAt h x (PySem.W.instObj C dx) C (some od) ∧ ∀ name, PySem.W.lookIn name od = some (mA name) :=
  let ⟨od, ho, hl⟩ := lookIn_ns I.ns
  ⟨od, ⟨I.obj, rfl, rfl, ho⟩, hl⟩

section
variable {prog : Program} {w : World} {A : Around} {E : Value → Shared → Prop} {s : Shared} {K : PySem.W.Frag} {x dx C f : Addr} {mA : Str → Option Value} {name : Str} {v : Value}

end

/-! ### the attributes as a list of pairs -/
def putF (f : Str) (v : V) : List (Str × V) → List (Str × V)
  | [] => [(f, v)]
  | (g, x) :: r => if g = f then (g, v) :: r else (g, x) :: putF f v r
section
variable {P : Program} {w : World} {H H' : Hp} {h h' : Heap} {a C dx : Addr} {fs fs' : List (Str × V)}
theorem ins_get (hok : HOk P w H h) (e : H a = some (.ins C dx fs)) : ∃ mA, ObjM h a dx C mA ∧ (∀ f, RelO (fs.lookup f) (mA f)) ∧ PySem.Within mA (fs.map (·.1)) ∧ fs.length ≤ 1000 ∧ H dx = some (.own a) := by
  obtain ⟨d, z, ne, ob, mA, n, r, q⟩ := (show ObjOk P w H h a (.ins C dx fs) from hok a _ e)
  exact ⟨mA, ⟨ob, n, ne⟩, r, q, z, d⟩
end

/-! ### what of the text a class must have -/
structure Cls (K : PySem.W.Frag) (C : Addr) : Prop where
  pg : PySem.W.plainGet K C Str.empty = true
  hd : PySem.W.hasDictIn K C = true
  po : PySem.W.plainOver K C = true
  sa : PySem.W.findIn K (.ref C) "__setattr__" = some (some (.builtin "object.__setattr__"))
theorem Cls.get {K : PySem.W.Frag} {C : Addr} (c : Cls K C) (f : Str) : PySem.W.plainGet K C f = true := c.pg
/-- no class of it has the name -/
def NoAttr (K : PySem.W.Frag) (C : Addr) (f : Str) : Prop := PySem.W.findIn K (.ref C) f = some none
/-- a constant of the class -/
structure Con (K : PySem.W.Frag) (C : Addr) (f : Str) (v : V) (u : Value) : Prop where
  at_ : PySem.W.findIn K (.ref C) f = some (some u)
  rel : RelV v u
  get : PySem.W.specialIn K u "__get__" = some none
  cp : PySem.W.copiedNames.contains f = false
/-- a method: a plain def of the class or of one above it -/
structure Meth (K : PySem.W.Frag) (C : Addr) (m : Str) (f : Addr) : Prop where
  at_ : PySem.W.findIn K (.ref C) m = some (some (.ref f))
  fn : PySem.W.isFn K (.ref f) = true
  kp : PySem.W.keepIn K (.ref f) = true

section
variable {X : Cx} {pins : List (Addr × Obj)} {σ : St} {H : Hp} {s : Shared} {a C dx : Addr} {fs : List (Str × V)} {f : Str} {v : V} {A : Around} {E : Value → Shared → Prop}

/-- a new instance, tracked, without attributes -/
theorem Inv.made (I : Inv X pins σ H s) : Inv X pins σ (upd (upd H s.heap.objs.size (.own (s.heap.objs.size + 1))) (s.heap.objs.size + 1) (.ins C s.heap.objs.size []))
    { s with heap := (s.heap.push PySem.W.emptyDict).push (PySem.W.instObj C s.heap.objs.size) } := by
  have e1 : (s.heap.push PySem.W.emptyDict).get? s.heap.objs.size = some PySem.W.emptyDict := Heap.get?_push_size s.heap rfl
  have e2 : ((s.heap.push PySem.W.emptyDict).push (PySem.W.instObj C s.heap.objs.size)).get? (s.heap.objs.size + 1) = some (PySem.W.instObj C s.heap.objs.size) := by
    have := Heap.get?_push_size (s.heap.push PySem.W.emptyDict) (o := PySem.W.instObj C s.heap.objs.size) rfl
    rwa [Heap.size_push] at this
  have e3 : (s.heap.push PySem.W.emptyDict).Ns s.heap.objs.size (fun _ => none) := ⟨PySem.W.emptyDict, #[], _, e1, rfl, (fun e he => absurd he (by simp)), fun _ => rfl⟩
  have I1 := I.laid (a := s.heap.objs.size) (o := .own (s.heap.objs.size + 1)) (h' := s.heap.push PySem.W.emptyDict) (t' := s.toks) (fun b u q => Heap.get?_push_of_some _ q) (Nat.le_refl _) ⟨_, e1⟩
  refine I1.laid (a := s.heap.objs.size + 1) (o := .ins C s.heap.objs.size []) (t' := s.toks) (fun b u q => Heap.get?_push_of_some _ q) (Nat.le_of_eq (Heap.size_push _ _)) ?_
  have ne : s.heap.objs.size ≠ s.heap.objs.size + 1 := Nat.ne_of_lt (Nat.lt_succ_self _)
  refine ⟨by rw [upd_ne ne, upd_same], Nat.zero_le _, ne, e2, fun _ => none, (Heap.Ns1.of_empty e3).at fun o q => Heap.get?_push_of_some _ q, fun _ => True.intro, fun y hy => absurd rfl hy⟩

end

/-! ### readings and rules -/
/-- e.f, an attribute of the instance -/
def tFld (K : PySem.W.Frag) (ta : TE) (f : Str) : TE := fun σ H Q => ta σ H fun x H1 => ∃ a C dx fs v, x = .ref a ∧ H1 a = some (.ins C dx fs) ∧ Cls K C ∧ NoAttr K C f ∧ fs.lookup f = some v ∧ Q v H1
/-- e.f, a constant of the class -/
def tCon (K : PySem.W.Frag) (ta : TE) (f : Str) : TE := fun σ H Q => ta σ H fun x H1 => ∃ a C dx fs v u, x = .ref a ∧ H1 a = some (.ins C dx fs) ∧ Cls K C ∧ Con K C f v u ∧ fs.lookup f = none ∧ Q v H1
/-- e.f = value -/
def sFld (K : PySem.W.Frag) (ta tv : TE) (f : Str) : TS := fun D σ H => tv σ H fun y H1 => ta σ H1 fun x H2 => ∃ a C dx fs, x = .ref a ∧ H2 a = some (.ins C dx fs) ∧ Cls K C ∧ NoAttr K C f ∧ fs.length < 1000 ∧
  D.nx σ (upd H2 a (.ins C dx (putF f y fs)))
/-- an augmented operator on two values -/
def InOp (X : Cx) (op : Operator) (rd : V → V → Hp → VK → Prop) : Prop :=
  ∀ (pins : List (Addr × Obj)) (s : Shared) (σ : St) (H : Hp) (x y : V) (u v : Value) (Q : VK), Inv X pins σ H s → RelV x u → RelV y v → rd x y H Q → wpAny (model X.prog X.w) X.A (inplaceOp op u v) (EP X pins σ Q) X.xe s
/-- e.f op= value -/
def sFldAug (K : PySem.W.Frag) (ta tv : TE) (rd : V → V → Hp → VK → Prop) (f : Str) : TS := fun D σ H => ta σ H fun x H1 => ∃ a C dx fs v, x = .ref a ∧ H1 a = some (.ins C dx fs) ∧ Cls K C ∧ NoAttr K C f ∧ fs.lookup f = some v ∧
  tv σ H1 fun y H2 => rd v y H2 fun z H3 => ∃ dx' fs', H3 a = some (.ins C dx' fs') ∧ fs'.length < 1000 ∧ D.nx σ (upd H3 a (.ins C dx' (putF f z fs')))

section
variable {X : Cx} {o e value : Expr} {f : Str} {pos pos' tpos : Pos} {ta tv : TE}
def rAdd : V → V → Hp → VK → Prop := fun x y H Q => ∃ i j, x = .int i ∧ y = .int j ∧ Q (.int (i + j)) H
def rSub : V → V → Hp → VK → Prop := fun x y H Q => ∃ i j, x = .int i ∧ y = .int j ∧ Q (.int (i - j)) H
end

/-! ### isinstance -/
section
variable {X : Cx} {pins : List (Addr × Obj)} {σ : St} {H : Hp} {s : Shared} {A : Around} {E : Value → Shared → Prop} {Q : Value → Shared → Prop} {c : Value} {b : Bool}
/-- the type of a value, as the fragment's deciders take it; for an instance its class -/
inductive TyOf (K : PySem.W.Frag) (H : Hp) : V → Value → Prop where
  | non : TyOf K H .non (.type "NoneType")
  | bl (x : Bool) : TyOf K H (.bl x) (.type "bool")
  | int (i : Int) : TyOf K H (.int i) (.type "int")
  | str (x : Str) : TyOf K H (.str x) (.type "str")
  | flt (x : UInt64) : TyOf K H (.flt x) (.type "float")
  | lst {a : Addr} {xs : List V} (e : H a = some (.lst xs)) : TyOf K H (.ref a) (.type "list")
  | frz {a : Addr} {o : Obj} {xs : List V} (e : H a = some (.frz o (.lst xs))) : TyOf K H (.ref a) (.type "list")
  | tup {a : Addr} {xs : List V} (e : H a = some (.tup xs)) : TyOf K H (.ref a) (.type "tuple")
  | dK {a : Addr} {kvs : List (Key × V)} (e : H a = some (.dK kvs)) : TyOf K H (.ref a) (.type "dict")
  | dT {a : Addr} {kvs : List (List Key × V)} (e : H a = some (.dT kvs)) : TyOf K H (.ref a) (.type "dict")
  | ins {a C dx : Addr} {fs : List (Str × V)} (e : H a = some (.ins C dx fs)) (cl : Cls K C) (ha : PySem.W.findIn K (.ref C) "__class__" = some (some (.builtin "object.__class__")))
      (hn : PySem.W.specialIn K (.builtin "object.__class__") "__get__" = some (some (.builtin "getset_descriptor.__get__"))) (htk : PySem.W.takesIn K (.builtin "object.__class__") = some true)
      (hm : PySem.W.mroIn K C (.type "object") = some true) : TyOf K H (.ref a) (.ref C)
/-- isinstance(x, c) for one class c, a built-in or an own one: kitOne's answer -/
theorem isinst_ok {x : V} {u t : Value} (I : Inv X pins σ H s) (rx : RelV x u) (ty : TyOf X.K H x t) (e : PySem.W.kitOne X.K t c = some b) (h : ∀ tk, Q (.bool b) { s with toks := tk }) :
    wpAny (model X.prog X.w) A (call (.builtin "isinstance") [u, c]) Q E s := by
  cases ty with
  | non => cases (show u = Value.none from rx); exact PySem.W.kia_one PySem.W.kitx_none I.kIn True.intro e (fun z => nomatch z) h
  | bl y => cases (show u = Value.bool y from rx); exact PySem.W.kia_one PySem.W.kitx_bool I.kIn True.intro e (fun z => nomatch z) h
  | int i => obtain ⟨t, q⟩ := (show ∃ t, u = Value.int i t from rx); cases q; exact PySem.W.kia_one PySem.W.kitx_int I.kIn True.intro e (fun z => nomatch z) h
  | str y => obtain ⟨t, q⟩ := (show ∃ t, u = Value.str y t from rx); cases q; exact PySem.W.kia_one PySem.W.kitx_str I.kIn True.intro e (fun z => nomatch z) h
  | flt y => obtain ⟨t, q⟩ := (show ∃ t, u = Value.float y t from rx); cases q; exact PySem.W.kia_one PySem.W.kitx_float I.kIn True.intro e (fun z => nomatch z) h
  | @lst a xs ea =>
    cases (show u = Value.ref a from rx)
    obtain ⟨_, _, n, _, h1⟩ := (show ObjOk X.prog X.w H s.heap a (.lst xs) from I.hok a _ ea)
    exact PySem.W.kia_one PySem.W.kitx_list I.kIn ⟨_, h1, rfl⟩ e (fun z => nomatch z) h
  | @frz a ob xs ea =>
    cases (show u = Value.ref a from rx)
    obtain ⟨_, _, _, n, _, h1⟩ := (show ObjOk X.prog X.w H s.heap a (.frz ob (.lst xs)) from I.hok a _ ea)
    exact PySem.W.kia_one PySem.W.kitx_list I.kIn ⟨_, h1, rfl⟩ e (fun z => nomatch z) h
  | @tup a xs ea =>
    cases (show u = Value.ref a from rx)
    obtain ⟨_, _, _, p⟩ := (show ObjOk X.prog X.w H s.heap a (.tup xs) from I.hok a _ ea)
    obtain ⟨o, h1, h2, _⟩ := p
    exact PySem.W.kia_one PySem.W.kitx_tuple I.kIn ⟨o, h1, h2⟩ e (fun z => nomatch z) h
  | @dK a kvs ea =>
    cases (show u = Value.ref a from rx)
    obtain ⟨_, _, vs, _, p⟩ := (show ObjOk X.prog X.w H s.heap a (.dK kvs) from I.hok a _ ea)
    obtain ⟨o, es, ep, h1, h2, _⟩ := p
    exact PySem.W.kia_one PySem.W.kitx_dict I.kIn ⟨o, h1, h2.1⟩ e (fun z => nomatch z) h
  | @dT a kvs ea =>
    cases (show u = Value.ref a from rx)
    obtain ⟨_, _, xs, _, o, es, ep, h1, h2, _⟩ := (show ObjOk X.prog X.w H s.heap a (.dT kvs) from I.hok a _ ea)
    exact PySem.W.kia_one PySem.W.kitx_dict I.kIn ⟨o, h1, h2.1⟩ e (fun z => nomatch z) h
  | @ins a C dx fs ea cl ha hn htk hm =>
    cases (show u = Value.ref a from rx)
    obtain ⟨mA, O, _⟩ := ins_get I.hok ea
    obtain ⟨od, J, _⟩ := O.look
    exact PySem.W.kia_one (PySem.W.kitx_own (cl.get _) cl.hd ha hn htk hm) I.kIn J e (fun z => nomatch z) h
end
end L2

namespace L2
open PySem PySem.Spec PyProof.Rows

/-! ### room -/
structure Room (k : Nat) (A : Around) : Prop where
  hd : A.handled = none
  dp : A.depth + 3 * k + 5 < recursionLimit
  un : A.units + 16 * k + 200 < cLine
theorem Room.mono {j k : Nat} {A : Around} (r : Room k A) (h : j ≤ k) : Room j A := ⟨r.hd, by have := r.dp; omega, by have := r.un; omega⟩
theorem Room.deeper {k : Nat} {A : Around} (r : Room (k + 1) A) (env : Env) : Room k (A.deeper env) :=
  ⟨r.hd, by have := r.dp; show A.depth + 1 + 3 * k + 5 < _; omega, by have := r.un; show A.units + 3 + 16 * k + 200 < _; omega⟩
theorem Room.in1 {k : Nat} {A : Around} (r : Room (k + 1) A) : Room k A.in1 :=
  ⟨r.hd, by have := r.dp; show A.depth + 3 * k + 5 < _; omega, by have := r.un; show A.units + 1 + 16 * k + 200 < _; omega⟩
theorem Room.depth {k : Nat} {A : Around} (r : Room k A) : A.depth < recursionLimit := by have := r.dp; omega
theorem Room.units {k : Nat} {A : Around} (r : Room k A) : A.units + 64 < cLine := by have := r.un; omega
/-! ### argument lists and displays -/
def tNil : TA := fun _ H Q => Q [] H
def tCons (ta : TE) (tr : TA) : TA := fun σ H Q => ta σ H fun x H1 => tr σ H1 fun xs H2 => Q (x :: xs) H2
section
variable {X : Cx} {e : Expr} {es : List Expr} {te : TE} {t : TA} {pos : Pos}
theorem pa_nil : PA X [] tNil := fun _ _ _ _ H Q I h => Calls.spliced_nil ⟨[], H, I, .nil, h⟩
theorem pa_cons (ha : PE X e te) (hr : PA X es t) (hs : starEach (e :: es) X.env = (false, eval e X.env) :: starEach es X.env := by rfl) : PA X (e :: es) (tCons te t) := by
  intro pos pins s σ H Q I h
  rw [hs]
  show wpAny _ _ (spliced ((false, eval e X.env) :: backTo pos (starEach es X.env))) _ _ s
  refine Calls.spliced_cons (thn (ha pins s σ H _ I h) fun u s1 ⟨x, H1, I1, r1, q1⟩ => ?_)
  exact thn (hr pos pins s1 σ H1 _ I1 q1) fun us s2 ⟨xs, H2, I2, r2, q2⟩ => ⟨x :: xs, H2, I2, .cons r1 r2, q2⟩

/-- a tuple, a list of written items -/
def tTup (t : TA) : TE := fun σ H Q => t σ H fun xs H1 => xs.length ≤ sizeLine ∧ ∀ p, H1 p = none → Q (.ref p) (upd H1 p (.tup xs))
def tLst (t : TA) : TE := fun σ H Q => t σ H fun xs H1 => xs.length ≤ sizeLine ∧ ∀ p, H1 p = none → Q (.ref p) (upd H1 p (.lst xs))
theorem pe_tup {x1} (h : PA X es t) : PE X (.Tuple es x1 pos) (tTup t) := by
  intro pins s σ H Q I hq
  refine wpAny_Tuple_spliced (thn (h pos pins s σ H _ I hq) fun us s1 ⟨xs, H1, I1, r, z, q⟩ => ⟨by rw [← r.length]; exact z, ?_⟩)
  have hf : H1 s1.heap.objs.size = none := I1.hok.fresh (Nat.le_refl _)
  refine ⟨.ref s1.heap.objs.size, upd H1 s1.heap.objs.size (.tup xs), I1.laid (t' := s1.toks) (fun b u e => Heap.get?_push_of_some _ e) (Nat.le_refl _) ?_, rfl, q _ hf⟩
  exact ⟨z, us, r, ⟨_, Heap.get?_push_size _ rfl, rfl, _, rfl⟩⟩
theorem pe_lst (h : PA X es t) : PE X (.List es pos) (tLst t) := by
  intro pins s σ H Q I hq
  refine wpAny_List_spliced (thn (h pos pins s σ H _ I hq) fun us s1 ⟨xs, H1, I1, r, z, q⟩ => ⟨by rw [← r.length]; exact z, ?_⟩)
  have hf : H1 s1.heap.objs.size = none := I1.hok.fresh (Nat.le_refl _)
  refine ⟨.ref s1.heap.objs.size, upd H1 s1.heap.objs.size (.lst xs), I1.laid (t' := s1.toks) (fun b u e => Heap.get?_push_of_some _ e) (Nat.le_refl _) ?_, rfl, q _ hf⟩
  exact ⟨z, us, 0, r, Heap.get?_push_size _ rfl⟩
end

/-! ### what a def promises -/
/-- a def's promise: the bound arguments in the parameters' order, the heap, the wanted end, the wanted exception -/
abbrev Sp := List V → Hp → VK → XK → Prop
/-- how an exception lies behind a call (file 08 gives it): the callers' frames, abstract heap and state ahead of the call, the wish, the exception, the state -/
abbrev CXT := List Env → Hp → Shared → XK → Value → Shared → Prop

/-- the state at a call -/
structure Env0 (P : Program) (w : World) (K : PySem.W.Frag) (mg : Str → Option Value) (base : Heap) (A : Around) (outer : List Env) (s : Shared) (H : Hp) : Prop where
  frames : A.frames = some outer
  mod : Mod K mg base
  bs : ∀ b o, base.get? b = some o → s.heap.get? b = some o ∧ H b = none
  bsz : base.objs.size ≤ s.heap.objs.size
  funs : s.heap.FunFrames base outer
  frf : ∀ b ∈ frs outer, H b = none
  hok : HOk P w H s.heap
  bare : AllBare s.gens
/-- a call's end -/
def CE (outer : List Env) (P : Program) (w : World) (H : Hp) (s : Shared) (Q : VK) (u : Value) (s' : Shared) : Prop :=
  ∃ v H', s'.os = s.os ∧ AllBare s'.gens ∧ Un (frs outer) [] H H' s.heap s'.heap ∧ HOk P w H' s'.heap ∧ RelV v u ∧ Q v H'
def CR (CX : CXT) (outer : List Env) (P : Program) (w : World) (H : Hp) (s : Shared) (Q : VK) (E : XK) (r : Result) (s' : Shared) : Prop :=
  match r with
  | .ok (.ret u) => CE outer P w H s Q u s'
  | .ok _ => False
  | .error e => CX outer H s E e s'
structure FnOk (P : Program) (w : World) (K : PySem.W.Frag) (mg : Str → Option Value) (base : Heap) (CX : CXT) (k : Nat) (f : Addr) (fd : FuncData) (ps : List Str) (sp : Sp) : Prop where
  len : ∀ vs H Q E, sp vs H Q E → vs.length = ps.length
  run : ∀ (A : Around) (outer : List Env) (s : Shared) (H : Hp) (args : Args) (us : List Value) (vs : List V) (Q : VK) (E : XK), Room k A → Env0 P w K mg base A outer s H → BindsTo s fd args (ps.zip us) → Vals vs us → sp vs H Q E →
    codeAny (model P w) A (.call (.ref f) args) (CR CX outer P w H s Q E) s
theorem FnOk.mono {P : Program} {w : World} {K : PySem.W.Frag} {mg : Str → Option Value} {base : Heap} {CX : CXT} {j k : Nat} {f : Addr} {fd : FuncData} {ps : List Str} {sp : Sp} (F : FnOk P w K mg base CX j f fd ps sp) (h : j ≤ k) :
    FnOk P w K mg base CX k f fd ps sp := ⟨F.len, fun A outer s H args us vs Q E hr => F.run A outer s H args us vs Q E (hr.mono h)⟩
/-- a weaker promise -/
theorem FnOk.imp {P : Program} {w : World} {K : PySem.W.Frag} {mg : Str → Option Value} {base : Heap} {CX : CXT} {k : Nat} {f : Addr} {fd : FuncData} {ps : List Str} {sp sp' : Sp} (F : FnOk P w K mg base CX k f fd ps sp)
    (h : ∀ vs H Q E, sp' vs H Q E → sp vs H Q E) : FnOk P w K mg base CX k f fd ps sp' :=
  ⟨fun vs H Q E q => F.len vs H Q E (h _ _ _ _ q), fun A outer s H args us vs Q E hr he hb hv hs => F.run A outer s H args us vs Q E hr he hb hv (h _ _ _ _ hs)⟩

theorem Env0.in1 {P : Program} {w : World} {K : PySem.W.Frag} {mg : Str → Option Value} {base : Heap} {A : Around} {outer : List Env} {s : Shared} {H : Hp} (e : Env0 P w K mg base A outer s H) :
    Env0 P w K mg base A.in1 outer s H := ⟨e.frames, e.mod, e.bs, e.bsz, e.funs, e.frf, e.hok, e.bare⟩

section
variable {X : Cx} {pins : List (Addr × Obj)} {σ : St} {H : Hp} {s s' : Shared}
/-- from a body: what a callee wants -/
theorem Inv.env0 (I : Inv X pins σ H s) : Env0 X.prog X.w X.K X.mg X.base X.A X.stack s H :=
  ⟨I.ok.frames, I.ok.mod, I.bs, Nat.le_trans I.ok.bsz I.sz, I.stack, I.stkFree, I.hok, I.bare⟩
/-- behind a call -/
theorem Inv.after {Q : VK} {u : Value} (I : Inv X pins σ H s) (h : CE X.stack X.prog X.w H s Q u s') : EP X pins σ Q u s' := by
  obtain ⟨v, H', os, bare, un, hok, r, q⟩ := h
  obtain ⟨hh, g, d, t, os'⟩ := s'
  obtain rfl : os' = s.os := os
  exact ⟨v, H', I.call (h' := hh) (g' := g) (d' := d) (t' := t) (ch := []) un hok bare (fun b z => absurd z (by simp)), r, q⟩
end

/-! ### calls -/
/-- f(..): the written arguments, then the defaults dvs; E: what is wanted of an exception -/
def tCall (sp : Sp) (dvs : List V) (E : XK) (t : TA) : TE := fun σ H Q => t σ H fun vs H1 => sp (vs ++ dvs) H1 Q E
/-- o.m(..) of an instance of the class at C -/
def tMeth (C : Addr) (m : Str) (sp : Sp) (dvs : List V) (E : XK) (ta : TE) (t : TA) : TE := fun σ H Q => ta σ H fun x H1 => ∃ a dx fs, x = .ref a ∧ H1 a = some (.ins C dx fs) ∧ fs.lookup m = none ∧
  t σ H1 fun vs H2 => sp (x :: (vs ++ dvs)) H2 Q E
/-- C(..): a new instance and its dict, then __init__ -/
def tMake (C : Addr) (sp : Sp) (dvs : List V) (E : XK) (t : TA) : TE := fun σ H Q => t σ H fun vs H1 => ∀ x dx, H1 x = none → H1 dx = none → dx ≠ x →
  sp (.ref x :: (vs ++ dvs)) (upd (upd H1 dx (.own x)) x (.ins C dx [])) (fun v H2 => v = .non ∧ Q (.ref x) H2) E

/-- how the parameters are bound: us the positional arguments, kw the keywords' values by name, ds the defaults that fill up -/
def Binds (K : PySem.W.Frag) (fd : FuncData) (ps : List Str) (ds : List Value) : Prop :=
  ∀ (s : Shared) (us : List Value), K.In s.heap → (us ++ ds).length = ps.length → BindsTo s fd ⟨us, []⟩ (ps.zip (us ++ ds))
/-- every parameter is given -/
theorem Binds.all {K : PySem.W.Frag} {fd : FuncData} {ps : List Str} (h : ∀ us : List Value, us.length = ps.length → bindArgs fd ⟨us, []⟩ = pure (ps.zip us)) : Binds K fd ps [] := fun s us _ hl => by
  rw [List.append_nil] at hl ⊢
  exact .of_eq (h us hl)

/-- an exception of a callee reaches what this body wants of exceptions -/
def Passes (CX : CXT) (X : Cx) (E : XK) : Prop := ∀ (pins : List (Addr × Obj)) (σ : St) (H : Hp) (s : Shared) (e : Value) (s' : Shared), Inv X pins σ H s → CX X.stack H s E e s' → X.xe e s'

section
variable {X : Cx} {CX : CXT} {k : Nat} {f C : Addr} {fd : FuncData} {ps : List Str} {sp : Sp} {dvs : List V} {ds : List Value} {E : XK} {x m : Str} {p pos apos : Pos} {e o : Expr} {es : List Expr} {ta : TE} {t : TA}

/-- the callee runs -/
theorem run_fn {pins : List (Addr × Obj)} {σ : St} {H : Hp} {s : Shared} {Q : VK} {us : List Value} {vs : List V} (F : FnOk X.prog X.w X.K X.mg X.base CX k f fd ps sp) (hr : Room k X.A) (hb : Binds X.K fd ps ds) (hd : Vals dvs ds) (hx : Passes CX X E)
    (I : Inv X pins σ H s) (r : Vals vs us) (h : sp (vs ++ dvs) H Q E) : wpAny (model X.prog X.w) X.A (call (.ref f) us) (EP X pins σ Q) X.xe s := by
  have r2 : Vals (vs ++ dvs) (us ++ ds) := r.append hd
  have hl : (us ++ ds).length = ps.length := by rw [← r2.length]; exact F.len _ _ _ _ h
  refine wpAny_call (codeAny_mono (F.run X.A X.stack s H ⟨us, []⟩ (us ++ ds) (vs ++ dvs) Q E hr I.env0 (hb s us I.kIn hl) r2 h) fun r s' hq => ?_)
  cases r with
  | error e => exact hx pins σ H s e s' I hq
  | ok fl =>
    cases fl with
    | ret u => exact I.after hq
    | next => exact False.elim hq
    | brk => exact False.elim hq
    | cont => exact False.elim hq

theorem pe_call (F : FnOk X.prog X.w X.K X.mg X.base CX k f fd ps sp) (hr : Room k X.A) (hg : Gl X x) (hm : X.mg x = some (.ref f)) (hk : PySem.W.keepIn X.K (.ref f) = true) (hb : Binds X.K fd ps ds) (hd : Vals dvs ds) (hx : Passes CX X E)
    (ha : PA X (e :: es) t) (hdb : (x == ("__debug__" : Str)) = false := by decide) (he : starEach (e :: es) X.env = (false, eval e X.env) :: starEach es X.env := by rfl) (hpl : (backTo pos (starEach es X.env)).any (·.1) = false := by rfl) :
    PE X (.Call (.Name x p) (e :: es) [] pos) (tCall sp dvs E t) := by
  intro pins s σ H Q I h
  refine wpAny_Call_Name_kw (ld_glob I hg hm ?_ hdb)
  refine PySem.W.callWith_K (h₀ := X.base) I.ok.mod.kin hk (thn (ha pos pins s σ H _ I h) fun us s1 ⟨vs, H1, I1, r, q⟩ => ⟨I1.kIn, ?_⟩) he hpl
  exact run_fn F hr hb hd hx I1 r q
/-- what a class must have to be made -/
structure Mk (K : PySem.W.Frag) (C f : Addr) : Prop where
  makes : PySem.W.makesIn K C = true
  init : PySem.W.findIn K (.ref C) "__init__" = some (some (.ref f))
  fn : PySem.W.isFn K (.ref f) = true
  kp : PySem.W.keepIn K (.ref C) = true

end

/-! ### keywords -/
/-- the values of the keywords, from the left -/
def PK (X : Cx) (kws : List Keyword) (t : TA) : Prop :=
  ∀ (pos : Pos) (pins : List (Addr × Obj)) (s : Shared) (σ : St) (H : Hp) (Q : List V → Hp → Prop), Inv X pins σ H s → t σ H Q → wpAny (model X.prog X.w) X.A (evalAll ((backToKw pos (keywordEach kws X.env)).map (·.2))) (AP X pins σ Q) X.xe s
section
variable {X : Cx} {CX : CXT} {k : Nat} {f C : Addr} {fd : FuncData} {ps ks : List Str} {sp : Sp} {E : XK} {x m : Str} {p pos apos kpos : Pos} {e o : Expr} {es : List Expr} {kws : List Keyword} {te ta : TE} {t tk : TA} {nm : Option Str}
/-- how a call with keywords binds: g puts the positional values us and the keywords' values ws (names ks) in the parameters' order, defaults among them -/
structure KBinds (K : PySem.W.Frag) (fd : FuncData) (ps ks : List Str) (g : List Value → List Value → List Value) (gV : List V → List V → List V) : Prop where
  to : ∀ (s : Shared) (us ws : List Value), K.In s.heap → (g us ws).length = ps.length → BindsTo s fd ⟨us, ks.zip ws⟩ (ps.zip (g us ws))
  rel : ∀ {vs : List V} {us : List Value} {zs : List V} {ws : List Value}, Vals vs us → Vals zs ws → Vals (gV vs zs) (g us ws)
def tCallK (sp : Sp) (gV : List V → List V → List V) (E : XK) (t tk : TA) : TE := fun σ H Q => t σ H fun vs H1 => tk σ H1 fun zs H2 => sp (gV vs zs) H2 Q E
variable {g : List Value → List Value → List Value} {gV : List V → List V → List V}
end

/-! ### a def's body keeps its promise -/
/-- names: the parameters first -/
structure FnScope (N P : List Str) (sc : Scope) : Prop where
  kind : sc.kind = .function
  co : sc.isCoroutine = false
  gen : sc.isGenerator = false
  nd : N.Nodup
  pre : N.take P.length = P
  par : ∀ x ∈ P, sc.names.lookup x = some .local ∨ sc.names.lookup x = some .cell
  nofree : ∀ y ∈ sc.names, y.2 ≠ .free

theorem bindL_out {kindOf : Str → Option NameKind} {x : Str} : ∀ {binds : List (Str × Value)} {m : Str → Option Value}, (∀ v, (x, v) ∉ binds) → bindL kindOf binds m x = m x
  | [], _, _ => rfl
  | (n, v) :: r, m, h => by
    unfold bindL
    rw [bindL_out fun w hw => h w (List.mem_cons_of_mem _ hw)]
    split
    · have : x ≠ n := by rintro rfl; exact h v List.mem_cons_self
      simp [this]
    · rfl
theorem bindC_out {kindOf : Str → Option NameKind} {x : Str} : ∀ {binds : List (Str × Value)} {m : Str → Option Value}, (∀ v, (x, v) ∉ binds) → bindC kindOf binds m x = m x
  | [], _, _ => rfl
  | (n, v) :: r, m, h => by
    unfold bindC
    rw [bindC_out fun w hw => h w (List.mem_cons_of_mem _ hw)]
    split
    · rfl
    · have : x ≠ n := by rintro rfl; exact h v List.mem_cons_self
      simp [this]
theorem bindL_get {kindOf : Str → Option NameKind} {x : Str} {v : Value} : ∀ {P : List Str} {vs : List Value} {i : Nat} {m : Str → Option Value}, P.Nodup → P[i]? = some x → vs[i]? = some v → kindOf x = some .local →
    bindL kindOf (P.zip vs) m x = some v
  | [], _, _, _, _, h, _, _ => by simp at h
  | _ :: _, [], _, _, _, _, h, _ => by simp at h
  | p :: P, w :: vs, 0, m, nd, h1, h2, hk => by
    simp at h1 h2; subst h1; subst h2
    show bindL kindOf ((p, w) :: P.zip vs) m p = _
    unfold bindL
    rw [bindL_out fun v hv => (List.nodup_cons.mp nd).1 (List.of_mem_zip hv).1, if_pos hk]
    simp
  | p :: P, w :: vs, i + 1, m, nd, h1, h2, hk => by
    show bindL kindOf ((p, w) :: P.zip vs) m x = _
    unfold bindL
    exact bindL_get (i := i) (List.nodup_cons.mp nd).2 (by simpa using h1) (by simpa using h2) hk
theorem bindC_get {kindOf : Str → Option NameKind} {x : Str} {v : Value} : ∀ {P : List Str} {vs : List Value} {i : Nat} {m : Str → Option Value}, P.Nodup → P[i]? = some x → vs[i]? = some v → kindOf x ≠ some .local →
    bindC kindOf (P.zip vs) m x = some v
  | [], _, _, _, _, h, _, _ => by simp at h
  | _ :: _, [], _, _, _, _, h, _ => by simp at h
  | p :: P, w :: vs, 0, m, nd, h1, h2, hk => by
    simp at h1 h2; subst h1; subst h2
    show bindC kindOf ((p, w) :: P.zip vs) m p = _
    unfold bindC
    rw [bindC_out fun v hv => (List.nodup_cons.mp nd).1 (List.of_mem_zip hv).1, if_neg hk]
    simp
  | p :: P, w :: vs, i + 1, m, nd, h1, h2, hk => by
    show bindC kindOf ((p, w) :: P.zip vs) m x = _
    unfold bindC
    exact bindC_get (i := i) (List.nodup_cons.mp nd).2 (by simpa using h1) (by simpa using h2) hk

/-- the names' values at the entry -/
def start (N : List Str) (vs : List V) : St := vs.map some ++ List.replicate (N.length - vs.length) none

/-- the context of a def's body, at its entry; an exception leaves the frame, then lies as CX says -/
def cxOf (CX : CXT) (P : Program) (w : World) (K : PySem.W.Frag) (mg : Str → Option Value) (base : Heap) (N : List Str) (qual : Str) (scope : Scope) (f : Addr) (cd : Value) (A : Around) (outer : List Env) (s : Shared) (H : Hp) (E : XK) : Cx where
  prog := P
  w := w
  K := K
  mg := mg
  base := base
  A := A.deeper (envOfC qual scope s.heap.objs.size f cd)
  N := N
  s₀ := s
  H₀ := H
  env := envOfC qual scope s.heap.objs.size f cd
  outer := outer
  stack := envOfC qual scope s.heap.objs.size f cd :: outer
  ex := []
  calm := true
  fn := fun _ => true
  pn := []
  xe := fun e s' => wpAny (model P w) (A.deeper (envOfC qual scope s.heap.objs.size f cd)) (leaving (envOfC qual scope s.heap.objs.size f cd) e) (fun _ s'' => CX outer H s E e s'') (fun e' s'' => CX outer H s E e' s'') s'

theorem cell_has {sc : Scope} {n : Nat} {x : Str} (h : sc.names.lookup x = some .cell) : ∃ c, (cellsFrom n sc.names []).lookup x = some c := by
  have q := PySem.W.cellsFrom_some sc.names n [] (.inl h)
  exact Option.isSome_iff_exists.mp q

theorem inv_start {CX : CXT} {P : Program} {w : World} {K : PySem.W.Frag} {mg : Str → Option Value} {base : Heap} {N ps : List Str} {qual : Str} {scope : Scope} {f : Addr} {cd : Value} {A : Around} {outer : List Env} {s s1 : Shared} {H : Hp} {E : XK} {us : List Value} {vs : List V}
    (S : FnScope N ps scope) (hd : A.handled = none) (e0 : Env0 P w K mg base A outer s H) (hl : vs.length = ps.length) (r : Vals vs us)
    (x : InCallC s s.heap.objs.size (bindL (envOfC qual scope s.heap.objs.size f cd).kindOf (ps.zip us) fun _ => none) (cellsFrom (s.heap.objs.size + 1) scope.names []) (bindC (envOfC qual scope s.heap.objs.size f cd).kindOf (ps.zip us) fun _ => none) s1) :
    Inv (cxOf CX P w K mg base N qual scope f cd A outer s H E) [] (start N vs) H s1 := by
  have hpl : ps.length ≤ N.length := by have := congrArg List.length S.pre; rw [List.length_take] at this; omega
  obtain ⟨h1, tk, rfl, hk⟩ := x.done
  have noA : ∀ b : Addr, b ∉ (cxOf CX P w K mg base N qual scope f cd A outer s H E).ex := fun b z => absurd (show b ∈ ([] : List Addr) from z) (by simp)
  refine ⟨⟨e0.mod, S.kind, rfl, rfl, Nat.le_refl _, fun y z c h1 h2 => ?_, fun y hy => ?_, fun y c _ h => ?_, fun _ => hd, Around.frames_deeper e0.frames, .inr ⟨rfl, rfl⟩, fun b z => absurd z (noA b), e0.bs, e0.bsz, fun b _ _ => noA b, fun b z => absurd z (noA b), e0.funs, e0.frf⟩,
    rfl, e0.bare, Un.kept hk, ⟨_, x.toInCall.ns, fun i y v h1 h2 h3 => ?_⟩, fun y c h => ⟨_, x.cell y c h⟩, e0.hok.fresh (Nat.le_refl _), fun y c h => ?_, fun p hp => absurd (show p ∈ ([] : List (Addr × Obj)) from hp) (by simp), e0.hok.kept hk, ?_⟩
  · exact name_of_addr x.apart (PySem.mem_of_lookup h1) (PySem.mem_of_lookup h2)
  · have hy : scope.names.lookup y = some .cell ∨ scope.names.lookup y = some .free := hy
    rcases hy with hy | hy
    · exact cell_has hy
    · exact absurd rfl (S.nofree _ (PySem.mem_of_lookup hy))
  · exact Nat.le_of_lt (x.above y c (PySem.mem_of_lookup h))
  · have hi : i < vs.length := by
      unfold start at h2
      by_cases hi : i < vs.length
      · exact hi
      · rw [List.getElem?_append_right (by simpa using hi)] at h2
        rw [List.getElem?_replicate] at h2
        split at h2 <;> cases h2
    have ha : vs[i]? = some v := by
      unfold start at h2
      rw [List.getElem?_append_left (by simpa using hi), List.getElem?_map] at h2
      cases e : vs[i]? with
      | none => rw [e] at h2; cases h2
      | some a => rw [e] at h2; cases h2; rfl
    obtain ⟨u, hu, rv⟩ := r.get ha
    have hp : ps[i]? = some y := by
      rw [← S.pre, List.getElem?_take_of_lt (by omega)]; exact h1
    have ndP : ps.Nodup := by rw [← S.pre]; exact S.nd.sublist (List.take_sublist _ _)
    refine ⟨u, rv, ?_⟩
    rcases S.par y (List.mem_of_getElem? hp) with k | k
    · exact .inl ⟨k, bindL_get ndP hp hu k⟩
    · obtain ⟨c, e⟩ := cell_has (n := s.heap.objs.size + 1) k
      refine .inr ⟨.inl k, c, e, ?_⟩
      have q := x.cell y c e
      rw [bindC_get ndP hp hu (by show scope.names.lookup y ≠ _; rw [k]; decide)] at q
      exact q
  · exact e0.hok.fresh (Nat.le_of_lt (x.above y c (PySem.mem_of_lookup h)))
  · unfold start
    show _ = N.length
    rw [List.length_append, List.length_map, List.length_replicate]
    omega

/-- THE RULE: a def (or a method) of the text, by its body. The body's reading t is chosen for each entry; it is run at the parameters' values -/
theorem fn_of {CX : CXT} {P : Program} {w : World} {K : PySem.W.Frag} {mg : Str → Option Value} {base : Heap} {k : Nat} {f : Addr} {name qual : Str} {params : Arguments} {body : List Stmt} {scope : Scope} {dV kV doc pm cdv ct oc : Value} {an od : Option Addr}
    {osl : Array (Option Value)} {N ps : List Str} {sp : Sp} (lk : K.lookup f = some ⟨oc, od, .func (PySem.W.fnOf name qual params body scope dV kV doc pm an cdv ct), osl⟩) (hcd : PySem.W.codeIn K cdv qual = true) (S : FnScope N ps scope)
    (len : ∀ vs H Q E, sp vs H Q E → vs.length = ps.length)
    (hbody : ∀ (A : Around) (outer : List Env) (s : Shared) (H : Hp) (vs : List V) (Q : VK) (E : XK), Room k (A.deeper (envOfC qual scope s.heap.objs.size f cdv)) → sp vs H Q E →
      ∃ t, PSs (cxOf CX P w K mg base N qual scope f cdv A outer s H E) body t ∧ t { nx := fun _ H' => Q .non H', rt := Q } (start N vs) H) :
    FnOk P w K mg base CX (k + 1) f (PySem.W.fnOf name qual params body scope dV kV doc pm an cdv ct) ps sp := by
  refine ⟨len, fun A outer s H args us vs Q E hr e0 hb r hsp => ?_⟩
  have hl := len _ _ _ _ hsp
  have KX : K.In s.heap := e0.mod.kin.keeps fun b o e => (e0.bs b o e).1
  have lim : s.heap.NoLimit := e0.mod.nolimit.keeps fun b o e => (e0.bs b o e).1
  have hkind : ∀ y ∈ ps.zip us, scope.names.lookup y.1 = some .local ∨ (scope.names.lookup y.1 = some .cell ∧ ((cellsFrom (s.heap.objs.size + 1) scope.names []).lookup y.1).isSome = true) := fun ⟨n, v⟩ hy => by
    rcases S.par n (List.of_mem_zip hy).1 with q | q
    · exact .inl q
    · exact .inr ⟨q, PySem.W.cellsFrom_some _ _ _ (.inl q)⟩
  refine codeAny_call_function hr.depth (KX _ _ lk) rfl S.co S.gen rfl (PySem.W.codeRec_of KX hcd) (hb _ _ _ _ ?_)
  refine wpAny_newFunctionEnv_cells S.kind hkind fun env he s1 x => ?_
  subst he
  refine ⟨lim.keeps x.toInCall.keep, codeAny_func ?_⟩
  obtain ⟨t, ht, hq⟩ := hbody A outer s H vs Q E (hr.deeper _) hsp
  have I : Inv (cxOf CX P w K mg base N qual scope f cdv A outer s H E) [] (start N vs) H s1 := inv_start S hr.hd e0 hl r x
  refine wpAny_mono (ht [] s1 (start N vs) H _ I hq) (fun fl s' hs => ?_) fun e s' hs => hs
  have fin : ∀ {σ' : St} {H' : Hp} {v : V} {u : Value}, Inv (cxOf CX P w K mg base N qual scope f cdv A outer s H E) [] σ' H' s' → RelV v u → Q v H' → CE outer P w H s Q u s' :=
    fun {σ' H' v u} J rv q => ⟨v, H', J.os, J.bare, J.base, J.hok, rv, q⟩
  cases fl with
  | ret u =>
    obtain ⟨v, σ', H', J, rv, q⟩ := hs
    exact fin J rv q
  | next =>
    obtain ⟨σ', H', J, q⟩ := hs
    exact fin (v := V.non) (u := Value.none) J rfl q
  | brk =>
    obtain ⟨_, _, _, q⟩ := hs
    exact False.elim q
  | cont =>
    obtain ⟨_, _, _, q⟩ := hs
    exact False.elim q
end L2

namespace L2
open PySem PySem.Spec PyProof.Rows
section
variable {X : Cx} {x : Str} {p pos : Pos} {e : Expr} {es : List Expr} {t : TA} {id T : String} {r : List V → Hp → VK → Prop}

def tCB (r : List V → Hp → VK → Prop) (t : TA) : TE := fun σ H Q => t σ H fun vs H1 => r vs H1 Q
/-- f(e, ..), f a built-in function -/
theorem pe_callB (hc : CallR X (.builtin id) r) (hg : Gl X x) (hm : X.mg x = none) (hv : bootBuiltins x = some (.builtin id)) (ha : PA X (e :: es) t) (hn : x ≠ "__name__" := by decide) (hdb : (x == ("__debug__" : Str)) = false := by decide)
    (he : starEach (e :: es) X.env = (false, eval e X.env) :: starEach es X.env := by rfl) (hpl : (backTo pos (starEach es X.env)).any (·.1) = false := by rfl) : PE X (.Call (.Name x p) (e :: es) [] pos) (tCB r t) := by
  intro pins s σ H Q I h
  refine wpAny_Call_Name_kw (ld_blt I hg hm hv ?_ hn hdb)
  exact PyProof.Rows.callWith_builtin1 (thn (ha pos pins s σ H _ I h) fun us s1 ⟨vs, H1, I1, r1, q1⟩ => hc pins s1 σ H1 vs us Q I1 r1 q1) he hpl
/-- T(e, ..), T a built-in type -/
theorem pe_callTy (hc : CallR X (.type T) r) (hg : Gl X x) (hm : X.mg x = none) (hv : bootBuiltins x = some (.type T)) (ha : PA X (e :: es) t) (hn : x ≠ "__name__" := by decide) (hdb : (x == ("__debug__" : Str)) = false := by decide)
    (he : starEach (e :: es) X.env = (false, eval e X.env) :: starEach es X.env := by rfl) (hpl : (backTo pos (starEach es X.env)).any (·.1) = false := by rfl) : PE X (.Call (.Name x p) (e :: es) [] pos) (tCB r t) := by
  intro pins s σ H Q I h
  refine wpAny_Call_Name_kw (ld_blt I hg hm hv ?_ hn hdb)
  exact PyProof.Rows.callWith_type1 (thn (ha pos pins s σ H _ I h) fun us s1 ⟨vs, H1, I1, r1, q1⟩ => hc pins s1 σ H1 vs us Q I1 r1 q1) he hpl
end
end L2

namespace L2
open PySem PySem.Spec PyProof.Rows

/-! ### lists of pairs as tables -/
section
variable {κ : Type} [DecidableEq κ]
def valV (kvs : List (κ × V)) (k : κ) : Option V := (kvs.find? fun kv => decide (kv.1 = k)).map (·.2)
/-- in its place, or at the end -/
def putK (kvs : List (κ × V)) (k : κ) (v : V) : List (κ × V) :=
  if (kvs.any fun kv => decide (kv.1 = k)) = true then kvs.map (fun kv => if kv.1 = k then (kv.1, v) else kv) else kvs ++ [(k, v)]
def dropK (kvs : List (κ × V)) (k : κ) : List (κ × V) := kvs.filter fun kv => decide (kv.1 ≠ k)

theorem valV_pos {p : κ × V} {r : List (κ × V)} {k : κ} (e : p.1 = k) : valV (p :: r) k = some p.2 := by simp [valV, List.find?_cons, e]
theorem valV_neg {p : κ × V} {r : List (κ × V)} {k : κ} (e : ¬ p.1 = k) : valV (p :: r) k = valV r k := by simp [valV, List.find?_cons, e]
theorem valV_any (k : κ) : ∀ kvs : List (κ × V), (kvs.any fun kv => decide (kv.1 = k)) = (valV kvs k).isSome
  | [] => rfl
  | p :: r => by
    rw [List.any_cons]
    by_cases e : p.1 = k
    · simp only [valV_pos e, decide_eq_true e, Bool.true_or, Option.isSome_some]
    · rw [valV_neg e, decide_eq_false e, Bool.false_or]; exact valV_any k r
theorem length_putK (kvs : List (κ × V)) (k : κ) (v : V) : (putK kvs k v).length ≤ kvs.length + 1 := by
  unfold putK
  split
  · rw [List.length_map]; omega
  · rw [List.length_append, List.length_cons, List.length_nil]; omega
theorem RelO.isSome_eq {o : Option V} {u : Option Value} (r : RelO o u) : o.isSome = u.isSome := by
  cases o with
  | none => cases u with
    | none => rfl
    | some _ => exact (show False from r).elim
  | some _ => cases u with
    | none => exact (show False from r).elim
    | some _ => rfl
theorem RelO.getD {o : Option V} {u : Option Value} {d : V} {d' : Value} (r : RelO o u) (rd : RelV d d') : RelV (o.getD d) (u.getD d') := by
  cases o with
  | none => cases u with
    | none => exact rd
    | some _ => exact (show False from r).elim
  | some _ => cases u with
    | none => exact (show False from r).elim
    | some _ => exact r

/-- raw tables of the same keys -/
theorem KV.val {kvs : List (κ × V)} {vs : List (κ × Value)} (r : KV kvs vs) (k : κ) : RelO (valV kvs k) (valueAt vs k) := by
  unfold KV at r
  induction r with
  | nil => exact True.intro
  | @cons p q ps qs h t ih =>
    obtain ⟨h1, h2⟩ := h
    by_cases e : p.1 = k
    · have e' : q.1 = k := h1.symm.trans e
      have b : valueAt (q :: qs) k = some q.2 := by simp [valueAt, List.find?_cons, e']
      rw [valV_pos e, b]; exact h2
    · have e' : ¬ q.1 = k := fun z => e (h1.trans z)
      have b : valueAt (q :: qs) k = valueAt qs k := by simp [valueAt, List.find?_cons, e']
      rw [valV_neg e, b]; exact ih
theorem KV.any {kvs : List (κ × V)} {vs : List (κ × Value)} (r : KV kvs vs) (k : κ) : (kvs.any fun kv => decide (kv.1 = k)) = vs.any fun kv => decide (kv.1 = k) := by
  unfold KV at r
  induction r with
  | nil => rfl
  | cons h t ih => rw [List.any_cons, List.any_cons, ih, h.1]
theorem KV.repl {kvs : List (κ × V)} {vs : List (κ × Value)} (r : KV kvs vs) (k : κ) {y : V} {u : Value} (ry : RelV y u) :
    KV (kvs.map fun kv => if kv.1 = k then (kv.1, y) else kv) (vs.map fun kv => if kv.1 = k then (kv.1, u) else kv) := by
  unfold KV at r ⊢
  induction r with
  | nil => exact .nil
  | @cons p q ps qs h t ih =>
    rw [List.map_cons, List.map_cons]
    refine .cons ?_ ih
    obtain ⟨h1, h2⟩ := h
    by_cases e : p.1 = k
    · rw [if_pos e, if_pos (h1.symm.trans e)]; exact ⟨h1, ry⟩
    · rw [if_neg e, if_neg (fun z => e (h1.trans z))]; exact ⟨h1, h2⟩
theorem KV.put {kvs : List (κ × V)} {vs : List (κ × Value)} (r : KV kvs vs) (k : κ) {y : V} {u : Value} (ry : RelV y u) : KV (putK kvs k y) (stored vs k u) := by
  unfold putK stored
  rw [r.any k]
  by_cases e : (vs.any fun kv => decide (kv.1 = k)) = true
  · rw [if_pos e, if_pos e]; exact r.repl k ry
  · rw [if_neg e, if_neg e]; exact Paired.snoc r ⟨rfl, ry⟩
theorem KV.drop {kvs : List (κ × V)} {vs : List (κ × Value)} (r : KV kvs vs) (k : κ) : KV (dropK kvs k) (without vs k) := by
  unfold KV at r ⊢
  unfold dropK without
  induction r with
  | nil => exact .nil
  | @cons p q ps qs h t ih =>
    obtain ⟨h1, h2⟩ := h
    rw [List.filter_cons, List.filter_cons]
    by_cases e : p.1 = k
    · have a : ¬ decide (p.1 ≠ k) = true := by simp [e]
      have b : ¬ decide (q.1 ≠ k) = true := by simp [h1.symm.trans e]
      rw [if_neg a, if_neg b]; exact ih
    · have e' : ¬ q.1 = k := fun z => e (h1.trans z)
      have a : decide (p.1 ≠ k) = true := by simp [e]
      have b : decide (q.1 ≠ k) = true := by simp [e']
      rw [if_pos a, if_pos b]; exact .cons ⟨h1, h2⟩ ih
theorem KV.keys {kvs : List (κ × V)} {vs : List (κ × Value)} (r : KV kvs vs) : kvs.map (·.1) = vs.map (·.1) := by
  unfold KV at r
  induction r with
  | nil => rfl
  | cons h t ih => rw [List.map_cons, List.map_cons, ih, h.1]
theorem KV.length {kvs : List (κ × V)} {vs : List (κ × Value)} (r : KV kvs vs) : kvs.length = vs.length := Paired.length r
end


/-! ### a tracked dict, its keys ints and texts or tuples of these -/
theorem kV_is {P : Program} {w : World} {k : Key} {u : Value} (r : RelV (kV k) u) : (mixKind P w).is k u = true := by
  cases k with
  | inl i => obtain ⟨t, e⟩ := (show ∃ t, u = Value.int i t from r); subst e; exact mixKind_int P w i t
  | inr x => obtain ⟨t, e⟩ := (show ∃ t, u = Value.str x t from r); subst e; exact mixKind_str P w x t
theorem items_are {P : Program} {w : World} : ∀ {ks : List Key} {us : List Value}, Vals (ks.map kV) us → ItemsAre (mixKind P w) ks us
  | [], _, r => by rw [List.map_nil] at r; cases r; exact .nil
  | k :: ks, _, r => by
    rw [List.map_cons] at r
    cases r with
    | cons h t => exact .cons (kV_is h) (items_are t)

/-- raw entries of a dict with tuple keys -/
abbrev KT (H : Hp) : List (List Key × V) → List (List Key × Addr × Value) → Prop := Paired fun p q => p.1 = q.1 ∧ H q.2.1 = some (.tup (p.1.map kV)) ∧ RelV p.2 q.2.2
theorem KT.val {H : Hp} {kvs : List (List Key × V)} {xs : List (List Key × Addr × Value)} (r : KT H kvs xs) (k : List Key) : RelO (valV kvs k) ((atKey xs k).map (·.2)) := by
  induction r with
  | nil => exact True.intro
  | @cons p q ps qs h t ih =>
    obtain ⟨h1, _, h2⟩ := h
    by_cases e : p.1 = k
    · have e' : q.1 = k := h1.symm.trans e
      have b : atKey (q :: qs) k = some q.2 := by simp [atKey, List.find?_cons, e']
      rw [valV_pos e, b]; exact h2
    · have e' : ¬ q.1 = k := fun z => e (h1.trans z)
      have b : atKey (q :: qs) k = atKey qs k := by simp [atKey, List.find?_cons, e']
      rw [valV_neg e, b]; exact ih
theorem KT.repl {H : Hp} {kvs : List (List Key × V)} {xs : List (List Key × Addr × Value)} (r : KT H kvs xs) (k : List Key) {y : V} {u : Value} (ry : RelV y u) :
    KT H (kvs.map fun kv => if kv.1 = k then (kv.1, y) else kv) (xs.map (putAt k u)) := by
  induction r with
  | nil => exact .nil
  | @cons p q ps qs h t ih =>
    rw [List.map_cons, List.map_cons]
    refine .cons ?_ ih
    obtain ⟨h1, h2, h3⟩ := h
    unfold putAt
    by_cases e : p.1 = k
    · rw [if_pos e, if_pos (h1.symm.trans e)]; exact ⟨h1, h2, ry⟩
    · rw [if_neg e, if_neg (fun z => e (h1.trans z))]; exact ⟨h1, h2, h3⟩
theorem KT.put {H : Hp} {kvs : List (List Key × V)} {xs : List (List Key × Addr × Value)} (r : KT H kvs xs) (k : List Key) {b : Addr} {y : V} {u : Value} (hb : H b = some (.tup (k.map kV))) (ry : RelV y u) :
    KT H (putK kvs k y) (storedH xs k b u) := by
  have e : (kvs.any fun kv => decide (kv.1 = k)) = (atKey xs k).isSome := by
    rw [valV_any, (r.val k).isSome_eq, Option.isSome_map]
  unfold putK storedH
  rw [e]
  by_cases q : (atKey xs k).isSome = true
  · rw [if_pos q, if_pos q]; exact r.repl k ry
  · rw [if_neg q, if_neg q]; exact Paired.snoc r ⟨rfl, hb, ry⟩
theorem KT.keeps {H H' : Hp} {kvs : List (List Key × V)} {xs : List (List Key × Addr × Value)} (r : KT H kvs xs) (ht : ∀ b ys, H b = some (.tup ys) → H' b = some (.tup ys)) : KT H' kvs xs :=
  Paired.mapP r fun _ _ z => ⟨z.1, ht _ _ z.2.1, z.2.2⟩

section
variable {P : Program} {w : World} {H : Hp} {h : Heap} {a : Addr}
theorem rd_of {u : HO} (ok : HOk P w H h) (e : Rd H a u) : ObjOk P w H h a u := e.ok ok
theorem dk_rd {kvs : List (Key × V)} (ok : HOk P w H h) (e : Rd H a (.dK kvs)) : kvs.length ≤ sizeLine ∧ (a == sysModules) = false ∧ ∃ vs, KV kvs vs ∧ h.DictOf (mixKind P w) a vs :=
  show ObjOk P w H h a (.dK kvs) from rd_of ok e
theorem dk_of {kvs : List (Key × V)} (ok : HOk P w H h) (e : H a = some (.dK kvs)) : kvs.length ≤ sizeLine ∧ (a == sysModules) = false ∧ ∃ vs, KV kvs vs ∧ h.DictOf (mixKind P w) a vs := dk_rd ok (.inl e)
/-- a tracked tuple of ints and texts is a key -/
theorem key_of {ks : List Key} (ok : HOk P w H h) (e : H a = some (.tup (ks.map kV))) : (tupleKind (mixKind P w)).is h ks a := by
  obtain ⟨_, its, r, o, h1, h2, n, h3⟩ := (show ObjOk P w H h a (.tup (ks.map kV)) from ok a _ e)
  exact ⟨o, its.toArray, n, h1, h2, h3, by simpa using items_are r⟩
theorem dt_rd {kvs : List (List Key × V)} (ok : HOk P w H h) (e : Rd H a (.dT kvs)) : kvs.length ≤ sizeLine ∧ (a == sysModules) = false ∧
    ∃ xs, KT H kvs xs ∧ h.DictOfH (tupleKind (mixKind P w)) a xs := by
  obtain ⟨z, y, xs, r, o, es, ep, h1, h2, h3, h4, h5⟩ := (show ObjOk P w H h a (.dT kvs) from rd_of ok e)
  refine ⟨z, y, xs, r, o, es, ep, h1, h2, h3, h4, fun x hx => ?_, h5⟩
  have all : ∀ {l : List (List Key × V)} {m : List (List Key × Addr × Value)}, KT H l m → ∀ x ∈ m, (tupleKind (mixKind P w)).is h x.1 x.2.1 := by
    intro l m q
    induction q with
    | nil => intro x hx; exact nomatch hx
    | @cons p q ps qs hq t ih =>
      intro x hx
      rcases List.mem_cons.mp hx with e | hx
      · subst e
        exact key_of ok (by rw [← hq.1]; exact hq.2.1)
      · exact ih x hx
  exact all r x hx
theorem dt_of {kvs : List (List Key × V)} (ok : HOk P w H h) (e : H a = some (.dT kvs)) : kvs.length ≤ sizeLine ∧ (a == sysModules) = false ∧
    ∃ xs, KT H kvs xs ∧ h.DictOfH (tupleKind (mixKind P w)) a xs := dt_rd ok (.inl e)
end

/-- what the dict at a holds at the key y -/
def DGet (H : Hp) (a : Addr) (y : V) (r : Option V) : Prop :=
  (∃ kvs k, Rd H a (.dK kvs) ∧ y = kV k ∧ r = valV kvs k) ∨ ∃ kvs k b, Rd H a (.dT kvs) ∧ y = .ref b ∧ H b = some (.tup (k.map kV)) ∧ r = valV kvs k
/-- the heap behind a[y] = v -/
def DPut (H : Hp) (a : Addr) (y v : V) (H' : Hp) : Prop :=
  (∃ kvs k, H a = some (.dK kvs) ∧ y = kV k ∧ kvs.length < sizeLine ∧ H' = upd H a (.dK (putK kvs k v))) ∨
  ∃ kvs k b, H a = some (.dT kvs) ∧ y = .ref b ∧ H b = some (.tup (k.map kV)) ∧ kvs.length < sizeLine ∧ H' = upd H a (.dT (putK kvs k v))
theorem DGet.k {H : Hp} {a : Addr} {kvs : List (Key × V)} {k : Key} (e : H a = some (.dK kvs)) : DGet H a (kV k) (valV kvs k) := .inl ⟨kvs, k, .inl e, rfl, rfl⟩
theorem DGet.t {H : Hp} {a b : Addr} {kvs : List (List Key × V)} {k : List Key} (e : H a = some (.dT kvs)) (eb : H b = some (.tup (k.map kV))) : DGet H a (.ref b) (valV kvs k) := .inr ⟨kvs, k, b, .inl e, rfl, eb, rfl⟩
theorem DPut.k {H : Hp} {a : Addr} {kvs : List (Key × V)} {k : Key} {v : V} (e : H a = some (.dK kvs)) (hl : kvs.length < sizeLine) : DPut H a (kV k) v (upd H a (.dK (putK kvs k v))) := .inl ⟨kvs, k, e, rfl, hl, rfl⟩
theorem DPut.t {H : Hp} {a b : Addr} {kvs : List (List Key × V)} {k : List Key} {v : V} (e : H a = some (.dT kvs)) (eb : H b = some (.tup (k.map kV))) (hl : kvs.length < sizeLine) :
    DPut H a (.ref b) v (upd H a (.dT (putK kvs k v))) := .inr ⟨kvs, k, b, e, rfl, eb, hl, rfl⟩


section
variable {X : Cx} {pins : List (Addr × Obj)} {σ : St} {H : Hp} {s : Shared} {a : Addr} {y v : V} {u r : Value} {o : Option V} {A : Around} {E : Value → Shared → Prop}

theorem Inv.big (I : Inv X pins σ H s) : sysModules < s.heap.objs.size := by
  have h : mainGlobals < s.heap.objs.size := (I.mod.glob.keeps I.bk).lt
  exact Nat.lt_trans (by decide) h

/-- a dict's object is replaced -/
theorem d_write {h' : Heap} {t' : Nat} {ob : HO} (I : Inv X pins σ H s) (mu : Mut (H a)) (hs : Heap.SameBut a s.heap h') (he : ∃ q, h'.get? a = some q) (new : ObjOk X.prog X.w (upd H a ob) h' a ob) :
    Inv X pins σ (upd H a ob) { s with heap := h', toks := t' } :=
  I.write (x := a) (e := a) mu (.inl rfl) (fun b q hb z => (hs.2 b hb).trans z) he new
theorem dk_new {P : Program} {w : World} {H' : Hp} {h' : Heap} {kvs : List (Key × V)} {vs : List (Key × Value)} (z : kvs.length ≤ sizeLine) (hd : (a == sysModules) = false) (rel : KV kvs vs) (dd : h'.DictOf (mixKind P w) a vs) :
    ObjOk P w H' h' a (.dK kvs) := ⟨z, hd, vs, rel, dd⟩
/-- d[y] = v -/
theorem d_setItem {H' : Hp} {Q : Unit → Shared → Prop} (hu : A.units + 1 < cLine) (I : Inv X pins σ H s) (g : DPut H a y v H') (ry : RelV y u) (rv : RelV v r) (h : ∀ s', Inv X pins σ H' s' → Q () s') :
    wpAny (model X.prog X.w) A (setItem (.ref a) u r) Q E s := by
  rcases g with ⟨kvs, k, e, ey, l, eH⟩ | ⟨kvs, k, b, e, ey, eb, l, eH⟩
  · subst ey eH
    obtain ⟨z, hd, vs, rel, dd⟩ := dk_of I.hok e
    have hz : vs.length ≤ sizeLine := by rw [← rel.length]; exact z
    have hl : (putK kvs k v).length ≤ sizeLine := by have := length_putK kvs k v; omega
    refine wpAny_setItem_pairs (hsz := hz) (kV_is ry) dd fun h' dd' hs => h _ ?_
    have he : ∃ q, h'.get? a = some q := let ⟨q, _, _, hq, _⟩ := dd'; ⟨q, hq⟩
    exact d_write I (by rw [e]; exact True.intro) hs he (dk_new hl hd (rel.put k rv) dd')
  · subst ey eH
    cases (show u = Value.ref b from ry)
    obtain ⟨z, hd, xs, rel, dd⟩ := dt_of I.hok e
    have hz : xs.length ≤ sizeLine := by rw [← Paired.length rel]; exact z
    have hl : (putK kvs k v).length ≤ sizeLine := by have := length_putK kvs k v; omega
    refine wpAny_setItem_heap (hsz := hz) (tupleKind_room_in1 hu) (key_of I.hok eb) dd fun h' dd' hs => h _ ?_
    obtain ⟨q, es, ep, hq, h2, h3, h4, _, h5⟩ := dd'
    refine d_write I (by rw [e]; exact True.intro) hs ⟨q, hq⟩ ⟨hl, hd, _, (rel.put k eb rv).keeps fun c ys ec => ?_, q, es, ep, hq, h2, h3, h4, h5⟩
    rw [upd_ne (ne_of ec e (fun z => nomatch z))]
    exact ec
end

section
variable {X : Cx} {pins : List (Addr × Obj)} {σ : St} {H : Hp} {s : Shared} {a : Addr} {kvs : List (Key × V)} {k : Key} {u : Value} {A : Around} {E : Value → Shared → Prop}
end


/-! ### readings and rules -/
/-- the element of a subscription, not a slice -/
def NoSl (i : Expr) : Prop := ∀ ov iv, subscripted i false ov iv = operate [ov, iv] (getItem ov iv)
/-- d[y] -/
def tDGet (td ty : TE) : TE := fun σ H Q => td σ H fun x H1 => ty σ H1 fun y H2 => ∃ a v, x = .ref a ∧ DGet H2 a y (some v) ∧ Q v H2
/-- y in d, y not in d -/
def tDIn (ty td : TE) : TE := fun σ H Q => ty σ H fun y H1 => td σ H1 fun x H2 => ∃ a o, x = .ref a ∧ DGet H2 a y o ∧ Q (.bl o.isSome) H2
def tDNotIn (ty td : TE) : TE := fun σ H Q => ty σ H fun y H1 => td σ H1 fun x H2 => ∃ a o, x = .ref a ∧ DGet H2 a y o ∧ Q (.bl (!o.isSome)) H2
/-- d[y] = v -/
def sDPut (td ty tv : TE) : TS := fun D σ H => tv σ H fun v H1 => td σ H1 fun x H2 => ty σ H2 fun y H3 => ∃ a H4, x = .ref a ∧ DPut H3 a y v H4 ∧ D.nx σ H4
/-- d[y] op= v -/
def sDAug (td ty tv : TE) (rd : V → V → Hp → VK → Prop) : TS := fun D σ H => td σ H fun x H1 => ty σ H1 fun y H2 => ∃ a v, x = .ref a ∧ DGet H2 a y (some v) ∧
  tv σ H2 fun y2 H3 => rd v y2 H3 fun z H4 => ∃ H5, DPut H4 a y z H5 ∧ D.nx σ H5
/-- del d[y] -/
def sDDel (td ty : TE) : TS := fun D σ H => td σ H fun x H1 => ty σ H1 fun y H2 => ∃ a kvs k, x = .ref a ∧ H2 a = some (.dK kvs) ∧ y = kV k ∧ (valV kvs k).isSome = true ∧ D.nx σ (upd H2 a (.dK (dropK kvs k)))

section
variable {X : Cx} {o i e value : Expr} {pos pos' tpos : Pos} {td ty tv : TE}
theorem ps_dput (hu : X.A.units + 1 < cLine) (ho : PE X o td) (hi : PE X i ty) (hv : PE X value tv) (hs : swapsWith value (some (.Subscript o i pos')) pos.line X.env = pure false) :
    PS X (.Assign [.Subscript o i pos'] value pos) (sDPut td ty tv) := by
  intro pins s σ H D I h
  refine wpAny_Assign_Subscript (thn (hv pins s σ H _ I h) fun r s1 ⟨v, H1, I1, rv, q1⟩ => thn (ho pins s1 σ H1 _ I1 q1) fun u s2 ⟨x, H2, I2, rx, q2⟩ => thn (hi pins s2 σ H2 _ I2 q2) fun iv s3 ⟨y, H3, I3, ry, a, H4, ex, g, q3⟩ => ?_) hs
  subst ex
  obtain rfl : u = Value.ref a := rx
  exact d_setItem hu I3 g ry rv fun s4 I4 => ⟨σ, H4, I4, q3⟩
end


/-! ### displays -/
theorem dk_empty {P : Program} {w : World} {H : Hp} (h : Heap) (hb : sysModules < h.objs.size) : ObjOk P w H (h.push { cls := .type "dict", data := .dict #[] }) h.objs.size (.dK []) :=
  ⟨Nat.zero_le _, beq_eq_false_iff_ne.mpr (Ne.symm (Nat.ne_of_lt hb)), [], .nil, Heap.DictOf.new h⟩
/-- {}, to be a dict of the kind that is wanted -/
def tDNewK : TE := fun _ H Q => ∀ p, H p = none → Q (.ref p) (upd H p (.dK []))
def tDNewT : TE := fun _ H Q => ∀ p, H p = none → Q (.ref p) (upd H p (.dT []))
section
variable {X : Cx} {pos : Pos}
theorem pe_dnewK : PE X (.Dict [] [] pos) tDNewK := fun pins s σ H Q I h =>
  wpAny_Dict_empty ⟨.ref s.heap.objs.size, _, I.laid (a := s.heap.objs.size) (o := .dK []) (t' := s.toks) (fun _ _ q => Heap.get?_push_of_some _ q) (Nat.le_refl _) (dk_empty s.heap I.big), rfl, h _ (I.hok.fresh (Nat.le_refl _))⟩
end

/-- the pairs of a display, from the left -/
def tPairs : List (TE × TE) → St → Hp → (List (V × V) → Hp → Prop) → Prop
  | [], _, H, Q => Q [] H
  | (tk, tv) :: r, σ, H, Q => tk σ H fun x H1 => tv σ H1 fun y H2 => tPairs r σ H2 fun ps H3 => Q ((x, y) :: ps) H3
abbrev VV : List (V × V) → List (Value × Value) → Prop := Paired fun p q => RelV p.1 q.1 ∧ RelV p.2 q.2
def PPs (X : Cx) (pos : Pos) (keys : List (Option Expr)) (values : List Expr) (trs : List (TE × TE)) : Prop :=
  ∀ (pins : List (Addr × Obj)) (s : Shared) (σ : St) (H : Hp) (Q : List (V × V) → Hp → Prop), Inv X pins σ H s → tPairs trs σ H Q →
    wpAny (model X.prog X.w) X.A (evalPairs (pairTrees keys values X.env pos)) (fun vs s' => ∃ ps H', Inv X pins σ H' s' ∧ VV ps vs ∧ Q ps H') X.xe s
def mergeK (kvs more : List (Key × V)) : List (Key × V) := more.foldl (fun acc kv => putK acc kv.1 kv.2) kvs
/-- {k: v, ..} with keys ints and texts; the new dict stands empty while the pairs are made -/
def tDisp (trs : List (TE × TE)) : TE := fun σ H Q => ∀ p, H p = none → tPairs trs σ (upd H p (.dK [])) fun ps H2 => H2 p = some (.dK []) ∧ ∃ kvs : List (Key × V), ps = kvs.map (fun kv => (kV kv.1, kv.2)) ∧ kvs.length ≤ 15 ∧ Q (.ref p) (upd H2 p (.dK (mergeK [] kvs)))
/-! ### methods -/
/-- a method call o.m(e) of a built-in, with one argument: what must be seen of the text -/
structure M1 (X : Cx) (o : Expr) (m : Str) (apos : Pos) (e : Expr) (cpos : Pos) : Prop where
  base : attributeBase o m X.env (eval o X.env) = eval o X.env
  few : ((backTo cpos (starEach [e] X.env)).all (fun x => !x.1) && (backToKw cpos (keywordEach [] X.env)).all (fun x => x.1.isSome)
    && decide (([e] : List Expr).length + ([] : List Keyword).length + (if ([] : List Keyword).isEmpty then 0 else 1) < 30)) = true
  line : (apos.endLine == cpos.line) = true
  trees : backTo cpos (starEach [e] X.env) = [(false, eval e X.env)]
structure M2 (X : Cx) (o : Expr) (m : Str) (apos : Pos) (e f : Expr) (cpos : Pos) : Prop where
  base : attributeBase o m X.env (eval o X.env) = eval o X.env
  few : ((backTo cpos (starEach [e, f] X.env)).all (fun x => !x.1) && (backToKw cpos (keywordEach [] X.env)).all (fun x => x.1.isSome)
    && decide (([e, f] : List Expr).length + ([] : List Keyword).length + (if ([] : List Keyword).isEmpty then 0 else 1) < 30)) = true
  line : (apos.endLine == cpos.line) = true
  trees : backTo cpos (starEach [e, f] X.env) = [(false, eval e X.env), (false, eval f X.env)]

/-- a is a dict, whatever its keys -/
def IsD (H : Hp) (a : Addr) : Prop := (∃ kvs, Rd H a (.dK kvs)) ∨ ∃ kvs, Rd H a (.dT kvs)
section
variable {X : Cx} {pins : List (Addr × Obj)} {σ : St} {H : Hp} {s : Shared} {a : Addr} {y d : V} {u r : Value} {o : Option V} {A : Around} {E : Value → Shared → Prop}
end

def tDGet1 (td ty : TE) : TE := fun σ H Q => td σ H fun x H1 => ∃ a, x = .ref a ∧ IsD H1 a ∧ ty σ H1 fun y H2 => ∃ o, DGet H2 a y o ∧ Q (o.getD .non) H2
def tDGet2 (td ty tx : TE) : TE := fun σ H Q => td σ H fun x H1 => ∃ a, x = .ref a ∧ IsD H1 a ∧ ty σ H1 fun y H2 => tx σ H2 fun z H3 => ∃ o, DGet H3 a y o ∧ Q (o.getD z) H3
/-- d.pop(k): there; d.pop(k, x): there or not -/
def tDPop1 (td ty : TE) : TE := fun σ H Q => td σ H fun x H1 => ∃ a, x = .ref a ∧ IsD H1 a ∧ ty σ H1 fun y H2 => ∃ kvs k v, H2 a = some (.dK kvs) ∧ y = kV k ∧ valV kvs k = some v ∧ Q v (upd H2 a (.dK (dropK kvs k)))
def tDPop2 (td ty tx : TE) : TE := fun σ H Q => td σ H fun x H1 => ∃ a, x = .ref a ∧ IsD H1 a ∧ ty σ H1 fun y H2 => tx σ H2 fun z H3 => ∃ kvs k, H3 a = some (.dK kvs) ∧ y = kV k ∧
  (∀ v, valV kvs k = some v → Q v (upd H3 a (.dK (dropK kvs k)))) ∧ (valV kvs k = none → Q z H3)
section
variable {X : Cx} {o e f : Expr} {apos cpos : Pos} {td ty tx : TE}
end

/-! ### dict(d): a copy -/
section
variable {X : Cx} {pins : List (Addr × Obj)} {σ : St} {H : Hp} {s : Shared} {a : Addr} {kvs : List (Key × V)} {A : Around} {E : Value → Shared → Prop}
end


section
variable {X : Cx} {pins : List (Addr × Obj)} {σ : St} {H : Hp} {s : Shared} {a : Addr} {y : V} {u : Value} {A : Around} {E : Value → Shared → Prop}
end
end L2

namespace HT
open PySem PyProof.Rows

/-- t < u of tuples of ints -/
def lexLt : List Int → List Int → Bool
  | [], [] => false
  | [], _ :: _ => true
  | _ :: _, [] => false
  | x :: xs, y :: ys => if x = y then lexLt xs ys else decide (x < y)
section
open PySem.SeqAt
open PySem.AutoSeq1 (wpAny_loadPart')
open PySem.MeetsSeq PySem.MeetsSeq2 PySem.MeetsSeq3

end

section
variable {prog : Program} {w : World} {A : Around} {E : Value → Shared → Prop} {s : Shared}

/-- t + u, t not empty -/
theorem cat_tup {t b : Addr} {vs ws : List Value} {Q : Value → Shared → Prop} (ht : IsTup s.heap t vs.toArray) (hb : IsTup s.heap b ws.toArray) (hv : vs ≠ [])
    (h1 : ws = [] → Q (.ref t) s) (h2 : ws ≠ [] → Q (.ref s.heap.objs.size) { s with heap := s.heap.push { cls := .type "tuple", data := .seq (vs ++ ws).toArray } })
    (hsz : vs.length + ws.length ≤ sizeLine) : wpAny (model prog w) A (binaryOp .Add (.ref t) (.ref b)) Q E s := by
  obtain ⟨⟨cls, dd, data, sl⟩, ho, hc, n, hd⟩ := id ht
  obtain ⟨⟨cls2, dd2, data2, sl2⟩, ho2, hc2, n2, hd2⟩ := id hb
  simp only at hc hd hc2 hd2
  subst hc hd hc2 hd2
  have e : vs.toArray ++ ws.toArray = (vs ++ ws).toArray := by simp
  by_cases hw : ws = []
  · exact concat_meets ⟨_, ho, rfl⟩ ⟨_, ho2, rfl⟩ noFill_tuple_add seq_tuple_add PySem.F.slot_tuple_add PySem.F.entry_tuple_add (PySem.F.args_tuple_add_2 _ _)
      (tuple_addW1 t b vs.toArray ws.toArray n n2 dd dd2 sl sl2 (by simpa using hv) (by simp [hw])) ⟨ho, ho2, h1 hw⟩
  · refine concat_meets ⟨_, ho, rfl⟩ ⟨_, ho2, rfl⟩ noFill_tuple_add seq_tuple_add PySem.F.slot_tuple_add PySem.F.entry_tuple_add (PySem.F.args_tuple_add_2 _ _)
      (tuple_addW2 t b vs.toArray ws.toArray n n2 dd dd2 sl sl2 (by simpa using hv) (by simpa using hw) (by rw [List.size_toArray, List.size_toArray]; exact hsz)) ⟨ho, ho2, ?_⟩
    rw [e]
    exact h2 hw

/-! ### t[a:b], not the whole -/
/-- a slice's bound as a place among n (d where it is left out) -/
def sIx (n d : Nat) : Option Int → Nat
  | none => d
  | some v => if v < 0 then (v + (n : Int)).toNat else min v.toNat n
theorem sIx_nat (n d k : Nat) : sIx n d (some (k : Int)) = min k n := by
  show (if (k : Int) < 0 then ((k : Int) + (n : Int)).toNat else min (k : Int).toNat n) = min k n
  rw [if_neg (by omega), Int.toNat_natCast]
theorem sIx_le (n d : Nat) (hd : d ≤ n) (o : Option Int) : sIx n d o ≤ n := by
  cases o with
  | none => exact hd
  | some v =>
    show (if v < 0 then (v + (n : Int)).toNat else min v.toNat n) ≤ n
    by_cases hv : v < 0
    · rw [if_pos hv]; omega
    · rw [if_neg hv]; exact Nat.min_le_right _ _
theorem clip_eq (v : Int) (n d : Nat) : (if v < 0 then max (v + (n : Int)) 0 else min v (n : Int)) = ((sIx n d (some v) : Nat) : Int) := by
  show (if v < 0 then max (v + (n : Int)) 0 else min v (n : Int)) = (((if v < 0 then (v + (n : Int)).toNat else min v.toNat n) : Nat) : Int)
  by_cases hv : v < 0
  · simp only [if_pos hv]; omega
  · simp only [if_neg hv]; omega
theorem adjust_gen (lo hi : Option Int) (n : Nat) : Builtin.Slice.sliceAdjust lo hi 1 (n : Int) = (((sIx n 0 lo : Nat) : Int), ((sIx n n hi : Nat) : Int)) := by
  have h1 : ¬ ((1 : Int) < 0) := by omega
  unfold Builtin.Slice.sliceAdjust
  simp only [h1, if_false]
  refine Prod.ext ?_ ?_
  · cases lo with
    | none => rfl
    | some v => exact clip_eq v n 0
  · cases hi with
    | none => rfl
    | some v => exact clip_eq v n n
theorem places_gen (i j : Nat) : Builtin.Slice.slicePlaces (i : Int) (j : Int) 1 = j - i := by
  unfold Builtin.Slice.slicePlaces
  have h1 : (1 : Int) > 0 := by omega
  simp only [h1, if_true, Int.ediv_one]
  split <;> omega
theorem slicePart_ {v : Value} {o : Option Int} {Q : Option Int → Shared → Prop} (p : IsPart v o) (h : Q o s) : wpAny (model prog w) A (Builtin.Slice.slicePartIndex v) Q E s := by
  cases p with
  | none => exact slicePart_none h
  | int i t => exact slicePart_int h
theorem sliceApplied_gen {sl : Addr} {vl vu : Value} {lo hi : Option Int} {n : Nat} {Q : Int × Int × Nat → Shared → Prop} (hs : s.heap.IsSliceOf sl vl vu .none) (pl : IsPart vl lo) (pu : IsPart vu hi)
    (h : Q (((sIx n 0 lo : Nat) : Int), 1, sIx n n hi - sIx n 0 lo) s) : wpAny (model prog w) A (Builtin.Slice.sliceApplied (.ref sl) (pure (n : Int))) Q E s := by
  obtain ⟨os, hos, hcs, hds⟩ := id hs
  unfold Builtin.Slice.sliceApplied Builtin.Slice.sliceFields
  refine wpAny_bind (wpAny_bind (wpAny_field hos hds (x := vl) rfl (wpAny_bind (wpAny_field hos hds (x := vu) rfl (wpAny_bind (wpAny_field hos hds (x := .none) rfl (wpAny_pure ?_)))))))
  refine wpAny_bind (slicePart_none ?_)
  show wpAny _ _ (if ((1 : Int) == 0) = true then _ else _) _ _ s
  rw [if_neg (by decide)]
  refine wpAny_bind (slicePart_ pl (wpAny_bind (slicePart_ pu (wpAny_bind (wpAny_pure ?_)))))
  show wpAny _ _ (match Builtin.Slice.sliceAdjust lo hi 1 (n : Int) with | (lo, hi) => pure (lo, (1 : Int), Builtin.Slice.slicePlaces lo hi 1)) _ _ s
  rw [adjust_gen lo hi n]
  show wpAny _ _ (pure (((sIx n 0 lo : Nat) : Int), (1 : Int), Builtin.Slice.slicePlaces ((sIx n 0 lo : Nat) : Int) ((sIx n n hi : Nat) : Int) 1)) _ _ s
  rw [places_gen]
  exact wpAny_pure h
theorem pick_gen (xs : Array Value) (i k : Nat) : ((List.range k).filterMap fun (m : Nat) => xs[((i : Int) + (m : Int) * 1).toNat]?).toArray = ((xs.toList.drop i).take k).toArray := by
  have e : (fun (m : Nat) => xs[((i : Int) + (m : Int) * 1).toNat]?) = fun m => xs[i + m]? := by
    funext m
    have : ((i : Int) + (m : Int) * 1).toNat = i + m := by omega
    rw [this]
  rw [e]
  have := pick_run xs i k
  rw [List.filterMap_map] at this
  have e2 : ((fun x => xs[x]?) ∘ fun x => i + x) = fun m => xs[i + m]? := rfl
  rw [e2] at this
  rw [this]

theorem getItem_tuple_cut {t sl : Addr} {items : Array Value} {vl vu : Value} {lo hi : Option Int} {Q : Value → Shared → Prop} (ht : IsTup s.heap t items) (hs : s.heap.IsSliceOf sl vl vu .none) (pl : IsPart vl lo) (pu : IsPart vu hi)
    (hw : ¬ (sIx items.size 0 lo = 0 ∧ sIx items.size items.size hi = items.size))
    (h : Q (.ref s.heap.objs.size) { s with heap := s.heap.push { cls := .type "tuple", data := .seq ((items.toList.drop (sIx items.size 0 lo)).take (sIx items.size items.size hi - sIx items.size 0 lo)).toArray } })
    (hsz : items.size ≤ sizeLine) : wpAny (model prog w) A (getItem (.ref t) (.ref sl)) Q E s := by
  have htake : sizeOk (.seq ((items.toList.drop (sIx items.size 0 lo)).take (sIx items.size items.size hi - sIx items.size 0 lo)).toArray) := by
    show ((items.toList.drop (sIx items.size 0 lo)).take (sIx items.size items.size hi - sIx items.size 0 lo)).toArray.size ≤ sizeLine
    rw [List.size_toArray, List.length_take, List.length_drop, Array.length_toList]
    omega
  have hj : sIx items.size items.size hi ≤ items.size := sIx_le _ _ (Nat.le_refl _) hi
  obtain ⟨os, hos, hcs, hds⟩ := id hs
  have hTs : s.TypeIs (.ref sl) "slice" := ⟨os, hos, hcs⟩
  unfold getItem
  try with_reducible refine wpAny_holding ?_
  first | refine wpAny_bind (wpAny_pure ?_) | skip
  refine wpAny_bind (wpAny_sequenceKey ht.typeIs (by decide) ?_)
  refine wpAny_bind (wpAny_callSpecial?_slot (name := Str.ofString "__getitem__") ht.typeIs PyProof.Rows.slot_tuple_getitem
    (wpAny_call_entry PyProof.Rows.slot_tuple_getitem ht.typeIs entry_tuple_getitem ?_ (args_tuple_getitem _ _)))
  show wpAny _ _ (Builtin.Tuple.tupleItemsOf (.ref t) >>= _) _ _ s
  refine wpAny_bind (tupleItemsOf_ ht ?_)
  refine wpAny_bind (wpAny_typeOf hTs ?_)
  rw [if_pos (by decide)]
  refine wpAny_bind (sliceApplied_gen hs pl pu ?_)
  have hno : ¬ ((((sIx items.size 0 lo : Nat) : Int) == 0 && (1 : Int) == 1 && (sIx items.size items.size hi - sIx items.size 0 lo) == items.size) = true) := by
    intro q
    rw [Bool.and_eq_true, Bool.and_eq_true] at q
    have q1 : ((sIx items.size 0 lo : Nat) : Int) = 0 := eq_of_beq q.1.1
    have q2 : sIx items.size items.size hi - sIx items.size 0 lo = items.size := eq_of_beq q.2
    exact hw ⟨by omega, by omega⟩
  show wpAny _ _ (if (((sIx items.size 0 lo : Nat) : Int) == 0 && (1 : Int) == 1 && (sIx items.size items.size hi - sIx items.size 0 lo) == items.size) = true then _ else _) _ _ s
  rw [if_neg hno, pick_gen]
  first
    | exact wpAny_bind (m := Builtin.Tuple.tupleExact _) (wpAny_newObj_type (wpAny_pure ⟨_, rfl, wpAny_pure h⟩) htake)
    | exact wpAny_bind (m := Builtin.Tuple.tupleExact _) (wpAny_newObj_type (wpAny_bind (wpAny_pure (wpAny_pure ⟨_, rfl, wpAny_pure h⟩))) htake)
    | exact wpAny_bind (wpAny_bind (m := Builtin.Tuple.tupleExact _) (wpAny_newObj_type (wpAny_pure (wpAny_pure ⟨_, rfl, wpAny_pure h⟩)) htake))
    | exact wpAny_bind (wpAny_bind (m := Builtin.Tuple.tupleExact _) (wpAny_newObj_type (wpAny_pure ⟨_, rfl, wpAny_pure h⟩) htake))
end
end HT

namespace L2
open PySem PySem.Spec PyProof.Rows

/-! ### the parts of a slice -/
abbrev TO := St → Hp → (Option Int → Hp → Prop) → Prop
/-- a slice's part (left out, or an int) -/
def PO (X : Cx) (e : Option Expr) (t : TO) : Prop :=
  ∀ (pins : List (Addr × Obj)) (s : Shared) (σ : St) (H : Hp) (Q : Option Int → Hp → Prop), Inv X pins σ H s → t σ H Q →
    wpAny (model X.prog X.w) X.A (evalPart e X.env) (fun u s' => ∃ o H', Inv X pins σ H' s' ∧ IsPart u o ∧ Q o H') X.xe s
def tNoPart : TO := fun _ H Q => Q none H
def tPart (t : TE) : TO := fun σ H Q => t σ H fun x H1 => ∃ i, x = .int i ∧ Q (some i) H1

theorem intsAre_of {ns : List Int} : ∀ {us : List Value}, Vals (ns.map V.int) us → IntsAre us ns := by
  induction ns with
  | nil => intro us r; rw [List.map_nil] at r; cases r; exact .nil
  | cons n ns ih =>
    intro us r
    rw [List.map_cons] at r
    cases r with
    | cons r1 r2 =>
      obtain ⟨t, e⟩ := r1
      subst e
      exact .cons n t (ih r2)

section
variable {X : Cx} {e : Expr} {te : TE} {lo hi : Option Expr} {tl th : TO} {pos p2 : Pos}

theorem po_none : PO X none tNoPart := by
  intro pins s σ H Q I h
  rw [evalPart_none]
  exact wpAny_pure ⟨none, H, I, .none, h⟩
theorem po_some (h : PE X e te) : PO X (some e) (tPart te) := by
  intro pins s σ H Q I hw
  rw [evalPart_some]
  refine thn (h pins s σ H _ I hw) fun u s1 ⟨x, H1, I1, r1, q1⟩ => ?_
  obtain ⟨i, rfl, q⟩ := q1
  obtain ⟨t, rfl⟩ := r1
  exact ⟨some i, H1, I1, .int i t, q⟩

/-- what a slice of a value is, by values: the slice object stands at sl -/
def SlR (X : Cx) (r : V → Option Int → Option Int → Hp → VK → Prop) : Prop :=
  ∀ (pins : List (Addr × Obj)) (s : Shared) (σ : St) (H : Hp) (x : V) (v vl vu : Value) (lo hi : Option Int) (sl : Addr) (Q : VK), Inv X pins σ H s → RelV x v → s.heap.IsSliceOf sl vl vu .none → IsPart vl lo → IsPart vu hi → r x lo hi H Q →
    ∃ T id, typeLookup (.type T) "__getitem__" = pure (some (.builtin id)) ∧ s.TypeIs v T ∧ wpAny (model X.prog X.w) X.A (getItem v (.ref sl)) (EP X pins σ Q) X.xe s
theorem SlR.or {r r' : V → Option Int → Option Int → Hp → VK → Prop} (h : SlR X r) (h' : SlR X r') : SlR X (fun x lo hi H Q => r x lo hi H Q ∨ r' x lo hi H Q) := by
  intro pins s σ H x v vl vu lo hi sl Q I rx hs pl pu q
  rcases q with q | q
  · exact h pins s σ H x v vl vu lo hi sl Q I rx hs pl pu q
  · exact h' pins s σ H x v vl vu lo hi sl Q I rx hs pl pu q
def tSl (r : V → Option Int → Option Int → Hp → VK → Prop) (te : TE) (tl th : TO) : TE := fun σ H Q => te σ H fun x H1 => tl σ H1 fun l H2 => th σ H2 fun u H3 => r x l u H3 Q
/-- a[lo:hi], any a -/
theorem pe_slice {r : V → Option Int → Option Int → Hp → VK → Prop} (hr : SlR X r) (he : PE X e te) (hl : PO X lo tl) (hu : PO X hi th) : PE X (.Subscript e (.Slice lo hi none p2) pos) (tSl r te tl th) := by
  intro pins s σ H Q I h
  refine Subscript_ (thn (he pins s σ H _ I h) fun v s1 ⟨x, H1, I1, r1, q1⟩ => ?_)
  refine wpAny_Slice (thn (hl pins s1 σ H1 _ I1 q1) fun vl s2 ⟨l, H2, I2, pl, q2⟩ => thn (hu pins s2 σ H2 _ I2 q2) fun vu s3 ⟨u, H3, I3, pu, q3⟩ => ?_)
  rw [evalPart_none]
  refine wpAny_pure ?_
  have I4 : Inv X pins σ H3 { s3 with heap := s3.heap.push { cls := .type "slice", data := .fields #[vl, vu, .none] } } := I3.kept (t' := s3.toks) fun b ob q => Heap.get?_push_of_some _ q
  obtain ⟨T, id, hT, ht, hg⟩ := hr pins { s3 with heap := s3.heap.push { cls := .type "slice", data := .fields #[vl, vu, .none] } } σ H3 x v vl vu l u s3.heap.objs.size Q I4 r1 (Heap.IsSliceOf.new ..) pl pu q3
  show wpAny (model X.prog X.w) X.A (subscriptTail e (.Slice lo hi none p2) v (.ref s3.heap.objs.size)) (EP X pins σ Q) X.xe { s3 with heap := s3.heap.push { cls := .type "slice", data := .fields #[vl, vu, .none] } }
  exact tail_any (ops := [.ref s3.heap.objs.size, v]) ht hT hg (by with_unfolding_all rfl)

/-- the items of xs[lo:hi] -/
def cutV (xs : List V) (lo hi : Option Int) : List V := (xs.drop (HT.sIx xs.length 0 lo)).take (HT.sIx xs.length xs.length hi - HT.sIx xs.length 0 lo)
theorem cutV_length (xs : List V) (lo hi : Option Int) : (cutV xs lo hi).length ≤ xs.length := by
  unfold cutV
  rw [List.length_take, List.length_drop]
  omega
/-- t[lo:hi], not the whole of it (the whole would be t itself) -/
def rSlT (K : PySem.W.Frag) : V → Option Int → Option Int → Hp → VK → Prop := fun x lo hi H Q => ∃ a xs, x = .ref a ∧ SqT K H a xs ∧
  ¬ (HT.sIx xs.length 0 lo = 0 ∧ HT.sIx xs.length xs.length hi = xs.length) ∧ ∀ p, H p = none → Q (.ref p) (upd H p (.tup (cutV xs lo hi)))
theorem sl_tup : SlR X (rSlT X.K) := by
  intro pins s σ H x v vl vu lo hi sl Q I rx hs pl pu h
  obtain ⟨a, xs, rfl, hx, hw, q⟩ := h
  cases rx
  obtain ⟨its, r, ht, hz⟩ := I.tuple hx
  have hlen : its.toArray.size = xs.length := by rw [List.size_toArray]; exact r.length.symm
  refine ⟨"tuple", _, PyProof.Rows.slot_tuple_getitem.lookup, ht.typeIs, ?_⟩
  refine HT.getItem_tuple_cut ht hs pl pu (by rw [hlen]; exact hw) ?_ (by rw [hlen]; exact hz)
  rw [hlen]
  refine ⟨.ref s.heap.objs.size, _, I.laid (t' := s.toks) (o := .tup (cutV xs lo hi)) (fun b ob q => Heap.get?_push_of_some _ q) (Nat.le_refl _) ?_, rfl, q _ (I.hok.fresh (Nat.le_refl _))⟩
  exact ⟨Nat.le_trans (cutV_length xs lo hi) hz, _, (r.drop (HT.sIx xs.length 0 lo)).take (HT.sIx xs.length xs.length hi - HT.sIx xs.length 0 lo), IsTup.new _ _⟩

/-! ### t < u, t + u -/
def rLtT (K : PySem.W.Frag) : R2 := fun x y H Q => ∃ a b ns ms, x = .ref a ∧ y = .ref b ∧ SqT K H a (ns.map V.int) ∧ SqT K H b (ms.map V.int) ∧ Q (.bl (HT.lexLt ns ms)) H
/-- t + u, t not empty: u empty gives t itself -/
def rCatT (K : PySem.W.Frag) : R2 := fun x y H Q => ∃ a b xs ys, x = .ref a ∧ y = .ref b ∧ SqT K H a xs ∧ SqT K H b ys ∧ xs ≠ [] ∧ xs.length + ys.length ≤ sizeLine ∧
  (ys = [] → Q (.ref a) H) ∧ (ys ≠ [] → ∀ p, H p = none → Q (.ref p) (upd H p (.tup (xs ++ ys))))
theorem Vals.nil_iff {xs : List V} {us : List Value} (r : Vals xs us) : us = [] ↔ xs = [] := by
  cases r with
  | nil => simp
  | cons _ _ => simp
theorem op_catT : OpR X (binaryOp .Add) (rCatT X.K) := by
  intro pins s σ H x y v u Q I rx ry h
  obtain ⟨a, b, xs, ys, rfl, rfl, ha, hb, hx, hz, q1, q2⟩ := h
  cases rx
  cases ry
  obtain ⟨its, r1, p1, _⟩ := I.tuple ha
  obtain ⟨its2, r2, p2, _⟩ := I.tuple hb
  refine HT.cat_tup p1 p2 (fun z => hx (r1.nil_iff.mp z)) (fun z => ⟨.ref a, H, I, rfl, q1 (r2.nil_iff.mp z)⟩) (fun z => ?_) (by rw [← r1.length, ← r2.length]; exact hz)
  refine ⟨.ref s.heap.objs.size, _, I.laid (t' := s.toks) (o := .tup (xs ++ ys)) (fun b ob q => Heap.get?_push_of_some _ q) (Nat.le_refl _) ?_, rfl, q2 (fun w => z (r2.nil_iff.mpr w)) _ (I.hok.fresh (Nat.le_refl _))⟩
  exact ⟨by rw [List.length_append]; exact hz, _, r1.append r2, IsTup.new _ _⟩
end
end L2

namespace L2
open PySem PySem.Spec PyProof.Rows

/-! ### places -/
/-- the place that an index of any sign means -/
def ixN (n : Nat) (i : Int) : Option Nat := if 0 ≤ i then (if i < n then some i.toNat else none) else if -(n : Int) ≤ i then some (i + n).toNat else none
def atI {α : Type} (xs : List α) (i : Int) : Option α := (ixN xs.length i).bind fun j => xs[j]?
theorem ixN_seq {n : Nat} {i : Int} {j : Nat} (h : ixN n i = some j) : seqIndex? i n = some j ∧ j < n ∧ -(n : Int) ≤ i ∧ i < n := by
  unfold ixN at h
  by_cases h0 : 0 ≤ i
  · rw [if_pos h0] at h
    by_cases h1 : i < n
    · rw [if_pos h1] at h
      have e : i.toNat = j := Option.some.inj h
      exact ⟨by rw [seqIndex_of h0 h1, e], by omega, by omega, h1⟩
    · rw [if_neg h1] at h; cases h
  · rw [if_neg h0] at h
    by_cases h1 : -(n : Int) ≤ i
    · rw [if_pos h1] at h
      have e : (i + n).toNat = j := Option.some.inj h
      exact ⟨by rw [seqIndex_neg (by omega) h1, e], by omega, h1, by omega⟩
    · rw [if_neg h1] at h; cases h
theorem atI_get {α : Type} {xs : List α} {i : Int} {v : α} (h : atI xs i = some v) : ∃ j, seqIndex? i xs.length = some j ∧ xs[j]? = some v ∧ j < xs.length ∧ -(xs.length : Int) ≤ i ∧ i < xs.length := by
  unfold atI at h
  cases e : ixN xs.length i with
  | none => rw [e] at h; cases h
  | some j =>
    rw [e] at h
    obtain ⟨h1, h2, h3, h4⟩ := ixN_seq e
    exact ⟨j, h1, h, h2, h3, h4⟩
theorem atI_nat {α : Type} {xs : List α} {j : Nat} {v : α} (h : xs[j]? = some v) : atI xs (j : Int) = some v := by
  have hj : j < xs.length := (List.getElem?_eq_some_iff.mp h).1
  have e : ixN xs.length (j : Int) = some j := by
    unfold ixN
    rw [if_pos (by omega), if_pos (by omega)]; simp
  unfold atI; rw [e]; exact h
/-! ### what may be subscripted -/
/-- what stands as an index of a plain subscript -/
def PlainIx (b : Expr) : Prop := ∀ o i, subscripted b false o i = operate [o, i] (getItem o i)
/-- a subscript by values -/
def IxR (X : Cx) (r : R2) : Prop :=
  ∀ (value slice : Expr) (pins : List (Addr × Obj)) (s : Shared) (σ : St) (H : Hp) (x y : V) (v u : Value) (Q : VK), Inv X pins σ H s → RelV x v → RelV y u → r x y H Q →
    subscripted slice false v u = operate [v, u] (getItem v u) → wpAny (model X.prog X.w) X.A (subscriptTail value slice v u) (EP X pins σ Q) X.xe s
/-- a call of a builtin's method by values: the receiver, the arguments -/
def MtR (X : Cx) (id : String) (r : V → List V → Hp → VK → Prop) : Prop :=
  ∀ (pins : List (Addr × Obj)) (s : Shared) (σ : St) (H : Hp) (x : V) (xs : List V) (v : Value) (us : List Value) (Q : VK), Inv X pins σ H s → RelV x v → Vals xs us → r x xs H Q →
    wpAny (model X.prog X.w) X.A (call (.builtin id) (v :: us)) (EP X pins σ Q) X.xe s
section
variable {X : Cx} {a b : Expr} {ta tb : TE} {pos : Pos}
theorem IxR.or {r r' : R2} (h : IxR X r) (h' : IxR X r') : IxR X (fun x y H Q => r x y H Q ∨ r' x y H Q) := by
  intro value slice pins s σ H x y v u Q I rx ry q hs
  rcases q with q | q
  · exact h value slice pins s σ H x y v u Q I rx ry q hs
  · exact h' value slice pins s σ H x y v u Q I rx ry q hs
theorem MtR.or {id : String} {r r' : V → List V → Hp → VK → Prop} (h : MtR X id r) (h' : MtR X id r') : MtR X id (fun x xs H Q => r x xs H Q ∨ r' x xs H Q) := by
  intro pins s σ H x xs v us Q I rx rs q
  rcases q with q | q
  · exact h pins s σ H x xs v us Q I rx rs q
  · exact h' pins s σ H x xs v us Q I rx rs q
/-- a[b] -/
theorem pe_ix {r : R2} (hr : IxR X r) (ha : PE X a ta) (hb : PE X b tb) (hs : PlainIx b) : PE X (.Subscript a b pos) (tOp r ta tb) := by
  intro pins s σ H Q I h
  exact Subscript_ (binT ha hb I h fun v u s2 x y H2 I2 rx ry q => hr a b pins s2 σ H2 x y v u Q I2 rx ry q (hs _ _))

def rIxL (K : PySem.W.Frag) : R2 := fun x y H Q => ∃ p xs i v, x = .ref p ∧ y = .int i ∧ SqL K H p xs ∧ atI xs i = some v ∧ Q v H
def rIxT (K : PySem.W.Frag) : R2 := fun x y H Q => ∃ p xs i v, x = .ref p ∧ y = .int i ∧ SqT K H p xs ∧ atI xs i = some v ∧ Q v H
def rIxS : R2 := fun x y H Q => ∃ z i c, x = .str z ∧ y = .int i ∧ z.length ≤ sizeLine ∧ atI z.cps.toList i = some c ∧ Q (.str ⟨#[c]⟩) H
theorem ix_list : IxR X (rIxL X.K) := by
  intro value slice pins s σ H x y v u Q I rx ry h hs
  obtain ⟨p, xs, i, z, rfl, rfl, hq, he, q⟩ := h
  cases rx
  obtain ⟨t, rfl⟩ := ry
  obtain ⟨its, r, pl, hz⟩ := I.list hq
  obtain ⟨j, h1, h2, h3, h4, h5⟩ := atI_get he
  obtain ⟨w, ew, rw'⟩ := r.get h2
  have hl := r.length
  have hn := line63
  have fin : EP X pins σ Q w s := ⟨z, H, I, rw', q⟩
  by_cases h0 : 0 ≤ i
  · have hj : i.toNat = j := by
      rw [seqIndex_of h0 h5] at h1
      exact Option.some.inj h1
    exact item_listR pl.isList h0 (by omega) (by rw [hj]; simpa using ew) fin hs
  · have hj : (i + (its.toArray.size : Int)).toNat = j := by
      rw [seqIndex_neg (by omega) h4] at h1
      rw [List.size_toArray, ← hl]
      exact Option.some.inj h1
    exact subscriptTail_builtinR (x := w) pl.isList.typeIs slot_list_getitem.lookup
      (wpAny_getItem_list_neg (Q := fun r s' => r = w ∧ EP X pins σ Q r s') pl.isList (by omega) (by rw [List.size_toArray] <;> omega) (by omega) (by rw [hj]; simpa using ew) ⟨rfl, fin⟩) hs
theorem ix_tup : IxR X (rIxT X.K) := by
  intro value slice pins s σ H x y v u Q I rx ry h hs
  obtain ⟨p, xs, i, z, rfl, rfl, hq, he, q⟩ := h
  cases rx
  obtain ⟨t, rfl⟩ := ry
  obtain ⟨its, r, pl, hz⟩ := I.tuple hq
  obtain ⟨j, h1, h2, h3, h4, h5⟩ := atI_get he
  obtain ⟨w, ew, rw'⟩ := r.get h2
  have hl := r.length
  have hn := line63
  have fin : EP X pins σ Q w s := ⟨z, H, I, rw', q⟩
  exact subscriptTail_builtinR (x := w) pl.typeIs slot_tuple_getitem.lookup
    (getItem_tuple (j := j) (Q := fun r s' => r = w ∧ EP X pins σ Q r s') pl (by omega) (by omega) (by rw [List.size_toArray, ← hl]; exact h1) (by simpa using ew) ⟨rfl, fin⟩) hs
theorem ix_str : IxR X rIxS := by
  intro value slice pins s σ H x y v u Q I rx ry h hs
  obtain ⟨z, i, c, rfl, rfl, hz, he, q⟩ := h
  obtain ⟨t, rfl⟩ := rx
  obtain ⟨t', rfl⟩ := ry
  obtain ⟨j, h1, h2, h3, h4, h5⟩ := atI_get he
  have hl : z.cps.toList.length = z.length := by simp [Str.length]
  rw [hl] at h1 h4 h5
  have hn := line63
  exact tail_any (typeIs_str s z t) slot_str_getitem.lookup (getItem_str (c := c) (by
    have e1 : decide (i < -(2 ^ 63 : Int)) = false := decide_eq_false (by omega)
    have e2 : decide (i ≥ 2 ^ 63) = false := decide_eq_false (by omega)
    rw [e1, e2, Bool.or_false]) (by rw [h1]; simpa using h2) ⟨.str ⟨#[c]⟩, H, I.tok _, ⟨_, rfl⟩, q⟩) hs
/-- list, tuple or str -/
def rIx (K : PySem.W.Frag) : R2 := fun x y H Q => rIxL K x y H Q ∨ rIxT K x y H Q ∨ rIxS x y H Q
/-! ### xs[i] = v, any sign -/
/-- the list's object behind a store -/
theorem mapSeq_set (its : List Value) (n j : Nat) (u : Value) : Obj.mapSeq (·.setIfInBounds j u) { cls := .type "list", data := .seq its.toArray n } = { cls := .type "list", data := .seq (its.set j u).toArray n } := by
  simp [Obj.mapSeq]
theorem Inv.lst {pins : List (Addr × Obj)} {σ : St} {H : Hp} {s : Shared} {p : Addr} {xs : List V} (I : Inv X pins σ H s) (h : H p = some (.lst xs)) :
    ∃ (its : List Value) (n : Nat), Vals xs its ∧ s.heap.get? p = some { cls := .type "list", data := .seq its.toArray n } ∧ xs.length ≤ sizeLine := by
  obtain ⟨z, its, n, r, e⟩ := I.hok p _ h
  exact ⟨its, n, r, e, z⟩
/-- the list at p is written by an update of its object -/
theorem Inv.lstUpd {pins : List (Addr × Obj)} {σ : St} {H : Hp} {s : Shared} {p : Addr} {xs ys : List V} {its its' : List Value} {n n' : Nat} {f : Obj → Obj} (I : Inv X pins σ H s) (h : H p = some (.lst xs))
    (ho : s.heap.get? p = some { cls := .type "list", data := .seq its.toArray n }) (hf : f { cls := .type "list", data := .seq its.toArray n } = { cls := .type "list", data := .seq its'.toArray n' }) (r : Vals ys its') (hz : ys.length ≤ sizeLine) (t : Nat) :
    Inv X pins σ (upd H p (.lst ys)) { s with heap := s.heap.update p f, toks := t } := by
  have e : (s.heap.update p f).get? p = some { cls := .type "list", data := .seq its'.toArray n' } := by
    rw [Heap.get?_update_self f ho (by rw [hf] <;> rfl), hf]
  refine I.write (x := p) (e := p) (by rw [h]; trivial) (.inl rfl) (fun b u hb q => (Heap.get?_update_other _ _ (Ne.symm hb)).trans q) ⟨_, e⟩ ?_
  exact ⟨hz, its', n', r, e⟩
def rSetL : V → V → V → Hp → (Hp → Prop) → Prop := fun o i v H Q => ∃ p xs k j, o = .ref p ∧ i = .int k ∧ H p = some (.lst xs) ∧ ixN xs.length k = some j ∧ Q (upd H p (.lst (xs.set j v)))
theorem set_list : PSet X rSetL := by
  intro pins s σ H o i v ov iv u Q I ro ri rv h
  obtain ⟨p, xs, k, j, rfl, rfl, hp, hj, q⟩ := h
  cases ro
  obtain ⟨t, rfl⟩ := ri
  obtain ⟨its, n, r, ho, hz⟩ := I.lst hp
  obtain ⟨h1, h2, h3, h4⟩ := ixN_seq hj
  have hl := r.length
  have hn := line63
  have I' : Inv X pins σ (upd H p (.lst (xs.set j v))) { s with heap := s.heap.update p (Obj.mapSeq (·.setIfInBounds j u)) } :=
    I.lstUpd hp ho (mapSeq_set its n j u) (r.set rv j) (by rw [List.length_set]; exact hz) s.toks
  by_cases h0 : 0 ≤ k
  · have hk : k.toNat = j := by
      rw [seqIndex_of h0 h4] at h1
      exact Option.some.inj h1
    exact PySem.W.ki_setAt ho h0 (by omega) (by rw [List.size_toArray, ← hl]; exact h4) (by rw [hk]; exact ⟨_, I', q⟩)
  · have hk : (k + (its.toArray.size : Int)).toNat = j := by
      rw [seqIndex_neg (by omega) h3] at h1
      rw [List.size_toArray, ← hl]
      exact Option.some.inj h1
    exact PySem.W.ki_setBack ho (by omega) (by rw [List.size_toArray, ← hl]; exact h3) (by omega) (by rw [hk]; exact ⟨_, I', q⟩)

/-! ### slices -/
theorem slice_bounds (lo hi : Option Int) (n : Nat) : (sliceBounds lo hi none n).1 = ((HT.sIx n 0 lo : Nat) : Int) ∧ (sliceBounds lo hi none n).2.1 = ((HT.sIx n n hi : Nat) : Int) ∧ (sliceBounds lo hi none n).2.2 = 1 := by
  refine ⟨?_, ?_, rfl⟩
  · cases lo with
    | none => simp [sliceBounds, HT.sIx]
    | some i =>
      simp only [sliceBounds, HT.sIx, Option.getD_none, show (1 : Int) > 0 by decide, if_true]
      by_cases h : i < 0
      · simp only [h, if_true] <;> omega
      · simp only [h, if_false] <;> omega
  · cases hi with
    | none => simp [sliceBounds, HT.sIx]
    | some i =>
      simp only [sliceBounds, HT.sIx, Option.getD_none, show (1 : Int) > 0 by decide, if_true]
      by_cases h : i < 0
      · simp only [h, if_true] <;> omega
      · simp only [h, if_false] <;> omega
theorem slicePick_cut (its : List Value) (lo hi : Option Int) : slicePick its.toArray lo hi none = ((its.drop (HT.sIx its.length 0 lo)).take (HT.sIx its.length its.length hi - HT.sIx its.length 0 lo)).toArray := by
  obtain ⟨h1, h2, h3⟩ := slice_bounds lo hi its.toArray.size
  unfold slicePick
  rw [h1, h2, h3]
  simp only [sliceRange_one, pick_run, List.size_toArray] <;> rfl
/-- xs[lo:hi] of a list: a new list -/
def rSlL (K : PySem.W.Frag) : V → Option Int → Option Int → Hp → VK → Prop := fun x lo hi H Q => ∃ a xs, x = .ref a ∧ SqL K H a xs ∧ ∀ p, H p = none → Q (.ref p) (upd H p (.lst (cutV xs lo hi)))
theorem sl_list : SlR X (rSlL X.K) := by
  intro pins s σ H x v vl vu lo hi sl Q I rx hs pl pu h
  obtain ⟨a, xs, rfl, hx, q⟩ := h
  cases rx
  obtain ⟨its, r, ht, hz⟩ := I.list hx
  have hlen := r.length
  refine ⟨"list", _, slot_list_getitem.lookup, ht.isList.typeIs, ?_⟩
  refine wpAny_getItem_list_slice ht.isList hs pl pu .none (by simp) ?_ (by rw [List.size_toArray] <;> omega)
  rw [slicePick_cut, ← hlen]
  refine ⟨.ref s.heap.objs.size, _, I.laid (t' := s.toks) (o := .lst (cutV xs lo hi)) (fun b ob q => Heap.get?_push_of_some _ q) (Nat.le_refl _) ?_, rfl, q _ (I.hok.fresh (Nat.le_refl _))⟩
  exact ⟨Nat.le_trans (cutV_length xs lo hi) hz, _, 0, (r.drop (HT.sIx xs.length 0 lo)).take (HT.sIx xs.length xs.length hi - HT.sIx xs.length 0 lo), Heap.get?_push_size _ rfl⟩

/-! ### in, not in: flat items -/
def flatV : V → Bool
  | .non => true
  | .bl _ => true
  | .int _ => true
  | .str _ => true
  | _ => false
/-- == of flat values -/
def eqV : V → V → Bool
  | .non, .non => true
  | .bl a, .bl b => a == b
  | .bl a, .int b => (if a then 1 else 0) == b
  | .int a, .bl b => a == (if b then 1 else 0)
  | .int a, .int b => a == b
  | .str a, .str b => a == b
  | _, _ => false
theorem eqAt_V {A : Around} {s : Shared} {y x : V} {u v : Value} (ry : RelV y u) (rx : RelV x v) (fy : flatV y = true) (fx : flatV x = true) : SeqAt.EqAt A s u v (eqV y x) := by
  cases y with
  | non =>
    cases ry
    cases x with
    | non => cases rx; exact SeqAt.EqAt.same _
    | bl b => cases rx; exact SeqAt.EqAt.none_bool b
    | int b => obtain ⟨t, rfl⟩ := rx; exact SeqAt.EqAt.none_int b t
    | str b => obtain ⟨t, rfl⟩ := rx; exact SeqAt.EqAt.none_str b t
    | _ => exact absurd (show false = true from fx) Bool.false_ne_true
  | bl a =>
    cases ry
    cases x with
    | non => cases rx; exact SeqAt.EqAt.bool_none a
    | bl b => cases rx; exact SeqAt.EqAt.bool_bool a b
    | int b => obtain ⟨t, rfl⟩ := rx; exact SeqAt.EqAt.bool_int a b t
    | str b => obtain ⟨t, rfl⟩ := rx; exact SeqAt.EqAt.bool_str a b t
    | _ => exact absurd (show false = true from fx) Bool.false_ne_true
  | int a =>
    obtain ⟨t', rfl⟩ := ry
    cases x with
    | non => cases rx; exact SeqAt.EqAt.int_none a t'
    | bl b => cases rx; exact SeqAt.EqAt.int_bool a t' b
    | int b => obtain ⟨t, rfl⟩ := rx; exact SeqAt.EqAt.int_int a t' b t
    | str b => obtain ⟨t, rfl⟩ := rx; exact SeqAt.EqAt.int_str a t' b t
    | _ => exact absurd (show false = true from fx) Bool.false_ne_true
  | str a =>
    obtain ⟨t', rfl⟩ := ry
    cases x with
    | non => cases rx; exact SeqAt.EqAt.str_none a t'
    | bl b => cases rx; exact SeqAt.EqAt.str_bool a t' b
    | int b => obtain ⟨t, rfl⟩ := rx; exact SeqAt.EqAt.str_int a t' b t
    | str b => obtain ⟨t, rfl⟩ := rx; exact SeqAt.EqAt.str_str a t' b t
    | _ => exact absurd (show false = true from fx) Bool.false_ne_true
  | _ => exact absurd (show false = true from fy) Bool.false_ne_true
/-- the items' answers, read off the values (a value's own answer does not lean on its token) -/
def eqU (x : V) (u : Value) : Bool := match u with
  | .none => eqV .non x
  | .bool b => eqV (.bl b) x
  | .int i _ => eqV (.int i) x
  | .str z _ => eqV (.str z) x
  | _ => false
theorem eqU_of {x y : V} {u : Value} (r : RelV y u) (f : flatV y = true) : eqU x u = eqV y x := by
  cases y with
  | non => cases r; rfl
  | bl b => cases r; rfl
  | int i => obtain ⟨t, rfl⟩ := r; rfl
  | str z => obtain ⟨t, rfl⟩ := r; rfl
  | _ => exact absurd (show false = true from f) Bool.false_ne_true
theorem any_eqU {x : V} : ∀ {xs : List V} {us : List Value}, Vals xs us → xs.all flatV = true → us.any (eqU x) = xs.any fun y => eqV y x
  | _, _, .nil, _ => rfl
  | y :: xs, u :: us, .cons r t, f => by
    rw [List.all_cons, Bool.and_eq_true] at f
    rw [List.any_cons, List.any_cons, eqU_of r f.1, any_eqU t f.2]
theorem mem_eqAt {A : Around} {s : Shared} {x : V} {v : Value} (rx : RelV x v) (fx : flatV x = true) : ∀ {xs : List V} {us : List Value}, Vals xs us → xs.all flatV = true → ∀ u ∈ us, SeqAt.EqAt A s u v (eqU x u)
  | _, _, .nil, _ => fun u hu => by cases hu
  | y :: xs, u :: us, .cons r t, f => fun u' hu => by
    rw [List.all_cons, Bool.and_eq_true] at f
    rcases List.mem_cons.mp hu with rfl | hu
    · rw [eqU_of r f.1]; exact eqAt_V r rx f.1 fx
    · exact mem_eqAt rx fx t f.2 u' hu
def inV (x : V) (xs : List V) : Bool := xs.any fun y => eqV y x
/-- x in a list or tuple of flat items -/
def rIn (K : PySem.W.Frag) (neg : Bool) : R2 := fun x y H Q => ∃ p xs, y = .ref p ∧ (SqL K H p xs ∨ SqT K H p xs) ∧ flatV x = true ∧ xs.all flatV = true ∧ Q (.bl (if neg then !inV x xs else inV x xs)) H
theorem op_in_seq : OpR X (compareOp .In) (rIn X.K false) := by
  intro pins s σ H x y v u Q I rx ry h
  obtain ⟨p, xs, rfl, hq, fx, fs, q⟩ := h
  cases ry
  rcases hq with hq | hq
  · obtain ⟨its, r, pl, hz⟩ := I.list hq
    refine SeqAt.in_listAt (eqU x) pl.isList (fun w hw => mem_eqAt rx fx r fs w (by simpa using hw)) ⟨.bl _, H, I, rfl, ?_⟩
    rw [show its.toArray.any (eqU x) = its.any (eqU x) by simp, any_eqU r fs]
    exact q
  · obtain ⟨its, r, pl, hz⟩ := I.tuple hq
    refine SeqAt.in_tupleAt (eqU x) pl (fun w hw => mem_eqAt rx fx r fs w (by simpa using hw)) ⟨.bl _, H, I, rfl, ?_⟩
    rw [show its.toArray.any (eqU x) = its.any (eqU x) by simp, any_eqU r fs]
    exact q
theorem op_notIn_seq : OpR X (compareOp .NotIn) (rIn X.K true) := by
  intro pins s σ H x y v u Q I rx ry h
  obtain ⟨p, xs, rfl, hq, fx, fs, q⟩ := h
  cases ry
  rcases hq with hq | hq
  · obtain ⟨its, r, pl, hz⟩ := I.list hq
    refine SeqAt.notIn_listAt (eqU x) pl.isList (fun w hw => mem_eqAt rx fx r fs w (by simpa using hw)) ⟨.bl _, H, I, rfl, ?_⟩
    rw [show its.toArray.any (eqU x) = its.any (eqU x) by simp, any_eqU r fs]
    exact q
  · obtain ⟨its, r, pl, hz⟩ := I.tuple hq
    refine SeqAt.notIn_tupleAt (eqU x) pl (fun w hw => mem_eqAt rx fx r fs w (by simpa using hw)) ⟨.bl _, H, I, rfl, ?_⟩
    rw [show its.toArray.any (eqU x) = its.any (eqU x) by simp, any_eqU r fs]
    exact q
/-! ### len, list(x), tuple(x) of any list or tuple that is read -/
theorem CallR.or {f : Value} {r r' : List V → Hp → VK → Prop} (h : CallR X f r) (h' : CallR X f r') : CallR X f (fun xs H Q => r xs H Q ∨ r' xs H Q) := by
  intro pins s σ H xs us Q I rs q
  rcases q with q | q
  · exact h pins s σ H xs us Q I rs q
  · exact h' pins s σ H xs us Q I rs q
theorem call_list_of : CallR X (.type "list") (fun xs H Q => ∃ p ys, xs = [.ref p] ∧ (SqL X.K H p ys ∨ SqT X.K H p ys) ∧ ∀ l, H l = none → Q (.ref l) (upd H l (.lst ys))) := by
  intro pins s σ H xs us Q I r h
  obtain ⟨p, ys, rfl, hq, q⟩ := h
  obtain ⟨u, rfl, rx⟩ := vals1 r
  cases rx
  have fin : ∀ (its : List Value), Vals ys its → ys.length ≤ sizeLine → ∀ (h' : Heap) (c' : Nat), (∀ b o', s.heap.get? b = some o' → h'.get? b = some o') →
      h'.get? s.heap.objs.size = some { cls := .type "list", dict := none, data := .seq its.toArray c', slots := #[] } → EP X pins σ Q (.ref s.heap.objs.size) { s with heap := h' } := fun its r' hz h' c' kp e =>
    ⟨.ref s.heap.objs.size, _, I.laid (t' := s.toks) kp (Nat.le_refl _) (show ObjOk X.prog X.w _ h' _ (.lst ys) from ⟨hz, its, c', r', e⟩), rfl, q _ (I.hok.fresh (Nat.le_refl _))⟩
  rcases hq with hq | hq
  · obtain ⟨its, r', pl, hz⟩ := I.list hq
    have hlen := r'.length
    obtain ⟨o, ho, hc, n, hd⟩ := pl.isList
    exact call_list_seq p (.inl rfl) ho hc hd (fun h' c' kp e => fin its r' hz h' c' kp e) (by simp only [List.size_toArray] <;> omega)
  · obtain ⟨its, r', pl, hz⟩ := I.tuple hq
    have hlen := r'.length
    obtain ⟨o, ho, hc, n, hd⟩ := pl
    exact call_list_seq p (.inr rfl) ho hc hd (fun h' c' kp e => fin its r' hz h' c' kp e) (by simp only [List.size_toArray] <;> omega)
theorem call_tuple_of : CallR X (.type "tuple") (fun xs H Q => ∃ p ys, xs = [.ref p] ∧ ((SqL X.K H p ys ∧ ∀ l, H l = none → Q (.ref l) (upd H l (.tup ys))) ∨ (SqT X.K H p ys ∧ Q (.ref p) H))) := by
  intro pins s σ H xs us Q I r h
  obtain ⟨p, ys, rfl, h⟩ := h
  obtain ⟨u, rfl, rx⟩ := vals1 r
  cases rx
  rcases h with ⟨hq, q⟩ | ⟨hq, q⟩
  · obtain ⟨its, r', pl, hz⟩ := I.list hq
    have hlen := r'.length
    refine call_tuple_list pl.isList (fun h' kp => ?_) (by simp only [List.size_toArray] <;> omega)
    have I1 : Inv X pins σ H { s with heap := h' } := I.kept (t' := s.toks) kp
    have I2 : Inv X pins σ (upd H h'.objs.size (.tup ys)) { s with heap := h'.push { cls := .type "tuple", data := .seq its.toArray } } :=
      I1.laid (t' := s.toks) (fun b o e => Heap.get?_push_of_some _ e) (Nat.le_refl _) (show ObjOk X.prog X.w _ _ _ (.tup ys) from ⟨hz, its, r', IsTup.new _ _⟩)
    exact ⟨.ref h'.objs.size, _, I2, rfl, q _ (I1.hok.fresh (Nat.le_refl _))⟩
  · obtain ⟨its, r', pl, hz⟩ := I.tuple hq
    exact call_tuple_same pl ⟨.ref p, H, I, rfl, q⟩

/-! ### the call of a builtin's method: o.m(..) -/
/-- the value is of that builtin type -/
def tyV (K : PySem.W.Frag) (T : String) (x : V) (H : Hp) : Prop := match x with
  | .str _ => T = "str"
  | .int _ => T = "int"
  | .ref p => (T = "list" ∧ ∃ xs, SqL K H p xs) ∨ (T = "tuple" ∧ ∃ o, K.lookup p = some o ∧ o.cls = .type "tuple" ∧ o.dict = none) ∨
      (T = "dict" ∧ ((∃ kvs, H p = some (.dK kvs)) ∨ ∃ kvs, H p = some (.dT kvs))) ∨ (T = "set" ∧ ∃ S n, H p = some (.set S n))
  | _ => False
theorem tyV_is {pins : List (Addr × Obj)} {σ : St} {H : Hp} {s : Shared} {T : String} {x : V} {v : Value} (I : Inv X pins σ H s) (r : RelV x v) (ty : tyV X.K T x H) :
    s.TypeIs v T ∧ ∀ a, v = .ref a → ∃ ob, s.heap.get? a = some ob ∧ ob.dict = none := by
  cases x with
  | str z =>
    obtain ⟨t, rfl⟩ := r
    cases (show T = "str" from ty)
    exact ⟨typeIs_str s z t, fun _ e => nomatch e⟩
  | int i =>
    obtain ⟨t, rfl⟩ := r
    cases (show T = "int" from ty)
    exact ⟨typeIs_int s i t, fun _ e => nomatch e⟩
  | ref p =>
    cases r
    rcases ty with ⟨rfl, xs, hq⟩ | ⟨rfl, o, hk, hc, hd⟩ | ⟨rfl, hk⟩ | ⟨rfl, S, n, hk⟩
    · obtain ⟨its, _, pl, _⟩ := I.list hq
      refine ⟨pl.isList.typeIs, fun a e => ?_⟩
      cases e
      obtain ⟨o, n, e, c, hd, _⟩ := pl
      exact ⟨o, e, hd⟩
    · refine ⟨⟨o, I.kIn p o hk, hc⟩, fun a e => ?_⟩
      cases e
      exact ⟨o, I.kIn _ o hk, hd⟩
    · have z : ∃ o, s.heap.get? p = some o ∧ o.ExactDict := by
        rcases hk with ⟨kvs, hk⟩ | ⟨kvs, hk⟩
        · obtain ⟨_, _, _, _, o, _, _, e, ex, _⟩ := I.hok p _ hk
          exact ⟨o, e, ex⟩
        · obtain ⟨_, _, _, _, o, _, _, e, ex, _⟩ := I.hok p _ hk
          exact ⟨o, e, ex⟩
      obtain ⟨o, e, ex⟩ := z
      refine ⟨⟨o, e, ex.1⟩, fun a e2 => ?_⟩
      cases e2
      exact ⟨o, e, ex.2.1⟩
    · obtain ⟨o, _, _, _, e, ex, _⟩ := I.hok p _ hk
      refine ⟨⟨o, e, ex.1⟩, fun a e2 => ?_⟩
      cases e2
      exact ⟨o, e, ex.2.1⟩
  | _ => exact False.elim ty
def tBM0 (K : PySem.W.Frag) (T : String) (r : V → List V → Hp → VK → Prop) (to : TE) : TE := fun σ H Q => to σ H fun x H1 => tyV K T x H1 ∧ r x [] H1 Q
def tBM (K : PySem.W.Frag) (T : String) (r : V → List V → Hp → VK → Prop) (to : TE) (t : TA) : TE := fun σ H Q => to σ H fun x H1 => tyV K T x H1 ∧ t σ H1 fun xs H2 => r x xs H2 Q
variable {o e : Expr} {es : List Expr} {to : TE} {t : TA} {name : Str} {apos cpos : Pos} {T id : String} {r : V → List V → Hp → VK → Prop}
theorem pe_bm0 (pa : PlainAttrs T) (slot : Slot T name id) (hty : typeOf (.builtin id) = pure (.type "method_descriptor")) (hm : MtR X id r) (ho : PE X o to)
    (hbase : attributeBase o name X.env (eval o X.env) = eval o X.env := by rfl) (hline : (apos.endLine == cpos.line) = true := by rfl) : PE X (.Call (.Attribute o name apos) [] [] cpos) (tBM0 X.K T r to) := by
  intro pins s σ H Q I h
  refine wpAny_Call_method0_late hbase hline (thn (ho pins s σ H _ I h) fun v s1 ⟨x, H1, I1, r1, ty, q1⟩ => ?_)
  obtain ⟨h1, h2⟩ := tyV_is I1 r1 ty
  exact ⟨T, id, pa, slot, hty, h1, h2, Calls.callWith_builtin rfl (PySem.evalArgs_none (hm pins s1 σ H1 x [] v [] Q I1 r1 .nil q1))⟩
theorem pe_bm (pa : PlainAttrs T) (slot : Slot T name id) (hty : typeOf (.builtin id) = pure (.type "method_descriptor")) (hm : MtR X id r) (ho : PE X o to) (ha : PA X (e :: es) t)
    (hbase : attributeBase o name X.env (eval o X.env) = eval o X.env := by rfl)
    (hfew : ((backTo cpos (starEach (e :: es) X.env)).all (fun x => !x.1) && (backToKw cpos (keywordEach [] X.env)).all (fun x => x.1.isSome)
      && decide ((e :: es).length + ([] : List Keyword).length + (if ([] : List Keyword).isEmpty then 0 else 1) < 30)) = true := by rfl)
    (hline : (apos.endLine == cpos.line) = true := by rfl) (hs : starEach (e :: es) X.env = (false, eval e X.env) :: starEach es X.env := by rfl) (hplain : (backTo cpos (starEach es X.env)).any (·.1) = false := by rfl) :
    PE X (.Call (.Attribute o name apos) (e :: es) [] cpos) (tBM X.K T r to t) := by
  intro pins s σ H Q I h
  refine wpAny_Call_method_late hbase hfew hline rfl (thn (ho pins s σ H _ I h) fun v s1 ⟨x, H1, I1, r1, ty, q1⟩ => ?_)
  obtain ⟨h1, h2⟩ := tyV_is I1 r1 ty
  refine ⟨T, id, pa, slot, hty, h1, h2, ?_⟩
  have hA := ha cpos pins s1 σ H1 _ I1 q1
  rw [hs] at hA ⊢
  refine Calls.callWith_builtin (by show (false || (backTo cpos (starEach es X.env)).any (·.1)) = false; rw [hplain] <;> rfl) (Calls.evalArgs_plain ?_)
  exact thn hA fun us s2 ⟨vs, H2, I2, r2, q2⟩ => hm pins s2 σ H2 x vs v us Q I2 r1 r2 q2
/- xs.append(e), list.index on a module's tuple .. are MtR facts of 06m -/
end
end L2

namespace L2
open PySem PySem.Spec PyProof.Rows

def MtM (X : Cx) (id : String) (r : V → List V → Hp → VK → Prop) : Prop :=
  ∀ (pins : List (Addr × Obj)) (s : Shared) (σ : St) (H : Hp) (x : V) (xs : List V) (v : Value) (us : List Value) (Q : VK), Inv X pins σ H s → RelV x v → Vals xs us → r x xs H Q →
    wpAny (model X.prog X.w) X.A (call (.builtin id) (v :: us)) (EP X pins σ Q) X.xe s

/-! ### lists of values -/
theorem Vals.one : ∀ {x : V} {us : List Value}, Vals [x] us → ∃ u, us = [u] ∧ RelV x u
  | _, _, .cons r .nil => ⟨_, rfl, r⟩
theorem Vals.two : ∀ {x y : V} {us : List Value}, Vals [x, y] us → ∃ u v, us = [u, v] ∧ RelV x u ∧ RelV y v
  | _, _, _, .cons r (.cons q .nil) => ⟨_, _, rfl, r, q⟩
theorem Vals.zero : ∀ {us : List Value}, Vals [] us → us = []
  | _, .nil => rfl
theorem Vals.dropLast {xs : List V} {us : List Value} (h : Vals xs us) : Vals xs.dropLast us.dropLast := by
  induction h with
  | nil => exact .nil
  | cons r t ih =>
    cases t with
    | nil => exact .nil
    | cons q t' => exact .cons r ih
theorem Vals.eraseIdx : ∀ {xs : List V} {us : List Value} (i : Nat), Vals xs us → Vals (xs.eraseIdx i) (us.eraseIdx i)
  | _, _, _, .nil => .nil
  | _, _, 0, .cons _ t => t
  | _, _, i + 1, .cons r t => .cons r (Vals.eraseIdx i t)
theorem Vals.reverse {xs : List V} {us : List Value} (h : Vals xs us) : Vals xs.reverse us.reverse := by
  induction h with
  | nil => exact .nil
  | cons r t ih => rw [List.reverse_cons, List.reverse_cons]; exact Vals.append ih (.cons r .nil)
theorem Vals.rep {xs : List V} {us : List Value} (h : Vals xs us) : ∀ k : Nat, Vals (List.replicate k xs).flatten (List.replicate k us).flatten
  | 0 => .nil
  | k + 1 => by
    rw [List.replicate_succ, List.replicate_succ, List.flatten_cons, List.flatten_cons]
    exact Vals.append h (Vals.rep h k)
theorem erase_last {α : Type} (l : List α) : l.eraseIdx (l.length - 1) = l.dropLast := by
  induction l with
  | nil => rfl
  | cons a r ih =>
    cases r with
    | nil => rfl
    | cons b r =>
      have e : (a :: b :: r).length - 1 = ((b :: r).length - 1) + 1 := by
        have h1 : (a :: b :: r).length = r.length + 2 := rfl
        have h2 : (b :: r).length = r.length + 1 := rfl
        omega
      rw [e, List.eraseIdx_cons_succ, ih]
      all_goals rfl
theorem foldl_rep (its : List Value) : ∀ (k : Nat) (acc : List Value),
    List.foldl (fun x1 x2 => x1 ++ x2) acc.toArray (List.replicate k its.toArray) = (acc ++ (List.replicate k its).flatten).toArray
  | 0, acc => by simp
  | k + 1, acc => by
    have e : acc.toArray ++ its.toArray = (acc ++ its).toArray := by simp
    have e2 : (acc ++ its) ++ (List.replicate k its).flatten = acc ++ (List.replicate (k + 1) its).flatten := by
      rw [List.replicate_succ, List.flatten_cons, List.append_assoc]
    rw [← e2, ← foldl_rep its k (acc ++ its), ← e, List.replicate_succ, List.foldl_cons]

section
variable {X : Cx} {pins : List (Addr × Obj)} {σ : St} {H : Hp} {s : Shared} {l b : Addr} {xs ys zs : List V}

/-! ### the two steps: a tracked list is rewritten, a new list is laid -/
theorem Inv.lset {its its' : List Value} {n : Nat} {f : Array Value → Array Value} {t' : Nat} (I : Inv X pins σ H s) (hH : H l = some (.lst xs))
    (e : s.heap.get? l = some { cls := .type "list", data := .seq its.toArray n }) (hf : f its.toArray = its'.toArray) (hv : Vals ys its') (hz : ys.length ≤ sizeLine) :
    Inv X pins σ (upd H l (.lst ys)) { s with heap := s.heap.update l (Obj.mapSeq f), toks := t' } := by
  have q := PySem.IsL.update e f
  rw [hf] at q
  refine I.write (x := l) (e := l) (by rw [hH]; exact trivial) (.inl rfl) (fun b' u hb hu => (Heap.get?_update_other s.heap (Obj.mapSeq f) (Ne.symm hb)).trans hu) ⟨_, q⟩ ?_
  exact ⟨hz, its', _, hv, q⟩
theorem Inv.lnew {its : List Value} {t' : Nat} (I : Inv X pins σ H s) (hv : Vals ys its) (hz : ys.length ≤ sizeLine) :
    Inv X pins σ (upd H s.heap.objs.size (.lst ys)) { s with heap := s.heap.push { cls := .type "list", data := .seq its.toArray }, toks := t' } :=
  I.laid (fun _ _ q => Heap.get?_push_of_some _ q) (Nat.le_refl _) ⟨hz, its, 0, hv, Heap.get?_push_size _ rfl⟩
theorem Inv.fresh (I : Inv X pins σ H s) : H s.heap.objs.size = none := I.hok.fresh (Nat.le_refl _)
theorem Inv.lstM (I : Inv X pins σ H s) (hH : H l = some (.lst xs)) : xs.length ≤ sizeLine ∧ ∃ (its : List Value) (n : Nat), Vals xs its ∧ xs.length = its.length ∧ s.heap.get? l = some { cls := .type "list", data := .seq its.toArray n } := by
  obtain ⟨z, its, n, r, e⟩ := I.hok l _ hH
  exact ⟨z, its, n, r, r.length, e⟩

theorem notLongL {n : Nat} (h : n ≤ sizeLine) : Builtin.List.listTooLong n = false := by
  unfold Builtin.List.listTooLong
  exact decide_eq_false (by omega)
end

section
variable {X : Cx}

/-! ### methods -/
def rAppend : V → List V → Hp → VK → Prop := fun x vs H Q => ∃ l xs y, x = .ref l ∧ vs = [y] ∧ H l = some (.lst xs) ∧ xs.length < sizeLine ∧ Q .non (upd H l (.lst (xs ++ [y])))
theorem mt_append : MtM X "list.append" rAppend := by
  intro pins s σ H x vs v us Q I rx rv h
  obtain ⟨l, xs, y, rfl, rfl, hH, hz, q⟩ := h
  cases rx
  obtain ⟨u, rfl, ru⟩ := rv.one
  obtain ⟨z, its, n, r, hl, e⟩ := I.lstM hH
  refine call_meets F.slot_list_append ⟨_, e, rfl⟩ F.entry_list_append (F.args_list_append_2 _ _) (PySem.list_append l its.toArray n u (by rw [List.size_toArray]; omega)) ⟨e, ?_⟩
  refine ⟨.non, _, I.lset (its' := its ++ [u]) hH e (by simp) (r.append (.cons ru .nil)) ?_, rfl, q⟩
  rw [List.length_append, List.length_singleton]
  omega

def rExtend : V → List V → Hp → VK → Prop := fun x vs H Q => ∃ l b xs zs, x = .ref l ∧ vs = [.ref b] ∧ H l = some (.lst xs) ∧ H b = some (.lst zs) ∧ xs.length + zs.length ≤ sizeLine ∧ Q .non (upd H l (.lst (xs ++ zs)))
theorem mt_extend : MtM X "list.extend" rExtend := by
  intro pins s σ H x vs v us Q I rx rv h
  obtain ⟨l, b, xs, zs, rfl, rfl, hH, hB, hz, q⟩ := h
  cases rx
  obtain ⟨u, rfl, ru⟩ := rv.one
  cases ru
  obtain ⟨z, its, n, r, hl, e⟩ := I.lstM hH
  obtain ⟨z2, its2, n2, r2, hl2, e2⟩ := I.lstM hB
  have hsz : its.toArray.size + its2.toArray.size ≤ sizeLine := by rw [List.size_toArray, List.size_toArray]; omega
  have hlong : ¬ (!its.toArray.isEmpty && Builtin.List.listTooLong (its.toArray.size + its2.toArray.size)) = true := by
    rw [notLongL hsz, Bool.and_false]
    exact Bool.false_ne_true
  refine call_meets F.slot_list_extend ⟨_, e, rfl⟩ F.entry_list_extend (F.args_list_extend_2 _ _)
    (AutoSeq1.list_extend_list_list_0 l its.toArray n b its2.toArray n2 hlong (by rw [List.size_toArray]; omega) (by omega)) ⟨e, e2, ?_⟩
  refine ⟨.non, _, I.lset (its' := its ++ its2) hH e (by simp) (r.append r2) ?_, rfl, q⟩
  rw [List.length_append]
  omega

def rPop : V → List V → Hp → VK → Prop := fun x vs H Q => ∃ l xs y, x = .ref l ∧ vs = [] ∧ H l = some (.lst xs) ∧ xs[xs.length - 1]? = some y ∧ Q y (upd H l (.lst xs.dropLast))
theorem mt_pop : MtM X "list.pop" rPop := by
  intro pins s σ H x vs v us Q I rx rv h
  obtain ⟨l, xs, y, rfl, rfl, hH, hy, q⟩ := h
  cases rx
  have hus := rv.zero
  subst hus
  obtain ⟨z, its, n, r, hl, e⟩ := I.lstM hH
  obtain ⟨u, hu, ru⟩ := r.get hy
  have hy' : its.toArray[its.toArray.size - 1]? = some u := by
    show its.toArray[its.length - 1]? = some u
    rw [← Array.getElem?_toList, ← hl]
    exact hu
  refine call_meets F.slot_list_pop ⟨_, e, rfl⟩ F.entry_list_pop (F.args_list_pop_1 _) (MeetsSeq.list_pop_last l its.toArray n u hy' (by rw [List.size_toArray]; omega)) ⟨e, ?_⟩
  refine ⟨y, _, I.lset (its' := its.dropLast) hH e ?_ r.dropLast ?_, ru, q⟩
  · show its.toArray.eraseIdxIfInBounds (its.toArray.size - 1) = its.dropLast.toArray
    rw [List.size_toArray, List.eraseIdxIfInBounds_toArray, erase_last]
  · rw [List.length_dropLast]
    omega

def rPopAt : V → List V → Hp → VK → Prop := fun x vs H Q => ∃ l xs i k y, x = .ref l ∧ vs = [.int i] ∧ H l = some (.lst xs) ∧ -(2 ^ 63) ≤ i ∧ i < 2 ^ 63 ∧ seqIndex? i xs.length = some k ∧ xs[k]? = some y ∧ Q y (upd H l (.lst (xs.eraseIdx k)))
def rReverse : V → List V → Hp → VK → Prop := fun x vs H Q => ∃ l xs, x = .ref l ∧ vs = [] ∧ H l = some (.lst xs) ∧ Q .non (upd H l (.lst xs.reverse))
def rClear : V → List V → Hp → VK → Prop := fun x vs H Q => ∃ l xs, x = .ref l ∧ vs = [] ∧ H l = some (.lst xs) ∧ Q .non (upd H l (.lst []))
/-! ### list + list, list += list, list * int -/
def rCat : R2 := fun x y H Q => ∃ l b xs zs, x = .ref l ∧ y = .ref b ∧ H l = some (.lst xs) ∧ H b = some (.lst zs) ∧ xs.length + zs.length ≤ sizeLine ∧ ∀ p, H p = none → Q (.ref p) (upd H p (.lst (xs ++ zs)))
theorem op_cat : OpR X (binaryOp .Add) rCat := by
  intro pins s σ H x y v u Q I rx ry h
  obtain ⟨l, b, xs, zs, rfl, rfl, hH, hB, hz, q⟩ := h
  cases rx
  cases ry
  obtain ⟨z, its, n, r, hl, e⟩ := I.lstM hH
  obtain ⟨z2, its2, n2, r2, hl2, e2⟩ := I.lstM hB
  refine PySem.P.add_list e e2 ?_ (by rw [List.size_toArray, List.size_toArray]; omega)
  have ea : its.toArray ++ its2.toArray = (its ++ its2).toArray := by simp
  rw [ea]
  exact ⟨.ref _, _, I.lnew (t' := s.toks) (r.append r2) (by rw [List.length_append]; omega), rfl, q _ I.fresh⟩
/-- a list times an int (a negative one is nothing) -/
def rRep : R2 := fun x y H Q => ∃ l k xs, x = .ref l ∧ y = .int k ∧ H l = some (.lst xs) ∧ -(2 ^ 63) ≤ k ∧ k < 2 ^ 63 ∧ xs.length * k.toNat ≤ sizeLine ∧
  ∀ p, H p = none → Q (.ref p) (upd H p (.lst (List.replicate k.toNat xs).flatten))
theorem len_rep {α : Type} (xs : List α) (k : Nat) : (List.replicate k xs).flatten.length = k * xs.length := by
  induction k with
  | zero => simp
  | succ k ih => rw [List.replicate_succ, List.flatten_cons, List.length_append, ih, Nat.succ_mul, Nat.add_comm]
theorem op_rep : OpR X (binaryOp .Mult) rRep := by
  intro pins s σ H x y v u Q I rx ry h
  obtain ⟨l, k, xs, rfl, rfl, hH, h1, h2, hz, q⟩ := h
  cases rx
  obtain ⟨t, rfl⟩ := ry
  obtain ⟨z, its, n, r, hl, e⟩ := I.lstM hH
  have hlen : its.toArray.size * k.toNat ≤ sizeLine := by rw [List.size_toArray, ← hl]; exact hz
  have hcap : ¬ its.toArray.size * k.toNat > (2 ^ 63 - 1) / 8 := by
    have : (sizeLine : Nat) ≤ (2 ^ 63 - 1) / 8 := by decide
    omega
  have hfit : ¬ (!Builtin.List.listFitsIndex k) = true := by
    rw [fitsIndex_both h1 h2]
    exact Bool.false_ne_true
  have hlong : ¬ Builtin.List.listTooLong (its.toArray.size * k.toNat) = true := by
    rw [notLongL hlen]
    exact Bool.false_ne_true
  have hnew : List.foldl (fun x1 x2 => x1 ++ x2) #[] (List.replicate (if its.toArray.isEmpty = true then 0 else k.toNat) its.toArray) = (List.replicate k.toNat its).flatten.toArray := by
    have f0 : ∀ m : Nat, List.foldl (fun x1 x2 => x1 ++ x2) #[] (List.replicate m its.toArray) = (List.replicate m its).flatten.toArray := fun m => by
      have := foldl_rep its m []
      rw [List.nil_append] at this
      exact this
    rw [f0]
    cases its with
    | nil => simp
    | cons a r' => rw [if_neg (by simp)]
  refine wpAny_binaryOp_repeat_ref (T := "list") (U := "int") (by decide) ⟨_, e, rfl⟩ (fun s' => typeIs_int s' k t) noFill_list_mul F.fills_int_mul F.slot_int_rmul repeat_list F.slot_int_index.lookup
    (call_meets F.slot_int_rmul (typeIs_int s k t) F.entry_int_rmul (F.args_int_rmul_2 _ _) (int___rmul___int_list k t l its.toArray n)
      ⟨e, rfl, ⟨_, e, rfl⟩, call_meets F.slot_list_mul ⟨_, e, rfl⟩ F.entry_list_mul (F.args_list_mul_2 _ _) (AutoListH.list___mul___list_int_3 l its.toArray n k t hfit hcap hlong) ⟨e, ?_⟩⟩)
  rw [hnew]
  exact ⟨.ref _, _, I.lnew (t' := s.toks) (r.rep k.toNat) (by rw [len_rep, Nat.mul_comm]; exact hz), rfl, q _ I.fresh⟩

/-! ### del xs[i] -/
end

/-! ### xs[a:b] = ys -/
section
variable {prog : Program} {w : World} {A : Around} {E : Value → Shared → Prop} {s : Shared}
set_option maxRecDepth 100000 in
end

section
variable {X : Cx}
end
end L2

namespace Att
open PySem PySem.W PySem.Calls PyProof.Rows

/-! ### the script -/
theorem ints_of_wellAll {P : Params} {h : Heap} : ∀ (ns : List Int) (vs : List Value), WellAll P h vs (ns.map WData.int) → IntsAre vs ns := by
  intro ns
  induction ns with
  | nil =>
    intro vs w
    rw [List.map_nil] at w
    cases w
    exact .nil
  | cons n ns ih =>
    intro vs w
    rw [List.map_cons] at w
    cases w with
    | cons a b =>
      cases a
      exact .cons _ _ (ih _ b)

theorem script_of {l : OpenLaw} {n : Nat} (hn : l.most = some n) {P : Params} {h : Heap} {args : List WData} {vals : List Value}
    (hpre : l.row.toRowW.claim.pre args = true) (hwl : WellAll P h vals args) :
    ∃ a vs ns, vals = [Value.ref a] ∧ args = [WData.list (ns.map WData.int)] ∧ h.get? a = some { cls := .type "list", data := .seq vs.toArray } ∧ IntsAre vs ns ∧ ns.length ≤ n := by
  have hsh : WShape.hasAll [] args [.list .int] = true := (pre_splitW hpre).1
  have hc : l.pre.holds [] { args := args } = true := (pre_splitW hpre).2
  obtain ⟨d, r, rfl, h1, h2⟩ := hasAllW_cons hsh
  obtain rfl := hasAllW_nil h2
  obtain ⟨xs, rfl, h3⟩ := hasW_list h1
  obtain ⟨ns, rfl⟩ := items_int h3
  have hlen : ns.length ≤ n := by
    unfold OpenLaw.pre at hc
    have h4 : (WTm.not (.lt (.lit (.int (n : Int))) (.len (.arg 0)))).holds [] { args := [.list (ns.map .int)] } = true := by
      have h4 := (holds_andW hc).1
      rw [hn] at h4
      exact h4
    have h5 := condW_of h4 (w_not (w_lt w_lit (w_len_list (w_arg rfl))))
    rw [List.length_map] at h5
    refine Nat.le_of_not_lt fun q => ?_
    have q' : (n : Int) < ((ns.length : Nat) : Int) := by omega
    first
      | (rw [decide_eq_true q'] at h5; exact absurd h5 (by decide))
      | (simp at h5; omega)
  cases hwl with
  | cons w1 w2 =>
    cases w2
    cases w1 with
    | list ho hall => exact ⟨_, _, ns, rfl, rfl, ho, ints_of_wellAll ns _ hall, hlen⟩

theorem post_true (l : OpenLaw) (args : List WData) : l.row.toRowW.claim.post args (.bool true) args = true :=
  postW_of (r := l.row.toRowW) (X := (true == true))
    (show WShape.has [] (.bool true) .bool = true by first | rfl | decide | simp [WShape.has, WShape.arms, WShape.armsAll])
    (show (WTm.eq .res (.lit (.bool true))).value [] { args := args, res := some (.bool true), after := args } = some (.bool (true == true)) from w_eq_bool (w_res rfl) w_lit) rfl

/-! ### the attachment: holds_open's last premise (the goal 'hc' behind k_head) from a wpAny of the law's body -/
/-- the same from a codeAny of the CALL (for a layer whose function contracts speak of calls) -/
theorem attach_call {l : OpenLaw} {n : Nat} {q : Program} {loose : List Str} {XP : (Str → Option Value) → Heap → Prop} {YP : World → Heap → Prop} {d : DefRec}
    (hn : l.most = some n) (hdf : d.params.defaults = [])
    (call : ∀ (w : World) (s₀ s₁ : Shared) (mg mb : Str → Option Value) (fa : Addr) (o : Obj) (pm cd doc : Value) (a : Addr) (vs : List Value) (ns : List Int),
      Ground q loose [] XP w s₀ mg mb s₁.heap → YP w s₁.heap →
      s₁.heap.get? fa = some o → o.data = .func (docDef d.name d.params d.body d.scope pm cd doc) → s₁.heap.CodeRec cd d.name → mg d.name = some (.ref fa) →
      s₁.heap.get? a = some { cls := .type "list", data := .seq vs.toArray } → IntsAre vs ns → ns.length ≤ n → s₁.gens = #[] →
      codeAny (model l.prog w) callerA (.call (.ref fa) ⟨[.ref a], []⟩) (fun r s' => r = .ok (.ret (.bool true)) ∧ OldK s₁.heap s'.heap ∧ s'.os = s₁.os ∧ AllBare s'.gens) s₁) :
    WalkO q loose XP YP l.row.toRowW d [] (fun f vs => PySem.call f vs) := by
  intro w s₀ s₁ mg mb G Y fa o pm cd doc dV kV ho hd hcd hD hmg hg args vals as hpre hlay hrd hwl hlo
  obtain rfl : dV = .none := Dflts.none hD hdf
  obtain rfl : kV = .none := Dflts.noKw hD
  obtain ⟨a, vs, ns, rfl, rfl, hobj, hints, hlen⟩ := script_of hn hpre hwl
  refine enter_call (codeAny_mono (call w s₀ s₁ mg mb fa o pm cd doc a vs ns G Y ho (fd_plain hd) hcd hmg hobj hints hlen hg) fun r s' hq => ?_)
  obtain ⟨rfl, h2, h3, h4⟩ := hq
  exact ⟨.inl ⟨.bool true, .bool true, [], rfl, fun _ => rfl, .bool true, post_true l _, fun _ => ⟨List.Pairwise.nil, fun _ hm => (nomatch hm)⟩⟩, h2, h3, h4⟩

/-! ### rules over ANY heap (no ledger) from facts about the written part K: the library's own take a ledger (News) for what they write -/
section
variable {prog : Program} {w : World} {A : Around} {E : Value → Shared → Prop} {s : Shared} {K : Frag}

/-! the whole heap as the ledger: makes every rule that writes through a ledger a rule over any heap -/
def noObjs (h : Heap) : Heap := { h with objs := #[] }
def ledger (h : Heap) (L d : Addr) : List (Addr × Obj) := (List.range h.objs.size).filterMap fun a => if a = L ∨ a = d then none else (h.get? a).map fun o => (a, o)
end
end Att

namespace L2
open PySem PySem.Spec PyProof.Rows

theorem vals_ints : ∀ {vs : List Value} {ns : List Int}, IntsAre vs ns → Vals (ns.map V.int) vs
  | _, _, .nil => .nil
  | _, _, .cons n t h => .cons ⟨t, rfl⟩ (vals_ints h)

/-- nothing is tracked but the script, known to the object (or it is an object of the module) -/
def Only (H : Hp) : Prop := ∀ b, H b = none ∨ ∃ o xs, H b = some (.frz o (.lst xs))

/-- THE HEAD: the law's promise, at the heap behind the top. F, the promise of the law's def, may use that base is part of the heap (so K.In base, base.Ns mainGlobals mg stand in Mod) -/
theorem law_call {P : Program} {w : World} {K : PySem.W.Frag} {mg mb : Str → Option Value} {CX : CXT} {k : Nat} {fa a : Addr} {fd : FuncData} {x : Str} {sp : Sp} {s₁ : Shared} {vs : List Value} {ns : List Int}
    (KX : K.In s₁.heap) (hns : s₁.heap.Ns mainGlobals mg) (hb : s₁.heap.Ns builtinsNs mb) (hbb : ∀ x : Str, x ≠ "__name__" → mb x = bootBuiltins x) (hlim : s₁.heap.NoLimit) (hg : s₁.gens = #[])
    (ha : s₁.heap.get? a = some { cls := .type "list", data := .seq vs.toArray }) (hi : IntsAre vs ns) (hl : ns.length ≤ sizeLine) (hr : Room k callerA)
    (F : ∀ base : Heap, K.In base → base.Ns mainGlobals mg → FnOk P w K mg base CX k fa fd [x] sp) (hbind : ∀ (s : Shared) (u : Value), BindsTo s fd ⟨[u], []⟩ [(x, u)])
    (hsp : ∀ H : Hp, Only H → SqL K H a (ns.map V.int) → sp [.ref a] H (fun v _ => v = .bl true) fun _ _ _ => False)
    (hCX : ∀ H e s', CX [] H s₁ (fun _ _ _ => False) e s' → False) :
    codeAny (model P w) callerA (.call (.ref fa) ⟨[.ref a], []⟩) (fun r s' => r = .ok (.ret (.bool true)) ∧ OldK s₁.heap s'.heap ∧ s'.os = s₁.os ∧ AllBare s'.gens) s₁ := by
  have rv := vals_ints hi
  have lenV := hi.length
  -- from an abstract heap in which nothing but the script may be tracked
  have core : ∀ H : Hp, Only H → SqL K H a (ns.map V.int) → HOk P w H s₁.heap → (∀ b, H b ≠ none → b = a) → (H a ≠ none → K.lookup a = none) →
      codeAny (model P w) callerA (.call (.ref fa) ⟨[.ref a], []⟩) (fun r s' => r = .ok (.ret (.bool true)) ∧ OldK s₁.heap s'.heap ∧ s'.os = s₁.os ∧ AllBare s'.gens) s₁ := by
    intro H hO hS hok hA hK
    have base_of : ∀ {b : Addr} {o : Obj}, s₁.heap.get? b = some o → H b = none → (hidT s₁.heap H).get? b = some o := fun e n => hidT_get e n
    have noA : ∀ {b : Addr} {o : Obj} {es : Array DictEntry} {ep : Nat}, s₁.heap.get? b = some o → o.data = .dict es ep → H b = none := fun {b o es ep} e d => by
      cases q : H b with
      | none => rfl
      | some u =>
        have e' : b = a := hA b (by rw [q]; simp)
        subst e'
        rw [ha] at e; cases e
        have d' : Data.seq vs.toArray _ = Data.dict es ep := d
        cases d'
    have nsK : ∀ {b : Addr} {m : Str → Option Value}, s₁.heap.Ns b m → (hidT s₁.heap H).Ns b m := fun {b m} ⟨o, es, ep, e, d, r⟩ => ⟨o, es, ep, base_of e (noA e d), d, r⟩
    have hKb : K.In (hidT s₁.heap H) := fun b o e => base_of (KX b o e) (by
      cases q : H b with
      | none => rfl
      | some u =>
        have e' : b = a := hA b (by rw [q]; simp)
        subst e'
        rw [hK (by rw [q]; simp)] at e; cases e)
    have hM : Mod K mg (hidT s₁.heap H) := ⟨hKb, nsK hns, ⟨mb, nsK hb, hbb⟩, let ⟨mc, h1, h2⟩ := hlim; ⟨mc, nsK h1, h2⟩⟩
    have e0 : Env0 P w K mg (hidT s₁.heap H) callerA [] s₁ H := ⟨rfl, hM, fun b o e => of_hidT e, Nat.le_of_eq (hidT_size _ _), trivial, fun b hb => absurd (show b ∈ ([] : List Addr) from hb) (by simp), hok, .of_eq hg⟩
    refine codeAny_mono ((F _ hKb (nsK hns)).run callerA [] s₁ H ⟨[.ref a], []⟩ [.ref a] [.ref a] _ _ hr e0 (hbind s₁ (.ref a)) (.cons rfl .nil) (hsp H hO hS)) fun r s' h => ?_
    cases r with
    | error e => exact (hCX H e s' h).elim
    | ok fl =>
      cases fl with
      | next => exact False.elim h
      | brk => exact False.elim h
      | cont => exact False.elim h
      | ret u =>
        obtain ⟨v, H', os, bare, un, hok', r', q⟩ := h
        have q' : v = .bl true := q
        subst q'
        obtain rfl : u = Value.bool true := r'
        refine ⟨rfl, OldK.of_keep fun b o e => ?_, os, bare⟩
        cases q : H b with
        | none => exact un.keep b o e q (by intro z; exact absurd (show b ∈ ([] : List Addr) from z) (by simp)) (by simp)
        | some u =>
          rcases hO b with z | ⟨ob, xs, z⟩
          · rw [q] at z; cases z
          · have z2 := un.frzs b ob _ z
            obtain ⟨e1, _⟩ := hok b _ z
            obtain ⟨e2, _⟩ := hok' b _ z2
            rw [e] at e1; cases e1
            exact e2
  cases hk : K.lookup a with
  | some o =>
    -- the script is one of the module's own objects
    have e := KX a o hk
    rw [ha] at e
    cases e
    refine core (fun _ => none) (fun _ => .inl rfl) (.inr ⟨_, vs.toArray, _, hk, rfl, rfl, rfl, by rw [List.size_toArray, lenV]; exact hl, by simpa using rv⟩) (fun b u z => by have z' : (none : Option HO) = some u := z; cases z') (fun b z => absurd rfl z) fun z => absurd rfl z
  | none =>
    refine core (fun b => if b = a then some (.frz { cls := .type "list", data := .seq vs.toArray } (.lst (ns.map V.int))) else none) (fun b => ?_) (.inl (.inr ⟨{ cls := .type "list", data := .seq vs.toArray }, if_pos rfl⟩)) (fun b u z => ?_) (fun b z => ?_) fun _ => hk
    · by_cases hb : b = a
      · exact .inr ⟨_, _, if_pos hb⟩
      · exact .inl (if_neg hb)
    · by_cases hb : b = a
      · have z' := (if_pos hb).symm.trans z
        cases z'
        subst hb
        exact ⟨ha, by rw [List.length_map]; exact hl, vs, _, rv, ha⟩
      · have z' := (if_neg hb).symm.trans z
        cases z'
    · by_cases hb : b = a
      · exact hb
      · exact absurd (if_neg hb) z
end L2

namespace L2
open PySem PySem.Spec PyProof.Rows

abbrev KOf {K : PySem.W.Frag} {h : Heap} (_ : K.In h) : PySem.W.Frag := K

/-- the goal that k_head leaves (case hc), from the law's promise. F gives the function object fd (K's own) once, then the promise over every base -/
theorem walk_of {l : PySem.W.OpenLaw} {n k : Nat} {q : Program} {loose : List Str} {XP : (Str → Option Value) → Heap → Prop} {YP : World → Heap → Prop} {d : DefRec} {K : Params → PySem.W.Frag} {CX : World → CXT} {sp : World → Sp} {x : Str}
    (hn : l.most = some n) (hn2 : n ≤ sizeLine) (hdf : d.params.defaults = []) (hr : Room k callerA)
    (hY : ∀ (w : World) (h : Heap), YP w h → (K w.params).In h)
    (F : ∀ (w : World) (mg : Str → Option Value) (fa : Addr) (h : Heap), (K w.params).In h → h.Ns mainGlobals mg → mg d.name = some (.ref fa) →
      ∃ fd : FuncData, (∀ (s : Shared) (u : Value), BindsTo s fd ⟨[u], []⟩ [(x, u)]) ∧
        ∀ base : Heap, (K w.params).In base → base.Ns mainGlobals mg → FnOk l.prog w (K w.params) mg base (CX w) k fa fd [x] (sp w))
    (hsp : ∀ (w : World) (H : Hp) (a : Addr) (ns : List Int), ns.length ≤ n → Only H → SqL (K w.params) H a (ns.map V.int) → sp w [.ref a] H (fun v _ => v = .bl true) fun _ _ _ => False)
    (hCX : ∀ (w : World) (H : Hp) (s : Shared) (e : Value) (s' : Shared), CX w [] H s (fun _ _ _ => False) e s' → False) :
    PySem.W.WalkO q loose XP YP l.row.toRowW d [] (fun f vs => PySem.call f vs) := by
  refine Att.attach_call hn hdf fun w s₀ s₁ mg mb fa o pm cd doc a vs ns G Y ho hd hcd hmg hobj hints hlen hg => ?_
  have KX := hY w _ Y
  obtain ⟨fd, hb, hF⟩ := F w mg fa _ KX G.T.g hmg
  exact law_call KX G.T.g G.T.b G.T.builtins G.T.nolimit hg hobj hints (Nat.le_trans hlen hn2) hr hF hb (fun H hO hS => hsp w H a ns hlen hO hS) fun H e s' => hCX w H s₁ e s'
end L2

/- THE LAST THEOREM (shape; LID, My.* are yours):
   My.Adr: a structure of the addresses that your layer names (classes, functions); My.Txt K t: a structure (Prop) of the equations over K;
   My.txt_mk : {K} {implicit addresses ..} (e1 : nsIn K mainGlobals "law" = some (some (.ref f))) (e2 : K.lookup f = some ⟨oc, od, .func (fnOf "law" "law" params body scope dV kV doc pm an cdv ct), sl⟩) (e3 : codeIn K cdv "law" = true) .. : ∃ t, My.Txt K t

set_option maxRecDepth 100000 in
set_option maxHeartbeats 0 in
theorem PySem.Challenge.cw_LID_holds : PySem.Challenge.rw_LID.Holds := by
  w_on; o_law; k_head; (case hw => w_witness2)
  k_fill
  refine L2.walk_of (l := PySem.Challenge.rw_LID) (n := 63) (k := 40) (x := "script") (CX := fun w => ..) (sp := fun _ => My.sp_law) rfl (by decide) rfl ⟨rfl, by decide, by decide⟩ (fun w h Y => PySem.W.kIn_of Y) ?F ?S ?C
  case F =>
    intro w mg fa h KX G hmg
    have T : ∃ t, My.Txt (L2.KOf KX) t := by
      dsimp only [L2.KOf]                          -- K must stand as «<heap const> w.params» for k_is
      refine' My.txt_mk ?e1 ?e2 ?e3 ..
      (case e1 => PySem.W.k_is)                    -- in the order: a name -> its address -> its object -> its parts
      (case e2 => PySem.W.k_is)
      ..
    obtain ⟨t, T⟩ := T
    have e0 := hmg.symm.trans (PySem.W.mg_of KX G T.law)
    cases e0                                       -- fa is the law's own address
    exact ⟨_, fun s u => .of_eq rfl, fun base kb nb => My.law_fn T kb nb⟩     -- if «.of_eq rfl» comes too early: refine' ⟨_, ?b, fun base kb nb => My.law_fn T kb nb⟩; exact fun s u => .of_eq rfl
  case S => exact fun w H a ns hl hO hS => ..
  case C => exact ..
(the tactic k_is has no namespace: write k_is) -/

/-! SHORT WORDS over the layer: a def of the text, its body, what a loop and a test want. -/
namespace L2
open PySem PySem.Spec PyProof.Rows

/-! ### the text by places -/
/-- the j-th statement of a class's body -/
def inClass (s : Stmt) (j : Nat) : Stmt := match s with
  | .ClassDef _ _ _ body _ _ _ _ _ _ _ => body.getD j (.Pass ⟨0, 0, 0, 0⟩)
  | _ => .Pass ⟨0, 0, 0, 0⟩
def defArgs (s : Stmt) : Arguments := match s with
  | .FunctionDef _ a _ _ _ _ _ _ _ _ => a
  | _ => { posonlyargs := [], args := [], vararg := none, kwonlyargs := [], kw_defaults := [], kwarg := none, defaults := [] }
def defBody (s : Stmt) : List Stmt := match s with
  | .FunctionDef _ _ b _ _ _ _ _ _ _ => b
  | _ => []
def defScope (s : Stmt) : Scope := match s with
  | .FunctionDef _ _ _ _ _ _ sc _ _ _ => sc
  | _ => { kind := .function, names := [], isGenerator := false, isCoroutine := false }

/-! ### no exception leaves a def -/
abbrev CX0 : CXT := fun _ _ _ _ _ _ => False
abbrev E0 : XK := fun _ _ _ => False
theorem pass0 {X : Cx} : Passes CX0 X E0 := fun _ _ _ _ _ _ _ h => h.elim

/-! ### a def (or method) of the text as it stands behind the top -/
structure Fun (K : PySem.W.Frag) (x qual : Str) (st : Stmt) (f : Addr) (fd : FuncData) : Prop where
  ex : ∃ (oc : Value) (od : Option Addr) (kV doc pm : Value) (an : Option Addr) (cdv ct : Value) (osl : Array (Option Value)),
    fd = PySem.W.fnOf x qual (defArgs st) (defBody st) (defScope st) .none kV doc pm an cdv ct ∧ K.lookup f = some ⟨oc, od, .func fd, osl⟩ ∧ PySem.W.codeIn K cdv qual = true
  kp : PySem.W.keepIn K (.ref f) = true
section
variable {P : Program} {w : World} {K : PySem.W.Frag} {mg : Str → Option Value} {base : Heap}
/-- THE RULE for a def: its body as a term of rules, and the reading of that term -/
theorem Fun.ok {x qual : Str} {st : Stmt} {f : Addr} {fd : FuncData} {N ps : List Str} {k : Nat} {sp : Sp} (F : Fun K x qual st f fd) (S : FnScope N ps (defScope st)) (len : ∀ vs H Q E, sp vs H Q E → vs.length = ps.length)
    (hbody : ∀ (cdv : Value) (A : Around) (outer : List Env) (s : Shared) (H : Hp) (vs : List V) (Q : VK) (E : XK), Room k (A.deeper (envOfC qual (defScope st) s.heap.objs.size f cdv)) → sp vs H Q E →
      ∃ t, PSs (cxOf CX0 P w K mg base N qual (defScope st) f cdv A outer s H E).nox (defBody st) t ∧ t { nx := fun _ H' => Q .non H', rt := Q } (start N vs) H) : FnOk P w K mg base CX0 (k + 1) f fd ps sp := by
  obtain ⟨oc, od, kV, doc, pm, an, cdv, ct, osl, rfl, lk, hcd⟩ := F.ex
  refine fn_of lk hcd S len fun A outer s H vs Q E hr hsp => ?_
  obtain ⟨t, h, q⟩ := hbody cdv A outer s H vs Q E hr hsp
  exact ⟨t, h.nox, q⟩
/-- how its arguments bind (no defaults): h is «fun _ _ _ _ _ _ us hl => match us, hl with | [_, _], _ => rfl», one _ a parameter -/
theorem Fun.binds {x qual : Str} {st : Stmt} {f : Addr} {fd : FuncData} {ps : List Str} (F : Fun K x qual st f fd)
    (h : ∀ (kV doc pm : Value) (an : Option Addr) (cdv ct : Value) (us : List Value), us.length = ps.length → bindArgs (PySem.W.fnOf x qual (defArgs st) (defBody st) (defScope st) .none kV doc pm an cdv ct) ⟨us, []⟩ = pure (ps.zip us)) : Binds K fd ps [] := by
  obtain ⟨oc, od, kV, doc, pm, an, cdv, ct, osl, rfl, lk, hcd⟩ := F.ex
  exact .all (h kV doc pm an cdv ct)
theorem fun_mk {x qual : Str} {st : Stmt} {f : Addr} {oc : Value} {od an : Option Addr} {osl : Array (Option Value)} {kV doc pm cdv ct : Value} (l : K.lookup f = some ⟨oc, od, .func (PySem.W.fnOf x qual (defArgs st) (defBody st) (defScope st) .none kV doc pm an cdv ct), osl⟩)
    (c : PySem.W.codeIn K cdv qual = true) (k : PySem.W.keepIn K (.ref f) = true) : Fun K x qual st f (PySem.W.fnOf x qual (defArgs st) (defBody st) (defScope st) .none kV doc pm an cdv ct) := ⟨⟨oc, od, kV, doc, pm, an, cdv, ct, osl, rfl, l, c⟩, k⟩
end
theorem hu_of {A : Around} {k : Nat} (hr : Room k A) : A.units + 1 < cLine := Nat.lt_of_le_of_lt (Nat.add_le_add_left (by decide : 1 ≤ 64) _) hr.units
/-! ### expressions in short: the name that stands in the i-th slot -/
section
variable {X : Cx}
theorem pv (i : Nat) {x : Str} {pos : Pos} (hN : X.N[i]? = some x := by rfl) (hv : Vis X.env.scope x := by first | exact Or.inl rfl | exact Or.inr (Or.inl rfl) | exact Or.inr (Or.inr rfl)) (hd : (x == ("__debug__" : Str)) = false := by decide)
    (hcd : (x == ("__classdict__" : Str)) = false := by decide) : PE X (.Name x pos) (tVar i) := pe_var hN hv hd hcd
end

/-! ### tests -/
theorem iteF {A B : Prop} (h : B) : if false = true then A else B := by
  rw [if_neg Bool.false_ne_true]
  exact h
theorem iteT {A B : Prop} (h : A) : if true = true then A else B := by
  rw [if_pos rfl]
  exact h
theorem ite2 {c A B : Prop} [Decidable c] (h1 : c → A) (h2 : ¬ c → B) : if c then A else B := by
  by_cases h : c
  · rw [if_pos h]
    exact h1 h
  · rw [if_neg h]
    exact h2 h
/-! ### heaps -/
/-- all that was tracked is as it was -/
def Same (H H' : Hp) : Prop := ∀ b o, H b = some o → H' b = some o
theorem Same.refl (H : Hp) : Same H H := fun _ _ h => h
theorem Same.trans {H H1 H2 : Hp} (a : Same H H1) (b : Same H1 H2) : Same H H2 := fun c o h => b c o (a c o h)
theorem Same.free {H H' : Hp} (e : Same H H') {l : Addr} (h : H' l = Option.none) : H l = Option.none := by
  cases q : H l with
  | none => rfl
  | some o =>
    rw [e l o q] at h
    cases h
theorem Same.seq {K : PySem.W.Frag} {H H' : Hp} {a : Addr} {xs : List V} (e : Same H H') (h : SqL K H a xs) : SqL K H' a xs := by
  rcases h with (h | ⟨o, h⟩) | h
  · exact .inl (.inl (e _ _ h))
  · exact .inl (.inr ⟨o, e _ _ h⟩)
  · exact .inr h

/-! ### a dict's pairs: keys that differ -/
section
variable {κ : Type} [DecidableEq κ]
end
end L2

set_option Elab.async false
set_option linter.all false
set_option maxRecDepth 100000
set_option maxHeartbeats 4000000
namespace L2
open PySem PySem.Spec PyProof.Rows

/-- an object that stood untracked is tracked -/
theorem HOk.track {P : Program} {w : World} {H : Hp} {h : Heap} {a : Addr} {o : HO} (x : HOk P w H h) (hn : H a = none) (new : ObjOk P w (upd H a o) h a o) : HOk P w (upd H a o) h := fun b u e => by
  by_cases hb : b = a
  · subst hb; rw [upd_same] at e; cases e; exact new
  · rw [upd_ne hb] at e
    exact (x b u e).stay (fun c v _ q => q) (fun c q => by rw [upd_ne (ne_of_none q hn)]; exact q) fun c xs q => by rw [upd_ne (ne_of_none q hn)]; exact q
/-- an untracked object is changed -/
theorem HOk.other {P : Program} {w : World} {H : Hp} {h h' : Heap} {a : Addr} (x : HOk P w H h) (hn : H a = none) (hs : Heap.SameBut a h h') : HOk P w H h' := fun b u e =>
  (x b u e).stay (fun c v hc q => (hs.2 c (by
    rintro rfl
    rcases hc with rfl | hc
    · rw [hn] at e; cases e
    · rw [hn] at hc; cases hc)).trans q) (fun _ q => q) fun _ _ q => q

section
variable {prog : Program} {w : World} {A : Around} {R : Result → Shared → Prop} {s : Shared}
theorem comp_loop {elt target iter : Expr} {ifs : List Expr} {scope : Scope} {pos : Pos} {it acc : Value} {env : Env} (I : Nat → Shared → Prop)
    (turn : ∀ n s, I n s → wpAny (model prog w) A (pyNext it) (fun r s₁ => match r with
      | none => R (.ok .next) s₁
      | some v => wpAny (model prog w) A (letOwnedTupleGo target it v) (fun _ s₀ => wpAny (model prog w) A (assign target env v) (fun _ s₂ =>
          wpAny (model prog w) A (forIn ifs true fun c r => if r = true then do let ok ← isTrue c env (eval c env); pure (ForInStep.yield ok) else pure (ForInStep.yield r)) (fun ok s₃ =>
            if ok = true then wpAny (model prog w) A (eval elt env) (fun x s₄ =>
              wpAny (model prog w) A (call (.builtin "list.append") [acc, x]) (fun _ s₅ => ∃ m, m < n ∧ I m s₅) (notedBy (model prog w) A env fun e s' => R (.error e) s') s₄) (notedBy (model prog w) A env fun e s' => R (.error e) s') s₃
            else ∃ m, m < n ∧ I m s₃) (notedBy (model prog w) A env fun e s' => R (.error e) s') s₂) (notedBy (model prog w) A env fun e s' => R (.error e) s') s₀) (notedBy (model prog w) A env fun e s' => R (.error e) s') s₁) (notedBy (model prog w) A env fun e s' => R (.error e) s') s)
    (n : Nat) (h : I n s) : codeAny (model prog w) A (.compLoop (.ListComp elt [⟨target, iter, ifs, 0⟩] scope pos) 0 it acc env) R s := by
  refine codeAny_loop rfl I (fun n s hI => ?_) n h
  show wpAny _ A ((compTurn (.ListComp elt [⟨target, iter, ifs, 0⟩] scope pos) 0 it acc env).onRaise (fun x => do noteFrame x env; theTreesLotGoes x)) _ _ s
  refine wpAny_noted ?_
  rw [compTurn_list]
  refine wpAny_bind (wpAny_standAt (wpAny_bind (wpAny_mono (turn n s hI) (fun r s₁ h₁ => ?_) fun _ _ h' => h')))
  cases r with
  | none => exact wpAny_pure h₁
  | some v =>
    refine wpAny_bind (wpAny_mono h₁ (fun _ s₀ h₀ => ?_) fun _ _ h' => h')
    refine wpAny_bind (wpAny_mono h₀ (fun _ s₂ h₂ => wpAny_bind (wpAny_mono h₂ (fun ok s₃ h₃ => ?_) fun _ _ h' => h')) fun _ _ h' => h')
    cases ok with
    | false => exact wpAny_pure ⟨rfl, h₃⟩
    | true =>
      exact wpAny_bind (wpAny_bind (wpAny_mono h₃ (fun x s₄ h₄ => wpAny_bind (wpAny_mono h₄ (fun _ s₅ h₅ => wpAny_pure (wpAny_pure ⟨rfl, h₅⟩)) fun _ _ h' => h')) fun _ _ h' => h'))
end

/-! ### a comprehension's block -/
def cxComp (X : Cx) (scope : Scope) (cl : List (Str × Addr)) (NY : List Str) (C : Addr) (s : Shared) (H : Hp) (fp : List Addr) : Cx where
  prog := X.prog
  w := X.w
  K := X.K
  mg := X.mg
  base := X.base
  A := X.A
  N := NY
  s₀ := s
  H₀ := H
  env := compEnvC scope cl C X.env
  outer := X.stack
  stack := X.stack
  ex := fp
  fn := fun _ => false
  calm := true
  pn := []
  xe := notedBy (model X.prog X.w) X.A (compEnvC scope cl C X.env) fun e s' => compPost (model X.prog X.w) X.A X.xe none (fun _ _ => False) .none C (.error e) s'
def ClOk : List (Str × Addr) → List (Str × Addr) → Prop
  | [], _ => True
  | p :: r, cells => cells.lookup p.1 = some p.2 ∧ ClOk r cells
theorem ClOk.mem : ∀ {cl cells : List (Str × Addr)}, ClOk cl cells → ∀ {x : Str} {c : Addr}, cl.lookup x = some c → cells.lookup x = some c
  | [], _, _, _, _, e => by simp at e
  | (y, d) :: r, cells, h, x, c, e => by
    rw [List.lookup_cons] at e
    split at e
    · rename_i q
      have q' : x = y := by simpa using q
      subst q'
      cases e
      exact h.1
    · exact ClOk.mem h.2 e
def FrOk (X : Cx) (scope : Scope) (cl : List (Str × Addr)) : List Nat → List Str → Prop
  | [], [] => True
  | i :: r, y :: ys => (X.N[i]? = some y ∧ scope.names.lookup y = some .free ∧ Vis X.env.scope y ∧ X.env.kindOf y ≠ some .local ∧ ∃ c, cl.lookup y = some c) ∧ FrOk X scope cl r ys
  | _, _ => False
def PIfs (X : Cx) (ifs : List Expr) (t : TT) : Prop :=
  ∀ (pins : List (Addr × Obj)) (s : Shared) (σ : St) (H : Hp) (Q : Bool → Hp → Prop), Inv X pins σ H s → t σ H Q →
    wpAny (model X.prog X.w) X.A (forIn ifs true fun c r => if r = true then do let ok ← isTrue c X.env (eval c X.env); pure (ForInStep.yield ok) else pure (ForInStep.yield r)) (TP X pins σ Q) X.xe s
theorem pifs_nil {X : Cx} : PIfs X [] (fun _ H Q => Q true H) := fun _ _ _ H _ I h => wpAny_tests_nil ⟨H, I, h⟩
theorem pifs_one {X : Cx} {c : Expr} {t : TT} (h : PT X c t) : PIfs X [c] t := fun pins s σ H Q I q => wpAny_tests_one (h pins s σ H Q I q)
/-- the names' values in the block: the walked one, those of the frame that it reads -/
def frees (fr : List Nat) (σ : St) : St := fr.map fun k => (σ[k]?).join
def tLComp (fr : List Nat) (wi : TI) (tt : TT) (te : TE) : TE := fun σ H Q => wi σ H fun J H1 => ∃ W : Nat → Nat → List V → Hp → Prop, (∃ m, W 0 m [] H1) ∧ ∀ i m vs H, W i m vs H → vs.length ≤ sizeLine ∧
  ((J.stop i H ∧ ∀ D, H D = none → Q (.ref D) (upd H D (.lst vs))) ∨
   (J.go i H ∧ ∀ v H', J.yld i H v H' → tt (some v :: frees fr σ) H' fun b H2 => if b = true then te (some v :: frees fr σ) H2 fun y H3 => ∃ m', m' < m ∧ W (i + 1) m' (vs ++ [y]) H3 else ∃ m', m' < m ∧ W (i + 1) m' vs H2))

def relF (env : Env) (p : Str × NameKind) : Str × NameKind := if (p.2 == NameKind.free && env.scope.kind == .function && env.kindOf p.1 == some .cell) = true then (p.1, NameKind.cell) else (p.1, p.2)
theorem relF_fst (env : Env) (p : Str × NameKind) : (relF env p).1 = p.1 := by unfold relF; split <;> rfl
theorem lookup_relF {env : Env} : ∀ {names : List (Str × NameKind)} {x : Str}, (names.map (relF env)).lookup x = (names.lookup x).map fun k => (relF env (x, k)).2
  | [], _ => rfl
  | (n, k) :: r, x => by
    have ih := @lookup_relF env r x
    rw [List.map_cons]
    have e : relF env (n, k) = (n, (relF env (n, k)).2) := Prod.ext (relF_fst env (n, k)) rfl
    rw [e]
    cases hx : x == n with
    | true =>
      have q' : x = n := by simpa using hx
      subst q'
      simp only [List.lookup_cons, hx, Option.map_some]
    | false => simp only [List.lookup_cons, hx]; exact ih
theorem lookup_relabel_free {env : Env} {names : List (Str × NameKind)} {x : Str} (h : names.lookup x = some .free) :
    (names.map (relF env)).lookup x = some .cell ∨ (names.map (relF env)).lookup x = some .free := by
  rw [lookup_relF, h, Option.map_some]
  unfold relF
  split
  · exact .inl rfl
  · exact .inr rfl
theorem lookup_relabel_inv {env : Env} {names : List (Str × NameKind)} {x : Str} (hn : ∀ y ∈ names, y.2 ≠ .cell) (h : (names.map (relF env)).lookup x = some .cell ∨ (names.map (relF env)).lookup x = some .free) : (x, NameKind.free) ∈ names := by
  rw [lookup_relF] at h
  cases q : names.lookup x with
  | none => rw [q] at h; simp at h
  | some k =>
    rw [q] at h
    have hm := PySem.mem_of_lookup q
    have hk : k = .free := by
      unfold relF at h
      simp only [Option.map_some, Option.some.injEq] at h
      split at h
      · rename_i c
        simp only [Bool.and_eq_true] at c
        simpa using c.1.1
      · rcases h with h | h
        · exact absurd h (hn _ hm)
        · exact h
    rw [← hk]
    exact hm

theorem frees_get {X : Cx} {scope : Scope} {cl : List (Str × Addr)} {σ : St} : ∀ {fr : List Nat} {ys : List Str}, FrOk X scope cl fr ys → ∀ (j : Nat) (y : Str) (v : V), ys[j]? = some y → (frees fr σ)[j]? = some (some v) →
    ∃ i : Nat, X.N[i]? = some y ∧ σ[i]? = some (some v) ∧ scope.names.lookup y = some .free ∧ Vis X.env.scope y ∧ X.env.kindOf y ≠ some .local ∧ ∃ c, cl.lookup y = some c
  | [], [], _, j, y, v, e, _ => by simp at e
  | [], _ :: _, h, _, _, _, _, _ => h.elim
  | _ :: _, [], h, _, _, _, _, _ => h.elim
  | i :: r, z :: ys, h, 0, y, v, e1, e2 => by
    have e1' : z = y := by simpa using e1
    subst e1'
    have e2' : (σ[i]?).join = some v := by simpa [frees] using e2
    have : σ[i]? = some (some v) := by
      cases q : σ[i]? with
      | none => rw [q] at e2'; cases e2'
      | some o => rw [q] at e2'; cases o with
        | none => cases e2'
        | some u => cases e2'; rfl
    exact ⟨i, h.1.1, this, h.1.2.1, h.1.2.2.1, h.1.2.2.2.1, h.1.2.2.2.2⟩
  | i :: r, z :: ys, h, j + 1, y, v, e1, e2 => frees_get (fr := r) (ys := ys) h.2 j y v (by simpa using e1) (by simpa [frees] using e2)
theorem frees_len {X : Cx} {scope : Scope} {cl : List (Str × Addr)} {σ : St} : ∀ {fr : List Nat} {ys : List Str}, FrOk X scope cl fr ys → (frees fr σ).length = ys.length
  | [], [], _ => rfl
  | [], _ :: _, h => h.elim
  | _ :: _, [], h => h.elim
  | i :: r, z :: ys, h => by
    have := frees_len (σ := σ) (fr := r) (ys := ys) h.2
    simp only [frees, List.map_cons, List.length_cons, List.length_map] at *
    omega

theorem pe_lcomp {X : Cx} {elt iter : Expr} {x : Str} {px pos : Pos} {ifs : List Expr} {scope : Scope} {cl : List (Str × Addr)} (fr : List Nat) (ys : List Str) {wi : TI} {tt : TT} {te : TE}
    (hc : X.calm = true) (hclos : closureFor scope X.env = pure cl) (hcell : ∀ y ∈ scope.names, y.2 ≠ .cell) (hkind : scope.kind = .function) (hnames : ∀ y ∈ scope.names, y.2 = .local → scope.names.lookup y.1 = some .local)
    (hx : scope.names.lookup x = some .local) (hnd : (x :: ys).Nodup) (hcl : ClOk cl X.env.cells) (hall : (scope.names.all fun y => y.2 != .free || (cl.lookup y.1).isSome) = true) (hfr : FrOk X scope cl fr ys)
    (hi : PI X (.Name x px) iter wi)
    (hY : ∀ C s H fp, PIfs (cxComp X scope cl (x :: ys) C s H fp) ifs tt ∧ PE (cxComp X scope cl (x :: ys) C s H fp) elt te)
    (hs : ∀ v, foldedSetIterable iter X.env v = pure v := by intro _; rfl) :
    PE X (.ListComp elt [⟨.Name x px, iter, ifs, 0⟩] scope pos) (tLComp fr wi tt te) := by
  intro pins s σ H Q I h
  rw [eval_ListComp]
  refine wpAny_comprehension_free (use := none) rfl hs hclos hkind hnames (wpAny_mono (hi pins s σ H _ I h) (fun v s1 h1 => wpAny_mono h1 (fun itv s2 h2 => ?_) fun _ _ e => e) fun _ _ e => e)
  obtain ⟨it, fp, tn, J, H2, rfl, I2, T, st2, f2, W, ⟨m0, w0⟩, turn⟩ := h2
  refine wpAny_newObj_type (wpAny_newFunctionEnv hcell (by intro y hy; simp at hy) (fun h₁ hns₁ hsb₁ => ?_) hkind)
  dsimp only at hns₁ hsb₁ ⊢
  generalize hP2 : s2.heap.push { cls := .type "list", dict := none, data := .seq ([] : List Value).toArray } = P2 at hns₁ hsb₁ ⊢
  have hC : P2.objs.size = s2.heap.objs.size + 1 := by rw [← hP2, Heap.size_push]
  have hDC : s2.heap.objs.size ≠ P2.objs.size := by rw [hC]; exact Nat.ne_of_lt (Nat.lt_succ_self _)
  have hCle : s2.heap.objs.size ≤ P2.objs.size := by rw [hC]; exact Nat.le_succ _
  have below : ∀ b, b < s2.heap.objs.size → b ≠ P2.objs.size ∧ b ≠ s2.heap.objs.size := fun b hb => ⟨by rw [hC]; exact Nat.ne_of_lt (Nat.lt_succ_of_lt hb), Nat.ne_of_lt hb⟩
  have old : ∀ b o, s2.heap.get? b = some o → h₁.get? b = some o := fun b o e => hsb₁.extBut b o (below b (Heap.lt_size e)).1 (Heap.get?_push_of_some _ (hP2 ▸ Heap.get?_push_of_some _ e))
  have hacc : h₁.get? s2.heap.objs.size = some { cls := .type "list", data := .seq ([] : List Value).toArray } := hsb₁.extBut _ _ hDC (Heap.get?_push_of_some _ (hP2 ▸ Heap.get?_push_size _ rfl))
  have fpl : ∀ b ∈ fp, b < s2.heap.objs.size := fun b hb => by
    obtain ⟨o, e, _⟩ := T.obj _ _ st2 b hb
    exact Heap.lt_size e
  have tlt : ∀ b o, H2 b = some o → b < s2.heap.objs.size := fun b o e => I2.hok.lt e
  generalize hCg : P2.objs.size = C at hns₁ hsb₁ hDC hCle below ⊢
  generalize hDg : s2.heap.objs.size = D at hDC below hacc fpl tlt ⊢
  have hDle : D ≤ C := by rw [← hDg]; exact hCle
  have cls : ∀ y c, cl.lookup y = some c → X.env.cells.lookup y = some c := fun y c e => hcl.mem e
  have clt : ∀ y c, cl.lookup y = some c → c < D := fun y c e => by
    obtain ⟨v, q⟩ := I2.cell y c (cls y c e)
    rw [← hDg]; exact q.lt
  have sub : ∀ b ∈ frs X.stack, b < D := fun b hb => by
    rcases List.mem_cons.mp (I2.stkSub b hb) with e | hb
    · rw [e, ← hDg]; exact I2.lt
    · obtain ⟨_, o, ho, _⟩ := I2.ok.funs.mem hb
      rw [← hDg]; exact Nat.lt_of_lt_of_le (Heap.lt_size ho) I2.sz
  obtain ⟨YI, YE⟩ := hY C s2 H2 fp
  have Yok : (cxComp X scope cl (x :: ys) C s2 H2 fp).Ok := by
    refine ⟨I2.ok.mod, hkind, I2.ok.glob, I2.ok.blt, hCle, ?_, ?_, ?_, fun _ => I2.ok.hd hc, I2.ok.frames, .inl rfl, ?_, I2.bs, Nat.le_trans I2.ok.bsz I2.sz, ?_, ?_, I2.stack, I2.stkFree⟩
    · exact fun y z c e1 e2 => I2.ok.inj y z c (cls y c e1) (cls z c e2)
    · intro y hy
      have hm := lookup_relabel_inv (env := X.env) (names := scope.names) (x := y) hcell hy
      have q := List.all_eq_true.mp hall _ hm
      show ∃ c, cl.lookup y = some c
      exact Option.isSome_iff_exists.mp (by simpa using q)
    · intro y c hf _
      exact absurd hf (by show ¬ false = true; decide)
    · intro b hb
      refine ⟨(below b (fpl b hb)).1, fun y c e z => ?_⟩
      exact (f2 b hb).2.2.2.2.1 y c (cls y c e) z
    · intro b o e hb
      have hb : b ∈ fp := hb
      rcases (f2 b hb).2.2.2.1 with z | z
      · exact I2.ok.noex b o e z
      · exact absurd (Nat.lt_of_lt_of_le (Heap.lt_size e) (Nat.le_trans I2.ok.bsz z)) (Nat.lt_irrefl _)
    · intro b hb hf
      have hb : b ∈ fp := hb
      rcases List.mem_cons.mp (I2.stkSub b hf) with e | hf
      · exact (f2 b hb).2.1 e
      · exact (f2 b hb).2.2.1 hf
  -- the block's state at a turn's start
  have hvis : Loc (cxComp X scope cl (x :: ys) C s2 H2 fp).env.scope x := .inl (lookup_relabel_local hx)
  have start : ∀ tk, Inv (cxComp X scope cl (x :: ys) C s2 H2 fp) [] (none :: frees fr σ) H2 { s2 with heap := h₁, toks := tk } := fun tk => by
    refine ⟨Yok, rfl, I2.bare, Un.kept old, ⟨_, hns₁, fun i y v e1 e2 e3 => ?_⟩, fun y c e => ?_, ?_, fun y c e => ?_, fun p hp => absurd (show p ∈ ([] : List (Addr × Obj)) from hp) (by simp), I2.hok.kept old, ?_⟩
    · cases i with
      | zero => simp at e2
      | succ j =>
        obtain ⟨i', n1, n2, n3, n4, n5, c, n6⟩ := frees_get hfr j y v (by simpa [cxComp] using e1) (by simpa using e2)
        obtain ⟨m, hn, hl⟩ := I2.loc
        obtain ⟨u, r, l⟩ := hl i' y v n1 n2 n4
        refine ⟨u, r, .inr ⟨lookup_relabel_free n3, c, n6, ?_⟩⟩
        rcases l with ⟨k, _⟩ | ⟨k, c', e, z⟩
        · exact absurd k n5
        · rw [cls y c n6] at e
          cases e
          obtain ⟨o, ho, hd⟩ := z
          exact ⟨o, old _ _ ho, hd⟩
    · obtain ⟨v, o, ho, hd⟩ := I2.cell y c (cls y c e)
      exact ⟨v, o, old _ _ ho, hd⟩
    · show H2 C = none
      cases q : H2 C with
      | none => rfl
      | some o => exact absurd (tlt C o q) (Nat.not_lt.mpr hDle)
    · exact I2.freeC y c (cls y c e)
    · show (none :: frees fr σ).length = (x :: ys).length
      rw [List.length_cons, List.length_cons, frees_len hfr]
  have fpY : ∀ {pl : List (Addr × Obj)} {H' : Hp}, (∀ b ∈ fp, H' b = none) → (∀ p ∈ pl, p.1 = D) → ∀ b ∈ fp, FpOk (cxComp X scope cl (x :: ys) C s2 H2 fp) pl H' b := fun {pl H'} hn hpl b hb => by
    refine ⟨hn b hb, (below b (fpl b hb)).1, Yok.exfs b hb, .inl hb, fun y c e z => (f2 b hb).2.2.2.2.1 y c (cls y c e) z, fun p hp => ?_⟩
    have hp : p ∈ [] ++ pl := hp
    rw [List.nil_append] at hp
    rw [hpl p hp]
    exact (below b (fpl b hb)).2.symm
  have loop : ∀ s₃ : Shared, (∃ tk, s₃ = { s2 with heap := h₁, toks := tk }) →
      codeAny (model X.prog X.w) X.A (.compLoop (.ListComp elt [⟨.Name x px, iter, ifs, 0⟩] scope pos) 0 (.ref it) (.ref D) (compEnvC scope cl C X.env))
        (compPost (model X.prog X.w) X.A X.xe none (EP X pins σ Q) (.ref D) C) s₃ := by
    rintro s₃ ⟨tk, rfl⟩
    refine comp_loop
      (fun k s' => ∃ i vs ws nn H', Inv (cxComp X scope cl (x :: ys) C s2 H2 fp) [] (none :: frees fr σ) H' s' ∧ tn i s'.heap ∧ (∀ b ∈ fp, H' b = none) ∧ H' D = none ∧
        s'.heap.get? D = some { cls := .type "list", data := .seq (ws : List Value).toArray nn } ∧ Vals vs ws ∧ W i k vs H') ?_ m0
      ⟨0, [], [], 0, H2, start tk, T.keep _ _ _ st2 fun b _ o e => old b o e, fun b hb => (f2 b hb).1, ?_, hacc, .nil, w0⟩
    · rintro n s3 ⟨i, vs, ws, nn, H3, I3, st3, fr3, hD3, ho3, rv3, w3⟩
      have I3' : Inv (cxComp X scope cl (x :: ys) C s2 H2 fp) [(D, { cls := .type "list", data := .seq ws.toArray nn })] (none :: frees fr σ) H3 s3 := I3.pins_of fun p hp => by
        have e : p = (D, { cls := .type "list", data := .seq ws.toArray nn }) := by simpa using hp
        subst e
        refine ⟨ho3, hD3, hDC, fun z => absurd (sub D z) (Nat.lt_irrefl _), fun v z => ?_⟩
        have z' : Data.seq ws.toArray nn = Data.cell v := z
        cases z'
      have fp3 := fpY (pl := [(D, { cls := .type "list", data := .seq ws.toArray nn })]) fr3 (fun p hp => by rw [List.mem_singleton.mp hp])
      obtain ⟨hsz, alt⟩ := turn i n vs H3 w3
      rcases alt with ⟨stop, fin⟩ | ⟨go, step⟩
      · refine thn (T.done (cxComp X scope cl (x :: ys) C s2 H2 fp) rfl rfl rfl rfl i _ s3 _ H3 _ I3' fp3 st3 stop) fun r s4 ⟨hr, I4⟩ => ?_
        subst hr
        have pD := I4.pin (D, { cls := .type "list", data := .seq ws.toArray nn }) (by show _ ∈ [] ++ _; simp)
        obtain ⟨m4, hn4, _⟩ := I4.loc
        refine ⟨m4, hn4, fun h' hs' => ?_⟩
        have hC4 : H3 C = none := I4.free
        have hok' : HOk X.prog X.w (upd H3 D (.lst vs)) h' := by
          refine HOk.track (I4.hok.other hC4 hs') hD3 ⟨hsz, ws, nn, rv3, (hs'.2 D hDC).trans pD.1⟩
        have b4 := I4.base
        have un : Un (frs X.stack) fp H2 (upd H3 D (.lst vs)) s2.heap h' := by
          have lt : ∀ b o, s2.heap.get? b = some o → b < D := fun b o e => by rw [← hDg]; exact Heap.lt_size e
          refine ⟨fun b o e n hb hx => (hs'.2 b (below b (lt b o e)).1).trans (b4.keep b o e n hb hx), fun b o e n hb hx => ?_, fun b o e n hx => ?_, fun b o e hx => ?_, fun b zs e => ?_, fun b o u e => ?_, fun b ps e => ?_⟩
          · obtain ⟨sl, q⟩ := b4.slot b o e n hb hx
            exact ⟨sl, (hs'.2 b (below b (lt b o e)).1).trans q⟩
          · rw [upd_ne (below b (lt b o e)).2]; exact b4.free b o e n hx
          · obtain ⟨o', q⟩ := b4.there b o e hx
            exact ⟨o', (hs'.2 b (below b (lt b o e)).1).trans q⟩
          · rw [upd_ne (below b (tlt b _ e)).2]; exact b4.tups b zs e
          · rw [upd_ne (below b (tlt b _ e)).2]; exact b4.frzs b o u e
          · rw [upd_ne (below b (tlt b _ e)).2]; exact b4.tbls b ps e
        refine ⟨.ref D, upd H3 D (.lst vs), ?_, rfl, fin D hD3⟩
        exact I2.call' (s' := { s4 with heap := h' }) (ch := fp) I4.os un hok' I4.bare fun b hb => ⟨(f2 b hb).2.2.2.1, (f2 b hb).2.1, (f2 b hb).2.2.2.2.1, (f2 b hb).2.2.2.2.2⟩
      · refine thn (T.item (cxComp X scope cl (x :: ys) C s2 H2 fp) rfl rfl rfl rfl i _ s3 _ H3 _ I3' fp3 st3 go) fun r s4 ⟨u, hr, h4⟩ => ?_
        subst hr
        refine thn h4 fun _ s5 ⟨v, H5, I5, r5, y5, st5, fr5⟩ => ?_
        have fp5 := fpY (pl := [(D, { cls := .type "list", data := .seq ws.toArray nn })]) fr5 (fun p hp => by rw [List.mem_singleton.mp hp])
        have I5' := I5.pinned fp5 (T.obj _ _ st5)
        refine thn (pg_name (X := cxComp X scope cl (x :: ys) C s2 H2 fp) (i := 0) (pos := px) hnd rfl hvis (.inr (lookup_relabel_local hx)) _ s5 _ H5 v u (fun σ' H' => σ' = some v :: frees fr σ ∧ H' = H5) I5' r5 ⟨rfl, rfl⟩) fun _ s6 ⟨σ6, H6, I6, e6, e6'⟩ => ?_
        subst e6 e6'
        refine thn (YI _ s6 _ _ _ I6 (step v H6 y5)) fun b s7 ⟨H7, I7, q7⟩ => ?_
        -- what is kept through the turn
        have back : ∀ {H8 : Hp} {s8 : Shared}, Inv (cxComp X scope cl (x :: ys) C s2 H2 fp) ([(D, { cls := .type "list", data := .seq ws.toArray nn })] ++ pinsAt fp s5.heap) (some v :: frees fr σ) H8 s8 →
            s8.heap.get? D = some { cls := .type "list", data := .seq ws.toArray nn } ∧ H8 D = none ∧ (∀ b ∈ fp, H8 b = none) ∧ (∀ b ∈ fp, ∀ o, s5.heap.get? b = some o → s8.heap.get? b = some o) := fun {H8 s8} I8 => by
          have pD := I8.pin (D, { cls := .type "list", data := .seq ws.toArray nn }) (by show _ ∈ [] ++ _; simp)
          refine ⟨pD.1, pD.2.1, fun b hb => ?_, fun b hb o e => ?_⟩
          · obtain ⟨o, e, d⟩ := T.obj _ _ st5 b hb
            exact (I8.pin (b, o) (List.mem_append_right _ (List.mem_append_right _ (mem_pinsAt hb e)))).2.1
          · exact (I8.pin (b, o) (List.mem_append_right _ (List.mem_append_right _ (mem_pinsAt hb e)))).1
        have weak : ∀ {H8 : Hp} {s8 : Shared}, Inv (cxComp X scope cl (x :: ys) C s2 H2 fp) [] (some v :: frees fr σ) H8 s8 → Inv (cxComp X scope cl (x :: ys) C s2 H2 fp) [] (none :: frees fr σ) H8 s8 := fun {H8 s8} I8 =>
          I8.weak rfl fun i v' e => by
            cases i with
            | zero => simp at e
            | succ j => simpa using e
        have nopin : ∀ {H8 : Hp} {s8 : Shared} {pl : List (Addr × Obj)}, Inv (cxComp X scope cl (x :: ys) C s2 H2 fp) pl (some v :: frees fr σ) H8 s8 → Inv (cxComp X scope cl (x :: ys) C s2 H2 fp) [] (some v :: frees fr σ) H8 s8 := fun {H8 s8 pl} I8 =>
          I8.pins_of fun p hp => absurd hp (by simp)
        cases b with
        | false =>
          rw [if_neg Bool.false_ne_true] at q7 ⊢
          obtain ⟨m', hm, w7⟩ := q7
          obtain ⟨k1, k2, k3, k4⟩ := back I7
          exact ⟨m', hm, i + 1, vs, ws, nn, H7, weak (nopin I7), T.keep _ _ _ st5 k4, k3, k2, k1, rv3, w7⟩
        | true =>
          rw [if_pos rfl] at q7 ⊢
          refine thn (YE _ s7 _ _ _ I7 q7) fun u8 s8 ⟨y8, H8, I8, r8, m', hm, w8⟩ => ?_
          obtain ⟨k1, k2, k3, k4⟩ := back I8
          refine append_at (hsz := by rw [List.size_toArray, ← rv3.length]; exact hsz) k1 fun h9 hs9 ho9 => ?_
          have I9 : Inv (cxComp X scope cl (x :: ys) C s2 H2 fp) [] (some v :: frees fr σ) H8 { s8 with heap := h9 } :=
            (nopin I8).turned (t' := s8.toks) (it := D) (fun b o hb e => (hs9.2 b hb).trans e) k2 hDC (.inr (by rw [← hDg]; exact Nat.le_refl _)) (fun y c e => Nat.ne_of_lt (clt y c e)) fun p hp => absurd (show p ∈ ([] : List (Addr × Obj)) from hp) (by simp)
          refine ⟨m', hm, i + 1, vs ++ [y8], ws ++ [u8], nn + 1, H8, weak I9, ?_, k3, k2, ?_, rv3.append (.cons r8 .nil), w8⟩
          · refine T.keep _ _ _ st5 fun b hb o e => ?_
            exact (hs9.2 b (below b (fpl b hb)).2).trans (k4 b hb o e)
          · rw [ho9, List.push_toArray]
    · cases q : H2 D with
      | none => rfl
      | some o => exact absurd (tlt D o q) (Nat.lt_irrefl _)
  exact codeAny_compStart_list (loop _ ⟨_, rfl⟩) (T.self _ 0 _ _ _ (T.keep _ _ _ st2 fun b _ o e => old b o e) (loop _ ⟨_, rfl⟩))
end L2

set_option Elab.async false
set_option linter.all false
set_option maxRecDepth 100000
set_option maxHeartbeats 4000000
namespace L2
open PySem PySem.Spec PyProof.Rows

/-! ### a def that keeps a promise, by its name -/
def Have (P : Program) (w : World) (K : PySem.W.Frag) (mg : Str → Option Value) (base : Heap) (x : Str) (k : Nat) (ps : List Str) (sp : Sp) : Prop :=
  ∃ (f : Addr) (fd : FuncData), FnOk P w K mg base CX0 k f fd ps sp ∧ Binds K fd ps [] ∧ PySem.W.keepIn K (.ref f) = true ∧ mg x = some (.ref f)
theorem Have.mono {P : Program} {w : World} {K : PySem.W.Frag} {mg : Str → Option Value} {base : Heap} {x : Str} {j k : Nat} {ps : List Str} {sp : Sp} (h : Have P w K mg base x j ps sp) (e : j ≤ k) : Have P w K mg base x k ps sp :=
  let ⟨f, fd, F, r⟩ := h; ⟨f, fd, F.mono e, r⟩
theorem Have.imp {P : Program} {w : World} {K : PySem.W.Frag} {mg : Str → Option Value} {base : Heap} {x : Str} {k : Nat} {ps : List Str} {sp sp' : Sp} (h : Have P w K mg base x k ps sp) (e : ∀ vs H Q E, sp' vs H Q E → sp vs H Q E) : Have P w K mg base x k ps sp' :=
  let ⟨f, fd, F, r⟩ := h; ⟨f, fd, F.imp e, r⟩
section
variable {X : Cx} {x : Str} {k : Nat} {ps : List Str} {sp : Sp} {e : Expr} {es : List Expr} {t : TA} {p pos : Pos}
theorem pe_fn (G : Have X.prog X.w X.K X.mg X.base x k ps sp) (hr : Room k X.A) (hg : Gl X x) (ha : PA X (e :: es) t) (hdb : (x == ("__debug__" : Str)) = false := by decide)
    (he : starEach (e :: es) X.env = (false, eval e X.env) :: starEach es X.env := by rfl) (hpl : (backTo pos (starEach es X.env)).any (·.1) = false := by rfl) :
    PE X (.Call (.Name x p) (e :: es) [] pos) (tCall sp [] E0 t) := by
  obtain ⟨f, fd, F, b, kp, m⟩ := G
  exact pe_call F hr hg m kp b .nil pass0 ha hdb he hpl
end

section
variable {X : Cx}
/-- // by a positive divisor of some thousand bits -/
def CDivB (i j : Int) : Prop := 0 < j ∧ j.natAbs.log2 < 9000
theorem op_fdivB : OpR X (binaryOp .FloorDiv) (rI CDivB fun i j => .int (i / j)) := opI fun i j _ _ _ _ _ hc q => by
  have h1 : (0 : Int) < j := hc.1
  exact floordiv_int (by omega) (by rw [Int.fdiv_eq_ediv_of_nonneg i (by omega)]; exact q) (.inl (PyProof.noPylong_of_log2 hc.2))

/-! ### isinstance by a built-in class -/
def isiNames : List String := ["NoneType", "bool", "int", "str", "list", "tuple", "dict"]
def isi (A T : String) : Option Bool := if isiNames.contains A && isiNames.contains T then some (A == T || (A == "bool" && T == "int")) else none
theorem isi_mem {A : String} (h : isiNames.contains A = true) : A = "NoneType" ∨ A = "bool" ∨ A = "int" ∨ A = "str" ∨ A = "list" ∨ A = "tuple" ∨ A = "dict" := by
  have : A ∈ isiNames := by simpa using h
  simpa [isiNames] using this
theorem isi_ok {K : PySem.W.Frag} {A T : String} {b : Bool} (h : isi A T = some b) : PySem.W.kitOne K (.type A) (.type T) = some b := by
  unfold isi at h
  split at h
  · rename_i c
    rw [Bool.and_eq_true] at c
    cases h
    rcases isi_mem c.1 with rfl | rfl | rfl | rfl | rfl | rfl | rfl <;> rcases isi_mem c.2 with rfl | rfl | rfl | rfl | rfl | rfl | rfl <;> kernel_rfl
  · cases h
theorem call_isi : CallR X (.builtin "isinstance") (fun xs H Q => ∃ v T A b, xs = [v, .ty T] ∧ TyOf X.K H v (.type A) ∧ isi A T = some b ∧ Q (.bl b) H) := by
  intro pins s σ H xs us Q I r h
  obtain ⟨v, T, A, b, rfl, ty, e, q⟩ := h
  obtain ⟨u, c, rfl, ru, rc⟩ := vals2 r
  cases (show c = Value.type T from rc)
  exact isinst_ok I ru ty (isi_ok e) fun tk => ⟨.bl b, H, I.tok tk, rfl, q⟩

/-! ### sum, all, max of a list -/
theorem call_sum_ints (hc : X.calm = true) : CallR X (.builtin "sum") (fun xs H Q => ∃ (p : Addr) (ns : List Int), xs = [.ref p] ∧ SqL X.K H p (ns.map V.int) ∧ Q (.int ns.sum) H) := by
  intro pins s σ H xs us Q I r h
  obtain ⟨p, ns, rfl, hq, q⟩ := h
  obtain ⟨u, rfl, rx⟩ := vals1 r
  cases rx
  obtain ⟨its, r', pl, hz⟩ := I.list hq
  have hi := intsAre_of r'
  obtain ⟨xs, e⟩ := hi.allInts.items
  have hl := pl.isList
  rw [e] at hl
  refine sum_intListG (I.ok.hd hc) hl fun h' tk t' hk => ⟨.int ns.sum, H, I.kept (h' := h') (t' := tk) hk, ⟨t', ?_⟩, q⟩
  have e2 := nums_intItems xs
  rw [← e] at e2
  have e3 : numsOf its = ns := hi.numsOf
  rw [preSum_eq, List.take_of_length_le (by simp)]
  congr 1
  rw [← e3]
  first | exact congrArg List.sum e2.symm | exact congrArg List.sum e2
/-! ### str of a text -/
end

/-! ### max(xs, default=d) -/
def maxL : Int → List Int → Int
  | b, [] => b
  | b, y :: r => maxL (if y > b then y else b) r
def maxD (d : Int) : List Int → Int
  | [] => d
  | x :: r => maxL x r
theorem args_maxD (a d : Value) : argsOk "max" ⟨[a], [(Str.ofString "default", d)]⟩ := by unfold argsOk; kernel_rfl
section
variable {prog : Program} {w : World} {A : Around} {R : Result → Shared → Prop} {I l : Addr} {vs : List Value} {ns : List Int} {d : Value}
theorem maxD_loop (hh : A.handled = none) (hI : l ≠ I) (hv : IntsAre vs ns) (S : Addr) (hSI : S ≠ I) (hSl : S ≠ l) : ∀ (k j : Nat) (s : Shared) (b : Int) (tb : Tok) (c : Nat), ns.length - j = k → j ≤ ns.length →
    (s.heap.IsListIter I l j ∧ s.heap.IsList l vs.toArray) → s.heap.get? S = some { cls := .type "list", dict := none, data := .seq #[.int b tb, .int b tb] c, slots := #[] } →
    (∀ t h' tk, (∀ b o, b ≠ I → b ≠ S → s.heap.get? b = some o → h'.get? b = some o) → R (.ok (.ret (.int (maxL b (ns.drop j)) t))) { s with heap := h', toks := tk }) →
    codeAny (model prog w) A (.builtin "max.loop" ⟨[.ref I, .none, .ref S], [(Str.ofString "default", d)]⟩) R s := by
  have W := Walks.list (prog := prog) (w := w) (A := A.in1) hh I l hI vs.toArray
  have hname : (toString "max" ++ toString ".loop" : String) = "max.loop" := by decide
  have hlen : vs.toArray.size = ns.length := by rw [List.size_toArray]; exact hv.length
  have hSw : S ∉ [I] := by simpa using hSI
  intro k
  induction k with
  | zero =>
    intro j s b tb c hk hj hst hS hR
    have hin : j = vs.toArray.size := by omega
    refine codeAny_builtin F.entry_max_loop ?_
    rw [Around.under_plainId F.plain_max_loop _]
    show wpAny _ A.in1 (seqItems? (.ref S) >>= _) _ _ s
    refine wpAny_bind (wpAny_seqItems hS rfl ?_)
    show wpAny _ A.in1 (tryCatch (pyNext (.ref I)) _ >>= _) _ _ s
    refine wpAny_bind (wpAny_tryCatch (W.done s _ _ (hin ▸ hst) fun h' tk hk' => ?_))
    have hS' := hk' S _ hSw hS
    show wpAny _ A.in1 (updateSeq S (fun _ => #[]) >>= _) _ _ _
    refine wpAny_bind ?_
    refine wpAny_updateSeq hS' rfl (wpAny_bind (wpAny_letGo (wpAny_pure ?_)))
    have := hR tb (h'.update S (Obj.mapSeq fun _ => #[])) tk fun b o hb hbS e => (Heap.get?_update_other _ _ (Ne.symm hbS)).trans (hk' b o (by simpa using hb) e)
    rw [List.drop_eq_nil_of_le (by omega)] at this
    exact this
  | succ k ih =>
    intro j s b tb c hk hj hst hS hR
    have hlt : j < vs.toArray.size := by omega
    have hjn : j < ns.length := by omega
    refine codeAny_builtin F.entry_max_loop ?_
    rw [Around.under_plainId F.plain_max_loop _]
    show wpAny _ A.in1 (seqItems? (.ref S) >>= _) _ _ s
    refine wpAny_bind (wpAny_seqItems hS rfl ?_)
    show wpAny _ A.in1 (tryCatch (pyNext (.ref I)) _ >>= _) _ _ s
    refine wpAny_bind (wpAny_tryCatch (W.item j s _ _ hlt hst fun v h' tk hP hst' hk' => ?_))
    obtain ⟨t, rfl⟩ : ∃ t, v = .int ns[j] t := by
      have hP : vs.toArray[j]? = some v := hP
      obtain ⟨n, t, e, en⟩ := hv.at j v (by simpa using hP)
      refine ⟨t, ?_⟩
      rw [List.getElem?_eq_getElem hjn] at en
      cases en
      exact e
    have hS' := hk' S _ hSw hS
    show wpAny _ A.in1 (tryCatch (holding [_, _] (richCompare .Gt (.int ns[j] t) (.int b tb) >>= _)) _ >>= _) _ _ _
    refine wpAny_bind (wpAny_tryCatch (wpAny_holding (wpAny_bind (gt_int (show wpAny _ _ _ _ _ _ from ?_)))))
    refine wpAny_bind (wpAny_holding (wpAny_truthy_bool ?_))
    refine wpAny_bind (wpAny_letGo (wpAny_pure ?_))
    have hdrop : maxL b (ns.drop j) = maxL (if ns[j] > b then ns[j] else b) (ns.drop (j + 1)) := by
      rw [List.drop_eq_getElem_cons hjn]
      rfl
    rw [hdrop] at hR
    by_cases hb : ns[j] > b
    · rw [if_pos hb] at hR
      simp only [hb, decide_true, if_true]
      refine wpAny_bind ?_
      refine wpAny_updateSeq hS' rfl (wpAny_bind (wpAny_letGo ?_))
      rw [hname]
      refine wpAny_pure ⟨plainId_quiet F.plain_max_loop _, ih (j + 1) _ ns[j] t _ (by omega) hjn ⟨?_, ?_⟩ (Heap.get?_update_self _ hS' rfl) fun t' h'' tk'' hk'' => ?_⟩
      · exact hst'.1.at fun o e => (Heap.get?_update_other _ _ hSI).trans e
      · obtain ⟨o, ho, r⟩ := hst'.2
        exact ⟨o, (Heap.get?_update_other _ _ hSl).trans ho, r⟩
      · exact hR t' h'' tk'' fun b o hb' hbS e => hk'' b o hb' hbS ((Heap.get?_update_other _ _ (Ne.symm hbS)).trans (hk' b o (by simpa using hb') e))
    · rw [if_neg hb] at hR
      simp only [hb, decide_false, Bool.false_eq_true, if_false]
      refine wpAny_bind (wpAny_letGo ?_)
      rw [hname]
      refine wpAny_pure ⟨plainId_quiet F.plain_max_loop _, ih (j + 1) _ b tb c (by omega) hjn hst' hS' fun t' h'' tk'' hk'' => ?_⟩
      exact hR t' h'' tk'' fun b o hb' hbS e => hk'' b o hb' hbS (hk' b o (by simpa using hb') e)
end

theorem max_tree {prog : Program} {w : World} {A : Around} {E : Value → Shared → Prop} {s : Shared} {id : String} {b : Builtin} {args : List Value} {kw : List (Str × Value)} {Q : Value → Shared → Prop} (hk : builtinKind id = none) (hp : plainId id = true)
    (hb : entryFor table id = some b) (ha : argsOk id ⟨args, kw⟩)
    (hc : wpAny (model prog w) A.in1 (b ⟨args, kw⟩) (fun fin s' => match fin with
      | .done f => (match (Except.ok f : Result) with | .ok (.ret v) => Q v s' | .ok _ => False | .error e => E e s')
      | .again c' => c'.quiet = true ∧ codeAny (model prog w) A c' (fun r s' => match r with | .ok (.ret v) => Q v s' | .ok _ => False | .error e => E e s') s') E s) : wpAny (model prog w) A (call (.builtin id) args kw) Q E s := by
  refine wpAny_call (codeAny_call_builtin hp hb ?_)
  simp only [checkBuiltinCall, hk]
  cases hsig : Manifest.signature? id with
  | none => exact wpAny_pure hc
  | some sig =>
    have ha' : Bind.checkArgs id sig ⟨args, kw⟩ = pure () := by simpa only [argsOk, hsig] using ha
    simp only [ha']
    exact wpAny_pure hc
theorem maxD_call {prog : Program} {w : World} {A : Around} {E : Value → Shared → Prop} {s : Shared} {l : Addr} {vs : List Value} {ns : List Int} {d : Int} {td : Tok} {Q : Value → Shared → Prop} (hh : A.handled = none) (hl : s.heap.IsList l vs.toArray) (hv : IntsAre vs ns)
    (h : ∀ t h' tk, (∀ b o, s.heap.get? b = some o → h'.get? b = some o) → Q (.int (maxD d ns) t) { s with heap := h', toks := tk }) :
    wpAny (model prog w) A (call (.builtin "max") [.ref l] [(Str.ofString "default", .int d td)]) Q E s := by
  have hname : (toString "max" ++ toString ".loop" : String) = "max.loop" := by decide
  obtain ⟨ol, hol, _⟩ := id hl
  have hll : l < s.heap.objs.size := Heap.lt_size hol
  refine max_tree PySem.F.kind_max PySem.F.plain_max PySem.F.entry_max (args_maxD _ _) ?_
  show wpAny _ A.in1 (Builtin.Builtins.bindParams "max" ["key", "default"] 0 ⟨[], [(Str.ofString "default", .int d td)]⟩ >>= _) _ _ s
  refine wpAny_bind (wpAny_of_eq (show Builtin.Builtins.bindParams "max" ["key", "default"] 0 ⟨[], [(Str.ofString "default", .int d td)]⟩ = pure [none, some (.int d td)] from rfl) ?_)
  refine wpAny_bind (wpAny_pure ?_)
  refine wpAny_bind (wpAny_pyIter_list hl ?_)
  refine wpAny_bind (wpAny_newList ?_ (Nat.zero_le _))
  rw [hname]
  have hS : (s.heap.push { cls := .type "list_iterator", data := .fields #[.ref l, .int 0 0] }).objs.size = s.heap.objs.size + 1 := Heap.size_push ..
  refine wpAny_pure ⟨plainId_quiet PySem.F.plain_max_loop _, ?_⟩
  have hlI : l ≠ s.heap.objs.size := Nat.ne_of_lt hll
  generalize hSg : (s.heap.push { cls := .type "list_iterator", data := .fields #[.ref l, .int 0 0] }).objs.size = S
  have hSI : S ≠ s.heap.objs.size := by rw [← hSg, hS]; exact Nat.ne_of_gt (Nat.lt_succ_self _)
  have hSl : S ≠ l := by rw [← hSg, hS]; exact Nat.ne_of_gt (Nat.lt_succ_of_lt hll)
  have W := Walks.list (prog := prog) (w := w) (A := A.in1) hh s.heap.objs.size l hlI vs.toArray
  have hlen : vs.toArray.size = ns.length := by rw [List.size_toArray]; exact hv.length
  generalize hHg : (s.heap.push { cls := .type "list_iterator", data := .fields #[.ref l, .int 0 0] }).push { cls := .type "list", dict := none, data := .seq ([] : List Value).toArray } = H2
  have old : ∀ b o, s.heap.get? b = some o → H2.get? b = some o := fun b o e => by rw [← hHg]; exact Heap.get?_push_of_some _ (Heap.get?_push_of_some _ e)
  have gI : H2.get? s.heap.objs.size = some { cls := .type "list_iterator", data := .fields #[.ref l, .int 0 0] } := by rw [← hHg]; exact Heap.get?_push_of_some _ (Heap.get?_push_size _ rfl)
  have gS : H2.get? S = some { cls := .type "list", dict := none, data := .seq #[] 0, slots := #[] } := by rw [← hHg, ← hSg]; exact Heap.get?_push_size _ rfl
  have gl : H2.IsList l vs.toArray := by obtain ⟨o, e, r⟩ := hl; exact ⟨o, old _ _ e, r⟩
  have oldI : ∀ b o, s.heap.get? b = some o → b ≠ s.heap.objs.size ∧ b ≠ S := fun b o e => by
    have := Heap.lt_size e
    refine ⟨Nat.ne_of_lt this, ?_⟩
    rw [← hSg, hS]
    exact Nat.ne_of_lt (Nat.lt_succ_of_lt this)
  refine codeAny_builtin PySem.F.entry_max_loop ?_
  rw [Around.under_plainId PySem.F.plain_max_loop _]
  show wpAny _ A.in1 (seqItems? (.ref S) >>= _) _ _ _
  refine wpAny_bind (wpAny_seqItems gS rfl ?_)
  show wpAny _ A.in1 (tryCatch (pyNext (.ref s.heap.objs.size)) _ >>= _) _ _ _
  cases ns with
  | nil =>
    have h0 : vs.toArray.size = 0 := hlen
    have st0 : H2.IsListIter s.heap.objs.size l vs.toArray.size ∧ H2.IsList l vs.toArray := by rw [h0]; exact ⟨⟨_, gI, rfl, rfl⟩, gl⟩
    refine wpAny_bind (wpAny_tryCatch (W.done _ _ _ st0 fun h' tk hk' => ?_))
    refine wpAny_bind (wpAny_rule ?_)
    exact wpAny_pure (h td h' tk fun b o e => hk' b o (by simpa using (oldI b o e).1) (old b o e))
  | cons n r =>
    refine wpAny_bind (wpAny_tryCatch (W.item 0 _ _ _ (by rw [hlen]; exact Nat.succ_pos _) ⟨⟨_, gI, rfl, rfl⟩, gl⟩ fun v h' tk hP hst' hk' => ?_))
    obtain ⟨t, rfl⟩ : ∃ t, v = .int n t := by
      have hP : vs.toArray[0]? = some v := hP
      obtain ⟨n', t, e, en⟩ := hv.at 0 v (by simpa using hP)
      have : n = n' := by simpa using en
      subst this
      exact ⟨t, e⟩
    have hS' := hk' S _ (by simpa using hSI) gS
    show wpAny _ A.in1 (updateSeq S (fun _ => #[.int n t, .int n t]) >>= _) _ _ _
    refine wpAny_bind ?_
    refine wpAny_updateSeq hS' rfl ?_
    rw [hname]
    refine wpAny_pure ⟨plainId_quiet PySem.F.plain_max_loop _, maxD_loop hh hlI hv S hSI hSl _ 1 _ n t _ rfl (by simp) ⟨?_, ?_⟩ (Heap.get?_update_self _ hS' rfl) fun t' h'' tk'' hk'' => ?_⟩
    · exact hst'.1.at fun o e => (Heap.get?_update_other _ _ hSI).trans e
    · obtain ⟨o, ho, r⟩ := hst'.2
      exact ⟨o, (Heap.get?_update_other _ _ hSl).trans ho, r⟩
    · refine h t' h'' tk'' fun b o e => ?_
      have := oldI b o e
      exact hk'' b o this.1 this.2 ((Heap.get?_update_other _ _ (Ne.symm this.2)).trans (hk' b o (by simpa using this.1) (old b o e)))
def tMaxD (d : Int) (K : PySem.W.Frag) (te : TE) : TE := fun σ H Q => te σ H fun x H1 => ∃ (p : Addr) (ns : List Int), x = .ref p ∧ SqL K H1 p (ns.map V.int) ∧ Q (.int (maxD d ns)) H1
theorem pe_maxD {X : Cx} {e : Expr} {te : TE} {d : Int} {j : Nat} {p pos kp cp : Pos} (hc : X.calm = true) (hg : Gl X "max") (hm : X.mg "max" = none) (he : PE X e te)
    (hs : backTo pos (starEach [e] X.env) = [(false, eval e X.env)] := by rfl) :
    PE X (.Call (.Name "max" p) [e] [⟨some "default", .Constant (.int d) j cp, kp⟩] pos) (tMaxD d X.K te) := by
  intro pins s σ H Q I h
  refine wpAny_Call_Name_kw (ld_blt I hg hm boot_max ?_)
  refine callWith_kw (e := e) (rest := []) ?_ hs (by rw [hs]; rfl)
  rw [hs]
  refine Calls.spliced_cons (thn (he pins s σ H _ I h) fun u s1 ⟨x, H1, I1, r1, q1⟩ => ?_)
  refine Calls.spliced_nil ?_
  refine kws_cons (wpAny_Constant_int ?_)
  refine kws_nil ?_
  obtain ⟨l, ns, rfl, hq, q⟩ := q1
  cases r1
  have I2 := I1.tok (s1.toks + 1)
  obtain ⟨its, r', pl, hz⟩ := I2.list hq
  exact maxD_call (I.ok.hd hc) pl.isList (intsAre_of r') fun t h' tk hk => ⟨.int (maxD d ns), H1, I2.kept (h' := h') (t' := tk) hk, ⟨t, rfl⟩, q⟩
end L2

set_option Elab.async false
set_option linter.all false
set_option maxRecDepth 100000
set_option maxHeartbeats 4000000
namespace L2
open PySem PySem.Spec PyProof.Rows
/-! ### the signs of a text, walked -/
def Its (z : Str) : It := ⟨fun i _ => i < z.cps.size, fun i H x H' => H' = H ∧ ∃ c, z.cps[i]? = some c ∧ x = .str ⟨#[c]⟩, fun i _ => i = z.cps.size⟩
def iStr (te : TE) : TI := fun σ H R => te σ H fun x H1 => ∃ z, x = .str z ∧ R (Its z) H1
theorem pe_ty {X : Cx} {x : Str} {T : String} {pos : Pos} (hg : Gl X x) (hm : X.mg x = none) (hv : bootBuiltins x = some (.type T)) (hn : x ≠ "__name__" := by decide) (hd : (x == ("__debug__" : Str)) = false := by decide) : PE X (.Name x pos) (tC (.ty T)) := pe_bltn hg hm hv rfl hn hd
theorem Same.new {H : Hp} {p : Addr} {o : HO} (h : H p = none) : Same H (upd H p o) := fun b u q => by rw [upd_ne (ne_of_none q h)]; exact q
theorem take_snoc {α : Type} {xs : List α} {i : Nat} {x : α} (h : xs[i]? = some x) : xs.take (i + 1) = xs.take i ++ [x] := by
  rw [List.take_add_one, h]; rfl
theorem isi_tt : isi "tuple" "tuple" = some true := by decide +kernel
theorem isi_st : isi "str" "tuple" = some false := by decide +kernel
theorem isi_ii : isi "int" "int" = some true := by decide +kernel
theorem isi_ib : isi "int" "bool" = some false := by decide +kernel
theorem boot_tupleT : bootBuiltins (Str.ofString "tuple") = some (.type "tuple") := by kernel_rfl
theorem boot_intT : bootBuiltins (Str.ofString "int") = some (.type "int") := by kernel_rfl
theorem boot_boolT : bootBuiltins (Str.ofString "bool") = some (.type "bool") := by kernel_rfl
theorem boot_isi : bootBuiltins (Str.ofString "isinstance") = some (.builtin "isinstance") := by kernel_rfl
end L2

set_option Elab.async false
set_option linter.all false
set_option maxRecDepth 100000
namespace D
open PySem L2
def top (i : Nat) : Stmt := PySem.Challenge.pw_leastforge_k07_parts_and_variables.main.body.getD i (.Pass ⟨0, 0, 0, 0⟩)
abbrev s_has_parts : Stmt := top 3
abbrev s_binding_count : Stmt := top 4
abbrev s_variables_of : Stmt := top 5
abbrev s_parts_of : Stmt := top 6
abbrev s_many : Stmt := top 7
abbrev s_nesting : Stmt := top 8
abbrev s_unbound : Stmt := top 9
abbrev s_free_in : Stmt := top 10
abbrev sCell : Stmt := top 12
abbrev sBox : Stmt := top 13
abbrev sTake : Stmt := top 14
abbrev sText : Stmt := top 15
abbrev sNumber : Stmt := top 16
abbrev sWorth : Stmt := top 17
abbrev s_lvariable : Stmt := top 18
abbrev s_llit : Stmt := top 19
abbrev s_lnamed : Stmt := top 20
abbrev s_lword : Stmt := top 21
abbrev s_lparts_by : Stmt := top 22
abbrev s_lany : Stmt := top 23
abbrev s_lall : Stmt := top 24
abbrev s_lright_within : Stmt := top 25
abbrev s_lwhole : Stmt := top 26
abbrev s_lunbound : Stmt := top 27
abbrev sLaw : Stmt := top 28
end D

set_option Elab.async false
set_option linter.all false
set_option maxRecDepth 100000
set_option maxHeartbeats 4000000
namespace L2
open PySem PySem.Spec PyProof.Rows
theorem seqI {t u : TS} {D : Ends} {σ : St} {H : Hp} (Pv : St → Hp → Prop) (h2 : ∀ σ' H', Pv σ' H' → u D σ' H') (h1 : (∀ σ' H', Pv σ' H' → u D σ' H') → t { D with nx := u D } σ H) : tSeq t u D σ H := h1 h2
theorem pos (n : Nat) : (0 : Int) < (((n + 1 : Nat) : Int)) := by omega
end L2
namespace D
open PySem L2
/-! ### promises -/
def IsBox (H : Hp) (b : Addr) : Prop := ∃ a f m : Int, H b = some (.lst [.int a, .int f, .int m])
structure Step (b : Addr) (H H' : Hp) : Prop where
  box : IsBox H' b
  keep : ∀ c o, c ≠ b → H c = some o → H' c = some o
theorem Step.refl {b : Addr} {H : Hp} (h : IsBox H b) : Step b H H := ⟨h, fun _ _ _ e => e⟩
theorem Step.trans {b : Addr} {H H1 H2 : Hp} (x : Step b H H1) (y : Step b H1 H2) : Step b H H2 := ⟨y.box, fun c o hc e => y.keep c o hc (x.keep c o hc e)⟩
theorem Step.new {b p : Addr} {H : Hp} {o : HO} (h : IsBox H b) (hp : H p = none) : Step b H (upd H p o) := by
  obtain ⟨a, f, m, e⟩ := h
  exact ⟨⟨a, f, m, by rw [upd_ne (ne_of_none e hp)]; exact e⟩, fun c u _ e => by rw [upd_ne (ne_of_none e hp)]; exact e⟩
theorem Step.put {b : Addr} {H : Hp} (a f m : Int) : Step b H (upd H b (.lst [.int a, .int f, .int m])) := ⟨⟨a, f, m, upd_same⟩, fun c o hc e => by rw [upd_ne hc]; exact e⟩
theorem Step.keepN {b : Addr} {H H' : Hp} (x : Step b H H') {c : Addr} {o : HO} (hb : IsBox H b) (e : H c = some o) (ho : ∀ a f m : Int, o ≠ .lst [.int a, .int f, .int m]) : H' c = some o := by
  obtain ⟨a, f, m, e'⟩ := hb
  exact x.keep c o (ne_of e e' (ho a f m)) e
def spCell (K : PySem.W.Frag) : Sp := fun vs H Q _ => ∃ (a : Addr) (ns : List Int) (k : Int), vs = [.ref a, .int k] ∧ SqL K H a (ns.map V.int) ∧ 0 ≤ k ∧ ∀ i : Int, Q (.int i) H
def spBox (K : PySem.W.Frag) : Sp := fun vs H Q _ => ∃ (a : Addr) (ns : List Int) (k : Int), vs = [.ref a, .int k] ∧ SqL K H a (ns.map V.int) ∧ 0 ≤ k ∧ ∀ (x f m : Int) (p : Addr), H p = none → Q (.ref p) (upd H p (.lst [.int x, .int f, .int m]))
def spTake : Sp := fun vs H Q _ => ∃ (b : Addr) (n : Int), vs = [.ref b, .int n] ∧ IsBox H b ∧ 0 < n ∧ n < 10 ^ 61 ∧ ∀ (r : Int) (H' : Hp), 0 ≤ r → r < n → Step b H H' → Q (.int r) H'
def Signs (x : Str) : Prop := ∀ c ∈ x.cps.toList, 32 ≤ c ∧ c ≤ 126 ∧ c ≠ 34 ∧ c ≠ 37
def spText : Sp := fun vs H Q _ => ∃ (b : Addr) (n : Int), vs = [.ref b, .int n] ∧ IsBox H b ∧ 0 ≤ n ∧ n < 10000 ∧ ∀ (x : Str) (H' : Hp), (x.length : Int) ≤ n → Signs x → Step b H H' → Q (.str x) H'
def spNumber : Sp := fun vs H Q _ => ∃ b : Addr, vs = [.ref b] ∧ IsBox H b ∧ ∀ (i : Int) (H' : Hp), -(10 ^ 60) < i → i < 10 ^ 60 → Step b H H' → Q (.int i) H'
section
variable {P : Program} {w : World} {K : PySem.W.Frag} {mg : Str → Option Value} {base : Heap} {f : Addr} {fd : FuncData} {k : Nat}
theorem scCell : FnScope ["_law_script", "_law_k"] ["_law_script", "_law_k"] (defScope sCell) := ⟨rfl, rfl, rfl, by decide +kernel, rfl, by decide +kernel, by decide +kernel⟩
theorem ok_cell (F : Fun K "_law_cell" "_law_cell" sCell f fd) (m_len : mg "len" = none) : FnOk P w K mg base CX0 (k + 1) f fd ["_law_script", "_law_k"] (spCell K) := by
  refine F.ok scCell (fun vs H Q E h => ?_) (fun cdv A outer s H vs Q E hr h => ?_)
  · obtain ⟨a, ns, k, rfl, _⟩ := h
    rfl
  obtain ⟨a, ns, j, rfl, hS, h0, q⟩ := h
  refine ⟨_, (pss_cons (ps_if (pt_cmpR op_lt (pv 1) (pe_callB call_len rfl m_len PySem.boot_len (pa_cons (pv 0) pa_nil)) (nomark _)) (pss_one (ps_ret (pe_ix ix_list (pv 0) (pv 1) (fun _ _ => rfl)))) pss_nil)
    (pss_one (ps_ret (pe_op op_add (pe_op op_mul pe_int (pv 1)) pe_int)))), ?_⟩
  refine ⟨_, rfl, _, rfl, _, _, rfl, .inl ⟨_, hS, rfl⟩, _, _, rfl, rfl, _, rfl, ?_⟩
  refine ite2 (fun c => ?_) (fun c => ?_)
  · have c' : j < (((ns.map V.int).length : Nat) : Int) := of_decide_eq_true c
    rw [List.length_map] at c'
    have hj : j.toNat < ns.length := by omega
    have ej : j = ((j.toNat : Nat) : Int) := by omega
    have at1 : atI (ns.map V.int) ((j.toNat : Nat) : Int) = some (.int ns[j.toNat]) := atI_nat (by rw [List.getElem?_map, List.getElem?_eq_getElem hj]; rfl)
    rw [← ej] at at1
    exact ⟨_, rfl, _, rfl, a, _, j, .int ns[j.toNat], rfl, rfl, hS, at1, q _⟩
  · exact ⟨_, rfl, _, _, rfl, rfl, .inl ⟨by decide, by decide⟩, _, _, rfl, rfl, q _⟩
theorem scBox : FnScope ["_law_script", "_law_k", "_law_cell_here", "_law_number_here", "_law_mixed"] ["_law_script", "_law_k"] (defScope sBox) := ⟨rfl, rfl, rfl, by decide +kernel, rfl, by decide +kernel, by decide +kernel⟩
theorem ok_box (F : Fun K "_law_box" "_law_box" sBox f fd) (G_lcell : Have P w K mg base "_law_cell" k ["_law_script", "_law_k"] (spCell K)) : FnOk P w K mg base CX0 (k + 1) f fd ["_law_script", "_law_k"] (spBox K) := by
  refine F.ok scBox (fun vs H Q E h => ?_) (fun cdv A outer s H vs Q E hr h => ?_)
  · obtain ⟨a, ns, k, rfl, _⟩ := h
    rfl
  obtain ⟨a, ns, j, rfl, hS, h0, q⟩ := h
  refine ⟨_, (pss_cons (ps_set (i := 2) scBox.nd rfl (Or.inl rfl) (pe_fn G_lcell hr rfl (pa_cons (pv 0) (pa_cons (pv 1) pa_nil))))
    (pss_cons (ps_set (i := 3) scBox.nd rfl (Or.inl rfl) (pe_op op_mod (pe_op op_mul (pe_op op_add (pe_op op_mod (pv 2) pe_int) pe_int) pe_int) pe_int))
    (pss_cons (ps_set (i := 4) scBox.nd rfl (Or.inl rfl) (pe_op op_mod (pe_op op_add (pe_op op_mul (pv 3) (pe_op op_add (pe_op op_mod (pv 3) pe_int) pe_int)) (pe_op op_mul pe_int (pv 1))) pe_int))
    (pss_cons (ps_if (pt_cmpR op_eq (pe_op op_mod (pe_fn G_lcell hr rfl (pa_cons (pv 0) (pa_cons pe_int pa_nil))) pe_int) pe_int (nomark _)) (pss_one (ps_ret (pe_lst (pa_cons (pv 2) (pa_cons pe_int (pa_cons (pv 4) pa_nil)))))) pss_nil)
    (pss_one (ps_ret (pe_lst (pa_cons (pv 4) (pa_cons pe_int (pa_cons pe_int pa_nil)))))))))), ?_⟩
  refine ⟨_, rfl, _, rfl, a, ns, j, rfl, hS, h0, fun c => ?_⟩
  refine ⟨_, rfl, _, _, rfl, rfl, pos _, _, _, rfl, rfl, _, _, rfl, rfl, .inr ⟨by decide, by decide⟩, _, _, rfl, rfl, pos _, ?_⟩
  have b1 : 0 ≤ (c % 2147483629 + 11) * 69621 % 2147483629 := Int.emod_nonneg _ (by decide)
  have b2 : (c % 2147483629 + 11) * 69621 % 2147483629 < 2147483629 := Int.emod_lt_of_pos _ (by decide)
  refine ⟨_, rfl, _, rfl, _, _, rfl, rfl, pos _, _, _, rfl, rfl, _, _, rfl, rfl, .inl ⟨by omega, by omega⟩, _, rfl, _, _, rfl, rfl, .inl ⟨by decide, by decide⟩, _, _, rfl, rfl, _, _, rfl, rfl, pos _, ?_⟩
  refine ⟨_, rfl, a, ns, 0, rfl, hS, Int.le_refl 0, fun c0 => ?_⟩
  refine ⟨_, _, rfl, rfl, pos _, rfl, _, rfl, ?_⟩
  refine ite2 (fun e => ?_) (fun e => ?_)
  · exact ⟨_, rfl, _, rfl, (by show 3 ≤ sizeLine; decide), fun p hp => q _ _ _ p hp⟩
  · exact ⟨_, rfl, (by show 3 ≤ sizeLine; decide), fun p hp => q _ _ _ p hp⟩
theorem scTake : FnScope ["_law_box_here", "_law_wide", "_law_found"] ["_law_box_here", "_law_wide"] (defScope sTake) := ⟨rfl, rfl, rfl, by decide +kernel, rfl, by decide +kernel, by decide +kernel⟩
theorem log_lt {n : Int} (h0 : 0 < n) (h : n < 10 ^ 61) : n.natAbs.log2 < 9000 := by
  have h1 : n.natAbs < 2 ^ 210 := by
    have : (10 : Int) ^ 61 ≤ 2 ^ 210 := by decide
    omega
  have := (Nat.log2_lt (by omega)).mpr h1
  omega
theorem ok_take (F : Fun K "_law_take" "_law_take" sTake f fd) : FnOk P w K mg base CX0 (k + 1) f fd ["_law_box_here", "_law_wide"] spTake := by
  refine F.ok scTake (fun vs H Q E h => ?_) (fun cdv A outer s H vs Q E hr h => ?_)
  · obtain ⟨b, n, rfl, _⟩ := h
    rfl
  obtain ⟨b, n, rfl, ⟨a0, f0, m, hb⟩, hn, hn2, q⟩ := h
  refine ⟨_, (pss_cons (ps_if (pw_and (pt_cmpR op_eq (pe_ix ix_list (pv 0) pe_int (fun _ _ => rfl)) pe_int (nomark _)) (pw_and1 (pt_cmpR op_in_seq (pe_ix ix_list (pv 0) pe_int (fun _ _ => rfl)) (pe_tup (pa_cons pe_int (pa_cons (pe_un un_neg pe_int) pa_nil))) (by rfl)))).pt (pss_cons (ps_asg (pe_ix ix_list (pv 0) pe_int (fun _ _ => rfl)) (pg_sub (pv 0) pe_int set_list))
    (pss_one (ps_asg pe_int (pg_sub (pv 0) pe_int set_list)))) pss_nil)
    (pss_cons (ps_if (pt_cmpR op_eq (pe_ix ix_list (pv 0) pe_int (fun _ _ => rfl)) pe_int (nomark _)) (pss_cons (ps_set (i := 2) scTake.nd rfl (Or.inl rfl) (pe_op op_mod (pe_ix ix_list (pv 0) pe_int (fun _ _ => rfl)) (pv 1)))
    (pss_cons (ps_asg (pe_op op_fdivB (pe_ix ix_list (pv 0) pe_int (fun _ _ => rfl)) (pv 1)) (pg_sub (pv 0) pe_int set_list))
    (pss_one (ps_ret (pv 2))))) pss_nil)
    (pss_cons (ps_asg (pe_op op_mod (pe_op op_add (pe_op op_mul (pe_ix ix_list (pv 0) pe_int (fun _ _ => rfl)) pe_int) pe_int) pe_int) (pg_sub (pv 0) pe_int set_list))
    (pss_cons (ps_set (i := 2) scTake.nd rfl (Or.inl rfl) (pe_op op_mod (pe_op op_mul (pe_ix ix_list (pv 0) pe_int (fun _ _ => rfl)) (pe_op op_add (pe_op op_mod (pe_ix ix_list (pv 0) pe_int (fun _ _ => rfl)) pe_int) pe_int)) pe_int))
    (pss_cons (ps_if (pt_cmpR op_gt (pv 1) (pe_op op_pow pe_int pe_int) (nomark _)) (pss_one (ps_set (i := 2) scTake.nd rfl (Or.inl rfl) (pe_op op_add (pe_op op_pow (pv 2) pe_int) (pv 2)))) pss_nil)
    (pss_one (ps_ret (pe_op op_mod (pv 2) (pv 1))))))))), ?_⟩
  refine seqI (fun σ' H' => σ' = [some (.ref b), some (.int n), none] ∧ Step b H H') (fun σ' H1 h1 => ?_) (fun rest => ?_)
  · obtain ⟨rfl, st1⟩ := h1
    obtain ⟨a, f, m, hb1⟩ := st1.box
    refine ⟨_, rfl, b, _, 1, .int f, rfl, rfl, SqL.of hb1, rfl, rfl, _, rfl, ?_⟩
    refine ite2 (fun e => ?_) (fun e => ?_)
    · refine ⟨_, rfl, b, _, 0, .int a, rfl, rfl, SqL.of hb1, rfl, _, rfl, _, _, rfl, rfl, hn, ?_⟩
      refine ⟨_, rfl, b, _, 0, .int a, rfl, rfl, SqL.of hb1, rfl, _, rfl, _, _, rfl, rfl, ⟨hn, log_lt hn hn2⟩, _, rfl, b, _, 0, 0, rfl, rfl, hb1, rfl, ?_⟩
      exact ⟨_, rfl, q _ _ (Int.emod_nonneg _ (by omega)) (Int.emod_lt_of_pos _ hn) (st1.trans (Step.put _ _ _))⟩
    · refine ⟨_, rfl, b, _, 0, .int a, rfl, rfl, SqL.of hb1, rfl, _, _, rfl, rfl, .inr ⟨by decide, by decide⟩, _, _, rfl, rfl, _, _, rfl, rfl, pos _, _, rfl, b, _, 0, 0, rfl, rfl, hb1, rfl, ?_⟩
      refine ⟨_, rfl, b, _, 0, _, rfl, rfl, SqL.of upd_same, rfl, _, rfl, b, _, 0, _, rfl, rfl, SqL.of upd_same, rfl, _, _, rfl, rfl, pos _, _, _, rfl, rfl, _, _, rfl, rfl, .inr ⟨?_, ?_⟩, _, _, rfl, rfl, pos _, ?_⟩
      · have := Int.emod_nonneg ((a * 69621 + 104729) % 2147483587) (show (16807 : Int) ≠ 0 by decide)
        omega
      · have := Int.emod_lt_of_pos ((a * 69621 + 104729) % 2147483587) (show (0 : Int) < 16807 by decide)
        omega
      dsimp only [gName]
      refine seqI (t := tIfS _ _ _) (fun σ' H' => ∃ x : Int, σ' = [some (.ref b), some (.int n), some (.int x)] ∧ Step b H H') (fun σ' H1 h1 => ?_) (fun rest => ?_)
      · obtain ⟨x, rfl, st2⟩ := h1
        exact ⟨_, rfl, _, rfl, _, _, rfl, rfl, hn, q _ _ (Int.emod_nonneg _ (by omega)) (Int.emod_lt_of_pos _ hn) st2⟩
      · refine ⟨_, rfl, _, _, rfl, rfl, ⟨by decide, by decide, by decide⟩, _, _, rfl, rfl, _, rfl, ?_⟩
        refine ite2 (fun e => ?_) (fun e => ?_)
        · refine ⟨_, rfl, _, _, rfl, rfl, ⟨by decide, by decide, ?_⟩, _, rfl, _, _, rfl, rfl, rest _ _ ⟨_, rfl, st1.trans (Step.put _ _ _)⟩⟩
          have l1 := Int.emod_nonneg ((a * 69621 + 104729) % 2147483587 * ((a * 69621 + 104729) % 2147483587 % 16807 + 1)) (show (2147483579 : Int) ≠ 0 by decide)
          have l2 := Int.emod_lt_of_pos ((a * 69621 + 104729) % 2147483587 * ((a * 69621 + 104729) % 2147483587 % 16807 + 1)) (show (0 : Int) < 2147483579 by decide)
          omega
        · exact rest _ _ ⟨_, rfl, st1.trans (Step.put _ _ _)⟩
  · refine ⟨_, rfl, b, _, 1, .int f0, rfl, rfl, SqL.of hb, rfl, rfl, _, rfl, ?_⟩
    refine ite2 (fun e => ?_) (fun e => ?_)
    · refine ⟨_, rfl, b, _, 0, .int a0, rfl, rfl, SqL.of hb, rfl, _, rfl, (by show 2 ≤ sizeLine; decide), fun t ht => ?_⟩
      have hb2 : upd H t (.tup [.int 0, .int (-1)]) b = some (.lst [.int a0, .int f0, .int m]) := by rw [upd_ne (ne_of_none hb ht)]; exact hb
      refine ⟨t, _, rfl, .inr (SqT.of upd_same), rfl, rfl, _, rfl, ?_⟩
      refine ite2 (fun e => ?_) (fun e => ?_)
      · refine ⟨_, rfl, b, _, 2, .int m, rfl, rfl, SqL.of hb2, rfl, _, rfl, b, _, 0, 0, rfl, rfl, hb2, rfl, ?_⟩
        refine ⟨_, rfl, b, _, 1, 1, rfl, rfl, upd_same, rfl, ?_⟩
        exact rest _ _ ⟨rfl, ((Step.new ⟨_, _, _, hb⟩ ht).trans (Step.put _ _ _)).trans (Step.put _ _ _)⟩
      · exact rest _ _ ⟨rfl, Step.new ⟨_, _, _, hb⟩ ht⟩
    · refine iteF ?_
      exact rest _ _ ⟨rfl, Step.refl ⟨_, _, _, hb⟩⟩
end
end D

set_option Elab.async false
set_option linter.all false
set_option maxRecDepth 100000
set_option maxHeartbeats 4000000
namespace D
open PySem L2
/-! ### worths -/
inductive W where
  | num (i : Int)
  | txt (x : Str)
  | lst (ws : List W)
mutual
def W.size : W → Int
  | .num _ => 1
  | .txt x => 1 + (x.length : Int)
  | .lst ws => 1 + sizes ws
def sizes : List W → Int
  | [] => 0
  | w :: r => w.size + sizes r
end
mutual
def W.depth : W → Nat
  | .num _ => 0
  | .txt _ => 0
  | .lst ws => 1 + depths ws
def depths : List W → Nat
  | [] => 0
  | w :: r => max w.depth (depths r)
end
mutual
def W.Ok : W → Prop
  | .num i => -(10 ^ 60) < i ∧ i < 10 ^ 60
  | .txt x => x.length ≤ 400 ∧ Signs x
  | .lst ws => ws.length ≤ 60 ∧ Oks ws
def Oks : List W → Prop
  | [] => True
  | w :: r => w.Ok ∧ Oks r
end
theorem sizes_snoc (ws : List W) (w : W) : sizes (ws ++ [w]) = sizes ws + w.size := by
  induction ws with
  | nil => simp [sizes]
  | cons x r ih => simp only [List.cons_append, sizes, ih]; omega
theorem depths_snoc (ws : List W) (w : W) : depths (ws ++ [w]) = max (depths ws) w.depth := by
  induction ws with
  | nil => simp [depths]
  | cons x r ih => simp only [List.cons_append, depths, ih]; omega
theorem Oks_snoc (ws : List W) (w : W) : Oks (ws ++ [w]) ↔ Oks ws ∧ w.Ok := by
  induction ws with
  | nil => simp [Oks]
  | cons x r ih => simp only [List.cons_append, Oks, ih, and_assoc]
theorem depths_mem {ws : List W} : ∀ w ∈ ws, w.depth ≤ depths ws := by
  induction ws with
  | nil => intro w hw; cases hw
  | cons x r ih =>
    intro w hw
    simp only [depths]
    rcases List.mem_cons.mp hw with rfl | hw
    · omega
    · have := ih w hw
      omega
/-- v stands for w -/
inductive RW (H : Hp) : V → W → Prop where
  | num (i : Int) : RW H (.int i) (.num i)
  | txt (x : Str) : RW H (.str x) (.txt x)
  | lst {a : Addr} {vs : List V} {ws : List W} : H a = some (.tup vs) → vs.length = ws.length → (∀ (i : Nat) (v : V) (w : W), vs[i]? = some v → ws[i]? = some w → RW H v w) → RW H (.ref a) (.lst ws)
structure RWs (H : Hp) (vs : List V) (ws : List W) : Prop where
  len : vs.length = ws.length
  at' : ∀ (i : Nat) (v : V) (w : W), vs[i]? = some v → ws[i]? = some w → RW H v w
def Tups (H H' : Hp) : Prop := ∀ a vs, H a = some (.tup vs) → H' a = some (.tup vs)
theorem RW.mono {H H' : Hp} (t : Tups H H') {v : V} {w : W} (h : RW H v w) : RW H' v w := by
  induction h with
  | num i => exact .num i
  | txt x => exact .txt x
  | lst e l _ ih => exact .lst (t _ _ e) l ih
theorem RWs.mono {H H' : Hp} (t : Tups H H') {vs : List V} {ws : List W} (h : RWs H vs ws) : RWs H' vs ws := ⟨h.len, fun i v w a b => (h.at' i v w a b).mono t⟩
theorem RWs.snoc {H : Hp} {vs : List V} {ws : List W} {v : V} {w : W} (h : RWs H vs ws) (x : RW H v w) : RWs H (vs ++ [v]) (ws ++ [w]) := by
  refine ⟨by rw [List.length_append, List.length_append, h.len]; rfl, fun i v' w' a b => ?_⟩
  by_cases hi : i < vs.length
  · rw [List.getElem?_append_left hi] at a
    rw [List.getElem?_append_left (h.len ▸ hi)] at b
    exact h.at' i v' w' a b
  · rw [List.getElem?_append_right (by omega)] at a
    rw [List.getElem?_append_right (by have := h.len; omega)] at b
    have hi0 : i - vs.length = 0 := by
      have := (List.getElem?_eq_some_iff.mp a).1
      simp at this
      omega
    have hi1 : i - ws.length = 0 := by have := h.len; omega
    rw [hi0] at a
    rw [hi1] at b
    have e1 : v = v' := by simpa using a
    have e2 : w = w' := by simpa using b
    rw [← e1, ← e2]
    exact x
theorem Step.tups {b : Addr} {H H' : Hp} (x : Step b H H') (hb : IsBox H b) : Tups H H' := fun a vs e => x.keepN hb e (fun _ _ _ z => nomatch z)
theorem tups_new {H : Hp} {p : Addr} {o : HO} (h : H p = none) : Tups H (upd H p o) := fun a vs e => by rw [upd_ne (ne_of_none e h)]; exact e
theorem tups_put {H : Hp} {p : Addr} {xs : List V} {o : HO} (h : H p = some (.lst xs)) : Tups H (upd H p o) := fun a vs e => by rw [upd_ne (ne_of e h (fun z => nomatch z))]; exact e
/-! ### texts and numbers drawn -/
def signsA : Str := Str.ofString " !#$&'()*+,-./0123456789:;<=>?@ABCDEFGHIJKLMNOPQRSTUVWXYZ"
def signsB : Str := Str.ofString "[\\]^_`abcdefghijklmnopqrstuvwxyz{|}~"
theorem signs_len : (signsA ++ signsB).length = 93 := by decide +kernel
theorem signs_all : ∀ c ∈ (signsA ++ signsB).cps.toList, 32 ≤ c ∧ c ≤ 126 ∧ c ≠ 34 ∧ c ≠ 37 := by decide +kernel
theorem str_len (x : Str) : x.cps.toList.length = x.length := by simp [Str.length]
theorem str_app (x y : Str) : (x ++ y).cps.toList = x.cps.toList ++ y.cps.toList := by
  show (x.cps ++ y.cps).toList = _
  simp
theorem str_app_len (x y : Str) : (x ++ y).length = x.length + y.length := by
  rw [← str_len, str_app, List.length_append, str_len, str_len]
mutual
theorem size_pos : ∀ w : W, 1 ≤ w.size
  | .num _ => by simp [W.size]
  | .txt x => by simp only [W.size]; omega
  | .lst ws => by have := sizes_nn ws; simp only [W.size]; omega
theorem sizes_nn : ∀ ws : List W, 0 ≤ sizes ws
  | [] => by simp [sizes]
  | w :: r => by have h1 := size_pos w; have h2 := sizes_nn r; simp only [sizes]; omega
end
section
variable {P : Program} {w : World} {K : PySem.W.Frag} {mg : Str → Option Value} {base : Heap} {f : Addr} {fd : FuncData} {k : Nat}
theorem scText : FnScope ["_law_box_here", "_law_most", "_law_signs", "_law_found", "_law_k"] ["_law_box_here", "_law_most"] (defScope sText) := ⟨rfl, rfl, rfl, by decide +kernel, rfl, by decide +kernel, by decide +kernel⟩
theorem small {n : Nat} (h : n ≤ 1000000) : n ≤ sizeLine := Nat.le_trans h (by decide)
theorem ok_text (F : Fun K "_law_text" "_law_text" sText f fd) (G_ltake : Have P w K mg base "_law_take" k ["_law_box_here", "_law_wide"] spTake) (m_len : mg "len" = none) (m_range : mg "range" = none) :
    FnOk P w K mg base CX0 (k + 1) f fd ["_law_box_here", "_law_most"] spText := by
  refine F.ok scText (fun vs H Q E h => ?_) (fun cdv A outer s H vs Q E hr h => ?_)
  · obtain ⟨b, n, rfl, _⟩ := h
    rfl
  obtain ⟨b, n, rfl, hb, hn, hn2, q⟩ := h
  refine ⟨_, (pss_cons (ps_set (i := 2) scText.nd rfl (Or.inl rfl) pe_str)
    (pss_cons (ps_set (i := 2) scText.nd rfl (Or.inl rfl) (pe_op op_add_str (pv 2) pe_str))
    (pss_cons (ps_set (i := 3) scText.nd rfl (Or.inl rfl) pe_str)
    (pss_cons (ps_for PassesOwn.never rfl (pi_range1 rfl m_range (pa_cons (pe_fn G_ltake hr rfl (pa_cons (pv 0) (pa_cons (pe_op op_add (pv 1) pe_int) pa_nil))) pa_nil)) (pg_name (i := 4) scText.nd rfl (Or.inl rfl)) (pss_one (ps_set (i := 3) scText.nd rfl (Or.inl rfl) (pe_op op_add_str (pv 3) (pe_ix ix_str (pv 2) (pe_fn G_ltake hr rfl (pa_cons (pv 0) (pa_cons (pe_callB call_len rfl m_len PySem.boot_len (pa_cons (pv 2) pa_nil)) pa_nil))) (fun _ _ => rfl))))))
    (pss_one (ps_ret (pv 3))))))), ?_⟩
  refine ⟨_, rfl, signsA, signsB, rfl, rfl, small (by decide +kernel), ?_⟩
  refine ⟨_, rfl, _, rfl, _, _, rfl, rfl, b, n + 1, rfl, hb, by omega, by omega, fun r H1 h0 h1 st => ?_⟩
  refine ⟨r, rfl, by omega, by omega, for_range (n := r.toNat) (fun i σ' H' => ∃ (x : Str) (o : Option V), σ' = [some (.ref b), some (.int n), some (.str (signsA ++ signsB)), some (.str x), o] ∧ x.length = i ∧ Signs x ∧ Step b H H')
    ⟨Str.ofString "", none, rfl, rfl, ?_, st⟩ (fun i σ' H' hi h => ?_) (fun σ' H' h => ?_)⟩
  · intro c hc
    have e0 : (Str.ofString "").cps.toList = [] := by decide +kernel
    rw [e0] at hc
    cases hc
  · obtain ⟨x, o, rfl, hx, sx, st1⟩ := h
    refine ⟨_, rfl, _, rfl, _, rfl, _, rfl, _, _, rfl, ⟨small (by rw [signs_len]; decide), rfl⟩, b, _, rfl, st1.box, by rw [signs_len]; decide, by rw [signs_len]; decide, fun r2 H2 r0 r1 st2 => ?_⟩
    rw [signs_len] at r1
    have hr2 : r2.toNat < (signsA ++ signsB).cps.toList.length := by rw [str_len, signs_len]; omega
    have er2 : r2 = ((r2.toNat : Nat) : Int) := by omega
    have a1 : atI (signsA ++ signsB).cps.toList ((r2.toNat : Nat) : Int) = some (signsA ++ signsB).cps.toList[r2.toNat] := atI_nat (List.getElem?_eq_getElem hr2)
    rw [← er2] at a1
    refine ⟨_, r2, _, rfl, rfl, small (by rw [signs_len]; decide), a1, x, _, rfl, rfl, small ?_, ?_⟩
    · have : (Str.mk #[(signsA ++ signsB).cps.toList[r2.toNat]]).length = 1 := rfl
      rw [this]
      omega
    · refine ⟨_, _, rfl, ?_, ?_, st1.trans st2⟩
      · rw [str_app_len, hx]
        rfl
      · intro c hc
        rw [str_app] at hc
        rcases List.mem_append.mp hc with hc | hc
        · exact sx c hc
        · have : c = (signsA ++ signsB).cps.toList[r2.toNat] := by simpa using hc
          rw [this]
          exact signs_all _ (List.getElem_mem _)
  · obtain ⟨x, o, rfl, hx, sx, st1⟩ := h
    exact ⟨_, rfl, q x H' (by omega) sx st1⟩
theorem scNumber : FnScope ["_law_box_here", "_law_kind"] ["_law_box_here"] (defScope sNumber) := ⟨rfl, rfl, rfl, by decide +kernel, rfl, by decide +kernel, by decide +kernel⟩
theorem ok_number (F : Fun K "_law_number" "_law_number" sNumber f fd) (G_ltake : Have P w K mg base "_law_take" k ["_law_box_here", "_law_wide"] spTake) :
    FnOk P w K mg base CX0 (k + 1) f fd ["_law_box_here"] spNumber := by
  refine F.ok scNumber (fun vs H Q E h => ?_) (fun cdv A outer s H vs Q E hr h => ?_)
  · obtain ⟨b, rfl, _⟩ := h
    rfl
  obtain ⟨b, rfl, hb, q⟩ := h
  refine ⟨_, (pss_cons (ps_set (i := 1) scNumber.nd rfl (Or.inl rfl) (pe_fn G_ltake hr rfl (pa_cons (pv 0) (pa_cons pe_int pa_nil))))
    (pss_cons (ps_if (pt_cmpR op_eq (pv 1) pe_int (nomark _)) (pss_one (ps_ret (pe_op op_add (pe_op op_sub (pe_fn G_ltake hr rfl (pa_cons (pv 0) (pa_cons (pe_op op_sub (pe_op op_mul pe_int (pe_op op_pow pe_int pe_int)) pe_int) pa_nil))) (pe_op op_pow pe_int pe_int)) pe_int))) pss_nil)
    (pss_cons (ps_if (pt_cmpR op_eq (pv 1) pe_int (nomark _)) (pss_one (ps_ret (pe_ix ix_list (pe_lst (pa_cons (pe_op op_sub (pe_op op_pow pe_int pe_int) pe_int) (pa_cons (pe_op op_sub pe_int (pe_op op_pow pe_int pe_int)) (pa_cons pe_int (pa_cons (pe_un un_neg pe_int) pa_nil))))) (pe_fn G_ltake hr rfl (pa_cons (pv 0) (pa_cons pe_int pa_nil))) (fun _ _ => rfl)))) pss_nil)
    (pss_one (ps_ret (pe_op op_sub (pe_fn G_ltake hr rfl (pa_cons (pv 0) (pa_cons pe_int pa_nil))) pe_int)))))), ?_⟩
  refine ⟨_, rfl, b, 4, rfl, hb, by decide, by decide, fun r H1 h0 h1 st => ?_⟩
  refine ⟨_, rfl, rfl, _, rfl, ?_⟩
  refine ite2 (fun e => ?_) (fun e => ?_)
  · refine ⟨_, rfl, _, _, rfl, rfl, ⟨by decide, by decide, by decide⟩, _, _, rfl, rfl, .inl ⟨by decide, by decide⟩, _, _, rfl, rfl, b, _, rfl, st.box, by decide, by decide, fun r2 H2 r0 r1 st2 => ?_⟩
    refine ⟨_, _, rfl, rfl, ⟨by decide, by decide, by decide⟩, _, _, rfl, rfl, _, _, rfl, rfl, q _ _ ?_ ?_ (st.trans st2)⟩
    · have : (10 : Int) ^ (60 : Int).toNat = 10 ^ 60 := rfl
      omega
    · have : (10 : Int) ^ (60 : Int).toNat = 10 ^ 60 := rfl
      have r1 : r2 < 2 * 10 ^ 60 - 1 := r1
      omega
  · refine ⟨_, rfl, rfl, _, rfl, ?_⟩
    refine ite2 (fun e => ?_) (fun e => ?_)
    · refine ⟨_, _, rfl, rfl, ⟨by decide, by decide, by decide⟩, _, _, rfl, rfl, _, _, rfl, rfl, ⟨by decide, by decide, by decide⟩, _, _, rfl, rfl, _, rfl, (by show 4 ≤ sizeLine; decide), fun p hp => ?_⟩
      have st1 := st.trans (Step.new (o := .lst [.int (10 ^ 60 - 1), .int (1 - 10 ^ 60), .int 0, .int (-1)]) st.box hp)
      refine ⟨_, rfl, b, 4, rfl, st1.box, by decide, by decide, fun r2 H2 r0 r1 st2 => ?_⟩
      have hp2 : H2 p = some (.lst [.int (10 ^ 60 - 1), .int (1 - 10 ^ 60), .int 0, .int (-1)]) := by
        obtain ⟨a', f', m', e'⟩ := st.box
        exact st2.keep p _ (ne_of_none e' hp).symm upd_same
      have hcases : r2 = 0 ∨ r2 = 1 ∨ r2 = 2 ∨ r2 = 3 := by omega
      rcases hcases with rfl | rfl | rfl | rfl
      · exact ⟨p, _, 0, _, rfl, rfl, SqL.of hp2, rfl, q _ _ (by decide) (by decide) (st1.trans st2)⟩
      · exact ⟨p, _, 1, _, rfl, rfl, SqL.of hp2, rfl, q _ _ (by decide) (by decide) (st1.trans st2)⟩
      · exact ⟨p, _, 2, _, rfl, rfl, SqL.of hp2, rfl, q _ _ (by decide) (by decide) (st1.trans st2)⟩
      · exact ⟨p, _, 3, _, rfl, rfl, SqL.of hp2, rfl, q _ _ (by decide) (by decide) (st1.trans st2)⟩
    · refine ⟨_, rfl, b, 12, rfl, st.box, by decide, by decide, fun r2 H2 r0 r1 st2 => ?_⟩
      exact ⟨_, _, rfl, rfl, q _ _ (by have : (3 : Int) < 10 ^ 60 := by decide
                                       omega) (by have : (12 : Int) < 10 ^ 60 := by decide
                                                  omega) (st.trans st2)⟩
/-! ### a worth drawn -/
def spWorth (n : Nat) : Sp := fun vs H Q _ => ∃ (b : Addr) (room deep : Int), vs = [.ref b, .int room, .int deep] ∧ IsBox H b ∧ 1 ≤ room ∧ room < 1000 ∧ 0 ≤ deep ∧ deep < n ∧
  ∀ (v : V) (x : W) (H' : Hp), RW H' v x → x.Ok → (x.depth : Int) ≤ deep → x.size ≤ 16 * room → Step b H H' → Q v H'
theorem scWorth : FnScope ["_law_box_here", "_law_room", "_law_deep", "_law_kind", "_law_wide", "_law_left", "_law_found", "_law_k", "_law_share"] ["_law_box_here", "_law_room", "_law_deep"] (defScope sWorth) := ⟨rfl, rfl, rfl, by decide +kernel, rfl, by decide +kernel, by decide +kernel⟩
theorem ok_worth {n : Nat} (F : Fun K "_law_worth" "_law_worth" sWorth f fd) (G_ltake : Have P w K mg base "_law_take" k ["_law_box_here", "_law_wide"] spTake) (G_ltext : Have P w K mg base "_law_text" k ["_law_box_here", "_law_most"] spText)
    (G_lnumber : Have P w K mg base "_law_number" k ["_law_box_here"] spNumber) (G_lworth : Have P w K mg base "_law_worth" k ["_law_box_here", "_law_room", "_law_deep"] (spWorth n))
    (m_min : mg "min" = none) (m_range : mg "range" = none) (m_tuple : mg "tuple" = none) : FnOk P w K mg base CX0 (k + 1) f fd ["_law_box_here", "_law_room", "_law_deep"] (spWorth (n + 1)) := by
  refine F.ok scWorth (fun vs H Q E h => ?_) (fun cdv A outer s H vs Q E hr h => ?_)
  · obtain ⟨b, room, deep, rfl, _⟩ := h
    rfl
  obtain ⟨b, room, deep, rfl, hb, hr1, hr2, hd0, hd1, q⟩ := h
  refine ⟨_, (pss_cons (ps_set (i := 3) scWorth.nd rfl (Or.inl rfl) (pe_fn G_ltake hr rfl (pa_cons (pv 0) (pa_cons pe_int pa_nil))))
    (pss_cons (ps_if (pw_or (pt_cmpR op_eq (pv 3) pe_int (nomark _)) (pw_or1 (pw_and (pt_cmpR op_eq (pv 3) pe_int (nomark _)) (pw_and1 (pt_cmpR op_lt (pv 2) pe_int (nomark _)))).pt)).pt (pss_one (ps_ret (pe_fn G_lnumber hr rfl (pa_cons (pv 0) pa_nil)))) pss_nil)
    (pss_cons (ps_if (pt_cmpR op_eq (pv 3) pe_int (nomark _)) (pss_one (ps_ret (pe_fn G_ltext hr rfl (pa_cons (pv 0) (pa_cons pe_int pa_nil))))) pss_nil)
    (pss_cons (ps_set (i := 4) scWorth.nd rfl (Or.inl rfl) (pe_fn G_ltake hr rfl (pa_cons (pv 0) (pa_cons (pe_callB (call_min2 rfl) rfl m_min PyProof.Rows.boot_min (pa_cons (pv 1) (pa_cons pe_int pa_nil))) pa_nil))))
    (pss_cons (ps_set (i := 5) scWorth.nd rfl (Or.inl rfl) (pe_op op_sub (pv 1) pe_int))
    (pss_cons (ps_set (i := 6) scWorth.nd rfl (Or.inl rfl) (pe_lst pa_nil))
    (pss_cons (ps_for PassesOwn.never rfl (pi_range1 rfl m_range (pa_cons (pv 4) pa_nil)) (pg_name (i := 7) scWorth.nd rfl (Or.inl rfl)) (pss_cons (ps_set (i := 8) scWorth.nd rfl (Or.inl rfl) (pe_op op_add pe_int (pe_fn G_ltake hr rfl (pa_cons (pv 0) (pa_cons (pe_op op_sub (pv 5) (pe_op op_sub (pe_op op_sub (pv 4) pe_int) (pv 7))) pa_nil)))))
    (pss_cons (ps_expr (pe_bm PySem.F.plainAttrs_list PySem.F.slot_list_append PySem.F.type_list_append mt_append (pv 6) (pa_cons (pe_fn G_lworth hr rfl (pa_cons (pv 0) (pa_cons (pv 8) (pa_cons (pe_op op_sub (pv 2) pe_int) pa_nil)))) pa_nil)))
    (pss_one (ps_set (i := 5) scWorth.nd rfl (Or.inl rfl) (pe_op op_sub (pv 5) (pv 8)))))))
    (pss_one (ps_ret (pe_callTy call_tuple_of rfl m_tuple boot_tupleT (pa_cons (pv 6) pa_nil))))))))))), ?_⟩
  refine ⟨_, rfl, b, 3, rfl, hb, by decide, by decide, fun kd H1 k0 k1 st => ?_⟩
  dsimp only [gName]
  refine seqI (t := tIfS _ _ _) (fun σ' H' => σ' = [some (.ref b), some (.int room), some (.int deep), some (.int kd), none, none, none, none, none] ∧ Step b H H' ∧ (kd = 1 ∨ (kd = 2 ∧ 1 ≤ deep))) (fun σ' H2 h2 => ?_) (fun rest => ?_)
  · obtain ⟨rfl, st2, hk⟩ := h2
    refine ⟨_, rfl, rfl, _, rfl, ?_⟩
    refine ite2 (fun e => ?_) (fun e => ?_)
    · refine ⟨_, rfl, b, 15, rfl, st2.box, by decide, by decide, fun x H3 hx sx st3 => ?_⟩
      refine q _ _ _ (.txt x) ⟨by omega, sx⟩ (by show ((0 : Nat) : Int) ≤ deep; omega) ?_ (st2.trans st3)
      show 1 + (x.length : Int) ≤ 16 * room
      omega
    · have e' : ¬ V.int kd = V.int 1 := of_decide_eq_false (Bool.eq_false_iff.mpr e)
      have hk2 : kd = 2 ∧ 1 ≤ deep := by
        rcases hk with hk | hk
        · exact absurd (by rw [hk]) e'
        · exact hk
      refine ⟨_, rfl, _, rfl, room, 61, rfl, b, _, rfl, st2.box, ?_, ?_, fun wide H3 w0 w1 st3 => ?_⟩
      · split <;> omega
      · split <;> omega
      have w2 : wide < room ∧ wide < 61 := by
        revert w1
        split <;> intro w1 <;> omega
      refine ⟨_, rfl, _, _, rfl, rfl, (by show 0 ≤ sizeLine; decide), fun l hl => ?_⟩
      have st4 := (st2.trans st3).trans (Step.new (o := .lst []) st3.box hl)
      have lb : l ≠ b := by
        obtain ⟨a', f', m', e'⟩ := st3.box
        exact (ne_of_none e' hl).symm
      have hlH : H l = none := by
        cases e : H l with
        | none => rfl
        | some o =>
          have := (st2.trans st3).keep l o lb e
          rw [hl] at this
          cases this
      refine ⟨_, rfl, wide, rfl, by omega, by omega, for_range (n := wide.toNat) (fun i σ' H' => ∃ (left : Int) (vs : List V) (ws : List W) (o1 o2 : Option V),
          σ' = [some (.ref b), some (.int room), some (.int deep), some (.int kd), some (.int wide), some (.int left), some (.ref l), o1, o2] ∧ H' l = some (.lst vs) ∧ RWs H' vs ws ∧ ws.length = i ∧ Oks ws ∧ (depths ws : Int) ≤ deep - 1 ∧
          sizes ws ≤ 16 * (room - 1 - left) ∧ wide - i ≤ left ∧ Step b H H')
        ⟨room - 1, [], [], none, none, rfl, upd_same, ⟨rfl, fun i v w e => by simp at e⟩, rfl, trivial, by show ((0 : Nat) : Int) ≤ deep - 1; omega, by simp [sizes], by omega, st4⟩ (fun i σ' H' hi h => ?_) (fun σ' H' h => ?_)⟩
      · obtain ⟨left, vs, ws, o1, o2, rfl, hl', hrw, hlen, hok, hdp, hsz, hleft, st5⟩ := h
        have nn := sizes_nn ws
        refine ⟨_, rfl, _, rfl, _, rfl, _, _, rfl, rfl, _, rfl, _, _, rfl, rfl, _, _, rfl, rfl, b, _, rfl, st5.box, ?_, ?_, fun r H5 r0 r1 st6 => ?_⟩
        · omega
        · have : (2000 : Int) < 10 ^ 61 := by decide
          omega
        have hl5 : H5 l = some (.lst vs) := st6.keep l _ lb hl'
        refine ⟨_, _, rfl, rfl, _, rfl, .inl ⟨rfl, _, SqL.of hl5⟩, _, rfl, _, rfl, _, rfl, _, _, rfl, rfl, b, _, _, rfl, st6.box, ?_, ?_, ?_, ?_, fun v x H6 rx okx dx sx st7 => ?_⟩
        · omega
        · omega
        · omega
        · omega
        have hl6 : H6 l = some (.lst vs) := st7.keep l _ lb hl5
        have hlv : vs.length ≤ 61 := by have := hrw.len; omega
        refine ⟨l, vs, v, rfl, rfl, hl6, Nat.lt_of_le_of_lt hlv (by decide), ?_⟩
        refine ⟨_, rfl, _, rfl, _, _, rfl, rfl, ?_⟩
        have t6 : Tups H' H6 := fun a us e => (st7.tups st6.box) a us ((st6.tups st5.box) a us e)
        have t7 := tups_put (o := .lst (vs ++ [v])) hl6
        refine ⟨_, vs ++ [v], ws ++ [x], _, _, rfl, upd_same, ((hrw.mono t6).mono t7).snoc (rx.mono t7), ?_, (Oks_snoc _ _).mpr ⟨hok, okx⟩, ?_, ?_, ?_, ?_⟩
        · rw [List.length_append, hlen]; rfl
        · rw [depths_snoc]; omega
        · rw [sizes_snoc]; omega
        · omega
        · refine ⟨?_, fun c o hc e => ?_⟩
          · obtain ⟨a', f', m', e'⟩ := st7.box
            exact ⟨a', f', m', by rw [upd_ne lb.symm]; exact e'⟩
          · rw [upd_ne (ne_of_none e hlH)]
            exact (st5.trans (st6.trans st7)).keep c o hc e
      · obtain ⟨left, vs, ws, o1, o2, rfl, hl', hrw, hlen, hok, hdp, hsz, hleft, st5⟩ := h
        refine ⟨_, rfl, l, vs, rfl, .inl ⟨SqL.of hl', fun t ht => ?_⟩⟩
        have t6 := tups_new (o := .tup vs) ht
        refine q _ (.lst ws) _ (.lst upd_same hrw.len fun i v x a b => (hrw.at' i v x a b).mono t6) ⟨by omega, hok⟩ ?_ ?_ (st5.trans (Step.new st5.box ht))
        · show ((1 + depths ws : Nat) : Int) ≤ deep
          omega
        · show 1 + sizes ws ≤ 16 * room
          omega
  · refine ⟨_, rfl, rfl, _, rfl, ?_⟩
    have fin : ∀ H2, Step b H H2 → spNumber [.ref b] H2 Q E0 := fun H2 st2 => ⟨b, rfl, st2.box, fun i H3 i0 i1 st3 => q _ (.num i) _ (.num i) ⟨i0, i1⟩ (by show ((0 : Nat) : Int) ≤ deep; omega) (by show (1 : Int) ≤ 16 * room; omega) (st2.trans st3)⟩
    refine ite2 (fun e => ?_) (fun e => ?_)
    · refine iteT ?_
      exact ⟨_, rfl, fin H1 st⟩
    · have e' : ¬ V.int kd = V.int 0 := of_decide_eq_false (Bool.eq_false_iff.mpr e)
      have kne : kd ≠ 0 := fun z => e' (by rw [z])
      refine ⟨_, rfl, rfl, _, rfl, ?_⟩
      refine ite2 (fun e2 => ?_) (fun e2 => ?_)
      · have e2' : V.int kd = V.int 2 := of_decide_eq_true e2
        have kd2 : kd = 2 := by injection e2'
        refine ⟨_, rfl, _, _, rfl, rfl, _, rfl, ?_⟩
        refine ite2 (fun e3 => ?_) (fun e3 => ?_)
        · exact ⟨_, rfl, fin H1 st⟩
        · have e3' : ¬ deep < 1 := of_decide_eq_false (Bool.eq_false_iff.mpr e3)
          exact rest _ _ ⟨rfl, st, .inr ⟨kd2, by omega⟩⟩
      · have e2' : ¬ V.int kd = V.int 2 := of_decide_eq_false (Bool.eq_false_iff.mpr e2)
        have kne2 : kd ≠ 2 := fun z => e2' (by rw [z])
        refine iteF ?_
        exact rest _ _ ⟨rfl, st, .inl (by omega)⟩
end
end D

set_option Elab.async false
set_option linter.all false
set_option maxRecDepth 100000
set_option maxHeartbeats 4000000
namespace L2
open PySem PySem.Spec PyProof.Rows PySem.Builtin
section
variable {prog : Program} {w : World} {A : Around} {E : Value → Shared → Prop} {s : Shared}
end
/-- t * k, t of one item or more, k above 1 -/
def rRepT (K : PySem.W.Frag) : R2 := fun x y H Q => ∃ (a : Addr) (k : Int) (xs : List V), x = .ref a ∧ y = .int k ∧ SqT K H a xs ∧ xs ≠ [] ∧ 1 < k ∧ k < 1000000 ∧ xs.length * k.toNat ≤ 1000000 ∧ ∀ p, H p = none → Q (.ref p) (upd H p (.tup (List.replicate k.toNat xs).flatten))
/-- () + t -/
theorem op_catT0 {X : Cx} : OpR X (binaryOp .Add) (fun x y H Q => ∃ (a b : Addr) (ys : List V), x = .ref a ∧ y = .ref b ∧ SqT X.K H a [] ∧ SqT X.K H b ys ∧ Q (.ref b) H) := by
  intro pins s σ H x y v u Q I rx ry h
  obtain ⟨a, b, ys, rfl, rfl, ha, hb, q⟩ := h
  cases rx
  cases ry
  obtain ⟨its, r1, p1, _⟩ := I.tuple ha
  obtain ⟨its2, r2, p2, _⟩ := I.tuple hb
  have e0 : its = [] := by cases r1; rfl
  subst e0
  obtain ⟨⟨cls, dd, data, sl⟩, ho, hc, n, hd⟩ := id p1
  obtain ⟨⟨cls2, dd2, data2, sl2⟩, ho2, hc2, n2, hd2⟩ := id p2
  simp only at hc hd hc2 hd2
  subst hc hd hc2 hd2
  exact concat_meets ⟨_, ho, rfl⟩ ⟨_, ho2, rfl⟩ noFill_tuple_add seq_tuple_add PySem.F.slot_tuple_add PySem.F.entry_tuple_add (PySem.F.args_tuple_add_2 _ _)
    (tuple_addW0 a b #[] its2.toArray n n2 dd dd2 sl sl2 rfl) ⟨ho, ho2, ⟨.ref b, H, I, rfl, q⟩⟩
end L2

set_option Elab.async false
set_option linter.all false
set_option maxRecDepth 100000
set_option maxHeartbeats 4000000
namespace L2
open PySem PySem.Spec PyProof.Rows
theorem strsAre_of {ys : List Str} : ∀ {us : List Value}, Vals (ys.map V.str) us → StrsAre us ys := by
  induction ys with
  | nil => intro us r; rw [List.map_nil] at r; cases r; exact .nil
  | cons n ns ih =>
    intro us r
    rw [List.map_cons] at r
    cases r with
    | cons r1 r2 =>
      obtain ⟨t, e⟩ := r1
      subst e
      exact .cons n t (ih r2)
theorem mt_join {X : Cx} : MtR X "str.join" (fun x xs H Q => ∃ (sep : Str) (p : Addr) (ys : List Str), x = .str sep ∧ xs = [.ref p] ∧ SqL X.K H p (ys.map V.str) ∧ (ys.map (·.length)).sum + ys.length * sep.length ≤ 16777216 ∧ Q (.str (Txt.join sep ys)) H) := by
  intro pins s σ H x xs v us Q I rx rv h
  obtain ⟨sep, p, ys, rfl, rfl, hq, hz, q⟩ := h
  obtain ⟨t, rfl⟩ := rx
  obtain ⟨u, rfl, ru⟩ := vals1 rv
  cases ru
  obtain ⟨its, r, pl, _⟩ := I.list hq
  exact PyProof.Rows.join_list pl.isList (by simpa using strsAre_of r) hz fun t' k => ⟨.str _, H, I.tok k, ⟨t', rfl⟩, q⟩
theorem join_signs (cs : List Nat) : Txt.join (Str.ofString "") (cs.map fun c => (⟨#[c]⟩ : Str)) = ⟨cs.toArray⟩ := by
  have e0 : (Str.ofString "").cps = #[] := by decide +kernel
  have fold : ∀ (r : List Nat) (acc : Array Nat), ((r.map fun c => (⟨#[c]⟩ : Str)).foldl (fun acc p => acc ++ (Str.ofString "").cps ++ p.cps) acc) = acc ++ r.toArray := fun r => by
    induction r with
    | nil => intro acc; simp
    | cons c r ih =>
      intro acc
      rw [List.map_cons, List.foldl_cons, ih, e0]
      simp
  cases cs with
  | nil => rfl
  | cons c r =>
    show (⟨(r.map fun c => (⟨#[c]⟩ : Str)).foldl (fun acc p => acc ++ (Str.ofString "").cps ++ p.cps) #[c]⟩ : Str) = _
    rw [fold]
    simp
end L2
namespace D
open PySem L2
/-! ### worths that are equal -/
mutual
def eqW : W → W → Bool
  | .num i, .num j => i == j
  | .txt x, .txt y => x == y
  | .lst ws, .lst zs => eqWs ws zs
  | .num _, .txt _ => false
  | .num _, .lst _ => false
  | .txt _, .num _ => false
  | .txt _, .lst _ => false
  | .lst _, .num _ => false
  | .lst _, .txt _ => false
def eqWs : List W → List W → Bool
  | [], [] => true
  | w :: r, z :: s => eqW w z && eqWs r s
  | [], _ :: _ => false
  | _ :: _, [] => false
end
mutual
theorem eqW_refl : ∀ w : W, eqW w w = true
  | .num i => by simp [eqW]
  | .txt x => by simp [eqW]
  | .lst ws => eqWs_refl ws
theorem eqWs_refl : ∀ ws : List W, eqWs ws ws = true
  | [] => rfl
  | w :: r => by simp only [eqWs, eqW_refl w, eqWs_refl r, Bool.and_self]
end
mutual
theorem eqW_symm : ∀ w z : W, eqW w z = eqW z w
  | .num i, .num j => by simp only [eqW]; exact BEq.comm
  | .txt x, .txt y => by simp only [eqW]; exact BEq.comm
  | .lst ws, .lst zs => by simp only [eqW]; exact eqWs_symm ws zs
  | .num _, .txt _ => rfl
  | .num _, .lst _ => rfl
  | .txt _, .num _ => rfl
  | .txt _, .lst _ => rfl
  | .lst _, .num _ => rfl
  | .lst _, .txt _ => rfl
theorem eqWs_symm : ∀ ws zs : List W, eqWs ws zs = eqWs zs ws
  | [], [] => rfl
  | w :: r, z :: s => by simp only [eqWs, eqW_symm w z, eqWs_symm r s]
  | [], _ :: _ => rfl
  | _ :: _, [] => rfl
end
theorem eqWs_iff : ∀ ws zs : List W, eqWs ws zs = ((List.range (min ws.length zs.length)).all (fun j => eqW (ws.getD j (.num 0)) (zs.getD j (.num 0))) && ws.length == zs.length)
  | [], [] => rfl
  | [], _ :: _ => rfl
  | _ :: _, [] => rfl
  | w :: r, z :: s => by
    rw [eqWs, eqWs_iff r s]
    have e : min (w :: r).length (z :: s).length = min r.length s.length + 1 := by simp only [List.length_cons]; omega
    rw [e, List.range_succ_eq_map, List.all_cons, List.all_map]
    have e2 : ((w :: r).length == (z :: s).length) = (r.length == s.length) := by simp
    rw [e2, Bool.and_assoc]
    rfl
theorem RW.inj {H : Hp} {v : V} {x : W} (h : RW H v x) : ∀ {y : W}, RW H v y → x = y := by
  induction h with
  | num i => intro y g; cases g; rfl
  | txt z => intro y g; cases g; rfl
  | @lst a vs ws e l _ ih =>
    intro y g
    cases g with
    | @lst _ vs2 zs e2 l2 at2 =>
      rw [e] at e2
      cases e2
      congr 1
      refine List.ext_getElem (by omega) fun i h1 h2 => ?_
      exact ih i vs[i] ws[i] (List.getElem?_eq_getElem (by omega)) (List.getElem?_eq_getElem h1) (at2 i vs[i] zs[i] (List.getElem?_eq_getElem (by omega)) (List.getElem?_eq_getElem h2))
end D

set_option Elab.async false
set_option linter.all false
set_option maxRecDepth 100000
set_option maxHeartbeats 4000000
namespace L2
open PySem PySem.Spec PyProof.Rows
/-- max of a list of ints that is not empty -/
theorem call_max_ints {X : Cx} (hc : X.calm = true) : CallR X (.builtin "max") (fun xs H Q => ∃ (p : Addr) (ns : List Int), xs = [.ref p] ∧ SqL X.K H p (ns.map V.int) ∧ 0 < ns.length ∧ ∀ M : Int, M ∈ ns → (∀ a ∈ ns, a ≤ M) → Q (.int M) H) := by
  intro pins s σ H xs us Q I r h
  obtain ⟨p, ns, rfl, hq, hne, q⟩ := h
  obtain ⟨u, rfl, rx⟩ := vals1 r
  cases rx
  obtain ⟨its, r', pl, hz⟩ := I.list hq
  have hi := intsAre_of r'
  obtain ⟨xs, e⟩ := hi.allInts.items
  have hl := pl.isList
  have hns : ns = xs.toList.map (·.1) := by
    rw [← hi.numsOf, ← nums_intItems, ← e]
  have hsz : 0 < xs.size := by
    have h3 := hne; rw [hns, List.length_map, Array.length_toList] at h3; exact h3
  rw [e] at hl
  refine max_intList (I.ok.hd hc) hl hsz fun v h' tk hv hk => ?_
  obtain ⟨t, rfl⟩ := intItems_at hv
  obtain ⟨h1, h2⟩ := argBest_gt (numAt xs) (xs.size - 1)
  refine ⟨.int _, H, I.kept (h' := h') (t' := tk) hk, ⟨t, rfl⟩, q _ ?_ fun a ha => ?_⟩
  · rw [hns, numAt_eq]; exact getD_mem (by rw [List.length_map, Array.length_toList]; omega)
  · rw [hns] at ha
    obtain ⟨j, hj, rfl⟩ := mem_getD ha
    rw [List.length_map, Array.length_toList] at hj
    rw [← numAt_eq]; exact h2 j (by omega)
/-- isinstance, of a tuple that the module holds too -/
def rIsiS (K : PySem.W.Frag) (xs : List V) (H : Hp) (Q : VK) : Prop := ∃ v T A b, xs = [v, .ty T] ∧ (TyOf K H v (.type A) ∨ (A = "tuple" ∧ ∃ a ys, v = .ref a ∧ SqT K H a ys)) ∧ isi A T = some b ∧ Q (.bl b) H
theorem boot_listT : bootBuiltins (Str.ofString "list") = some (.type "list") := by kernel_rfl
end L2

set_option Elab.async false
set_option linter.all false
set_option maxRecDepth 100000
set_option maxHeartbeats 4000000
namespace L2
open PySem PySem.Spec PyProof.Rows
section
variable {prog : Program} {w : World} {A : Around} {E : Value → Shared → Prop} {s : Shared}
open HT in
end
end L2
namespace D
open PySem L2
theorem eqAll {H : Hp} {ws zs : List W} {its its2 : List Value} {vs us : List V} (r1 : Vals vs its) (r2 : Vals us its2) (l1 : vs.length = ws.length) (l2 : us.length = zs.length) :
    ((List.range (min its.toArray.size its2.toArray.size)).all (fun j => eqW (ws.getD j (.num 0)) (zs.getD j (.num 0))) && its.toArray.size == its2.toArray.size) = eqW (.lst ws) (.lst zs) := by
  have e1 : its.toArray.size = ws.length := by rw [List.size_toArray, ← r1.length, l1]
  have e2 : its2.toArray.size = zs.length := by rw [List.size_toArray, ← r2.length, l2]
  rw [e1, e2]
  exact (eqWs_iff ws zs).symm
theorem eqAt_W {X : Cx} {pins : List (Addr × Obj)} {σ : St} {H : Hp} {s : Shared} (I : Inv X pins σ H s) : ∀ (n : Nat) (A : Around) (x y : W) (u v : V) (U V' : Value), x.depth < n → RW H u x → RW H v y → RelV u U → RelV v V' → A.units + n + 2 < cLine →
    SeqAt.EqAt A s U V' (eqW x y) := by
  intro n
  induction n with
  | zero => intro A x y u v U V' h; omega
  | succ n ih =>
    intro A x y u v U V' hd rx ry r1 r2 hu
    have hu0 : A.units < cLine := by omega
    cases rx with
    | num i =>
      obtain ⟨t, rfl⟩ := r1
      cases ry with
      | num j => obtain ⟨t2, rfl⟩ := r2; exact SeqAt.EqAt.int_int i t j t2
      | txt z => obtain ⟨t2, rfl⟩ := r2; exact SeqAt.EqAt.int_str i t z t2
      | lst e _ _ =>
        cases r2
        obtain ⟨its, _, p, _⟩ := I.tuple (SqT.of e)
        exact SeqAt.EqAt.int_tuple i t p hu0
    | txt z =>
      obtain ⟨t, rfl⟩ := r1
      cases ry with
      | num j => obtain ⟨t2, rfl⟩ := r2; exact SeqAt.EqAt.str_int z t j t2
      | txt z2 => obtain ⟨t2, rfl⟩ := r2; exact SeqAt.EqAt.str_str z t z2 t2
      | lst e _ _ =>
        cases r2
        obtain ⟨its, _, p, _⟩ := I.tuple (SqT.of e)
        exact SeqAt.EqAt.str_tuple z t p hu0
    | @lst a vs ws e l at1 =>
      cases r1
      obtain ⟨its, rv, p, _⟩ := I.tuple (SqT.of e)
      cases ry with
      | num j => obtain ⟨t2, rfl⟩ := r2; exact SeqAt.EqAt.tuple_int j t2 p hu0
      | txt z2 => obtain ⟨t2, rfl⟩ := r2; exact SeqAt.EqAt.tuple_str z2 t2 p hu0
      | @lst b us zs e2 l2 at2 =>
        cases r2
        obtain ⟨its2, rv2, p2, _⟩ := I.tuple (SqT.of e2)
        by_cases hab : a = b
        · subst hab
          have : W.lst ws = W.lst zs := RW.inj (.lst e l at1) (.lst e2 l2 at2)
          rw [this, eqW_refl]
          exact SeqAt.EqAt.same _
        · rw [← eqAll (H := H) rv rv2 l l2]
          refine SeqAt.EqAt.of_refs hab (SeqAt.RcAt.tuples p p2 hu0 fun j h1 h2 => ?_)
          have j1 : j < its.length := by simpa using h1
          have j2 : j < its2.length := by simpa using h2
          have k1 : j < vs.length := by rw [rv.length]; exact j1
          have k2 : j < us.length := by rw [rv2.length]; exact j2
          have m1 : j < ws.length := by omega
          have m2 : j < zs.length := by omega
          obtain ⟨U1, hU1, rU1⟩ := rv.get (List.getElem?_eq_getElem k1)
          obtain ⟨U2, hU2, rU2⟩ := rv2.get (List.getElem?_eq_getElem k2)
          have f1 : its.toArray[j] = U1 := by have := (List.getElem?_eq_some_iff.mp hU1).2; simpa using this
          have f2 : its2.toArray[j] = U2 := by have := (List.getElem?_eq_some_iff.mp hU2).2; simpa using this
          rw [f1, f2]
          have g1 : ws.getD j (.num 0) = ws[j] := by rw [List.getD_eq_getElem?_getD, List.getElem?_eq_getElem m1]; rfl
          have g2 : zs.getD j (.num 0) = zs[j] := by rw [List.getD_eq_getElem?_getD, List.getElem?_eq_getElem m2]; rfl
          rw [g1, g2]
          have hdj := depths_mem ws[j] (List.getElem_mem m1)
          have hd' : 1 + depths ws < n + 1 := hd
          have hu1 : A.in1.units = A.units + 1 := rfl
          exact ih A.in1 ws[j] zs[j] vs[j] us[j] U1 U2 (by omega) (at1 j _ _ (List.getElem?_eq_getElem k1) (List.getElem?_eq_getElem m1)) (at2 j _ _ (List.getElem?_eq_getElem k2) (List.getElem?_eq_getElem m2)) rU1 rU2 (by omega)
end D

set_option Elab.async false
set_option linter.all false
set_option maxRecDepth 100000
set_option maxHeartbeats 4000000
namespace L2
open PySem PySem.Spec PyProof.Rows
structure QSs (X : Cx) (st : List Stmt) (t : TS) : Prop where
  un : PSs X st t
structure QIfs (X : Cx) (ifs : List Expr) (t : TT) : Prop where
  un : PIfs X ifs t
structure QPs (X : Cx) (pos : Pos) (keys : List (Option Expr)) (values : List Expr) (trs : List (TE × TE)) : Prop where
  un : PPs X pos keys values trs
structure QGs (X : Cx) (ts : List Expr) (t : TGs) : Prop where
  un : PGs X ts t
structure QE (X : Cx) (e : Expr) (t : TE) : Prop where
  un : PE X e t
structure QT (X : Cx) (e : Expr) (t : TT) : Prop where
  un : PT X e t
structure QW (X : Cx) (e : Expr) (t : TT) : Prop where
  un : PW X e t
structure QA (X : Cx) (es : List Expr) (t : TA) : Prop where
  un : PA X es t
structure QS (X : Cx) (st : Stmt) (t : TS) : Prop where
  un : PS X st t
structure QI (X : Cx) (tg iter : Expr) (wi : TI) : Prop where
  un : PI X tg iter wi
structure QG (X : Cx) (tg : Expr) (t : TG) : Prop where
  un : PG X tg t
structure QO (X : Cx) (e : Option Expr) (t : TO) : Prop where
  un : PO X e t
structure QC (X : Cx) (op : CmpOp) (a b : Expr) (t : TE) : Prop where
  un : PC X op a b t
theorem Fun.okQ {P : Program} {w : World} {K : PySem.W.Frag} {mg : Str → Option Value} {base : Heap} {x qual : Str} {st : Stmt} {f : Addr} {fd : FuncData} {N ps : List Str} {k : Nat} {sp : Sp} (F : Fun K x qual st f fd) (sc : FnScope N ps (defScope st)) (h1 : ∀ (vs : List V) (H : Hp) (Q : VK) (E : XK), sp vs H Q E → vs.length = ps.length)
    (h2 : ∀ (cdv : Value) (A : Around) (outer : List Env) (s : Shared) (H : Hp) (vs : List V) (Q : VK) (E : XK), Room k (A.deeper (PyProof.Rows.envOfC qual (defScope st) s.heap.objs.size f cdv)) → sp vs H Q E →
      ∃ t : TS, QSs (cxOf CX0 P w K mg base N qual (defScope st) f cdv A outer s H E).nox (defBody st) t ∧ t { nx := fun _ H' => Q V.non H', rt := Q } (L2.start N vs) H) : FnOk P w K mg base CX0 (k + 1) f fd ps sp :=
  F.ok sc h1 fun cdv A outer s H vs Q E hr h => let ⟨t, a, b⟩ := h2 cdv A outer s H vs Q E hr h; ⟨t, a.un, b⟩
end L2
namespace D
open PySem L2
theorem pss_nil {X : Cx}  : QSs X [] tNext := ⟨L2.pss_nil ⟩
theorem pss_cons {X : Cx} {st : Stmt} {rest : List Stmt} {t u : TS} (h0 : QS X st t) (h1 : QSs X rest u) : QSs X (st :: rest) (tSeq t u) := ⟨L2.pss_cons h0.un h1.un⟩
theorem pss_one {X : Cx} {st : Stmt} {t : TS} (h0 : QS X st t) : QSs X [st] t := ⟨L2.pss_one h0.un⟩
theorem ps_ret {X : Cx} {e : Expr} {te : TE} {pos : Pos} (h0 : QE X e te) : QS X (Stmt.Return (some e) pos) (tRet te) := ⟨L2.ps_ret h0.un⟩
theorem ps_if {X : Cx} {t u : TS} {pos : Pos} {c : Expr} {a b : List Stmt} {tc : TT} (h0 : QT X c tc) (h1 : QSs X a t) (h2 : QSs X b u) : QS X (Stmt.If c a b pos) (tIfS tc t u) := ⟨L2.ps_if h0.un h1.un h2.un⟩
theorem ps_set {X : Cx} {pos : Pos} {i : Nat} {x : Str} {e : Expr} {te : TE} {pos' : Pos} (h0 : X.N.Nodup) (h1 : X.N[i]? = some x) (h2 : L2.Loc X.env.scope x) (h3 : QE X e te) (h4 : autoParam (swapsWith e (some (Expr.Name x pos')) pos.line X.env = pure false) L2.ps_set._auto_1) (h5 : autoParam (X.fn x = true ∨ List.lookup x X.env.scope.names = some NameKind.local) L2.ps_set._auto_2) : QS X (Stmt.Assign [Expr.Name x pos'] e pos) (tAsg te (gName i)) := ⟨L2.ps_set h0 h1 h2 h3.un h4 h5⟩
theorem ps_asg {X : Cx} {pos : Pos} {tg e : Expr} {te : TE} {g : TG} (h0 : QE X e te) (h1 : QG X tg g) (h2 : autoParam (swapsWithSole [tg] e pos.line X.env = pure false) L2.ps_asg._auto_1) (h3 : autoParam (swappedStores [tg] e X.env = pure none) L2.ps_asg._auto_2) (h4 : autoParam (List.map (fun (x : Bool × (Value → Sem Unit)) => x.snd) (assignEach [tg] X.env) = [assign tg X.env]) L2.ps_asg._auto_3) : QS X (Stmt.Assign [tg] e pos) (tAsg te g) := ⟨L2.ps_asg h0.un h1.un h2 h3 h4⟩
theorem ps_expr {X : Cx} {e : Expr} {te : TE} {pos : Pos} (h0 : QE X e te) (h1 : autoParam (swapsWith e none pos.line X.env = pure false) L2.ps_expr._auto_1) : QS X (Stmt.Expr e pos) (tDrop te) := ⟨L2.ps_expr h0.un h1⟩
theorem ps_for {X : Cx} {tg iter : Expr} {body : List Stmt} {wi : TI} {g : TG} {tb : TS} {pos : Pos} (h0 : PassesOwn (model X.prog X.w) X.A X.env X.xe) (h1 : X.calm = true) (h2 : QI X tg iter wi) (h3 : QG X tg g) (h4 : QSs X body tb) (h5 : autoParam (∀ (x : Value), foldedSetIterable iter X.env x = pure x) L2.ps_for._auto_1) : QS X (Stmt.For tg iter body [] pos) (tFor wi g tb) := ⟨L2.ps_for h0 h1 h2.un h3.un h4.un h5⟩
theorem ps_while {X : Cx} {pos : Pos} {c : Expr} {body : List Stmt} {tc : TT} {tb : TS} (h0 : PassesOwn (model X.prog X.w) X.A X.env X.xe) (h1 : QT X c tc) (h2 : QSs X body tb) : QS X (Stmt.While c body [] pos) (tWhile tc tb) := ⟨L2.ps_while h0 h1.un h2.un⟩
theorem pe_int {X : Cx} {i : Int} {j : Nat} {pos : Pos}  : QE X (Expr.Constant (Const.int i) j pos) (tC (V.int i)) := ⟨L2.pe_int ⟩
theorem pe_str {X : Cx} {x : Str} {j : Nat} {pos : Pos}  : QE X (Expr.Constant (Const.str x) j pos) (tC (V.str x)) := ⟨L2.pe_str ⟩
theorem pe_bl {X : Cx} {b : Bool} {j : Nat} {pos : Pos}  : QE X (Expr.Constant (Const.bool b) j pos) (tC (V.bl b)) := ⟨L2.pe_bl ⟩
theorem pv {X : Cx} (i : Nat) {x : Str} {pos : Pos} (h0 : autoParam (X.N[i]? = some x) L2.pv._auto_1) (h1 : autoParam (Vis X.env.scope x) L2.pv._auto_2) (h2 : autoParam ((x == Str.ofString "__debug__") = false) L2.pv._auto_3) (h3 : autoParam ((x == Str.ofString "__classdict__") = false) L2.pv._auto_4) : QE X (Expr.Name x pos) (tVar i) := ⟨L2.pv i h0 h1 h2 h3⟩
theorem pe_glob {X : Cx} {x : Str} {v : V} {u : Value} {pos : Pos} (h0 : Gl X x) (h1 : X.mg x = some u) (h2 : RelV v u) (h3 : autoParam ((x == Str.ofString "__debug__") = false) L2.pe_glob._auto_1) : QE X (Expr.Name x pos) (tC v) := ⟨L2.pe_glob h0 h1 h2 h3⟩
theorem pe_ty {X : Cx} {x : Str} {T : String} {pos : Pos} (h0 : Gl X x) (h1 : X.mg x = none) (h2 : bootBuiltins x = some (Value.type T)) (h3 : autoParam (x ≠ Str.ofString "__name__") L2.pe_ty._auto_1) (h4 : autoParam ((x == Str.ofString "__debug__") = false) L2.pe_ty._auto_2) : QE X (Expr.Name x pos) (tC (V.ty T)) := ⟨L2.pe_ty h0 h1 h2 h3 h4⟩
theorem pe_op {X : Cx} {a b : Expr} {ta tb : TE} {pos : Pos} {op : Operator} {r : R2} (h0 : OpR X (binaryOp op) r) (h1 : QE X a ta) (h2 : QE X b tb) : QE X (a.BinOp op b pos) (tOp r ta tb) := ⟨L2.pe_op h0 h1.un h2.un⟩
theorem pe_un {X : Cx} {a : Expr} {ta : TE} {pos : Pos} {op : UnaryOp} {r : V → Hp → VK → Prop} (h0 : UnR X (unaryOp op) r) (h1 : QE X a ta) : QE X (Expr.UnaryOp op a pos) (tUn r ta) := ⟨L2.pe_un h0 h1.un⟩
theorem pe_cmpR {X : Cx} {a b : Expr} {ta tb : TE} {pos : Pos} {op : CmpOp} {r : R2} (h0 : OpR X (compareOp op) r) (h1 : QE X a ta) (h2 : QE X b tb) (h3 : behindInMarks op b = false) : QE X (a.Compare [op] [b] pos) (tOp r ta tb) := ⟨L2.pe_cmpR h0 h1.un h2.un h3⟩
theorem pt_cmpR {X : Cx} {a b : Expr} {ta tb : TE} {pos : Pos} {op : CmpOp} {r : R2} (h0 : OpR X (compareOp op) r) (h1 : QE X a ta) (h2 : QE X b tb) (h3 : behindInMarks op b = false) : QT X (a.Compare [op] [b] pos) (tTest (tOp r ta tb)) := ⟨L2.pt_cmpR h0 h1.un h2.un h3⟩
theorem pe_and {X : Cx} {a b : Expr} {ta tb : TE} {pos : Pos} {rest : List Expr} (h0 : QE X a ta) (h1 : QE X (Expr.BoolOp BoolOp.And (b :: rest) pos) tb) : QE X (Expr.BoolOp BoolOp.And (a :: b :: rest) pos) (tAndV ta tb) := ⟨L2.pe_and h0.un h1.un⟩
theorem pe_or {X : Cx} {a b : Expr} {ta tb : TE} {pos : Pos} {rest : List Expr} (h0 : QE X a ta) (h1 : QE X (Expr.BoolOp BoolOp.Or (b :: rest) pos) tb) : QE X (Expr.BoolOp BoolOp.Or (a :: b :: rest) pos) (tOrV ta tb) := ⟨L2.pe_or h0.un h1.un⟩
theorem pe_one {X : Cx} {a : Expr} {pos : Pos} {op : BoolOp} {t : TE} (h0 : QE X a t) : QE X (Expr.BoolOp op [a] pos) t := ⟨L2.pe_one h0.un⟩
theorem pe_not {X : Cx} {a : Expr} {ta : TE} {pos : Pos} (h0 : QE X a ta) : QE X (Expr.UnaryOp UnaryOp.Not a pos) (tNotV ta) := ⟨L2.pe_not h0.un⟩
theorem pe_ifExp {X : Cx} {a b : Expr} {ta tb : TE} {pos : Pos} {tA : TT} {c : Expr} (h0 : QT X c tA) (h1 : QE X a ta) (h2 : QE X b tb) : QE X (c.IfExp a b pos) (tIf tA ta tb) := ⟨L2.pe_ifExp h0.un h1.un h2.un⟩
theorem pt_val {X : Cx} {e : Expr} {t : TE} (h : QE X e t) (he : ∀ whole, isTrue e X.env whole = (do let v ← whole; standAt e.pos; holding [v] (truthy v)) := by intro _; rfl) : QT X e (tB t) := ⟨L2.pt_val h.un he⟩
theorem pt_not {X : Cx} {a : Expr} {pos : Pos} {tA : TT} (h0 : QT X a tA) : QT X (Expr.UnaryOp UnaryOp.Not a pos) (tNot tA) := ⟨L2.pt_not h0.un⟩
theorem pw_and {X : Cx} {a b : Expr} {pos : Pos} {tA tB' : TT} {rest : List Expr} (h0 : QT X a tA) (h1 : QW X (Expr.BoolOp BoolOp.And (b :: rest) pos) tB') : QW X (Expr.BoolOp BoolOp.And (a :: b :: rest) pos) (tAnd tA tB') := ⟨L2.pw_and h0.un h1.un⟩
theorem pw_and1 {X : Cx} {a : Expr} {pos : Pos} {tA : TT} (h0 : QT X a tA) : QW X (Expr.BoolOp BoolOp.And [a] pos) tA := ⟨L2.pw_and1 h0.un⟩
theorem pw_or {X : Cx} {a b : Expr} {pos : Pos} {tA tB' : TT} {rest : List Expr} (h0 : QT X a tA) (h1 : QW X (Expr.BoolOp BoolOp.Or (b :: rest) pos) tB') : QW X (Expr.BoolOp BoolOp.Or (a :: b :: rest) pos) (tOr tA tB') := ⟨L2.pw_or h0.un h1.un⟩
theorem pw_or1 {X : Cx} {a : Expr} {pos : Pos} {tA : TT} (h0 : QT X a tA) : QW X (Expr.BoolOp BoolOp.Or [a] pos) tA := ⟨L2.pw_or1 h0.un⟩
theorem PW.pt {X : Cx} {e : Expr} {t : TT} (h0 : QW X e t) : QT X e t := ⟨L2.PW.pt h0.un⟩
theorem pe_fn {X : Cx} {x : Str} {k : Nat} {ps : List Str} {sp : Sp} {e : Expr} {es : List Expr} {t : TA} {p pos : Pos} (h0 : Have X.prog X.w X.K X.mg X.base x k ps sp) (h1 : Room k X.A) (h2 : Gl X x) (h3 : QA X (e :: es) t) (h4 : autoParam ((x == Str.ofString "__debug__") = false) L2.pe_fn._auto_1) (h5 : autoParam (starEach (e :: es) X.env = (false, eval e X.env) :: starEach es X.env) L2.pe_fn._auto_2) (h6 : autoParam (((backTo pos (starEach es X.env)).any fun (x : Bool × Sem Value) => x.fst) = false) L2.pe_fn._auto_3) : QE X ((Expr.Name x p).Call (e :: es) [] pos) (tCall sp [] E0 t) := ⟨L2.pe_fn h0 h1 h2 h3.un h4 h5 h6⟩
theorem pe_callB {X : Cx} {x : Str} {p pos : Pos} {e : Expr} {es : List Expr} {t : TA} {id : String} {r : List V → Hp → VK → Prop} (h0 : CallR X (Value.builtin id) r) (h1 : Gl X x) (h2 : X.mg x = none) (h3 : bootBuiltins x = some (Value.builtin id)) (h4 : QA X (e :: es) t) (h5 : autoParam (x ≠ Str.ofString "__name__") L2.pe_callB._auto_1) (h6 : autoParam ((x == Str.ofString "__debug__") = false) L2.pe_callB._auto_2) (h7 : autoParam (starEach (e :: es) X.env = (false, eval e X.env) :: starEach es X.env) L2.pe_callB._auto_3) (h8 : autoParam (((backTo pos (starEach es X.env)).any fun (x : Bool × Sem Value) => x.fst) = false) L2.pe_callB._auto_4) : QE X ((Expr.Name x p).Call (e :: es) [] pos) (tCB r t) := ⟨L2.pe_callB h0 h1 h2 h3 h4.un h5 h6 h7 h8⟩
theorem pe_callTy {X : Cx} {x : Str} {p pos : Pos} {e : Expr} {es : List Expr} {t : TA} {T : String} {r : List V → Hp → VK → Prop} (h0 : CallR X (Value.type T) r) (h1 : Gl X x) (h2 : X.mg x = none) (h3 : bootBuiltins x = some (Value.type T)) (h4 : QA X (e :: es) t) (h5 : autoParam (x ≠ Str.ofString "__name__") L2.pe_callTy._auto_1) (h6 : autoParam ((x == Str.ofString "__debug__") = false) L2.pe_callTy._auto_2) (h7 : autoParam (starEach (e :: es) X.env = (false, eval e X.env) :: starEach es X.env) L2.pe_callTy._auto_3) (h8 : autoParam (((backTo pos (starEach es X.env)).any fun (x : Bool × Sem Value) => x.fst) = false) L2.pe_callTy._auto_4) : QE X ((Expr.Name x p).Call (e :: es) [] pos) (tCB r t) := ⟨L2.pe_callTy h0 h1 h2 h3 h4.un h5 h6 h7 h8⟩
theorem pe_bm {X : Cx} {o e : Expr} {es : List Expr} {to : TE} {t : TA} {name : Str} {apos cpos : Pos} {T id : String} {r : V → List V → Hp → VK → Prop} (pa : PlainAttrs T) (slot : Slot T name id) (hty : typeOf (.builtin id) = pure (.type "method_descriptor")) (hm : MtR X id r) (ho : QE X o to) (ha : QA X (e :: es) t)
    (hbase : attributeBase o name X.env (eval o X.env) = eval o X.env := by rfl)
    (hfew : ((backTo cpos (starEach (e :: es) X.env)).all (fun x => !x.1) && (backToKw cpos (keywordEach [] X.env)).all (fun x => x.1.isSome)
      && decide ((e :: es).length + ([] : List Keyword).length + (if ([] : List Keyword).isEmpty then 0 else 1) < 30)) = true := by rfl)
    (hline : (apos.endLine == cpos.line) = true := by rfl) (hs : starEach (e :: es) X.env = (false, eval e X.env) :: starEach es X.env := by rfl) (hplain : (backTo cpos (starEach es X.env)).any (·.1) = false := by rfl) :
    QE X (.Call (.Attribute o name apos) (e :: es) [] cpos) (tBM X.K T r to t) := ⟨L2.pe_bm pa slot hty hm ho.un ha.un hbase hfew hline hs hplain⟩
theorem pe_bm0 {X : Cx} {o : Expr} {to : TE} {name : Str} {apos cpos : Pos} {T id : String} {r : V → List V → Hp → VK → Prop} (h0 : PlainAttrs T) (h1 : Slot T name id) (h2 : typeOf (Value.builtin id) = pure (Value.type "method_descriptor")) (h3 : MtR X id r) (h4 : QE X o to) (h5 : autoParam (attributeBase o name X.env (eval o X.env) = eval o X.env) L2.pe_bm0._auto_1) (h6 : autoParam ((apos.endLine == cpos.line) = true) L2.pe_bm0._auto_2) : QE X ((o.Attribute name apos).Call [] [] cpos) (tBM0 X.K T r to) := ⟨L2.pe_bm0 h0 h1 h2 h3 h4.un h5 h6⟩
theorem pe_ix {X : Cx} {a b : Expr} {ta tb : TE} {pos : Pos} {r : R2} (h0 : IxR X r) (h1 : QE X a ta) (h2 : QE X b tb) (h3 : PlainIx b) : QE X (a.Subscript b pos) (tOp r ta tb) := ⟨L2.pe_ix h0 h1.un h2.un h3⟩
theorem pe_slice {X : Cx} {e : Expr} {te : TE} {lo hi : Option Expr} {tl th : TO} {pos p2 : Pos} {r : V → Option Int → Option Int → Hp → VK → Prop} (h0 : SlR X r) (h1 : QE X e te) (h2 : QO X lo tl) (h3 : QO X hi th) : QE X (e.Subscript (Expr.Slice lo hi none p2) pos) (tSl r te tl th) := ⟨L2.pe_slice h0 h1.un h2.un h3.un⟩
theorem po_none {X : Cx}  : QO X none tNoPart := ⟨L2.po_none ⟩
theorem po_some {X : Cx} {e : Expr} {te : TE} (h0 : QE X e te) : QO X (some e) (tPart te) := ⟨L2.po_some h0.un⟩
theorem pe_lst {X : Cx} {es : List Expr} {t : TA} {pos : Pos} (h0 : QA X es t) : QE X (Expr.List es pos) (tLst t) := ⟨L2.pe_lst h0.un⟩
theorem pe_tup {X : Cx} {es : List Expr} {t : TA} {pos : Pos} {x1 : Nat} (h0 : QA X es t) : QE X (Expr.Tuple es x1 pos) (tTup t) := ⟨L2.pe_tup h0.un⟩
theorem pa_nil {X : Cx}  : QA X [] tNil := ⟨L2.pa_nil ⟩
theorem pa_cons {X : Cx} {e : Expr} {es : List Expr} {te : TE} {t : TA} (h0 : QE X e te) (h1 : QA X es t) (h2 : autoParam (starEach (e :: es) X.env = (false, eval e X.env) :: starEach es X.env) L2.pa_cons._auto_1) : QA X (e :: es) (tCons te t) := ⟨L2.pa_cons h0.un h1.un h2⟩
theorem pe_dnewK {X : Cx} {pos : Pos}  : QE X (Expr.Dict [] [] pos) tDNewK := ⟨L2.pe_dnewK ⟩
theorem ps_dput {X : Cx} {o i value : Expr} {pos pos' : Pos} {td ty tv : TE} (h0 : X.A.units + 1 < cLine) (h1 : QE X o td) (h2 : QE X i ty) (h3 : QE X value tv) (h4 : swapsWith value (some (o.Subscript i pos')) pos.line X.env = pure false) : QS X (Stmt.Assign [o.Subscript i pos'] value pos) (sDPut td ty tv) := ⟨L2.ps_dput h0 h1.un h2.un h3.un h4⟩
theorem pe_lcomp {X : Cx} {elt iter : Expr} {x : Str} {px pos : Pos} {ifs : List Expr} {scope : Scope} {cl : List (Str × Addr)} (fr : List Nat) (ys : List Str) {wi : TI} {tt : TT} {te : TE} (h0 : X.calm = true) (h1 : closureFor scope X.env = pure cl) (h2 : (∀ (y : Str × NameKind), y ∈ scope.names → y.snd ≠ NameKind.cell)) (h3 : scope.kind = ScopeKind.function) (h4 : (∀ (y : Str × NameKind), y ∈ scope.names → y.snd = NameKind.local → List.lookup y.fst scope.names = some NameKind.local)) (h5 : List.lookup x scope.names = some NameKind.local) (h6 : (x :: ys).Nodup) (h7 : ClOk cl X.env.cells) (h8 : (scope.names.all fun (y : Str × NameKind) => y.snd != NameKind.free || (List.lookup y.fst cl).isSome) = true) (h9 : FrOk X scope cl fr ys) (h10 : QI X (Expr.Name x px) iter wi) (h11 : (∀ (C : Addr) (s : Shared) (H : Hp) (fp : List Addr), QIfs (cxComp X scope cl (x :: ys) C s H fp) ifs tt ∧ QE (cxComp X scope cl (x :: ys) C s H fp) elt te)) (h12 : autoParam (∀ (v : Value), foldedSetIterable iter X.env v = pure v) L2.pe_lcomp._auto_1) : QE X (elt.ListComp [{ target := Expr.Name x px, iter := iter, ifs := ifs, is_async := 0 }] scope pos) (tLComp fr wi tt te) := ⟨L2.pe_lcomp fr ys h0 h1 h2 h3 h4 h5 h6 h7 h8 h9 h10.un (fun C s H fp => ⟨(h11 C s H fp).1.un, (h11 C s H fp).2.un⟩) h12⟩
theorem pifs_nil {X : Cx}  : QIfs X [] fun (x : St) (H : Hp) (Q : Bool → Hp → Prop) => Q true H := ⟨L2.pifs_nil ⟩
theorem pifs_one {X : Cx} {c : Expr} {t : TT} (h0 : QT X c t) : QIfs X [c] t := ⟨L2.pifs_one h0.un⟩
theorem pi_list {X : Cx} {tg l : Expr} {tl : TE} (h0 : QE X l tl) : QI X tg l (iList X.K tl) := ⟨L2.pi_list h0.un⟩
theorem pi_tup {X : Cx} {tg l : Expr} {tl : TE} (h0 : QE X l tl) : QI X tg l (iTup X.K tl) := ⟨L2.pi_tup h0.un⟩
theorem pi_range1 {X : Cx} {tg a : Expr} {ta : TA} {p pos : Pos} (h0 : Gl X (Str.ofString "range")) (h1 : X.mg (Str.ofString "range") = none) (h2 : QA X [a] ta) (h3 : autoParam (starEach [a] X.env = [(false, eval a X.env)]) L2.pi_range1._auto_1) : QI X tg ((Expr.Name (Str.ofString "range") p).Call [a] [] pos) (iRng1 ta) := ⟨L2.pi_range1 h0 h1 h2.un h3⟩
theorem pi_range2 {X : Cx} {tg a b : Expr} {ta : TA} {p pos : Pos} (h0 : Gl X (Str.ofString "range")) (h1 : X.mg (Str.ofString "range") = none) (h2 : QA X [a, b] ta) (h3 : autoParam (starEach [a, b] X.env = [(false, eval a X.env), (false, eval b X.env)]) L2.pi_range2._auto_1) (h4 : autoParam (starEach [b] X.env = [(false, eval b X.env)]) L2.pi_range2._auto_2) : QI X tg ((Expr.Name (Str.ofString "range") p).Call [a, b] [] pos) (iRng2 ta) := ⟨L2.pi_range2 h0 h1 h2.un h3 h4⟩
theorem pg_name {X : Cx} {pos : Pos} {i : Nat} {x : Str} (h0 : X.N.Nodup) (h1 : X.N[i]? = some x) (h2 : L2.Loc X.env.scope x) (h3 : autoParam (X.fn x = true ∨ List.lookup x X.env.scope.names = some NameKind.local) L2.pg_name._auto_1) : QG X (Expr.Name x pos) (gName i) := ⟨L2.pg_name h0 h1 h2 h3⟩
theorem pg_tup {X : Cx} {pos : Pos} {es : List Expr} {k : Nat} {t : TGs} {n : Nat} (h0 : X.calm = true) (h1 : QGs X es t) (h2 : autoParam ((assignEach es X.env).length = n) L2.pg_tup._auto_1) (h3 : autoParam (List.findIdx? (fun (x : Bool × (Value → Sem Unit)) => x.fst) (assignEach es X.env) = none) L2.pg_tup._auto_2) : QG X (Expr.Tuple es k pos) (gTup X.K n t) := ⟨L2.pg_tup h0 h1.un h2 h3⟩
theorem pgs_nil {X : Cx}  : QGs X [] gNil := ⟨L2.pgs_nil ⟩
theorem pgs_cons {X : Cx} {e : Expr} {es : List Expr} {t : TG} {u : TGs} (h0 : QG X e t) (h1 : QGs X es u) (h2 : autoParam (List.map (fun (x : Bool × (Value → Sem Unit)) => x.snd) (assignEach (e :: es) X.env) = assign e X.env :: List.map (fun (x : Bool × (Value → Sem Unit)) => x.snd) (assignEach es X.env)) L2.pgs_cons._auto_1) : QGs X (e :: es) (gCons t u) := ⟨L2.pgs_cons h0.un h1.un h2⟩
theorem pg_sub {X : Cx} {pos : Pos} {o i : Expr} {to ti : TE} {t : TSet} (ho : QE X o to) (hi : QE X i ti) (hs : PSet X t)
    (ha : ∀ v, assign (.Subscript o i pos) X.env v = (do
      let ov ← holding [v] (eval o X.env)
      let iv ← holding [v, ov] (eval i X.env)
      standAt pos
      holding [v, ov, iv] (setItem ov iv v)
      release [v, ov, iv] []) := by intro _; rfl) : QG X (.Subscript o i pos) (gSub to ti t) := ⟨L2.pg_sub ho.un hi.un hs ha⟩
theorem pe_maxD {X : Cx} {e : Expr} {te : TE} {d : Int} {j : Nat} {p pos kp cp : Pos} (h0 : X.calm = true) (h1 : Gl X (Str.ofString "max")) (h2 : X.mg (Str.ofString "max") = none) (h3 : QE X e te) (h4 : autoParam (backTo pos (starEach [e] X.env) = [(false, eval e X.env)]) L2.pe_maxD._auto_1) : QE X ((Expr.Name (Str.ofString "max") p).Call [e] [{ arg := some (Str.ofString "default"), value := Expr.Constant (Const.int d) j cp, pos := kp }] pos) (tMaxD d X.K te) := ⟨L2.pe_maxD h0 h1 h2 h3.un h4⟩
end D

set_option Elab.async false
set_option linter.all false
set_option maxRecDepth 100000
set_option maxHeartbeats 4000000
namespace L2
open PySem PySem.Spec PyProof.Rows
/-! ### a module's dict of texts -/
def MD (P : Program) (w : World) (K : PySem.W.Frag) (g : Addr) (kvs : List (Key × V)) : Prop :=
  ∃ (o : Obj) (vs : List (Key × Value)), K.lookup g = some o ∧ PySem.Obj.IsDictOf (mixKind P w) o vs ∧ KV kvs vs ∧ (g == sysModules) = false
theorem MD.dict {P : Program} {w : World} {K : PySem.W.Frag} {g : Addr} {kvs : List (Key × V)} {h : Heap} (m : MD P w K g kvs) (x : K.In h) : ∃ vs, KV kvs vs ∧ h.DictOf (mixKind P w) g vs ∧ (g == sysModules) = false := by
  obtain ⟨o, vs, e, d, r, n⟩ := m
  exact ⟨vs, r, Heap.dictOf_iff.mpr ⟨o, x _ _ e, d⟩, n⟩
theorem pairs_of {P : Program} {w : World} : ∀ l : List (Str × Tok × V × Value), Pairs (mixKind P w) (l.map fun p => (⟨hashStr w p.1, .str p.1 p.2.1, p.2.2.2⟩ : DictEntry)) (l.map fun p => ((Sum.inr p.1 : Key), p.2.2.2))
  | [] => .nil
  | p :: r => .cons (mixKind_str P w p.1 p.2.1) rfl (pairs_of r)
theorem kv_of : ∀ l : List (Str × Tok × V × Value), (∀ p ∈ l, RelV p.2.2.1 p.2.2.2) → KV (l.map fun p => ((Sum.inr p.1 : Key), p.2.2.1)) (l.map fun p => ((Sum.inr p.1 : Key), p.2.2.2))
  | [], _ => .nil
  | p :: r, h => .cons ⟨rfl, h p List.mem_cons_self⟩ (kv_of r fun q hq => h q (List.mem_cons_of_mem _ hq))
theorem md_of {P : Program} {w : World} {K : PySem.W.Frag} {g : Addr} (l : List (Str × Tok × V × Value)) {ep : Nat} (e : K.lookup g = some ⟨.type "dict", none, .dict (l.map fun p => (⟨hashStr w p.1, .str p.1 p.2.1, p.2.2.2⟩ : DictEntry)).toArray ep, #[]⟩)
    (n : (g == sysModules) = false) (hr : ∀ p ∈ l, RelV p.2.2.1 p.2.2.2) (nd : (l.map (·.1)).Nodup) : MD P w K g (l.map fun p => ((Sum.inr p.1 : Key), p.2.2.1)) := by
  refine ⟨_, l.map fun p => ((Sum.inr p.1 : Key), p.2.2.2), e, ⟨_, _, ⟨rfl, rfl, rfl⟩, rfl, ?_, ?_, ?_⟩, kv_of l hr, n⟩
  · intro x hx
    have hx' : x ∈ l.map fun p => (⟨hashStr w p.1, .str p.1 p.2.1, p.2.2.2⟩ : DictEntry) := by simpa using hx
    obtain ⟨p, _, rfl⟩ := List.mem_map.mp hx'
    exact ⟨Sum.inr p.1, mixKind_str P w p.1 p.2.1, rfl⟩
  · rw [List.toList_toArray]
    exact pairs_of l
  · rw [List.map_map]
    have : (l.map ((fun x : Key × Value => x.1) ∘ fun p => ((Sum.inr p.1 : Key), p.2.2.2))) = (l.map (·.1)).map (Sum.inr : Str → Key) := by rw [List.map_map]; rfl
    rw [this]
    exact List.pairwise_map.mpr (List.Pairwise.imp (fun {a b} (h : a ≠ b) (e : (Sum.inr a : Key) = Sum.inr b) => h (by simpa using e)) nd)
theorem op_inM {X : Cx} : OpR X (compareOp .In) (fun x y H Q => ∃ (g : Addr) (kvs : List (Key × V)) (k : Key), x = kV k ∧ y = .ref g ∧ MD X.prog X.w X.K g kvs ∧ Q (.bl (valV kvs k).isSome) H) := by
  intro pins s σ H x y v u Q I rx ry h
  obtain ⟨g, kvs, k, rfl, rfl, m, q⟩ := h
  cases ry
  obtain ⟨vs, rel, dd, hd⟩ := m.dict I.kIn
  refine wpAny_in_of (kV_is rx) hd dd.mapOf ?_
  rw [← (rel.val k).isSome_eq]
  exact ⟨.bl _, H, I.tok _, rfl, q⟩
/-! ### a call of a value that is a def -/
def HaveF (P : Program) (w : World) (K : PySem.W.Frag) (mg : Str → Option Value) (base : Heap) (f : Addr) (k : Nat) (ps : List Str) (sp : Sp) : Prop := ∃ fd : FuncData, FnOk P w K mg base CX0 k f fd ps sp ∧ Binds K fd ps [] ∧ PySem.W.keepIn K (.ref f) = true
theorem HaveF.mono {P : Program} {w : World} {K : PySem.W.Frag} {mg : Str → Option Value} {base : Heap} {f : Addr} {j k : Nat} {ps : List Str} {sp : Sp} (h : HaveF P w K mg base f j ps sp) (e : j ≤ k) : HaveF P w K mg base f k ps sp :=
  let ⟨fd, F, r⟩ := h; ⟨fd, F.mono e, r⟩
def tCallF (P : Program) (w : World) (K : PySem.W.Frag) (mg : Str → Option Value) (base : Heap) (k : Nat) (tf : TE) (t : TA) : TE := fun σ H Q => tf σ H fun x H1 => ∃ (f : Addr) (ps : List Str) (sp : Sp), x = .ref f ∧ HaveF P w K mg base f k ps sp ∧ t σ H1 fun vs H2 => sp vs H2 Q E0
end L2
namespace D
open PySem L2
end D

set_option Elab.async false
set_option linter.all false
set_option maxRecDepth 100000
set_option maxHeartbeats 4000000
namespace L2
open PySem PySem.Spec PyProof.Rows PySem.Builtin PySem.Builtin.Str
def CDivNB (i j : Int) : Prop := j ≠ 0 ∧ j.natAbs.log2 < 9000
/-- two texts, or two tuples, one behind the other -/
def rJoin (K : PySem.W.Frag) : R2 := fun x y H Q => (∃ i j, x = .str i ∧ y = .str j ∧ i.length + j.length ≤ sizeLine ∧ Q (.str (i ++ j)) H) ∨ rCatT K x y H Q ∨
  ∃ (a b : Addr) (ys : List V), x = .ref a ∧ y = .ref b ∧ SqT K H a [] ∧ SqT K H b ys ∧ Q (.ref b) H
theorem op_join {X : Cx} : OpR X (binaryOp .Add) (rJoin X.K) := OpR.or op_add_str (OpR.or op_catT op_catT0)
end L2

set_option Elab.async false
set_option linter.all false
set_option maxRecDepth 100000
set_option maxHeartbeats 4000000
namespace L2
open PySem PySem.Spec PyProof.Rows
end L2
namespace D
open PySem L2
end D

set_option Elab.async false
set_option linter.all false
set_option maxRecDepth 100000
set_option maxHeartbeats 4000000
namespace L2
open PySem PySem.Spec PyProof.Rows
/-- d.get(y, z) of a module's dict -/
def tMGet2 (P : Program) (w : World) (K : PySem.W.Frag) (td ty tx : TE) : TE := fun σ H Q => td σ H fun x H1 => ∃ (g : Addr) (kvs : List (Key × V)), x = .ref g ∧ MD P w K g kvs ∧ ty σ H1 fun y H2 => tx σ H2 fun z H3 => ∃ k : Key, y = kV k ∧ Q ((valV kvs k).getD z) H3
theorem pe_mget2 {X : Cx} {o e f : Expr} {apos cpos : Pos} {td ty tx : TE} (ho : PE X o td) (he : PE X e ty) (hf : PE X f tx) (m : M2 X o "get" apos e f cpos) : PE X (.Call (.Attribute o "get" apos) [e, f] [] cpos) (tMGet2 X.prog X.w X.K td ty tx) := by
  intro pins s σ H Q I h
  refine wpAny_Call_method m.base m.few m.line PySem.F.plainAttrs_dict PySem.F.slot_dict_get PySem.F.type_dict_get (thn (ho pins s σ H _ I h) fun u s1 ⟨x, H1, I1, rx, a, kvs, ex, d, q1⟩ => ?_)
  subst ex
  obtain rfl : u = Value.ref a := rx
  obtain ⟨vs1, rel1, dd1, hd1⟩ := d.dict I1.kIn
  refine ⟨dd1.typeIs, fun b q => ?_, ?_⟩
  · cases q
    obtain ⟨ob, _, _, h1, h2, _⟩ := dd1
    exact ⟨ob, h1, h2.2.1⟩
  rw [m.trees]
  refine Calls.callWith_builtin rfl (Calls.evalArgs_plain (Calls.spliced_cons (thn (he pins s1 σ H1 _ I1 q1) fun iv s2 ⟨y, H2, I2, ry, q2⟩ =>
    Calls.spliced_cons (thn (hf pins s2 σ H2 _ I2 q2) fun fv s3 ⟨z, H3, I3, rz, k, ey, q3⟩ => Calls.spliced_nil ?_))))
  subst ey
  obtain ⟨vs, rel, dd, hd⟩ := d.dict I3.kIn
  refine call_meetsIn PySem.F.slot_dict_get dd.typeIs PySem.F.entry_dict_get (PySem.F.args_dict_get_3 _ _ _) (meets_dict_get_default (mixKind X.prog X.w) a (kV_is ry) hd fv) ⟨_, dd.mapOf, ?_⟩
  exact ⟨_, H3, I3.tok _, (rel.val k).getD rz, q3⟩
end L2
namespace D
open PySem L2
theorem pe_mget2 {X : Cx} {o e f : Expr} {apos cpos : Pos} {td ty tx : TE} (ho : QE X o td) (he : QE X e ty) (hf : QE X f tx) (m : M2 X o "get" apos e f cpos) : QE X (.Call (.Attribute o "get" apos) [e, f] [] cpos) (tMGet2 X.prog X.w X.K td ty tx) := ⟨L2.pe_mget2 ho.un he.un hf.un m⟩
end D

set_option Elab.async false
set_option linter.all false
set_option maxRecDepth 100000
set_option maxHeartbeats 4000000
namespace L2
open PySem PySem.Spec PyProof.Rows
/-! ### enumerate of a list, two names at each turn -/
theorem Inv.turnedL {X : Cx} {pins : List (Addr × Obj)} {σ : St} {H : Hp} {s : Shared} {h' : Heap} {t' : Nat} {fp : List Addr} (I : Inv X pins σ H s) (k : ∀ b o, b ∉ fp → s.heap.get? b = some o → h'.get? b = some o) (hf : ∀ b ∈ fp, FpOk X pins H b) :
    Inv X pins σ H { s with heap := h', toks := t' } := by
  have nit : ∀ b u, H b = some u → b ∉ fp := fun b u e z => by
    have := (hf b z).1
    rw [e] at this
    cases this
  refine I.step (g' := s.gens) (d' := s.drawn) (ch := fp) (fun b hb => ?_) (fun b o _ _ hc e _ => k b o hc e) (fun b o _ _ hc e _ => ⟨o.slots, k b o hc e⟩) (fun _ _ _ _ n => n)
    (fun b o hc e => ⟨o, k b o hc e⟩) (fun _ _ e => e) (fun _ _ _ e => e) (fun b ps e => ⟨#[], by rw [e]; simp⟩) (fun m hm => ?_) (fun b u e => ?_) I.bare
  · obtain ⟨f0, f1, f2, f3, f4, f5⟩ := hf b hb
    exact ⟨f3, f1, f4, f5⟩
  · obtain ⟨o, es, ep, ho, r⟩ := hm
    exact ⟨o, es, ep, k _ o (fun z => (hf _ z).2.1 rfl) ho, r⟩
  · refine (I.hok b u e).stay (fun c v hc q => k c v ?_ q) (fun _ q => q) fun _ _ q => q
    rcases hc with z | z
    · rw [z]; exact nit b u e
    · exact nit c _ z
theorem push_old {h : Heap} {o u : Obj} {b : Addr} (e : (h.push o).get? b = some u) (hb : b < h.objs.size) : h.get? b = some u := by
  rcases Heap.get?_push_cases e with ⟨r, _⟩ | r
  · rw [r] at hb
    exact absurd hb (Nat.lt_irrefl _)
  · exact r
def Ite (K : PySem.W.Frag) (a : Addr) : It :=
  ⟨fun i H => ∃ xs x, SqL K H a xs ∧ xs[i]? = some x, fun i H x H' => ∃ t y, H t = none ∧ x = .ref t ∧ (∀ xs, SqL K H a xs → xs[i]? = some y) ∧ H' = upd H t (.tup [.int i, y]), fun i H => ∃ xs, SqL K H a xs ∧ xs.length ≤ i⟩
theorem turn_enum {P : Program} {w : World} {K : PySem.W.Frag} {elts : List Expr} {k : Nat} {pos : Pos} (a e it : Addr) (hei : e ≠ it) : Turn P w K (.Tuple elts k pos) (Ite K a) [e, it] e (fun i h => (∃ old, IsEnum h e it i old) ∧ h.IsListIter it a i) where
  mem := by simp
  obj := fun i h st b hb => by
    obtain ⟨⟨old, he⟩, hit⟩ := st
    have hc : b = e ∨ b = it := by simpa using hb
    rcases hc with rfl | rfl
    · exact ⟨_, he, fun v z => by
        have z' : Data.fields _ = Data.cell v := z
        cases z'⟩
    · obtain ⟨o, eo, c, d⟩ := hit
      exact ⟨o, eo, fun v z => by rw [d] at z; cases z⟩
  keep := fun i h h' st kk => by
    obtain ⟨⟨old, he⟩, hit⟩ := st
    exact ⟨⟨old, kk e (by simp) _ he⟩, hit.at fun o x => kk it (by simp) o x⟩
  item := by
    intro X hP hw hK hc i pins s σ H E I hf st hg
    subst hP hw hK
    obtain ⟨⟨old, he⟩, hit⟩ := st
    obtain ⟨xs, x, hq, hx⟩ := hg
    obtain ⟨its, rv, p, hz⟩ := I.list hq
    obtain ⟨u, hu, ru⟩ := rv.get hx
    have hfr : H s.heap.objs.size = none := I.hok.fresh (Nat.le_refl _)
    have helt : e < s.heap.objs.size := Heap.lt_size he
    have hilt : it < s.heap.objs.size := by obtain ⟨_, z, _⟩ := hit; exact Heap.lt_size z
    refine wpAny_pyNext_enum_item he hit p.isList (x := u) (by simpa using hu) hei fun h' ho hit' hT hsz hk => ⟨_, rfl, wpAny_letOwnedTupleGo_enum ho fun h2 he2 hs2 => ?_⟩
    have I1 : Inv X pins σ (upd H s.heap.objs.size (.tup [.int i, x])) { s with heap := s.heap.push { cls := .type "tuple", data := .seq #[.int i s.toks, u] }, toks := s.toks } :=
      I.laid (t' := s.toks) (fun b u e => Heap.get?_push_of_some _ e) (Nat.le_refl _) ⟨(by show 2 ≤ sizeLine; decide), [.int i s.toks, u], .cons ⟨_, rfl⟩ (.cons ru .nil), ⟨_, Heap.get?_push_size _ rfl, rfl, _, rfl⟩⟩
    have nn : ∀ b ∈ [e, it], upd H s.heap.objs.size (.tup [.int i, x]) b = none := fun b hb => by
      rw [upd_ne (fun z => by
        have hc : b = e ∨ b = it := by simpa using hb
        rcases hc with r | r
        · rw [← r, z] at helt; exact Nat.lt_irrefl _ helt
        · rw [← r, z] at hilt; exact Nat.lt_irrefl _ hilt)]
      exact (hf b hb).1
    have I2 : Inv X pins σ (upd H s.heap.objs.size (.tup [.int i, x])) { s with heap := h2, toks := s.toks + 1 } := by
      refine Inv.turnedL (s := { s with heap := s.heap.push { cls := .type "tuple", data := .seq #[.int i s.toks, u] }, toks := s.toks }) (h' := h2) (t' := s.toks + 1) (fp := [e, it]) I1 (fun b o hb eb => ?_) (fun b hb => ?_)
      · have hbe : b ≠ e := fun z => hb (by simp [z])
        have hbi : b ≠ it := fun z => hb (by simp [z])
        refine (hs2.2 b hbe).trans ?_
        by_cases hbs : b = s.heap.objs.size
        · subst hbs
          have e1 : (s.heap.push { cls := .type "tuple", data := .seq #[.int i s.toks, u] }).get? s.heap.objs.size = some { cls := .type "tuple", data := .seq #[.int i s.toks, u] } := Heap.get?_push_size _ rfl
          have eb : (s.heap.push { cls := .type "tuple", data := .seq #[.int i s.toks, u] }).get? s.heap.objs.size = some o := eb
          rw [e1] at eb
          cases eb
          exact hT
        · refine hk b o hbe hbi ?_
          have eb : (s.heap.push { cls := .type "tuple", data := .seq #[.int i s.toks, u] }).get? b = some o := eb
          have hlt := Heap.lt_size eb
          rw [Heap.size_push] at hlt
          exact push_old eb (Nat.lt_of_le_of_ne (Nat.le_of_lt_succ hlt) hbs)
      · obtain ⟨f0, f1, f2, f3, f4, f5⟩ := hf b hb
        exact ⟨nn b hb, f1, f2, f3, f4, f5⟩
    refine ⟨.ref s.heap.objs.size, _, I2, rfl, ⟨s.heap.objs.size, x, hfr, rfl, fun ys hy => by rw [I.list_inj hy hq]; exact hx, rfl⟩, ⟨⟨_, by simpa using he2⟩, hit'.at fun o y => (hs2.2 it hei.symm).trans y⟩, nn⟩
  done := by
    intro X hP hw hK hc i pins s σ H E I hf st hg
    subst hP hw hK
    obtain ⟨⟨old, he⟩, hit⟩ := st
    obtain ⟨xs, hq, hx⟩ := hg
    obtain ⟨its, rv, p, hz⟩ := I.list hq
    have hl := rv.length
    refine wpAny_pyNext_enum_end (I.ok.hd hc) he hit p.isList (by simp; omega) fun h' eb => ⟨rfl, ?_⟩
    exact I.turnedL (t' := s.toks) (fp := [e, it]) (fun b o hb e' => eb b o (fun z => hb (by simp [z])) e') hf
  self := fun _ _ _ _ _ st h => by
    obtain ⟨⟨old, he⟩, _⟩ := st
    exact wpAny_pyIter_enum he h
theorem boot_enum : bootBuiltins (Str.ofString "enumerate") = some (.type "enumerate") := by kernel_rfl
def iEnum (K : PySem.W.Frag) (ta : TA) : TI := fun σ H R => ta σ H fun vs H1 => ∃ (a : Addr) (xs : List V), vs = [.ref a] ∧ SqL K H1 a xs ∧ R (Ite K a) H1
theorem pi_enum {X : Cx} {elts : List Expr} {k : Nat} {ps : Pos} {a : Expr} {ta : TA} {p pos : Pos} (hg : Gl X "enumerate") (hm : X.mg "enumerate" = none) (ha : PA X [a] ta) (hs : starEach [a] X.env = [(false, eval a X.env)] := by rfl) :
    PI X (.Tuple elts k ps) (.Call (.Name "enumerate" p) [a] [] pos) (iEnum X.K ta) := by
  intro pins s σ H R I h
  refine Call_ (ld_blt I hg hm boot_enum (PyProof.Rows.callWith_type1 (thn (ha pos pins s σ H _ I h) fun us s1 ⟨vs, H1, I1, r1, q1⟩ => ?_) hs rfl))
  obtain ⟨b, xs, e, hq, q⟩ := q1
  subst e
  obtain ⟨u, rfl, rx⟩ := vals1 r1
  cases rx
  obtain ⟨its, rv, pl, hz⟩ := I1.list hq
  refine call_enumerate_list pl.isList fun h' he hi hsz hk => ?_
  have hne : s1.heap.objs.size + 1 ≠ s1.heap.objs.size := Nat.succ_ne_self _
  refine wpAny_pyIter_enum he ?_
  have I2 : Inv X pins σ H1 { s1 with heap := h', toks := s1.toks } := I1.kept (t' := s1.toks) hk
  refine ⟨s1.heap.objs.size + 1, [s1.heap.objs.size + 1, s1.heap.objs.size], _, _, H1, rfl, I2, turn_enum b _ _ hne, ⟨⟨_, he⟩, hi⟩, fun c hc => ?_, q⟩
  have hcs : c = s1.heap.objs.size + 1 ∨ c = s1.heap.objs.size := by simpa using hc
  have hle : s1.heap.objs.size ≤ c := by
    rcases hcs with r | r
    · rw [r]; exact Nat.le_succ _
    · rw [r]; exact Nat.le_refl _
  exact I1.fpOk hle (I1.hok.fresh hle)
/-- over enumerate of a list that the body leaves as it is -/
theorem for_enum {K : PySem.W.Frag} {a : Addr} {xs : List V} {g : TG} {tb : TS} {D : Ends} {σ : St} {H : Hp} (Pv : Nat → St → Hp → Prop) (h0 : Pv 0 σ H) (hl : ∀ i σ H, i ≤ xs.length → Pv i σ H → SqL K H a xs)
    (hs : ∀ i x t σ H, xs[i]? = some x → H t = none → Pv i σ H → g (.ref t) σ (upd H t (.tup [.int i, x])) fun σ2 H2 => tb { D with nx := Pv (i + 1), ct := Pv (i + 1), bk := D.nx } σ2 H2) (hd : ∀ σ H, Pv xs.length σ H → D.nx σ H) :
    ∃ W : Nat → Nat → St → Hp → Prop, (∃ m, W 0 m σ H) ∧ ∀ i m σ H, W i m σ H →
      ((Ite K a).stop i H ∧ D.nx σ H) ∨ ((Ite K a).go i H ∧ ∃ N : St → Hp → Prop, (∀ σ' H', N σ' H' → ∃ m', m' < m ∧ W (i + 1) m' σ' H') ∧ ∀ x H', (Ite K a).yld i H x H' → g x σ H' fun σ2 H2 => tb { D with nx := N, ct := N, bk := D.nx } σ2 H2) := by
  refine ⟨fun i m σ H => m = xs.length - i ∧ i ≤ xs.length ∧ Pv i σ H, ⟨xs.length, by simp, Nat.zero_le _, h0⟩, ?_⟩
  rintro i m σ H ⟨rfl, hi, p⟩
  have q := hl i σ H hi p
  by_cases hlt : i < xs.length
  · refine .inr ⟨⟨xs, xs[i], q, by simp [hlt]⟩, Pv (i + 1), fun σ' H' p' => ⟨xs.length - (i + 1), by omega, rfl, hlt, p'⟩, fun x H' y => ?_⟩
    obtain ⟨t, y, ht, rfl, hy, rfl⟩ := y
    exact hs i y t σ H (hy xs q) ht p
  · have e : i = xs.length := by omega
    subst e
    exact .inl ⟨⟨xs, q, Nat.le_refl _⟩, hd σ H p⟩
end L2
namespace D
open PySem L2
theorem pi_enum {X : Cx} {elts : List Expr} {k : Nat} {ps : Pos} {a : Expr} {ta : TA} {p pos : Pos} (hg : Gl X "enumerate") (hm : X.mg "enumerate" = none) (ha : QA X [a] ta) (hs : starEach [a] X.env = [(false, eval a X.env)] := by rfl) :
    QI X (.Tuple elts k ps) (.Call (.Name "enumerate" p) [a] [] pos) (iEnum X.K ta) := ⟨L2.pi_enum hg hm ha.un hs⟩
end D

set_option Elab.async false
set_option linter.all false
set_option maxRecDepth 100000
set_option maxHeartbeats 4000000
namespace D
open PySem L2 PySem.Spec PyProof.Rows
/-! ### lists held against one another -/
theorem at_item {xs : List V} {its : List Value} (r : Vals xs its) {j : Nat} {x : V} (h : xs[j]? = some x) (hj : j < its.toArray.size) : RelV x its.toArray[j] := by
  obtain ⟨u, hu, ru⟩ := r.get h
  have e : its.toArray[j] = u := by
    have := (List.getElem?_eq_some_iff.mp hu).2
    simpa using this
  rw [e]
  exact ru
/-- xs != ys, both read as the same worths -/
theorem op_neWL {X : Cx} (hu : X.A.units + 64 < cLine) : OpR X (compareOp .NotEq) (fun x y H Q => ∃ (a b : Addr) (us vs : List V) (ws : List W), x = .ref a ∧ y = .ref b ∧ SqL X.K H a us ∧ SqL X.K H b vs ∧ RWs H us ws ∧ RWs H vs ws ∧ depths ws < 50 ∧ Q (.bl false) H) := by
  intro pins s σ H x y v u Q I rx ry h
  obtain ⟨a, b, us, vs, ws, rfl, rfl, ha, hb, r1, r2, hd, q⟩ := h
  cases rx
  cases ry
  obtain ⟨its, v1, p1, _⟩ := I.list ha
  obtain ⟨its2, v2, p2, _⟩ := I.list hb
  have l1 := v1.length
  have l2 := v2.length
  have m1 := r1.len
  have m2 := r2.len
  have key : SeqAt.RcNeAt X.A s (.ref a) (.ref b) (!(List.range its.toArray.size).all fun _ => true) := by
    refine SeqAt.RcNeAt.lists p1.isList p2.isList (by rw [List.size_toArray, List.size_toArray]; omega) (by omega) (fun j h1 h2 => ?_)
    have j1 : j < us.length := by rw [l1]; simpa using h1
    have e1 : us[j]? = some us[j] := List.getElem?_eq_getElem j1
    have e2 : vs[j]? = some vs[j] := List.getElem?_eq_getElem (by omega)
    have e3 : ws[j]? = some ws[j] := List.getElem?_eq_getElem (by omega)
    have hdj := depths_mem ws[j] (List.getElem_mem (by omega))
    have hu1 : X.A.in1.units = X.A.units + 1 := rfl
    have := eqAt_W I 51 X.A.in1 ws[j] ws[j] us[j] vs[j] _ _ (by omega) (r1.at' j _ _ e1 e3) (r2.at' j _ _ e2 e3) (at_item v1 e1 h1) (at_item v2 e2 h2) (by omega)
    rw [eqW_refl] at this
    exact this
  have e : (!(List.range its.toArray.size).all fun _ => true) = false := by simp
  rw [e] at key
  exact key X.prog X.w _ _ ⟨.bl false, H, I, rfl, q⟩
/-- xs != [] -/
theorem op_neE {X : Cx} (hu : X.A.units < cLine) : OpR X (compareOp .NotEq) (fun x y H Q => ∃ (a b : Addr) (us : List V), x = .ref a ∧ y = .ref b ∧ SqL X.K H a us ∧ SqL X.K H b [] ∧ Q (.bl (!us.isEmpty)) H) := by
  intro pins s σ H x y v u Q I rx ry h
  obtain ⟨a, b, us, rfl, rfl, ha, hb, q⟩ := h
  cases rx
  cases ry
  obtain ⟨its, v1, p1, _⟩ := I.list ha
  obtain ⟨its2, v2, p2, _⟩ := I.list hb
  have l1 := v1.length
  have l2 := v2.length
  cases us with
  | nil =>
    have key : SeqAt.RcNeAt X.A s (.ref a) (.ref b) (!(List.range its.toArray.size).all fun _ => true) :=
      SeqAt.RcNeAt.lists p1.isList p2.isList (by rw [List.size_toArray, List.size_toArray]; omega) hu (fun j h1 h2 => by
        have h3 : j < its.length := by simpa using h1
        exact absurd h3 (by rw [← l1]; exact Nat.not_lt_zero _))
    have e : (!(List.range its.toArray.size).all fun _ => true) = false := by simp
    rw [e] at key
    exact key X.prog X.w _ _ ⟨.bl false, H, I, rfl, q⟩
  | cons x r =>
    have hsz : (its.toArray.size != its2.toArray.size) = true := by
      rw [List.size_toArray, List.size_toArray, ← l1, ← l2]
      simp
    exact SeqAt.RcNeAt.lists_lengths p1.isList p2.isList hsz hu X.prog X.w _ _ ⟨.bl true, H, I, rfl, q⟩
/-- xs == [] -/
theorem op_eqE {X : Cx} (hu : X.A.units < cLine) : OpR X (compareOp .Eq) (fun x y H Q => ∃ (a b : Addr) (us : List V), x = .ref a ∧ y = .ref b ∧ SqL X.K H a us ∧ SqL X.K H b [] ∧ Q (.bl us.isEmpty) H) := by
  intro pins s σ H x y v u Q I rx ry h
  obtain ⟨a, b, us, rfl, rfl, ha, hb, q⟩ := h
  cases rx
  cases ry
  obtain ⟨its, v1, p1, _⟩ := I.list ha
  obtain ⟨its2, v2, p2, _⟩ := I.list hb
  have l1 := v1.length
  have l2 := v2.length
  cases us with
  | nil =>
    refine SeqAt.eq_listAt (e := fun _ => true) p1.isList p2.isList (by rw [List.size_toArray, List.size_toArray]; omega) hu (fun j h1 h2 => ?_) ?_
    · have h3 : j < its.length := by simpa using h1
      exact absurd h3 (by rw [← l1]; exact Nat.not_lt_zero _)
    · have e : ((List.range its.toArray.size).all fun _ => true) = true := by simp
      rw [e]
      exact ⟨.bl true, H, I, rfl, q⟩
  | cons x r =>
    have hsz : (its.toArray.size != its2.toArray.size) = true := by
      rw [List.size_toArray, List.size_toArray, ← l1, ← l2]
      simp
    exact SeqAt.eq_list_lengthsAt p1.isList p2.isList hsz hu ⟨.bl false, H, I, rfl, q⟩
end D

set_option Elab.async false
set_option linter.all false
set_option maxRecDepth 100000
set_option maxHeartbeats 4000000
namespace L2
open PySem PySem.Spec PyProof.Rows
/-! ### a set of texts: what it holds, and that its table is marked -/
def txOf : Value → Str
  | .str z _ => z
  | _ => Str.ofString ""
def byTx (w : World) : Bool := w.params.followText "set-order"
def Tabled (w : World) (t : SetTable) (n : Nat) : Prop := t.led = !byTx w ∧ (n = 0 ∨ t.plain = false)
def SetTx (P : Program) (w : World) (a : Addr) (ds : List Str) (h : Heap) : Prop :=
  ∃ (o : Obj) (es : Array (Int × Value)) (ep : Nat) (t : SetTable), h.get? a = some o ∧ o.ExactSet ∧ o.data = .set es ep t ∧ ElemsOf (mixKind P w) es.toList ∧ (∀ e ∈ es.toList, ∃ z tk, e.2 = .str z tk) ∧
    (es.toList.map fun e => txOf e.2).Perm ds ∧ es.size < scanBound ∧ t.fits es.size = true ∧ Tabled w t es.size
def addS (ds : List Str) (z : Str) : List Str := if z ∈ ds then ds else ds ++ [z]
theorem or_marks (t : SetTable) (n : Nat) : (t.orStandIn n).led = t.led ∧ (t.plain = false → (t.orStandIn n).plain = false) := by
  unfold SetTable.orStandIn
  split
  · exact ⟨rfl, id⟩
  · exact ⟨rfl, fun _ => rfl⟩
theorem lay_marks (t : SetTable) (es : Array (Int × Value)) (h : Int) (x : Value) : (layNew t es h x).2.1.led = t.led ∧ (t.plain = false → (layNew t es h x).2.1.plain = false) := by
  unfold layNew
  split
  · rename_i slot dm _
    obtain ⟨a, b⟩ := or_marks (t.put slot).1 (SetTable.insertAt es (t.put slot).2 (h, x)).size
    exact ⟨a, fun z => b z⟩
  · exact ⟨rfl, fun _ => rfl⟩
theorem relaid_marks {t t' : SetTable} {hs : Array Int} {n : Nat} {order : Array Nat} (e : t.relaid hs n = some (t', order)) : t'.led = t.led ∧ t'.plain = t.plain := by
  unfold SetTable.relaid SetTable.laid at e
  cases hc : SetTable.layClean (SetTable.sizeAbove n - 1) hs with
  | none => rw [hc] at e; cases e
  | some ow =>
    rw [hc] at e
    cases e
    exact ⟨rfl, rfl⟩
theorem relay_marks (t : SetTable) (es : Array (Int × Value)) (n : Nat) : (relayAll t es n).2.1.led = t.led ∧ (t.plain = false → (relayAll t es n).2.1.plain = false) := by
  unfold relayAll
  split
  · rename_i t' order e
    obtain ⟨a, b⟩ := relaid_marks e
    dsimp only
    split
    · exact ⟨a, fun z => b.trans z⟩
    · exact ⟨rfl, fun _ => rfl⟩
  · exact ⟨rfl, fun _ => rfl⟩
theorem SetTx.store {P : Program} {w : World} {h : Heap} {a : Addr} {o : Obj} {es es' : Array (Int × Value)} {ep : Nat} {t t' : SetTable} {ds : List Str} (ho : h.get? a = some o) (hex : o.ExactSet) (hd : o.data = .set es ep t)
    (hel : ElemsOf (mixKind P w) es'.toList) (htx : ∀ e ∈ es'.toList, ∃ z tk, e.2 = .str z tk) (hp : (es'.toList.map fun e => txOf e.2).Perm ds) (hb : es'.size < scanBound) (hf : t'.fits es'.size = true) (hm : Tabled w t' es'.size) :
    (h.update a (Obj.putSet es' t')).get? a = some { o with data := .set es' (ep + 1) t' } ∧ SetTx P w a ds (h.update a (Obj.putSet es' t')) := by
  have g : (h.update a (Obj.putSet es' t')).get? a = some { o with data := .set es' (ep + 1) t' } := by
    rw [← putSet_of es' t' hd]
    exact Heap.get?_update_self _ ho (by rw [putSet_of es' t' hd]; rfl)
  exact ⟨g, _, es', ep + 1, t', g, hex, rfl, hel, htx, hp, hb, hf, hm⟩
section
variable {P : Program} {w : World} {A : Around} {E : Value → Shared → Prop}
theorem set_add_tx {s : Shared} {a : Addr} {ds : List Str} {z : Str} {tk : Tok} {Q : Bool → Shared → Prop} (hS : SetTx P w a ds s.heap) (room : ds.length + 1 < scanBound)
    (h : ∀ (b : Bool) (h' : Heap), Heap.SameBut a s.heap h' → SetTx P w a (addS ds z) h' → Q b { s with heap := h' }) :
    wpAny (model P w) A (setAddHashed a (.str z tk) ((mixKind P w).hash (.inr z))) Q E s := by
  have hS0 := hS
  obtain ⟨o, es, ep, t, ho, hex, hd, hel, htx, hpm, hb, hf, hmk⟩ := hS
  have hsz : es.size = ds.length := by
    have := hpm.length_eq
    rw [List.length_map, Array.length_toList] at this
    exact this
  have is := mixKind_str P w z tk
  unfold setAddHashed setAddHashedIn
  refine wpAny_holding (wpAny_bind (wpAny_setState_of ho hd hf ?_))
  dsimp only
  rw [byScan_of (knd := mixKind P w) (x := .str z tk) rfl hb hel]
  simp only [↓reduceIte]
  unfold setAddByScan
  refine wpAny_bind (wpAny_bind (wpAny_rule (wpAny_bind (wpAny_setScan_of is ho hd hf hel ?_))))
  cases hr : es.toList.findIdx? (fun e => (mixKind P w).is (.inr z) e.2) with
  | some j =>
    obtain ⟨hj, hpj, _⟩ := List.findIdx?_eq_some_iff_getElem.mp hr
    have hin : z ∈ ds := by
      obtain ⟨y, u, e⟩ := htx _ (List.getElem_mem hj)
      have hzy : z = y := by
        rw [e] at hpj
        have := (mixKind P w).inj (.str y u) (.inr z) (.inr y) hpj (mixKind_str P w y u)
        exact Sum.inr.inj this
      refine hpm.mem_iff.mp (List.mem_map.mpr ⟨_, List.getElem_mem hj, ?_⟩)
      rw [e, hzy]
      rfl
    have key := h false s.heap (Heap.SameBut.refl a s.heap) (by unfold addS; rw [if_pos hin]; exact hS0)
    exact wpAny_pure (wpAny_pure key)
  | none =>
    have hout : z ∉ ds := fun hz => by
      obtain ⟨e, he, hze⟩ := List.mem_map.mp (hpm.mem_iff.mpr hz)
      obtain ⟨y, u, ey⟩ := htx e he
      have h1 := List.findIdx?_eq_none_iff.mp hr e he
      rw [ey] at h1 hze
      have : y = z := hze
      subst this
      rw [mixKind_str] at h1
      cases h1
    have ead : addS ds z = ds ++ [z] := by unfold addS; rw [if_neg hout]
    dsimp only
    have hperm := layNew_perm t es ((mixKind P w).hash (.inr z)) (.str z tk)
    have hfits := layNew_fits t es ((mixKind P w).hash (.inr z)) (.str z tk)
    have hmark := lay_marks t es ((mixKind P w).hash (.inr z)) (.str z tk)
    generalize layNew t es ((mixKind P w).hash (.inr z)) (.str z tk) = L at hperm hfits hmark ⊢
    obtain ⟨es1, t1, dm, gave⟩ := L
    dsimp only at hperm hfits hmark ⊢
    rw [Array.toList_push] at hperm
    have hel1 : ElemsOf (mixKind P w) es1.toList := (hel.push is rfl).perm hperm
    have htx1 : ∀ e ∈ es1.toList, ∃ z tk, e.2 = .str z tk := fun e he => by
      rcases List.mem_append.mp (hperm.mem_iff.mp he) with h1 | h1
      · exact htx e h1
      · rw [List.mem_singleton.mp h1]; exact ⟨_, _, rfl⟩
    have hpm1 : (es1.toList.map fun e => txOf e.2).Perm (ds ++ [z]) := by
      refine (hperm.map _).trans ?_
      rw [List.map_append]
      exact hpm.append (List.Perm.refl _)
    have hsz1 : es1.size = ds.length + 1 := by
      have := hpm1.length_eq
      rw [List.length_map, Array.length_toList, List.length_append] at this
      exact this
    have hb1 : es1.size < scanBound := by omega
    have gw : ∀ (b : Bool) (s1 : Shared) (Q' : Unit → Shared → Prop), Q' () s1 → wpAny (model P w) A (match b with | true => rule "set.scan.the-table-gave-way" | false => pure ()) Q' E s1 := fun b s1 Q' hq => by
      cases b
      · exact wpAny_pure hq
      · exact wpAny_rule hq
    refine wpAny_bind (gw _ _ _ ?_)
    -- what is stored, whichever mark the table had
    have tail : ∀ t2 : SetTable, t2.fits es1.size = true → Tabled w t2 es1.size → wpAny (model P w) A (storeSet a es1 t2 >>= fun _ => if (!dm && t2.tooFull) = true then (match (relayAll t2 es1 (SetTable.grown es1.size)).2.2 with | true => rule "set.scan.the-table-gave-way" | false => pure ()) >>= fun _ => storeSet a (relayAll t2 es1 (SetTable.grown es1.size)).1 (relayAll t2 es1 (SetTable.grown es1.size)).2.1 >>= fun _ => pure (some true) else pure (some true))
        (fun r s' => wpAny (model P w) A (match r with | some added => pure added | none => setAddHashedIn a (.str z tk) ((mixKind P w).hash (.inr z)) 99999) Q E s') E s := fun t2 hf2 hm2 => by
      obtain ⟨g1, S1⟩ := SetTx.store (es' := es1) (t' := t2) (ds := ds ++ [z]) ho hex hd hel1 htx1 hpm1 hb1 hf2 hm2
      refine wpAny_bind (wpAny_storeSet_of ho hd ?_ (fits_of_scanBound hb1))
      have sb1 := Heap.SameBut.update s.heap a (Obj.putSet es1 t2)
      split
      · have hp := relayAll_perm t2 es1 (SetTable.grown es1.size)
        have hfr := relayAll_fits t2 es1 (SetTable.grown es1.size)
        have hmr := relay_marks t2 es1 (SetTable.grown es1.size)
        generalize relayAll t2 es1 (SetTable.grown es1.size) = Rl at hp hfr hmr ⊢
        obtain ⟨es2, t3, gv⟩ := Rl
        dsimp only at hp hfr hmr ⊢
        have hz2 : es2.size = es1.size := by rw [← Array.length_toList, hp.length_eq, Array.length_toList]
        have hb2 : es2.size < scanBound := by rw [hz2]; exact hb1
        refine wpAny_bind (gw _ _ _ (wpAny_bind (wpAny_storeSet_of g1 rfl ?_ (fits_of_scanBound hb2))))
        obtain ⟨_, S2⟩ := SetTx.store (es' := es2) (t' := t3) (ds := ds ++ [z]) g1 hex rfl (hel1.perm hp) (fun e he => htx1 e (hp.mem_iff.mp he)) ((hp.map _).trans hpm1) hb2 hfr ⟨hmr.1.trans hm2.1, .inr (hmr.2 (hm2.2.resolve_left (by omega)))⟩
        exact wpAny_pure (wpAny_pure (h true _ (sb1.trans (Heap.SameBut.update _ a _)) (by rw [ead]; exact S2)))
      · exact wpAny_pure (wpAny_pure (h true _ sb1 (by rw [ead]; exact S1)))
    split
    · refine wpAny_bind ?_
      rw [hashByValue_scannable 8 rfl]
      exact wpAny_pure (tail { t1 with plain := false } (SetTable.fits_plain_off hfits) ⟨hmark.1.trans hmk.1, .inr rfl⟩)
    · rename_i hpl
      exact wpAny_bind (wpAny_pure (tail t1 hfits ⟨hmark.1.trans hmk.1, .inr (by simpa using hpl)⟩))
/-- what a list lays into the set, one after the other -/
def allS (ys : List Str) : List Str := ys.foldl addS []
theorem allS_snoc (ys : List Str) (z : Str) : allS (ys ++ [z]) = addS (allS ys) z := by unfold allS; rw [List.foldl_append]; rfl
theorem addS_mem {ds : List Str} {z y : Str} : y ∈ addS ds z ↔ y ∈ ds ∨ y = z := by
  unfold addS
  split
  · exact ⟨.inl, fun h => h.elim id fun e => by rw [e]; assumption⟩
  · rw [List.mem_append, List.mem_singleton]
theorem addS_nodup {ds : List Str} {z : Str} (h : ds.Nodup) : (addS ds z).Nodup := by
  unfold addS
  split
  · exact h
  · rename_i hz
    rw [List.nodup_append]
    refine ⟨h, by simp, fun a ha b hb e => ?_⟩
    rw [List.mem_singleton.mp hb] at e
    exact hz (e ▸ ha)
theorem addS_len {ds : List Str} {z : Str} : (addS ds z).length ≤ ds.length + 1 := by
  unfold addS
  split
  · omega
  · rw [List.length_append]; exact Nat.le_refl _
theorem foldl_mem {y : Str} : ∀ (ys ds : List Str), y ∈ ys.foldl addS ds ↔ y ∈ ds ∨ y ∈ ys
  | [], ds => by simp
  | z :: ys, ds => by rw [List.foldl_cons, foldl_mem ys, addS_mem, List.mem_cons]; exact or_assoc
theorem foldl_nodup : ∀ (ys ds : List Str), ds.Nodup → (ys.foldl addS ds).Nodup
  | [], _, h => h
  | z :: ys, ds, h => foldl_nodup ys _ (addS_nodup h)
theorem foldl_len : ∀ (ys ds : List Str), (ys.foldl addS ds).length ≤ ds.length + ys.length
  | [], ds => by simp
  | z :: ys, ds => by
    have h1 := foldl_len ys (addS ds z)
    have h2 := addS_len (ds := ds) (z := z)
    rw [List.foldl_cons, List.length_cons]
    omega
theorem allS_mem {ys : List Str} {y : Str} : y ∈ allS ys ↔ y ∈ ys := by unfold allS; rw [foldl_mem]; simp
theorem allS_nodup (ys : List Str) : (allS ys).Nodup := foldl_nodup ys [] List.nodup_nil
theorem allS_len (ys : List Str) : (allS ys).length ≤ ys.length := by have := foldl_len ys []; simpa [allS] using this
theorem set_fill_tx {R : Result → Shared → Prop} {I : Addr} {fp wr : List Addr} {G : Array GenState → Array GenState → Prop} {Pi : Nat → Value → Prop} {St : Nat → Shared → Prop} (ys : List Str)
    (Wk : WalksS P w A.in1 I fp wr G ys.length Pi St) (S : Addr) (hSf : S ∉ fp) (hk : ∀ i v, Pi i v → ∃ z tk, ys[i]? = some z ∧ v = .str z tk) (hb : ys.length + 1 < scanBound) :
    ∀ (m i : Nat) (s : Shared), m + i = ys.length → St i s → SetTx P w S (allS (ys.take i)) s.heap →
      (∀ s', Moved (S :: wr) G s s' → SetTx P w S (allS ys) s'.heap → R (.ok (.ret .none)) s') → codeAny (model P w) A (.builtin "set.update.loop" ⟨[.ref S, .ref I], []⟩) R s := by
  have out : S ∉ wr := fun z => hSf (Wk.sub _ z)
  have wid : ∀ b ∈ wr, b ∈ S :: wr := fun b z => .tail _ z
  have held : ∀ (s s' : Shared) (ds : List Str), SetTx P w S ds s.heap → (∀ o, s.heap.get? S = some o → s'.heap.get? S = some o) → SetTx P w S ds s'.heap := fun s s' ds ⟨o, es, ep, t, ho, rest⟩ k => ⟨o, es, ep, t, k o ho, rest⟩
  intro m
  induction m with
  | zero =>
    intro i s hi st hs fin
    obtain rfl : i = ys.length := by omega
    rw [List.take_length] at hs
    refine codeAny_builtin PyProof.Rows.F.entry_set_update_loop ?_
    rw [Around.under_plainId PyProof.Rows.F.plain_set_update_loop _]
    refine (show wpAny _ A.in1 (pyNext (.ref I) >>= _) _ _ s from wpAny_bind (Wk.done s _ _ st fun s' mv => ?_))
    exact (show wpAny _ A.in1 (ret Value.none) _ _ s' from wpAny_pure (fin s' (mv.mono wid) (held s s' _ hs fun o e => mv.heap S o out e)))
  | succ m ih =>
    intro i s hi st hs fin
    have lt : i < ys.length := by omega
    refine codeAny_builtin PyProof.Rows.F.entry_set_update_loop ?_
    rw [Around.under_plainId PyProof.Rows.F.plain_set_update_loop _]
    refine (show wpAny _ A.in1 (pyNext (.ref I) >>= _) _ _ s from wpAny_bind (Wk.item i s _ _ lt st fun v s' hv st' mv => ?_))
    obtain ⟨z, tk, hz, rfl⟩ := hk i v hv
    have hs' := held s s' _ hs fun o e => mv.heap S o out e
    refine (show wpAny _ A.in1 (holding [.str z tk] (setAdd S (.str z tk)) >>= _) _ _ s' from wpAny_bind (wpAny_holding ?_))
    unfold setAdd
    refine wpAny_holding (wpAny_bind ((mixKind P w).pyHash (k := .inr z) (mixKind_str P w z tk) ?_))
    have hl := allS_len (ys.take i)
    rw [List.length_take] at hl
    refine set_add_tx (s := { s' with toks := s'.toks + 1 }) hs' (by omega) fun b h' sb S2 => ?_
    rw [← allS_snoc, show ys.take i ++ [z] = ys.take (i + 1) by rw [List.take_succ, hz]; rfl] at S2
    refine wpAny_pure ⟨plainId_quiet PyProof.Rows.F.plain_set_update_loop _, ih (i + 1) _ (by omega) (Wk.frame _ s' _ _ st' (Nat.le_succ _) fun b hb' o e => ?_) S2 fun s'' mv'' z' => ?_⟩
    · rw [sb.2 b (fun z : b = S => hSf (by rw [← z]; exact hb'))]; exact e
    · refine fin s'' (Moved.trans Wk.gtrans ((mv.mono wid).then_heap (Nat.le_succ _) fun b o hb' e => ?_) mv'') z'
      rw [sb.2 b (fun y : b = S => hb' (by rw [y]; exact List.mem_cons_self))]; exact e
end
end L2

set_option Elab.async false
set_option linter.all false
set_option maxRecDepth 100000
set_option maxHeartbeats 4000000
namespace L2
open PySem PySem.Spec PyProof.Rows
section
variable {P : Program} {w : World} {A : Around} {E : Value → Shared → Prop}
abbrev setO (led : Bool) : Obj := { cls := .type "set", dict := none, data := .set #[] 0 (.fresh 0 0 led) }
theorem set_new_tx {s : Shared} (a : Value) {Q₁ : Value → Shared → Prop} (h : Q₁ (.ref s.heap.objs.size) { s with heap := s.heap.push (setO (!byTx w)) }) :
    codeAny (model P w) A (.call (.builtin "set.__new__") ⟨[.type "set", a], []⟩) (wants Q₁ E) s := by
  refine codeAny_of_tree (show wpAny _ A.in1 (checkBuiltinCall "set.__new__" ⟨[.type "set", a], []⟩ >>= fun _ => again (.builtin "set.__new__" ⟨[.type "set", a], []⟩)) _ _ s from ?_)
  refine wpAny_bind (wpAny_of_eq (PySem.F.newCall_set_1 a) (wpAny_pure ⟨plainId_quiet PySem.F.plain_set_new _, codeAny_builtin PySem.F.entry_set_new ?_⟩))
  rw [Around.under_plainId PySem.F.plain_set_new _]
  unfold Builtin.«set.__new__» Builtin.Frozenset.newClass
  have hsub := PySem.sub_set_self
  obtain ⟨hp, g, d, tk, os⟩ := s
  dsimp only
  wp_walk
  refine wpAny_askSetting (wpAny_pure ?_)
  simp only [newObj]
  exact wpAny_bind (wpAny_alloc (wpAny_pure (wpAny_pure h)))
set_option maxHeartbeats 8000000 in
theorem set_of_tx {s : Shared} {l : Addr} {items : Array Value} {ys : List Str} {Q : Value → Shared → Prop} (hh : A.handled = none) (hl : s.heap.IsList l items) (hz : items.size = ys.length)
    (hk : ∀ (i : Nat) (v : Value), items[i]? = some v → ∃ z tk, ys[i]? = some z ∧ v = .str z tk) (hb : ys.length + 1 < scanBound)
    (h : ∀ (h' : Heap) (tk : Nat), SetTx P w s.heap.objs.size (allS ys) h' → (∀ b o, b < s.heap.objs.size → s.heap.get? b = some o → h'.get? b = some o) → Q (.ref s.heap.objs.size) { s with heap := h', toks := tk }) :
    wpAny (model P w) A (call (.type "set") [.ref l]) Q E s := by
  obtain ⟨_, _, hmro⟩ := PySem.F.called_set.mro
  have hmade := PySem.F.called_set.made
  have hsub := PySem.F.called_set.sub
  refine wpAny_call (codeAny_of_tree (show wpAny _ _ (callAny (.type "set") _) _ _ _ from wpAny_pure ⟨Code.quiet_builtin _ (by decide +kernel), codeAny_builtin PySem.F.entry_type_call ?_⟩))
  rw [Around.under_plain (weight_type_call_type "set" [.ref l] []) rfl]
  have h1 := PySem.F.called_set.notType
  have h2 := PySem.F.called_set.canCreate
  have hct := PySem.F.typeCall_set_1 (.ref l)
  repeat any_goals (first | assumption | wp_step)
  refine codeAny_mono (set_new_tx (.ref l) (E := E) (Q₁ := fun obj s₁ => obj = .ref s.heap.objs.size ∧ s₁ = { s with heap := s.heap.push (setO (!byTx w)) }) ⟨rfl, rfl⟩) fun r s₁ hr => ?_
  cases r with
  | error e => exact hr
  | ok fl =>
    cases fl with
    | ret obj =>
      obtain ⟨rfl, rfl⟩ := hr
      have gS : (s.heap.push (setO (!byTx w))).get? s.heap.objs.size = some (setO (!byTx w)) := Heap.get?_push_size _ rfl
      have tS : Shared.TypeIs { s with heap := s.heap.push (setO (!byTx w)) } (.ref s.heap.objs.size) "set" := ⟨_, gS, rfl⟩
      have hli := PySem.F.called_set.init.lookup
      have hbi := PySem.F.called_set.init.bind (.ref s.heap.objs.size)
      repeat any_goals (first | assumption | wp_step)
      refine codeAny_mono (codeAny_call_builtin (R := wants (fun r s₂ => r = .none ∧ ∃ h' tk, s₂ = { s with heap := h', toks := tk } ∧ SetTx P w s.heap.objs.size (allS ys) h' ∧ ∀ b o, b < s.heap.objs.size → s.heap.get? b = some o → h'.get? b = some o) E)
        PySem.F.called_set.init.plain PySem.F.entry_set_init (check_set_init_1 tS ?_)) fun r₂ s₂ hr₂ => ?_
      · obtain ⟨ol, hol, hcl, nl, hdl⟩ := hl
        obtain ⟨ocls, odict, odata, oslots⟩ := ol
        simp only at hcl hdl
        subst hcl hdl
        have hol' : (s.heap.push (setO (!byTx w))).get? l = some { cls := .type "list", dict := odict, data := .seq items nl, slots := oslots } := Heap.get?_push_of_some _ hol
        have hsls := PySem.F.sub_list_set
        have hslf := PySem.F.sub_list_frozenset
        have hne : (Value.type "list" == Value.type "dict") = false := by decide
        have hl1 : (s.heap.push (setO (!byTx w))).IsList l items := ⟨_, hol', rfl, nl, rfl⟩
        unfold Builtin.«set.__init__» noKeywords Builtin.Frozenset.updateFrom
        generalize hPI : pyIter = PI
        wp_walk
        subst hPI
        refine wpAny_pyIter_list hl1 (wpAny_bind (wpAny_runValue ?_))
        have hlS : l < s.heap.objs.size := Heap.lt_size hol
        have hh3 : A.in1.in1.in1.handled = none := by simp [hh]
        have sz : (s.heap.push (setO (!byTx w))).objs.size = s.heap.objs.size + 1 := Heap.size_push ..
        have n1 : l ≠ (s.heap.push (setO (!byTx w))).objs.size := by rw [sz]; exact Nat.ne_of_lt (Nat.lt_succ_of_lt hlS)
        have n2 : s.heap.objs.size ∉ [(s.heap.push (setO (!byTx w))).objs.size, l] := by
          intro z
          rcases List.mem_cons.mp z with z | z
          · rw [sz] at z
            exact absurd z (Nat.ne_of_lt (Nat.lt_succ_self _))
          · exact absurd (List.mem_singleton.mp z) (Nat.ne_of_gt hlS)
        have Wl := (Walks.list (prog := P) (w := w) hh3 _ l n1 items).toS
        rw [hz] at Wl
        refine set_fill_tx ys Wl s.heap.objs.size n2 (fun i v hv => hk i v hv) hb ys.length 0 _ (by omega)
          ⟨⟨_, Heap.get?_push_size _ rfl, rfl, rfl⟩, (hl1.push _)⟩ ?c0 ?cR
        case c0 =>
          have hget := Heap.get?_push_of_some { cls := .type "list_iterator", data := .fields #[.ref l, .int 0 0] } gS
          exact ⟨_, #[], 0, _, hget, ⟨rfl, rfl, rfl⟩, rfl, (fun e he => by simp at he), (fun e he => by simp at he), (by simp [allS]), by decide, by rfl, rfl, .inl rfl⟩
        case cR =>
          intro s' hm hS'
          obtain ⟨h', g', d', tk', os'⟩ := s'
          have eg : g' = s.gens := hm.gens
          have ed : d' = s.drawn := hm.drawn
          have eo : os' = s.os := hm.os
          subst eg ed eo
          refine wpAny_pure (show wpAny _ _ (ret Value.none) _ _ _ from wpAny_pure ⟨rfl, h', tk', rfl, hS', fun b o hb e => ?_⟩)
          refine hm.heap b o ?_ (Heap.get?_push_of_some _ (Heap.get?_push_of_some _ e))
          intro z
          rcases List.mem_cons.mp z with z | z
          · exact absurd z (Nat.ne_of_lt hb)
          · have z := List.mem_singleton.mp z
            rw [sz] at z
            exact absurd z (Nat.ne_of_lt (Nat.lt_succ_of_lt hb))
      · cases r₂ with
        | error e => exact hr₂
        | ok fl₂ =>
          cases fl₂ with
          | ret r =>
            obtain ⟨rfl, h', tk, rfl, hS', hk'⟩ := hr₂
            repeat any_goals (first | assumption | wp_step)
            exact h _ _ hS' hk'
          | _ => exact hr₂.elim
    | _ => exact hr.elim
end
def SetH (P : Program) (w : World) (a : Addr) (ds : List Str) : HO := .ext (SetTx P w a ds)
theorem call_set_tx {X : Cx} (hc : X.calm = true) : CallR X (.type "set") (fun xs H Q => ∃ (p : Addr) (ys : List Str), xs = [.ref p] ∧ SqL X.K H p (ys.map V.str) ∧ ys.length ≤ 1000 ∧ ∀ l, H l = none → Q (.ref l) (upd H l (SetH X.prog X.w l (allS ys)))) := by
  intro pins s σ H xs us Q I r h
  obtain ⟨p, ys, rfl, hq, hz, q⟩ := h
  obtain ⟨u, rfl, rx⟩ := vals1 r
  cases rx
  obtain ⟨its, rv, pl, _⟩ := I.list hq
  have l1 := rv.length
  rw [List.length_map] at l1
  have lz : its.toArray.size = ys.length := by rw [List.size_toArray, l1]
  refine set_of_tx (I.ok.hd hc) pl.isList lz (fun i v hv => ?_) (by unfold scanBound; omega) (fun h' tk hS kp => ?_)
  · have hv' : its[i]? = some v := by simpa using hv
    have hi : i < ys.length := by rw [l1]; exact (List.getElem?_eq_some_iff.mp hv').1
    obtain ⟨u1, hu1, t1, rfl⟩ := rv.get (i := i) (x := V.str ys[i]) (by rw [List.getElem?_map, List.getElem?_eq_getElem hi]; rfl)
    rw [hu1] at hv'
    cases hv'
    exact ⟨_, _, List.getElem?_eq_getElem hi, rfl⟩
  · have kp' : ∀ b o, s.heap.get? b = some o → h'.get? b = some o := fun b o e => kp b o (Heap.lt_size e) e
    refine ⟨.ref s.heap.objs.size, _, I.laid (t' := tk) kp' (Nat.le_refl _) (show ObjOk X.prog X.w _ h' _ (SetH X.prog X.w s.heap.objs.size (allS ys)) from ⟨hS, ?_, fun h1 h2 ⟨o, es, ep, t, ho, rest⟩ hk => ⟨o, es, ep, t, hk o ho, rest⟩⟩), rfl, q _ (I.hok.fresh (Nat.le_refl _))⟩
    obtain ⟨o, es, ep, t, ho, rest⟩ := hS
    exact ⟨o, ho⟩
end L2

set_option Elab.async false
set_option linter.all false
set_option maxRecDepth 100000
set_option maxHeartbeats 4000000
namespace L2
open PySem PySem.Spec PyProof.Rows
/-! ### a set of texts walked -/
theorem slot_sit_next : Slot "set_iterator" "__next__" "set_iterator.__next__" :=
  .of (owner := "set_iterator") (n := "__next__") (by rw [typeLookup_type, builtinLookup_eq_fast]; kernel_rfl)
    (by decide +kernel) (by decide +kernel) (by decide +kernel) (.inl (by decide +kernel)) (by rw [isSubtype_type]; kernel_rfl)
theorem slot_sit_iter : Slot "set_iterator" "__iter__" "set_iterator.__iter__" :=
  .of (owner := "set_iterator") (n := "__iter__") (by rw [typeLookup_type, builtinLookup_eq_fast]; kernel_rfl)
    (by decide +kernel) (by decide +kernel) (by decide +kernel) (.inl (by decide +kernel)) (by rw [isSubtype_type]; kernel_rfl)
theorem entry_sit_next : entryFor table "set_iterator.__next__" = some Builtin.«set_iterator.__next__» := entryFor_of_tree (by kernel_rfl)
theorem entry_sit_iter : entryFor table "set_iterator.__iter__" = some Builtin.«dict_keyiterator.__iter__» :=
  entryFor_alias (id' := "dict_keyiterator.__iter__") (by kernel_rfl) (by decide +kernel) (by decide +kernel) (by kernel_rfl)
theorem entry_set_iter : entryFor table "set.__iter__" = some Builtin.«frozenset.__iter__» :=
  entryFor_alias (id' := "frozenset.__iter__") (by kernel_rfl) (by decide +kernel) (by decide +kernel) (by kernel_rfl)
theorem owner_sit : Manifest.owners.lookup (String.ofList "rotareti_tes".toList.reverse) = some Manifest.sig_set_iterator := by kernel_rfl
theorem args_sit_next (a : Value) : argsOk "set_iterator.__next__" ⟨[a], []⟩ := by
  unfold argsOk
  rw [signature?_of (id := "set_iterator.__next__") (n := "__txen__".toList) (o := "rotareti_tes".toList) (by kernel_rfl) owner_sit]
  kernel_rfl
theorem args_sit_iter (a : Value) : argsOk "set_iterator.__iter__" ⟨[a], []⟩ := by
  unfold argsOk
  rw [signature?_of (id := "set_iterator.__iter__") (n := "__reti__".toList) (o := "rotareti_tes".toList) (by kernel_rfl) owner_sit]
  kernel_rfl
theorem erase_perm {α : Type} {l : List α} {i : Nat} (h : i < l.length) : (l[i] :: l.eraseIdx i).Perm l := by
  rw [List.eraseIdx_eq_take_drop_succ]
  refine List.perm_middle.symm.trans ?_
  rw [List.getElem_cons_drop h, List.take_append_drop]
theorem pick_go {α : Type} (nx : Nat → Nat) : ∀ (fuel k : Nat) (left : List α) (out : Array α), fuel = left.length → (pickOrder.go nx fuel k left out).toList.Perm (out.toList ++ left)
  | 0, k, left, out, h => by
    have : left = [] := List.length_eq_zero_iff.mp h.symm
    subst this
    unfold pickOrder.go
    simp
  | fuel + 1, k, left, out, h => by
    have hpos : 0 < left.length := by omega
    have hi : nx k % left.length < left.length := Nat.mod_lt _ hpos
    unfold pickOrder.go
    rw [List.getElem?_eq_getElem hi]
    refine (pick_go nx fuel (k + 1) _ _ (by rw [List.length_eraseIdx, if_pos hi]; omega)).trans ?_
    rw [Array.toList_push, List.append_assoc]
    exact List.Perm.append_left _ (erase_perm hi)
theorem pick_perm {α : Type} (nx : Nat → Nat) (xs : Array α) : (pickOrder nx xs).toList.Perm xs.toList := by
  have := pick_go nx xs.size 0 xs.toList #[] (by rw [Array.length_toList])
  simpa [pickOrder] using this
section
variable {P : Program} {w : World} {A : Around} {E : Value → Shared → Prop}
theorem draw_any {α : Type} : ∀ (n : Nat) (xs : List α) (s : Shared) (Q : List α → Shared → Prop), xs.length = n → (∀ (ys : List α) d', ys.Perm xs → Q ys { s with drawn := d' }) → wpAny (model P w) A (drawOrder n xs) Q E s
  | 0, xs, s, Q, h, q => by
    have : xs = [] := List.length_eq_zero_iff.mp h
    subst this
    unfold drawOrder
    exact wpAny_pure (q [] s.drawn .nil)
  | n + 1, x :: xs, s, Q, h, q => by
    unfold drawOrder
    refine wpAny_bind (fun Γ p hΓ => ?_)
    show Sem.wp _ _ (Sem.choose .order (x :: xs).length Sem.pure) _ _ _ _
    rw [Sem.wp_choose]
    refine ⟨by simp, ?_⟩
    rw [Sem.wp_pure]
    have hi : (model P w).w.draws .order (s.drawn.get .order) % (x :: xs).length < (x :: xs).length := Nat.mod_lt _ (by simp)
    generalize (model P w).w.draws .order (s.drawn.get .order) % (x :: xs).length = i at hi ⊢
    show wpAny (model P w) A (match (x :: xs)[i]? with | some y => drawOrder n ((x :: xs).eraseIdx i) >>= fun l => pure (y :: l) | none => unsupported "internal:drawOrder") Q E _
    rw [List.getElem?_eq_getElem hi]
    refine wpAny_bind (draw_any n _ _ _ (by rw [List.length_eraseIdx, if_pos hi]; omega) fun ys d' hp => wpAny_pure (q _ d' ?_))
    exact (List.Perm.cons _ hp).trans (erase_perm hi)
end
end L2

set_option Elab.async false
set_option linter.all false
set_option maxRecDepth 100000
set_option maxHeartbeats 4000000
namespace L2
open PySem PySem.Spec PyProof.Rows
def ItAt (w : World) (I a pl : Addr) (es : Array (Int × Value)) (ep : Nat) (t : SetTable) (ord : List Value) (i : Nat) (h : Heap) : Prop :=
  (∃ o, h.get? a = some o ∧ o.data = .set es ep t) ∧ ∃ (oI : Obj) (first : Value), h.get? I = some oI ∧ oI.cls = .type "set_iterator" ∧ oI.data = .fields #[first, rawInt i, .ref a, rawInt es.size, rawInt ep] ∧
    ((byTx w = true ∧ first = rawInt 0 ∧ ord = (pickOrder (w.params.setOrder a ep) es).toList.map (·.2)) ∨
     (byTx w = false ∧ ∃ (ps : List Nat) (op : Obj) (c : Nat), first = .ref pl ∧ h.get? pl = some op ∧ op.data = .seq (ps.map fun (p : Nat) => rawInt p).toArray c ∧ ord.length = ps.length ∧ ∀ (j p : Nat), ps[j]? = some p → ∃ e, es[p]? = some e ∧ ord[j]? = some e.2) ∨
     (byTx w = false ∧ es.size ≤ 1 ∧ t.led = true ∧ ord = es.toList.map (·.2) ∧ ∃ sl : Nat, first = rawInt sl ∧ (i = 0 → sl = 0) ∧ (0 < i → ∀ j, t.place[0]? = some j → sl = j + 1)))
section
variable {P : Program} {w : World} {A : Around} {E : Value → Shared → Prop}
theorem stop_wp {s : Shared} {Q : PySem.Fin → Shared → Prop} {E' : Value → Shared → Prop} (hh : A.handled = none)
    (h : ∀ (x : Addr) (h' : Heap), (∀ b o, s.heap.get? b = some o → h'.get? b = some o) → (∃ o, h'.get? x = some o ∧ o.cls = .type "StopIteration") → E' (.ref x) { s with heap := h' }) :
    wpAny (model P w) A (newExc (.type "StopIteration") [] >>= fun e => raiseNew e) Q E' s := by
  refine wpAny_bind ?_
  simp only [newExc, newTuple]
  refine wpAny_bind (wpAny_newObj_type ?_ (by size_fits))
  refine wpAny_bind (m := firstArgMember _ _) (wpAny_of_eq (a := Value.none) (by first | rfl | (simp only [firstArgMember]; rfl)) ?_)
  refine wpAny_newObj_type ?_ (by size_fits)
  simp only [raiseNew]
  refine wpAny_bind (wpAny_handled ?_)
  rw [hh]
  refine wpAny_bind (wpAny_pure (wpAny_throw (h _ _ (fun b o e => Heap.get?_push_of_some _ (Heap.get?_push_of_some _ e)) ⟨_, Heap.get?_push_size _ rfl, rfl⟩)))
theorem byText_wp {s : Shared} {Q : Bool → Shared → Prop} (h : Q (byTx w) s) : wpAny (model P w) A setsByText Q E s := by
  unfold setsByText
  exact wpAny_bind (wpAny_askSetting (wpAny_pure h))
theorem setNextA {s : Shared} {a : Addr} {oa : Obj} {es : Array (Int × Value)} {ep sl g : Nat} {t : SetTable} {Q : Option (Value × Nat) → Shared → Prop} (hb : byTx w = true) (hoa : s.heap.get? a = some oa) (hda : oa.data = .set es ep t) (hf : t.fits es.size = true)
    (h : Q (((pickOrder (w.params.setOrder a ep) es)[g]?).map fun e => (e.2, sl)) s) : wpAny (model P w) A (setNext a sl g ep) Q E s := by
  unfold setNext
  refine wpAny_bind (wpAny_setState_of hoa hda hf (wpAny_bind (byText_wp ?_)))
  rw [hb]
  simp only [↓reduceIte, bne_self_eq_false, Bool.false_eq_true]
  unfold setWalk
  refine wpAny_bind (wpAny_bind (wpAny_setState_of hoa hda hf (wpAny_bind (byText_wp ?_))))
  rw [hb]
  simp only [↓reduceIte]
  exact wpAny_bind (wpAny_askSetting (wpAny_pure (wpAny_pure h)))
theorem setNextC {s : Shared} {a : Addr} {oa : Obj} {es : Array (Int × Value)} {ep sl g : Nat} {t : SetTable} {Q : Option (Value × Nat) → Shared → Prop} (hb : byTx w = false) (hled : t.led = true) (h1 : es.size ≤ 1) (hoa : s.heap.get? a = some oa) (hda : oa.data = .set es ep t) (hf : t.fits es.size = true)
    (h : Q (match es[SetTable.below t.place sl]?, t.place[SetTable.below t.place sl]? with | some (_, x), some j => some (x, j + 1) | _, _ => none) s) : wpAny (model P w) A (setNext a sl g ep) Q E s := by
  unfold setNext
  refine wpAny_bind (wpAny_setState_of hoa hda hf (wpAny_bind (byText_wp ?_)))
  rw [hb]
  simp only [↓reduceIte, Bool.false_eq_true]
  split
  · rename_i hd
    have hd' : (!t.plain && decide (es.size > 1)) = true := hd
    rw [Bool.and_eq_true, decide_eq_true_eq] at hd'
    omega
  · refine wpAny_bind (show wpAny _ _ (if (!t.led && !es.isEmpty) = true then unsupported "set:maker-not-led" else pure ()) _ _ s from ?_)
    rw [hled, Bool.not_true, Bool.false_and, if_neg Bool.false_ne_true]
    exact wpAny_pure (wpAny_pure h)
theorem nextDrawn {s : Shared} {a : Addr} {oa : Obj} {es : Array (Int × Value)} {ep p : Nat} {t : SetTable} {e : Int × Value} {Q : Value → Shared → Prop} (hoa : s.heap.get? a = some oa) (hda : oa.data = .set es ep t) (hf : t.fits es.size = true) (he : es[p]? = some e) (h : Q e.2 s) :
    wpAny (model P w) A (setNextDrawn a p ep) Q E s := by
  unfold setNextDrawn
  refine wpAny_bind (wpAny_setState_of hoa hda hf ?_)
  simp only [bne_self_eq_false, Bool.false_eq_true, ↓reduceIte]
  rw [he]
  exact wpAny_pure h
theorem one_of {xs : Array Nat} (h : xs.size = 1) : ∃ j, xs = #[j] := by
  obtain ⟨l⟩ := xs
  match l, h with
  | [j], _ => exact ⟨j, rfl⟩
theorem below_one {t : SetTable} {j : Nat} (h : t.place = #[j]) : SetTable.below t.place 0 = 0 ∧ SetTable.below t.place (j + 1) = 1 := by
  rw [h]
  unfold SetTable.below
  constructor
  · simp [SetTable.below.go]
  · simp [SetTable.below.go]
theorem below_nil {t : SetTable} {j : Nat} (h : t.place = #[]) : SetTable.below t.place j = 0 := by
  rw [h]
  rfl
theorem fld {h : Heap} {I : Addr} {o : Obj} {vs : Array Value} (ho : h.get? I = some o) (hd : o.data = .fields vs) (k : Nat) (x : Value) :
    (∃ o', (h.update I (Obj.mapFields (·.setIfInBounds k x))).get? I = some o' ∧ o'.cls = o.cls ∧ o'.data = .fields (vs.setIfInBounds k x)) ∧ ∀ b q, b ≠ I → h.get? b = some q → (h.update I (Obj.mapFields (·.setIfInBounds k x))).get? b = some q :=
  ⟨⟨_, Heap.get?_update_self _ ho (Obj.isFreed_of_fields (Obj.data_mapFields hd _)), Obj.cls_mapFields .., Obj.data_mapFields hd _⟩, fun b q hb e => (Heap.get?_update_other _ _ (Ne.symm hb)).trans e⟩
theorem next_set {s : Shared} {I a pl : Addr} {es : Array (Int × Value)} {ep : Nat} {t : SetTable} {ord : List Value} {i : Nat} {Q : Option Value → Shared → Prop} (hh : A.handled = none) (hf : t.fits es.size = true) (hz : ord.length = es.size) (hne : a ≠ I) (hnp : pl ≠ I)
    (h : ItAt w I a pl es ep t ord i s.heap)
    (item : ∀ (v : Value) (h' : Heap), ord[i]? = some v → ItAt w I a pl es ep t ord (i + 1) h' → (∀ b o, b ≠ I → s.heap.get? b = some o → h'.get? b = some o) → Q (some v) { s with heap := h' })
    (done : ord[i]? = none → ∀ h' : Heap, (∀ b o, b ≠ I → s.heap.get? b = some o → h'.get? b = some o) → Q none { s with heap := h' }) :
    wpAny (model P w) A (pyNext (.ref I)) Q E s := by
  obtain ⟨⟨oa, hoa, hda⟩, oI, first, hI, hc, hd, mode⟩ := h
  have hT : s.TypeIs (.ref I) "set_iterator" := ⟨oI, hI, hc⟩
  unfold pyNext
  refine wpAny_bind (wpAny_attempt (wpAny_callSpecial?_slot (name := Str.ofString "__next__") hT slot_sit_next (wpAny_call_entry slot_sit_next hT entry_sit_next ?_ (args_sit_next _))))
  unfold Builtin.«set_iterator.__next__»
  refine wpAny_bind (wpAny_pure (wpAny_bind (wpAny_fieldsOf hI hd ?_)))
  have stop : ∀ (h2 : Heap), ord[i]? = none → (∀ b o, b ≠ I → s.heap.get? b = some o → h2.get? b = some o) → wpAny (model P w) A.in1 (newExc (.type "StopIteration") [] >>= fun e => (raiseNew e : Sem PySem.Fin)) (fun fin s' => ∃ v, fin = .done (.ret v) ∧ wpAny (model P w) A (match (Except.ok (some v) : Except Value (Option Value)) with | Except.ok (some v) => pure (some v) | Except.ok none => unsupported "iter:the-iterator's-class-has-lost-its-__next__-amid-the-walk" | Except.error e => do
      let b ← isInstance e (Value.type "StopIteration")
      if b = true then pure none else throw e) Q E s') (fun e s' => wpAny (model P w) A (match (Except.error e : Except Value (Option Value)) with | Except.ok (some v) => pure (some v) | Except.ok none => unsupported "iter:the-iterator's-class-has-lost-its-__next__-amid-the-walk" | Except.error e => do
      let b ← isInstance e (Value.type "StopIteration")
      if b = true then pure none else throw e) Q E s') { s with heap := h2 } := fun h2 hn hk => by
    refine stop_wp (A := A.in1) (by simpa using hh) fun x h' hk' hx => ?_
    obtain ⟨ox, hox, hcx⟩ := hx
    refine wpAny_bind (wpAny_isInstance (T := "StopIteration") (b := true) ⟨ox, hox, hcx⟩ isSubtype_stop ?_)
    exact wpAny_pure (done hn h' fun b o hb e => hk' b o (hk b o hb e))
  refine wpAny_bind (wpAny_setEntries_of hoa hda hf ?_)
  rw [if_neg (by simp)]
  have hlt : ∀ {v}, ord[i]? = some v → i < es.size := fun {v} e => by rw [← hz]; exact (List.getElem?_eq_some_iff.mp e).1
  rcases mode with ⟨hb, rfl, hord⟩ | ⟨hb, ps, op, c, rfl, hop, hdp, hlen, hps⟩ | ⟨hb, h1, hled, hord, sl, rfl, hs0, hs1⟩
  · refine wpAny_bind (setNextA hb hoa hda hf ?_)
    have hoi : ord[i]? = ((pickOrder (w.params.setOrder a ep) es)[i]?).map (·.2) := by rw [hord, List.getElem?_map, Array.getElem?_toList]
    show wpAny _ _ (match (((pickOrder (w.params.setOrder a ep) es)[i]?).map fun e => (e.2, (0 : Nat))) with | some (x, next) => _ | none => _) _ _ s
    cases hp : (pickOrder (w.params.setOrder a ep) es)[i]? with
    | none =>
      rw [hp] at hoi
      obtain ⟨⟨o1, g1, c1, d1⟩, k1⟩ := fld hI hd 2 .none
      exact wpAny_bind (wpAny_setField hI hd (by simp) (stop _ hoi k1))
    | some e =>
      rw [hp] at hoi
      obtain ⟨⟨o1, g1, c1, d1⟩, k1⟩ := fld hI hd 0 (rawInt (0 : Nat))
      obtain ⟨⟨o2, g2, c2, d2⟩, k2⟩ := fld g1 d1 1 (rawInt ((i : Int) + 1))
      refine wpAny_bind (wpAny_setField hI hd (by simp) (wpAny_bind (wpAny_setField g1 d1 (by simp) ?_)))
      have kk : ∀ b q, b ≠ I → s.heap.get? b = some q → _ := fun b q hb e' => k2 b q hb (k1 b q hb e')
      exact wpAny_pure ⟨_, rfl, wpAny_pure (item _ _ hoi ⟨⟨oa, kk a _ hne hoa, hda⟩, o2, rawInt 0, g2, c2.trans (c1.trans hc), by rw [d2]; simp [rawInt], .inl ⟨hb, rfl, hord⟩⟩ kk)⟩
  · refine wpAny_bind (wpAny_seqItems hop hdp ?_)
    show wpAny _ _ (match ((ps.map fun (p : Nat) => rawInt p).toArray)[i]? with | some (Value.int place tok) => _ | some _ => _ | none => _) _ _ s
    rw [List.getElem?_toArray, List.getElem?_map]
    cases hp : ps[i]? with
    | none =>
      have hoi : ord[i]? = none := List.getElem?_eq_none (by rw [hlen]; exact List.getElem?_eq_none_iff.mp hp)
      obtain ⟨⟨o1, g1, c1, d1⟩, k1⟩ := fld hI hd 0 (rawInt 0)
      obtain ⟨⟨o2, g2, c2, d2⟩, k2⟩ := fld g1 d1 2 .none
      exact wpAny_bind (wpAny_setField hI hd (by simp) (wpAny_bind (wpAny_setField g1 d1 (by simp) (stop _ hoi fun b q hb e' => k2 b q hb (k1 b q hb e')))))
    | some p =>
      obtain ⟨e, he, hoi⟩ := hps i p hp
      obtain ⟨⟨o1, g1, c1, d1⟩, k1⟩ := fld hI hd 1 (rawInt ((i : Int) + 1))
      refine wpAny_bind (show wpAny _ _ (setNextDrawn a p ep) _ _ s from nextDrawn hoa hda hf he (wpAny_bind (wpAny_setField hI hd (by simp) ?_)))
      exact wpAny_pure ⟨_, rfl, wpAny_pure (item _ _ hoi ⟨⟨oa, k1 a _ hne hoa, hda⟩, o1, _, g1, c1.trans hc, by rw [d1]; simp [rawInt], .inr (.inl ⟨hb, ps, op, c, rfl, k1 pl _ hnp hop, hdp, hlen, hps⟩)⟩ k1)⟩
  · refine wpAny_bind (setNextC hb hled h1 hoa hda hf ?_)
    have hpz : t.place.size = es.size := by
      have := hf
      unfold SetTable.fits at this
      rw [Bool.and_eq_true, beq_iff_eq] at this
      exact this.1
    show wpAny _ _ (match (match es[SetTable.below t.place sl]?, t.place[SetTable.below t.place sl]? with | some (_, x), some j => some (x, j + 1) | _, _ => none) with | some (x, next) => _ | none => _) _ _ s
    have fin : ord[i]? = none → wpAny (model P w) A.in1 (setField (.ref I) 2 .none >>= fun _ => newExc (.type "StopIteration") [] >>= fun e => (raiseNew e : Sem PySem.Fin)) _ _ s := fun hoi => by
      obtain ⟨⟨o1, g1, c1, d1⟩, k1⟩ := fld hI hd 2 .none
      exact wpAny_bind (wpAny_setField hI hd (by simp) (stop _ hoi k1))
    by_cases h0 : es.size = 0
    · have hp0 : t.place = #[] := Array.eq_empty_of_size_eq_zero (by omega)
      rw [below_nil hp0, Array.getElem?_eq_none (by omega)]
      exact fin (List.getElem?_eq_none (by omega))
    · have he1 : es.size = 1 := by omega
      obtain ⟨j, hj⟩ : ∃ j, t.place = #[j] := by
        have : t.place.size = 1 := by omega
        exact one_of this
      obtain ⟨b0, b1⟩ := below_one hj
      by_cases hi0 : i = 0
      · subst hi0
        rw [hs0 rfl, b0, hj, Array.getElem?_eq_getElem (show 0 < es.size by omega)]
        obtain ⟨⟨o1, g1, c1, d1⟩, k1⟩ := fld hI hd 0 (rawInt ((j + 1 : Nat) : Int))
        obtain ⟨⟨o2, g2, c2, d2⟩, k2⟩ := fld g1 d1 1 (rawInt (((0 : Nat) : Int) + 1))
        have hoi : ord[0]? = some es[0].2 := by rw [hord, List.getElem?_map, Array.getElem?_toList, Array.getElem?_eq_getElem (show 0 < es.size by omega)]; rfl
        have kk : ∀ b q, b ≠ I → s.heap.get? b = some q → _ := fun b q hb e' => k2 b q hb (k1 b q hb e')
        refine wpAny_bind (wpAny_setField hI hd (by simp) (wpAny_bind (wpAny_setField g1 d1 (by simp) ?_)))
        exact wpAny_pure ⟨_, rfl, wpAny_pure (item _ _ hoi ⟨⟨oa, kk a _ hne hoa, hda⟩, o2, rawInt ((j + 1 : Nat) : Int), g2, c2.trans (c1.trans hc), by rw [d2]; simp [rawInt], .inr (.inr ⟨hb, h1, hled, hord, j + 1, rfl, (fun z => by omega), fun _ j' hj' => by rw [hj] at hj'; simpa using hj'⟩)⟩ kk)⟩
      · rw [hs1 (by omega) j (by rw [hj]; rfl), b1, Array.getElem?_eq_none (by omega)]
        exact fin (List.getElem?_eq_none (by omega))
/-- the walk over such an iterator -/
theorem walk_set (hh : A.handled = none) (I a pl : Addr) {es : Array (Int × Value)} {ep : Nat} {t : SetTable} {ord : List Value} (hf : t.fits es.size = true) (hz : ord.length = es.size) (hne : a ≠ I) (hnp : pl ≠ I) :
    Walks P w A I [I, a, pl] [I] ord.length (fun i v => ord[i]? = some v) (fun i h => ItAt w I a pl es ep t ord i h) where
  sub := fun b hb => by rw [List.mem_singleton.mp hb]; exact List.mem_cons_self
  frame := fun i h h' st hk => by
    obtain ⟨⟨oa, hoa, hda⟩, oI, first, hI, hc, hd, mode⟩ := st
    refine ⟨⟨oa, hk a (by simp) _ hoa, hda⟩, oI, first, hk I (by simp) _ hI, hc, hd, ?_⟩
    rcases mode with m | ⟨hb, ps, op, c, e1, hop, rest⟩ | m
    · exact .inl m
    · exact .inr (.inl ⟨hb, ps, op, c, e1, hk pl (by simp) _ hop, rest⟩)
    · exact .inr (.inr m)
  item := fun i s Q E hi st hQ => by
    refine next_set hh hf hz hne hnp st (fun v h' hv st' kp => hQ v h' s.toks hv st' fun b o hb e => kp b o (fun z => hb (by simp [z])) e) (fun hn => ?_)
    rw [List.getElem?_eq_getElem hi] at hn
    cases hn
  done := fun s Q E st hQ => by
    refine next_set hh hf hz hne hnp st (fun v h' hv => ?_) (fun hn h' kp => hQ h' s.toks fun b o hb e => kp b o (fun z => hb (by simp [z])) e)
    rw [List.getElem?_eq_none (Nat.le_refl _)] at hv
    cases hv
  self := fun i s Q E st hQ => by
    obtain ⟨_, oI, first, hI, hc, _⟩ := st
    have hT : s.TypeIs (.ref I) "set_iterator" := ⟨oI, hI, hc⟩
    refine wpAny_pyIter_slot hT slot_sit_iter (wpAny_call_entry slot_sit_iter hT entry_sit_iter ?_ (args_sit_iter _))
    exact (show wpAny _ _ (ret (Value.ref I)) _ _ s from wpAny_pure ⟨_, rfl, "set_iterator", _, hT, slot_sit_next.lookup, hQ⟩)
/-- iter of a set of texts: some order of what it holds -/
theorem iter_set {s : Shared} {a : Addr} {ds : List Str} {Q : Value → Shared → Prop} (hS : SetTx P w a ds s.heap)
    (h : ∀ (I pl : Addr) (h' : Heap) (d' : Drawn) (es : Array (Int × Value)) (ep : Nat) (t : SetTable) (ord : List Value), (∀ b o, s.heap.get? b = some o → h'.get? b = some o) → s.heap.objs.size ≤ I → pl ≠ I → (pl = a ∨ s.heap.objs.size ≤ pl) → t.fits es.size = true → ord.length = es.size → ord.Perm (es.toList.map (·.2)) → (∀ v ∈ ord, ∃ z tk, v = .str z tk) → (ord.map txOf).Perm ds → ItAt w I a pl es ep t ord 0 h' → Q (.ref I) { s with heap := h', drawn := d' }) :
    wpAny (model P w) A (pyIter (.ref a)) Q E s := by
  obtain ⟨o, es, ep, t, ho, hex, hd, hel, htx, hpm, hb, hf, hmk⟩ := hS
  have hT : s.TypeIs (.ref a) "set" := ⟨o, ho, hex.1⟩
  have haI : a < s.heap.objs.size := Heap.lt_size ho
  refine wpAny_pyIter_slot hT PySem.F.slot_set_iter (wpAny_call_entry PySem.F.slot_set_iter hT entry_set_iter ?_ (PySem.F.args_set_iter_1 _))
  unfold Builtin.«frozenset.__iter__»
  have hvals : ∀ ord : List Value, ord.Perm (es.toList.map (·.2)) → ord.length = es.size ∧ (∀ v ∈ ord, ∃ z tk, v = .str z tk) ∧ (ord.map txOf).Perm ds := fun ord hp => by
    refine ⟨by rw [hp.length_eq, List.length_map, Array.length_toList], fun v hv => ?_, ?_⟩
    · obtain ⟨e, he, rfl⟩ := List.mem_map.mp (hp.mem_iff.mp hv)
      exact htx e he
    · have := hp.map txOf
      rw [List.map_map] at this
      exact this.trans hpm
  refine wpAny_bind (m := Builtin.Frozenset.slot0 "__iter__" _) (wpAny_pure ?_)
  refine wpAny_bind (show wpAny _ _ (setEntries a >>= fun x => pure x.size) _ _ s from wpAny_bind (wpAny_setEntries_of ho hd hf (wpAny_pure ?_)))
  refine wpAny_bind ?_
  unfold setDrawn
  refine wpAny_bind (wpAny_setState_of ho hd hf (wpAny_bind (byText_wp (wpAny_pure ?_))))
  show wpAny _ _ (if (!byTx w && (!t.plain && decide (es.size > 1))) = true then _ else _) _ _ s
  split
  · rename_i hdr
    rw [Bool.and_eq_true, Bool.and_eq_true, decide_eq_true_eq] at hdr
    have hb0 : byTx w = false := by simpa using hdr.1
    refine wpAny_bind (draw_any es.size (List.range es.size) s _ (by simp) fun ps d' hps => ?_)
    have hpl : ps.length = es.size := by rw [hps.length_eq, List.length_range]
    refine wpAny_bind (wpAny_newObj_type ?_ (by show (List.map _ ps).toArray.size ≤ sizeLine; rw [List.size_toArray, List.length_map, hpl]; exact fits_of_scanBound hb))
    have kp1 : ∀ b q, s.heap.get? b = some q → (s.heap.push { cls := .type "tuple", data := .seq (ps.map fun (p : Nat) => rawInt p).toArray }).get? b = some q := fun b q e => Heap.get?_push_of_some _ e
    refine wpAny_bind (wpAny_setEpoch_of (kp1 a _ ho) hd hf (wpAny_bind (wpAny_newObj_type ?_)))
    refine wpAny_pure ⟨_, rfl, "set_iterator", _, ⟨_, Heap.get?_push_size _ rfl, rfl⟩, slot_sit_next.lookup, ?_⟩
    have kp2 : ∀ b q, s.heap.get? b = some q → ((s.heap.push { cls := .type "tuple", data := .seq (ps.map fun (p : Nat) => rawInt p).toArray }).push { cls := .type "set_iterator", data := .fields #[.ref s.heap.objs.size, rawInt 0, .ref a, rawInt es.size, rawInt ep] }).get? b = some q := fun b q e => Heap.get?_push_of_some _ (kp1 b q e)
    have hin : ∀ p ∈ ps, p < es.size := fun p hp => List.mem_range.mp (hps.mem_iff.mp hp)
    have ho' : (ps.map fun p => (es.toList.map (·.2)).getD p .none).Perm (es.toList.map (·.2)) := by
      refine (hps.map _).trans (List.Perm.of_eq ?_)
      apply List.ext_getElem (by simp)
      intro k h1 h2
      simp at h2
      simp [h2]
    obtain ⟨h1, h2, h3⟩ := hvals _ ho'
    have sz : (s.heap.push { cls := .type "tuple", data := .seq (ps.map fun (p : Nat) => rawInt p).toArray }).objs.size = s.heap.objs.size + 1 := Heap.size_push ..
    refine h _ s.heap.objs.size _ d' es ep t _ kp2 (by rw [sz]; exact Nat.le_succ _) (Nat.ne_of_lt (by rw [sz]; exact Nat.lt_succ_self _)) (.inr (Nat.le_refl _)) hf h1 ho' h2 h3 ⟨⟨o, kp2 a _ ho, hd⟩, _, .ref s.heap.objs.size, Heap.get?_push_size _ rfl, rfl, rfl, .inr (.inl ⟨hb0, ps, _, _, rfl, Heap.get?_push_of_some _ (Heap.get?_push_size _ rfl), rfl, by rw [List.length_map], fun j p hj => ?_⟩)⟩
    have hp := hin p (List.mem_of_getElem? hj)
    refine ⟨es[p], Array.getElem?_eq_getElem hp, ?_⟩
    rw [List.getElem?_map, hj]
    simp [hp]
  · rename_i hdr
    refine wpAny_bind (wpAny_pure (wpAny_bind (wpAny_setEpoch_of ho hd hf (wpAny_bind (wpAny_newObj_type ?_)))))
    refine wpAny_pure ⟨_, rfl, "set_iterator", _, ⟨_, Heap.get?_push_size _ rfl, rfl⟩, slot_sit_next.lookup, ?_⟩
    have kp : ∀ b o, s.heap.get? b = some o → (s.heap.push { cls := .type "set_iterator", data := .fields #[rawInt 0, rawInt 0, .ref a, rawInt es.size, rawInt ep] }).get? b = some o := fun b o e => Heap.get?_push_of_some _ e
    cases hbt : byTx w with
    | true =>
      have hp : ((pickOrder (w.params.setOrder a ep) es).toList.map (·.2)).Perm (es.toList.map (·.2)) := (pick_perm _ es).map _
      obtain ⟨h1, h2, h3⟩ := hvals _ hp
      exact h s.heap.objs.size a _ s.drawn es ep t _ kp (Nat.le_refl _) (Nat.ne_of_lt haI) (.inl rfl) hf h1 hp h2 h3 ⟨⟨o, kp a _ ho, hd⟩, _, rawInt 0, Heap.get?_push_size _ rfl, rfl, rfl, .inl ⟨hbt, rfl, rfl⟩⟩
    | false =>
      have hsz : es.size ≤ 1 := by
        rw [hbt] at hdr
        rcases hmk.2 with h0 | h0
        · omega
        · rw [h0] at hdr
          simp at hdr
          omega
      obtain ⟨h1, h2, h3⟩ := hvals _ (.refl _)
      exact h s.heap.objs.size a _ s.drawn es ep t _ kp (Nat.le_refl _) (Nat.ne_of_lt haI) (.inl rfl) hf h1 (.refl _) h2 h3 ⟨⟨o, kp a _ ho, hd⟩, _, rawInt 0, Heap.get?_push_size _ rfl, rfl, rfl, .inr (.inr ⟨hbt, hsz, by rw [hmk.1, hbt]; rfl, rfl, 0, rfl, fun _ => rfl, fun z => absurd z (Nat.lt_irrefl _)⟩)⟩
end
end L2

set_option Elab.async false
set_option linter.all false
set_option maxRecDepth 100000
set_option maxHeartbeats 4000000
namespace L2
open PySem PySem.Spec PyProof.Rows
theorem txOf_strOf (v : Value) (h : ∃ z tk, v = .str z tk) : txOf v = strOf v := by
  obtain ⟨z, tk, rfl⟩ := h
  rfl
section
variable {P : Program} {w : World} {A : Around} {E : Value → Shared → Prop}
theorem hint_set {s : Shared} {r : Addr} {Q : Bool → Shared → Prop} (hT : s.TypeIs (.ref r) "set") (h : Q false s) : wpAny (model P w) A (Builtin.List.listLengthHint (.ref r)) Q E s := by
  unfold Builtin.List.listLengthHint
  refine wpAny_bind (wpAny_specialOf hT PySem.F.slot_set_len.lookup ?_)
  generalize hid : ("set.__len__" : String) = id0
  wp_delta
  rw [show splitId id0 = some ("set", "__len__") from by subst hid; decide +kernel]
  subst hid
  refine wpAny_bind (wpAny_isInstance (T := "set") (b := true) hT PySem.sub_set_self ?_)
  refine wpAny_ite_split (fun hab => absurd hab (by decide)) (fun _ => ?_)
  refine wpAny_ite_split (fun _ => ?_) (fun hab => absurd (by decide +kernel) hab)
  exact wpAny_bind (wpAny_typeOf hT (wpAny_pure h))
abbrev lO (xs : Array Value) (c : Nat) : Obj := { cls := .type "list", dict := none, data := .seq xs c, slots := #[] }
/-- what `collect` takes out of a thing whose iterator is walked -/
theorem collect_gen {s : Shared} {a : Addr} {T : String} {oa : Obj} {n : Nat} {Gd : (Nat → Value → Prop) → Prop} {R : List Value → Shared → Prop} (hoa : s.heap.get? a = some oa) (hca : oa.cls = .type T) (hT2 : (Value.type T == .type "list" || Value.type T == .type "tuple") = false) (hn1 : n ≤ sizeLine)
    (hnt : ∀ (s1 : Shared) (Q : Bool → Shared → Prop) (E : Value → Shared → Prop), s1.TypeIs (.ref a) T → Q false s1 → wpAny (model P w) A.in1 (Builtin.List.listLengthHint (.ref a)) Q E s1)
    (it : ∀ (Q : Value → Shared → Prop) (E : Value → Shared → Prop), (∀ (I : Addr) (fp : List Addr) (h1 : Heap) (d1 : Drawn) (St : Nat → Heap → Prop) (Pi : Nat → Value → Prop), Gd Pi → (∀ b o, (s.heap.push (lO #[] 0)).get? b = some o → h1.get? b = some o) → s.heap.objs.size < I → s.heap.objs.size ∉ fp → Walks P w A.in1 I fp [I] n Pi St → St 0 h1 → Q (.ref I) { s with heap := h1, drawn := d1 }) → wpAny (model P w) A.in1 (pyIter (.ref a)) Q E { s with heap := s.heap.push (lO #[] 0) })
    (h : ∀ (h' : Heap) (tk : Nat) (d' : Drawn) (acc : Array Value) (Pi : Nat → Value → Prop), Gd Pi → (∀ b o, s.heap.get? b = some o → h'.get? b = some o) → s.heap.objs.size ≤ h'.objs.size → ItemsOf Pi acc n → R acc.toList { s with heap := h', toks := tk, drawn := d' }) :
    wpAny (model P w) A (collect (.ref a)) R E s := by
  have haS : a ≠ s.heap.objs.size := Nat.ne_of_lt (Heap.lt_size hoa)
  unfold collect
  refine wpAny_bind (wpAny_runValue (codeAny_builtin entry_proto_collect' ?_))
  rw [Around.under_plainId PySem.F.plain_proto_collect _]
  refine (show wpAny _ A.in1 (newList [] >>= fun l => again (.builtin "list.__iadd__" ⟨[l, .ref a], []⟩)) _ _ s from wpAny_bind (wpAny_newObj_type (wpAny_pure ⟨plainId_quiet PySem.F.plain_list_iadd _, codeAny_builtin entry_list_iadd' ?_⟩)))
  rw [Around.under_plainId PySem.F.plain_list_iadd _]
  have kp0 : ∀ b o, s.heap.get? b = some o → (s.heap.push (lO #[] 0)).get? b = some o := fun b o e => Heap.get?_push_of_some _ e
  have gS : (s.heap.push (lO #[] 0)).get? s.heap.objs.size = some (lO #[] 0) := Heap.get?_push_size _ rfl
  have hT1 : Shared.TypeIs { s with heap := s.heap.push (lO #[] 0) } (.ref a) T := ⟨oa, kp0 a _ hoa, hca⟩
  refine (show wpAny _ A.in1 (Builtin.List.listExtendWith (.ref s.heap.objs.size) (.ref a) (.ref s.heap.objs.size)) _ _ { s with heap := s.heap.push (lO #[] 0) } from ?_)
  unfold Builtin.List.listExtendWith
  refine wpAny_bind (wpAny_typeOf hT1 ?_)
  have h1 : Builtin.List.listSameRef (.ref s.heap.objs.size) (.ref a) = false := by simp [Builtin.List.listSameRef, haS.symm]
  rw [if_neg (by rw [h1, Bool.false_or, hT2]; exact Bool.false_ne_true)]
  refine wpAny_bind (it _ _ fun I fp h1 d1 St Pi hgd kp hI hSf Wk0 st => ?_)
  have kp1 : ∀ b o, s.heap.get? b = some o → h1.get? b = some o := fun b o e => kp b o (kp0 b o e)
  have hI' : s.heap.objs.size ≤ I := Nat.le_of_lt hI
  refine wpAny_bind (wpAny_holding (hnt _ _ _ ⟨oa, kp1 a _ hoa, hca⟩ ?_))
  have gS1 := kp _ _ gS
  have loop : ∀ (h2 : Heap) (c : Nat), St 0 h2 → (∀ b o, b ≠ s.heap.objs.size → h1.get? b = some o → h2.get? b = some o) → h2.get? s.heap.objs.size = some (lO #[] c) →
      codeAny (model P w) A (.builtin "list.extend.loop" ⟨[.ref s.heap.objs.size, .ref I, .ref s.heap.objs.size], []⟩) (fun q s' => ∃ (h' : Heap) (tk : Nat) (acc : Array Value) (c' : Nat), q = .ok (.ret (.ref s.heap.objs.size)) ∧ s' = { s with heap := h', toks := tk, drawn := d1 } ∧ (∀ b o, s.heap.get? b = some o → h'.get? b = some o) ∧ h'.get? s.heap.objs.size = some (lO acc c') ∧ ItemsOf Pi acc n) { s with heap := h2, drawn := d1 } := fun h2 c st2 k2 g2 => by
    refine codeAny_extend_loopS Wk0.toS hn1 s.heap.objs.size hSf (.ref s.heap.objs.size) n 0 { s with heap := h2, drawn := d1 } #[] c rfl (Nat.zero_le _) st2 g2 (ItemsOf.nil _) fun s' acc' c' hm gS' hacc => ?_
    obtain ⟨h', g', d', tk', os'⟩ := s'
    have eg : g' = s.gens := hm.gens
    have ed : d' = d1 := hm.drawn
    have eo : os' = s.os := hm.os
    subst eg ed eo
    refine ⟨h', tk', acc', c', rfl, rfl, fun b o e => ?_, gS', hacc⟩
    have hb : b < s.heap.objs.size := Heap.lt_size e
    refine hm.heap b o (fun z => ?_) (k2 b o (Nat.ne_of_lt hb) (kp1 b o e))
    rcases List.mem_cons.mp z with z | z
    · exact absurd z (Nat.ne_of_lt hb)
    · exact absurd (List.mem_singleton.mp z) (Nat.ne_of_lt (Nat.lt_of_lt_of_le hb hI'))
  refine wpAny_ite_split (fun _ => ?_) (fun _ => ?_)
  · refine wpAny_bind (wpAny_rule (wpAny_bind ?_))
    refine (show wpAny _ _ (updateSeq s.heap.objs.size (·.push .none) >>= fun _ => updateSeq s.heap.objs.size (·.pop)) _ _ _ from wpAny_bind (wpAny_updateSeq gS1 rfl ?_))
    have gS2 := Heap.get?_update_self (Obj.mapSeq (·.push Value.none)) gS1 rfl
    refine wpAny_updateSeq (hz := by seq_fits) gS2 rfl ?_
    have gS3 := Heap.get?_update_self (Obj.mapSeq (·.pop)) gS2 rfl
    have oth : ∀ b o, b ≠ s.heap.objs.size → h1.get? b = some o → ((h1.update s.heap.objs.size (Obj.mapSeq (·.push Value.none))).update s.heap.objs.size (Obj.mapSeq (·.pop))).get? b = some o := fun b o hb e => (Heap.get?_update_other _ _ (Ne.symm hb)).trans ((Heap.get?_update_other _ _ (Ne.symm hb)).trans e)
    have st3 := Wk0.frame 0 h1 _ st fun b hb o e => oth b o (fun z => hSf (z ▸ hb)) e
    refine wpAny_pure ⟨plainId_quiet PySem.F.plain_extend_loop _, codeAny_mono (loop _ _ st3 oth gS3) fun q s2 y => ?_⟩
    obtain ⟨h', tk, acc, c', rfl, rfl, hk, hS', hacc⟩ := y
    exact (show wpAny _ A (load s.heap.objs.size >>= _) _ _ _ from wpAny_bind (wpAny_load hS' (wpAny_pure (h h' tk d1 acc Pi hgd hk (Nat.le_of_lt (Heap.lt_size hS')) hacc))))
  · refine wpAny_pure ⟨plainId_quiet PySem.F.plain_extend_loop _, codeAny_mono (loop _ _ st (fun _ _ _ e => e) gS1) fun q s2 y => ?_⟩
    obtain ⟨h', tk, acc, c', rfl, rfl, hk, hS', hacc⟩ := y
    exact (show wpAny _ A (load s.heap.objs.size >>= _) _ _ _ from wpAny_bind (wpAny_load hS' (wpAny_pure (h h' tk d1 acc Pi hgd hk (Nat.le_of_lt (Heap.lt_size hS')) hacc))))
theorem collect_set {s : Shared} {a : Addr} {ds : List Str} {R : List Value → Shared → Prop} (hh : A.handled = none) (hS : SetTx P w a ds s.heap) (hn : ds.length ≤ 1000)
    (h : ∀ (h' : Heap) (tk : Nat) (d' : Drawn) (vs : List Value), (∀ b o, s.heap.get? b = some o → h'.get? b = some o) → s.heap.objs.size ≤ h'.objs.size → (∀ v ∈ vs, ∃ z tk, v = .str z tk) → (vs.map txOf).Perm ds → R vs { s with heap := h', toks := tk, drawn := d' }) :
    wpAny (model P w) A (collect (.ref a)) R E s := by
  obtain ⟨oa, hoa, hexa⟩ : ∃ o, s.heap.get? a = some o ∧ o.ExactSet := by
    obtain ⟨o, es, ep, t, ho, hex, _⟩ := hS
    exact ⟨o, ho, hex⟩
  have haS : a < s.heap.objs.size := Heap.lt_size hoa
  have hS1 : SetTx P w a ds (s.heap.push (lO #[] 0)) := by
    obtain ⟨o, es, ep, t, ho, rest⟩ := hS
    exact ⟨o, es, ep, t, Heap.get?_push_of_some _ ho, rest⟩
  have sz : (s.heap.push (lO #[] 0)).objs.size = s.heap.objs.size + 1 := Heap.size_push ..
  have hh2 : A.in1.handled = none := by simpa using hh
  refine collect_gen (n := ds.length) (Gd := fun Pi => ∃ ord : List Value, (Pi = fun i v => ord[i]? = some v) ∧ (∀ v ∈ ord, ∃ z tk, v = .str z tk) ∧ (ord.map txOf).Perm ds) hoa hexa.1 (by decide) (Nat.le_trans hn (by decide)) (fun s1 Q E hT q => hint_set hT q) (fun Q E q => ?_) fun h' tk d' acc Pi hgd kp hle hacc => ?_
  · refine iter_set (A := A.in1) hS1 fun I pl h1 d1 es ep t ord kp hI hplI hpla hf hz hpo hst hpm st => ?_
    rw [show ({ s with heap := s.heap.push (lO #[] 0) } : Shared).heap.objs.size = s.heap.objs.size + 1 from sz] at hI hpla
    have haI : a ≠ I := Nat.ne_of_lt (Nat.lt_of_lt_of_le haS (Nat.le_of_succ_le hI))
    have hl : ord.length = ds.length := by rw [← hpm.length_eq, List.length_map]
    have Wk := walk_set (P := P) (w := w) (A := A.in1) hh2 I a pl (ep := ep) hf hz haI hplI
    rw [hl] at Wk
    refine q I [I, a, pl] h1 d1 _ _ ⟨ord, rfl, hst, hpm⟩ kp hI (fun z => ?_) Wk st
    rcases List.mem_cons.mp z with z | z
    · exact absurd z (Nat.ne_of_lt hI)
    · rcases List.mem_cons.mp z with z | z
      · exact absurd z.symm (Nat.ne_of_lt haS)
      · have e := List.mem_singleton.mp z
        rcases hpla with e' | e'
        · rw [e'] at e
          exact absurd e.symm (Nat.ne_of_lt haS)
        · exact absurd e (Nat.ne_of_lt e')
  · obtain ⟨ord, rfl, hst, hpm⟩ := hgd
    have hl : ord.length = ds.length := by rw [← hpm.length_eq, List.length_map]
    have eord : acc.toList = ord := by
      apply List.ext_getElem?
      intro k
      by_cases hk : k < acc.size
      · have := hacc.2 k acc[k] (Array.getElem?_eq_getElem hk)
        rw [Array.getElem?_toList, Array.getElem?_eq_getElem hk, this]
      · rw [List.getElem?_eq_none (by rw [Array.length_toList]; omega), List.getElem?_eq_none (by rw [hl, ← hacc.1]; omega)]
    rw [eord]
    exact h h' tk d' ord kp hle hst hpm
/-- and out of a dict whose keys are texts -/
theorem collect_dict {s : Shared} {a : Addr} {vs : List (Key × Value)} {ds : List Str} {R : List Value → Shared → Prop} (hh : A.handled = none) (lo : (a == sysModules) = false) (hD : s.heap.DictOf (mixKind P w) a vs) (hk : vs.map (·.1) = ds.map Sum.inr) (hn : ds.length ≤ 1000)
    (h : ∀ (h' : Heap) (tk : Nat) (d' : Drawn) (us : List Value), (∀ b o, s.heap.get? b = some o → h'.get? b = some o) → s.heap.objs.size ≤ h'.objs.size → (∀ v ∈ us, ∃ z tk, v = .str z tk) → (us.map txOf).Perm ds → R us { s with heap := h', toks := tk, drawn := d' }) :
    wpAny (model P w) A (collect (.ref a)) R E s := by
  obtain ⟨oa, hoa, hca⟩ := hD.typeIs (s := s)
  obtain ⟨ep, hat⟩ := hD.dictAt
  have haS : a < s.heap.objs.size := Heap.lt_size hoa
  have sz : (s.heap.push (lO #[] 0)).objs.size = s.heap.objs.size + 1 := Heap.size_push ..
  have hh2 : A.in1.handled = none := by simpa using hh
  have hl : vs.length = ds.length := by have := congrArg List.length hk; simpa using this
  refine collect_gen (n := vs.length) (Gd := fun Pi => Pi = fun i v => ∃ k x, vs[i]? = some (k, x) ∧ (mixKind P w).is k v = true) hoa hca (by decide) (Nat.le_trans (by rw [hl]; exact hn) (by decide)) (fun s1 Q E hT q => PySem.W.kdl_hint_dict hT q) (fun Q E q => ?_) fun h' tk d' acc Pi hgd kp hle hacc => ?_
  · have Wk := Walks.dictKeys (prog := P) (w := w) (A := A.in1) (knd := mixKind P w) hh2 (s.heap.push (lO #[] 0)).objs.size a (Nat.ne_of_lt (by rw [sz]; exact Nat.lt_succ_of_lt haS)) vs ep
    have hat1 := hat.push (lO #[] 0)
    refine wpAny_pyIter_dict (s := { s with heap := s.heap.push (lO #[] 0) }) lo hat1 (q _ _ _ s.drawn _ _ rfl (fun b o e => Heap.get?_push_of_some _ e) (by rw [sz]; exact Nat.lt_succ_self _) (fun z => ?_) Wk ⟨⟨_, Heap.get?_push_size _ rfl, rfl, rfl⟩, hat1.push _⟩)
    rcases List.mem_cons.mp z with z | z
    · rw [sz] at z
      exact absurd z (Nat.ne_of_lt (Nat.lt_succ_self _))
    · exact absurd (List.mem_singleton.mp z).symm (Nat.ne_of_lt haS)
  · subst hgd
    have all : ∀ (k : Nat) (hk' : k < acc.size), ∃ tk, acc[k] = .str (ds[k]'(by rw [← hl, ← hacc.1]; exact hk')) tk := fun k hk' => by
      obtain ⟨key, x, e1, e2⟩ := hacc.2 k acc[k] (Array.getElem?_eq_getElem hk')
      have : (vs.map (·.1))[k]? = some key := by rw [List.getElem?_map, e1]; rfl
      rw [hk, List.getElem?_map, List.getElem?_eq_getElem (by rw [← hl, ← hacc.1]; exact hk')] at this
      cases this
      rw [mixKind_is] at e2
      rcases keyIs_shape e2 with ⟨i, t, e, _⟩ | ⟨y, t, e, e3⟩
      · cases e
      · cases e
        exact ⟨t, e3⟩
    refine h h' tk d' acc.toList kp hle (fun v hv => ?_) (.of_eq ?_)
    · obtain ⟨k, hk', rfl⟩ := List.getElem_of_mem hv
      obtain ⟨t, e⟩ := all k (by simpa using hk')
      exact ⟨_, t, by simpa using e⟩
    · apply List.ext_getElem
      · rw [List.length_map, Array.length_toList, hacc.1, hl]
      · intro k h1 h2
        obtain ⟨t, e⟩ := all k (by simpa using h1)
        rw [List.getElem_map, Array.getElem_toList, e]
        rfl
theorem sort_tx {s : Shared} {D : Addr} {vs : List Value} {n : Nat} {Q : Value → Shared → Prop} (ho : s.heap.get? D = some (seqObj "list" vs.toArray n)) (hv : ∀ v ∈ vs, ∃ z tk, v = .str z tk) (h64 : vs.length < 64)
    (h : ∀ (h' : Heap) (out : List Value) (ss : List Str) (e : Nat), (∀ b o, b ≠ D → s.heap.get? b = some o → h'.get? b = some o) → h'.get? D = some (seqObj "list" out.toArray e) → StrsAre out ss → ss.Perm (vs.map txOf) → sortedS ss = true → Q .none { s with heap := h' }) :
    wpAny (model P w) A (call (.builtin "list.sort") [.ref D]) Q E s := by
  have hS := strsAre_map vs fun v hm => hv v hm
  have hm : vs.map strOf = vs.map txOf := List.map_congr_left fun v hm => (txOf_strOf v (hv v hm)).symm
  refine wpAny_call_entry slot_list_sort ⟨_, ho, rfl⟩ entry_list_sort (list_sort_treeK strKind_oneLt ho hS.keysOf (fun v₁ v₂ rest e => keyKind_strs (by rw [← e]; exact hS)) h64 fun st' hp hs => ⟨_, rfl, ?_⟩) (args_list_sort _)
  obtain ⟨ss', h1, h2, h3⟩ := sorted_out_str hS hp hs
  obtain ⟨e, he⟩ := sortedHeap_at (out := (arrOf st').map (·.2)) ho
  exact h _ ((arrOf st').map (·.2)).toList ss' e (fun b o hb eo => (sortedHeap_old hb (Heap.lt_size eo)).trans eo) he h1 (by rw [← hm]; exact h2) h3
end
end L2

set_option Elab.async false
set_option linter.all false
set_option maxRecDepth 100000
set_option maxHeartbeats 4000000
namespace L2
open PySem PySem.Spec PyProof.Rows
section
variable {P : Program} {w : World} {A : Around} {E : Value → Shared → Prop}
theorem sorted_via {s : Shared} {a : Addr} {ds : List Str} {Q : Value → Shared → Prop}
    (hcol : ∀ (R : List Value → Shared → Prop), (∀ (h' : Heap) (tk : Nat) (d' : Drawn) (vs : List Value), (∀ b o, s.heap.get? b = some o → h'.get? b = some o) → s.heap.objs.size ≤ h'.objs.size → (∀ v ∈ vs, ∃ z tk, v = .str z tk) → (vs.map txOf).Perm ds → R vs { s with heap := h', toks := tk, drawn := d' }) → wpAny (model P w) A.in1 (collect (.ref a)) R E s) (h64 : ds.length < 64)
    (h : ∀ (D : Addr) (h' : Heap) (tk : Nat) (d' : Drawn) (out : List Value) (ss : List Str) (e : Nat), (∀ b o, s.heap.get? b = some o → h'.get? b = some o) → s.heap.objs.size ≤ D → h'.get? D = some (seqObj "list" out.toArray e) → StrsAre out ss → ss.Perm ds → sortedS ss = true → Q (.ref D) { s with heap := h', toks := tk, drawn := d' }) :
    wpAny (model P w) A (call (.builtin "sorted") [.ref a]) Q E s := by
  refine Calls.call_function_entry kind_sorted plain_sorted entry_sorted (args_sorted1 _) ?_
  unfold Builtin.«sorted»
  refine wpAny_bind (m := checkCount "sorted" 1 1 _) (wpAny_pure (wpAny_bind (hcol _ fun h1 tk d1 vs kp hle hst hpm => ?_)))
  have hl : vs.length = ds.length := by rw [← hpm.length_eq, List.length_map]
  refine wpAny_bind (wpAny_newList ?_ (by rw [hl]; exact Nat.le_trans (Nat.le_of_lt h64) (by decide)))
  have gD : (h1.push (seqObj "list" vs.toArray 0)).get? h1.objs.size = some (seqObj "list" vs.toArray 0) := Heap.get?_push_size _ rfl
  refine wpAny_bind (wpAny_holding (sort_tx gD hst (by omega) fun h2 out ss e k2 g2 hs hp hS => ?_))
  refine wpAny_pure ⟨_, rfl, h h1.objs.size h2 tk d1 out ss e (fun b o eb => ?_) ?_ g2 hs (hp.trans hpm) hS⟩
  · have hb := kp b o eb
    exact k2 b o (Nat.ne_of_lt (Heap.lt_size hb)) (Heap.get?_push_of_some _ hb)
  · exact hle
end
/-! ### one sorted list -/
def sortedT (l : List Str) : Prop := sortedS l = true
theorem rising_pw : ∀ (p : Str) (l : List Str), risingS p l = true → (p :: l).Pairwise fun a b => a.cps.toList ≤ b.cps.toList
  | p, [], _ => by simp
  | p, x :: r, h => by
    unfold risingS at h
    rw [Bool.and_eq_true] at h
    have ih := rising_pw x r h.2
    have hpx : p.cps.toList ≤ x.cps.toList := fun z => by
      have := h.1
      rw [ltCps_eq, decide_eq_true z] at this
      cases this
    rw [List.pairwise_cons]
    refine ⟨fun b hb => ?_, ih⟩
    rcases List.mem_cons.mp hb with rfl | hb
    · exact hpx
    · exact List.le_trans hpx (List.rel_of_pairwise_cons ih hb)
theorem sorted_pw {l : List Str} (h : sortedS l = true) : l.Pairwise fun a b => a.cps.toList ≤ b.cps.toList := by
  cases l with
  | nil => exact .nil
  | cons x r => exact rising_pw x r h
theorem str_eq {a b : Str} (h : a.cps.toList = b.cps.toList) : a = b := by
  obtain ⟨⟨x⟩⟩ := a
  obtain ⟨⟨y⟩⟩ := b
  have : x = y := h
  subst this
  rfl
theorem sorted_one {l₁ l₂ : List Str} (h1 : sortedS l₁ = true) (h2 : sortedS l₂ = true) (p : l₁.Perm l₂) : l₁ = l₂ :=
  List.Perm.eq_of_pairwise (fun a b _ _ h h' => str_eq (List.le_antisymm h h')) (sorted_pw h1) (sorted_pw h2) p
theorem perm_same {l₁ l₂ : List Str} (n1 : l₁.Nodup) (n2 : l₂.Nodup) (h : ∀ z, z ∈ l₁ ↔ z ∈ l₂) : l₁.Perm l₂ := (List.perm_ext_iff_of_nodup n1 n2).mpr h
theorem Inv.drawn {X : Cx} {pins : List (Addr × Obj)} {σ : List (Option V)} {H : Hp} {s : Shared} (I : Inv X pins σ H s) (d' : Drawn) : Inv X pins σ H { s with drawn := d' } := ⟨I.ok, I.os, I.bare, I.base, I.loc, I.cell, I.free, I.freeC, I.pin, I.hok, I.len⟩
theorem vals_tx : ∀ {us : List Value} {ss : List Str}, StrsAre us ss → Vals (ss.map V.str) us
  | _, _, .nil => .nil
  | _, _, .cons y t h => .cons ⟨t, rfl⟩ (vals_tx h)
theorem call_sorted_set {X : Cx} (hc : X.calm = true) : CallR X (.builtin "sorted") (fun xs H Q => ∃ (a : Addr) (ds : List Str), xs = [.ref a] ∧ H a = some (SetH X.prog X.w a ds) ∧ ds.length < 64 ∧ ∀ (l : Addr) (ss : List Str), H l = none → ss.Perm ds → sortedS ss = true → Q (.ref l) (upd H l (.lst (ss.map V.str)))) := by
  intro pins s σ H xs us Q I r h
  obtain ⟨a, ds, rfl, ea, hn, q⟩ := h
  obtain ⟨u, rfl, rx⟩ := vals1 r
  cases rx
  obtain ⟨hS, _⟩ := (show ObjOk X.prog X.w H s.heap a (SetH X.prog X.w a ds) from I.hok a _ ea)
  refine sorted_via (ds := ds) (fun R hR => collect_set (A := X.A.in1) (by simpa using I.ok.hd hc) hS (by omega) hR) hn fun D h' tk d' out ss e kp hD g hs hp hS' => ?_
  have hl : ss.length < 64 := by rw [hp.length_eq]; exact hn
  exact ⟨.ref D, _, (I.drawn d').laid (t' := tk) kp hD (show ObjOk X.prog X.w _ h' _ (.lst (ss.map V.str)) from ⟨by rw [List.length_map]; exact Nat.le_trans (Nat.le_of_lt hl) (by decide), out, e, vals_tx hs, g⟩), rfl, q D ss (I.hok.fresh hD) hp hS'⟩
theorem call_sorted_dict {X : Cx} (hc : X.calm = true) : CallR X (.builtin "sorted") (fun xs H Q => ∃ (a : Addr) (kvs : List (Key × V)) (ds : List Str), xs = [.ref a] ∧ H a = some (.dK kvs) ∧ kvs.map (·.1) = ds.map Sum.inr ∧ ds.length < 64 ∧ ∀ (l : Addr) (ss : List Str), H l = none → ss.Perm ds → sortedS ss = true → Q (.ref l) (upd H l (.lst (ss.map V.str)))) := by
  intro pins s σ H xs us Q I r h
  obtain ⟨a, kvs, ds, rfl, ea, hk, hn, q⟩ := h
  obtain ⟨u, rfl, rx⟩ := vals1 r
  cases rx
  obtain ⟨hz0, lo, vs, rv, dd⟩ := dk_of I.hok ea
  have hkv : vs.map (·.1) = ds.map Sum.inr := by
    rw [← hk]
    clear dd hk ea hz0
    induction rv with
    | nil => rfl
    | cons h _ ih => rw [List.map_cons, List.map_cons, ih, h.1]
  refine sorted_via (ds := ds) (fun R hR => collect_dict (A := X.A.in1) (by simpa using I.ok.hd hc) lo dd hkv (by omega) hR) hn fun D h' tk d' out ss e kp hD g hs hp hS' => ?_
  have hl : ss.length < 64 := by rw [hp.length_eq]; exact hn
  exact ⟨.ref D, _, (I.drawn d').laid (t' := tk) kp hD (show ObjOk X.prog X.w _ h' _ (.lst (ss.map V.str)) from ⟨by rw [List.length_map]; exact Nat.le_trans (Nat.le_of_lt hl) (by decide), out, e, vals_tx hs, g⟩), rfl, q D ss (I.hok.fresh hD) hp hS'⟩
end L2

set_option Elab.async false
set_option linter.all false
set_option maxRecDepth 100000
set_option maxHeartbeats 4000000
namespace L2
open PySem PySem.Spec PyProof.Rows
/-- a comprehension whose target is of any kind, nothing of the frame read in it -/
def tLCompT (n : Nat) (wi : TI) (g : TG) (tt : TT) (te : TE) : TE := fun σ H Q => wi σ H fun J H1 => ∃ W : Nat → Nat → List V → Hp → Prop, (∃ m, W 0 m [] H1) ∧ ∀ i m vs H, W i m vs H → vs.length ≤ sizeLine ∧
  ((J.stop i H ∧ ∀ D, H D = none → Q (.ref D) (upd H D (.lst vs))) ∨
   (J.go i H ∧ ∀ v H', J.yld i H v H' → g v (List.replicate n none) H' fun σ2 H2 => tt σ2 H2 fun b H3 => if b = true then te σ2 H3 fun y H4 => ∃ m', m' < m ∧ W (i + 1) m' (vs ++ [y]) H4 else ∃ m', m' < m ∧ W (i + 1) m' vs H3))
theorem pe_lcompT {X : Cx} {elt iter tg : Expr} {pos : Pos} {ifs : List Expr} {scope : Scope} {cl : List (Str × Addr)} (NY : List Str) {wi : TI} {g : TG} {tt : TT} {te : TE}
    (hc : X.calm = true) (hclos : closureFor scope X.env = pure cl) (hcell : ∀ y ∈ scope.names, y.2 ≠ .cell) (hkind : scope.kind = .function) (hnames : ∀ y ∈ scope.names, y.2 = .local → scope.names.lookup y.1 = some .local)
    (hcl : ClOk cl X.env.cells) (hall : (scope.names.all fun y => y.2 != .free || (cl.lookup y.1).isSome) = true)
    (hi : PI X tg iter wi) (hg : ∀ C s H fp, PG (cxComp X scope cl NY C s H fp) tg g)
    (hY : ∀ C s H fp, PIfs (cxComp X scope cl NY C s H fp) ifs tt ∧ PE (cxComp X scope cl NY C s H fp) elt te)
    (hs : ∀ v, foldedSetIterable iter X.env v = pure v := by intro _; rfl) :
    PE X (.ListComp elt [⟨tg, iter, ifs, 0⟩] scope pos) (tLCompT NY.length wi g tt te) := by
  intro pins s σ H Q I h
  rw [eval_ListComp]
  refine wpAny_comprehension_free (use := none) rfl hs hclos hkind hnames (wpAny_mono (hi pins s σ H _ I h) (fun v s1 h1 => wpAny_mono h1 (fun itv s2 h2 => ?_) fun _ _ e => e) fun _ _ e => e)
  obtain ⟨it, fp, tn, J, H2, rfl, I2, T, st2, f2, W, ⟨m0, w0⟩, turn⟩ := h2
  refine wpAny_newObj_type (wpAny_newFunctionEnv hcell (by intro y hy; simp at hy) (fun h₁ hns₁ hsb₁ => ?_) hkind)
  dsimp only at hns₁ hsb₁ ⊢
  generalize hP2 : s2.heap.push { cls := .type "list", dict := none, data := .seq ([] : List Value).toArray } = P2 at hns₁ hsb₁ ⊢
  have hC : P2.objs.size = s2.heap.objs.size + 1 := by rw [← hP2, Heap.size_push]
  have hDC : s2.heap.objs.size ≠ P2.objs.size := by rw [hC]; exact Nat.ne_of_lt (Nat.lt_succ_self _)
  have hCle : s2.heap.objs.size ≤ P2.objs.size := by rw [hC]; exact Nat.le_succ _
  have below : ∀ b, b < s2.heap.objs.size → b ≠ P2.objs.size ∧ b ≠ s2.heap.objs.size := fun b hb => ⟨by rw [hC]; exact Nat.ne_of_lt (Nat.lt_succ_of_lt hb), Nat.ne_of_lt hb⟩
  have old : ∀ b o, s2.heap.get? b = some o → h₁.get? b = some o := fun b o e => hsb₁.extBut b o (below b (Heap.lt_size e)).1 (Heap.get?_push_of_some _ (hP2 ▸ Heap.get?_push_of_some _ e))
  have hacc : h₁.get? s2.heap.objs.size = some { cls := .type "list", data := .seq ([] : List Value).toArray } := hsb₁.extBut _ _ hDC (Heap.get?_push_of_some _ (hP2 ▸ Heap.get?_push_size _ rfl))
  have fpl : ∀ b ∈ fp, b < s2.heap.objs.size := fun b hb => by
    obtain ⟨o, e, _⟩ := T.obj _ _ st2 b hb
    exact Heap.lt_size e
  have tlt : ∀ b o, H2 b = some o → b < s2.heap.objs.size := fun b o e => I2.hok.lt e
  generalize hCg : P2.objs.size = C at hns₁ hsb₁ hDC hCle below ⊢
  generalize hDg : s2.heap.objs.size = D at hDC below hacc fpl tlt ⊢
  have hDle : D ≤ C := by rw [← hDg]; exact hCle
  have cls : ∀ y c, cl.lookup y = some c → X.env.cells.lookup y = some c := fun y c e => hcl.mem e
  have clt : ∀ y c, cl.lookup y = some c → c < D := fun y c e => by
    obtain ⟨v, q⟩ := I2.cell y c (cls y c e)
    rw [← hDg]; exact q.lt
  have sub : ∀ b ∈ frs X.stack, b < D := fun b hb => by
    rcases List.mem_cons.mp (I2.stkSub b hb) with e | hb
    · rw [e, ← hDg]; exact I2.lt
    · obtain ⟨_, o, ho, _⟩ := I2.ok.funs.mem hb
      rw [← hDg]; exact Nat.lt_of_lt_of_le (Heap.lt_size ho) I2.sz
  obtain ⟨YI, YE⟩ := hY C s2 H2 fp
  have YG := hg C s2 H2 fp
  have Yok : (cxComp X scope cl NY C s2 H2 fp).Ok := by
    refine ⟨I2.ok.mod, hkind, I2.ok.glob, I2.ok.blt, hCle, ?_, ?_, ?_, fun _ => I2.ok.hd hc, I2.ok.frames, .inl rfl, ?_, I2.bs, Nat.le_trans I2.ok.bsz I2.sz, ?_, ?_, I2.stack, I2.stkFree⟩
    · exact fun y z c e1 e2 => I2.ok.inj y z c (cls y c e1) (cls z c e2)
    · intro y hy
      have hm := lookup_relabel_inv (env := X.env) (names := scope.names) (x := y) hcell hy
      have q := List.all_eq_true.mp hall _ hm
      show ∃ c, cl.lookup y = some c
      exact Option.isSome_iff_exists.mp (by simpa using q)
    · intro y c hf _
      exact absurd hf (by show ¬ false = true; decide)
    · intro b hb
      refine ⟨(below b (fpl b hb)).1, fun y c e z => ?_⟩
      exact (f2 b hb).2.2.2.2.1 y c (cls y c e) z
    · intro b o e hb
      have hb : b ∈ fp := hb
      rcases (f2 b hb).2.2.2.1 with z | z
      · exact I2.ok.noex b o e z
      · exact absurd (Nat.lt_of_lt_of_le (Heap.lt_size e) (Nat.le_trans I2.ok.bsz z)) (Nat.lt_irrefl _)
    · intro b hb hf
      have hb : b ∈ fp := hb
      rcases List.mem_cons.mp (I2.stkSub b hf) with e | hf
      · exact (f2 b hb).2.1 e
      · exact (f2 b hb).2.2.1 hf
  -- the block's state at a turn's start
  have start : ∀ tk, Inv (cxComp X scope cl NY C s2 H2 fp) [] (List.replicate NY.length none) H2 { s2 with heap := h₁, toks := tk } := fun tk => by
    refine ⟨Yok, rfl, I2.bare, Un.kept old, ⟨_, hns₁, fun i y v e1 e2 e3 => ?_⟩, fun y c e => ?_, ?_, fun y c e => ?_, fun p hp => absurd (show p ∈ ([] : List (Addr × Obj)) from hp) (by simp), I2.hok.kept old, ?_⟩
    · rw [List.getElem?_replicate] at e2
      split at e2 <;> simp at e2
    · obtain ⟨v, o, ho, hd⟩ := I2.cell y c (cls y c e)
      exact ⟨v, o, old _ _ ho, hd⟩
    · show H2 C = none
      cases q : H2 C with
      | none => rfl
      | some o => exact absurd (tlt C o q) (Nat.not_lt.mpr hDle)
    · exact I2.freeC y c (cls y c e)
    · show (List.replicate NY.length (none : Option V)).length = NY.length
      rw [List.length_replicate]
  have fpY : ∀ {pl : List (Addr × Obj)} {H' : Hp}, (∀ b ∈ fp, H' b = none) → (∀ p ∈ pl, p.1 = D) → ∀ b ∈ fp, FpOk (cxComp X scope cl NY C s2 H2 fp) pl H' b := fun {pl H'} hn hpl b hb => by
    refine ⟨hn b hb, (below b (fpl b hb)).1, Yok.exfs b hb, .inl hb, fun y c e z => (f2 b hb).2.2.2.2.1 y c (cls y c e) z, fun p hp => ?_⟩
    have hp : p ∈ [] ++ pl := hp
    rw [List.nil_append] at hp
    rw [hpl p hp]
    exact (below b (fpl b hb)).2.symm
  have loop : ∀ s₃ : Shared, (∃ tk, s₃ = { s2 with heap := h₁, toks := tk }) →
      codeAny (model X.prog X.w) X.A (.compLoop (.ListComp elt [⟨tg, iter, ifs, 0⟩] scope pos) 0 (.ref it) (.ref D) (compEnvC scope cl C X.env))
        (compPost (model X.prog X.w) X.A X.xe none (EP X pins σ Q) (.ref D) C) s₃ := by
    rintro s₃ ⟨tk, rfl⟩
    refine comp_loop
      (fun k s' => ∃ i vs ws nn H', Inv (cxComp X scope cl NY C s2 H2 fp) [] (List.replicate NY.length none) H' s' ∧ tn i s'.heap ∧ (∀ b ∈ fp, H' b = none) ∧ H' D = none ∧
        s'.heap.get? D = some { cls := .type "list", data := .seq (ws : List Value).toArray nn } ∧ Vals vs ws ∧ W i k vs H') ?_ m0
      ⟨0, [], [], 0, H2, start tk, T.keep _ _ _ st2 fun b _ o e => old b o e, fun b hb => (f2 b hb).1, ?_, hacc, .nil, w0⟩
    · rintro n s3 ⟨i, vs, ws, nn, H3, I3, st3, fr3, hD3, ho3, rv3, w3⟩
      have I3' : Inv (cxComp X scope cl NY C s2 H2 fp) [(D, { cls := .type "list", data := .seq ws.toArray nn })] (List.replicate NY.length none) H3 s3 := I3.pins_of fun p hp => by
        have e : p = (D, { cls := .type "list", data := .seq ws.toArray nn }) := by simpa using hp
        subst e
        refine ⟨ho3, hD3, hDC, fun z => absurd (sub D z) (Nat.lt_irrefl _), fun v z => ?_⟩
        have z' : Data.seq ws.toArray nn = Data.cell v := z
        cases z'
      have fp3 := fpY (pl := [(D, { cls := .type "list", data := .seq ws.toArray nn })]) fr3 (fun p hp => by rw [List.mem_singleton.mp hp])
      obtain ⟨hsz, alt⟩ := turn i n vs H3 w3
      rcases alt with ⟨stop, fin⟩ | ⟨go, step⟩
      · refine thn (T.done (cxComp X scope cl NY C s2 H2 fp) rfl rfl rfl rfl i _ s3 _ H3 _ I3' fp3 st3 stop) fun r s4 ⟨hr, I4⟩ => ?_
        subst hr
        have pD := I4.pin (D, { cls := .type "list", data := .seq ws.toArray nn }) (by show _ ∈ [] ++ _; simp)
        obtain ⟨m4, hn4, _⟩ := I4.loc
        refine ⟨m4, hn4, fun h' hs' => ?_⟩
        have hC4 : H3 C = none := I4.free
        have hok' : HOk X.prog X.w (upd H3 D (.lst vs)) h' := by
          refine HOk.track (I4.hok.other hC4 hs') hD3 ⟨hsz, ws, nn, rv3, (hs'.2 D hDC).trans pD.1⟩
        have b4 := I4.base
        have un : Un (frs X.stack) fp H2 (upd H3 D (.lst vs)) s2.heap h' := by
          have lt : ∀ b o, s2.heap.get? b = some o → b < D := fun b o e => by rw [← hDg]; exact Heap.lt_size e
          refine ⟨fun b o e n hb hx => (hs'.2 b (below b (lt b o e)).1).trans (b4.keep b o e n hb hx), fun b o e n hb hx => ?_, fun b o e n hx => ?_, fun b o e hx => ?_, fun b zs e => ?_, fun b o u e => ?_, fun b ps e => ?_⟩
          · obtain ⟨sl, q⟩ := b4.slot b o e n hb hx
            exact ⟨sl, (hs'.2 b (below b (lt b o e)).1).trans q⟩
          · rw [upd_ne (below b (lt b o e)).2]; exact b4.free b o e n hx
          · obtain ⟨o', q⟩ := b4.there b o e hx
            exact ⟨o', (hs'.2 b (below b (lt b o e)).1).trans q⟩
          · rw [upd_ne (below b (tlt b _ e)).2]; exact b4.tups b zs e
          · rw [upd_ne (below b (tlt b _ e)).2]; exact b4.frzs b o u e
          · rw [upd_ne (below b (tlt b _ e)).2]; exact b4.tbls b ps e
        refine ⟨.ref D, upd H3 D (.lst vs), ?_, rfl, fin D hD3⟩
        exact I2.call' (s' := { s4 with heap := h' }) (ch := fp) I4.os un hok' I4.bare fun b hb => ⟨(f2 b hb).2.2.2.1, (f2 b hb).2.1, (f2 b hb).2.2.2.2.1, (f2 b hb).2.2.2.2.2⟩
      · refine thn (T.item (cxComp X scope cl NY C s2 H2 fp) rfl rfl rfl rfl i _ s3 _ H3 _ I3' fp3 st3 go) fun r s4 ⟨u, hr, h4⟩ => ?_
        subst hr
        refine thn h4 fun _ s5 ⟨v, H5, I5, r5, y5, st5, fr5⟩ => ?_
        have fp5 := fpY (pl := [(D, { cls := .type "list", data := .seq ws.toArray nn })]) fr5 (fun p hp => by rw [List.mem_singleton.mp hp])
        have I5' := I5.pinned fp5 (T.obj _ _ st5)
        refine thn (YG _ s5 _ H5 v u _ I5' r5 (step v H5 y5)) fun _ s6 ⟨σ6, H6, I6, q6⟩ => ?_
        refine thn (YI _ s6 _ _ _ I6 q6) fun b s7 ⟨H7, I7, q7⟩ => ?_
        -- what is kept through the turn
        have back : ∀ {H8 : Hp} {s8 : Shared}, Inv (cxComp X scope cl NY C s2 H2 fp) ([(D, { cls := .type "list", data := .seq ws.toArray nn })] ++ pinsAt fp s5.heap) σ6 H8 s8 →
            s8.heap.get? D = some { cls := .type "list", data := .seq ws.toArray nn } ∧ H8 D = none ∧ (∀ b ∈ fp, H8 b = none) ∧ (∀ b ∈ fp, ∀ o, s5.heap.get? b = some o → s8.heap.get? b = some o) := fun {H8 s8} I8 => by
          have pD := I8.pin (D, { cls := .type "list", data := .seq ws.toArray nn }) (by show _ ∈ [] ++ _; simp)
          refine ⟨pD.1, pD.2.1, fun b hb => ?_, fun b hb o e => ?_⟩
          · obtain ⟨o, e, d⟩ := T.obj _ _ st5 b hb
            exact (I8.pin (b, o) (List.mem_append_right _ (List.mem_append_right _ (mem_pinsAt hb e)))).2.1
          · exact (I8.pin (b, o) (List.mem_append_right _ (List.mem_append_right _ (mem_pinsAt hb e)))).1
        have weak : ∀ {H8 : Hp} {s8 : Shared}, Inv (cxComp X scope cl NY C s2 H2 fp) [] σ6 H8 s8 → Inv (cxComp X scope cl NY C s2 H2 fp) [] (List.replicate NY.length none) H8 s8 := fun {H8 s8} I8 =>
          I8.weak (by rw [List.length_replicate]; exact I8.len.symm) fun i v' e => by
            rw [List.getElem?_replicate] at e
            split at e <;> simp at e
        have nopin : ∀ {H8 : Hp} {s8 : Shared} {pl : List (Addr × Obj)}, Inv (cxComp X scope cl NY C s2 H2 fp) pl σ6 H8 s8 → Inv (cxComp X scope cl NY C s2 H2 fp) [] σ6 H8 s8 := fun {H8 s8 pl} I8 =>
          I8.pins_of fun p hp => absurd hp (by simp)
        cases b with
        | false =>
          rw [if_neg Bool.false_ne_true] at q7 ⊢
          obtain ⟨m', hm, w7⟩ := q7
          obtain ⟨k1, k2, k3, k4⟩ := back I7
          exact ⟨m', hm, i + 1, vs, ws, nn, H7, weak (nopin I7), T.keep _ _ _ st5 k4, k3, k2, k1, rv3, w7⟩
        | true =>
          rw [if_pos rfl] at q7 ⊢
          refine thn (YE _ s7 _ _ _ I7 q7) fun u8 s8 ⟨y8, H8, I8, r8, m', hm, w8⟩ => ?_
          obtain ⟨k1, k2, k3, k4⟩ := back I8
          refine append_at (hsz := by rw [List.size_toArray, ← rv3.length]; exact hsz) k1 fun h9 hs9 ho9 => ?_
          have I9 : Inv (cxComp X scope cl NY C s2 H2 fp) [] σ6 H8 { s8 with heap := h9 } :=
            (nopin I8).turned (t' := s8.toks) (it := D) (fun b o hb e => (hs9.2 b hb).trans e) k2 hDC (.inr (by rw [← hDg]; exact Nat.le_refl _)) (fun y c e => Nat.ne_of_lt (clt y c e)) fun p hp => absurd (show p ∈ ([] : List (Addr × Obj)) from hp) (by simp)
          refine ⟨m', hm, i + 1, vs ++ [y8], ws ++ [u8], nn + 1, H8, weak I9, ?_, k3, k2, ?_, rv3.append (.cons r8 .nil), w8⟩
          · refine T.keep _ _ _ st5 fun b hb o e => ?_
            exact (hs9.2 b (below b (fpl b hb)).2).trans (k4 b hb o e)
          · rw [ho9, List.push_toArray]
    · cases q : H2 D with
      | none => rfl
      | some o => exact absurd (tlt D o q) (Nat.lt_irrefl _)
  exact codeAny_compStart_list (loop _ ⟨_, rfl⟩) (T.self _ 0 _ _ _ (T.keep _ _ _ st2 fun b _ o e => old b o e) (loop _ ⟨_, rfl⟩))
/-- a comprehension without tests over a list, whatever hands the list in -/
theorem rd_bodyL {K : PySem.W.Frag} {fr : List Nat} {te : TE} {σ : St} {H : Hp} {F : Addr → Hp → List V → Prop} {a : Addr} {vs : List V} (outs : List V) (hS : SqL K H a vs) (hl : outs.length = vs.length) (hz : vs.length ≤ sizeLine)
    (step : ∀ (i : Nat) (v y : V) (H1 : Hp) (R : VK), vs[i]? = some v → outs[i]? = some y → Same H H1 → (∀ H2, Same H1 H2 → R y H2) → te (some v :: frees fr σ) H1 R)
    (fin : ∀ (H1 : Hp) (D : Addr), Same H H1 → H1 D = none → F D H1 outs) :
    ∃ W : Nat → Nat → List V → Hp → Prop, (∃ m, W 0 m [] H) ∧ ∀ i m vs H, W i m vs H → vs.length ≤ sizeLine ∧
      (((Itl K a).stop i H ∧ ∀ D, H D = none → F D H vs) ∨
       ((Itl K a).go i H ∧ ∀ v H', (Itl K a).yld i H v H' → if true = true then te (some v :: frees fr σ) H' fun y H3 => ∃ m', m' < m ∧ W (i + 1) m' (vs ++ [y]) H3 else ∃ m', m' < m ∧ W (i + 1) m' vs H')) := by
  refine ⟨fun i m us H1 => i ≤ vs.length ∧ m = vs.length - i ∧ us = outs.take i ∧ Same H H1, ⟨_, Nat.zero_le _, rfl, by simp, Same.refl _⟩, fun i m us H1 hW => ?_⟩
  obtain ⟨hi, hm, hu, sm⟩ := hW
  refine ⟨by rw [hu, List.length_take]; omega, ?_⟩
  by_cases hlt : i < vs.length
  · refine .inr ⟨⟨vs, vs[i], sm.seq hS, List.getElem?_eq_getElem hlt⟩, fun v H' hy => ?_⟩
    obtain ⟨rfl, hv⟩ := hy
    have hv := hv vs (sm.seq hS)
    have hy : outs[i]? = some outs[i] := List.getElem?_eq_getElem (by omega)
    refine iteT ?_
    refine step i v outs[i] H' _ hv hy sm fun H2 s2 => ⟨vs.length - (i + 1), by omega, by omega, rfl, ?_, sm.trans s2⟩
    rw [hu, take_snoc hy]
  · have e : i = vs.length := by omega
    refine .inl ⟨⟨vs, sm.seq hS, by omega⟩, fun D hD => ?_⟩
    have e2 : us = outs := by rw [hu, List.take_of_length_le (by omega)]
    rw [e2]
    exact fin H1 D sm hD
end L2
namespace D
open PySem L2
theorem pe_lcompT {X : Cx} {elt iter tg : Expr} {pos : Pos} {ifs : List Expr} {scope : Scope} {cl : List (Str × Addr)} (NY : List Str) {wi : TI} {g : TG} {tt : TT} {te : TE}
    (hc : X.calm = true) (hclos : closureFor scope X.env = pure cl) (hcell : ∀ y ∈ scope.names, y.2 ≠ .cell) (hkind : scope.kind = .function) (hnames : ∀ y ∈ scope.names, y.2 = .local → scope.names.lookup y.1 = some .local)
    (hcl : ClOk cl X.env.cells) (hall : (scope.names.all fun y => y.2 != .free || (cl.lookup y.1).isSome) = true)
    (hi : QI X tg iter wi) (hg : ∀ C s H fp, QG (cxComp X scope cl NY C s H fp) tg g)
    (hY : ∀ C s H fp, QIfs (cxComp X scope cl NY C s H fp) ifs tt ∧ QE (cxComp X scope cl NY C s H fp) elt te)
    (hs : ∀ v, foldedSetIterable iter X.env v = pure v := by intro _; rfl) :
    QE X (.ListComp elt [⟨tg, iter, ifs, 0⟩] scope pos) (tLCompT NY.length wi g tt te) := ⟨L2.pe_lcompT NY hc hclos hcell hkind hnames hcl hall hi.un (fun C s H fp => (hg C s H fp).un) (fun C s H fp => ⟨(hY C s H fp).1.un, (hY C s H fp).2.un⟩) hs⟩
end D

set_option Elab.async false
set_option linter.all false
set_option maxRecDepth 100000
set_option maxHeartbeats 4000000
namespace D
open PySem L2
def spVar : Sp := fun vs H Q _ => ∃ b : Addr, vs = [.ref b] ∧ IsBox H b ∧ ∀ (z : Str) (H' : Hp), z.length ≤ 8 → Signs z → Step b H H' → Q (.str z) H'
def abxy : Str := Str.ofString "abxy"
def abc : Str := Str.ofString "abcdefghijklmnopqrstuvwxyz"
theorem Step.ofSame' {b : Addr} {H H' : Hp} (hb : IsBox H b) (s : Same H H') : Step b H H' := ⟨by obtain ⟨x, y, z, e⟩ := hb; exact ⟨x, y, z, s _ _ e⟩, fun c o _ e => s c o e⟩
theorem at_sign {z : Str} {i : Int} (h0 : 0 ≤ i) (h1 : i < z.length) : ∃ c, atI z.cps.toList i = some c ∧ c ∈ z.cps.toList := by
  have hl : i.toNat < z.cps.toList.length := by rw [← str_len] at h1; omega
  refine ⟨z.cps.toList[i.toNat], ?_, List.getElem_mem hl⟩
  have := atI_nat (List.getElem?_eq_getElem hl)
  rw [show ((i.toNat : Nat) : Int) = i by omega] at this
  exact this
theorem abxy_signs : Signs abxy := fun c hc => by
  have e : abxy.cps.toList = [97, 98, 120, 121] := by decide +kernel
  rw [e] at hc
  simp at hc
  omega
theorem abc_signs : ∀ c ∈ abc.cps.toList, 97 ≤ c ∧ c ≤ 122 := by decide +kernel
section
variable {P : Program} {w : World} {K : PySem.W.Frag} {mg : Str → Option Value} {base : Heap} {f : Addr} {fd : FuncData} {k : Nat}
theorem sc_lvariable : FnScope ["_law_box_here", "_law_letters"] ["_law_box_here"] (defScope s_lvariable) := ⟨rfl, rfl, rfl, by decide +kernel, rfl, by decide +kernel, by decide +kernel⟩
theorem ok_lvariable (F : Fun K "_law_variable" "_law_variable" s_lvariable f fd) (G_ltake : Have P w K mg base "_law_take" k ["_law_box_here", "_law_wide"] (spTake)) (m_range : mg "range" = none) : FnOk P w K mg base CX0 (k + 1) f fd ["_law_box_here"] (spVar) := by
  refine F.okQ sc_lvariable (fun vs H Q E h => ?_) (fun cdv A outer s H vs Q E hr h => ?_)
  · obtain ⟨b, rfl, _⟩ := h
    rfl
  obtain ⟨b, rfl, hb, q⟩ := h
  refine ⟨_, (pss_cons (ps_if (pt_cmpR op_eq (pe_fn G_ltake hr rfl (pa_cons (pv 0) (pa_cons pe_int pa_nil))) pe_int (nomark _)) (pss_one (ps_ret (pe_ix ix_str pe_str (pe_fn G_ltake hr rfl (pa_cons (pv 0) (pa_cons pe_int pa_nil))) (fun _ _ => rfl)))) pss_nil)
    (pss_cons (ps_set (i := 1) sc_lvariable.nd rfl (Or.inr rfl) pe_str)
    (pss_one (ps_ret (pe_bm PySem.F.plainAttrs_str PySem.F.slot_str_join PySem.F.type_str_join mt_join pe_str (pa_cons (pe_lcomp [1, 0] ["_law_letters", "_law_box_here"] rfl rfl (by decide +kernel) rfl (by decide +kernel) rfl (by decide +kernel) ⟨rfl, rfl, trivial⟩ rfl ⟨⟨rfl, rfl, Or.inr (Or.inl rfl), (by show (some NameKind.cell : Option NameKind) ≠ some .local; decide), ⟨_, rfl⟩⟩, ⟨rfl, rfl, Or.inr (Or.inl rfl), (by show (some NameKind.cell : Option NameKind) ≠ some .local; decide), ⟨_, rfl⟩⟩, trivial⟩ (pi_range1 rfl m_range (pa_cons (pe_op op_add pe_int (pe_fn G_ltake hr rfl (pa_cons (pv 0) (pa_cons pe_int pa_nil)))) pa_nil)) (fun C s H fp => ⟨pifs_nil, (pe_ix ix_str (pv 1) (pe_fn G_ltake hr rfl (pa_cons (pv 2) (pa_cons pe_int pa_nil))) (fun _ _ => rfl))⟩)) pa_nil)))))), ?_⟩
  refine ⟨_, rfl, b, 2, rfl, hb, by decide, by decide, fun r H1 r0 r1 st1 => ⟨rfl, _, rfl, ite2 (fun _ => ?_) (fun _ => ?_)⟩⟩
  · refine ⟨_, rfl, b, 4, rfl, st1.box, by decide, by decide, fun n H2 n0 n1 st2 => ?_⟩
    have h4 : abxy.length = 4 := by decide +kernel
    obtain ⟨c, hc, hm⟩ := at_sign (z := abxy) n0 (by omega)
    refine ⟨abxy, n, c, rfl, rfl, by decide +kernel, hc, q _ _ (by show 1 ≤ 8; decide) (fun d hd => ?_) (st1.trans st2)⟩
    have : d = c := by simpa using hd
    rw [this]
    exact abxy_signs c hm
  · refine ⟨rfl, _, rfl, b, 8, rfl, st1.box, by decide, by decide, fun m H3 m0 m1 st3 => ?_⟩
    refine ⟨_, _, rfl, rfl, 1 + m, rfl, by omega, by omega, fun i j us H' => i ≤ (1 + m).toNat ∧ j = (1 + m).toNat - i ∧ (∃ cs : List Nat, us = (cs.map fun c => (⟨#[c]⟩ : Str)).map V.str ∧ cs.length = i ∧ ∀ c ∈ cs, 97 ≤ c ∧ c ≤ 122) ∧ Step b H H', ⟨_, Nat.zero_le _, rfl, ⟨[], rfl, rfl, fun c h => nomatch h⟩, st1.trans st3⟩, fun i j us H' hW => ?_⟩
    obtain ⟨hi, hj, ⟨cs, rfl, hcl, hcs⟩, st4⟩ := hW
    refine ⟨small (by rw [List.length_map, List.length_map]; omega), ?_⟩
    by_cases hlt : i < (1 + m).toNat
    · refine .inr ⟨hlt, fun v' H5 hy => ?_⟩
      obtain ⟨rfl, rfl⟩ := hy
      refine iteT ⟨_, rfl, _, rfl, b, 26, rfl, st4.box, by decide, by decide, fun n H6 n0 n1 st6 => ?_⟩
      have h26 : abc.length = 26 := by decide +kernel
      obtain ⟨c, hc, hm⟩ := at_sign (z := abc) n0 (by omega)
      refine ⟨abc, n, c, rfl, rfl, by decide +kernel, hc, (1 + m).toNat - (i + 1), by omega, by omega, rfl, ⟨cs ++ [c], by simp, by rw [List.length_append, hcl]; rfl, fun d hd => ?_⟩, st4.trans st6⟩
      rcases List.mem_append.mp hd with hd | hd
      · exact hcs d hd
      · rw [List.mem_singleton.mp hd]; exact abc_signs c hm
    · refine .inl ⟨(by show (1 + m).toNat ≤ i; omega), fun D hD => ?_⟩
      have s5 := Same.new (o := .lst ((cs.map fun c => (⟨#[c]⟩ : Str)).map V.str)) hD
      refine ⟨Str.ofString "", D, cs.map fun c => (⟨#[c]⟩ : Str), rfl, rfl, SqL.of upd_same, ?_, ?_⟩
      · have e0 : (Str.ofString "").length = 0 := by decide +kernel
        have e1 : ((cs.map fun c => (⟨#[c]⟩ : Str)).map (·.length)).sum = cs.length := by
          rw [List.map_map]
          clear hcs hcl s5 hD
          induction cs with
          | nil => rfl
          | cons x r ih =>
            rw [List.map_cons, List.sum_cons, List.length_cons]
            have : ((fun z : Str => z.length) ∘ fun c => (⟨#[c]⟩ : Str)) x = 1 := rfl
            omega
        rw [e0, e1]
        omega
      · rw [join_signs]
        refine q _ _ ?_ (fun c hc => ?_) (st4.trans (Step.ofSame' st4.box s5))
        · show cs.toArray.size ≤ 8
          rw [List.size_toArray]
          omega
        · have := hcs c (by simpa using hc)
          omega
end
end D

set_option Elab.async false
set_option linter.all false
set_option maxRecDepth 100000
set_option maxHeartbeats 4000000
namespace D
open PySem L2
def spLit : Sp := fun vs H Q _ => ∃ (b l : Addr) (names : List Str), vs = [.ref b, .ref l] ∧ IsBox H b ∧ H l = some (.lst (names.map V.str)) ∧ l ≠ b ∧ names ≠ [] ∧ names.length ≤ 100 ∧ (∀ z ∈ names, z.length ≤ 400 ∧ Signs z) ∧
  ∀ (v : V) (x : W) (H' : Hp), RW H' v (.lst [.txt "lit", x]) → x.Ok → x.depth ≤ 3 → Step b H H' → Q v H'
theorem RW.pair {H : Hp} {a : Addr} {u1 u2 : V} {w1 w2 : W} (e : H a = some (.tup [u1, u2])) (r1 : RW H u1 w1) (r2 : RW H u2 w2) : RW H (.ref a) (.lst [w1, w2]) :=
  .lst e rfl fun i v w hv hw => match i, hv, hw with
    | 0, hv, hw => by
      have a1 : u1 = v := by simpa using hv
      have a2 : w1 = w := by simpa using hw
      rw [← a1, ← a2]; exact r1
    | 1, hv, hw => by
      have a1 : u2 = v := by simpa using hv
      have a2 : w2 = w := by simpa using hw
      rw [← a1, ← a2]; exact r2
    | j + 2, hv, hw => by simp at hv
theorem same_tups' {H H' : Hp} (s : Same H H') : Tups H H' := fun a vs e => s a _ e
section
variable {P : Program} {w : World} {K : PySem.W.Frag} {mg : Str → Option Value} {base : Heap} {f : Addr} {fd : FuncData} {k : Nat}
theorem sc_llit : FnScope ["_law_box_here", "_law_names"] ["_law_box_here", "_law_names"] (defScope s_llit) := ⟨rfl, rfl, rfl, by decide +kernel, rfl, by decide +kernel, by decide +kernel⟩
theorem ok_llit (F : Fun K "_law_lit" "_law_lit" s_llit f fd) (G_lworth : Have P w K mg base "_law_worth" k ["_law_box_here", "_law_room", "_law_deep"] (spWorth 13)) (G_ltake : Have P w K mg base "_law_take" k ["_law_box_here", "_law_wide"] (spTake)) (m_len : mg "len" = none) : FnOk P w K mg base CX0 (k + 1) f fd ["_law_box_here", "_law_names"] (spLit) := by
  refine F.okQ sc_llit (fun vs H Q E h => ?_) (fun cdv A outer s H vs Q E hr h => ?_)
  · obtain ⟨b, l, names, rfl, _⟩ := h
    rfl
  obtain ⟨b, l, names, rfl, hb, hl, hlb, hne, hn, hz, q⟩ := h
  have hpos : 0 < names.length := List.length_pos_iff.mpr hne
  refine ⟨_, (pss_cons (ps_if (PW.pt (pw_and (pt_cmpR (op_neE (Nat.lt_of_le_of_lt (Nat.le_add_right _ 64) hr.units)) (pv 1) (pe_lst pa_nil) (nomark _)) (pw_and1 (pt_cmpR op_eq (pe_fn G_ltake hr rfl (pa_cons (pv 0) (pa_cons pe_int pa_nil))) pe_int (nomark _))))) (pss_one (ps_ret (pe_tup (pa_cons pe_str (pa_cons (pe_ix ix_list (pv 1) (pe_fn G_ltake hr rfl (pa_cons (pv 0) (pa_cons (pe_callB call_len rfl m_len PySem.boot_len (pa_cons (pv 1) pa_nil)) pa_nil))) (fun _ _ => rfl)) pa_nil))))) pss_nil)
    (pss_one (ps_ret (pe_tup (pa_cons pe_str (pa_cons (pe_fn G_lworth hr rfl (pa_cons (pv 0) (pa_cons pe_int (pa_cons pe_int pa_nil)))) pa_nil)))))), ?_⟩
  refine ⟨_, rfl, (by show 0 ≤ sizeLine; decide), fun e0 he0 => ?_⟩
  have s0 := Same.new (o := .lst []) he0
  have st0 := Step.ofSame' hb s0
  refine ⟨l, e0, names.map V.str, rfl, rfl, SqL.of (s0 _ _ hl), SqL.of upd_same, _, rfl, ?_⟩
  have e1 : (!(names.map V.str).isEmpty) = true := by
    cases names with
    | nil => exact absurd rfl hne
    | cons x r => rfl
  rw [e1]
  refine iteT ⟨_, rfl, b, 3, rfl, st0.box, by decide, by decide, fun r H1 r0 r1 st1 => ⟨rfl, _, rfl, ite2 (fun _ => ?_) (fun _ => ?_)⟩⟩
  · have stA := st0.trans st1
    have hl1 := stA.keep l _ hlb hl
    refine ⟨_, rfl, _, rfl, _, rfl, _, _, rfl, .inl ⟨_, SqL.of hl1, rfl⟩, b, _, rfl, stA.box, by rw [List.length_map]; omega, by rw [List.length_map]; omega, fun n H2 n0 n1 st2 => ?_⟩
    rw [List.length_map] at n1
    have hi : n.toNat < names.length := by omega
    have hat : atI (names.map V.str) n = some (.str names[n.toNat]) := by
      have := atI_nat (xs := names.map V.str) (j := n.toNat) (v := .str names[n.toNat]) (by rw [List.getElem?_map, List.getElem?_eq_getElem hi]; rfl)
      rw [show ((n.toNat : Nat) : Int) = n by omega] at this
      exact this
    have stB := stA.trans st2
    refine ⟨l, _, n, _, rfl, rfl, SqL.of (stB.keep l _ hlb hl), hat, (by show 2 ≤ sizeLine; decide), fun a ha => ?_⟩
    have s3 := Same.new (o := .tup [.str "lit", .str names[n.toNat]]) ha
    exact q _ (.txt names[n.toNat]) _ (RW.pair upd_same (.txt _) (.txt _)) (hz _ (List.getElem_mem hi)) (by simp [W.depth]) (stB.trans (Step.ofSame' stB.box s3))
  · have stA := st0.trans st1
    refine ⟨_, rfl, b, 6, 3, rfl, stA.box, by decide, by decide, by decide, by decide, fun v x H2 rx okx dx sx st2 => ⟨(by show 2 ≤ sizeLine; decide), fun a ha => ?_⟩⟩
    have stB := stA.trans st2
    have s3 := Same.new (o := .tup [.str "lit", v]) ha
    exact q _ x _ (RW.pair upd_same (.txt _) (rx.mono (same_tups' s3))) okx (by omega) (stB.trans (Step.ofSame' stB.box s3))
end
end D

set_option Elab.async false
set_option linter.all false
set_option maxRecDepth 100000
set_option maxHeartbeats 4000000
namespace D
open PySem L2
inductive Wo where
  | lit | var | letw | ifw | add | sub | mul | div | same | less | join | list | item | count | figs | each | over | look | elsew | cry
def woS : Wo → Str
  | .lit => "lit"
  | .var => "var"
  | .letw => "let"
  | .ifw => "if"
  | .add => "+"
  | .sub => "-"
  | .mul => "*"
  | .div => "/"
  | .same => "same"
  | .less => "less"
  | .join => "join"
  | .list => "list"
  | .item => "item"
  | .count => "count"
  | .figs => "figures"
  | .each => "each"
  | .over => "over"
  | .look => "look"
  | .elsew => "else"
  | .cry => "cry"
def woAll : List Wo := [.lit, .var, .letw, .ifw, .add, .sub, .mul, .div, .same, .less, .join, .list, .item, .count, .figs, .each, .over, .look, .elsew, .cry]
def w3 : Wo → Bool
  | .ifw => true
  | .over => true
  | _ => false
def w1 : Wo → Bool
  | .count => true
  | .figs => true
  | .look => true
  | .cry => true
  | _ => false
def wVL : Wo → Bool
  | .var => true
  | .list => true
  | _ => false
def wEO : Wo → Bool
  | .each => true
  | .over => true
  | _ => false
def wLit : Wo → Bool
  | .lit => true
  | _ => false
def wVar : Wo → Bool
  | .var => true
  | _ => false
def Wo.needs (d : Wo) : Int := if wVL d then 0 else 2 + (if w3 d then 1 else 0) - (if w1 d then 1 else 0)
theorem in3 (d : Wo) : inV (.str (woS d)) [.str "if", .str "over"] = w3 d := by cases d <;> decide +kernel
theorem in1 (d : Wo) : inV (.str (woS d)) [.str "count", .str "figures", .str "look", .str "cry"] = w1 d := by cases d <;> decide +kernel
theorem inVL (d : Wo) : inV (.str (woS d)) [.str "var", .str "list"] = wVL d := by cases d <;> decide +kernel
theorem inEO (d : Wo) : inV (.str (woS d)) [.str "each", .str "over"] = wEO d := by cases d <;> decide +kernel
theorem eqLit (d : Wo) : decide (V.str (woS d) = V.str "lit") = wLit d := by cases d <;> decide +kernel
theorem eqVar (d : Wo) : decide (V.str (woS d) = V.str "var") = wVar d := by cases d <;> decide +kernel
def spWord : Sp := fun vs H Q _ => ∃ (b sc : Addr) (us : List V) (spare floors rounds : Int), vs = [.ref b, .ref sc, .int spare, .int floors, .int rounds] ∧ IsBox H b ∧ H sc = some (.lst us) ∧ sc ≠ b ∧
  ∀ (d : Wo) (H' : Hp), Step b H H' → (wLit d = false → d.needs < spare ∧ (floors = 0 → wVL d = true) ∧ (wVar d = true → us ≠ []) ∧ (wEO d = true → rounds ≠ 0)) → Q (.str (woS d)) H'
section
variable {P : Program} {w : World} {K : PySem.W.Frag} {mg : Str → Option Value} {base : Heap} {f : Addr} {fd : FuncData} {k : Nat}
theorem sc_lword : FnScope ["_law_box_here", "_law_scope", "_law_spare", "_law_floors", "_law_rounds", "_law_words", "_law_word_here", "_law_needs"] ["_law_box_here", "_law_scope", "_law_spare", "_law_floors", "_law_rounds"] (defScope s_lword) := ⟨rfl, rfl, rfl, by decide +kernel, rfl, by decide +kernel, by decide +kernel⟩
theorem ok_lword (F : Fun K "_law_word" "_law_word" s_lword f fd) (G_ltake : Have P w K mg base "_law_take" k ["_law_box_here", "_law_wide"] (spTake)) (m_int : mg "int" = none) : FnOk P w K mg base CX0 (k + 1) f fd ["_law_box_here", "_law_scope", "_law_spare", "_law_floors", "_law_rounds"] (spWord) := by
  refine F.okQ sc_lword (fun vs H Q E h => ?_) (fun cdv A outer s H vs Q E hr h => ?_)
  · obtain ⟨b, sc, us, spare, floors, rounds, rfl, _⟩ := h
    rfl
  obtain ⟨b, sc, us, spare, floors, rounds, rfl, hb, hsc, hne, q⟩ := h
  refine ⟨_, (pss_cons (ps_set (i := 5) sc_lword.nd rfl (Or.inl rfl) (pe_lst (pa_cons pe_str (pa_cons pe_str (pa_cons pe_str (pa_cons pe_str (pa_cons pe_str (pa_cons pe_str (pa_cons pe_str (pa_cons pe_str (pa_cons pe_str (pa_cons pe_str (pa_cons pe_str (pa_cons pe_str pa_nil))))))))))))))
    (pss_cons (ps_set (i := 5) sc_lword.nd rfl (Or.inl rfl) (pe_op op_cat (pv 5) (pe_lst (pa_cons pe_str (pa_cons pe_str (pa_cons pe_str (pa_cons pe_str (pa_cons pe_str (pa_cons pe_str (pa_cons pe_str (pa_cons pe_str pa_nil)))))))))))
    (pss_cons (ps_set (i := 6) sc_lword.nd rfl (Or.inl rfl) (pe_ix ix_list (pv 5) (pe_fn G_ltake hr rfl (pa_cons (pv 0) (pa_cons pe_int pa_nil))) (fun _ _ => rfl)))
    (pss_cons (ps_set (i := 7) sc_lword.nd rfl (Or.inl rfl) (pe_op op_sub (pe_op op_add pe_int (pe_callTy call_int1 rfl m_int boot_intT (pa_cons (pe_cmpR op_in_seq (pv 6) (pe_tup (pa_cons pe_str (pa_cons pe_str pa_nil))) (by rfl)) pa_nil))) (pe_callTy call_int1 rfl m_int boot_intT (pa_cons (pe_cmpR op_in_seq (pv 6) (pe_tup (pa_cons pe_str (pa_cons pe_str (pa_cons pe_str (pa_cons pe_str pa_nil))))) (by rfl)) pa_nil))))
    (pss_cons (ps_if (pt_cmpR op_in_seq (pv 6) (pe_tup (pa_cons pe_str (pa_cons pe_str pa_nil))) (by rfl)) (pss_one (ps_set (i := 7) sc_lword.nd rfl (Or.inl rfl) pe_int)) pss_nil)
    (pss_cons (ps_if (PW.pt (pw_or (pt_cmpR op_eq (pv 6) pe_str (nomark _)) (pw_or (PW.pt (pw_and (pt_cmpR op_eq (pv 3) pe_int (nomark _)) (pw_and1 (pt_cmpR op_notIn_seq (pv 6) (pe_tup (pa_cons pe_str (pa_cons pe_str pa_nil))) (by rfl))))) (pw_or1 (pt_cmpR op_ge (pv 7) (pv 2) (nomark _)))))) (pss_one (ps_ret pe_str)) pss_nil)
    (pss_cons (ps_if (PW.pt (pw_or (PW.pt (pw_and (pt_cmpR op_eq (pv 6) pe_str (nomark _)) (pw_and1 (pt_cmpR (op_eqE (Nat.lt_of_le_of_lt (Nat.le_add_right _ 64) hr.units)) (pv 1) (pe_lst pa_nil) (nomark _))))) (pw_or1 (PW.pt (pw_and (pt_cmpR op_in_seq (pv 6) (pe_tup (pa_cons pe_str (pa_cons pe_str pa_nil))) (by rfl)) (pw_and1 (pt_cmpR op_eq (pv 4) pe_int (nomark _)))))))) (pss_one (ps_ret pe_str)) pss_nil)
    (pss_one (ps_ret (pv 6)))))))))), ?_⟩
  refine ⟨(by show 12 ≤ sizeLine; decide), fun p1 h1 => ?_⟩
  have st1 := Step.new (o := .lst ((woAll.take 12).map fun d => V.str (woS d))) hb h1
  refine ⟨_, rfl, (by show 8 ≤ sizeLine; decide), fun p2 h2 => ?_⟩
  have s2 := Same.new (o := .lst ((woAll.drop 12).map fun d => V.str (woS d))) h2
  refine ⟨p1, p2, (woAll.take 12).map (fun d => V.str (woS d)), (woAll.drop 12).map (fun d => V.str (woS d)), rfl, rfl, s2 _ _ upd_same, upd_same, (by decide), fun p3 h3 => ?_⟩
  have st2 := st1.trans (Step.ofSame' st1.box s2)
  have st3 := st2.trans (Step.new (o := .lst (woAll.map fun d => V.str (woS d))) st2.box h3)
  refine ⟨_, rfl, _, rfl, b, 20, rfl, st3.box, by decide, by decide, fun r H1 r0 r1 st4 => ?_⟩
  have hi : r.toNat < woAll.length := by show r.toNat < 20; omega
  obtain ⟨d, hat⟩ : ∃ d : Wo, atI (woAll.map fun d => V.str (woS d)) r = some (.str (woS d)) := ⟨woAll[r.toNat], by
    have := atI_nat (xs := woAll.map fun d => V.str (woS d)) (j := r.toNat) (v := .str (woS woAll[r.toNat])) (by rw [List.getElem?_map, List.getElem?_eq_getElem hi]; rfl)
    rw [show ((r.toNat : Nat) : Int) = r by omega] at this
    exact this⟩
  have stA := st3.trans st4
  refine ⟨p3, _, r, _, rfl, rfl, SqL.of (st4.keep p3 _ (by obtain ⟨x, y, z, e⟩ := st2.box; exact (ne_of_none e h3).symm) upd_same), hat, ?_⟩
  refine ⟨_, rfl, (by show 2 ≤ sizeLine; decide), fun q1 hq1 => ⟨q1, _, rfl, .inr (SqT.of upd_same), rfl, rfl, .inr ⟨_, rfl, _, _, rfl, rfl, _, rfl, (by show 4 ≤ sizeLine; decide), fun q2 hq2 => ⟨q2, _, rfl, .inr (SqT.of upd_same), rfl, rfl, .inr ⟨_, rfl, _, _, rfl, rfl, ?_⟩⟩⟩⟩⟩
  have stB := stA.trans (Step.new (o := .tup [.str "if", .str "over"]) stA.box hq1)
  have stC := stB.trans (Step.new (o := .tup [.str "count", .str "figures", .str "look", .str "cry"]) stB.box hq2)
  dsimp only [gName]
  refine seqI (fun σ' H' => ∃ o5, σ' = [some (.ref b), some (.ref sc), some (.int spare), some (.int floors), some (.int rounds), o5, some (.str (woS d)), some (.int d.needs)] ∧ Step b H H') (fun σ' H' h => ?_) (fun tl => ?_)
  · obtain ⟨o5, rfl, stD⟩ := h
    refine seqI (fun σ' H' => ∃ o5, σ' = [some (.ref b), some (.ref sc), some (.int spare), some (.int floors), some (.int rounds), o5, some (.str (woS d)), some (.int d.needs)] ∧ Step b H H' ∧ wLit d = false ∧ d.needs < spare ∧ (floors = 0 → wVL d = true)) (fun σ' H' h => ?_) (fun tl => ?_)
    · obtain ⟨o5, rfl, stE, hlit, hneed, hfl⟩ := h
      refine ⟨_, rfl, rfl, _, rfl, ?_⟩
      rw [show Str.ofString "var" = "var" from rfl, eqVar]
      cases hv : wVar d with
      | true =>
        refine iteT ⟨_, rfl, (by show 0 ≤ sizeLine; decide), fun e0 he0 => ?_⟩
        have stF := stE.trans (Step.new (o := .lst []) stE.box he0)
        refine ⟨sc, e0, us, rfl, rfl, SqL.of (stF.keep sc _ hne hsc), SqL.of upd_same, _, rfl, ?_⟩
        cases hus : us with
        | nil => exact iteT (iteT (q .lit _ stF (fun h => nomatch h)))
        | cons x r =>
          have hsv : wVar d = true → us ≠ [] := fun _ z => by rw [hus] at z; cases z
          refine iteF ?_
          refine ⟨_, rfl, (by show 2 ≤ sizeLine; decide), fun q5 hq5 => ⟨q5, _, rfl, .inr (SqT.of upd_same), rfl, rfl, _, rfl, ?_⟩⟩
          have st9 := stF.trans (Step.new (o := .tup [.str "each", .str "over"]) stF.box hq5)
          show if inV (.str (woS d)) [.str "each", .str "over"] = true then _ else _
          rw [inEO]
          cases heo : wEO d with
          | true =>
            refine iteT ⟨_, rfl, rfl, _, rfl, ite2 (fun c3 => q .lit _ st9 (fun h => nomatch h)) (fun c3 => ?_)⟩
            exact ⟨_, rfl, q d _ st9 fun _ => ⟨hneed, hfl, hsv, fun _ z => c3 (by rw [z]; rfl)⟩⟩
          | false => exact iteF (iteF ⟨_, rfl, q d _ st9 fun _ => ⟨hneed, hfl, hsv, fun z => by rw [heo] at z; cases z⟩⟩)
      | false =>
        have hsv : wVar d = true → us ≠ [] := fun z => by rw [hv] at z; cases z
        refine iteF (iteF ?_)
        refine ⟨_, rfl, (by show 2 ≤ sizeLine; decide), fun q5 hq5 => ⟨q5, _, rfl, .inr (SqT.of upd_same), rfl, rfl, _, rfl, ?_⟩⟩
        have st9 := stE.trans (Step.new (o := .tup [.str "each", .str "over"]) stE.box hq5)
        show if inV (.str (woS d)) [.str "each", .str "over"] = true then _ else _
        rw [inEO]
        cases heo : wEO d with
        | true =>
          refine iteT ⟨_, rfl, rfl, _, rfl, ite2 (fun c3 => q .lit _ st9 (fun h => nomatch h)) (fun c3 => ?_)⟩
          exact ⟨_, rfl, q d _ st9 fun _ => ⟨hneed, hfl, hsv, fun _ z => c3 (by rw [z]; rfl)⟩⟩
        | false => exact iteF (iteF ⟨_, rfl, q d _ st9 fun _ => ⟨hneed, hfl, hsv, fun z => by rw [heo] at z; cases z⟩⟩)
    · refine ⟨_, rfl, rfl, _, rfl, ?_⟩
      rw [show Str.ofString "lit" = "lit" from rfl, eqLit]
      cases hlit : wLit d with
      | true => exact iteT (iteT (q .lit _ stD (fun h => nomatch h)))
      | false =>
        refine iteF ⟨_, rfl, rfl, _, rfl, ite2 (fun c => ?_) (fun c => iteF ?_)⟩
        · refine ⟨_, rfl, (by show 2 ≤ sizeLine; decide), fun q4 hq4 => ⟨q4, _, rfl, .inr (SqT.of upd_same), rfl, rfl, _, rfl, ?_⟩⟩
          have stE := stD.trans (Step.new (o := .tup [.str "var", .str "list"]) stD.box hq4)
          show if (!inV (.str (woS d)) [.str "var", .str "list"]) = true then _ else _
          rw [inVL]
          cases hvl : wVL d with
          | false => exact iteT (iteT (q .lit _ stE (fun h => nomatch h)))
          | true =>
            refine iteF ?_
            refine ⟨_, rfl, _, rfl, _, _, rfl, rfl, _, rfl, ite2 (fun c2 => q .lit _ stE (fun h => nomatch h)) (fun c2 => ?_)⟩
            exact tl _ _ ⟨_, rfl, stE, hlit, (by
              have : ¬ spare ≤ d.needs := fun z => c2 (decide_eq_true z)
              omega), fun _ => hvl⟩
        · have hf0 : floors ≠ 0 := fun z => c (by rw [z]; rfl)
          refine ⟨_, rfl, _, rfl, _, _, rfl, rfl, _, rfl, ite2 (fun c2 => q .lit _ stD (fun h => nomatch h)) (fun c2 => ?_)⟩
          exact tl _ _ ⟨_, rfl, stD, hlit, (by
            have : ¬ spare ≤ d.needs := fun z => c2 (decide_eq_true z)
            omega), fun z => absurd z hf0⟩
  · refine ⟨_, rfl, (by show 2 ≤ sizeLine; decide), fun q3 hq3 => ⟨q3, _, rfl, .inr (SqT.of upd_same), rfl, rfl, _, rfl, ?_⟩⟩
    have stD := stC.trans (Step.new (o := .tup [.str "var", .str "list"]) stC.box hq3)
    have e3 := in3 d
    have e1 := in1 d
    show if inV (.str (woS d)) [.str "var", .str "list"] = true then _ else _
    rw [inVL]
    cases hvl : wVL d with
    | true => exact iteT (tl _ _ ⟨_, by show _ = [_, _, _, _, _, _, _, some (V.int d.needs)]; unfold Wo.needs; rw [hvl]; rfl, stD⟩)
    | false => exact iteF (tl _ _ ⟨_, by show _ = [_, _, _, _, _, _, _, some (V.int d.needs)]; unfold Wo.needs; rw [hvl, ← e3, ← e1]; rfl, stD⟩)
end
end D

set_option Elab.async false
set_option linter.all false
set_option maxRecDepth 100000
set_option maxHeartbeats 4000000
namespace D
open PySem L2
/-! ### rules -/
inductive Rl where
  | lit (x : W)
  | var (s : Str)
  | op (d : Wo) (bs : List Str) (ps : List Rl)
mutual
def Rl.toW : Rl → W
  | .lit x => .lst [.txt "lit", x]
  | .var s => .lst [.txt "var", .txt s]
  | .op d bs ps => .lst (.txt (woS d) :: (bs.map W.txt ++ rlWs ps))
def rlWs : List Rl → List W
  | [] => []
  | p :: r => p.toW :: rlWs r
end
mutual
def Rl.many : Rl → Nat
  | .lit _ => 1
  | .var _ => 1
  | .op _ _ ps => 1 + manys ps
def manys : List Rl → Nat
  | [] => 0
  | p :: r => p.many + manys r
end
mutual
def Rl.high : Rl → Nat
  | .lit _ => 0
  | .var _ => 0
  | .op _ _ ps => highs ps
def highs : List Rl → Nat
  | [] => 0
  | p :: r => max (1 + p.high) (highs r)
end
def bcnt : Wo → Nat
  | .letw => 1
  | .each => 1
  | .over => 2
  | _ => 0
mutual
/-- each of its names is bound where it stands, and its shape is a rule's -/
def Rl.Fit : Rl → List Str → Prop
  | .lit x, _ => x.Ok ∧ x.depth ≤ 3
  | .var s, sc => s ∈ sc
  | .op d bs ps, sc => wLit d = false ∧ wVar d = false ∧ bs.length = bcnt d ∧ (∀ z ∈ bs, z.length ≤ 8 ∧ Signs z) ∧ Fits ps sc bs
def Fits : List Rl → List Str → List Str → Prop
  | [], _, _ => True
  | [p], sc, bs => p.Fit (sc ++ bs)
  | p :: q :: r, sc, bs => p.Fit sc ∧ Fits (q :: r) sc bs
end
theorem rlWs_snoc (l : List Rl) (r : Rl) : rlWs (l ++ [r]) = rlWs l ++ [r.toW] := by
  induction l with
  | nil => simp [rlWs]
  | cons p l ih => simp only [List.cons_append, rlWs, ih]
theorem rlWs_len : ∀ l : List Rl, (rlWs l).length = l.length
  | [] => by simp [rlWs]
  | _ :: l => by simp only [rlWs, List.length_cons, rlWs_len l]
theorem manys_snoc (l : List Rl) (r : Rl) : manys (l ++ [r]) = manys l + r.many := by
  induction l with
  | nil => simp [manys]
  | cons p l ih => simp only [List.cons_append, manys, ih]; omega
/-- the names that a law hands on -/
def Names (H : Hp) (b l : Addr) (names : List Str) : Prop := H l = some (.lst (names.map V.str)) ∧ l ≠ b ∧ names ≠ [] ∧ names.length ≤ 100 ∧ ∀ z ∈ names, z.length ≤ 400 ∧ Signs z
theorem Names.step {H H' : Hp} {b l : Addr} {names : List Str} (h : Names H b l names) (st : Step b H H') : Names H' b l names := ⟨st.keep l _ h.2.1 h.1, h.2⟩
def spAny (n : Nat) : Sp := fun vs H Q _ => ∃ (b sc l : Addr) (scope names : List Str) (spare floors rounds : Int), vs = [.ref b, .ref sc, .ref l, .int spare, .int floors, .int rounds] ∧ IsBox H b ∧ Names H b l names ∧ H sc = some (.lst (scope.map V.str)) ∧ sc ≠ b ∧ scope.length + 2 * n ≤ 1000 ∧ 1 ≤ spare ∧ spare ≤ 100 ∧ 0 ≤ floors ∧ floors < n ∧ 0 ≤ rounds ∧ rounds ≤ 100 ∧
  ∀ (t : Addr) (v : V) (r : Rl) (H' : Hp), H' t = some (.tup [v, .int r.many]) → RW H' v r.toW → r.Fit scope → (r.many : Int) ≤ spare → (r.high : Int) ≤ floors + 1 → Step b H H' → Q (.ref t) H'
def spPartsBy (n : Nat) : Sp := fun vs H Q _ => ∃ (b ss l rs : Addr) (as : List Addr) (scopes : List (List Str)) (names : List Str) (rounds : List Int) (spare floors : Int), vs = [.ref b, .ref ss, .ref l, .int spare, .int floors, .ref rs] ∧ IsBox H b ∧ Names H b l names ∧
  H ss = some (.lst (as.map V.ref)) ∧ ss ≠ b ∧ H rs = some (.lst (rounds.map V.int)) ∧ rs ≠ b ∧ as.length = scopes.length ∧ scopes.length ≤ rounds.length ∧ (∀ r ∈ rounds, 0 ≤ r ∧ r ≤ 100) ∧ (∀ (i : Nat) (a : Addr) (sc : List Str), as[i]? = some a → scopes[i]? = some sc → H a = some (.lst (sc.map V.str)) ∧ a ≠ b ∧ sc.length + 2 * n ≤ 1000) ∧
  (scopes.length : Int) ≤ spare ∧ spare ≤ 100 ∧ floors < n ∧ (0 ≤ floors ∨ scopes = []) ∧
  ∀ (t t2 : Addr) (us : List V) (ps : List Rl) (H' : Hp), H' t = some (.tup [.ref t2, .int (manys ps)]) → H' t2 = some (.tup us) → RWs H' us (rlWs ps) → ps.length = scopes.length → (∀ (i : Nat) (p : Rl) (sc : List Str), ps[i]? = some p → scopes[i]? = some sc → p.Fit sc ∧ (p.high : Int) ≤ floors + 1) → (manys ps : Int) ≤ spare → Step b H H' → Q (.ref t) H'
section
variable {P : Program} {w : World} {K : PySem.W.Frag} {mg : Str → Option Value} {base : Heap} {f : Addr} {fd : FuncData} {k n : Nat}
theorem sc_lparts_by : FnScope ["_law_box_here", "_law_scopes", "_law_names", "_law_spare", "_law_floors", "_law_rounds", "_law_found", "_law_used", "_law_k", "_law_scope", "_law_rest", "_law_part", "_law_more"] ["_law_box_here", "_law_scopes", "_law_names", "_law_spare", "_law_floors", "_law_rounds"] (defScope s_lparts_by) := ⟨rfl, rfl, rfl, by decide +kernel, rfl, by decide +kernel, by decide +kernel⟩
theorem ok_lparts_by (F : Fun K "_law_parts_by" "_law_parts_by" s_lparts_by f fd) (G_lany : Have P w K mg base "_law_any" k ["_law_box_here", "_law_scope", "_law_names", "_law_spare", "_law_floors", "_law_rounds"] (spAny n)) (m_enumerate : mg "enumerate" = none) (m_len : mg "len" = none) (m_tuple : mg "tuple" = none) : FnOk P w K mg base CX0 (k + 1) f fd ["_law_box_here", "_law_scopes", "_law_names", "_law_spare", "_law_floors", "_law_rounds"] (spPartsBy n) := by
  refine F.okQ sc_lparts_by (fun vs H Q E h => ?_) (fun cdv A outer s H vs Q E hr h => ?_)
  · obtain ⟨b, ss, l, rs, as, scopes, names, rounds, spare, floors, rfl, _⟩ := h
    rfl
  obtain ⟨b, ss, l, rs, as, scopes, names, rounds, spare, floors, rfl, hb, hnm, hss, hsb, hrs, hrb, hal, hrl, hrr, hsc, hsp, hs100, hfn, hf0, q⟩ := h
  refine ⟨_, (pss_cons (ps_set (i := 6) sc_lparts_by.nd rfl (Or.inl rfl) (pe_lst pa_nil))
    (pss_cons (ps_set (i := 7) sc_lparts_by.nd rfl (Or.inl rfl) pe_int)
    (pss_cons (ps_for PassesOwn.never rfl (pi_enum rfl m_enumerate (pa_cons (pv 1) pa_nil)) (pg_tup rfl (pgs_cons (pg_name (i := 8) sc_lparts_by.nd rfl (Or.inl rfl)) (pgs_cons (pg_name (i := 9) sc_lparts_by.nd rfl (Or.inl rfl)) pgs_nil))) (pss_cons (ps_set (i := 10) sc_lparts_by.nd rfl (Or.inl rfl) (pe_op op_sub (pe_op op_sub (pv 3) (pv 7)) (pe_op op_sub (pe_op op_sub (pe_callB call_len rfl m_len PySem.boot_len (pa_cons (pv 1) pa_nil)) (pv 8)) pe_int)))
    (pss_cons (ps_asg (pe_fn G_lany hr rfl (pa_cons (pv 0) (pa_cons (pv 9) (pa_cons (pv 2) (pa_cons (pv 10) (pa_cons (pv 4) (pa_cons (pe_ix ix_list (pv 5) (pv 8) (fun _ _ => rfl)) pa_nil))))))) (pg_tup rfl (pgs_cons (pg_name (i := 11) sc_lparts_by.nd rfl (Or.inl rfl)) (pgs_cons (pg_name (i := 12) sc_lparts_by.nd rfl (Or.inl rfl)) pgs_nil))))
    (pss_cons (ps_expr (pe_bm PySem.F.plainAttrs_list PySem.F.slot_list_append PySem.F.type_list_append mt_append (pv 6) (pa_cons (pv 11) pa_nil)))
    (pss_one (ps_set (i := 7) sc_lparts_by.nd rfl (Or.inl rfl) (pe_op op_add (pv 7) (pv 12))))))))
    (pss_one (ps_ret (pe_tup (pa_cons (pe_callTy call_tuple_of rfl m_tuple boot_tupleT (pa_cons (pv 6) pa_nil)) (pa_cons (pv 7) pa_nil)))))))), ?_⟩
  refine ⟨(by show 0 ≤ sizeLine; decide), fun p hp => ?_⟩
  have st0 := Step.new (o := .lst []) hb hp
  have hpb : p ≠ b := fun z => by
    obtain ⟨x, y, w', e⟩ := hb
    rw [← z, hp] at e
    cases e
  refine ⟨_, rfl, ss, as.map V.ref, rfl, SqL.of (st0.keep ss _ hsb hss), for_enum (xs := as.map V.ref) (fun i σ' H' => ∃ (o8 o9 o10 o11 o12 : Option V) (us : List V) (ps : List Rl), σ' = [some (.ref b), some (.ref ss), some (.ref l), some (.int spare), some (.int floors), some (.ref rs), some (.ref p), some (.int (manys ps)), o8, o9, o10, o11, o12] ∧ Step b H H' ∧ H' p = some (.lst us) ∧ RWs H' us (rlWs ps) ∧ ps.length = i ∧ (∀ (i : Nat) (p : Rl) (sc : List Str), ps[i]? = some p → scopes[i]? = some sc → p.Fit sc ∧ (p.high : Int) ≤ floors + 1) ∧ (manys ps : Int) + (scopes.length - i) ≤ spare)
    ⟨none, none, none, none, none, [], [], rfl, st0, upd_same, ⟨rfl, fun i v w e => by simp at e⟩, rfl, fun i p sc e => by simp at e, by simp [manys]; omega⟩ (fun i σ' H' _ h => ?_) (fun i x t σ' H' hx ht h => ?_) (fun σ' H' h => ?_)⟩
  · obtain ⟨_, _, _, _, _, us, ps, _, st, _⟩ := h
    exact SqL.of (st.keep ss _ hsb hss)
  · obtain ⟨o8, o9, o10, o11, o12, us, ps, rfl, st, ep, hw, hpl, hfit, hm⟩ := h
    rw [List.getElem?_map] at hx
    obtain ⟨a, ha, rfl⟩ := Option.map_eq_some_iff.mp hx
    have hi : i < as.length := (List.getElem?_eq_some_iff.mp ha).1
    have hsi : scopes[i]? = some scopes[i] := List.getElem?_eq_getElem (by omega)
    have hri : rounds[i]? = some rounds[i] := List.getElem?_eq_getElem (by omega)
    obtain ⟨h1, h2, h3⟩ := hsc i a _ ha hsi
    obtain ⟨r0, r1⟩ := hrr _ (List.mem_of_getElem? hri)
    have hat : atI (rounds.map V.int) (i : Int) = some (.int rounds[i]) := atI_nat (by rw [List.getElem?_map, hri]; rfl)
    have sT := Same.new (o := .tup [.int i, .ref a]) ht
    have stT := st.trans (Step.ofSame' st.box sT)
    have hf : 0 ≤ floors := by
      rcases hf0 with h | h
      · exact h
      · have h0 : as.length = 0 := by rw [hal, h]; rfl
        omega
    refine ⟨t, _, rfl, SqT.of upd_same, rfl, _, _, rfl, _, _, rfl, rfl, ?_⟩
    refine ⟨_, rfl, _, rfl, _, _, rfl, rfl, _, rfl, _, _, rfl, .inl ⟨_, SqL.of (stT.keep ss _ hsb hss), rfl⟩, _, rfl, _, _, rfl, rfl, _, _, rfl, rfl, _, _, rfl, rfl, ?_⟩
    refine ⟨_, rfl, _, rfl, _, rfl, _, rfl, _, rfl, _, rfl, _, rfl, rs, _, _, _, rfl, rfl, SqL.of (stT.keep rs _ hrb hrs), hat, ?_⟩
    refine ⟨b, a, l, scopes[i], names, _, floors, rounds[i], rfl, stT.box, hnm.step stT, stT.keep a _ h2 h1, h2, h3, ?_, ?_, hf, hfn, r0, r1, fun t3 v r H3 et rw3 fit hmany hhigh st3 => ?_⟩
    · rw [List.length_map, hal]; omega
    · rw [List.length_map, hal]; omega
    rw [List.length_map, hal] at hmany
    have st4 := stT.trans st3
    have ep3 := (Step.ofSame' st.box sT).trans st3 |>.keep p _ hpb ep
    have hul := hw.len
    rw [rlWs_len] at hul
    refine ⟨t3, _, rfl, SqT.of et, rfl, _, _, rfl, _, _, rfl, rfl, ?_⟩
    refine ⟨_, rfl, .inl ⟨rfl, us, SqL.of ep3⟩, _, rfl, p, us, v, rfl, rfl, ep3, Nat.lt_of_le_of_lt (show us.length ≤ 100 by omega) (by decide), ?_⟩
    refine ⟨_, rfl, _, rfl, _, _, rfl, rfl, ?_⟩
    have tq : Tups H3 (upd H3 p (.lst (us ++ [v]))) := fun c zs ec => by
      rw [upd_ne (fun z => by rw [z, ep3] at ec; cases ec)]
      exact ec
    have stF : Step b H (upd H3 p (.lst (us ++ [v]))) := ⟨by
      obtain ⟨x, y, z, e'⟩ := st4.box
      exact ⟨x, y, z, by rw [upd_ne hpb.symm]; exact e'⟩, fun c o hc e' => by
      rw [upd_ne (ne_of_none e' hp)]
      exact st4.keep c o hc e'⟩
    have tS : Tups H' H3 := fun c zs ec => st3.tups stT.box c zs (sT _ _ ec)
    refine ⟨some (.int i), some (.ref a), some (.int (spare - manys ps - (((as.map V.ref).length : Int) - i - 1))), some v, some (.int r.many), us ++ [v], ps ++ [r], ?_, stF, upd_same, ?_, by rw [List.length_append, hpl]; rfl, fun j p' sc hj hs => ?_, ?_⟩
    · rw [manys_snoc, Int.natCast_add]
      rfl
    · rw [rlWs_snoc]
      exact ((hw.mono tS).mono tq).snoc (rw3.mono tq)
    · by_cases hjl : j < ps.length
      · rw [List.getElem?_append_left hjl] at hj
        exact hfit j p' sc hj hs
      · rw [List.getElem?_append_right (by omega)] at hj
        have hj0 : j - ps.length = 0 := by
          have := (List.getElem?_eq_some_iff.mp hj).1
          simp at this
          omega
        rw [hj0] at hj
        cases hj
        have hji : j = i := by omega
        rw [hji, hsi] at hs
        cases hs
        exact ⟨fit, hhigh⟩
    · rw [manys_snoc]
      omega
  · obtain ⟨o8, o9, o10, o11, o12, us, ps, rfl, st, ep, hw, hpl, hfit, hm⟩ := h
    rw [List.length_map, hal] at hpl hm
    refine ⟨_, rfl, p, us, rfl, .inl ⟨SqL.of ep, fun t2 ht2 => ⟨_, rfl, (by show 2 ≤ sizeLine; decide), fun t ht => ?_⟩⟩⟩
    have s1 := Same.new (o := .tup us) ht2
    have s2 := Same.new (o := .tup [.ref t2, .int (manys ps)]) ht
    have s3 := s1.trans s2
    exact q t t2 us ps _ upd_same (s2 _ _ upd_same) (hw.mono (same_tups' s3)) hpl hfit (by omega) (st.trans (Step.ofSame' st.box s3))
end
end D

set_option Elab.async false
set_option linter.all false
set_option maxRecDepth 100000
set_option maxHeartbeats 4000000
namespace D
open PySem L2
theorem IsBox.ne {H : Hp} {b p : Addr} (hb : IsBox H b) (hp : H p = none) : p ≠ b := fun z => by
  obtain ⟨x, y, w', e⟩ := hb
  rw [← z, hp] at e
  cases e
def wIf : Wo → Bool
  | .ifw => true
  | _ => false
def wList : Wo → Bool
  | .list => true
  | _ => false
def wB : Wo → Bool
  | .letw => true
  | .each => true
  | .over => true
  | _ => false
def wEach : Wo → Bool
  | .each => true
  | _ => false
def wOver : Wo → Bool
  | .over => true
  | _ => false
theorem eqIf (d : Wo) : decide (V.str (woS d) = V.str "if") = wIf d := by cases d <;> decide +kernel
theorem eqList (d : Wo) : decide (V.str (woS d) = V.str "list") = wList d := by cases d <;> decide +kernel
theorem eqEach (d : Wo) : decide (V.str (woS d) = V.str "each") = wEach d := by cases d <;> decide +kernel
theorem eqOver (d : Wo) : decide (V.str (woS d) = V.str "over") = wOver d := by cases d <;> decide +kernel
theorem inB (d : Wo) : inV (.str (woS d)) [.str "let", .str "each", .str "over"] = wB d := by cases d <;> decide +kernel
def Wo.cnt (d : Wo) : Int := 2 + (if wIf d then 1 else 0) - (if w1 d then 1 else 0)
theorem cnt_le (d : Wo) : 1 ≤ d.cnt ∧ d.cnt ≤ 3 := by cases d <;> decide
theorem cnt_need (d : Wo) (h : wLit d = false) (h2 : wVar d = false) (h3 : wList d = false) : d.cnt ≤ d.needs ∧ wVL d = false := by cases d <;> first | (simp_all [wLit, wVar, wList]; done) | decide
theorem b_need (d : Wo) (h : wB d = true) : 2 ≤ d.needs ∧ wVL d = false := by cases d <;> first | (simp [wB] at h; done) | decide
theorem o_need (d : Wo) (h : wOver d = true) : d.needs = 3 ∧ wB d = true ∧ bcnt d = 2 ∧ wEO d = true ∧ wEach d = false := by cases d <;> first | (simp [wOver] at h; done) | decide
theorem b_cnt (d : Wo) (h : wB d = true) (h2 : wOver d = false) : bcnt d = 1 := by cases d <;> first | (simp [wB] at h; done) | (simp [wOver] at h2; done) | decide
theorem n_cnt (d : Wo) (h : wB d = false) : bcnt d = 0 ∧ wEach d = false ∧ wOver d = false := by cases d <;> first | (simp [wB] at h; done) | decide
theorem e_need (d : Wo) (h : wEach d = true) : wB d = true ∧ wEO d = true ∧ wOver d = false := by cases d <;> first | (simp [wEach] at h; done) | decide
/-- the scopes of the parts: all of them the one, or the last with the bound names -/
def Shp (scopes : List (List Str)) (scope bs : List Str) : Prop := (bs = [] ∧ ∀ s ∈ scopes, s = scope) ∨ ∃ m, scopes = List.replicate m scope ++ [scope ++ bs]
theorem fits_all {scope : List Str} : ∀ {ps : List Rl}, (∀ p ∈ ps, p.Fit scope) → Fits ps scope []
  | [], _ => by rw [Fits]; trivial
  | [p], h => by rw [Fits, List.append_nil]; exact h p (by simp)
  | p :: q :: r, h => by rw [Fits]; exact ⟨h p (by simp), fits_all fun x hx => h x (List.mem_cons_of_mem _ hx)⟩
theorem fits_last {scope bs : List Str} : ∀ (m : Nat) (ps : List Rl), ps.length = m + 1 → (∀ (i : Nat) (p : Rl) (sc : List Str), ps[i]? = some p → (List.replicate m scope ++ [scope ++ bs])[i]? = some sc → p.Fit sc) → Fits ps scope bs
  | 0, [p], _, h => by rw [Fits]; exact h 0 p _ rfl rfl
  | m + 1, p :: q :: r, hl, h => by
    rw [Fits]
    refine ⟨h 0 p _ rfl (by rw [List.replicate_succ]; rfl), fits_last m (q :: r) (by simpa using hl) fun i x sc hx hs => h (i + 1) x sc (by simpa using hx) ?_⟩
    rw [List.replicate_succ, List.cons_append, List.getElem?_cons_succ]
    exact hs
  | m + 1, [p], hl, _ => by simp at hl
  | 0, p :: q :: r, hl, _ => by simp at hl
theorem Shp.fits {scopes : List (List Str)} {scope bs : List Str} (h : Shp scopes scope bs) {ps : List Rl} (hl : ps.length = scopes.length) (hp : ∀ (i : Nat) (p : Rl) (sc : List Str), ps[i]? = some p → scopes[i]? = some sc → p.Fit sc) : Fits ps scope bs := by
  rcases h with ⟨rfl, h⟩ | ⟨m, rfl⟩
  · refine fits_all fun p hm => ?_
    obtain ⟨i, hi, rfl⟩ := List.getElem_of_mem hm
    have e : scopes[i]? = some (scopes[i]'(by omega)) := List.getElem?_eq_getElem (by omega)
    have := hp i _ _ (List.getElem?_eq_getElem hi) e
    rw [h _ (List.mem_of_getElem? e)] at this
    exact this
  · exact fits_last m ps (by simpa using hl) hp
theorem highs_le {n : Int} : ∀ {ps : List Rl}, 0 ≤ n → (∀ p ∈ ps, (p.high : Int) ≤ n - 1) → (highs ps : Int) ≤ n
  | [], h, _ => by simp [highs]; exact h
  | p :: r, h, hp => by
    have h1 := hp p (by simp)
    have h2 := highs_le h fun q hq => hp q (List.mem_cons_of_mem _ hq)
    simp only [highs]
    omega
theorem flat_rep {α : Type} (n : Nat) (x : α) : (List.replicate n [x]).flatten = List.replicate n x := by
  induction n with
  | zero => rfl
  | succ n ih => rw [List.replicate_succ, List.flatten_cons, ih, List.replicate_succ]; rfl
theorem zw_signs (z : Str) (h : z = "z" ∨ z = "w") : Signs z := by
  rcases h with rfl | rfl
  · intro c hc
    have e : (Str.ofString "z").cps.toList = [122] := by decide +kernel
    rw [e] at hc
    simp at hc
    omega
  · intro c hc
    have e : (Str.ofString "w").cps.toList = [119] := by decide +kernel
    rw [e] at hc
    simp at hc
    omega
def Rd (d : Wo) (b sc l : Addr) (scope : List Str) (spare floors rounds : Int) (H0 : Hp) (fin : Bool) (σ : St) (H : Hp) : Prop :=
  ∃ (bn ss rs : Addr) (bs : List Str) (as : List Addr) (scopes : List (List Str)) (rl : List Int) (o10 : Option V), σ = [some (.ref b), some (.ref sc), some (.ref l), some (.int spare), some (.int floors), some (.int rounds), some (.str (woS d)), some (.ref bn), some (.ref ss), some (.ref rs), o10, none, none] ∧ Step b H0 H ∧ H bn = some (.tup (bs.map V.str)) ∧
    H ss = some (.lst (as.map V.ref)) ∧ ss ≠ b ∧ H rs = some (.lst (rl.map V.int)) ∧ rs ≠ b ∧ as.length = scopes.length ∧ scopes.length ≤ rl.length ∧ (∀ r ∈ rl, 0 ≤ r ∧ r ≤ 100) ∧
    (∀ (i : Nat) (a : Addr) (s : List Str), as[i]? = some a → scopes[i]? = some s → H a = some (.lst (s.map V.str)) ∧ a ≠ b ∧ s.length ≤ scope.length + 2) ∧ (∀ z ∈ bs, z.length ≤ 8 ∧ Signs z) ∧
    (fin = true → (scopes.length : Int) ≤ spare - 1 ∧ (0 ≤ floors - 1 ∨ scopes = []) ∧ bs.length = bcnt d ∧ Shp scopes scope bs) ∧ (fin = false → ∃ z, bs = [z]) ∧ (wEach d = true → scopes.length ≤ 2)
section
variable {P : Program} {w : World} {K : PySem.W.Frag} {mg : Str → Option Value} {base : Heap} {f : Addr} {fd : FuncData} {k n : Nat}
theorem sc_lany : FnScope ["_law_box_here", "_law_scope", "_law_names", "_law_spare", "_law_floors", "_law_rounds", "_law_word_here", "_law_bound", "_law_scopes", "_law_inner", "_law_other", "_law_parts", "_law_used"] ["_law_box_here", "_law_scope", "_law_names", "_law_spare", "_law_floors", "_law_rounds"] (defScope s_lany) := ⟨rfl, rfl, rfl, by decide +kernel, rfl, by decide +kernel, by decide +kernel⟩
theorem ok_lany (F : Fun K "_law_any" "_law_any" s_lany f fd) (G_lparts_by : Have P w K mg base "_law_parts_by" k ["_law_box_here", "_law_scopes", "_law_names", "_law_spare", "_law_floors", "_law_rounds"] (spPartsBy n)) (G_lvariable : Have P w K mg base "_law_variable" k ["_law_box_here"] (spVar)) (G_ltake : Have P w K mg base "_law_take" k ["_law_box_here", "_law_wide"] (spTake)) (G_llit : Have P w K mg base "_law_lit" k ["_law_box_here", "_law_names"] (spLit)) (G_lword : Have P w K mg base "_law_word" k ["_law_box_here", "_law_scope", "_law_spare", "_law_floors", "_law_rounds"] (spWord)) (m_int : mg "int" = none) (m_len : mg "len" = none) (m_list : mg "list" = none) (m_min : mg "min" = none) : FnOk P w K mg base CX0 (k + 1) f fd ["_law_box_here", "_law_scope", "_law_names", "_law_spare", "_law_floors", "_law_rounds"] (spAny (n + 1)) := by
  refine F.okQ sc_lany (fun vs H Q E h => ?_) (fun cdv A outer s H vs Q E hr h => ?_)
  · obtain ⟨b, sc, l, scope, names, spare, floors, rounds, rfl, _⟩ := h
    rfl
  obtain ⟨b, sc, l, scope, names, spare, floors, rounds, rfl, hb, hnm, hsc, hsb, hsl, hs1, hs100, hf0, hfn, hr0, hr100, q⟩ := h
  refine ⟨_, (pss_cons (ps_set (i := 6) sc_lany.nd rfl (Or.inl rfl) (pe_fn G_lword hr rfl (pa_cons (pv 0) (pa_cons (pv 1) (pa_cons (pv 3) (pa_cons (pv 4) (pa_cons (pv 5) pa_nil)))))))
    (pss_cons (ps_if (pt_cmpR op_eq (pv 6) pe_str (nomark _)) (pss_one (ps_ret (pe_tup (pa_cons (pe_fn G_llit hr rfl (pa_cons (pv 0) (pa_cons (pv 2) pa_nil))) (pa_cons pe_int pa_nil))))) pss_nil)
    (pss_cons (ps_if (pt_cmpR op_eq (pv 6) pe_str (nomark _)) (pss_one (ps_ret (pe_tup (pa_cons (pe_tup (pa_cons pe_str (pa_cons (pe_ix ix_list (pv 1) (pe_fn G_ltake hr rfl (pa_cons (pv 0) (pa_cons (pe_callB call_len rfl m_len PySem.boot_len (pa_cons (pv 1) pa_nil)) pa_nil))) (fun _ _ => rfl)) pa_nil))) (pa_cons pe_int pa_nil))))) pss_nil)
    (pss_cons (ps_set (i := 7) sc_lany.nd rfl (Or.inl rfl) (pe_tup pa_nil))
    (pss_cons (ps_set (i := 8) sc_lany.nd rfl (Or.inl rfl) (pe_op op_rep (pe_lst (pa_cons (pv 1) pa_nil)) (pe_op op_sub (pe_op op_add pe_int (pe_callTy call_int1 rfl m_int boot_intT (pa_cons (pe_cmpR op_eq (pv 6) pe_str (nomark _)) pa_nil))) (pe_callTy call_int1 rfl m_int boot_intT (pa_cons (pe_cmpR op_in_seq (pv 6) (pe_tup (pa_cons pe_str (pa_cons pe_str (pa_cons pe_str (pa_cons pe_str pa_nil))))) (by rfl)) pa_nil)))))
    (pss_cons (ps_set (i := 9) sc_lany.nd rfl (Or.inl rfl) (pe_op op_rep (pe_lst (pa_cons (pv 5) pa_nil)) pe_int))
    (pss_cons (ps_if (pt_cmpR op_eq (pv 6) pe_str (nomark _)) (pss_one (ps_set (i := 8) sc_lany.nd rfl (Or.inl rfl) (pe_op op_rep (pe_lst (pa_cons (pv 1) pa_nil)) (pe_callB (call_min2 rfl) rfl m_min PyProof.Rows.boot_min (pa_cons (pe_fn G_ltake hr rfl (pa_cons (pv 0) (pa_cons (pe_ix ix_list (pe_lst (pa_cons pe_int (pa_cons pe_int pa_nil))) (pe_callTy call_int1 rfl m_int boot_intT (pa_cons (pe_cmpR op_gt (pv 4) pe_int (nomark _)) pa_nil)) (fun _ _ => rfl)) pa_nil))) (pa_cons (pe_op op_sub (pv 3) pe_int) pa_nil)))))) pss_nil)
    (pss_cons (ps_if (pt_cmpR op_in_seq (pv 6) (pe_tup (pa_cons pe_str (pa_cons pe_str (pa_cons pe_str pa_nil)))) (by rfl)) (pss_cons (ps_set (i := 7) sc_lany.nd rfl (Or.inl rfl) (pe_tup (pa_cons (pe_fn G_lvariable hr rfl (pa_cons (pv 0) pa_nil)) pa_nil)))
    (pss_one (ps_set (i := 8) sc_lany.nd rfl (Or.inl rfl) (pe_lst (pa_cons (pv 1) (pa_cons (pe_op op_cat (pv 1) (pe_callTy call_list_of rfl m_list boot_listT (pa_cons (pv 7) pa_nil))) pa_nil)))))) pss_nil)
    (pss_cons (ps_if (pt_cmpR op_eq (pv 6) pe_str (nomark _)) (pss_one (ps_set (i := 9) sc_lany.nd rfl (Or.inl rfl) (pe_lst (pa_cons (pv 5) (pa_cons (pe_op op_sub (pv 5) pe_int) pa_nil))))) pss_nil)
    (pss_cons (ps_if (pt_cmpR op_eq (pv 6) pe_str (nomark _)) (pss_cons (ps_set (i := 10) sc_lany.nd rfl (Or.inl rfl) (pe_fn G_lvariable hr rfl (pa_cons (pv 0) pa_nil)))
    (pss_cons (ps_if (pt_cmpR op_eq (pv 10) (pe_ix ix_tup (pv 7) pe_int (fun _ _ => rfl)) (nomark _)) (pss_one (ps_set (i := 10) sc_lany.nd rfl (Or.inl rfl) (pe_ix ix_list (pe_lst (pa_cons pe_str (pa_cons pe_str pa_nil))) (pe_callTy call_int1 rfl m_int boot_intT (pa_cons (pe_cmpR op_eq (pv 10) pe_str (nomark _)) pa_nil)) (fun _ _ => rfl)))) pss_nil)
    (pss_cons (ps_set (i := 7) sc_lany.nd rfl (Or.inl rfl) (pe_op op_catT (pv 7) (pe_tup (pa_cons (pv 10) pa_nil))))
    (pss_cons (ps_set (i := 8) sc_lany.nd rfl (Or.inl rfl) (pe_lst (pa_cons (pv 1) (pa_cons (pv 1) (pa_cons (pe_op op_cat (pv 1) (pe_callTy call_list_of rfl m_list boot_listT (pa_cons (pv 7) pa_nil))) pa_nil)))))
    (pss_one (ps_set (i := 9) sc_lany.nd rfl (Or.inl rfl) (pe_lst (pa_cons (pv 5) (pa_cons (pv 5) (pa_cons (pe_op op_sub (pv 5) pe_int) pa_nil)))))))))) pss_nil)
    (pss_cons (ps_asg (pe_fn G_lparts_by hr rfl (pa_cons (pv 0) (pa_cons (pv 8) (pa_cons (pv 2) (pa_cons (pe_op op_sub (pv 3) pe_int) (pa_cons (pe_op op_sub (pv 4) pe_int) (pa_cons (pv 9) pa_nil))))))) (pg_tup rfl (pgs_cons (pg_name (i := 11) sc_lany.nd rfl (Or.inl rfl)) (pgs_cons (pg_name (i := 12) sc_lany.nd rfl (Or.inl rfl)) pgs_nil))))
    (pss_one (ps_ret (pe_tup (pa_cons (pe_op op_catT (pe_op op_catT (pe_tup (pa_cons (pv 6) pa_nil)) (pv 7)) (pv 11)) (pa_cons (pe_op op_add (pv 12) pe_int) pa_nil)))))))))))))))), ?_⟩
  refine ⟨_, rfl, _, rfl, _, rfl, _, rfl, _, rfl, b, sc, _, spare, floors, rounds, rfl, hb, hsc, hsb, fun d H1 st1 hd => ?_⟩
  refine ⟨_, rfl, rfl, _, rfl, ?_⟩
  rw [show Str.ofString "lit" = "lit" from rfl, eqLit]
  cases hlit : wLit d with
  | true =>
    refine iteT ⟨_, rfl, _, rfl, b, l, names, rfl, st1.box, (hnm.step st1).1, hnm.2.1, hnm.2.2.1, hnm.2.2.2.1, hnm.2.2.2.2, fun v x H2 rx okx dx st2 => ⟨(by show 2 ≤ sizeLine; decide), fun a ha => ?_⟩⟩
    have st3 := st1.trans st2
    have s3 := Same.new (o := .tup [v, .int 1]) ha
    exact q a v (.lit x) _ upd_same (rx.mono (same_tups' s3)) (by rw [Rl.Fit]; exact ⟨okx, dx⟩) (by simp only [Rl.many]; omega) (by simp only [Rl.high]; omega) (st3.trans (Step.ofSame' st3.box s3))
  | false =>
    obtain ⟨hneed, hfl, hsv, heo⟩ := hd hlit
    refine iteF ⟨_, rfl, rfl, _, rfl, ?_⟩
    rw [show Str.ofString "var" = "var" from rfl, eqVar]
    cases hvar : wVar d with
    | true =>
      have hpos : 0 < scope.length := List.length_pos_iff.mpr fun z => hsv hvar (by rw [z]; rfl)
      have hsc1 := st1.keep sc _ hsb hsc
      refine iteT ⟨_, rfl, _, rfl, _, rfl, _, _, rfl, .inl ⟨_, SqL.of hsc1, rfl⟩, b, _, rfl, st1.box, by rw [List.length_map]; omega, by rw [List.length_map]; omega, fun m H2 m0 m1 st2 => ?_⟩
      rw [List.length_map] at m1
      have hi : m.toNat < scope.length := by omega
      have hat : atI (scope.map V.str) m = some (.str scope[m.toNat]) := by
        have := atI_nat (xs := scope.map V.str) (j := m.toNat) (v := .str scope[m.toNat]) (by rw [List.getElem?_map, List.getElem?_eq_getElem hi]; rfl)
        rw [show ((m.toNat : Nat) : Int) = m by omega] at this
        exact this
      have st3 := st1.trans st2
      refine ⟨sc, _, m, _, rfl, rfl, SqL.of (st3.keep sc _ hsb hsc), hat, (by show 2 ≤ sizeLine; decide), fun a ha => ⟨(by show 2 ≤ sizeLine; decide), fun a2 ha2 => ?_⟩⟩
      have s4 := Same.new (o := .tup [.str "var", .str scope[m.toNat]]) ha
      have s5 := Same.new (o := .tup [.ref a, .int 1]) ha2
      have s45 := s4.trans s5
      exact q a2 (.ref a) (.var scope[m.toNat]) _ upd_same (by rw [Rl.toW]; exact RW.pair (s5 _ _ upd_same) (.txt _) (.txt _)) (by rw [Rl.Fit]; exact List.getElem_mem hi) (by simp only [Rl.many]; omega) (by simp only [Rl.high]; omega) (st3.trans (Step.ofSame' st3.box s45))
    | false =>
      refine iteF ?_
      have h1 := st1.box
      have hsc1 := st1.keep sc _ hsb hsc
      refine ⟨(by show 0 ≤ sizeLine; decide), fun bn hbn => ?_⟩
      have st2 := st1.trans (Step.new (o := .tup []) h1 hbn)
      have e1 := in1 d
      refine ⟨_, rfl, (by show 1 ≤ sizeLine; decide), fun p1 hp1 => ⟨_, rfl, rfl, .inr ⟨_, rfl, _, _, rfl, rfl, _, rfl, (by show 4 ≤ sizeLine; decide), fun q2 hq2 => ⟨q2, _, rfl, .inr (SqT.of upd_same), rfl, rfl, .inr ⟨_, rfl, _, _, rfl, rfl, ?_⟩⟩⟩⟩⟩
      have st3 := st2.trans (Step.new (o := .lst [.ref sc]) st2.box hp1)
      have st4 := st3.trans (Step.new (o := .tup [.str "count", .str "figures", .str "look", .str "cry"]) st3.box hq2)
      obtain ⟨c0, c3⟩ := cnt_le d
      have hcnt : (2 + (if wIf d then 1 else 0) - (if w1 d then 1 else 0) : Int) = d.cnt := rfl
      have hk1 : upd (upd (upd H1 bn (.tup [])) p1 (.lst [.ref sc])) q2 (.tup [.str "count", .str "figures", .str "look", .str "cry"]) p1 = some (.lst [.ref sc]) := (Same.new hq2) _ _ upd_same
      refine ⟨p1, d.cnt, [.ref sc], rfl, ?_, hk1, by omega, by omega, by show 1 * _ ≤ sizeLine; exact Nat.le_trans (show 1 * d.cnt.toNat ≤ 3 by omega) (by decide), fun s1 hs1 => ?_⟩
      · rw [← hcnt, ← eqIf, ← e1]
        rfl
      have hs1b := IsBox.ne st4.box hs1
      have st5 := st4.trans (Step.new (o := .lst (List.replicate d.cnt.toNat [V.ref sc]).flatten) st4.box hs1)
      refine ⟨_, rfl, (by show 1 ≤ sizeLine; decide), fun p2 hp2 => ⟨p2, 8, [.int rounds], rfl, rfl, upd_same, by decide, by decide, by show 1 * 8 ≤ sizeLine; decide, fun r1 hr1 => ?_⟩⟩
      have st6 := st5.trans (Step.new (o := .lst [.int rounds]) st5.box hp2)
      have hr1b := IsBox.ne st6.box hr1
      have s67 := Same.new (o := .lst (List.replicate 8 [V.int rounds]).flatten) hr1
      have st7 := st6.trans (Step.ofSame' st6.box s67)
      have ebn : upd (upd (upd (upd (upd (upd H1 bn (.tup [])) p1 (.lst [.ref sc])) q2 (.tup [.str "count", .str "figures", .str "look", .str "cry"])) s1 (.lst (List.replicate d.cnt.toNat [V.ref sc]).flatten)) p2 (.lst [.int rounds])) r1 (.lst (List.replicate 8 [V.int rounds]).flatten) bn = some (.tup []) := s67 _ _ ((Same.new hp2) _ _ ((Same.new hs1) _ _ ((Same.new hq2) _ _ ((Same.new hp1) _ _ upd_same))))
      have es1 : upd (upd (upd (upd (upd (upd H1 bn (.tup [])) p1 (.lst [.ref sc])) q2 (.tup [.str "count", .str "figures", .str "look", .str "cry"])) s1 (.lst (List.replicate d.cnt.toNat [V.ref sc]).flatten)) p2 (.lst [.int rounds])) r1 (.lst (List.replicate 8 [V.int rounds]).flatten) s1 = some (.lst (List.replicate d.cnt.toNat [V.ref sc]).flatten) := s67 _ _ ((Same.new hp2) _ _ upd_same)
      replace es1 := es1.trans (by rw [flat_rep])
      dsimp only [gName]
      refine seqI (fun σ' H' => ∃ (ss : Addr) (m : Nat), σ' = [some (.ref b), some (.ref sc), some (.ref l), some (.int spare), some (.int floors), some (.int rounds), some (.str (woS d)), some (.ref bn), some (.ref ss), some (.ref r1), none, none, none] ∧ Step b H H' ∧ H' bn = some (.tup []) ∧ H' ss = some (.lst (List.replicate m (V.ref sc))) ∧ ss ≠ b ∧ H' r1 = some (.lst (List.replicate 8 (V.int rounds))) ∧ m ≤ 8 ∧ (wB d = false → (m : Int) ≤ spare - 1 ∧ (1 ≤ floors ∨ m = 0))) (fun σ' H' h => ?_) (fun tl => ?_)
      · obtain ⟨ss, m, rfl, stA, ebA, esA, hsA, erA, hm, hmf⟩ := h
        refine seqI (fun σ' H' => Rd d b sc l scope spare floors rounds H (!wOver d) σ' H') (fun σ' H' h => ?_) (fun tl => ?_)
        · refine seqI (fun σ' H' => Rd d b sc l scope spare floors rounds H (!wOver d) σ' H') (fun σ' H' h => ?_) (fun tl => ?_)
          · refine seqI (fun σ' H' => Rd d b sc l scope spare floors rounds H true σ' H') (fun σ' H' h => ?_) (fun tl => ?_)
            · -- the parts
              obtain ⟨bn, ss, rs, bs, as, scopes, rl, o10, rfl, stF, ebn, ess, hssb, ers, hrsb, hal, hrl, hrr, hsc', hbs, hfin, _⟩ := h
              obtain ⟨hsp, hfl0, hbc, hshp⟩ := hfin rfl
              refine ⟨_, rfl, _, rfl, _, rfl, _, rfl, _, _, rfl, rfl, _, rfl, _, _, rfl, rfl, _, rfl, ?_⟩
              refine ⟨b, ss, l, rs, as, scopes, names, rl, _, _, rfl, stF.box, hnm.step stF, ess, hssb, ers, hrsb, hal, hrl, hrr, fun i a s0 ha hs0 => ?_, by omega, by omega, by omega, hfl0, fun t t2 us ps H9 et et2 hus hpl hfit hmn st9 => ?_⟩
              · obtain ⟨x1, x2, x3⟩ := hsc' i a s0 ha hs0
                exact ⟨x1, x2, by omega⟩
              have stG := stF.trans st9
              have ebn9 := st9.tups stF.box _ _ ebn
              refine ⟨t, _, rfl, SqT.of et, rfl, _, _, rfl, _, _, rfl, rfl, _, rfl, (by show 1 ≤ sizeLine; decide), fun a1 ha1 => ⟨_, rfl, ?_⟩⟩
              have sa1 := Same.new (o := .tup [.str (woS d)]) ha1
              -- the tuple is joined
              have fin : ∀ (a : Addr) (Hx : Hp), Same H9 Hx → Hx a = some (.tup (.str (woS d) :: (bs.map V.str ++ us))) → ∀ a3, Hx a3 = none → Q (.ref a3) (upd Hx a3 (.tup [.ref a, .int (manys ps + 1)])) := fun a Hx sx ea a3 ha3 => by
                have s3 := Same.new (o := .tup [.ref a, .int (manys ps + 1)]) ha3
                refine q a3 (.ref a) (.op d bs ps) _ ?_ ?_ ?_ ?_ ?_ (stG.trans (Step.ofSame' stG.box (sx.trans s3)))
                · rw [upd_same]
                  simp only [Rl.many]
                  rw [show ((1 + manys ps : Nat) : Int) = manys ps + 1 by omega]
                · rw [Rl.toW]
                  refine .lst (s3 _ _ ea) (by simp; exact hus.len) fun i v x hv hx => ?_
                  match i with
                  | 0 => cases hv; cases hx; exact .txt _
                  | i + 1 =>
                    rw [List.getElem?_cons_succ] at hv hx
                    by_cases hi : i < bs.length
                    · rw [List.getElem?_append_left (by simpa using hi), List.getElem?_map, List.getElem?_eq_getElem hi] at hv hx
                      cases hv; cases hx; exact .txt _
                    · rw [List.getElem?_append_right (by simp; omega), List.length_map] at hv hx
                      exact (hus.mono (same_tups' (sx.trans s3))).2 _ v x hv hx
                · rw [Rl.Fit]
                  exact ⟨hlit, hvar, hbc, hbs, hshp.fits hpl fun i p s0 hp hs => (hfit i p s0 hp hs).1⟩
                · simp only [Rl.many]; omega
                · simp only [Rl.high]
                  refine highs_le (by omega) fun p hp => ?_
                  obtain ⟨i, hi, rfl⟩ := List.getElem_of_mem hp
                  have := (hfit i _ _ (List.getElem?_eq_getElem hi) (List.getElem?_eq_getElem (by omega))).2
                  omega
              have hbl : bs.length ≤ 2 := by rw [hbc]; cases d <;> decide
              have hul : us.length ≤ 100 := by
                have := hus.len
                rw [rlWs_len] at this
                omega
              refine ⟨a1, bn, _, _, rfl, rfl, SqT.of upd_same, SqT.of (sa1 _ _ ebn9), (fun z => nomatch z), by simp; exact Nat.le_trans (show 1 + bs.length ≤ 200 by omega) (by decide), fun z => ⟨_, rfl, ?_⟩, fun _ p6 hp6 => ⟨_, rfl, ?_⟩⟩
              · have ea1 : upd H9 a1 (.tup [.str (woS d)]) a1 = some (.tup (.str (woS d) :: bs.map V.str)) := by rw [upd_same, z]
                refine ⟨a1, t2, _, us, rfl, rfl, SqT.of ea1, SqT.of ((sa1) _ _ et2), (fun z => nomatch z), by simp; exact Nat.le_trans (show bs.length + 1 + us.length ≤ 200 by omega) (by decide), fun z => ?_, fun _ p7 hp7 => ?_⟩
                · refine ⟨_, rfl, _, _, rfl, rfl, (by show 2 ≤ sizeLine; decide), fin a1 _ (sa1) (by rw [ea1, z, List.append_nil])⟩
                · exact ⟨_, rfl, _, _, rfl, rfl, (by show 2 ≤ sizeLine; decide), fin p7 _ ((sa1).trans (Same.new hp7)) (by rw [upd_same]; rfl)⟩
              · have ea6 : upd (upd H9 a1 (.tup [.str (woS d)])) p6 (.tup ([.str (woS d)] ++ bs.map V.str)) p6 = some (.tup (.str (woS d) :: bs.map V.str)) := by rw [upd_same]; rfl
                have s6' := sa1.trans (Same.new (o := .tup ([.str (woS d)] ++ bs.map V.str)) hp6)
                refine ⟨p6, t2, _, us, rfl, rfl, SqT.of ea6, SqT.of ((s6') _ _ et2), (fun z => nomatch z), by simp; exact Nat.le_trans (show bs.length + 1 + us.length ≤ 200 by omega) (by decide), fun z => ?_, fun _ p7 hp7 => ?_⟩
                · refine ⟨_, rfl, _, _, rfl, rfl, (by show 2 ≤ sizeLine; decide), fin p6 _ (s6') (by rw [ea6, z, List.append_nil])⟩
                · exact ⟨_, rfl, _, _, rfl, rfl, (by show 2 ≤ sizeLine; decide), fin p7 _ ((s6').trans (Same.new hp7)) (by rw [upd_same]; rfl)⟩
            · have h0 := h
              obtain ⟨bn, ss, rs, bs, as, scopes, rl, o10, rfl, stF, ebn, ess, hssb, ers, hrsb, hal, hrl, hrr, hsc', hbs, hfin, hz, hl2⟩ := h
              refine ⟨_, rfl, rfl, _, rfl, ?_⟩
              rw [show Str.ofString "over" = "over" from rfl, eqOver]
              cases hov : wOver d with
              | false =>
                rw [hov] at h0
                exact iteF (tl _ _ h0)
              | true =>
                obtain ⟨x1, x2, x3, x4, x5⟩ := o_need d hov
                have hr' := heo x4
                obtain ⟨z, rfl⟩ := hz (by rw [hov]; rfl)
                have hf1 : 1 ≤ floors := by
                  have : floors ≠ 0 := fun z => by have := (b_need d x2).2; rw [hfl z] at this; cases this
                  omega
                refine iteT ⟨_, rfl, b, rfl, stF.box, fun z2 H4 hz8 hzs st4' => ?_⟩
                have stC := stF.trans st4'
                have ebn4 := st4'.tups stF.box _ _ ebn
                dsimp only [gName]
                refine seqI (fun σ' H' => ∃ z3 : Str, σ' = [some (.ref b), some (.ref sc), some (.ref l), some (.int spare), some (.int floors), some (.int rounds), some (.str (woS d)), some (.ref bn), some (.ref ss), some (.ref rs), some (.str z3), none, none] ∧ Same H4 H' ∧ z3.length ≤ 8 ∧ Signs z3) (fun σ' H' h => ?_) (fun tl2 => ?_)
                · obtain ⟨z3, rfl, s4, hz3, hs3⟩ := h
                  refine ⟨_, rfl, _, rfl, (by show 1 ≤ sizeLine; decide), fun q6 hq6 => ?_⟩
                  have s6 := s4.trans (Same.new (o := .tup [.str z3]) hq6)
                  refine ⟨bn, q6, _, _, rfl, rfl, SqT.of (s6 _ _ ebn4), SqT.of upd_same, (fun z => nomatch z), (by show 1 + 1 ≤ sizeLine; decide), (fun z => nomatch z), fun _ bn2 hbn2 => ?_⟩
                  have s7 := Same.new (o := .tup ([.str z] ++ [.str z3])) hbn2
                  refine ⟨_, rfl, _, rfl, _, rfl, _, rfl, bn2, _, rfl, .inr (SqT.of upd_same), fun l3 hl3 => ?_⟩
                  have s8 := Same.new (o := .lst ([.str z] ++ [.str z3])) hl3
                  have s68 := s6.trans (s7.trans s8)
                  refine ⟨sc, l3, _, _, rfl, rfl, s68 _ _ (stC.keep sc _ hsb hsc), upd_same, by rw [List.length_map]; exact Nat.le_trans (show scope.length + 2 ≤ 1000 by omega) (by decide), fun p5 hp5 => ⟨(by show 3 ≤ sizeLine; decide), fun s5 hs5 => ?_⟩⟩
                  have s9 := Same.new (o := .lst (scope.map V.str ++ ([.str z] ++ [.str z3]))) hp5
                  have s10 := Same.new (o := .lst [.ref sc, .ref sc, .ref p5]) hs5
                  refine ⟨_, rfl, _, rfl, _, rfl, _, _, rfl, rfl, (by show 3 ≤ sizeLine; decide), fun r2 hr2 => tl _ _ ?_⟩
                  have s11 := Same.new (o := .lst [.int rounds, .int rounds, .int (rounds - 1)]) hr2
                  have sAll := s68.trans (s9.trans (s10.trans s11))
                  have hboxC := stC.box
                  refine ⟨bn2, s5, r2, [z, z3], [sc, sc, p5], [scope, scope, scope ++ [z, z3]], [rounds, rounds, rounds - 1], _, rfl, stC.trans (Step.ofSame' hboxC sAll), (s8.trans (s9.trans (s10.trans s11))) _ _ upd_same, s11 _ _ upd_same, IsBox.ne (Step.ofSame' hboxC (s68.trans s9)).box hs5, upd_same, IsBox.ne (Step.ofSame' hboxC (s68.trans (s9.trans s10))).box hr2, rfl, Nat.le_refl _, fun r hr => ?_, fun i a s0 ha hs0 => ?_, fun y hy => ?_, fun hf => ⟨?_, .inl (by omega), x3.symm, .inr ⟨2, rfl⟩⟩, fun z => (nomatch z), fun z => by rw [x5] at z; cases z⟩
                  · simp only [List.mem_cons, List.not_mem_nil, or_false] at hr
                    omega
                  · match i with
                    | 0 => cases ha; cases hs0; exact ⟨sAll _ _ (stC.keep sc _ hsb hsc), hsb, by omega⟩
                    | 1 => cases ha; cases hs0; exact ⟨sAll _ _ (stC.keep sc _ hsb hsc), hsb, by omega⟩
                    | 2 =>
                      cases ha; cases hs0
                      exact ⟨((s10.trans s11) _ _ upd_same).trans (by rw [List.map_append]; rfl), IsBox.ne (Step.ofSame' hboxC s68).box hp5, by rw [List.length_append]; exact Nat.le_refl _⟩
                    | i + 3 => cases ha
                  · simp only [List.mem_cons, List.not_mem_nil, or_false] at hy
                    rcases hy with rfl | rfl
                    · exact hbs _ (by simp)
                    · exact ⟨hz3, hs3⟩
                  · show (3 : Int) ≤ spare - 1; omega
                · refine ⟨_, rfl, _, rfl, bn, _, 0, _, rfl, rfl, SqT.of ebn4, rfl, rfl, _, rfl, ite2 (fun _ => ?_) (fun _ => tl2 _ _ ⟨z2, rfl, Same.refl _, hz8, hzs⟩)⟩
                  refine ⟨(by show 2 ≤ sizeLine; decide), fun q7 hq7 => ⟨_, rfl, rfl, .inr ⟨_, rfl, ?_⟩⟩⟩
                  have s7 := Same.new (o := .lst [.str "z", .str "w"]) hq7
                  obtain ⟨z3, e3, g3⟩ : ∃ z3 : Str, atI [V.str "z", V.str "w"] (if (decide (V.str z2 = V.str "z")) = true then 1 else 0) = some (.str z3) ∧ z3.length ≤ 8 ∧ Signs z3 := by
                    cases decide (V.str z2 = V.str "z") with
                    | true => exact ⟨"w", rfl, by decide +kernel, zw_signs _ (.inr rfl)⟩
                    | false => exact ⟨"z", rfl, by decide +kernel, zw_signs _ (.inl rfl)⟩
                  exact ⟨q7, _, _, _, rfl, rfl, SqL.of upd_same, e3, tl2 _ _ ⟨z3, rfl, s7, g3⟩⟩
          · have h0 := h
            obtain ⟨bn, ss, rs, bs, as, scopes, rl, o10, rfl, stF, ebn, ess, hssb, ers, hrsb, hal, hrl, hrr, hsc', hbs, hfin, hz, hl2⟩ := h
            refine ⟨_, rfl, rfl, _, rfl, ?_⟩
            rw [show Str.ofString "each" = "each" from rfl, eqEach]
            cases hea : wEach d with
            | false => exact iteF (tl _ _ h0)
            | true =>
              obtain ⟨x1, x2, x3⟩ := e_need d hea
              have hr' := heo x2
              refine iteT ⟨_, rfl, _, rfl, _, _, rfl, rfl, (by show 2 ≤ sizeLine; decide), fun r2 hr2 => tl _ _ ?_⟩
              have sN := Same.new (o := .lst [.int rounds, .int (rounds - 1)]) hr2
              refine ⟨bn, ss, r2, bs, as, scopes, [rounds, rounds - 1], o10, rfl, stF.trans (Step.ofSame' stF.box sN), sN _ _ ebn, sN _ _ ess, hssb, upd_same, IsBox.ne stF.box hr2, hal, hl2 hea, fun r hr => ?_, fun i a s0 ha hs0 => ?_, hbs, hfin, hz, hl2⟩
              · simp only [List.mem_cons, List.not_mem_nil, or_false] at hr
                omega
              · obtain ⟨y1, y2, y3⟩ := hsc' i a s0 ha hs0
                exact ⟨sN _ _ y1, y2, y3⟩
        · refine ⟨_, rfl, (by show 3 ≤ sizeLine; decide), fun q3 hq3 => ⟨q3, _, rfl, .inr (SqT.of upd_same), rfl, rfl, _, rfl, ?_⟩⟩
          have sq := Same.new (o := .tup [.str "let", .str "each", .str "over"]) hq3
          have stB := stA.trans (Step.ofSame' stA.box sq)
          have hscB := stB.keep sc _ hsb hsc
          show if inV (.str (woS d)) [.str "let", .str "each", .str "over"] = true then _ else _
          rw [inB]
          cases hb0 : wB d with
          | false =>
            obtain ⟨x1, x2, x3⟩ := n_cnt d hb0
            obtain ⟨y1, y2⟩ := hmf hb0
            refine iteF (tl _ _ ⟨bn, ss, r1, [], List.replicate m sc, List.replicate m scope, List.replicate 8 rounds, none, rfl, stB, sq _ _ ebA, (sq _ _ esA).trans (by rw [List.map_replicate]), hsA, (sq _ _ erA).trans (by rw [List.map_replicate]), hr1b, by simp, by simp; omega, fun r hr => ?_, fun i a s0 ha hs0 => ?_, fun z hz => (nomatch hz), fun _ => ⟨by rw [List.length_replicate]; exact y1, ?_, x1.symm, .inl ⟨rfl, fun s hs => List.eq_of_mem_replicate hs⟩⟩, fun z => (by rw [x3] at z; cases z), fun z => (by rw [x2] at z; cases z)⟩)
            · rw [List.eq_of_mem_replicate hr]; exact ⟨hr0, hr100⟩
            · rw [List.eq_of_mem_replicate (List.mem_of_getElem? ha), List.eq_of_mem_replicate (List.mem_of_getElem? hs0)]
              exact ⟨hscB, hsb, by omega⟩
            · rcases y2 with y | y
              · left; omega
              · right; rw [y]; rfl
          | true =>
            obtain ⟨x1, x2⟩ := b_need d hb0
            have hf1 : 1 ≤ floors := by
              have : floors ≠ 0 := fun z => by rw [hfl z] at x2; cases x2
              omega
            refine iteT ⟨_, rfl, b, rfl, stB.box, fun z H4 hz8 hzs st4' => ⟨(by show 1 ≤ sizeLine; decide), fun bn2 hbn2 => ?_⟩⟩
            have stC := stB.trans st4'
            have sb2 := Same.new (o := .tup [.str z]) hbn2
            refine ⟨_, rfl, _, rfl, _, rfl, bn2, [.str z], rfl, .inr (SqT.of upd_same), fun l3 hl3 => ?_⟩
            have sb3 := Same.new (o := .lst [.str z]) hl3
            have sb23 := sb2.trans sb3
            have hsc3 := sb23 _ _ (stC.keep sc _ hsb hsc)
            refine ⟨sc, l3, _, _, rfl, rfl, hsc3, upd_same, by rw [List.length_map]; exact Nat.le_trans (show scope.length + 1 ≤ 1000 by omega) (by decide), fun p5 hp5 => ⟨(by show 2 ≤ sizeLine; decide), fun s5 hs5 => ?_⟩⟩
            have sb4 := Same.new (o := .lst (scope.map V.str ++ [.str z])) hp5
            have sb5 := Same.new (o := .lst [.ref sc, .ref p5]) hs5
            have sAll := (sb23.trans sb4).trans sb5
            have hboxC := stC.box
            have st34 := Step.ofSame' hboxC (sb23.trans sb4)
            refine tl _ _ ⟨bn2, s5, r1, [z], [sc, p5], [scope, scope ++ [z]], List.replicate 8 rounds, none, rfl, stC.trans (Step.ofSame' hboxC sAll), (sb3.trans (sb4.trans sb5)) _ _ upd_same, upd_same, IsBox.ne st34.box hs5, (sAll _ _ (st4'.keep _ _ hr1b (sq _ _ erA))).trans (by rw [List.map_replicate]), hr1b, rfl, by simp, fun r hr => ?_, fun i a s0 ha hs0 => ?_, fun y hy => ?_, fun hf => ⟨?_, .inl (by omega), ?_, .inr ⟨1, rfl⟩⟩, fun _ => ⟨z, rfl⟩, fun _ => Nat.le_refl _⟩
            · rw [List.eq_of_mem_replicate hr]; exact ⟨hr0, hr100⟩
            · match i with
              | 0 => cases ha; cases hs0; exact ⟨sAll _ _ (stC.keep sc _ hsb hsc), hsb, by omega⟩
              | 1 =>
                cases ha; cases hs0
                exact ⟨(sb5 _ _ upd_same).trans (by rw [List.map_append]; rfl), IsBox.ne (Step.ofSame' hboxC sb23).box hp5, by rw [List.length_append]; show _ + 1 ≤ _; omega⟩
              | i + 2 => cases ha
            · rw [List.mem_singleton.mp hy]; exact ⟨hz8, hzs⟩
            · show (2 : Int) ≤ spare - 1; omega
            · show 1 = bcnt d
              rw [b_cnt d hb0 (by simpa using hf)]
      · refine ⟨_, rfl, rfl, _, rfl, ?_⟩
        rw [show Str.ofString "list" = "list" from rfl, eqList]
        cases hls : wList d with
        | false =>
          obtain ⟨hcn, hvl⟩ := cnt_need d hlit hvar hls
          have hf1 : 1 ≤ floors := by
            have : floors ≠ 0 := fun z => by rw [hfl z] at hvl; cases hvl
            omega
          exact iteF (tl _ _ ⟨s1, d.cnt.toNat, rfl, st7, ebn, es1, hs1b, upd_same.trans (by rw [flat_rep]; rfl), by omega, fun _ => ⟨by omega, .inl hf1⟩⟩)
        | true =>
          have hwB : wB d = false := by cases d <;> first | rfl | (simp [wList] at hls; done)
          refine iteT ⟨_, rfl, (by show 1 ≤ sizeLine; decide), fun p3 hp3 => ⟨_, rfl, (by show 2 ≤ sizeLine; decide), fun p4 hp4 => ⟨_, rfl, _, _, rfl, rfl, .inr ⟨_, rfl, ?_⟩⟩⟩⟩
          have s73 := Same.new (o := .lst [.ref sc]) hp3
          have s74 := Same.new (o := .lst [.int 1, .int 9]) hp4
          have s8 := s73.trans s74
          have st8 := st7.trans (Step.ofSame' st7.box s8)
          have hp3b := IsBox.ne st7.box hp3
          obtain ⟨wd, hwd, hw0, hw9, hwf⟩ : ∃ wd : Int, atI [V.int 1, V.int 9] (if (decide (0 < floors)) = true then 1 else 0) = some (.int wd) ∧ 1 ≤ wd ∧ wd ≤ 9 ∧ (floors = 0 → wd = 1) := by
            by_cases hf : 0 < floors
            · exact ⟨9, by rw [decide_eq_true hf]; rfl, by decide, by decide, fun z => by omega⟩
            · exact ⟨1, by rw [decide_eq_false hf]; rfl, by decide, by decide, fun z => rfl⟩
          refine ⟨p4, _, _, _, rfl, rfl, SqL.of upd_same, hwd, b, wd, rfl, st8.box, by omega, by omega, fun m H2 m0 m1 st9 => ?_⟩
          refine ⟨_, rfl, _, _, rfl, rfl, _, _, rfl, ?_⟩
          have ep3 : H2 p3 = some (.lst [.ref sc]) := st9.keep _ _ hp3b (s74 _ _ upd_same)
          have hmn : (if spare - 1 < m then spare - 1 else m) ≤ spare - 1 ∧ (if spare - 1 < m then spare - 1 else m) ≤ m ∧ 0 ≤ (if spare - 1 < m then spare - 1 else m) := by
            split <;> omega
          generalize hmm : (if spare - 1 < m then spare - 1 else m) = mm at hmn
          refine ⟨p3, mm, [.ref sc], rfl, by rw [← hmm], ep3, by omega, by omega, by show 1 * _ ≤ sizeLine; exact Nat.le_trans (show 1 * mm.toNat ≤ 9 by omega) (by decide), fun s2 hs2 => ?_⟩
          have st10 := st8.trans st9
          have s11 := Same.new (o := .lst (List.replicate mm.toNat [V.ref sc]).flatten) hs2
          have hbnb : bn ≠ b := IsBox.ne h1 hbn
          refine tl _ _ ⟨s2, mm.toNat, rfl, st10.trans (Step.ofSame' st10.box s11), s11 _ _ (st9.keep _ _ hbnb (s8 _ _ ebn)), upd_same.trans (by rw [flat_rep]), IsBox.ne st10.box hs2, s11 _ _ (st9.keep _ _ hr1b (s8 _ _ (upd_same.trans (by rw [flat_rep]; rfl)))), by omega, fun _ => ⟨by omega, ?_⟩⟩
          by_cases hf : floors = 0
          · right
            have := hwf hf
            omega
          · left; omega
end
end D

set_option Elab.async false
set_option linter.all false
set_option maxRecDepth 100000
set_option maxHeartbeats 4000000
namespace D
open PySem L2
/-! ### a rule walked -/
abbrev Row := Nat × Rl × List Str
def rlW : Rl → Wo
  | .lit _ => .lit
  | .var _ => .var
  | .op d _ _ => d
def kidsR (n : Nat) (sc bs : List Str) : List Rl → List Row
  | [] => []
  | [p] => [(n, p, sc ++ bs)]
  | p :: q :: r => (n, p, sc) :: kidsR n sc bs (q :: r)
mutual
def walk (n : Nat) (sc : List Str) : Rl → List Row
  | .lit x => [(n, .lit x, sc)]
  | .var s => [(n, .var s, sc)]
  | .op d bs ps => (n, .op d bs ps, sc) :: walks (n + 1) sc bs ps
def walks (n : Nat) (sc bs : List Str) : List Rl → List Row
  | [] => []
  | [p] => walk n (sc ++ bs) p
  | p :: q :: r => walk n sc p ++ walks n sc bs (q :: r)
end
def walkR (x : Row) : List Row := walk x.1 x.2.2 x.2.1
theorem walks_kids (n : Nat) (sc bs : List Str) : ∀ ps : List Rl, walks n sc bs ps = (kidsR n sc bs ps).flatMap walkR
  | [] => by rw [walks, kidsR]; rfl
  | [p] => by rw [walks, kidsR]; simp [walkR]
  | p :: q :: r => by rw [walks, kidsR, List.flatMap_cons, walks_kids n sc bs (q :: r)]; rfl
theorem kids_len (n : Nat) (sc bs : List Str) : ∀ ps : List Rl, (kidsR n sc bs ps).length = ps.length
  | [] => rfl
  | [p] => rfl
  | p :: q :: r => by rw [kidsR, List.length_cons, kids_len n sc bs (q :: r)]; rfl
theorem kids_get (n : Nat) (sc bs : List Str) : ∀ (ps : List Rl) (i : Nat) (p : Rl), ps[i]? = some p → (kidsR n sc bs ps)[i]? = some (n, p, if i + 1 = ps.length then sc ++ bs else sc)
  | [q], 0, p, h => by cases h; rfl
  | q :: r :: l, 0, p, h => by cases h; rw [kidsR]; simp
  | q :: r :: l, i + 1, p, h => by
    rw [List.getElem?_cons_succ] at h
    rw [kidsR, List.getElem?_cons_succ, kids_get n sc bs (r :: l) i p h]
    congr 3
    simp
  | [q], i + 1, p, h => by simp at h
mutual
theorem walk_len (n : Nat) (sc : List Str) : ∀ r : Rl, (walk n sc r).length = r.many
  | .lit x => by rw [walk, Rl.many]; rfl
  | .var s => by rw [walk, Rl.many]; rfl
  | .op d bs ps => by rw [walk, Rl.many, List.length_cons, walks_len (n + 1) sc bs ps]; omega
theorem walks_len (n : Nat) (sc bs : List Str) : ∀ ps : List Rl, (walks n sc bs ps).length = manys ps
  | [] => by rw [walks, manys]; rfl
  | [p] => by rw [walks, manys, manys, walk_len n (sc ++ bs) p]; rfl
  | p :: q :: r => by rw [walks, manys, List.length_append, walk_len n sc p, walks_len n sc bs (q :: r)]
end
theorem walk_head (x : Row) : ∃ l, walkR x = x :: l := by
  obtain ⟨n, r, sc⟩ := x
  cases r with
  | lit y => exact ⟨[], by unfold walkR; rw [walk]⟩
  | var s => exact ⟨[], by unfold walkR; rw [walk]⟩
  | op d bs ps => exact ⟨_, by unfold walkR; rw [walk]⟩
theorem flat_ge (l : List Row) : l.length ≤ (l.flatMap walkR).length := by
  induction l with
  | nil => simp
  | cons x r ih =>
    obtain ⟨t, e⟩ := walk_head x
    rw [List.flatMap_cons, List.length_append, e, List.length_cons, List.length_cons]
    omega
theorem fits_mem {sc bs : List Str} : ∀ {ps : List Rl}, Fits ps sc bs → ∀ p ∈ ps, ∃ s, p.Fit s
  | [p], h, q, hq => by rw [Fits] at h; rw [List.mem_singleton.mp hq]; exact ⟨_, h⟩
  | p :: q :: r, h, x, hx => by
    rw [Fits] at h
    rcases List.mem_cons.mp hx with rfl | hx
    · exact ⟨_, h.1⟩
    · exact fits_mem h.2 x hx
theorem high_mem : ∀ {ps : List Rl} {p : Rl}, p ∈ ps → 1 + p.high ≤ highs ps
  | q :: r, p, h => by
    rw [highs]
    rcases List.mem_cons.mp h with rfl | h
    · omega
    · have := high_mem h; omega
def Itm (hh : Nat) (x : Row) : Prop := x.2.2.length ≤ 2 * x.1 ∧ x.1 + x.2.1.high ≤ hh ∧ ∃ sc, x.2.1.Fit sc
theorem bcnt_le (d : Wo) : bcnt d ≤ 2 := by cases d <;> decide
theorem Itm.kids {hh n : Nat} {d : Wo} {bs sc : List Str} {ps : List Rl} (h : Itm hh (n, .op d bs ps, sc)) : ∀ x ∈ kidsR (n + 1) sc bs ps, Itm hh x := by
  obtain ⟨h1, h2, s, h3⟩ := h
  rw [Rl.Fit] at h3
  intro x hx
  obtain ⟨i, hi, rfl⟩ := List.getElem_of_mem hx
  rw [kids_len] at hi
  have e := kids_get (n + 1) sc bs ps i _ (List.getElem?_eq_getElem hi)
  rw [List.getElem?_eq_getElem (by rw [kids_len]; exact hi)] at e
  rw [Option.some.inj e]
  have hb := bcnt_le d
  have hm := high_mem (List.getElem_mem hi)
  simp only [Rl.high] at h2
  refine ⟨?_, ?_, fits_mem h3.2.2.2.2 _ (List.getElem_mem hi)⟩
  · show (if i + 1 = ps.length then sc ++ bs else sc).length ≤ 2 * (n + 1)
    have : sc.length ≤ 2 * n := h1
    split
    · rw [List.length_append]; omega
    · omega
  · show n + 1 + ps[i].high ≤ hh
    have : n + highs ps ≤ hh := h2
    omega
/-! ### what the program holds of it -/
theorem RW.inv_lst {H : Hp} {v : V} {ws : List W} (h : RW H v (.lst ws)) : ∃ a vs, v = .ref a ∧ H a = some (.tup vs) ∧ RWs H vs ws := by
  cases h with
  | lst e l r => exact ⟨_, _, rfl, e, l, r⟩
theorem RW.inv_txt {H : Hp} {v : V} {x : Str} (h : RW H v (.txt x)) : v = .str x := by cases h; rfl
theorem RWs.inv_cons {H : Hp} {vs : List V} {w : W} {ws : List W} (h : RWs H vs (w :: ws)) : ∃ v r, vs = v :: r ∧ RW H v w ∧ RWs H r ws := by
  obtain ⟨l, f⟩ := h
  cases vs with
  | nil => simp at l
  | cons v r => exact ⟨v, r, rfl, f 0 v w rfl rfl, by simpa using l, fun i x y hx hy => f (i + 1) x y (by simpa using hx) (by simpa using hy)⟩
theorem RWs.inv_nil {H : Hp} {vs : List V} (h : RWs H vs []) : vs = [] := List.length_eq_zero_iff.mp h.len
theorem RWs.inv_txts {H : Hp} : ∀ {bs : List Str} {vs : List V} {ws : List W}, RWs H vs (bs.map W.txt ++ ws) → ∃ r, vs = bs.map V.str ++ r ∧ RWs H r ws
  | [], vs, ws, h => ⟨vs, rfl, h⟩
  | b :: bs, vs, ws, h => by
    obtain ⟨v, r, rfl, h1, h2⟩ := RWs.inv_cons h
    obtain ⟨r', rfl, h3⟩ := RWs.inv_txts h2
    exact ⟨r', by rw [RW.inv_txt h1]; rfl, h3⟩
/-- the items of the tuple that a rule is -/
inductive Opn (H : Hp) : Rl → List V → Prop where
  | lit {x : W} {v : V} : RW H v x → Opn H (.lit x) [.str "lit", v]
  | var {s : Str} : Opn H (.var s) [.str "var", .str s]
  | op {d : Wo} {bs : List Str} {ps : List Rl} {vs : List V} : RWs H vs (rlWs ps) → Opn H (.op d bs ps) (.str (woS d) :: (bs.map V.str ++ vs))
theorem opn {H : Hp} {v : V} {r : Rl} (h : RW H v r.toW) : ∃ a us, v = .ref a ∧ H a = some (.tup us) ∧ Opn H r us := by
  cases r with
  | lit x =>
    rw [Rl.toW] at h
    obtain ⟨a, vs, rfl, e, h⟩ := RW.inv_lst h
    obtain ⟨v1, r1, rfl, h1, h⟩ := RWs.inv_cons h
    obtain ⟨v2, r2, rfl, h2, h⟩ := RWs.inv_cons h
    rw [RW.inv_txt h1, RWs.inv_nil h] at e
    exact ⟨a, _, rfl, e, .lit h2⟩
  | var s =>
    rw [Rl.toW] at h
    obtain ⟨a, vs, rfl, e, h⟩ := RW.inv_lst h
    obtain ⟨v1, r1, rfl, h1, h⟩ := RWs.inv_cons h
    obtain ⟨v2, r2, rfl, h2, h⟩ := RWs.inv_cons h
    rw [RW.inv_txt h1, RW.inv_txt h2, RWs.inv_nil h] at e
    exact ⟨a, _, rfl, e, .var⟩
  | op d bs ps =>
    rw [Rl.toW] at h
    obtain ⟨a, vs, rfl, e, h⟩ := RW.inv_lst h
    obtain ⟨v1, r1, rfl, h1, h⟩ := RWs.inv_cons h
    obtain ⟨r2, rfl, h2⟩ := RWs.inv_txts h
    rw [RW.inv_txt h1] at e
    exact ⟨a, _, rfl, e, .op h2⟩
theorem Opn.head {H : Hp} {r : Rl} {us : List V} (h : Opn H r us) : us[0]? = some (.str (woS (rlW r))) := by cases h <;> rfl
def RowAt (H : Hp) (N : List Addr) (x : V) (ro : Row) : Prop := ∃ (t pl sa : Addr) (v : V) (is : List Int), x = .ref t ∧ H t = some (.tup [.ref pl, v, .ref sa]) ∧ H pl = some (.tup (is.map V.int)) ∧ is.length = ro.1 ∧ RW H v ro.2.1.toW ∧ H sa = some (.lst (ro.2.2.map V.str)) ∧ sa ∉ N
structure RowsAt (H : Hp) (N : List Addr) (us : List V) (rows : List Row) : Prop where
  len : us.length = rows.length
  at' : ∀ (i : Nat) (x : V) (ro : Row), us[i]? = some x → rows[i]? = some ro → RowAt H N x ro
/-- all is kept but what the lists of the walk hold -/
def Kp (N : List Addr) (H H' : Hp) : Prop := (∀ c o, c ∉ N → H c = some o → H' c = some o) ∧ Tups H H'
theorem Kp.ofSame {N : List Addr} {H H' : Hp} (s : Same H H') : Kp N H H' := ⟨fun c o _ e => s c o e, fun a vs e => s a _ e⟩
theorem Kp.trans {N : List Addr} {H H1 H2 : Hp} (a : Kp N H H1) (b : Kp N H1 H2) : Kp N H H2 := ⟨fun c o h e => b.1 c o h (a.1 c o h e), fun x vs e => b.2 x vs (a.2 x vs e)⟩
theorem Kp.put {N : List Addr} {H : Hp} {p : Addr} {xs ys : List V} (hp : p ∈ N) (e : H p = some (.lst xs)) : Kp N H (upd H p (.lst ys)) := ⟨fun c o h e' => by rw [upd_ne (show c ≠ p from fun z => h (by rw [z]; exact hp))]; exact e', tups_put e⟩
theorem RowAt.kp {H H' : Hp} {N : List Addr} {x : V} {ro : Row} (h : RowAt H N x ro) (k : Kp N H H') : RowAt H' N x ro := by
  obtain ⟨t, pl, sa, v, is, h1, h2, h3, h4, h5, h6, h7⟩ := h
  exact ⟨t, pl, sa, v, is, h1, k.2 _ _ h2, k.2 _ _ h3, h4, h5.mono k.2, k.1 _ _ h7 h6, h7⟩
theorem RowsAt.kp {H H' : Hp} {N : List Addr} {us : List V} {rows : List Row} (h : RowsAt H N us rows) (k : Kp N H H') : RowsAt H' N us rows := ⟨h.len, fun i x ro h1 h2 => (h.at' i x ro h1 h2).kp k⟩
theorem RowsAt.snoc {H : Hp} {N : List Addr} {us : List V} {rows : List Row} {x : V} {ro : Row} (h : RowsAt H N us rows) (hx : RowAt H N x ro) : RowsAt H N (us ++ [x]) (rows ++ [ro]) := by
  refine ⟨by rw [List.length_append, List.length_append, h.len]; rfl, fun i y r hy hr => ?_⟩
  by_cases hi : i < us.length
  · rw [List.getElem?_append_left hi] at hy
    rw [List.getElem?_append_left (by rw [← h.len]; exact hi)] at hr
    exact h.at' i y r hy hr
  · have hl := h.len
    rw [List.getElem?_append_right (by omega)] at hy hr
    rw [h.len] at hy
    have : i - rows.length = 0 := by
      have := (List.getElem?_eq_some_iff.mp hy).1
      simp at this
      omega
    rw [this] at hy hr
    cases hy
    cases hr
    exact hx
theorem RowsAt.unsnoc {H : Hp} {N : List Addr} {us : List V} {rows : List Row} {ro : Row} (h : RowsAt H N us (rows ++ [ro])) : ∃ us0 x, us = us0 ++ [x] ∧ RowsAt H N us0 rows ∧ RowAt H N x ro := by
  rcases List.eq_nil_or_concat us with rfl | ⟨us0, x, rfl⟩
  · have := h.len; simp at this
  have hl : us0.length = rows.length := by have := h.len; simpa using this
  refine ⟨us0, x, by simp, ⟨hl, fun i y r hy hr => h.at' i y r ?_ ?_⟩, h.at' us0.length x ro (by simp) (by rw [hl]; simp)⟩
  · have hi := (List.getElem?_eq_some_iff.mp hy).1
    rw [List.concat_eq_append, List.getElem?_append_left hi]; exact hy
  · have hi := (List.getElem?_eq_some_iff.mp hr).1
    rw [List.getElem?_append_left hi]; exact hr
theorem cut_mid (x : V) (xs ys : List V) (k : Nat) (hk : k = xs.length) : cutV (x :: (xs ++ ys)) (some 1) (some (1 + (k : Int))) = xs := by
  show ((x :: (xs ++ ys)).drop (HT.sIx (x :: (xs ++ ys)).length 0 (some ((1 : Nat) : Int)))).take (HT.sIx (x :: (xs ++ ys)).length (x :: (xs ++ ys)).length (some (1 + (k : Int))) - HT.sIx (x :: (xs ++ ys)).length 0 (some ((1 : Nat) : Int))) = xs
  rw [show (1 : Int) + (k : Int) = ((1 + k : Nat) : Int) by omega, HT.sIx_nat, HT.sIx_nat, List.length_cons, List.length_append, hk, show min 1 (xs.length + ys.length + 1) = 1 by omega, show min (1 + xs.length) (xs.length + ys.length + 1) - 1 = xs.length by omega]
  simp
theorem cut_rest (x : V) (xs ys : List V) (k : Nat) (hk : k = xs.length) : cutV (x :: (xs ++ ys)) (some (1 + (k : Int))) none = ys := by
  show ((x :: (xs ++ ys)).drop (HT.sIx (x :: (xs ++ ys)).length 0 (some (1 + (k : Int))))).take ((x :: (xs ++ ys)).length - HT.sIx (x :: (xs ++ ys)).length 0 (some (1 + (k : Int)))) = ys
  rw [show (1 : Int) + (k : Int) = ((1 + k : Nat) : Int) by omega, HT.sIx_nat, List.length_cons, List.length_append, hk, show min (1 + xs.length) (xs.length + ys.length + 1) = xs.length + 1 by omega]
  rw [List.drop_succ_cons, List.drop_left, List.take_of_length_le (by omega)]
theorem not_whole (x : V) (xs : List V) (k : Nat) (hi : Option Int) : ¬ (HT.sIx (x :: xs).length 0 (some (1 + (k : Int))) = 0 ∧ HT.sIx (x :: xs).length (x :: xs).length hi = (x :: xs).length) := fun h => by
  have h1 := h.1
  rw [show (1 : Int) + (k : Int) = ((1 + k : Nat) : Int) by omega, HT.sIx_nat, List.length_cons] at h1
  omega
def spAll : Sp := fun vs H Q _ => ∃ (v : V) (r : Rl), vs = [v] ∧ RW H v r.toW ∧ (∃ sc, r.Fit sc) ∧ r.many ≤ 100 ∧ r.high ≤ 100 ∧
  ∀ (a : Addr) (us : List V) (rows : List Row) (H' : Hp), H a = none → H' a = some (.lst us) → RowsAt H' [a] us rows → rows.Perm (walk 0 [] r) → rows[0]? = some (0, r, []) → Same H H' → Q (.ref a) H'
end D

set_option Elab.async false
set_option linter.all false
set_option maxRecDepth 100000
set_option maxHeartbeats 4000000
namespace D
open PySem L2
def AllP (v : V) (r : Rl) (rw lf : Addr) (H0 : Hp) (m : Nat) (σ' : St) (H' : Hp) : Prop := ∃ (o3 o4 o5 o6 o7 o8 : Option V) (us ls : List V) (rows left : List Row), σ' = [some v, some (.ref rw), some (.ref lf), o3, o4, o5, o6, o7, o8] ∧ Kp [rw, lf] H0 H' ∧ H' rw = some (.lst us) ∧ H' lf = some (.lst ls) ∧ RowsAt H' [rw, lf] us rows ∧ RowsAt H' [rw, lf] ls left ∧ (rows ++ left.flatMap walkR).Perm (walk 0 [] r) ∧ (∀ x ∈ left, Itm r.high x) ∧ m = (left.flatMap walkR).length ∧ ((rows = [] ∧ left = [(0, r, [])]) ∨ rows[0]? = some (0, r, []))
theorem inLV (d : Wo) : inV (.str (woS d)) [.str "lit", .str "var"] = (wLit d || wVar d) := by cases d <;> decide +kernel
theorem b_cnt' (d : Wo) : (1 : Int) + (if wB d then 1 else 0) + (if wOver d then 1 else 0) = 1 + bcnt d := by cases d <;> decide
theorem rlWs_get : ∀ {ps : List Rl} {i : Nat} {p : Rl}, ps[i]? = some p → (rlWs ps)[i]? = some p.toW
  | q :: r, 0, p, h => by cases h; rw [rlWs]; rfl
  | q :: r, i + 1, p, h => by rw [rlWs, List.getElem?_cons_succ]; exact rlWs_get (by simpa using h)
section
variable {P : Program} {w : World} {K : PySem.W.Frag} {mg : Str → Option Value} {base : Heap} {f : Addr} {fd : FuncData} {k n : Nat}
theorem sc_lall : FnScope ["_law_rule", "_law_rows", "_law_left", "_law_place", "_law_one", "_law_scope", "_law_begin", "_law_k", "_law_inner"] ["_law_rule"] (defScope s_lall) := ⟨rfl, rfl, rfl, by decide +kernel, rfl, by decide +kernel, by decide +kernel⟩
theorem ok_lall (F : Fun K "_law_all" "_law_all" s_lall f fd) (m_int : mg "int" = none) (m_len : mg "len" = none) (m_list : mg "list" = none) (m_range : mg "range" = none) : FnOk P w K mg base CX0 (k + 1) f fd ["_law_rule"] (spAll) := by
  refine F.okQ sc_lall (fun vs H Q E h => ?_) (fun cdv A outer s H vs Q E hr h => ?_)
  · obtain ⟨v, r, rfl, _⟩ := h
    rfl
  obtain ⟨v, r, rfl, hv, hfit, hmany, hhigh, q⟩ := h
  refine ⟨_, (pss_cons (ps_set (i := 1) sc_lall.nd rfl (Or.inl rfl) (pe_lst pa_nil))
    (pss_cons (ps_set (i := 2) sc_lall.nd rfl (Or.inl rfl) (pe_lst (pa_cons (pe_tup (pa_cons (pe_tup pa_nil) (pa_cons (pv 0) (pa_cons (pe_lst pa_nil) pa_nil)))) pa_nil)))
    (pss_cons (ps_while PassesOwn.never (pt_cmpR (op_neE (Nat.lt_of_le_of_lt (Nat.le_add_right _ 64) hr.units)) (pv 2) (pe_lst pa_nil) (nomark _)) (pss_cons (ps_asg (pe_bm0 PySem.F.plainAttrs_list PySem.F.slot_list_pop PySem.F.type_list_pop mt_pop (pv 2)) (pg_tup rfl (pgs_cons (pg_name (i := 3) sc_lall.nd rfl (Or.inl rfl)) (pgs_cons (pg_name (i := 4) sc_lall.nd rfl (Or.inl rfl)) (pgs_cons (pg_name (i := 5) sc_lall.nd rfl (Or.inl rfl)) pgs_nil)))))
    (pss_cons (ps_expr (pe_bm PySem.F.plainAttrs_list PySem.F.slot_list_append PySem.F.type_list_append mt_append (pv 1) (pa_cons (pe_tup (pa_cons (pv 3) (pa_cons (pv 4) (pa_cons (pv 5) pa_nil)))) pa_nil)))
    (pss_cons (ps_set (i := 6) sc_lall.nd rfl (Or.inl rfl) (pe_op op_add (pe_op op_add pe_int (pe_callTy call_int1 rfl m_int boot_intT (pa_cons (pe_cmpR op_in_seq (pe_ix ix_tup (pv 4) pe_int (fun _ _ => rfl)) (pe_tup (pa_cons pe_str (pa_cons pe_str (pa_cons pe_str pa_nil)))) (by rfl)) pa_nil))) (pe_callTy call_int1 rfl m_int boot_intT (pa_cons (pe_cmpR op_eq (pe_ix ix_tup (pv 4) pe_int (fun _ _ => rfl)) pe_str (nomark _)) pa_nil))))
    (pss_one (ps_if (pt_cmpR op_notIn_seq (pe_ix ix_tup (pv 4) pe_int (fun _ _ => rfl)) (pe_tup (pa_cons pe_str (pa_cons pe_str pa_nil))) (by rfl)) (pss_one (ps_for PassesOwn.never rfl (pi_range2 rfl m_range (pa_cons (pv 6) (pa_cons (pe_callB call_len rfl m_len PySem.boot_len (pa_cons (pv 4) pa_nil)) pa_nil))) (pg_name (i := 7) sc_lall.nd rfl (Or.inl rfl)) (pss_cons (ps_set (i := 8) sc_lall.nd rfl (Or.inl rfl) (pv 5))
    (pss_cons (ps_if (pt_cmpR op_eq (pe_op op_add (pv 7) pe_int) (pe_callB call_len rfl m_len PySem.boot_len (pa_cons (pv 4) pa_nil)) (nomark _)) (pss_one (ps_set (i := 8) sc_lall.nd rfl (Or.inl rfl) (pe_op op_cat (pv 5) (pe_callTy call_list_of rfl m_list boot_listT (pa_cons (pe_slice sl_tup (pv 4) (po_some pe_int) (po_some (pv 6))) pa_nil))))) pss_nil)
    (pss_one (ps_expr (pe_bm PySem.F.plainAttrs_list PySem.F.slot_list_append PySem.F.type_list_append mt_append (pv 2) (pa_cons (pe_tup (pa_cons (pe_op op_join (pv 3) (pe_tup (pa_cons (pv 7) pa_nil))) (pa_cons (pe_ix ix_tup (pv 4) (pv 7) (fun _ _ => rfl)) (pa_cons (pv 8) pa_nil)))) pa_nil)))))))) pss_nil))))))
    (pss_one (ps_ret (pv 1)))))), ?_⟩
  refine ⟨(by show 0 ≤ sizeLine; decide), fun rw hrw => ⟨(by show 0 ≤ sizeLine; decide), fun p0 hp0 => ⟨_, rfl, (by show 0 ≤ sizeLine; decide), fun s0 hs0 => ⟨(by show 3 ≤ sizeLine; decide), fun t0 ht0 => ⟨(by show 1 ≤ sizeLine; decide), fun lf hlf => ?_⟩⟩⟩⟩⟩
  have sr := Same.new (o := .lst []) hrw
  have sp := Same.new (o := .tup []) hp0
  have ss := Same.new (o := .lst []) hs0
  have st := Same.new (o := .tup [.ref p0, v, .ref s0]) ht0
  have sl := Same.new (o := .lst [.ref t0]) hlf
  have sA := sr.trans (sp.trans (ss.trans (st.trans sl)))
  have hne : rw ≠ lf := ne_of_none ((sp.trans (ss.trans st)) rw _ upd_same) hlf
  have hs0n : s0 ≠ rw := (ne_of_none (sp rw _ upd_same) hs0).symm
  have hs0l : s0 ≠ lf := ne_of_none (st s0 _ upd_same) hlf
  have hkeep : ∀ H' : Hp, Kp [rw, lf] (upd (upd (upd (upd (upd H rw (.lst [])) p0 (.tup [])) s0 (.lst [])) t0 (.tup [.ref p0, v, .ref s0])) lf (.lst [.ref t0])) H' → Same H H' := fun H' kp c o e => by
    refine kp.1 c o (fun z => ?_) (sA c o e)
    rcases List.mem_cons.mp z with z | z
    · rw [z, hrw] at e; cases e
    · rw [List.mem_singleton.mp z, (sr.trans (sp.trans (ss.trans st))).free hlf] at e; cases e
  dsimp only [gName]
  refine seqI (fun σ' H' => ∃ (o3 o4 o5 o6 o7 o8 : Option V) (us : List V) (rows : List Row), σ' = [some v, some (.ref rw), some (.ref lf), o3, o4, o5, o6, o7, o8] ∧ Same H H' ∧ H' rw = some (.lst us) ∧ RowsAt H' [rw, lf] us rows ∧ rows.Perm (walk 0 [] r) ∧ rows[0]? = some (0, r, [])) (fun σ' H' h => ?_) (fun tl => ?_)
  · obtain ⟨o3, o4, o5, o6, o7, o8, us, rows, rfl, sH, erw, hrows, hperm, h0⟩ := h
    refine ⟨_, rfl, q rw us rows H' hrw erw ⟨hrows.len, fun i x ro hx hr => ?_⟩ hperm h0 sH⟩
    obtain ⟨t, pl, sa, v', is, g1, g2, g3, g4, g5, g6, g7⟩ := hrows.at' i x ro hx hr
    exact ⟨t, pl, sa, v', is, g1, g2, g3, g4, g5, g6, fun z => g7 (by rw [List.mem_singleton.mp z]; simp)⟩
  refine ⟨AllP v r rw lf (upd (upd (upd (upd (upd H rw (.lst [])) p0 (.tup [])) s0 (.lst [])) t0 (.tup [.ref p0, v, .ref s0])) lf (.lst [.ref t0])), ⟨_, none, none, none, none, none, none, [], [.ref t0], [], [(0, r, [])], rfl, ⟨fun _ _ _ e => e, fun _ _ e => e⟩, (sp.trans (ss.trans (st.trans sl))) rw _ upd_same, upd_same, ⟨rfl, fun i x ro hx => by simp at hx⟩, ⟨rfl, fun i x ro hx hr => ?_⟩, ?_, fun x hx => ?_, rfl, .inl ⟨rfl, rfl⟩⟩, fun m σ' H' hP => ?_⟩
  · match i with
    | 0 =>
      cases hx
      cases hr
      refine ⟨t0, p0, s0, v, [], rfl, sl _ _ upd_same, (ss.trans (st.trans sl)) _ _ upd_same, rfl, hv.mono (same_tups' sA), (st.trans sl) _ _ upd_same, fun z => ?_⟩
      rcases List.mem_cons.mp z with z | z
      · exact hs0n z
      · exact hs0l (List.mem_singleton.mp z)
    | i + 1 => simp at hx
  · simp [walkR]
  · rw [List.mem_singleton.mp hx]
    exact ⟨Nat.le_refl _, (by show 0 + r.high ≤ r.high; omega), hfit⟩
  obtain ⟨o3, o4, o5, o6, o7, o8, us, ls, rows, left, rfl, kp, erw, elf, hrows, hleft, hperm, hitm, rfl, hfst⟩ := hP
  have hlen : rows.length + (left.flatMap walkR).length = r.many := by
    have := hperm.length_eq
    rw [List.length_append, walk_len] at this
    exact this
  have hfg := flat_ge left
  refine ⟨_, rfl, (by show 0 ≤ sizeLine; decide), fun e0 he0 => ?_⟩
  have s0' := Same.new (o := .lst []) he0
  refine ⟨lf, e0, ls, rfl, rfl, SqL.of (s0' _ _ elf), SqL.of upd_same, _, rfl, ?_⟩
  rcases List.eq_nil_or_concat left with rfl | ⟨left0, x0, rfl⟩
  · have hl0 : ls = [] := List.length_eq_zero_iff.mp hleft.len
    subst hl0
    refine iteF (tl _ _ ⟨o3, o4, o5, o6, o7, o8, us, rows, rfl, hkeep _ (kp.trans (.ofSame s0')), s0' _ _ erw, hrows.kp (.ofSame s0'), by simpa using hperm, ?_⟩)
    rcases hfst with ⟨_, z⟩ | z
    · cases z
    · exact z
  rw [List.concat_eq_append] at hperm hitm hleft hlen hfg hfst ⊢
  obtain ⟨ls0, y, rfl, hleft0, hy⟩ := hleft.unsnoc
  have hemp : (!(ls0 ++ [y]).isEmpty) = true := by cases ls0 <;> rfl
  rw [hemp]
  refine iteT ⟨fun σ' H' => ∃ m', m' < ((left0 ++ [x0]).flatMap walkR).length ∧ AllP v r rw lf (upd (upd (upd (upd (upd H rw (.lst [])) p0 (.tup [])) s0 (.lst [])) t0 (.tup [.ref p0, v, .ref s0])) lf (.lst [.ref t0])) m' σ' H', fun σ' H' h => h, ?_⟩
  have kA := kp.trans (.ofSame s0')
  have elf1 := s0' _ _ elf
  have erw1 := s0' _ _ erw
  obtain ⟨t, pl, sa, v1, is, rfl, g2, g3, g4, g5, g6, g7⟩ := hy.kp (.ofSame s0')
  have kB : Kp [rw, lf] (upd H' e0 (.lst [])) (upd (upd H' e0 (.lst [])) lf (.lst (ls0 ++ [V.ref t]).dropLast)) := Kp.put (by simp) elf1
  refine ⟨_, rfl, .inl ⟨rfl, _, SqL.of elf1⟩, lf, _, .ref t, rfl, rfl, elf1, by simp, ?_⟩
  refine ⟨t, _, rfl, SqT.of (kB.2 _ _ g2), rfl, _, _, rfl, _, _, rfl, _, _, rfl, rfl, ?_⟩
  have erw2 : upd (upd H' e0 (.lst [])) lf (.lst (ls0 ++ [V.ref t]).dropLast) rw = some (.lst us) := by rw [upd_ne hne]; exact erw1
  refine ⟨_, rfl, .inl ⟨rfl, _, SqL.of erw2⟩, _, rfl, _, rfl, _, rfl, (by show 3 ≤ sizeLine; decide), fun t1 ht1 => ?_⟩
  have s1 := Same.new (o := .tup [.ref pl, v1, .ref sa]) ht1
  have hul := hrows.len
  refine ⟨rw, us, .ref t1, rfl, rfl, s1 _ _ erw2, Nat.lt_of_le_of_lt (show us.length ≤ 100 by omega) (by decide), ?_⟩
  have kC : Kp [rw, lf] _ (upd (upd (upd (upd H' e0 (.lst [])) lf (.lst (ls0 ++ [V.ref t]).dropLast)) t1 (.tup [.ref pl, v1, .ref sa])) rw (.lst (us ++ [.ref t1]))) := kB.trans ((Kp.ofSame s1).trans (Kp.put (by simp) (s1 _ _ erw2)))
  generalize hH3 : upd (upd (upd (upd H' e0 (.lst [])) lf (.lst (ls0 ++ [V.ref t]).dropLast)) t1 (.tup [.ref pl, v1, .ref sa])) rw (.lst (us ++ [.ref t1])) = H3 at kC ⊢
  have eH3t : H3 t1 = some (.tup [.ref pl, v1, .ref sa]) := by
    rw [← hH3]
    exact (Kp.put (N := [rw]) (by simp) (s1 _ _ erw2)).2 _ _ upd_same
  have eH3rw : H3 rw = some (.lst (us ++ [.ref t1])) := by rw [← hH3]; exact upd_same
  have eH3lf : H3 lf = some (.lst ls0) := by
    rw [← hH3, upd_ne hne.symm]
    exact (s1 _ _ upd_same).trans (by simp)
  have hrow1 : RowsAt H3 [rw, lf] (us ++ [.ref t1]) (rows ++ [x0]) := ((hrows.kp (.ofSame s0')).kp kC).snoc ⟨t1, pl, sa, v1, is, rfl, eH3t, kC.2 _ _ g3, g4, g5.mono kC.2, kC.1 _ _ g7 g6, g7⟩
  have hleft1 := (hleft0.kp (.ofSame s0')).kp kC
  have kD := kA.trans kC
  have rw1 := g5.mono kC.2
  have esa : H3 sa = some (.lst (x0.2.2.map V.str)) := kC.1 _ _ g7 g6
  have epl : H3 pl = some (.tup (is.map V.int)) := kC.2 _ _ g3
  clear hH3 kC kB kA
  obtain ⟨a1, vs1, rfl, ea1, ho1⟩ := opn rw1
  have hd0 := ho1.head
  have hat0 : atI vs1 0 = some (.str (woS (rlW x0.2.1))) := atI_nat (j := 0) hd0
  refine ⟨_, rfl, _, _, _, _, rfl, rfl, SqT.of ea1, hat0, (by show 3 ≤ sizeLine; decide), fun q1 hq1 => ⟨q1, _, rfl, .inr (SqT.of upd_same), rfl, rfl, .inr ⟨_, rfl, _, _, rfl, rfl, ?_⟩⟩⟩
  have sq1 := Same.new (o := .tup [.str "let", .str "each", .str "over"]) hq1
  refine ⟨_, rfl, _, _, _, _, rfl, rfl, SqT.of (sq1 _ _ ea1), hat0, rfl, .inr ⟨_, rfl, _, _, rfl, rfl, ?_⟩⟩
  dsimp only [gName]
  have hbg : (1 : Int) + (if inV (.str (woS (rlW x0.2.1))) [.str "let", .str "each", .str "over"] = true then 1 else 0) + (if decide (V.str (woS (rlW x0.2.1)) = V.str "over") = true then 1 else 0) = 1 + bcnt (rlW x0.2.1) := by rw [inB, eqOver]; exact b_cnt' _
  have fin : ∀ (o6 o7 o8 : Option V) (H4 : Hp) (ks : List V) (kids : List Row), Kp [rw, lf] H3 H4 → H4 lf = some (.lst (ls0 ++ ks)) → H4 rw = some (.lst (us ++ [.ref t1])) → RowsAt H4 [rw, lf] (ls0 ++ ks) (left0 ++ kids) → walkR x0 = x0 :: kids.flatMap walkR → (∀ x ∈ kids, Itm r.high x) →
      ∃ m', m' < ((left0 ++ [x0]).flatMap walkR).length ∧ AllP v r rw lf (upd (upd (upd (upd (upd H rw (.lst [])) p0 (.tup [])) s0 (.lst [])) t0 (.tup [.ref p0, v, .ref s0])) lf (.lst [.ref t0])) m' [some v, some (.ref rw), some (.ref lf), some (.ref pl), some (.ref a1), some (.ref sa), o6, o7, o8] H4 := fun o6 o7 o8 H4 ks kids k4 e4 e5 hr4 hw hk => by
    refine ⟨((left0 ++ kids).flatMap walkR).length, ?_, _, _, _, o6, o7, o8, _, _, rows ++ [x0], left0 ++ kids, rfl, kD.trans k4, e5, e4, hrow1.kp k4, hr4, ?_, fun x hx => ?_, rfl, .inr ?_⟩
    · rw [List.flatMap_append, List.flatMap_append, List.length_append, List.length_append, List.flatMap_cons, List.flatMap_nil, List.append_nil, hw, List.length_cons]
      omega
    · refine List.Perm.trans ?_ hperm
      rw [List.flatMap_append, List.flatMap_append, List.flatMap_cons, List.flatMap_nil, List.append_nil, hw, List.append_assoc]
      exact List.Perm.append_left _ (by rw [List.singleton_append]; exact List.perm_middle.symm)
    · rcases List.mem_append.mp hx with h1 | h1
      · exact hitm x (List.mem_append_left _ h1)
      · exact hk x h1
    · rcases hfst with ⟨rfl, z⟩ | z
      · have : left0 = [] ∧ x0 = (0, r, []) := by
          cases left0 with
          | nil => exact ⟨rfl, by simpa using z⟩
          | cons a b => cases b <;> simp at z
        rw [this.2]
        rfl
      · have hl := (List.getElem?_eq_some_iff.mp z).1
        rw [List.getElem?_append_left hl]
        exact z
  refine ⟨_, rfl, _, _, _, _, rfl, rfl, SqT.of (sq1 _ _ ea1), hat0, (by show 2 ≤ sizeLine; decide), fun q2 hq2 => ⟨q2, _, rfl, .inr (SqT.of upd_same), rfl, rfl, _, rfl, ?_⟩⟩
  have sq2 := sq1.trans (Same.new (o := .tup [.str "lit", .str "var"]) hq2)
  show if (!inV (.str (woS (rlW x0.2.1))) [.str "lit", .str "var"]) = true then _ else _
  rw [inLV]
  have leaf : (wLit (rlW x0.2.1) || wVar (rlW x0.2.1)) = true → walkR x0 = [x0] → _ := fun h1 hw => fin (some (.int (1 + bcnt (rlW x0.2.1)))) o7 o8 _ [] [] (.ofSame sq2) (by rw [List.append_nil]; exact sq2 _ _ eH3lf) (sq2 _ _ eH3rw) (by rw [List.append_nil, List.append_nil]; exact hleft1.kp (.ofSame sq2)) hw (fun x hx => by cases hx)
  obtain ⟨n0, r0, sc0⟩ := x0
  cases r0 with
  | lit y =>
    exact iteF (leaf rfl (by unfold walkR; rw [walk]))
  | var y =>
    exact iteF (leaf rfl (by unfold walkR; rw [walk]))
  | op d bs ps =>
    have hit := hitm (n0, .op d bs ps, sc0) (by simp)
    obtain ⟨hi1, hi2, sF, hFit⟩ := id hit
    rw [Rl.Fit] at hFit
    obtain ⟨hl0, hv0, hbl, hbok, _⟩ := hFit
    have hbl2 := bcnt_le d
    cases ho1 with
    | op hvs =>
    rename_i vs
    have hvl := hvs.len
    rw [rlWs_len] at hvl
    show if (!(wLit d || wVar d)) = true then _ else _
    rw [hl0, hv0]
    have hlenT : (V.str (woS d) :: (bs.map V.str ++ vs)).length = 1 + bs.length + ps.length := by rw [List.length_cons, List.length_append, List.length_map, hvl]; omega
    have hpsm : ps.length < r.many := by
      have h1 := walks_len (n0 + 1) sc0 bs ps
      rw [walks_kids] at h1
      have h2 := flat_ge (kidsR (n0 + 1) sc0 bs ps)
      rw [kids_len, h1] at h2
      rw [List.flatMap_append, List.length_append, List.flatMap_cons, List.flatMap_nil, List.append_nil] at hlen
      unfold walkR at hlen
      rw [walk_len] at hlen
      simp only [Rl.many] at hlen
      omega
    have hbg' := hbg
    change _ = 1 + (bcnt d : Int) at hbg'
    have hjn : (((V.str (woS d) :: (bs.map V.str ++ vs)).length : Int) - (1 + bcnt d)).toNat = ps.length := by rw [hlenT, hbl]; omega
    refine iteT ⟨_, rfl, _, rfl, _, _, rfl, .inr ⟨_, SqT.of (sq2 _ _ ea1), rfl⟩, 1 + bcnt d, (((V.str (woS d) :: (bs.map V.str ++ vs)).length : Nat) : Int), congrArg (fun z => [V.int z, V.int (((V.str (woS d) :: (bs.map V.str ++ vs)).length : Nat) : Int)]) hbg', ⟨by omega, by omega, by rw [hlenT]; omega, by rw [hlenT]; omega⟩, ?_⟩
    rw [hjn]
    refine for_range (lo := 1 + (bcnt d : Int)) (n := ps.length) (fun i σ' H4 => ∃ (o7 o8 : Option V) (ks : List V), σ' = [some v, some (.ref rw), some (.ref lf), some (.ref pl), some (.ref a1), some (.ref sa), some (.int (1 + bcnt d)), o7, o8] ∧ Kp [rw, lf] H3 H4 ∧ H4 lf = some (.lst (ls0 ++ ks)) ∧ H4 rw = some (.lst (us ++ [.ref t1])) ∧ RowsAt H4 [rw, lf] (ls0 ++ ks) (left0 ++ (kidsR (n0 + 1) sc0 bs ps).take i))
      ⟨o7, o8, [], congrArg (fun z => [some v, some (.ref rw), some (.ref lf), some (.ref pl), some (.ref a1), some (.ref sa), some (V.int z), o7, o8]) hbg', .ofSame sq2, by rw [List.append_nil]; exact sq2 _ _ eH3lf, sq2 _ _ eH3rw, by rw [List.append_nil, List.take_zero, List.append_nil]; exact hleft1.kp (.ofSame sq2)⟩ (fun i σ' H4 hi h => ?_) (fun σ' H4 h => ?_)
    · obtain ⟨o7', o8', ks, rfl, k4, e4, e5, hr4⟩ := h
      have hpi : ps[i]? = some ps[i] := List.getElem?_eq_getElem hi
      have hkid := kids_get (n0 + 1) sc0 bs ps i _ hpi
      have ea4 := k4.2 _ _ ea1
      have esa4 := k4.1 _ _ g7 esa
      have epl4 := k4.2 _ _ epl
      refine ⟨_, rfl, ?_⟩
      dsimp only [gName]
      refine seqI (fun σ' H5 => ∃ sb : Addr, σ' = [some v, some (.ref rw), some (.ref lf), some (.ref pl), some (.ref a1), some (.ref sa), some (.int (1 + bcnt d)), some (.int (1 + bcnt d + i)), some (.ref sb)] ∧ Same H4 H5 ∧ H5 sb = some (.lst ((if i + 1 = ps.length then sc0 ++ bs else sc0).map V.str)) ∧ sb ∉ [rw, lf]) (fun σ' H5 h => ?_) (fun tl2 => ?_)
      · obtain ⟨sb, rfl, s5, esb, hsb⟩ := h
        have e45 := s5 _ _ e4
        refine ⟨_, rfl, .inl ⟨rfl, _, SqL.of e45⟩, _, rfl, _, rfl, (by show 1 ≤ sizeLine; decide), fun q3 hq3 => ?_⟩
        have s6 := s5.trans (Same.new (o := .tup [.int (1 + bcnt d + i)]) hq3)
        have hat : atI (V.str (woS d) :: (bs.map V.str ++ vs)) (1 + bcnt d + i) = some vs[i] := by
          have := atI_nat (xs := V.str (woS d) :: (bs.map V.str ++ vs)) (j := 1 + bcnt d + i) (v := vs[i]) (by rw [show 1 + bcnt d + i = (bcnt d + i) + 1 by omega, List.getElem?_cons_succ, List.getElem?_append_right (by rw [List.length_map]; omega), List.length_map, show bcnt d + i - bs.length = i by omega]; exact List.getElem?_eq_getElem (by omega))
          rw [show ((1 + bcnt d + i : Nat) : Int) = 1 + bcnt d + i by omega] at this
          exact this
        have hisl : is.length ≤ 100 := by
          have : n0 + (Rl.op d bs ps).high ≤ r.high := hi2
          have : is.length = n0 := g4
          omega
        have rest : ∀ (pl2 : Addr) (H6 : Hp), Same H4 H6 → H6 pl2 = some (.tup ((is ++ [(1 + bcnt d + i : Int)]).map V.int)) → H6 sb = some (.lst ((if i + 1 = ps.length then sc0 ++ bs else sc0).map V.str)) → ∀ t2, H6 t2 = none → ∃ (o7 o8 : Option V) (ks' : List V), [some v, some (.ref rw), some (.ref lf), some (.ref pl), some (.ref a1), some (.ref sa), some (.int (1 + bcnt d)), some (.int (1 + bcnt d + i)), some (.ref sb)] = [some v, some (.ref rw), some (.ref lf), some (.ref pl), some (.ref a1), some (.ref sa), some (.int (1 + bcnt d)), o7, o8] ∧ Kp [rw, lf] H3 (upd (upd H6 t2 (.tup [.ref pl2, vs[i], .ref sb])) lf (.lst (ls0 ++ ks ++ [.ref t2]))) ∧ upd (upd H6 t2 (.tup [.ref pl2, vs[i], .ref sb])) lf (.lst (ls0 ++ ks ++ [.ref t2])) lf = some (.lst (ls0 ++ ks')) ∧ upd (upd H6 t2 (.tup [.ref pl2, vs[i], .ref sb])) lf (.lst (ls0 ++ ks ++ [.ref t2])) rw = some (.lst (us ++ [.ref t1])) ∧ RowsAt (upd (upd H6 t2 (.tup [.ref pl2, vs[i], .ref sb])) lf (.lst (ls0 ++ ks ++ [.ref t2]))) [rw, lf] (ls0 ++ ks') (left0 ++ (kidsR (n0 + 1) sc0 bs ps).take (i + 1)) := fun pl2 H6 s6 epl2 esb6 t2 ht2 => by
          have s7 := Same.new (o := .tup [.ref pl2, vs[i], .ref sb]) ht2
          have e46 := s7 _ _ (s6 _ _ e4)
          have kF : Kp [rw, lf] H4 (upd (upd H6 t2 (.tup [.ref pl2, vs[i], .ref sb])) lf (.lst (ls0 ++ ks ++ [.ref t2]))) := (Kp.ofSame (s6.trans s7)).trans (Kp.put (by simp) e46)
          have kG : Kp [rw, lf] (upd H6 t2 (.tup [.ref pl2, vs[i], .ref sb])) (upd (upd H6 t2 (.tup [.ref pl2, vs[i], .ref sb])) lf (.lst (ls0 ++ ks ++ [.ref t2]))) := Kp.put (by simp) e46
          refine ⟨_, _, ks ++ [.ref t2], rfl, k4.trans kF, by rw [upd_same, List.append_assoc], by rw [upd_ne hne]; exact s7 _ _ (s6 _ _ e5), ?_⟩
          rw [← List.append_assoc, List.take_succ, hkid, ← List.append_assoc]
          refine (hr4.kp kF).snoc ⟨t2, pl2, sb, vs[i], is ++ [(1 + bcnt d + i : Int)], rfl, kG.2 _ _ upd_same, kG.2 _ _ (s7 _ _ epl2), ?_, ?_, kG.1 _ _ hsb (s7 _ _ esb6), hsb⟩
          · rw [List.length_append, g4]; rfl
          · refine ((hvs.at' i vs[i] ps[i].toW (List.getElem?_eq_getElem (by omega)) ?_).mono k4.2).mono kF.2
            exact rlWs_get hpi
        have e5l : (ls0 ++ ks).length < sizeLine := by
          have h1 := hr4.len
          rw [h1, List.length_append, List.length_take, kids_len]
          have h2 := flat_ge left0
          rw [List.flatMap_append, List.length_append] at hlen
          exact Nat.lt_of_le_of_lt (show left0.length + min i ps.length ≤ 200 by omega) (by decide)
        have step : ∀ (pl2 : Addr) (H6 : Hp), Same H4 H6 → H6 pl2 = some (.tup ((is ++ [(1 + bcnt d + i : Int)]).map V.int)) → H6 sb = some (.lst ((if i + 1 = ps.length then sc0 ++ bs else sc0).map V.str)) → H6 a1 = some (.tup (V.str (woS d) :: (bs.map V.str ++ vs))) ∧ H6 lf = some (.lst (ls0 ++ ks)) := fun pl2 H6 s6' _ _ => ⟨s6' _ _ ea4, s6' _ _ e4⟩
        cases his : is with
        | nil =>
          have es6 : upd H5 q3 (.tup [.int (1 + bcnt d + i)]) q3 = some (.tup ((is ++ [(1 + bcnt d + i : Int)]).map V.int)) := by rw [upd_same, his]; rfl
          have esb6 := (Same.new (o := .tup [.int (1 + bcnt d + i)]) hq3) _ _ esb
          refine .inr (.inr ⟨pl, q3, _, rfl, rfl, SqT.of (by rw [s6 _ _ epl4, his]; rfl), SqT.of upd_same, ?_⟩)
          refine ⟨_, rfl, _, rfl, a1, _, _, _, rfl, rfl, SqT.of (s6 _ _ ea4), hat, _, rfl, (by show 3 ≤ sizeLine; decide), fun t2 ht2 => ?_⟩
          exact ⟨lf, _, _, rfl, rfl, (Same.new ht2) _ _ (s6 _ _ e4), e5l, rest q3 _ s6 es6 esb6 t2 ht2⟩
        | cons z zs =>
          refine .inr (.inl ⟨pl, q3, _, _, rfl, rfl, SqT.of (s6 _ _ epl4), SqT.of upd_same, (by rw [his]; exact fun z => nomatch z), by rw [List.length_map]; exact Nat.le_trans (show is.length + 1 ≤ 200 by omega) (by decide), (fun z => nomatch z), fun _ p6 hp6 => ?_⟩)
          have s7 := Same.new (o := .tup (is.map V.int ++ [.int (1 + bcnt d + i)])) hp6
          have s67 := s6.trans s7
          have es6 : upd (upd H5 q3 (.tup [.int (1 + bcnt d + i)])) p6 (.tup (is.map V.int ++ [.int (1 + bcnt d + i)])) p6 = some (.tup ((is ++ [(1 + bcnt d + i : Int)]).map V.int)) := by rw [upd_same, List.map_append]; rfl
          have esb6 := s7 _ _ ((Same.new (o := .tup [.int (1 + bcnt d + i)]) hq3) _ _ esb)
          refine ⟨_, rfl, _, rfl, a1, _, _, _, rfl, rfl, SqT.of (s67 _ _ ea4), hat, _, rfl, (by show 3 ≤ sizeLine; decide), fun t2 ht2 => ?_⟩
          exact ⟨lf, _, _, rfl, rfl, (Same.new ht2) _ _ (s67 _ _ e4), e5l, rest p6 _ s67 es6 esb6 t2 ht2⟩
      · refine ⟨_, rfl, _, _, rfl, rfl, _, rfl, _, _, rfl, .inr ⟨_, SqT.of ea4, rfl⟩, rfl, _, rfl, ite2 (fun c => ?_) (fun c => ?_)⟩
        · have hc : i + 1 = ps.length := by
            have := of_decide_eq_true c
            injection this with this
            rw [hlenT] at this
            omega
          have hnw := not_whole (V.str (woS d)) (bs.map V.str ++ vs) 0 (some (1 + bcnt d))
          refine ⟨_, rfl, _, rfl, _, rfl, _, rfl, _, rfl, a1, _, rfl, SqT.of ea4, hnw, fun p7 hp7 => ?_⟩
          have s7 := Same.new (o := .tup (cutV (V.str (woS d) :: (bs.map V.str ++ vs)) (some 1) (some (1 + bcnt d)))) hp7
          have ecut := cut_mid (V.str (woS d)) (bs.map V.str) vs (bcnt d) (by rw [List.length_map, hbl])
          refine ⟨p7, _, rfl, .inr (SqT.of upd_same), fun l7 hl7 => ?_⟩
          have s8 := Same.new (o := .lst (cutV (V.str (woS d) :: (bs.map V.str ++ vs)) (some 1) (some (1 + bcnt d)))) hl7
          have hscl : sc0.length ≤ 200 := by
            have h1 : sc0.length ≤ 2 * n0 := hi1
            have h2 : n0 + (Rl.op d bs ps).high ≤ r.high := hi2
            omega
          refine ⟨sa, l7, _, _, rfl, rfl, (s7.trans s8) _ _ esa4, upd_same, by rw [ecut, List.length_map, List.length_map]; exact Nat.le_trans (show sc0.length + bs.length ≤ 300 by omega) (by decide), fun p9 hp9 => tl2 _ _ ⟨p9, rfl, (s7.trans s8).trans (Same.new hp9), ?_, fun z => ?_⟩⟩
          · rw [upd_same, if_pos hc, ecut, List.map_append]
          · rcases List.mem_cons.mp z with z | z
            · exact ne_of_none ((s7.trans s8) _ _ e5) hp9 z.symm
            · exact ne_of_none ((s7.trans s8) _ _ e4) hp9 (List.mem_singleton.mp z).symm
        · have hc : ¬ i + 1 = ps.length := fun z => c (by
            refine decide_eq_true ?_
            rw [hlenT]
            exact congrArg V.int (show (1 + (bcnt d : Int) + i + 1) = ((1 + bs.length + ps.length : Nat) : Int) by omega))
          exact tl2 _ _ ⟨sa, rfl, Same.refl _, by rw [if_neg hc]; exact esa4, g7⟩
    · obtain ⟨o7', o8', ks, rfl, k4, e4, e5, hr4⟩ := h
      rw [List.take_of_length_le (by rw [kids_len]; exact Nat.le_refl _)] at hr4
      exact fin _ o7' o8' H4 ks (kidsR (n0 + 1) sc0 bs ps) k4 e4 e5 hr4 (by unfold walkR; rw [walk, walks_kids]; rfl) (fun x hx => hit.kids x hx)
end
end D

set_option Elab.async false
set_option linter.all false
set_option maxRecDepth 100000
set_option maxHeartbeats 4000000
namespace D
open PySem L2
theorem boot_setT : bootBuiltins (Str.ofString "set") = some (.type "set") := by kernel_rfl
def rIsi (K : PySem.W.Frag) : List V → Hp → VK → Prop := fun xs H Q => ∃ v T A b, xs = [v, .ty T] ∧ TyOf K H v (.type A) ∧ isi A T = some b ∧ Q (.bl b) H
def rLen (K : PySem.W.Frag) : List V → Hp → VK → Prop := fun xs H Q => ∃ x n, xs = [x] ∧ LenV K x H n ∧ Q (.int n) H
def kvsB : List (Key × V) := [(.inr "let", .int 1), (.inr "each", .int 1), (.inr "over", .int 2)]
def kvsP : List (Key × V) := [(.inr "let", .int 2), (.inr "if", .int 3), (.inr "+", .int 2), (.inr "-", .int 2), (.inr "*", .int 2), (.inr "/", .int 2), (.inr "same", .int 2), (.inr "less", .int 2), (.inr "join", .int 2), (.inr "item", .int 2), (.inr "count", .int 1), (.inr "figures", .int 1), (.inr "each", .int 2), (.inr "over", .int 3), (.inr "look", .int 1), (.inr "else", .int 2), (.inr "cry", .int 1)]
def spHasParts : Sp := fun vs H Q _ => ∃ d : Wo, vs = [.str (woS d)] ∧ Q (.bl (!(wLit d || wVar d))) H
def spBCount : Sp := fun vs H Q _ => ∃ d : Wo, vs = [.str (woS d)] ∧ Q (.int (bcnt d)) H
def spVarsOf : Sp := fun vs H Q _ => ∃ (a : Addr) (d : Wo) (xs ys : List V), vs = [.ref a] ∧ H a = some (.tup (.str (woS d) :: (xs ++ ys))) ∧ xs.length = bcnt d ∧ ∀ (p : Addr) (H' : Hp), Same H H' → H' p = some (.tup xs) → Q (.ref p) H'
def kidsOf : Rl → List Rl
  | .op _ _ ps => ps
  | _ => []
def spPartsOf : Sp := fun vs H Q _ => ∃ (v : V) (r : Rl), vs = [v] ∧ RW H v r.toW ∧ (∃ sc, r.Fit sc) ∧ r.many ≤ 100 ∧ ∀ (l : Addr) (us : List V) (H' : Hp), H l = none → Same H H' → H' l = some (.lst us) → RWs H' us (rlWs (kidsOf r)) → Q (.ref l) H'
def spWhole : Sp := fun vs H Q _ => ∃ i : Int, vs = [.int i, .int i] ∧ Q (.bl true) H
theorem many_len : ∀ ps : List Rl, ps.length ≤ manys ps
  | [] => by simp [manys]
  | p :: r => by
    have h1 := many_len r
    have h2 : 1 ≤ p.many := by cases p <;> simp [Rl.many]
    simp only [manys, List.length_cons]
    omega
section
variable {P : Program} {w : World} {K : PySem.W.Frag} {mg : Str → Option Value} {base : Heap} {f : Addr} {fd : FuncData} {k n : Nat}
theorem sc_has_parts : FnScope ["word"] ["word"] (defScope s_has_parts) := ⟨rfl, rfl, rfl, by decide +kernel, rfl, by decide +kernel, by decide +kernel⟩
theorem ok_has_parts (F : Fun K "has_parts" "has_parts" s_has_parts f fd) {g_PARTS : Addr} (m_PARTS : mg "PARTS" = some (.ref g_PARTS)) (d_PARTS : MD P w K g_PARTS kvsP) : FnOk P w K mg base CX0 (k + 1) f fd ["word"] (spHasParts) := by
  refine F.okQ sc_has_parts (fun vs H Q E h => ?_) (fun cdv A outer s H vs Q E hr h => ?_)
  · obtain ⟨d, rfl, _⟩ := h
    rfl
  obtain ⟨d, rfl, q⟩ := h
  refine ⟨_, (pss_one (ps_ret (pe_or (pe_cmpR op_eq (pv 0) pe_str (nomark _)) (pe_one (pe_cmpR op_inM (pv 0) (pe_glob (v := .ref g_PARTS) rfl m_PARTS rfl) (by rfl)))))), ?_⟩
  refine ⟨_, rfl, rfl, _, rfl, ?_⟩
  rw [show Str.ofString "list" = "list" from rfl, eqList]
  cases hl : wList d with
  | true =>
    have : (!(wLit d || wVar d)) = true := by cases d <;> first | rfl | (simp [wList] at hl; done)
    rw [this] at q
    exact iteT q
  | false =>
    refine iteF ⟨_, rfl, g_PARTS, kvsP, .inr (woS d), rfl, rfl, d_PARTS, ?_⟩
    have hs : (valV kvsP (.inr (woS d))).isSome = (!(wLit d || wVar d)) := by
      cases d
      case list => simp [wList] at hl
      all_goals rfl
    rw [hs]
    exact q
theorem sc_binding_count : FnScope ["word"] ["word"] (defScope s_binding_count) := ⟨rfl, rfl, rfl, by decide +kernel, rfl, by decide +kernel, by decide +kernel⟩
theorem ok_binding_count (F : Fun K "binding_count" "binding_count" s_binding_count f fd) {g_BINDING : Addr} (m_BINDING : mg "BINDING" = some (.ref g_BINDING)) (d_BINDING : MD P w K g_BINDING kvsB) : FnOk P w K mg base CX0 (k + 1) f fd ["word"] (spBCount) := by
  refine F.okQ sc_binding_count (fun vs H Q E h => ?_) (fun cdv A outer s H vs Q E hr h => ?_)
  · obtain ⟨d, rfl, _⟩ := h
    rfl
  obtain ⟨d, rfl, q⟩ := h
  refine ⟨_, (pss_one (ps_ret (pe_mget2 (pe_glob (v := .ref g_BINDING) rfl m_BINDING rfl) (pv 0) pe_int ⟨rfl, rfl, rfl, rfl⟩))), ?_⟩
  refine ⟨g_BINDING, kvsB, rfl, d_BINDING, _, rfl, .inr (woS d), rfl, ?_⟩
  have hs : (valV kvsB (.inr (woS d))).getD (.int 0) = .int (bcnt d) := by cases d <;> rfl
  rw [hs]
  exact q
theorem sc_variables_of : FnScope ["expression"] ["expression"] (defScope s_variables_of) := ⟨rfl, rfl, rfl, by decide +kernel, rfl, by decide +kernel, by decide +kernel⟩
theorem ok_variables_of (F : Fun K "variables_of" "variables_of" s_variables_of f fd) (G_binding_count : Have P w K mg base "binding_count" k ["word"] (spBCount)) : FnOk P w K mg base CX0 (k + 1) f fd ["expression"] (spVarsOf) := by
  refine F.okQ sc_variables_of (fun vs H Q E h => ?_) (fun cdv A outer s H vs Q E hr h => ?_)
  · obtain ⟨a, d, xs, ys, rfl, _⟩ := h
    rfl
  obtain ⟨a, d, xs, ys, rfl, ha, hl, q⟩ := h
  refine ⟨_, (pss_one (ps_ret (pe_slice sl_tup (pv 0) (po_some pe_int) (po_some (pe_op op_add pe_int (pe_fn G_binding_count hr rfl (pa_cons (pe_ix ix_tup (pv 0) pe_int (fun _ _ => rfl)) pa_nil))))))), ?_⟩
  refine ⟨_, rfl, _, rfl, _, rfl, a, _, 0, _, rfl, rfl, SqT.of ha, atI_nat (j := 0) rfl, d, rfl, _, _, rfl, rfl, _, rfl, a, _, rfl, SqT.of ha, not_whole _ _ 0 _, fun p hp => ?_⟩
  refine q p _ (Same.new hp) (upd_same.trans ?_)
  exact congrArg (fun z => some (HO.tup z)) (cut_mid _ xs ys (bcnt d) hl.symm)
theorem sc_parts_of : FnScope ["expression", "word"] ["expression"] (defScope s_parts_of) := ⟨rfl, rfl, rfl, by decide +kernel, rfl, by decide +kernel, by decide +kernel⟩
theorem ok_parts_of (F : Fun K "parts_of" "parts_of" s_parts_of f fd) (G_binding_count : Have P w K mg base "binding_count" k ["word"] (spBCount)) (G_has_parts : Have P w K mg base "has_parts" k ["word"] (spHasParts)) (m_list : mg "list" = none) : FnOk P w K mg base CX0 (k + 1) f fd ["expression"] (spPartsOf) := by
  refine F.okQ sc_parts_of (fun vs H Q E h => ?_) (fun cdv A outer s H vs Q E hr h => ?_)
  · obtain ⟨v, r, rfl, _⟩ := h
    rfl
  obtain ⟨v, r, rfl, hv, ⟨sc, hfit⟩, hm, q⟩ := h
  refine ⟨_, (pss_cons (ps_set (i := 1) sc_parts_of.nd rfl (Or.inl rfl) (pe_ix ix_tup (pv 0) pe_int (fun _ _ => rfl)))
    (pss_cons (ps_if (pt_not (pt_val (pe_fn G_has_parts hr rfl (pa_cons (pv 1) pa_nil)))) (pss_one (ps_ret (pe_lst pa_nil))) pss_nil)
    (pss_one (ps_ret (pe_callTy call_list_of rfl m_list boot_listT (pa_cons (pe_slice sl_tup (pv 0) (po_some (pe_op op_add pe_int (pe_fn G_binding_count hr rfl (pa_cons (pv 1) pa_nil)))) po_none) pa_nil)))))), ?_⟩
  obtain ⟨a, us, rfl, ea, ho⟩ := opn hv
  refine ⟨_, rfl, a, _, 0, _, rfl, rfl, SqT.of ea, atI_nat (j := 0) ho.head, ?_⟩
  refine ⟨_, rfl, rlW r, rfl, _, rfl, ?_⟩
  cases ho with
  | lit _ => exact iteT ⟨(by show 0 ≤ sizeLine; decide), fun l hl => q l [] _ hl (Same.new hl) upd_same ⟨rfl, fun i v w e => by simp at e⟩⟩
  | var => exact iteT ⟨(by show 0 ≤ sizeLine; decide), fun l hl => q l [] _ hl (Same.new hl) upd_same ⟨rfl, fun i v w e => by simp at e⟩⟩
  | op hvs =>
    rename_i d bs ps vs
    rw [Rl.Fit] at hfit
    obtain ⟨h1, h2, h3, _, _⟩ := hfit
    have hb : (!(!(wLit (rlW (.op d bs ps)) || wVar (rlW (.op d bs ps))))) = false := by show (!(!(wLit d || wVar d))) = false; rw [h1, h2]; rfl
    rw [hb]
    refine iteF ⟨_, rfl, _, rfl, d, rfl, _, _, rfl, rfl, _, rfl, a, _, rfl, SqT.of ea, not_whole _ _ (bcnt d) _, fun p hp => ?_⟩
    have s1 := Same.new (o := .tup (cutV (.str (woS d) :: (bs.map V.str ++ vs)) (some (1 + bcnt d)) none)) hp
    have e := cut_rest (.str (woS d)) (bs.map V.str) vs (bcnt d) (by rw [List.length_map, h3])
    refine ⟨p, vs, rfl, .inr (SqT.of (by rw [upd_same]; exact congrArg _ (congrArg _ e))), fun l hl => ?_⟩
    have s2 := s1.trans (Same.new (o := .lst vs) hl)
    exact q l vs _ (s1.free hl) s2 upd_same (hvs.mono (same_tups' s2))
theorem sc_lwhole : FnScope ["_law_found", "_law_due"] ["_law_found", "_law_due"] (defScope s_lwhole) := ⟨rfl, rfl, rfl, by decide +kernel, rfl, by decide +kernel, by decide +kernel⟩
theorem ok_lwhole (F : Fun K "_law_whole" "_law_whole" s_lwhole f fd) (m_bool : mg "bool" = none) (m_int : mg "int" = none) (m_isi : mg "isinstance" = none) : FnOk P w K mg base CX0 (k + 1) f fd ["_law_found", "_law_due"] (spWhole) := by
  refine F.okQ sc_lwhole (fun vs H Q E h => ?_) (fun cdv A outer s H vs Q E hr h => ?_)
  · obtain ⟨i, rfl, _⟩ := h
    rfl
  obtain ⟨i, rfl, q⟩ := h
  refine ⟨_, (pss_one (ps_ret (pe_and (pe_callB call_isi rfl m_isi boot_isi (pa_cons (pv 0) (pa_cons (pe_ty rfl m_int boot_intT) pa_nil))) (pe_and (pe_not (pe_callB call_isi rfl m_isi boot_isi (pa_cons (pv 0) (pa_cons (pe_ty rfl m_bool boot_boolT) pa_nil)))) (pe_one (pe_cmpR op_eq (pv 0) (pv 1) (nomark _))))))), ?_⟩
  refine ⟨_, rfl, _, _, _, _, rfl, .int i, isi_ii, _, rfl, iteT ⟨_, rfl, _, _, _, _, rfl, .int i, isi_ib, _, rfl, _, rfl, iteT ⟨_, rfl, _, rfl, rfl, ?_⟩⟩⟩
  rw [show decide (V.int i = V.int i) = true from decide_eq_true rfl]
  exact q
theorem sc_lright_within : FnScope ["_law_one"] ["_law_one"] (defScope s_lright_within) := ⟨rfl, rfl, rfl, by decide +kernel, rfl, by decide +kernel, by decide +kernel⟩
theorem ok_lright_within (F : Fun K "_law_right_within" "_law_right_within" s_lright_within f fd) (m_isi : mg "isinstance" = none) (m_tuple : mg "tuple" = none) : FnOk P w K mg base CX0 (k + 1) f fd ["_law_one"] (spPartsOf) := by
  refine F.okQ sc_lright_within (fun vs H Q E h => ?_) (fun cdv A outer s H vs Q E hr h => ?_)
  · obtain ⟨v, r, rfl, _⟩ := h
    rfl
  obtain ⟨v, r, rfl, hv, ⟨sc, hfit⟩, hm, q⟩ := h
  refine ⟨_, (pss_cons (ps_if (pt_cmpR op_in_seq (pe_ix ix_tup (pv 0) pe_int (fun _ _ => rfl)) (pe_tup (pa_cons pe_str (pa_cons pe_str pa_nil))) (by rfl)) (pss_one (ps_ret (pe_lst pa_nil))) pss_nil)
    (pss_one (ps_ret (pe_lcomp [] [] rfl rfl (by decide +kernel) rfl (by decide +kernel) rfl (by decide +kernel) trivial rfl trivial (pi_tup (pe_slice sl_tup (pv 0) (po_some pe_int) po_none)) (fun C s H fp => ⟨(pifs_one (pt_val (pe_callB (show CallR _ (.builtin "isinstance") (rIsi K) from call_isi) rfl m_isi boot_isi (pa_cons (pv 0) (pa_cons (pe_ty rfl m_tuple boot_tupleT) pa_nil))))), (pv 0)⟩))))), ?_⟩
  obtain ⟨a, us, rfl, ea, ho⟩ := opn hv
  refine ⟨_, rfl, a, _, 0, _, rfl, rfl, SqT.of ea, atI_nat (j := 0) ho.head, (by show 2 ≤ sizeLine; decide), fun q2 hq2 => ⟨q2, _, rfl, .inr (SqT.of upd_same), rfl, rfl, _, rfl, ?_⟩⟩
  have s2 := Same.new (o := .tup [.str "lit", .str "var"]) hq2
  show if inV (.str (woS (rlW r))) [.str "lit", .str "var"] = true then _ else _
  rw [inLV]
  cases ho with
  | lit _ => exact iteT ⟨(by show 0 ≤ sizeLine; decide), fun l hl => q l [] _ (s2.free hl) (s2.trans (Same.new hl)) upd_same ⟨rfl, fun i v w e => by simp at e⟩⟩
  | var => exact iteT ⟨(by show 0 ≤ sizeLine; decide), fun l hl => q l [] _ (s2.free hl) (s2.trans (Same.new hl)) upd_same ⟨rfl, fun i v w e => by simp at e⟩⟩
  | op hvs =>
    rename_i d bs ps vs
    rw [Rl.Fit] at hfit
    obtain ⟨h1, h2, h3, _, _⟩ := hfit
    have hb : (wLit (rlW (.op d bs ps)) || wVar (rlW (.op d bs ps))) = false := by show (wLit d || wVar d) = false; rw [h1, h2]; rfl
    rw [hb]
    have hvl := hvs.len
    rw [rlWs_len] at hvl
    have hml := many_len ps
    simp only [Rl.many] at hm
    have hb2 := bcnt_le d
    refine iteF ⟨_, rfl, _, rfl, a, _, rfl, SqT.of (s2 _ _ ea), not_whole _ _ 0 _, fun p hp => ?_⟩
    have e := cut_rest (.str (woS d)) [] (bs.map V.str ++ vs) 0 rfl
    rw [List.nil_append] at e
    have s3 := s2.trans (Same.new (o := .tup (cutV (.str (woS d) :: (bs.map V.str ++ vs)) (some 1) none)) hp)
    have ep : upd (upd H q2 (.tup [.str "lit", .str "var"])) p (.tup (cutV (.str (woS d) :: (bs.map V.str ++ vs)) (some 1) none)) p = some (.tup (bs.map V.str ++ vs)) := upd_same.trans (congrArg (fun z => some (HO.tup z)) e)
    have hlen : (bs.map V.str ++ vs).length = bs.length + vs.length := by rw [List.length_append, List.length_map]
    generalize upd (upd H q2 (.tup [.str "lit", .str "var"])) p (.tup (cutV (.str (woS d) :: (bs.map V.str ++ vs)) (some 1) none)) = H3 at s3 ep ⊢
    refine ⟨p, rfl, ⟨_, SqT.of ep⟩, fun i m us H1 => i ≤ bs.length + vs.length ∧ m = bs.length + vs.length - i ∧ us = vs.take (i - bs.length) ∧ Same H3 H1, ⟨_, Nat.zero_le _, rfl, by rw [show 0 - bs.length = 0 by omega]; rfl, Same.refl _⟩, fun i m us H1 hW => ?_⟩
    obtain ⟨hi, rfl, rfl, s4⟩ := hW
    refine ⟨by rw [List.length_take]; exact Nat.le_trans (Nat.min_le_right _ _) (Nat.le_trans (show vs.length ≤ 200 by omega) (by decide)), ?_⟩
    by_cases hlt : i < bs.length + vs.length
    · refine .inr ⟨⟨_, (bs.map V.str ++ vs)[i]'(by rw [hlen]; exact hlt), SqT.of (s4 _ _ ep), List.getElem?_eq_getElem (by rw [hlen]; exact hlt)⟩, fun v H' hy => ?_⟩
      obtain ⟨rfl, hv'⟩ := hy
      have hv' := hv' _ (SqT.of (s4 _ _ ep))
      by_cases hib : i < bs.length
      · rw [List.getElem?_append_left (by rw [List.length_map]; exact hib), List.getElem?_map, List.getElem?_eq_getElem hib] at hv'
        cases hv'
        refine ⟨_, rfl, _, _, _, _, rfl, .str _, isi_st, _, rfl, iteF ⟨_, Nat.sub_lt_sub_left hlt (Nat.lt_succ_self i), hlt, rfl, by rw [show i + 1 - bs.length = 0 by omega, show i - bs.length = 0 by omega], s4⟩⟩
      · rw [List.getElem?_append_right (by rw [List.length_map]; omega), List.length_map] at hv'
        have hj : i - bs.length < vs.length := by omega
        have hw := hvs.at' (i - bs.length) v _ hv' (rlWs_get (List.getElem?_eq_getElem (show i - bs.length < ps.length by omega)))
        obtain ⟨a2, us2, rfl, ea2, _⟩ := opn hw
        refine ⟨_, rfl, _, _, _, _, rfl, .tup (s4 _ _ (s3 _ _ ea2)), isi_tt, _, rfl, iteT ⟨_, rfl, _, Nat.sub_lt_sub_left hlt (Nat.lt_succ_self i), hlt, rfl, ?_, s4⟩⟩
        rw [show i + 1 - bs.length = i - bs.length + 1 by omega, take_snoc hv']
    · refine .inl ⟨⟨_, SqT.of (s4 _ _ ep), by rw [hlen]; omega⟩, fun D hD => ?_⟩
      have s5 := s3.trans (s4.trans (Same.new (o := .lst (vs.take (i - bs.length))) hD))
      rw [List.take_of_length_le (by omega)] at s5 ⊢
      exact q D vs _ ((s3.trans s4).free hD) s5 upd_same (hvs.mono (same_tups' s5))
end
end D

set_option Elab.async false
set_option linter.all false
set_option maxRecDepth 100000
set_option maxHeartbeats 4000000
namespace D
open PySem L2
def spMany (n : Nat) : Sp := fun vs H Q _ => ∃ (v : V) (r : Rl), vs = [v] ∧ RW H v r.toW ∧ (∃ sc, r.Fit sc) ∧ r.many ≤ 100 ∧ r.high < n ∧ ∀ H', Same H H' → Q (.int r.many) H'
def spNest (n : Nat) : Sp := fun vs H Q _ => ∃ (v : V) (r : Rl), vs = [v] ∧ RW H v r.toW ∧ (∃ sc, r.Fit sc) ∧ r.many ≤ 100 ∧ r.high < n ∧ ∀ H', Same H H' → Q (.int r.high) H'
theorem many_mem : ∀ {ps : List Rl} {p : Rl}, p ∈ ps → p.many ≤ manys ps
  | q :: r, p, h => by
    simp only [manys]
    rcases List.mem_cons.mp h with rfl | h
    · omega
    · have := many_mem h; omega
theorem many_eq (r : Rl) : r.many = 1 + manys (kidsOf r) := by cases r <;> simp [Rl.many, kidsOf, manys]
theorem high_eq (r : Rl) : r.high = highs (kidsOf r) := by cases r <;> simp [Rl.high, kidsOf, highs]
theorem fit_kids {r : Rl} (h : ∃ sc, r.Fit sc) : ∀ p ∈ kidsOf r, ∃ sc, p.Fit sc := by
  obtain ⟨sc, h⟩ := h
  cases r with
  | op d bs ps => rw [Rl.Fit] at h; exact fits_mem h.2.2.2.2
  | lit _ => intro p hp; cases hp
  | var _ => intro p hp; cases hp
theorem manys_sum : ∀ ps : List Rl, (ps.map fun p => (p.many : Int)).sum = manys ps
  | [] => by simp [manys]
  | p :: r => by rw [List.map_cons, List.sum_cons, manys_sum r]; simp only [manys]; omega
theorem maxL_highs : ∀ (ps : List Rl) (m : Nat), maxL (m : Int) (ps.map fun p => (1 + p.high : Int)) = (max m (highs ps) : Nat)
  | [], m => by simp [maxL, highs]
  | p :: r, m => by
    have ih := maxL_highs r (max m (1 + p.high))
    simp only [highs]
    rw [List.map_cons]
    unfold maxL
    rw [show (if (m : Int) < 1 + (p.high : Int) then 1 + (p.high : Int) else (m : Int)) = ((max m (1 + p.high) : Nat) : Int) by split <;> omega, ih]
    congr 1
    omega
theorem maxD_highs (ps : List Rl) : maxD 0 (ps.map fun p => (1 + p.high : Int)) = highs ps := by
  cases ps with
  | nil => simp [maxD, highs]
  | cons p r =>
    have := maxL_highs r (1 + p.high)
    simp only [highs]
    rw [List.map_cons, ← this]
    show maxL (1 + (p.high : Int)) _ = _
    rw [show (1 + (p.high : Int)) = ((1 + p.high : Nat) : Int) by omega]
section
variable {P : Program} {w : World} {K : PySem.W.Frag} {mg : Str → Option Value} {base : Heap} {f : Addr} {fd : FuncData} {k : Nat}
theorem sc_many : FnScope ["expression"] ["expression"] (defScope s_many) := ⟨rfl, rfl, rfl, by decide +kernel, rfl, by decide +kernel, by decide +kernel⟩
theorem ok_many {n : Nat} (F : Fun K "many" "many" s_many f fd) (G_parts_of : Have P w K mg base "parts_of" k ["expression"] (spPartsOf)) (G_many : Have P w K mg base "many" k ["expression"] (spMany n)) (m_sum : mg "sum" = none) : FnOk P w K mg base CX0 (k + 1) f fd ["expression"] (spMany (n + 1)) := by
  refine F.okQ sc_many (fun vs H Q E h => ?_) (fun cdv A outer s H vs Q E hr h => ?_)
  · obtain ⟨v, r, rfl, _⟩ := h
    rfl
  obtain ⟨v, r, rfl, hv, hfit, hm, hh, q⟩ := h
  refine ⟨_, (pss_one (ps_ret (pe_op op_add pe_int (pe_callB (call_sum_ints rfl) rfl m_sum PyProof.Rows.boot_sum (pa_cons (pe_lcomp [] [] rfl rfl (by decide +kernel) rfl (by decide +kernel) rfl (by decide +kernel) trivial rfl trivial (pi_list (pe_fn G_parts_of hr rfl (pa_cons (pv 0) pa_nil))) (fun C s H fp => ⟨pifs_nil, (pe_fn G_many hr rfl (pa_cons (pv 0) pa_nil))⟩)) pa_nil))))), ?_⟩
  refine ⟨_, rfl, v, r, rfl, hv, hfit, hm, fun l us H1 hl s1 el hus => ⟨l, rfl, ⟨us, SqL.of el⟩, ?_⟩⟩
  have hul := hus.len
  rw [rlWs_len] at hul
  have hml := many_len (kidsOf r)
  have hme := many_eq r
  refine rd_bodyL ((kidsOf r).map fun p => V.int p.many) (SqL.of el) (by rw [List.length_map, hul]) (Nat.le_trans (show us.length ≤ 200 by omega) (by decide)) (fun i v' y H2 R hv' hy s2 hR => ?_) (fun H2 D s2 hD => ?_)
  · rw [List.getElem?_map] at hy
    obtain ⟨p, hp, rfl⟩ := Option.map_eq_some_iff.mp hy
    have hpm := List.mem_of_getElem? hp
    have h1 := many_mem hpm
    have h2 := high_mem hpm
    rw [high_eq] at hh
    exact ⟨_, rfl, v', p, rfl, (hus.at' i v' _ hv' (rlWs_get hp)).mono (same_tups' s2), fit_kids hfit p hpm, by omega, by omega, hR⟩
  · refine ⟨D, (kidsOf r).map fun p => (p.many : Int), rfl, SqL.of (by rw [upd_same, List.map_map]; rfl), _, _, rfl, rfl, ?_⟩
    rw [manys_sum]
    have := q _ (s1.trans (s2.trans (Same.new (o := .lst ((kidsOf r).map fun p => V.int p.many)) hD)))
    rw [many_eq r, Int.natCast_add] at this
    exact this
theorem sc_nesting : FnScope ["expression"] ["expression"] (defScope s_nesting) := ⟨rfl, rfl, rfl, by decide +kernel, rfl, by decide +kernel, by decide +kernel⟩
theorem ok_nesting {n : Nat} (F : Fun K "nesting" "nesting" s_nesting f fd) (G_parts_of : Have P w K mg base "parts_of" k ["expression"] (spPartsOf)) (G_nesting : Have P w K mg base "nesting" k ["expression"] (spNest n)) (m_max : mg "max" = none) : FnOk P w K mg base CX0 (k + 1) f fd ["expression"] (spNest (n + 1)) := by
  refine F.okQ sc_nesting (fun vs H Q E h => ?_) (fun cdv A outer s H vs Q E hr h => ?_)
  · obtain ⟨v, r, rfl, _⟩ := h
    rfl
  obtain ⟨v, r, rfl, hv, hfit, hm, hh, q⟩ := h
  refine ⟨_, (pss_one (ps_ret (pe_maxD rfl rfl m_max (pe_lcomp [] [] rfl rfl (by decide +kernel) rfl (by decide +kernel) rfl (by decide +kernel) trivial rfl trivial (pi_list (pe_fn G_parts_of hr rfl (pa_cons (pv 0) pa_nil))) (fun C s H fp => ⟨pifs_nil, (pe_op op_add pe_int (pe_fn G_nesting hr rfl (pa_cons (pv 0) pa_nil)))⟩))))), ?_⟩
  refine ⟨_, rfl, v, r, rfl, hv, hfit, hm, fun l us H1 hl s1 el hus => ⟨l, rfl, ⟨us, SqL.of el⟩, ?_⟩⟩
  have hul := hus.len
  rw [rlWs_len] at hul
  have hml := many_len (kidsOf r)
  have hme := many_eq r
  refine rd_bodyL ((kidsOf r).map fun p => V.int (1 + p.high)) (SqL.of el) (by rw [List.length_map, hul]) (Nat.le_trans (show us.length ≤ 200 by omega) (by decide)) (fun i v' y H2 R hv' hy s2 hR => ?_) (fun H2 D s2 hD => ?_)
  · rw [List.getElem?_map] at hy
    obtain ⟨p, hp, rfl⟩ := Option.map_eq_some_iff.mp hy
    have hpm := List.mem_of_getElem? hp
    have h1 := many_mem hpm
    have h2 := high_mem hpm
    rw [high_eq] at hh
    exact ⟨_, rfl, v', p, rfl, (hus.at' i v' _ hv' (rlWs_get hp)).mono (same_tups' s2), fit_kids hfit p hpm, by omega, by omega, fun H3 s3 => ⟨_, _, rfl, rfl, hR H3 s3⟩⟩
  · refine ⟨D, (kidsOf r).map fun p => (1 + p.high : Int), rfl, SqL.of (by rw [upd_same, List.map_map]; rfl), ?_⟩
    rw [show maxD 0 ((kidsOf r).map fun p => (1 + p.high : Int)) = r.high by rw [high_eq]; exact maxD_highs _]
    exact q _ (s1.trans (s2.trans (Same.new hD)))
end
end D

set_option Elab.async false
set_option linter.all false
set_option maxRecDepth 100000
set_option maxHeartbeats 4000000
namespace D
open PySem L2
mutual
def unb (b : List Str) : Rl → List Str
  | .lit _ => []
  | .var s => if s ∈ b then [] else [s]
  | .op _ bs ps => unbs b bs ps
def unbs (b bs : List Str) : List Rl → List Str
  | [] => []
  | [p] => unb (b ++ bs) p
  | p :: q :: r => unb b p ++ unbs b bs (q :: r)
end
def unbR (x : Row) : List Str := unb x.2.2 x.2.1
theorem unbs_kids (b bs : List Str) : ∀ ps : List Rl, unbs b bs ps = (kidsR 0 b bs ps).flatMap unbR
  | [] => by rw [unbs, kidsR]; rfl
  | [p] => by rw [unbs, kidsR]; simp [unbR]
  | p :: q :: r => by rw [unbs, kidsR, List.flatMap_cons, unbs_kids b bs (q :: r)]; rfl
mutual
theorem unb_len (b : List Str) : ∀ r : Rl, (unb b r).length ≤ r.many
  | .lit x => by rw [unb, Rl.many]; exact Nat.zero_le _
  | .var s => by rw [unb, Rl.many]; split <;> simp
  | .op d bs ps => by rw [unb, Rl.many]; have := unbs_len b bs ps; omega
theorem unbs_len (b bs : List Str) : ∀ ps : List Rl, (unbs b bs ps).length ≤ manys ps
  | [] => by rw [unbs, manys]; exact Nat.le_refl _
  | [p] => by rw [unbs, manys, manys]; have := unb_len (b ++ bs) p; omega
  | p :: q :: r => by rw [unbs, manys, List.length_append]; have := unb_len b p; have := unbs_len b bs (q :: r); omega
end
def bndOf : Rl → List Str
  | .op _ bs _ => bs
  | _ => []
theorem take_flat_le {α β : Type} (f : α → List β) (l : List α) (i : Nat) : ((l.take i).flatMap f).length ≤ (l.flatMap f).length := by
  have : l.flatMap f = (l.take i).flatMap f ++ (l.drop i).flatMap f := by rw [← List.flatMap_append, List.take_append_drop]
  rw [this, List.length_append]
  omega
theorem inV_strs (s : Str) (b : List Str) : inV (.str s) (b.map V.str) = decide (s ∈ b) := by
  induction b with
  | nil => rfl
  | cons x r ih =>
    unfold inV at ih ⊢
    rw [List.map_cons, List.any_cons, ih]
    rw [show eqV (V.str x) (V.str s) = (x == s) from rfl]
    by_cases e : s = x
    · subst e; simp
    · have e' : ¬ x = s := fun z => e z.symm
      simp [e, e']
def spUnb (n : Nat) : Sp := fun vs H Q _ => ∃ (v : V) (r : Rl) (b : Addr) (bnd : List Str), vs = [v, .ref b] ∧ RW H v r.toW ∧ (∃ sc, r.Fit sc) ∧ r.many ≤ 100 ∧ r.high < n ∧ H b = some (.tup (bnd.map V.str)) ∧ bnd.length + 2 * n ≤ 1000 ∧
  ∀ (l : Addr) (H' : Hp), H l = none → Same H H' → H' l = some (.lst ((unb bnd r).map V.str)) → Q (.ref l) H'
def spFree : Sp := fun vs H Q _ => ∃ (v : V) (r : Rl), vs = [v] ∧ RW H v r.toW ∧ (∃ sc, r.Fit sc) ∧ r.many < 64 ∧ r.high < 20 ∧
  ∀ (l : Addr) (ss : List Str) (H' : Hp), H l = none → Same H H' → H' l = some (.lst (ss.map V.str)) → L2.sortedT ss → ss.Perm (L2.allS (unb [] r)) → Q (.ref l) H'
section
variable {P : Program} {w : World} {K : PySem.W.Frag} {mg : Str → Option Value} {base : Heap} {f : Addr} {fd : FuncData} {k : Nat}
theorem sc_unbound : FnScope ["expression", "bound", "parts", "names", "place", "part", "is_last"] ["expression", "bound"] (defScope s_unbound) := ⟨rfl, rfl, rfl, by decide +kernel, rfl, by decide +kernel, by decide +kernel⟩
theorem ok_unbound {n : Nat} (F : Fun K "unbound" "unbound" s_unbound f fd) (G_unbound : Have P w K mg base "unbound" k ["expression", "bound"] (spUnb n)) (G_variables_of : Have P w K mg base "variables_of" k ["expression"] (spVarsOf)) (G_parts_of : Have P w K mg base "parts_of" k ["expression"] (spPartsOf)) (m_enumerate : mg "enumerate" = none) (m_len : mg "len" = none) : FnOk P w K mg base CX0 (k + 1) f fd ["expression", "bound"] (spUnb (n + 1)) := by
  refine F.okQ sc_unbound (fun vs H Q E h => ?_) (fun cdv A outer s H vs Q E hr h => ?_)
  · obtain ⟨v, r, b, bnd, rfl, _⟩ := h
    rfl
  obtain ⟨v, r, b, bnd, rfl, hv, hfit, hm, hh, hb, hbl, q⟩ := h
  refine ⟨_, (pss_cons (ps_if (pt_cmpR op_eq (pe_ix ix_tup (pv 0) pe_int (fun _ _ => rfl)) pe_str (nomark _)) (pss_one (ps_ret (pe_ifExp (pt_cmpR op_in_seq (pe_ix ix_tup (pv 0) pe_int (fun _ _ => rfl)) (pv 1) (by rfl)) (pe_lst pa_nil) (pe_lst (pa_cons (pe_ix ix_tup (pv 0) pe_int (fun _ _ => rfl)) pa_nil))))) pss_nil)
    (pss_cons (ps_set (i := 2) sc_unbound.nd rfl (Or.inl rfl) (pe_fn G_parts_of hr rfl (pa_cons (pv 0) pa_nil)))
    (pss_cons (ps_set (i := 3) sc_unbound.nd rfl (Or.inl rfl) (pe_lst pa_nil))
    (pss_cons (ps_for PassesOwn.never rfl (pi_enum rfl m_enumerate (pa_cons (pv 2) pa_nil)) (pg_tup rfl (pgs_cons (pg_name (i := 4) sc_unbound.nd rfl (Or.inl rfl)) (pgs_cons (pg_name (i := 5) sc_unbound.nd rfl (Or.inl rfl)) pgs_nil))) (pss_cons (ps_set (i := 6) sc_unbound.nd rfl (Or.inl rfl) (pe_cmpR op_eq (pv 4) (pe_op op_sub (pe_callB call_len rfl m_len PySem.boot_len (pa_cons (pv 2) pa_nil)) pe_int) (nomark _)))
    (pss_one (ps_expr (pe_bm PySem.F.plainAttrs_list PySem.F.slot_list_extend PySem.F.type_list_extend mt_extend (pv 3) (pa_cons (pe_fn G_unbound hr rfl (pa_cons (pv 5) (pa_cons (pe_ifExp (pt_val (pv 6)) (pe_op op_join (pv 1) (pe_fn G_variables_of hr rfl (pa_cons (pv 0) pa_nil))) (pv 1)) pa_nil))) pa_nil))))))
    (pss_one (ps_ret (pv 3))))))), ?_⟩
  obtain ⟨a, us0, rfl, ea, ho⟩ := opn hv
  refine ⟨_, rfl, a, _, 0, _, rfl, rfl, SqT.of ea, atI_nat (j := 0) ho.head, rfl, _, rfl, ?_⟩
  rw [show Str.ofString "var" = "var" from rfl, eqVar]
  cases hw : wVar (rlW r) with
  | true =>
    cases ho with
    | var =>
      rename_i s
      refine iteT ⟨_, rfl, a, _, 1, _, rfl, rfl, SqT.of ea, rfl, _, rfl, b, _, rfl, .inr (SqT.of hb), rfl, ?_, _, rfl, ?_⟩
      · rw [List.all_map]; simp [flatV]
      · show if inV (.str s) (bnd.map V.str) = true then _ else _
        rw [inV_strs]
        by_cases hs : s ∈ bnd
        · rw [decide_eq_true hs]
          exact iteT ⟨(by show 0 ≤ sizeLine; decide), fun l hl => q l _ hl (Same.new hl) (by rw [upd_same, unb, if_pos hs]; rfl)⟩
        · rw [decide_eq_false hs]
          exact iteF ⟨_, rfl, a, _, 1, _, rfl, rfl, SqT.of ea, rfl, (by show 1 ≤ sizeLine; decide), fun l hl => q l _ hl (Same.new hl) (by rw [upd_same, unb, if_neg hs]; rfl)⟩
    | lit _ => cases hw
    | op hvs =>
      obtain ⟨sc, hf⟩ := hfit
      rw [Rl.Fit] at hf
      rw [show wVar (rlW (Rl.op _ _ _)) = false from hf.2.1] at hw
      cases hw
  | false =>
    have hub : unb bnd r = (kidsR 0 bnd (bndOf r) (kidsOf r)).flatMap unbR := by
      cases r with
      | lit _ => rw [unb]; rfl
      | var _ => cases hw
      | op d bs ps => rw [unb, unbs_kids]; rfl
    refine iteF ⟨_, rfl, .ref a, r, rfl, hv, hfit, hm, fun l us H1 hl s1 el hus => ⟨(by show 0 ≤ sizeLine; decide), fun nm hnm => ?_⟩⟩
    have hul := hus.len
    rw [rlWs_len] at hul
    have s2 := Same.new (o := .lst []) hnm
    have hln : l ≠ nm := ne_of_none el hnm
    have nmH : H nm = none := s1.free hnm
    have ulen := unb_len bnd r
    refine ⟨_, rfl, l, us, rfl, SqL.of (s2 _ _ el), for_enum (xs := us) (fun i σ' H' => ∃ (o4 o5 o6 : Option V), σ' = [some (.ref a), some (.ref b), some (.ref l), some (.ref nm), o4, o5, o6] ∧ (∀ c o, c ≠ nm → upd H1 nm (.lst []) c = some o → H' c = some o) ∧ H' nm = some (.lst ((((kidsR 0 bnd (bndOf r) (kidsOf r)).take i).flatMap unbR).map V.str)))
      ⟨none, none, none, rfl, fun c o _ e => e, by rw [upd_same]; rfl⟩ (fun i σ' H' _ h => ?_) (fun i x t σ' H' hx ht h => ?_) (fun σ' H' h => ?_)⟩
    · obtain ⟨_, _, _, _, kp, _⟩ := h
      exact SqL.of (kp l _ hln (s2 _ _ el))
    · obtain ⟨o4, o5, o6, rfl, kp, enm⟩ := h
      have hi : i < us.length := (List.getElem?_eq_some_iff.mp hx).1
      have hki : (kidsOf r)[i]? = some (kidsOf r)[i] := List.getElem?_eq_getElem (by omega)
      have hkid := kids_get 0 bnd (bndOf r) (kidsOf r) i _ hki
      have sT := Same.new (o := .tup [.int i, x]) ht
      have hpm := List.getElem_mem (show i < (kidsOf r).length by omega)
      have h1 := many_mem hpm
      have h2 := high_mem hpm
      have hme := many_eq r
      have hhe := high_eq r
      have kpT : ∀ c o, c ≠ nm → upd H1 nm (.lst []) c = some o → upd H' t (.tup [.int i, x]) c = some o := fun c o hc e => sT _ _ (kp c o hc e)
      have kH : ∀ c o, H c = some o → upd H' t (.tup [.int i, x]) c = some o := fun c o e => kpT c o (ne_of_none e nmH) (s2 _ _ (s1 _ _ e))
      refine ⟨t, _, rfl, SqT.of upd_same, rfl, _, _, rfl, _, _, rfl, rfl, ?_⟩
      refine ⟨_, rfl, _, rfl, _, _, rfl, .inl ⟨_, SqL.of (kpT l _ hln (s2 _ _ el)), rfl⟩, _, _, rfl, rfl, rfl, ?_⟩
      refine ⟨_, rfl, .inl ⟨rfl, _, SqL.of (sT _ _ enm)⟩, _, rfl, _, rfl, _, rfl, ?_⟩
      have rwx : RW (upd H' t (.tup [.int i, x])) x ((kidsOf r)[i]).toW := by
        refine (hus.at' i x _ hx (rlWs_get hki)).mono (fun c zs ec => ?_)
        exact kpT c _ (ne_of_none ec hnm) (s2 _ _ ec)
      -- the call, whatever tuple is handed on
      have F : ∀ (l2 : Addr) (H6 : Hp) (bnd2 : List Str), bnd2 = (if i + 1 = (kidsOf r).length then bnd ++ bndOf r else bnd) → Same (upd H' t (.tup [.int i, x])) H6 → H6 l2 = some (.lst ((unb bnd2 (kidsOf r)[i]).map V.str)) → H6 nm = some (.lst ((((kidsR 0 bnd (bndOf r) (kidsOf r)).take i).flatMap unbR).map V.str)) ∧
          ((((kidsR 0 bnd (bndOf r) (kidsOf r)).take i).flatMap unbR).map V.str).length + ((unb bnd2 (kidsOf r)[i]).map V.str).length ≤ sizeLine ∧
          (∀ c o, c ≠ nm → upd H1 nm (.lst []) c = some o → upd H6 nm (.lst ((((kidsR 0 bnd (bndOf r) (kidsOf r)).take i).flatMap unbR).map V.str ++ (unb bnd2 (kidsOf r)[i]).map V.str)) c = some o) ∧
          upd H6 nm (.lst ((((kidsR 0 bnd (bndOf r) (kidsOf r)).take i).flatMap unbR).map V.str ++ (unb bnd2 (kidsOf r)[i]).map V.str)) nm = some (.lst ((((kidsR 0 bnd (bndOf r) (kidsOf r)).take (i + 1)).flatMap unbR).map V.str)) := fun l2 H6 bnd2 hb2 s6 el2 => by
        have t1 := take_flat_le unbR (kidsR 0 bnd (bndOf r) (kidsOf r)) i
        rw [← hub] at t1
        have t2 := unb_len bnd2 (kidsOf r)[i]
        refine ⟨s6 _ _ (sT _ _ enm), ?_, fun c o hc e => ?_, ?_⟩
        · rw [List.length_map, List.length_map]
          exact Nat.le_trans (show _ ≤ 300 by omega) (by decide)
        · rw [upd_ne hc]
          exact s6 _ _ (kpT c o hc e)
        · rw [upd_same, List.take_succ, hkid, List.flatMap_append, List.map_append, ← hb2]
          simp [unbR]
      refine ite2 (fun c => ?_) (fun c => ?_)
      · have hlast : i + 1 = (kidsOf r).length := by
          have := of_decide_eq_true c
          injection this with this
          omega
        cases ho with
        | lit _ => simp [kidsOf] at hlast
        | var => cases hw
        | op hvs =>
          rename_i d bs ps vs
          have hfit' := hfit
          obtain ⟨sc, hf⟩ := hfit
          rw [Rl.Fit] at hf
          have hb2l := bcnt_le d
          refine ⟨_, rfl, _, rfl, a, d, bs.map V.str, vs, rfl, kH _ _ ea, by rw [List.length_map]; exact hf.2.2.1, fun p H5 s5 ep => ?_⟩
          have hb2 : bnd ++ bs = (if i + 1 = (kidsOf (.op d bs ps)).length then bnd ++ bndOf (.op d bs ps) else bnd) := by rw [if_pos hlast]; rfl
          have hbl2 : (bnd ++ bs).length + 2 * n ≤ 1000 := by rw [List.length_append]; omega
          have call : ∀ (b2 : Addr) (H6 : Hp), Same H5 H6 → H6 b2 = some (.tup ((bnd ++ bs).map V.str)) → RW H6 x ((kidsOf (.op d bs ps))[i]).toW := fun b2 H6 s6 _ => rwx.mono (same_tups' (s5.trans s6))
          cases hbn : bnd with
          | nil =>
            subst hbn
            refine .inr (.inr ⟨b, p, _, rfl, rfl, SqT.of (s5 _ _ (kH _ _ hb)), SqT.of ep, ?_⟩)
            exact ⟨x, _, p, [] ++ bs, rfl, rwx.mono (same_tups' s5), fit_kids hfit' _ hpm, by omega, by omega, ep, hbl2, fun l2 H6 hl2 s6 el2 => ⟨nm, l2, _, _, rfl, rfl, (F l2 H6 _ hb2 (s5.trans s6) el2).1, el2, (F l2 H6 _ hb2 (s5.trans s6) el2).2.1, _, _, _, rfl, (F l2 H6 _ hb2 (s5.trans s6) el2).2.2.1, (F l2 H6 _ hb2 (s5.trans s6) el2).2.2.2⟩⟩
          | cons z zs =>
            rw [← hbn]
            refine .inr (.inl ⟨b, p, _, _, rfl, rfl, SqT.of (s5 _ _ (kH _ _ hb)), SqT.of ep, (by rw [hbn]; exact fun z => nomatch z), by rw [List.length_map, List.length_map]; exact Nat.le_trans (show bnd.length + bs.length ≤ 1100 by omega) (by decide), fun hz => ?_, fun _ p6 hp6 => ?_⟩)
            · have hbs : bs = [] := List.map_eq_nil_iff.mp hz
              have eb : H5 b = some (.tup ((bnd ++ bs).map V.str)) := by rw [hbs, List.append_nil]; exact s5 _ _ (kH _ _ hb)
              exact ⟨x, _, b, bnd ++ bs, rfl, rwx.mono (same_tups' s5), fit_kids hfit' _ hpm, by omega, by omega, eb, hbl2, fun l2 H6 hl2 s6 el2 => ⟨nm, l2, _, _, rfl, rfl, (F l2 H6 _ hb2 (s5.trans s6) el2).1, el2, (F l2 H6 _ hb2 (s5.trans s6) el2).2.1, _, _, _, rfl, (F l2 H6 _ hb2 (s5.trans s6) el2).2.2.1, (F l2 H6 _ hb2 (s5.trans s6) el2).2.2.2⟩⟩
            · have s56 := s5.trans (Same.new (o := .tup (bnd.map V.str ++ bs.map V.str)) hp6)
              exact ⟨x, _, p6, bnd ++ bs, rfl, rwx.mono (same_tups' s56), fit_kids hfit' _ hpm, by omega, by omega, by rw [upd_same, List.map_append], hbl2, fun l2 H6 hl2 s6 el2 => ⟨nm, l2, _, _, rfl, rfl, (F l2 H6 _ hb2 (s56.trans s6) el2).1, el2, (F l2 H6 _ hb2 (s56.trans s6) el2).2.1, _, _, _, rfl, (F l2 H6 _ hb2 (s56.trans s6) el2).2.2.1, (F l2 H6 _ hb2 (s56.trans s6) el2).2.2.2⟩⟩
      · have hlast : ¬ i + 1 = (kidsOf r).length := fun z => c (decide_eq_true (congrArg V.int (show (i : Int) = (us.length : Int) - 1 by omega)))
        have hb2 : bnd = (if i + 1 = (kidsOf r).length then bnd ++ bndOf r else bnd) := by rw [if_neg hlast]
        exact ⟨_, rfl, x, _, b, bnd, rfl, rwx, fit_kids hfit _ hpm, by omega, by omega, kH _ _ hb, by omega, fun l2 H6 hl2 s6 el2 => ⟨nm, l2, _, _, rfl, rfl, (F l2 H6 _ hb2 s6 el2).1, el2, (F l2 H6 _ hb2 s6 el2).2.1, _, _, _, rfl, (F l2 H6 _ hb2 s6 el2).2.2.1, (F l2 H6 _ hb2 s6 el2).2.2.2⟩⟩
    · obtain ⟨o4, o5, o6, rfl, kp, enm⟩ := h
      refine ⟨_, rfl, q nm H' nmH (fun c o e => kp c o (ne_of_none e nmH) (s2 _ _ (s1 _ _ e))) ?_⟩
      rw [enm, hub, List.take_of_length_le (by rw [kids_len]; omega)]
theorem sc_free_in : FnScope ["expression"] ["expression"] (defScope s_free_in) := ⟨rfl, rfl, rfl, by decide +kernel, rfl, by decide +kernel, by decide +kernel⟩
theorem ok_free_in (F : Fun K "free_in" "free_in" s_free_in f fd) (G_unbound : Have P w K mg base "unbound" k ["expression", "bound"] (spUnb 20)) (m_set : mg "set" = none) (m_sorted : mg "sorted" = none) : FnOk P w K mg base CX0 (k + 1) f fd ["expression"] (spFree) := by
  refine F.okQ sc_free_in (fun vs H Q E h => ?_) (fun cdv A outer s H vs Q E hr h => ?_)
  · obtain ⟨v, r, rfl, _⟩ := h
    rfl
  obtain ⟨v, r, rfl, hv, hfit, hm, hh, q⟩ := h
  refine ⟨_, (pss_one (ps_ret (pe_callB (call_sorted_set rfl) rfl m_sorted PyProof.Rows.boot_sorted (pa_cons (pe_callTy (call_set_tx rfl) rfl m_set boot_setT (pa_cons (pe_fn G_unbound hr rfl (pa_cons (pv 0) (pa_cons (pe_tup pa_nil) pa_nil))) pa_nil)) pa_nil)))), ?_⟩
  refine ⟨_, rfl, (by show 0 ≤ sizeLine; decide), fun p hp => ?_⟩
  have s1 := Same.new (o := .tup []) hp
  have hul := unb_len [] r
  have hal := L2.allS_len (unb [] r)
  refine ⟨v, r, p, [], rfl, hv.mono (same_tups' s1), hfit, by omega, hh, upd_same, by decide, fun l H2 hl s2 el => ⟨l, unb [] r, rfl, SqL.of el, by omega, fun st hst => ⟨st, _, rfl, upd_same, by omega, fun o ss ho hp hs => ?_⟩⟩⟩
  have s3 := Same.new (o := L2.SetH P w st (L2.allS (unb [] r))) hst
  have s4 := (s1.trans s2).trans s3
  exact q o ss _ (s4.free ho) (s4.trans (Same.new ho)) upd_same hs hp
end
end D

set_option Elab.async false
set_option linter.all false
set_option maxRecDepth 100000
set_option maxHeartbeats 4000000
namespace D
open PySem L2
def fo (x : Row) : List Str := match x.2.1 with
  | .var s => if s ∈ x.2.2 then [] else [s]
  | _ => []
mutual
theorem free_walk (n : Nat) (sc : List Str) : ∀ r : Rl, (walk n sc r).flatMap fo = unb sc r
  | .lit x => by rw [walk, unb]; rfl
  | .var s => by rw [walk, unb]; simp [fo]
  | .op d bs ps => by rw [walk, unb, List.flatMap_cons, free_walks (n + 1) sc bs ps]; rfl
theorem free_walks (n : Nat) (sc bs : List Str) : ∀ ps : List Rl, (walks n sc bs ps).flatMap fo = unbs sc bs ps
  | [] => by rw [walks, unbs]; rfl
  | [p] => by rw [walks, unbs]; exact free_walk n (sc ++ bs) p
  | p :: q :: r => by rw [walks, unbs, List.flatMap_append, free_walk n sc p, free_walks n sc bs (q :: r)]
end
theorem fo_le (x : Row) : (fo x).length ≤ 1 := by
  unfold fo
  split
  · split <;> simp
  · simp
theorem flat_fo_le (l : List Row) : (l.flatMap fo).length ≤ l.length := by
  induction l with
  | nil => simp
  | cons x r ih => rw [List.flatMap_cons, List.length_append, List.length_cons]; have := fo_le x; omega
mutual
theorem walk_fit (n : Nat) (sc : List Str) : ∀ r : Rl, (∃ s, r.Fit s) → ∀ x ∈ walk n sc r, ∃ s, x.2.1.Fit s
  | .lit y, h, x, hx => by rw [walk] at hx; rw [List.mem_singleton.mp hx]; exact h
  | .var y, h, x, hx => by rw [walk] at hx; rw [List.mem_singleton.mp hx]; exact h
  | .op d bs ps, h, x, hx => by
    rw [walk] at hx
    rcases List.mem_cons.mp hx with rfl | hx
    · exact h
    · obtain ⟨s, h⟩ := h
      rw [Rl.Fit] at h
      exact walks_fit (n + 1) sc bs ps (fits_mem h.2.2.2.2) x hx
theorem walks_fit (n : Nat) (sc bs : List Str) : ∀ ps : List Rl, (∀ p ∈ ps, ∃ s, p.Fit s) → ∀ x ∈ walks n sc bs ps, ∃ s, x.2.1.Fit s
  | [], _, x, hx => by rw [walks] at hx; cases hx
  | [p], h, x, hx => by rw [walks] at hx; exact walk_fit n (sc ++ bs) p (h p (by simp)) x hx
  | p :: q :: r, h, x, hx => by
    rw [walks] at hx
    rcases List.mem_append.mp hx with hx | hx
    · exact walk_fit n sc p (h p (by simp)) x hx
    · exact walks_fit n sc bs (q :: r) (fun z hz => h z (List.mem_cons_of_mem _ hz)) x hx
end
theorem putK_keys (kvs : List (Key × V)) (ds : List Str) (z : Str) (v : V) (h : kvs.map (·.1) = ds.map Sum.inr) : (putK kvs (.inr z) v).map (·.1) = (L2.addS ds z).map Sum.inr := by
  have hm : (kvs.any fun kv => decide (kv.1 = Sum.inr z)) = decide (z ∈ ds) := by
    have e : (kvs.any fun kv => decide (kv.1 = Sum.inr z)) = (kvs.map (·.1)).any fun q => decide (q = (Sum.inr z : Key)) := by rw [List.any_map]; rfl
    rw [e, h, List.any_map]
    clear h e
    induction ds with
    | nil => rfl
    | cons x r ih =>
      rw [List.any_cons, ih]
      by_cases hz : z = x
      · subst hz; simp
      · have hz' : ¬ (Sum.inr x : Key) = Sum.inr z := fun e => hz (Sum.inr.inj e).symm
        have hf : ((fun q => decide (q = (Sum.inr z : Key))) ∘ Sum.inr) x = false := decide_eq_false hz'
        rw [hf]
        simp [hz]
  unfold putK L2.addS
  rw [hm]
  by_cases hz : z ∈ ds
  · rw [decide_eq_true hz, if_pos rfl, if_pos hz, ← h, List.map_map]
    apply List.map_congr_left
    intro kv _
    show (if kv.1 = Sum.inr z then (kv.1, v) else kv).1 = kv.1
    split <;> rfl
  · rw [decide_eq_false hz, if_neg Bool.false_ne_true, if_neg hz, List.map_append, h, List.map_append]
    rfl
def spUnbL : Sp := fun vs H Q _ => ∃ (v : V) (r : Rl), vs = [v] ∧ RW H v r.toW ∧ (∃ sc, r.Fit sc) ∧ r.many < 64 ∧ r.high ≤ 100 ∧
  ∀ (l : Addr) (ss ds : List Str) (H' : Hp), H l = none → Same H H' → H' l = some (.lst (ss.map V.str)) → L2.sortedT ss → ds.Nodup → (∀ z, z ∈ ds ↔ z ∈ unb [] r) → ss.Perm ds → Q (.ref l) H'
section
variable {P : Program} {w : World} {K : PySem.W.Frag} {mg : Str → Option Value} {base : Heap} {f : Addr} {fd : FuncData} {k : Nat}
theorem sc_lunbound : FnScope ["_law_one", "_law_names", "_law_place", "_law_here", "_law_scope"] ["_law_one"] (defScope s_lunbound) := ⟨rfl, rfl, rfl, by decide +kernel, rfl, by decide +kernel, by decide +kernel⟩
theorem ok_lunbound (F : Fun K "_law_unbound" "_law_unbound" s_lunbound f fd) (G_lall : Have P w K mg base "_law_all" k ["_law_rule"] (spAll)) (m_sorted : mg "sorted" = none) : FnOk P w K mg base CX0 (k + 1) f fd ["_law_one"] (spUnbL) := by
  refine F.okQ sc_lunbound (fun vs H Q E h => ?_) (fun cdv A outer s H vs Q E hr h => ?_)
  · obtain ⟨v, r, rfl, _⟩ := h
    rfl
  obtain ⟨v, r, rfl, hv, hfit, hm, hh, q⟩ := h
  refine ⟨_, (pss_cons (ps_set (i := 1) sc_lunbound.nd rfl (Or.inl rfl) pe_dnewK)
    (pss_cons (ps_for PassesOwn.never rfl (pi_list (pe_fn G_lall hr rfl (pa_cons (pv 0) pa_nil))) (pg_tup rfl (pgs_cons (pg_name (i := 2) sc_lunbound.nd rfl (Or.inl rfl)) (pgs_cons (pg_name (i := 3) sc_lunbound.nd rfl (Or.inl rfl)) (pgs_cons (pg_name (i := 4) sc_lunbound.nd rfl (Or.inl rfl)) pgs_nil)))) (pss_one (ps_if (PW.pt (pw_and (pt_cmpR op_eq (pe_ix ix_tup (pv 3) pe_int (fun _ _ => rfl)) pe_str (nomark _)) (pw_and1 (pt_cmpR op_notIn_seq (pe_ix ix_tup (pv 3) pe_int (fun _ _ => rfl)) (pv 4) (by rfl))))) (pss_one (ps_dput (hu_of hr) (pv 1) (pe_ix ix_tup (pv 3) pe_int (fun _ _ => rfl)) pe_bl rfl)) pss_nil)))
    (pss_one (ps_ret (pe_callB (call_sorted_dict rfl) rfl m_sorted PyProof.Rows.boot_sorted (pa_cons (pv 1) pa_nil)))))), ?_⟩
  refine fun nd hnd => ?_
  have s1 := Same.new (o := .dK []) hnd
  refine ⟨_, rfl, v, r, rfl, hv.mono (same_tups' s1), hfit, by omega, hh, fun a us rows H2 ha ea hrows hperm h0 s2 => ⟨a, rfl, ⟨us, SqL.of ea⟩, ?_⟩⟩
  have end2 := s2 _ _ upd_same
  have hrl := hrows.len
  have hpl := hperm.length_eq
  rw [walk_len] at hpl
  have nda : nd ≠ a := ne_of_none upd_same ha
  refine for_list (a := a) (xs := us) (fun i σ' H' => ∃ (o2 o3 o4 : Option V) (kvs : List (Key × V)), σ' = [some v, some (.ref nd), o2, o3, o4] ∧ (∀ c o, c ≠ nd → H2 c = some o → H' c = some o) ∧ H' nd = some (.dK kvs) ∧ kvs.map (·.1) = (L2.allS ((rows.take i).flatMap fo)).map Sum.inr)
    ⟨none, none, none, [], rfl, fun c o _ e => e, end2, rfl⟩ (fun i σ' H' _ h => ?_) (fun i x σ' H' hx h => ?_) (fun σ' H' h => ?_)
  · obtain ⟨_, _, _, _, _, kp, _⟩ := h
    exact SqL.of (kp a _ nda.symm ea)
  · obtain ⟨o2, o3, o4, kvs, rfl, kp, ekv, hkv⟩ := h
    have hi : i < us.length := (List.getElem?_eq_some_iff.mp hx).1
    have hri : rows[i]? = some (rows[i]'(by omega)) := List.getElem?_eq_getElem (by omega)
    obtain ⟨t, pl, sa, v1, is, rfl, g2, g3, g4, g5, g6, g7⟩ := hrows.at' i x _ hx hri
    generalize hro : rows[i]'(by omega) = ro at hri g4 g5 g6
    have htp : ∀ c zs, H2 c = some (.tup zs) → H' c = some (.tup zs) := fun c zs e => kp c _ (fun z => by rw [z, end2] at e; cases e) e
    have esa : H' sa = some (.lst (ro.2.2.map V.str)) := kp sa _ (fun z => by rw [z, end2] at g6; cases g6) g6
    obtain ⟨a1, vs1, rfl, ea1, ho1⟩ := opn (g5.mono htp)
    refine ⟨t, _, rfl, SqT.of (htp _ _ g2), rfl, _, _, rfl, _, _, rfl, _, _, rfl, rfl, ?_⟩
    refine ⟨_, rfl, a1, _, 0, _, rfl, rfl, SqT.of ea1, atI_nat (j := 0) ho1.head, rfl, _, rfl, ?_⟩
    have hsame : fo ro = [] → (rows.take (i + 1)).flatMap fo = (rows.take i).flatMap fo := fun e => by
      rw [List.take_succ, hri, List.flatMap_append]
      show _ ++ [ro].flatMap fo = _
      rw [List.flatMap_cons, e]
      simp
    have keep : fo ro = [] → ∃ (o2 o3 o4 : Option V) (kvs' : List (Key × V)), [some v, some (.ref nd), some (.ref pl), some (.ref a1), some (.ref sa)] = [some v, some (.ref nd), o2, o3, o4] ∧ (∀ c o, c ≠ nd → H2 c = some o → H' c = some o) ∧ H' nd = some (.dK kvs') ∧ kvs'.map (·.1) = (L2.allS ((rows.take (i + 1)).flatMap fo)).map Sum.inr := fun e => ⟨_, _, _, kvs, rfl, kp, ekv, by rw [hsame e]; exact hkv⟩
    show if decide (V.str (woS (rlW ro.2.1)) = V.str "var") = true then _ else _
    rw [eqVar]
    obtain ⟨n0, r0, sc0⟩ := ro
    cases ho1 with
    | lit _ => exact iteF (iteF (keep rfl))
    | op hvs =>
      rename_i d bs ps vs
      have hfr : (∃ sc, (Rl.op d bs ps).Fit sc) := by
        have hmem : ((n0, Rl.op d bs ps, sc0) : Row) ∈ walk 0 [] r := hperm.mem_iff.mp (List.mem_of_getElem? hri)
        exact walk_fit 0 [] r hfit _ hmem
      obtain ⟨sc, hf⟩ := hfr
      rw [Rl.Fit] at hf
      rw [show wVar (rlW (Rl.op d bs ps)) = false from hf.2.1]
      exact iteF (iteF (keep rfl))
    | var =>
      rename_i z
      refine iteT ⟨_, rfl, a1, _, 1, _, rfl, rfl, SqT.of ea1, rfl, _, rfl, sa, _, rfl, .inl (SqL.of esa), rfl, ?_, _, rfl, ?_⟩
      · rw [List.all_map]; simp [flatV]
      · show if (!inV (.str z) (sc0.map V.str)) = true then _ else _
        rw [inV_strs]
        by_cases hz : z ∈ sc0
        · rw [decide_eq_true hz]
          exact iteF (keep (by unfold fo; exact if_pos hz))
        · rw [decide_eq_false hz]
          have hkl : kvs.length < sizeLine := by
            have h1 := congrArg List.length hkv
            rw [List.length_map, List.length_map] at h1
            have h2 := L2.allS_len ((rows.take i).flatMap fo)
            have h3 := flat_fo_le (rows.take i)
            rw [List.length_take] at h3
            exact Nat.lt_of_le_of_lt (show kvs.length ≤ 100 by omega) (by decide)
          refine iteT ⟨_, rfl, _, rfl, a1, _, 1, _, rfl, rfl, SqT.of ea1, rfl, nd, _, rfl, DPut.k (k := .inr z) ekv hkl, ?_⟩
          refine ⟨_, _, _, _, rfl, fun c o hc e => by rw [upd_ne hc]; exact kp c o hc e, upd_same, ?_⟩
          rw [putK_keys _ _ _ _ hkv, List.take_succ, hri, List.flatMap_append]
          have : ([((n0, Rl.var z, sc0) : Row)]).flatMap fo = [z] := by simp [fo, hz]
          show _ = (L2.allS ((rows.take i).flatMap fo ++ ([((n0, Rl.var z, sc0) : Row)]).flatMap fo)).map Sum.inr
          rw [this, L2.allS_snoc]
  · obtain ⟨o2, o3, o4, kvs, rfl, kp, ekv, hkv⟩ := h
    rw [hrl, List.take_length] at hkv
    have hdl := L2.allS_len (rows.flatMap fo)
    have hfl := flat_fo_le rows
    refine ⟨_, rfl, nd, kvs, _, rfl, ekv, hkv, by omega, fun l ss hl hp hs => ?_⟩
    have sH : Same H H' := fun c o e => kp c o (ne_of_none e hnd) (s2 _ _ (s1 _ _ e))
    refine q l ss _ _ (sH.free hl) (sH.trans (Same.new hl)) upd_same hs (L2.allS_nodup _) (fun z => ?_) hp
    rw [L2.allS_mem, ← free_walk 0 [] r, List.mem_flatMap, List.mem_flatMap]
    exact ⟨fun ⟨x, hx, hz⟩ => ⟨x, hperm.mem_iff.mp hx, hz⟩, fun ⟨x, hx, hz⟩ => ⟨x, hperm.mem_iff.mpr hx, hz⟩⟩
end
end D

set_option Elab.async false
set_option linter.all false
set_option maxRecDepth 100000
set_option maxHeartbeats 4000000
namespace D
open PySem L2
def spLaw (K : PySem.W.Frag) : Sp := fun vs H Q _ => ∃ (a : Addr) (ns : List Int), vs = [.ref a] ∧ SqL K H a (ns.map V.int) ∧ ns.length ≤ 63 ∧ ∀ H', Q (.bl true) H'
theorem isi_ll : isi "list" "list" = some true := by decide +kernel
mutual
theorem walk_le (n : Nat) (sc : List Str) : ∀ r : Rl, ∀ x ∈ walk n sc r, x.2.1.many ≤ r.many ∧ x.1 + x.2.1.high ≤ n + r.high
  | .lit y, x, hx => by rw [walk] at hx; rw [List.mem_singleton.mp hx]; exact ⟨Nat.le_refl _, Nat.le_refl _⟩
  | .var y, x, hx => by rw [walk] at hx; rw [List.mem_singleton.mp hx]; exact ⟨Nat.le_refl _, Nat.le_refl _⟩
  | .op d bs ps, x, hx => by
    rw [walk] at hx
    rcases List.mem_cons.mp hx with rfl | hx
    · exact ⟨Nat.le_refl _, Nat.le_refl _⟩
    · obtain ⟨h1, h2⟩ := walks_le (n + 1) sc bs ps x hx
      simp only [Rl.many, Rl.high]
      omega
theorem walks_le (n : Nat) (sc bs : List Str) : ∀ ps : List Rl, ∀ x ∈ walks n sc bs ps, x.2.1.many ≤ manys ps ∧ x.1 + x.2.1.high + 1 ≤ n + highs ps
  | [], x, hx => by rw [walks] at hx; cases hx
  | [p], x, hx => by
    rw [walks] at hx
    obtain ⟨h1, h2⟩ := walk_le n (sc ++ bs) p x hx
    simp only [manys, highs]
    omega
  | p :: q :: r, x, hx => by
    rw [walks] at hx
    simp only [manys, highs]
    rcases List.mem_append.mp hx with hx | hx
    · obtain ⟨h1, h2⟩ := walk_le n sc p x hx
      omega
    · obtain ⟨h1, h2⟩ := walks_le n sc bs (q :: r) x hx
      simp only [manys, highs] at h1 h2
      omega
end
mutual
theorem walk_top (n : Nat) (sc : List Str) : ∀ r : Rl, ∃ x ∈ walk n sc r, x.1 = n + r.high
  | .lit y => ⟨_, by rw [walk]; exact List.mem_singleton.mpr rfl, by simp [Rl.high]⟩
  | .var y => ⟨_, by rw [walk]; exact List.mem_singleton.mpr rfl, by simp [Rl.high]⟩
  | .op d bs ps => by
    rcases walks_top (n + 1) sc bs ps with ⟨h, _⟩ | ⟨x, hx, e⟩
    · exact ⟨_, by rw [walk]; exact List.mem_cons_self, by simp only [Rl.high]; omega⟩
    · exact ⟨x, by rw [walk]; exact List.mem_cons_of_mem _ hx, by simp only [Rl.high]; omega⟩
theorem walks_top (n : Nat) (sc bs : List Str) : ∀ ps : List Rl, (highs ps = 0 ∧ ps = []) ∨ ∃ x ∈ walks n sc bs ps, x.1 + 1 = n + highs ps
  | [] => .inl ⟨by simp [highs], rfl⟩
  | [p] => by
    obtain ⟨x, hx, e⟩ := walk_top n (sc ++ bs) p
    exact .inr ⟨x, by rw [walks]; exact hx, by simp only [highs]; omega⟩
  | p :: q :: r => by
    right
    obtain ⟨x, hx, e⟩ := walk_top n sc p
    rcases walks_top n sc bs (q :: r) with ⟨_, h⟩ | ⟨y, hy, e2⟩
    · cases h
    · by_cases hc : highs (q :: r) ≤ 1 + p.high
      · exact ⟨x, by rw [walks]; exact List.mem_append_left _ hx, by rw [highs]; omega⟩
      · exact ⟨y, by rw [walks]; exact List.mem_append_right _ hy, by rw [highs]; omega⟩
end
mutual
theorem fit_unb : ∀ (r : Rl) (sc : List Str), r.Fit sc → unb sc r = []
  | .lit x, sc, _ => by rw [unb]
  | .var s, sc, h => by rw [Rl.Fit] at h; rw [unb, if_pos h]
  | .op d bs ps, sc, h => by rw [Rl.Fit] at h; rw [unb]; exact fits_unb ps sc bs h.2.2.2.2
theorem fits_unb : ∀ (ps : List Rl) (sc bs : List Str), Fits ps sc bs → unbs sc bs ps = []
  | [], sc, bs, _ => by rw [unbs]
  | [p], sc, bs, h => by rw [Fits] at h; rw [unbs]; exact fit_unb p _ h
  | p :: q :: r, sc, bs, h => by rw [Fits] at h; rw [unbs, fit_unb p sc h.1, fits_unb (q :: r) sc bs h.2]; rfl
end
theorem depths_app : ∀ (a b : List W), depths (a ++ b) = max (depths a) (depths b)
  | [], b => by simp [depths]
  | x :: a, b => by rw [List.cons_append, depths, depths, depths_app a b]; omega
theorem depths_txt : ∀ bs : List Str, depths (bs.map W.txt) = 0
  | [] => by simp [depths]
  | b :: bs => by rw [List.map_cons, depths, depths_txt bs]; simp [W.depth]
mutual
theorem fit_depth : ∀ (r : Rl), (∃ sc, r.Fit sc) → r.toW.depth ≤ 4 + r.high
  | .lit x, ⟨sc, h⟩ => by
    rw [Rl.Fit] at h
    rw [Rl.toW, W.depth, depths, depths, depths]
    simp only [W.depth]
    have := h.2
    omega
  | .var s, _ => by rw [Rl.toW, W.depth, depths, depths, depths]; simp only [W.depth]; omega
  | .op d bs ps, ⟨sc, h⟩ => by
    rw [Rl.Fit] at h
    have := fits_depth ps (fits_mem h.2.2.2.2)
    rw [Rl.toW, W.depth, depths, depths_app, depths_txt]
    simp only [W.depth, Rl.high]
    omega
theorem fits_depth : ∀ (ps : List Rl), (∀ p ∈ ps, ∃ sc, p.Fit sc) → depths (rlWs ps) ≤ 3 + highs ps
  | [], _ => by simp [rlWs, depths]
  | p :: r, h => by
    have h1 := fit_depth p (h p List.mem_cons_self)
    have h2 := fits_depth r fun q hq => h q (List.mem_cons_of_mem _ hq)
    rw [rlWs, depths, highs]
    omega
end
def lawNames : List Str := ["a.b", "ab.c1"]
theorem lawNames_ok : ∀ z ∈ lawNames, z.length ≤ 400 ∧ Signs z := by
  intro z hz
  unfold lawNames at hz
  simp only [List.mem_cons, List.not_mem_nil, or_false] at hz
  rcases hz with rfl | rfl
  · refine ⟨by decide +kernel, fun c hc => ?_⟩
    have e : (Str.ofString "a.b").cps.toList = [97, 46, 98] := by decide +kernel
    rw [e] at hc
    simp at hc
    omega
  · refine ⟨by decide +kernel, fun c hc => ?_⟩
    have e : (Str.ofString "ab.c1").cps.toList = [97, 98, 46, 99, 49] := by decide +kernel
    rw [e] at hc
    simp at hc
    omega
end D

set_option Elab.async false
set_option linter.all false
set_option maxRecDepth 100000
set_option maxHeartbeats 4000000
namespace L2
open PySem
/-- a comprehension by a tuple of three names over a list of such tuples -/
theorem rd_bodyT {K : PySem.W.Frag} {g : TG} {te : TE} {H : Hp} {F : Addr → Hp → List V → Prop} {a : Addr} {vs : List V} {n : Nat} (outs : List V) (hS : SqL K H a vs) (hl : outs.length = vs.length) (hz : vs.length ≤ sizeLine)
    (step : ∀ (i : Nat) (v y : V) (H1 : Hp) (R : VK), vs[i]? = some v → outs[i]? = some y → Same H H1 → (∀ H2, Same H1 H2 → R y H2) → g v (List.replicate n none) H1 fun σ2 H2 => te σ2 H2 R)
    (mono : ∀ (v : V) (H1 : Hp) (A B : St → Hp → Prop), (∀ σ H, A σ H → B σ H) → g v (List.replicate n none) H1 A → g v (List.replicate n none) H1 B)
    (fin : ∀ (H1 : Hp) (D : Addr), Same H H1 → H1 D = none → F D H1 outs) :
    ∃ W : Nat → Nat → List V → Hp → Prop, (∃ m, W 0 m [] H) ∧ ∀ i m vs H, W i m vs H → vs.length ≤ sizeLine ∧
      (((Itl K a).stop i H ∧ ∀ D, H D = none → F D H vs) ∨
       ((Itl K a).go i H ∧ ∀ v H', (Itl K a).yld i H v H' → g v (List.replicate n none) H' fun σ2 H2 => (fun (_ : St) (H : Hp) (Q : Bool → Hp → Prop) => Q true H) σ2 H2 fun b H3 => if b = true then te σ2 H3 fun y H4 => ∃ m', m' < m ∧ W (i + 1) m' (vs ++ [y]) H4 else ∃ m', m' < m ∧ W (i + 1) m' vs H3)) := by
  refine ⟨fun i m us H1 => i ≤ vs.length ∧ m = vs.length - i ∧ us = outs.take i ∧ Same H H1, ⟨_, Nat.zero_le _, rfl, by simp, Same.refl _⟩, fun i m us H1 hW => ?_⟩
  obtain ⟨hi, hm, hu, sm⟩ := hW
  refine ⟨by rw [hu, List.length_take]; omega, ?_⟩
  by_cases hlt : i < vs.length
  · refine .inr ⟨⟨vs, vs[i], sm.seq hS, List.getElem?_eq_getElem hlt⟩, fun v H' hy => ?_⟩
    obtain ⟨rfl, hv⟩ := hy
    have hv := hv vs (sm.seq hS)
    have hy : outs[i]? = some outs[i] := List.getElem?_eq_getElem (by omega)
    refine mono v H' _ _ (fun σ H2 q => iteT q) ?_
    refine step i v outs[i] H' _ hv hy sm fun H2 s2 => ⟨vs.length - (i + 1), by omega, by omega, rfl, ?_, sm.trans s2⟩
    rw [hu, take_snoc hy]
  · have e : i = vs.length := by omega
    refine .inl ⟨⟨vs, sm.seq hS, by omega⟩, fun D hD => ?_⟩
    have e2 : us = outs := by rw [hu, List.take_of_length_le (by omega)]
    rw [e2]
    exact fin H1 D sm hD
end L2
namespace D
open PySem L2
section
variable {P : Program} {w : World} {K : PySem.W.Frag} {mg : Str → Option Value} {base : Heap} {f : Addr} {fd : FuncData} {k : Nat}
theorem sc_law : FnScope ["_law_script", "_law_box_here", "_law_rule", "_law_rows", "_law_begin", "_law_place", "_law_one", "_law_scope", "_law_inner", "_law_found", "_law_deepest", "_law_free"] ["_law_script"] (defScope sLaw) := ⟨rfl, rfl, rfl, by decide +kernel, rfl, by decide +kernel, by decide +kernel⟩
theorem ok_law (F : Fun K "law" "law" sLaw f fd) (G_free_in : Have P w K mg base "free_in" k ["expression"] (spFree)) (G_parts_of : Have P w K mg base "parts_of" k ["expression"] (spPartsOf)) (G_lright_within : Have P w K mg base "_law_right_within" k ["_law_one"] (spPartsOf)) (G_lunbound : Have P w K mg base "_law_unbound" k ["_law_one"] (spUnbL)) (G_lwhole : Have P w K mg base "_law_whole" k ["_law_found", "_law_due"] (spWhole)) (G_nesting : Have P w K mg base "nesting" k ["expression"] (spNest 20)) (G_many : Have P w K mg base "many" k ["expression"] (spMany 20)) (G_lall : Have P w K mg base "_law_all" k ["_law_rule"] (spAll)) (G_ltake : Have P w K mg base "_law_take" k ["_law_box_here", "_law_wide"] (spTake)) (G_lany : Have P w K mg base "_law_any" k ["_law_box_here", "_law_scope", "_law_names", "_law_spare", "_law_floors", "_law_rounds"] (spAny 13)) (G_lbox : Have P w K mg base "_law_box" k ["_law_script", "_law_k"] (spBox K)) (m_isi : mg "isinstance" = none) (m_len : mg "len" = none) (m_list : mg "list" = none) (m_max : mg "max" = none) : FnOk P w K mg base CX0 (k + 1) f fd ["_law_script"] (spLaw K) := by
  refine F.okQ sc_law (fun vs H Q E h => ?_) (fun cdv A outer s H vs Q E hr h => ?_)
  · obtain ⟨a, ns, rfl, _⟩ := h
    rfl
  obtain ⟨a, ns, rfl, hq, hns, q⟩ := h
  refine ⟨_, (pss_cons (ps_set (i := 1) sc_law.nd rfl (Or.inl rfl) (pe_fn G_lbox hr rfl (pa_cons (pv 0) (pa_cons pe_int pa_nil))))
    (pss_cons (ps_set (i := 2) sc_law.nd rfl (Or.inl rfl) (pe_ix ix_tup (pe_fn G_lany hr rfl (pa_cons (pe_fn G_lbox hr rfl (pa_cons (pv 0) (pa_cons pe_int pa_nil))) (pa_cons (pe_lst pa_nil) (pa_cons (pe_lst (pa_cons pe_str (pa_cons pe_str pa_nil))) (pa_cons (pe_op op_add pe_int (pe_fn G_ltake hr rfl (pa_cons (pv 1) (pa_cons pe_int pa_nil)))) (pa_cons pe_int (pa_cons pe_int pa_nil))))))) pe_int (fun _ _ => rfl)))
    (pss_cons (ps_set (i := 3) sc_law.nd rfl (Or.inl rfl) (pe_fn G_lall hr rfl (pa_cons (pv 2) pa_nil)))
    (pss_cons (ps_set (i := 4) sc_law.nd rfl (Or.inl rfl) (pe_fn G_ltake hr rfl (pa_cons (pv 1) (pa_cons (pe_callB call_len rfl m_len PySem.boot_len (pa_cons (pv 3) pa_nil)) pa_nil))))
    (pss_cons (ps_for PassesOwn.never rfl (pi_list (pe_op op_cat (pe_slice sl_list (pv 3) po_none (po_some pe_int)) (pe_slice sl_list (pv 3) (po_some (pv 4)) (po_some (pe_op op_add (pv 4) pe_int))))) (pg_tup rfl (pgs_cons (pg_name (i := 5) sc_law.nd rfl (Or.inl rfl)) (pgs_cons (pg_name (i := 6) sc_law.nd rfl (Or.inl rfl)) (pgs_cons (pg_name (i := 7) sc_law.nd rfl (Or.inl rfl)) pgs_nil)))) (pss_cons (ps_set (i := 8) sc_law.nd rfl (Or.inl rfl) (pe_fn G_lall hr rfl (pa_cons (pv 6) pa_nil)))
    (pss_cons (ps_set (i := 9) sc_law.nd rfl (Or.inl rfl) (pe_fn G_parts_of hr rfl (pa_cons (pv 6) pa_nil)))
    (pss_cons (ps_if (PW.pt (pw_or (pt_not (pt_val (pe_callB call_isi rfl m_isi boot_isi (pa_cons (pv 9) (pa_cons (pe_ty rfl m_list boot_listT) pa_nil))))) (pw_or1 (pt_cmpR (op_neWL hr.units) (pv 9) (pe_fn G_lright_within hr rfl (pa_cons (pv 6) pa_nil)) (nomark _))))) (pss_one (ps_ret pe_bl)) pss_nil)
    (pss_cons (ps_expr (pe_bm PySem.F.plainAttrs_list PySem.F.slot_list_append PySem.F.type_list_append mt_append (pv 9) (pa_cons (pe_tup (pa_cons pe_str (pa_cons pe_int pa_nil))) pa_nil)))
    (pss_cons (ps_set (i := 10) sc_law.nd rfl (Or.inl rfl) (pe_callB (call_max_ints rfl) rfl m_max PyProof.Rows.boot_max (pa_cons (pe_lcompT ["_law_spot", "_law_here", "_law_bound"] rfl rfl (by decide +kernel) rfl (by decide +kernel) trivial rfl (pi_list (pv 8)) (fun C s H fp => (show QG _ _ (gTup K 3 (gCons (gName 0) (gCons (gName 1) (gCons (gName 2) gNil)))) from pg_tup rfl (pgs_cons (pg_name (i := 0) (show (["_law_spot", "_law_here", "_law_bound"] : List Str).Nodup from by decide +kernel) rfl (Or.inl rfl) (Or.inr rfl)) (pgs_cons (pg_name (i := 1) (show (["_law_spot", "_law_here", "_law_bound"] : List Str).Nodup from by decide +kernel) rfl (Or.inl rfl) (Or.inr rfl)) (pgs_cons (pg_name (i := 2) (show (["_law_spot", "_law_here", "_law_bound"] : List Str).Nodup from by decide +kernel) rfl (Or.inl rfl) (Or.inr rfl)) pgs_nil))))) (fun C s H fp => ⟨pifs_nil, (pe_callB (show CallR _ (.builtin "len") (rLen K) from call_len) rfl m_len PySem.boot_len (pa_cons (pv 0) pa_nil))⟩)) pa_nil)))
    (pss_cons (ps_if (PW.pt (pw_or (pt_not (pt_val (pe_fn G_lwhole hr rfl (pa_cons (pe_fn G_many hr rfl (pa_cons (pv 6) pa_nil)) (pa_cons (pe_callB call_len rfl m_len PySem.boot_len (pa_cons (pv 8) pa_nil)) pa_nil))))) (pw_or1 (pt_not (pt_val (pe_fn G_lwhole hr rfl (pa_cons (pe_fn G_nesting hr rfl (pa_cons (pv 6) pa_nil)) (pa_cons (pv 10) pa_nil)))))))) (pss_one (ps_ret pe_bl)) pss_nil)
    (pss_one (ps_if (PW.pt (pw_or (pt_cmpR (op_neWL hr.units) (pe_fn G_free_in hr rfl (pa_cons (pv 6) pa_nil)) (pe_fn G_lunbound hr rfl (pa_cons (pv 6) pa_nil)) (nomark _)) (pw_or1 (pt_cmpR (op_neWL hr.units) (pe_fn G_parts_of hr rfl (pa_cons (pv 6) pa_nil)) (pe_fn G_lright_within hr rfl (pa_cons (pv 6) pa_nil)) (nomark _))))) (pss_one (ps_ret pe_bl)) pss_nil)))))))))
    (pss_cons (ps_set (i := 11) sc_law.nd rfl (Or.inl rfl) (pe_fn G_free_in hr rfl (pa_cons (pv 2) pa_nil)))
    (pss_one (ps_ret (pe_and (pe_callB call_isi rfl m_isi boot_isi (pa_cons (pv 11) (pa_cons (pe_ty rfl m_list boot_listT) pa_nil))) (pe_one (pe_cmpR (op_eqE (Nat.lt_of_le_of_lt (Nat.le_add_right _ 64) hr.units)) (pv 11) (pe_lst pa_nil) (nomark _)))))))))))), ?_⟩
  refine ⟨_, rfl, a, ns, 1, rfl, hq, by decide, fun x1 f1 m1 b1 hb1 => ?_⟩
  have sb1 := Same.new (o := .lst [.int x1, .int f1, .int m1]) hb1
  refine ⟨_, rfl, a, ns, 2, rfl, sb1.seq hq, by decide, fun x2 f2 m2 b2 hb2 => ⟨(by show 0 ≤ sizeLine; decide), fun sc hsc => ⟨(by show 2 ≤ sizeLine; decide), fun nl hnl => ?_⟩⟩⟩
  have sb2 := Same.new (o := .lst [.int x2, .int f2, .int m2]) hb2
  have s3 := Same.new (o := .lst []) hsc
  have s4 := Same.new (o := .lst [.str "a.b", .str "ab.c1"]) hnl
  have e1 := (sb2.trans (s3.trans s4)) b1 _ upd_same
  have e2 := (s3.trans s4) b2 _ upd_same
  have e3 := s4 sc _ upd_same
  have n12 : b2 ≠ b1 := (ne_of_none upd_same hb2).symm
  have n1s : sc ≠ b1 := (ne_of_none (sb2 b1 _ upd_same) hsc).symm
  have n2s : sc ≠ b2 := (ne_of_none upd_same hsc).symm
  have n1l : nl ≠ b1 := (ne_of_none ((sb2.trans s3) b1 _ upd_same) hnl).symm
  have n2l : nl ≠ b2 := (ne_of_none (s3 b2 _ upd_same) hnl).symm
  refine ⟨_, rfl, b1, 60, rfl, ⟨_, _, _, e1⟩, by decide, by decide, fun sp H5 sp0 sp1 st5 => ⟨_, _, rfl, rfl, ?_⟩⟩
  refine ⟨b2, sc, nl, [], lawNames, 1 + sp, 12, 2, rfl, ⟨_, _, _, st5.keep _ _ n12 e2⟩, ⟨st5.keep _ _ n1l upd_same, n2l, (fun z => nomatch z), by decide, lawNames_ok⟩, st5.keep _ _ n1s e3, n2s, by decide, by omega, by omega, by decide, by decide, by decide, by decide, fun t v r H6 et rv hfit hmany hhigh st6 => ?_⟩
  have hb1box : IsBox H6 b1 := by
    obtain ⟨x, y, z, e⟩ := st5.box
    exact ⟨x, y, z, st6.keep _ _ n12.symm e⟩
  refine ⟨t, _, 0, _, rfl, rfl, SqT.of et, rfl, ?_⟩
  have hm60 : r.many ≤ 60 := by omega
  have hh13 : r.high ≤ 13 := by omega
  refine ⟨_, rfl, v, r, rfl, rv, ⟨_, hfit⟩, by omega, by omega, fun ra us rows H7 hra era hrows hperm h0 s7 => ?_⟩
  have hul := hrows.len
  have hpl := hperm.length_eq
  rw [walk_len] at hpl
  have hrm : 1 ≤ r.many := by cases r <;> simp [Rl.many]
  have hb17 : IsBox H7 b1 := by
    obtain ⟨x, y, z, e⟩ := hb1box
    exact ⟨x, y, z, s7 _ _ e⟩
  have nra1 : ra ≠ b1 := by
    obtain ⟨x, y, z, e⟩ := hb1box
    exact (ne_of_none e hra).symm
  refine ⟨_, rfl, _, rfl, _, _, rfl, .inl ⟨_, SqL.of era, rfl⟩, b1, _, rfl, hb17, by omega, by omega, fun bg H8 bg0 bg1 st8 => ?_⟩
  have era8 := st8.keep _ _ nra1 era
  have hrows8 : ∀ x ∈ us, ∃ ro ∈ walk 0 [] r, ∃ (t pl sa : Addr) (v' : V), x = .ref t ∧ H7 t = some (.tup [.ref pl, v', .ref sa]) ∧ RW H7 v' ro.2.1.toW := fun x hx => by
    obtain ⟨i, hi, rfl⟩ := List.getElem_of_mem hx
    have hri : rows[i]? = some (rows[i]'(by omega)) := List.getElem?_eq_getElem (by omega)
    obtain ⟨t, pl, sa, v1, is, g1, g2, g3, g4, g5, g6, g7⟩ := hrows.at' i us[i] _ (List.getElem?_eq_getElem hi) hri
    exact ⟨_, hperm.mem_iff.mp (List.mem_of_getElem? hri), t, pl, sa, v1, g1, g2, g5⟩
  dsimp only [gName]
  refine seqI (fun σ' H' => ∃ (o5 o6 o7 o8 o9 o10 : Option V), σ' = [some (.ref a), some (.ref b1), some v, some (.ref ra), some (.int bg), o5, o6, o7, o8, o9, o10, none] ∧ Same H8 H') (fun σ' H' h => ?_) (fun tl => ?_)
  · obtain ⟨o5, o6, o7, o8, o9, o10, rfl, sH⟩ := h
    have rvH : RW H' v r.toW := ((rv.mono (same_tups' s7)).mono (st8.tups hb17)).mono (same_tups' sH)
    refine ⟨_, rfl, v, r, rfl, rvH, ⟨_, hfit⟩, by omega, by omega, fun l ss H9 hl s9 el hs hp => ?_⟩
    have hss : ss = [] := by
      rw [fit_unb r [] hfit] at hp
      exact hp.eq_nil
    subst hss
    refine ⟨_, rfl, _, _, _, _, rfl, .lst el, isi_ll, _, rfl, iteT ⟨_, rfl, (by show 0 ≤ sizeLine; decide), fun e0 he0 => ?_⟩⟩
    exact ⟨l, e0, [], rfl, rfl, SqL.of ((Same.new he0) _ _ el), SqL.of upd_same, q _⟩
  · refine ⟨_, rfl, _, rfl, ra, _, rfl, SqL.of era8, fun p1 hp1 => ?_⟩
    have t1 := Same.new (o := .lst (cutV us none (some 1))) hp1
    refine ⟨_, rfl, _, rfl, _, rfl, _, rfl, _, _, rfl, rfl, _, rfl, ra, _, rfl, SqL.of (t1 _ _ era8), fun p2 hp2 => ?_⟩
    have t2 := Same.new (o := .lst (cutV us (some bg) (some (bg + 14)))) hp2
    have c1 := cutV_length us none (some 1)
    have c2 := cutV_length us (some bg) (some (bg + 14))
    refine ⟨p1, p2, _, _, rfl, rfl, t2 _ _ upd_same, upd_same, Nat.le_trans (show _ ≤ 300 by omega) (by decide), fun p3 hp3 => ⟨p3, rfl, ⟨_, SqL.of upd_same⟩, ?_⟩⟩
    have t3 := Same.new (o := .lst (cutV us none (some 1) ++ cutV us (some bg) (some (bg + 14)))) hp3
    have t123 := t1.trans (t2.trans t3)
    refine for_list (a := p3) (xs := cutV us none (some 1) ++ cutV us (some bg) (some (bg + 14))) (fun i σ' H' => ∃ (o5 o6 o7 o8 o9 o10 : Option V), σ' = [some (.ref a), some (.ref b1), some v, some (.ref ra), some (.int bg), o5, o6, o7, o8, o9, o10, none] ∧ Same H8 H' ∧ H' p3 = some (.lst (cutV us none (some 1) ++ cutV us (some bg) (some (bg + 14)))))
      ⟨none, none, none, none, none, none, rfl, t123, upd_same⟩ (fun i σ' H' _ h => ?_) (fun i x σ' H' hx h => ?_) (fun σ' H' h => ?_)
    · obtain ⟨_, _, _, _, _, _, _, _, e⟩ := h
      exact SqL.of e
    · obtain ⟨o5, o6, o7, o8, o9, o10, rfl, sH, e3'⟩ := h
      have hxu : x ∈ us := by
        rcases List.mem_append.mp (List.mem_of_getElem? hx) with h | h
        · exact List.mem_of_mem_drop (List.mem_of_mem_take h)
        · exact List.mem_of_mem_drop (List.mem_of_mem_take h)
      obtain ⟨ro, hro, t, pl, sa, v', rfl, g2, g5⟩ := hrows8 x hxu
      obtain ⟨hw1, hw2⟩ := walk_le 0 [] r ro hro
      have hfit1 := walk_fit 0 [] r ⟨_, hfit⟩ ro hro
      have tH := fun c zs e => sH c _ (st8.tups hb17 c zs e)
      have rv' := g5.mono tH
      generalize ro.2.1 = r1 at hw1 hw2 hfit1 rv'
      have hdep := fits_depth (kidsOf r1) (fit_kids hfit1)
      rw [← high_eq] at hdep
      refine ⟨t, _, rfl, SqT.of (tH _ _ g2), rfl, _, _, rfl, _, _, rfl, _, _, rfl, rfl, ?_⟩
      refine ⟨_, rfl, v', r1, rfl, rv', hfit1, by omega, by omega, fun ia us2 rows2 H9 hia eia hrows2 hperm2 _ s9 => ?_⟩
      have hul2 := hrows2.len
      have hpl2 := hperm2.length_eq
      rw [walk_len] at hpl2
      refine ⟨_, rfl, v', r1, rfl, rv'.mono (same_tups' s9), hfit1, by omega, fun l3 us3 H10 hl3 s10 el3 hus3 => ?_⟩
      have s910 := s9.trans s10
      refine ⟨_, rfl, _, _, _, _, rfl, .lst el3, isi_ll, _, rfl, ?_⟩
      refine iteF ⟨_, rfl, _, rfl, v', r1, rfl, rv'.mono (same_tups' s910), hfit1, by omega, fun l4 us4 H11 hl4 s11 el4 hus4 => ?_⟩
      have kd : depths (rlWs (kidsOf r1)) < 50 := by omega
      refine ⟨l3, l4, us3, us4, _, rfl, rfl, SqL.of (s11 _ _ el3), SqL.of el4, hus3.mono (same_tups' s11), hus4, kd, _, rfl, iteF ?_⟩
      refine ⟨_, rfl, .inl ⟨rfl, _, SqL.of (s11 _ _ el3)⟩, (by show 2 ≤ sizeLine; decide), fun q1 hq1 => ?_⟩
      have sq1 := Same.new (o := .tup [.str "lit", .int 0]) hq1
      have hu3 := hus3.len
      rw [rlWs_len] at hu3
      have hml := many_len (kidsOf r1)
      have hme := many_eq r1
      refine ⟨l3, us3, _, rfl, rfl, sq1 _ _ (s11 _ _ el3), Nat.lt_of_le_of_lt (show us3.length ≤ 100 by omega) (by decide), ?_⟩
      have s12 : Same H9 (upd (upd H11 q1 (.tup [.str "lit", .int 0])) l3 (.lst (us3 ++ [.ref q1]))) := fun c o e => by
        rw [upd_ne (ne_of_none e hl3)]
        exact (s10.trans (s11.trans sq1)) c o e
      generalize upd (upd H11 q1 (.tup [.str "lit", .int 0])) l3 (.lst (us3 ++ [.ref q1])) = H12 at s12 ⊢
      have sA := s9.trans s12
      have eia12 := s12 _ _ eia
      refine ⟨_, rfl, ia, rfl, ⟨us2, SqL.of eia12⟩, ?_⟩
      refine rd_bodyT (n := 3) (rows2.map fun ro => V.int ro.1) (SqL.of eia12) (by rw [List.length_map, hul2]) (Nat.le_trans (show us2.length ≤ 200 by omega) (by decide)) (fun i2 x2 y2 H13 R hx2 hy2 s13 hR => ?_) (fun x2 H13 A B hAB h => ?_) (fun H13 D s13 hD => ?_)
      · rw [List.getElem?_map] at hy2
        obtain ⟨ro2, hro2, rfl⟩ := Option.map_eq_some_iff.mp hy2
        obtain ⟨t2, pl2, sa2, v2, is2, rfl, k2, k3, k4, k5, k6, k7⟩ := hrows2.at' i2 x2 ro2 hx2 hro2
        have sB := s12.trans s13
        refine ⟨t2, _, rfl, SqT.of (sB _ _ k2), rfl, _, _, rfl, _, _, rfl, _, _, rfl, rfl, ?_⟩
        refine ⟨_, rfl, _, _, rfl, .inr ⟨_, SqT.of (sB _ _ k3), rfl⟩, ?_⟩
        rw [List.length_map, k4]
        exact hR _ (Same.refl _)
      · obtain ⟨t2, w2, h1, h2, h3, x1, r1', e1', x2', r2', e2', x3, r3, e3'', e4, hA⟩ := h
        exact ⟨t2, w2, h1, h2, h3, x1, r1', e1', x2', r2', e2', x3, r3, e3'', e4, hAB _ _ hA⟩
      · refine ⟨D, rows2.map fun ro => (ro.1 : Int), rfl, SqL.of (by rw [upd_same, List.map_map]; rfl), by rw [List.length_map]; omega, fun M hM hall => ?_⟩
        have hMh : M = r1.high := by
          obtain ⟨ro2, hro2, rfl⟩ := List.mem_map.mp hM
          have h1 := (walk_le 0 [] r1 ro2 (hperm2.mem_iff.mp hro2)).2
          obtain ⟨ro3, hro3, h3⟩ := walk_top 0 [] r1
          have h2 := hall _ (List.mem_map.mpr ⟨ro3, hperm2.mem_iff.mpr hro3, rfl⟩)
          omega
        subst hMh
        have s14 := s13.trans (Same.new (o := .lst (rows2.map fun ro => V.int ro.1)) hD)
        generalize upd H13 D (.lst (rows2.map fun ro => V.int ro.1)) = H14 at s14 ⊢
        have sB := sA.trans s14
        have eia14 := s14 _ _ eia12
        refine ⟨_, rfl, v', r1, rfl, rv'.mono (same_tups' sB), hfit1, by omega, by omega, fun H15 s15 => ⟨_, rfl, _, _, rfl, .inl ⟨_, SqL.of (s15 _ _ eia14), rfl⟩, (r1.many : Int), (by rw [hul2, hpl2]; rfl), _, rfl, iteF ?_⟩⟩
        have sC := sB.trans s15
        refine ⟨_, rfl, v', r1, rfl, rv'.mono (same_tups' sC), hfit1, by omega, by omega, fun H16 s16 => ⟨_, rfl, (r1.high : Int), rfl, _, rfl, iteF ?_⟩⟩
        have sD := sC.trans s16
        refine ⟨_, rfl, v', r1, rfl, rv'.mono (same_tups' sD), hfit1, by omega, by omega, fun l5 ss5 H17 hl5 s17 el5 hs5 hp5 => ?_⟩
        have sE := sD.trans s17
        refine ⟨_, rfl, v', r1, rfl, rv'.mono (same_tups' sE), hfit1, by omega, by omega, fun l6 ss6 ds6 H18 hl6 s18 el6 hs6 hn6 hd6 hp6 => ?_⟩
        have sF := sE.trans s18
        have hse : ss5 = ss6 := L2.sorted_one hs5 hs6 (hp5.trans ((L2.perm_same (L2.allS_nodup _) hn6 fun z => by rw [L2.allS_mem, hd6]).trans hp6.symm))
        subst hse
        have htx : ∀ Hx : Hp, RWs Hx (ss5.map V.str) (ss5.map W.txt) := fun Hx => ⟨by rw [List.length_map, List.length_map], fun i v w hv hw => by
          rw [List.getElem?_map] at hv hw
          obtain ⟨z, hz, rfl⟩ := Option.map_eq_some_iff.mp hv
          rw [hz] at hw
          cases hw
          exact .txt _⟩
        refine ⟨l5, l6, _, _, _, rfl, rfl, SqL.of (s18 _ _ el5), SqL.of el6, htx _, htx _, by rw [depths_txt]; decide, _, rfl, iteF ?_⟩
        refine ⟨_, rfl, v', r1, rfl, rv'.mono (same_tups' sF), hfit1, by omega, fun l7 us7 H19 hl7 s19 el7 hus7 => ?_⟩
        have sG := sF.trans s19
        refine ⟨_, rfl, v', r1, rfl, rv'.mono (same_tups' sG), hfit1, by omega, fun l8 us8 H20 hl8 s20 el8 hus8 => ?_⟩
        refine ⟨l7, l8, us7, us8, _, rfl, rfl, SqL.of (s20 _ _ el7), SqL.of el8, hus7.mono (same_tups' s20), hus8, kd, _, rfl, iteF ?_⟩
        have sI := sG.trans s20
        exact ⟨_, _, _, _, _, _, rfl, sH.trans sI, sI _ _ e3'⟩
    · obtain ⟨o5, o6, o7, o8, o9, o10, rfl, sH, _⟩ := h
      exact tl _ _ ⟨o5, o6, o7, o8, o9, o10, rfl, sH⟩
end
end D

set_option Elab.async false
set_option linter.all false
set_option maxRecDepth 100000
set_option maxHeartbeats 4000000
namespace D
open PySem L2
theorem none_ok {P : Program} {w : World} {K : PySem.W.Frag} {mg : Str → Option Value} {base : Heap} {f : Addr} {fd : FuncData} {ps : List Str} {sp : Sp} (no : ∀ vs H Q E, ¬ sp vs H Q E) (k : Nat) : FnOk P w K mg base CX0 k f fd ps sp :=
  ⟨fun vs H Q E h => absurd h (no vs H Q E), fun A outer s H args us vs Q E _ _ _ _ h => absurd h (no vs H Q E)⟩
def lvP (L : Nat) : Nat → Nat
  | 0 => L
  | n + 1 => lvP L n + 2
theorem lvP_le (L : Nat) : ∀ n : Nat, L ≤ lvP L n
  | 0 => Nat.le_refl _
  | n + 1 => Nat.le_trans (lvP_le L n) (Nat.le_add_right _ 2)
theorem us_1 {us : List Value} (h : us.length = 1) : ∃ x0, us = [x0] := by
  match us, h with
  | [x0], _ => exact ⟨x0, rfl⟩
theorem us_2 {us : List Value} (h : us.length = 2) : ∃ x0 x1, us = [x0, x1] := by
  match us, h with
  | [x0, x1], _ => exact ⟨x0, x1, rfl⟩
theorem us_3 {us : List Value} (h : us.length = 3) : ∃ x0 x1 x2, us = [x0, x1, x2] := by
  match us, h with
  | [x0, x1, x2], _ => exact ⟨x0, x1, x2, rfl⟩
theorem us_5 {us : List Value} (h : us.length = 5) : ∃ x0 x1 x2 x3 x4, us = [x0, x1, x2, x3, x4] := by
  match us, h with
  | [x0, x1, x2, x3, x4], _ => exact ⟨x0, x1, x2, x3, x4, rfl⟩
theorem us_6 {us : List Value} (h : us.length = 6) : ∃ x0 x1 x2 x3 x4 x5, us = [x0, x1, x2, x3, x4, x5] := by
  match us, h with
  | [x0, x1, x2, x3, x4, x5], _ => exact ⟨x0, x1, x2, x3, x4, x5, rfl⟩
theorem all_mk {l : PySem.W.OpenLaw} {w : World} {K : PySem.W.Frag} {h : Heap} {mg : Str → Option Value} {fa f0 f1 f2 f3 f4 f5 f6 f7 f8 f9 f10 f11 f12 f13 f14 f15 f16 f17 f18 f19 f20 f21 f22 f23 : Addr} (X : K.In h) (G : h.Ns mainGlobals mg) (hfa : mg "law" = some (.ref fa))
    {od0 an0 od1 an1 od2 an2 od3 an3 od4 an4 od5 an5 od6 an6 od7 an7 od8 an8 od9 an9 od10 an10 od11 an11 od12 an12 od13 an13 od14 an14 od15 an15 od16 an16 od17 an17 od18 an18 od19 an19 od20 an20 od21 an21 od22 an22 od23 an23 : Option Addr} {sl0 sl1 sl2 sl3 sl4 sl5 sl6 sl7 sl8 sl9 sl10 sl11 sl12 sl13 sl14 sl15 sl16 sl17 sl18 sl19 sl20 sl21 sl22 sl23 : Array (Option Value)} {oc0 kV0 dc0 pm0 cd0 ct0 oc1 kV1 dc1 pm1 cd1 ct1 oc2 kV2 dc2 pm2 cd2 ct2 oc3 kV3 dc3 pm3 cd3 ct3 oc4 kV4 dc4 pm4 cd4 ct4 oc5 kV5 dc5 pm5 cd5 ct5 oc6 kV6 dc6 pm6 cd6 ct6 oc7 kV7 dc7 pm7 cd7 ct7 oc8 kV8 dc8 pm8 cd8 ct8 oc9 kV9 dc9 pm9 cd9 ct9 oc10 kV10 dc10 pm10 cd10 ct10 oc11 kV11 dc11 pm11 cd11 ct11 oc12 kV12 dc12 pm12 cd12 ct12 oc13 kV13 dc13 pm13 cd13 ct13 oc14 kV14 dc14 pm14 cd14 ct14 oc15 kV15 dc15 pm15 cd15 ct15 oc16 kV16 dc16 pm16 cd16 ct16 oc17 kV17 dc17 pm17 cd17 ct17 oc18 kV18 dc18 pm18 cd18 ct18 oc19 kV19 dc19 pm19 cd19 ct19 oc20 kV20 dc20 pm20 cd20 ct20 oc21 kV21 dc21 pm21 cd21 ct21 oc22 kV22 dc22 pm22 cd22 ct22 oc23 kV23 dc23 pm23 cd23 ct23 : Value}
    (a0 : PySem.W.nsIn K mainGlobals "has_parts" = some (some (.ref f0))) (l0 : K.lookup f0 = some ⟨oc0, od0, .func (PySem.W.fnOf "has_parts" "has_parts" (defArgs s_has_parts) (defBody s_has_parts) (defScope s_has_parts) .none kV0 dc0 pm0 an0 cd0 ct0), sl0⟩) (c0 : PySem.W.codeIn K cd0 "has_parts" = true) (k0 : PySem.W.keepIn K (.ref f0) = true)
    (a1 : PySem.W.nsIn K mainGlobals "binding_count" = some (some (.ref f1))) (l1 : K.lookup f1 = some ⟨oc1, od1, .func (PySem.W.fnOf "binding_count" "binding_count" (defArgs s_binding_count) (defBody s_binding_count) (defScope s_binding_count) .none kV1 dc1 pm1 an1 cd1 ct1), sl1⟩) (c1 : PySem.W.codeIn K cd1 "binding_count" = true) (k1 : PySem.W.keepIn K (.ref f1) = true)
    (a2 : PySem.W.nsIn K mainGlobals "variables_of" = some (some (.ref f2))) (l2 : K.lookup f2 = some ⟨oc2, od2, .func (PySem.W.fnOf "variables_of" "variables_of" (defArgs s_variables_of) (defBody s_variables_of) (defScope s_variables_of) .none kV2 dc2 pm2 an2 cd2 ct2), sl2⟩) (c2 : PySem.W.codeIn K cd2 "variables_of" = true) (k2 : PySem.W.keepIn K (.ref f2) = true)
    (a3 : PySem.W.nsIn K mainGlobals "parts_of" = some (some (.ref f3))) (l3 : K.lookup f3 = some ⟨oc3, od3, .func (PySem.W.fnOf "parts_of" "parts_of" (defArgs s_parts_of) (defBody s_parts_of) (defScope s_parts_of) .none kV3 dc3 pm3 an3 cd3 ct3), sl3⟩) (c3 : PySem.W.codeIn K cd3 "parts_of" = true) (k3 : PySem.W.keepIn K (.ref f3) = true)
    (a4 : PySem.W.nsIn K mainGlobals "many" = some (some (.ref f4))) (l4 : K.lookup f4 = some ⟨oc4, od4, .func (PySem.W.fnOf "many" "many" (defArgs s_many) (defBody s_many) (defScope s_many) .none kV4 dc4 pm4 an4 cd4 ct4), sl4⟩) (c4 : PySem.W.codeIn K cd4 "many" = true) (k4 : PySem.W.keepIn K (.ref f4) = true)
    (a5 : PySem.W.nsIn K mainGlobals "nesting" = some (some (.ref f5))) (l5 : K.lookup f5 = some ⟨oc5, od5, .func (PySem.W.fnOf "nesting" "nesting" (defArgs s_nesting) (defBody s_nesting) (defScope s_nesting) .none kV5 dc5 pm5 an5 cd5 ct5), sl5⟩) (c5 : PySem.W.codeIn K cd5 "nesting" = true) (k5 : PySem.W.keepIn K (.ref f5) = true)
    (a6 : PySem.W.nsIn K mainGlobals "unbound" = some (some (.ref f6))) (l6 : K.lookup f6 = some ⟨oc6, od6, .func (PySem.W.fnOf "unbound" "unbound" (defArgs s_unbound) (defBody s_unbound) (defScope s_unbound) .none kV6 dc6 pm6 an6 cd6 ct6), sl6⟩) (c6 : PySem.W.codeIn K cd6 "unbound" = true) (k6 : PySem.W.keepIn K (.ref f6) = true)
    (a7 : PySem.W.nsIn K mainGlobals "free_in" = some (some (.ref f7))) (l7 : K.lookup f7 = some ⟨oc7, od7, .func (PySem.W.fnOf "free_in" "free_in" (defArgs s_free_in) (defBody s_free_in) (defScope s_free_in) .none kV7 dc7 pm7 an7 cd7 ct7), sl7⟩) (c7 : PySem.W.codeIn K cd7 "free_in" = true) (k7 : PySem.W.keepIn K (.ref f7) = true)
    (a8 : PySem.W.nsIn K mainGlobals "_law_cell" = some (some (.ref f8))) (l8 : K.lookup f8 = some ⟨oc8, od8, .func (PySem.W.fnOf "_law_cell" "_law_cell" (defArgs sCell) (defBody sCell) (defScope sCell) .none kV8 dc8 pm8 an8 cd8 ct8), sl8⟩) (c8 : PySem.W.codeIn K cd8 "_law_cell" = true) (k8 : PySem.W.keepIn K (.ref f8) = true)
    (a9 : PySem.W.nsIn K mainGlobals "_law_box" = some (some (.ref f9))) (l9 : K.lookup f9 = some ⟨oc9, od9, .func (PySem.W.fnOf "_law_box" "_law_box" (defArgs sBox) (defBody sBox) (defScope sBox) .none kV9 dc9 pm9 an9 cd9 ct9), sl9⟩) (c9 : PySem.W.codeIn K cd9 "_law_box" = true) (k9 : PySem.W.keepIn K (.ref f9) = true)
    (a10 : PySem.W.nsIn K mainGlobals "_law_take" = some (some (.ref f10))) (l10 : K.lookup f10 = some ⟨oc10, od10, .func (PySem.W.fnOf "_law_take" "_law_take" (defArgs sTake) (defBody sTake) (defScope sTake) .none kV10 dc10 pm10 an10 cd10 ct10), sl10⟩) (c10 : PySem.W.codeIn K cd10 "_law_take" = true) (k10 : PySem.W.keepIn K (.ref f10) = true)
    (a11 : PySem.W.nsIn K mainGlobals "_law_text" = some (some (.ref f11))) (l11 : K.lookup f11 = some ⟨oc11, od11, .func (PySem.W.fnOf "_law_text" "_law_text" (defArgs sText) (defBody sText) (defScope sText) .none kV11 dc11 pm11 an11 cd11 ct11), sl11⟩) (c11 : PySem.W.codeIn K cd11 "_law_text" = true) (k11 : PySem.W.keepIn K (.ref f11) = true)
    (a12 : PySem.W.nsIn K mainGlobals "_law_number" = some (some (.ref f12))) (l12 : K.lookup f12 = some ⟨oc12, od12, .func (PySem.W.fnOf "_law_number" "_law_number" (defArgs sNumber) (defBody sNumber) (defScope sNumber) .none kV12 dc12 pm12 an12 cd12 ct12), sl12⟩) (c12 : PySem.W.codeIn K cd12 "_law_number" = true) (k12 : PySem.W.keepIn K (.ref f12) = true)
    (a13 : PySem.W.nsIn K mainGlobals "_law_worth" = some (some (.ref f13))) (l13 : K.lookup f13 = some ⟨oc13, od13, .func (PySem.W.fnOf "_law_worth" "_law_worth" (defArgs sWorth) (defBody sWorth) (defScope sWorth) .none kV13 dc13 pm13 an13 cd13 ct13), sl13⟩) (c13 : PySem.W.codeIn K cd13 "_law_worth" = true) (k13 : PySem.W.keepIn K (.ref f13) = true)
    (a14 : PySem.W.nsIn K mainGlobals "_law_variable" = some (some (.ref f14))) (l14 : K.lookup f14 = some ⟨oc14, od14, .func (PySem.W.fnOf "_law_variable" "_law_variable" (defArgs s_lvariable) (defBody s_lvariable) (defScope s_lvariable) .none kV14 dc14 pm14 an14 cd14 ct14), sl14⟩) (c14 : PySem.W.codeIn K cd14 "_law_variable" = true) (k14 : PySem.W.keepIn K (.ref f14) = true)
    (a15 : PySem.W.nsIn K mainGlobals "_law_lit" = some (some (.ref f15))) (l15 : K.lookup f15 = some ⟨oc15, od15, .func (PySem.W.fnOf "_law_lit" "_law_lit" (defArgs s_llit) (defBody s_llit) (defScope s_llit) .none kV15 dc15 pm15 an15 cd15 ct15), sl15⟩) (c15 : PySem.W.codeIn K cd15 "_law_lit" = true) (k15 : PySem.W.keepIn K (.ref f15) = true)
    (a16 : PySem.W.nsIn K mainGlobals "_law_word" = some (some (.ref f16))) (l16 : K.lookup f16 = some ⟨oc16, od16, .func (PySem.W.fnOf "_law_word" "_law_word" (defArgs s_lword) (defBody s_lword) (defScope s_lword) .none kV16 dc16 pm16 an16 cd16 ct16), sl16⟩) (c16 : PySem.W.codeIn K cd16 "_law_word" = true) (k16 : PySem.W.keepIn K (.ref f16) = true)
    (a17 : PySem.W.nsIn K mainGlobals "_law_parts_by" = some (some (.ref f17))) (l17 : K.lookup f17 = some ⟨oc17, od17, .func (PySem.W.fnOf "_law_parts_by" "_law_parts_by" (defArgs s_lparts_by) (defBody s_lparts_by) (defScope s_lparts_by) .none kV17 dc17 pm17 an17 cd17 ct17), sl17⟩) (c17 : PySem.W.codeIn K cd17 "_law_parts_by" = true) (k17 : PySem.W.keepIn K (.ref f17) = true)
    (a18 : PySem.W.nsIn K mainGlobals "_law_any" = some (some (.ref f18))) (l18 : K.lookup f18 = some ⟨oc18, od18, .func (PySem.W.fnOf "_law_any" "_law_any" (defArgs s_lany) (defBody s_lany) (defScope s_lany) .none kV18 dc18 pm18 an18 cd18 ct18), sl18⟩) (c18 : PySem.W.codeIn K cd18 "_law_any" = true) (k18 : PySem.W.keepIn K (.ref f18) = true)
    (a19 : PySem.W.nsIn K mainGlobals "_law_all" = some (some (.ref f19))) (l19 : K.lookup f19 = some ⟨oc19, od19, .func (PySem.W.fnOf "_law_all" "_law_all" (defArgs s_lall) (defBody s_lall) (defScope s_lall) .none kV19 dc19 pm19 an19 cd19 ct19), sl19⟩) (c19 : PySem.W.codeIn K cd19 "_law_all" = true) (k19 : PySem.W.keepIn K (.ref f19) = true)
    (a20 : PySem.W.nsIn K mainGlobals "_law_right_within" = some (some (.ref f20))) (l20 : K.lookup f20 = some ⟨oc20, od20, .func (PySem.W.fnOf "_law_right_within" "_law_right_within" (defArgs s_lright_within) (defBody s_lright_within) (defScope s_lright_within) .none kV20 dc20 pm20 an20 cd20 ct20), sl20⟩) (c20 : PySem.W.codeIn K cd20 "_law_right_within" = true) (k20 : PySem.W.keepIn K (.ref f20) = true)
    (a21 : PySem.W.nsIn K mainGlobals "_law_whole" = some (some (.ref f21))) (l21 : K.lookup f21 = some ⟨oc21, od21, .func (PySem.W.fnOf "_law_whole" "_law_whole" (defArgs s_lwhole) (defBody s_lwhole) (defScope s_lwhole) .none kV21 dc21 pm21 an21 cd21 ct21), sl21⟩) (c21 : PySem.W.codeIn K cd21 "_law_whole" = true) (k21 : PySem.W.keepIn K (.ref f21) = true)
    (a22 : PySem.W.nsIn K mainGlobals "_law_unbound" = some (some (.ref f22))) (l22 : K.lookup f22 = some ⟨oc22, od22, .func (PySem.W.fnOf "_law_unbound" "_law_unbound" (defArgs s_lunbound) (defBody s_lunbound) (defScope s_lunbound) .none kV22 dc22 pm22 an22 cd22 ct22), sl22⟩) (c22 : PySem.W.codeIn K cd22 "_law_unbound" = true) (k22 : PySem.W.keepIn K (.ref f22) = true)
    (a23 : PySem.W.nsIn K mainGlobals "law" = some (some (.ref f23))) (l23 : K.lookup f23 = some ⟨oc23, od23, .func (PySem.W.fnOf "law" "law" (defArgs sLaw) (defBody sLaw) (defScope sLaw) .none kV23 dc23 pm23 an23 cd23 ct23), sl23⟩) (c23 : PySem.W.codeIn K cd23 "law" = true) (k23 : PySem.W.keepIn K (.ref f23) = true)
    (z0 : PySem.W.nsIn K mainGlobals "list" = some none)
    (z1 : PySem.W.nsIn K mainGlobals "sum" = some none)
    (z2 : PySem.W.nsIn K mainGlobals "max" = some none)
    (z3 : PySem.W.nsIn K mainGlobals "enumerate" = some none)
    (z4 : PySem.W.nsIn K mainGlobals "len" = some none)
    (z5 : PySem.W.nsIn K mainGlobals "set" = some none)
    (z6 : PySem.W.nsIn K mainGlobals "sorted" = some none)
    (z7 : PySem.W.nsIn K mainGlobals "range" = some none)
    (z8 : PySem.W.nsIn K mainGlobals "min" = some none)
    (z9 : PySem.W.nsIn K mainGlobals "tuple" = some none)
    (z10 : PySem.W.nsIn K mainGlobals "int" = some none)
    (z11 : PySem.W.nsIn K mainGlobals "isinstance" = some none)
    (z12 : PySem.W.nsIn K mainGlobals "bool" = some none)
    {dg0 : Addr} {dn0 : Nat} {du0_0 dv0_0 du0_1 dv0_1 du0_2 dv0_2 : Tok} (dy0 : PySem.W.nsIn K mainGlobals "BINDING" = some (some (.ref dg0))) (dx0 : K.lookup dg0 = some ⟨.type "dict", none, .dict #[⟨hashStr w "let", .str "let" du0_0, .int 1 dv0_0⟩, ⟨hashStr w "each", .str "each" du0_1, .int 1 dv0_1⟩, ⟨hashStr w "over", .str "over" du0_2, .int 2 dv0_2⟩] dn0, #[]⟩) (dz0 : (dg0 == sysModules) = false)
    {dg1 : Addr} {dn1 : Nat} {du1_0 dv1_0 du1_1 dv1_1 du1_2 dv1_2 du1_3 dv1_3 du1_4 dv1_4 du1_5 dv1_5 du1_6 dv1_6 du1_7 dv1_7 du1_8 dv1_8 du1_9 dv1_9 du1_10 dv1_10 du1_11 dv1_11 du1_12 dv1_12 du1_13 dv1_13 du1_14 dv1_14 du1_15 dv1_15 du1_16 dv1_16 : Tok} (dy1 : PySem.W.nsIn K mainGlobals "PARTS" = some (some (.ref dg1))) (dx1 : K.lookup dg1 = some ⟨.type "dict", none, .dict #[⟨hashStr w "let", .str "let" du1_0, .int 2 dv1_0⟩, ⟨hashStr w "if", .str "if" du1_1, .int 3 dv1_1⟩, ⟨hashStr w "+", .str "+" du1_2, .int 2 dv1_2⟩, ⟨hashStr w "-", .str "-" du1_3, .int 2 dv1_3⟩, ⟨hashStr w "*", .str "*" du1_4, .int 2 dv1_4⟩, ⟨hashStr w "/", .str "/" du1_5, .int 2 dv1_5⟩, ⟨hashStr w "same", .str "same" du1_6, .int 2 dv1_6⟩, ⟨hashStr w "less", .str "less" du1_7, .int 2 dv1_7⟩, ⟨hashStr w "join", .str "join" du1_8, .int 2 dv1_8⟩, ⟨hashStr w "item", .str "item" du1_9, .int 2 dv1_9⟩, ⟨hashStr w "count", .str "count" du1_10, .int 1 dv1_10⟩, ⟨hashStr w "figures", .str "figures" du1_11, .int 1 dv1_11⟩, ⟨hashStr w "each", .str "each" du1_12, .int 2 dv1_12⟩, ⟨hashStr w "over", .str "over" du1_13, .int 3 dv1_13⟩, ⟨hashStr w "look", .str "look" du1_14, .int 1 dv1_14⟩, ⟨hashStr w "else", .str "else" du1_15, .int 2 dv1_15⟩, ⟨hashStr w "cry", .str "cry" du1_16, .int 1 dv1_16⟩] dn1, #[]⟩) (dz1 : (dg1 == sysModules) = false)
    : ∃ fd : FuncData, (∀ (s : Shared) (v : Value), BindsTo s fd ⟨[v], []⟩ [("_law_script", v)]) ∧ ∀ base : Heap, K.In base → base.Ns mainGlobals mg → FnOk l.prog w K mg base CX0 80 fa fd ["_law_script"] (spLaw K) := by
  have e := hfa.symm.trans (PySem.W.mg_of X G a23)
  cases e
  have F0 := fun_mk (st := s_has_parts) l0 c0 k0
  have b0 := F0.binds (ps := ["word"]) fun _ _ _ _ _ _ us hl => by obtain ⟨_, rfl⟩ := us_1 hl; rfl
  have n0 := PySem.W.mg_of X G a0
  have F1 := fun_mk (st := s_binding_count) l1 c1 k1
  have b1 := F1.binds (ps := ["word"]) fun _ _ _ _ _ _ us hl => by obtain ⟨_, rfl⟩ := us_1 hl; rfl
  have n1 := PySem.W.mg_of X G a1
  have F2 := fun_mk (st := s_variables_of) l2 c2 k2
  have b2 := F2.binds (ps := ["expression"]) fun _ _ _ _ _ _ us hl => by obtain ⟨_, rfl⟩ := us_1 hl; rfl
  have n2 := PySem.W.mg_of X G a2
  have F3 := fun_mk (st := s_parts_of) l3 c3 k3
  have b3 := F3.binds (ps := ["expression"]) fun _ _ _ _ _ _ us hl => by obtain ⟨_, rfl⟩ := us_1 hl; rfl
  have n3 := PySem.W.mg_of X G a3
  have F4 := fun_mk (st := s_many) l4 c4 k4
  have b4 := F4.binds (ps := ["expression"]) fun _ _ _ _ _ _ us hl => by obtain ⟨_, rfl⟩ := us_1 hl; rfl
  have n4 := PySem.W.mg_of X G a4
  have F5 := fun_mk (st := s_nesting) l5 c5 k5
  have b5 := F5.binds (ps := ["expression"]) fun _ _ _ _ _ _ us hl => by obtain ⟨_, rfl⟩ := us_1 hl; rfl
  have n5 := PySem.W.mg_of X G a5
  have F6 := fun_mk (st := s_unbound) l6 c6 k6
  have b6 := F6.binds (ps := ["expression", "bound"]) fun _ _ _ _ _ _ us hl => by obtain ⟨_, _, rfl⟩ := us_2 hl; rfl
  have n6 := PySem.W.mg_of X G a6
  have F7 := fun_mk (st := s_free_in) l7 c7 k7
  have b7 := F7.binds (ps := ["expression"]) fun _ _ _ _ _ _ us hl => by obtain ⟨_, rfl⟩ := us_1 hl; rfl
  have n7 := PySem.W.mg_of X G a7
  have F8 := fun_mk (st := sCell) l8 c8 k8
  have b8 := F8.binds (ps := ["_law_script", "_law_k"]) fun _ _ _ _ _ _ us hl => by obtain ⟨_, _, rfl⟩ := us_2 hl; rfl
  have n8 := PySem.W.mg_of X G a8
  have F9 := fun_mk (st := sBox) l9 c9 k9
  have b9 := F9.binds (ps := ["_law_script", "_law_k"]) fun _ _ _ _ _ _ us hl => by obtain ⟨_, _, rfl⟩ := us_2 hl; rfl
  have n9 := PySem.W.mg_of X G a9
  have F10 := fun_mk (st := sTake) l10 c10 k10
  have b10 := F10.binds (ps := ["_law_box_here", "_law_wide"]) fun _ _ _ _ _ _ us hl => by obtain ⟨_, _, rfl⟩ := us_2 hl; rfl
  have n10 := PySem.W.mg_of X G a10
  have F11 := fun_mk (st := sText) l11 c11 k11
  have b11 := F11.binds (ps := ["_law_box_here", "_law_most"]) fun _ _ _ _ _ _ us hl => by obtain ⟨_, _, rfl⟩ := us_2 hl; rfl
  have n11 := PySem.W.mg_of X G a11
  have F12 := fun_mk (st := sNumber) l12 c12 k12
  have b12 := F12.binds (ps := ["_law_box_here"]) fun _ _ _ _ _ _ us hl => by obtain ⟨_, rfl⟩ := us_1 hl; rfl
  have n12 := PySem.W.mg_of X G a12
  have F13 := fun_mk (st := sWorth) l13 c13 k13
  have b13 := F13.binds (ps := ["_law_box_here", "_law_room", "_law_deep"]) fun _ _ _ _ _ _ us hl => by obtain ⟨_, _, _, rfl⟩ := us_3 hl; rfl
  have n13 := PySem.W.mg_of X G a13
  have F14 := fun_mk (st := s_lvariable) l14 c14 k14
  have b14 := F14.binds (ps := ["_law_box_here"]) fun _ _ _ _ _ _ us hl => by obtain ⟨_, rfl⟩ := us_1 hl; rfl
  have n14 := PySem.W.mg_of X G a14
  have F15 := fun_mk (st := s_llit) l15 c15 k15
  have b15 := F15.binds (ps := ["_law_box_here", "_law_names"]) fun _ _ _ _ _ _ us hl => by obtain ⟨_, _, rfl⟩ := us_2 hl; rfl
  have n15 := PySem.W.mg_of X G a15
  have F16 := fun_mk (st := s_lword) l16 c16 k16
  have b16 := F16.binds (ps := ["_law_box_here", "_law_scope", "_law_spare", "_law_floors", "_law_rounds"]) fun _ _ _ _ _ _ us hl => by obtain ⟨_, _, _, _, _, rfl⟩ := us_5 hl; rfl
  have n16 := PySem.W.mg_of X G a16
  have F17 := fun_mk (st := s_lparts_by) l17 c17 k17
  have b17 := F17.binds (ps := ["_law_box_here", "_law_scopes", "_law_names", "_law_spare", "_law_floors", "_law_rounds"]) fun _ _ _ _ _ _ us hl => by obtain ⟨_, _, _, _, _, _, rfl⟩ := us_6 hl; rfl
  have n17 := PySem.W.mg_of X G a17
  have F18 := fun_mk (st := s_lany) l18 c18 k18
  have b18 := F18.binds (ps := ["_law_box_here", "_law_scope", "_law_names", "_law_spare", "_law_floors", "_law_rounds"]) fun _ _ _ _ _ _ us hl => by obtain ⟨_, _, _, _, _, _, rfl⟩ := us_6 hl; rfl
  have n18 := PySem.W.mg_of X G a18
  have F19 := fun_mk (st := s_lall) l19 c19 k19
  have b19 := F19.binds (ps := ["_law_rule"]) fun _ _ _ _ _ _ us hl => by obtain ⟨_, rfl⟩ := us_1 hl; rfl
  have n19 := PySem.W.mg_of X G a19
  have F20 := fun_mk (st := s_lright_within) l20 c20 k20
  have b20 := F20.binds (ps := ["_law_one"]) fun _ _ _ _ _ _ us hl => by obtain ⟨_, rfl⟩ := us_1 hl; rfl
  have n20 := PySem.W.mg_of X G a20
  have F21 := fun_mk (st := s_lwhole) l21 c21 k21
  have b21 := F21.binds (ps := ["_law_found", "_law_due"]) fun _ _ _ _ _ _ us hl => by obtain ⟨_, _, rfl⟩ := us_2 hl; rfl
  have n21 := PySem.W.mg_of X G a21
  have F22 := fun_mk (st := s_lunbound) l22 c22 k22
  have b22 := F22.binds (ps := ["_law_one"]) fun _ _ _ _ _ _ us hl => by obtain ⟨_, rfl⟩ := us_1 hl; rfl
  have n22 := PySem.W.mg_of X G a22
  have F23 := fun_mk (st := sLaw) l23 c23 k23
  have m_list := PySem.W.mg_none_of X G z0
  have m_sum := PySem.W.mg_none_of X G z1
  have m_max := PySem.W.mg_none_of X G z2
  have m_enumerate := PySem.W.mg_none_of X G z3
  have m_len := PySem.W.mg_none_of X G z4
  have m_set := PySem.W.mg_none_of X G z5
  have m_sorted := PySem.W.mg_none_of X G z6
  have m_range := PySem.W.mg_none_of X G z7
  have m_min := PySem.W.mg_none_of X G z8
  have m_tuple := PySem.W.mg_none_of X G z9
  have m_int := PySem.W.mg_none_of X G z10
  have m_isinstance := PySem.W.mg_none_of X G z11
  have m_bool := PySem.W.mg_none_of X G z12
  have m_BINDING := PySem.W.mg_of X G dy0
  have d_BINDING : MD l.prog w K dg0 (kvsB ) := md_of [("let", du0_0, .int 1, .int 1 dv0_0), ("each", du0_1, .int 1, .int 1 dv0_1), ("over", du0_2, .int 2, .int 2 dv0_2)] dx0 dz0 (fun p hp => by simp only [List.mem_cons, List.not_mem_nil, or_false] at hp; rcases hp with rfl | rfl | rfl <;> first | exact rfl | exact ⟨_, rfl⟩) (by show (["let", "each", "over"] : List Str).Nodup; decide +kernel)
  have m_PARTS := PySem.W.mg_of X G dy1
  have d_PARTS : MD l.prog w K dg1 (kvsP ) := md_of [("let", du1_0, .int 2, .int 2 dv1_0), ("if", du1_1, .int 3, .int 3 dv1_1), ("+", du1_2, .int 2, .int 2 dv1_2), ("-", du1_3, .int 2, .int 2 dv1_3), ("*", du1_4, .int 2, .int 2 dv1_4), ("/", du1_5, .int 2, .int 2 dv1_5), ("same", du1_6, .int 2, .int 2 dv1_6), ("less", du1_7, .int 2, .int 2 dv1_7), ("join", du1_8, .int 2, .int 2 dv1_8), ("item", du1_9, .int 2, .int 2 dv1_9), ("count", du1_10, .int 1, .int 1 dv1_10), ("figures", du1_11, .int 1, .int 1 dv1_11), ("each", du1_12, .int 2, .int 2 dv1_12), ("over", du1_13, .int 3, .int 3 dv1_13), ("look", du1_14, .int 1, .int 1 dv1_14), ("else", du1_15, .int 2, .int 2 dv1_15), ("cry", du1_16, .int 1, .int 1 dv1_16)] dx1 dz1 (fun p hp => by simp only [List.mem_cons, List.not_mem_nil, or_false] at hp; rcases hp with rfl | rfl | rfl | rfl | rfl | rfl | rfl | rfl | rfl | rfl | rfl | rfl | rfl | rfl | rfl | rfl | rfl <;> first | exact rfl | exact ⟨_, rfl⟩) (by show (["let", "if", "+", "-", "*", "/", "same", "less", "join", "item", "count", "figures", "each", "over", "look", "else", "cry"] : List Str).Nodup; decide +kernel)
  refine ⟨PySem.W.fnOf "law" "law" (defArgs sLaw) (defBody sLaw) (defScope sLaw) .none kV23 dc23 pm23 an23 cd23 ct23, fun s v => .of_eq rfl, fun base _ _ => ?_⟩
  have h_has_parts : Have l.prog w K mg base "has_parts" 1 ["word"] (spHasParts) := ⟨_, _, (ok_has_parts F0 m_PARTS d_PARTS : FnOk l.prog w K mg base CX0 (0 + 1) _ _ _ _), b0, k0, n0⟩
  have h_binding_count : Have l.prog w K mg base "binding_count" 1 ["word"] (spBCount) := ⟨_, _, (ok_binding_count F1 m_BINDING d_BINDING : FnOk l.prog w K mg base CX0 (0 + 1) _ _ _ _), b1, k1, n1⟩
  have h_variables_of : Have l.prog w K mg base "variables_of" 2 ["expression"] (spVarsOf) := ⟨_, _, (ok_variables_of F2 (h_binding_count.mono (by omega)) : FnOk l.prog w K mg base CX0 (1 + 1) _ _ _ _), b2, k2, n2⟩
  have h_parts_of : Have l.prog w K mg base "parts_of" 2 ["expression"] (spPartsOf) := ⟨_, _, (ok_parts_of F3 (h_binding_count.mono (by omega)) (h_has_parts.mono (by omega)) m_list : FnOk l.prog w K mg base CX0 (1 + 1) _ _ _ _), b3, k3, n3⟩
  have h_many : ∀ n : Nat, Have l.prog w K mg base "many" (n + 3) ["expression"] (spMany n) := fun n => by
    induction n with
    | zero => exact ⟨_, _, none_ok (fun vs H Q E h => by obtain ⟨_, _, _, _, _, _, h0, _⟩ := h; omega) _, b4, k4, n4⟩
    | succ n ih => exact ⟨_, _, ok_many F4 (h_parts_of.mono (by omega)) ih m_sum, b4, k4, n4⟩
  have h_nesting : ∀ n : Nat, Have l.prog w K mg base "nesting" (n + 3) ["expression"] (spNest n) := fun n => by
    induction n with
    | zero => exact ⟨_, _, none_ok (fun vs H Q E h => by obtain ⟨_, _, _, _, _, _, h0, _⟩ := h; omega) _, b5, k5, n5⟩
    | succ n ih => exact ⟨_, _, ok_nesting F5 (h_parts_of.mono (by omega)) ih m_max, b5, k5, n5⟩
  have h_unbound : ∀ n : Nat, Have l.prog w K mg base "unbound" (n + 3) ["expression", "bound"] (spUnb n) := fun n => by
    induction n with
    | zero => exact ⟨_, _, none_ok (fun vs H Q E h => by obtain ⟨_, _, _, _, _, _, _, _, h0, _⟩ := h; omega) _, b6, k6, n6⟩
    | succ n ih => exact ⟨_, _, ok_unbound F6 ih (h_variables_of.mono (by omega)) (h_parts_of.mono (by omega)) m_enumerate m_len, b6, k6, n6⟩
  have h_free_in : Have l.prog w K mg base "free_in" 24 ["expression"] (spFree) := ⟨_, _, (ok_free_in F7 ((h_unbound 20).mono (by omega)) m_set m_sorted : FnOk l.prog w K mg base CX0 (23 + 1) _ _ _ _), b7, k7, n7⟩
  have h_lcell : Have l.prog w K mg base "_law_cell" 1 ["_law_script", "_law_k"] (spCell K) := ⟨_, _, (ok_cell F8 m_len : FnOk l.prog w K mg base CX0 (0 + 1) _ _ _ _), b8, k8, n8⟩
  have h_lbox : Have l.prog w K mg base "_law_box" 2 ["_law_script", "_law_k"] (spBox K) := ⟨_, _, (ok_box F9 (h_lcell.mono (by omega)) : FnOk l.prog w K mg base CX0 (1 + 1) _ _ _ _), b9, k9, n9⟩
  have h_ltake : Have l.prog w K mg base "_law_take" 1 ["_law_box_here", "_law_wide"] (spTake) := ⟨_, _, (ok_take F10  : FnOk l.prog w K mg base CX0 (0 + 1) _ _ _ _), b10, k10, n10⟩
  have h_ltext : Have l.prog w K mg base "_law_text" 2 ["_law_box_here", "_law_most"] (spText) := ⟨_, _, (ok_text F11 (h_ltake.mono (by omega)) m_len m_range : FnOk l.prog w K mg base CX0 (1 + 1) _ _ _ _), b11, k11, n11⟩
  have h_lnumber : Have l.prog w K mg base "_law_number" 2 ["_law_box_here"] (spNumber) := ⟨_, _, (ok_number F12 (h_ltake.mono (by omega)) : FnOk l.prog w K mg base CX0 (1 + 1) _ _ _ _), b12, k12, n12⟩
  have h_lworth : ∀ n : Nat, Have l.prog w K mg base "_law_worth" (n + 3) ["_law_box_here", "_law_room", "_law_deep"] (spWorth n) := fun n => by
    induction n with
    | zero => exact ⟨_, _, none_ok (fun vs H Q E h => by obtain ⟨b, room, deep, _, _, _, _, h0, h1, _⟩ := h; omega) _, b13, k13, n13⟩
    | succ n ih => exact ⟨_, _, ok_worth F13 (h_ltake.mono (by omega)) (h_ltext.mono (by omega)) (h_lnumber.mono (by omega)) ih m_min m_range m_tuple, b13, k13, n13⟩
  have h_lvariable : Have l.prog w K mg base "_law_variable" 2 ["_law_box_here"] (spVar) := ⟨_, _, (ok_lvariable F14 (h_ltake.mono (by omega)) m_range : FnOk l.prog w K mg base CX0 (1 + 1) _ _ _ _), b14, k14, n14⟩
  have h_llit : Have l.prog w K mg base "_law_lit" 17 ["_law_box_here", "_law_names"] (spLit) := ⟨_, _, (ok_llit F15 ((h_lworth 13).mono (by omega)) (h_ltake.mono (by omega)) m_len : FnOk l.prog w K mg base CX0 (16 + 1) _ _ _ _), b15, k15, n15⟩
  have h_lword : Have l.prog w K mg base "_law_word" 2 ["_law_box_here", "_law_scope", "_law_spare", "_law_floors", "_law_rounds"] (spWord) := ⟨_, _, (ok_lword F16 (h_ltake.mono (by omega)) m_int : FnOk l.prog w K mg base CX0 (1 + 1) _ _ _ _), b16, k16, n16⟩
  have h_pair : ∀ n : Nat, Have l.prog w K mg base "_law_any" (lvP 18 n) ["_law_box_here", "_law_scope", "_law_names", "_law_spare", "_law_floors", "_law_rounds"] (spAny n) ∧ Have l.prog w K mg base "_law_parts_by" (lvP 18 n + 1) ["_law_box_here", "_law_scopes", "_law_names", "_law_spare", "_law_floors", "_law_rounds"] (spPartsBy n) := fun n => by
    induction n with
    | zero =>
      have A0 : Have l.prog w K mg base "_law_any" (lvP 18 0) ["_law_box_here", "_law_scope", "_law_names", "_law_spare", "_law_floors", "_law_rounds"] (spAny 0) := ⟨_, _, none_ok (fun vs H Q E h => by obtain ⟨_, _, _, _, _, _, _, _, _, _, _, _, _, _, _, _, h0, h1, _⟩ := h; omega) _, b18, k18, n18⟩
      exact ⟨A0, _, _, ok_lparts_by F17 A0 m_enumerate m_len m_tuple, b17, k17, n17⟩
    | succ n ih =>
      have A1 : Have l.prog w K mg base "_law_any" (lvP 18 (n + 1)) ["_law_box_here", "_law_scope", "_law_names", "_law_spare", "_law_floors", "_law_rounds"] (spAny (n + 1)) := ⟨_, _, ok_lany F18 ih.2 (h_lvariable.mono (Nat.le_trans (by decide) (Nat.le_succ_of_le (lvP_le 18 n)))) (h_ltake.mono (Nat.le_trans (by decide) (Nat.le_succ_of_le (lvP_le 18 n)))) (h_llit.mono (Nat.le_trans (by decide) (Nat.le_succ_of_le (lvP_le 18 n)))) (h_lword.mono (Nat.le_trans (by decide) (Nat.le_succ_of_le (lvP_le 18 n)))) m_int m_len m_list m_min, b18, k18, n18⟩
      exact ⟨A1, _, _, ok_lparts_by F17 A1 m_enumerate m_len m_tuple, b17, k17, n17⟩
  have h_lall : Have l.prog w K mg base "_law_all" 1 ["_law_rule"] (spAll) := ⟨_, _, (ok_lall F19 m_int m_len m_list m_range : FnOk l.prog w K mg base CX0 (0 + 1) _ _ _ _), b19, k19, n19⟩
  have h_lright_within : Have l.prog w K mg base "_law_right_within" 1 ["_law_one"] (spPartsOf) := ⟨_, _, (ok_lright_within F20 m_isinstance m_tuple : FnOk l.prog w K mg base CX0 (0 + 1) _ _ _ _), b20, k20, n20⟩
  have h_lwhole : Have l.prog w K mg base "_law_whole" 1 ["_law_found", "_law_due"] (spWhole) := ⟨_, _, (ok_lwhole F21 m_bool m_int m_isinstance : FnOk l.prog w K mg base CX0 (0 + 1) _ _ _ _), b21, k21, n21⟩
  have h_lunbound : Have l.prog w K mg base "_law_unbound" 2 ["_law_one"] (spUnbL) := ⟨_, _, (ok_lunbound F22 (h_lall.mono (by omega)) m_sorted : FnOk l.prog w K mg base CX0 (1 + 1) _ _ _ _), b22, k22, n22⟩
  exact (ok_law F23 (h_free_in.mono (by omega)) (h_parts_of.mono (by omega)) (h_lright_within.mono (by omega)) (h_lunbound.mono (by omega)) (h_lwhole.mono (by omega)) ((h_nesting 20).mono (by omega)) ((h_many 20).mono (by omega)) (h_lall.mono (by omega)) (h_ltake.mono (by omega)) ((h_pair 13).1.mono (by decide)) (h_lbox.mono (by omega)) m_isinstance m_len m_list m_max : FnOk l.prog w K mg base CX0 (79 + 1) _ _ _ _)
theorem walk_all {l : PySem.W.OpenLaw} {q : Program} {loose : List Str} {XP : (Str → Option Value) → Heap → Prop} {YP : World → Heap → Prop} {d : DefRec} {K : Params → PySem.W.Frag} (hn : l.most = some 63) (hdf : d.params.defaults = [])
    (hY : ∀ (w : World) (h : Heap), YP w h → (K w.params).In h)
    (F : ∀ (w : World) (mg : Str → Option Value) (fa : Addr) (h : Heap), (K w.params).In h → h.Ns mainGlobals mg → mg d.name = some (.ref fa) →
      ∃ fd : FuncData, (∀ (s : Shared) (u : Value), BindsTo s fd ⟨[u], []⟩ [("_law_script", u)]) ∧ ∀ base : Heap, (K w.params).In base → base.Ns mainGlobals mg → FnOk l.prog w (K w.params) mg base CX0 80 fa fd ["_law_script"] (spLaw (K w.params))) :
    PySem.W.WalkO q loose XP YP l.row.toRowW d [] (fun f vs => PySem.call f vs) :=
  L2.walk_of (n := 63) (k := 80) (x := "_law_script") (CX := fun _ => CX0) (sp := fun w => spLaw (K w.params)) hn (by decide) hdf ⟨rfl, by decide, by decide⟩ hY F (fun _ _ a ns hl _ hS => ⟨a, ns, rfl, hS, hl, fun _ => rfl⟩) fun _ _ _ _ _ z => z
end D
open PySem PySem.W PyProof.Rows
set_option maxRecDepth 100000 in
set_option maxHeartbeats 0 in
theorem PySem.Challenge.cw_leastforge_k07_parts_and_variables_holds : PySem.Challenge.rw_leastforge_k07_parts_and_variables.Holds := by
  w_on; o_law; k_head; (case hw => w_witness2)
  k_fill
  refine D.walk_all (l := PySem.Challenge.rw_leastforge_k07_parts_and_variables) rfl rfl (fun w h Y => PySem.W.kIn_of Y) ?F
  case F =>
    intro w mg fa h KX G hmg
    refine' D.all_mk KX G hmg ?a0 ?l0 ?c0 ?k0 ?a1 ?l1 ?c1 ?k1 ?a2 ?l2 ?c2 ?k2 ?a3 ?l3 ?c3 ?k3 ?a4 ?l4 ?c4 ?k4 ?a5 ?l5 ?c5 ?k5 ?a6 ?l6 ?c6 ?k6 ?a7 ?l7 ?c7 ?k7 ?a8 ?l8 ?c8 ?k8 ?a9 ?l9 ?c9 ?k9 ?a10 ?l10 ?c10 ?k10 ?a11 ?l11 ?c11 ?k11 ?a12 ?l12 ?c12 ?k12 ?a13 ?l13 ?c13 ?k13 ?a14 ?l14 ?c14 ?k14 ?a15 ?l15 ?c15 ?k15 ?a16 ?l16 ?c16 ?k16 ?a17 ?l17 ?c17 ?k17 ?a18 ?l18 ?c18 ?k18 ?a19 ?l19 ?c19 ?k19 ?a20 ?l20 ?c20 ?k20 ?a21 ?l21 ?c21 ?k21 ?a22 ?l22 ?c22 ?k22 ?a23 ?l23 ?c23 ?k23 ?z0 ?z1 ?z2 ?z3 ?z4 ?z5 ?z6 ?z7 ?z8 ?z9 ?z10 ?z11 ?z12 ?dy0 ?dx0 ?dz0 ?dy1 ?dx1 ?dz1
    (case a0 => k_is)
    (case l0 => k_is)
    (case c0 => k_is)
    (case k0 => k_is)
    (case a1 => k_is)
    (case l1 => k_is)
    (case c1 => k_is)
    (case k1 => k_is)
    (case a2 => k_is)
    (case l2 => k_is)
    (case c2 => k_is)
    (case k2 => k_is)
    (case a3 => k_is)
    (case l3 => k_is)
    (case c3 => k_is)
    (case k3 => k_is)
    (case a4 => k_is)
    (case l4 => k_is)
    (case c4 => k_is)
    (case k4 => k_is)
    (case a5 => k_is)
    (case l5 => k_is)
    (case c5 => k_is)
    (case k5 => k_is)
    (case a6 => k_is)
    (case l6 => k_is)
    (case c6 => k_is)
    (case k6 => k_is)
    (case a7 => k_is)
    (case l7 => k_is)
    (case c7 => k_is)
    (case k7 => k_is)
    (case a8 => k_is)
    (case l8 => k_is)
    (case c8 => k_is)
    (case k8 => k_is)
    (case a9 => k_is)
    (case l9 => k_is)
    (case c9 => k_is)
    (case k9 => k_is)
    (case a10 => k_is)
    (case l10 => k_is)
    (case c10 => k_is)
    (case k10 => k_is)
    (case a11 => k_is)
    (case l11 => k_is)
    (case c11 => k_is)
    (case k11 => k_is)
    (case a12 => k_is)
    (case l12 => k_is)
    (case c12 => k_is)
    (case k12 => k_is)
    (case a13 => k_is)
    (case l13 => k_is)
    (case c13 => k_is)
    (case k13 => k_is)
    (case a14 => k_is)
    (case l14 => k_is)
    (case c14 => k_is)
    (case k14 => k_is)
    (case a15 => k_is)
    (case l15 => k_is)
    (case c15 => k_is)
    (case k15 => k_is)
    (case a16 => k_is)
    (case l16 => k_is)
    (case c16 => k_is)
    (case k16 => k_is)
    (case a17 => k_is)
    (case l17 => k_is)
    (case c17 => k_is)
    (case k17 => k_is)
    (case a18 => k_is)
    (case l18 => k_is)
    (case c18 => k_is)
    (case k18 => k_is)
    (case a19 => k_is)
    (case l19 => k_is)
    (case c19 => k_is)
    (case k19 => k_is)
    (case a20 => k_is)
    (case l20 => k_is)
    (case c20 => k_is)
    (case k20 => k_is)
    (case a21 => k_is)
    (case l21 => k_is)
    (case c21 => k_is)
    (case k21 => k_is)
    (case a22 => k_is)
    (case l22 => k_is)
    (case c22 => k_is)
    (case k22 => k_is)
    (case a23 => k_is)
    (case l23 => k_is)
    (case c23 => k_is)
    (case k23 => k_is)
    (case z0 => k_is)
    (case z1 => k_is)
    (case z2 => k_is)
    (case z3 => k_is)
    (case z4 => k_is)
    (case z5 => k_is)
    (case z6 => k_is)
    (case z7 => k_is)
    (case z8 => k_is)
    (case z9 => k_is)
    (case z10 => k_is)
    (case z11 => k_is)
    (case z12 => k_is)
    (case dy0 => k_is)
    (case dx0 => k_is)
    (case dz0 => rfl)
    (case dy1 => k_is)
    (case dx1 => k_is)
    (case dz1 => rfl)

