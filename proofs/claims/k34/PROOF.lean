import PyProof.Rows.All
import Wide.All
import OpenK.AllK
import Wide.FinOn
import Lean
import PyProof.EqAt
import PyProof.EqKinds
import PyProof.TupleCall
import PyProof.EnumMake
import PyProof.FitsInt
import PyProof.NeKinds
import PyProof.ReprRoads
import PyProof.Rows.ZipGen
import PyProof.StrLawsRepr
import PyProof.TupleIter
import PyProof.WalksEnum
import PyProof.ZipIter
import PySem.Challenge.RW_leastforge_k34_shelves
set_option Elab.async false
set_option linter.all false
set_option maxRecDepth 100000
/-! THE HAND LAYER, for ints, bools, texts, own classes, DICTS (int and text keys), calls, loops. Paste it whole ahead of your own text; what your proof does not reach may be deleted. -/
namespace L2
open PySem PySem.Spec PyProof.Rows

/-- a key: an int or a str -/
abbrev Key := Sum Int Str
def keyIs : Key → Value → Bool
  | .inl k, v => Value.isInt k v
  | .inr x, v => Value.isStrOf x v
def keyH (w : World) : Key → Int
  | .inl k => hashInt k
  | .inr x => hashStr w x
theorem keyIs_shape : ∀ {k : Key} {v : Value}, keyIs k v = true → (∃ i t, k = Sum.inl i ∧ v = Value.int i t) ∨ (∃ x t, k = Sum.inr x ∧ v = Value.str x t)
  | .inl i, v, h => by
    obtain ⟨t, e⟩ := Value.isInt_shape (k := i) (v := v) h
    exact .inl ⟨i, t, rfl, e⟩
  | .inr x, v, h => by
    obtain ⟨t, e⟩ := Value.isStrOf_shape (x := x) (v := v) h
    exact .inr ⟨x, t, rfl, e⟩
theorem keyIs_int (i : Int) (t : Tok) : keyIs (.inl i) (.int i t) = true := by simp [keyIs, Value.isInt]
theorem keyIs_str (x : Str) (t : Tok) : keyIs (.inr x) (.str x t) = true := by simp [keyIs, Value.isStrOf]
theorem key_ll (a b : Int) : decide ((Sum.inl a : Key) = Sum.inl b) = (a == b) := by
  by_cases e : a = b
  · subst e; simp
  · have h : ¬ (Sum.inl a : Key) = Sum.inl b := fun q => e (Sum.inl.inj q)
    rw [decide_eq_false h]
    exact (beq_eq_false_iff_ne.mpr e).symm
theorem key_rr (a b : Str) : decide ((Sum.inr a : Key) = Sum.inr b) = decide (a = b) := by
  by_cases e : a = b
  · subst e; simp
  · have h : ¬ (Sum.inr a : Key) = Sum.inr b := fun q => e (Sum.inr.inj q)
    rw [decide_eq_false h, decide_eq_false e]
theorem key_lr (a : Int) (b : Str) : decide ((Sum.inl a : Key) = Sum.inr b) = false := decide_eq_false (fun q => nomatch q)
theorem key_rl (a : Str) (b : Int) : decide ((Sum.inr a : Key) = Sum.inl b) = false := decide_eq_false (fun q => nomatch q)

def mixKind (prog : Program) (w : World) : PySem.KeyKind prog w Key where
  is := keyIs
  hash := keyH w
  inj := fun v a b ha hb => by
    rcases keyIs_shape ha with ⟨i, t, rfl, rfl⟩ | ⟨x, t, rfl, rfl⟩
    · rcases keyIs_shape hb with ⟨j, u, rfl, e⟩ | ⟨y, u, rfl, e⟩
      · injection e with e1 _; rw [e1]
      · exact nomatch e
    · rcases keyIs_shape hb with ⟨j, u, rfl, e⟩ | ⟨y, u, rfl, e⟩
      · exact nomatch e
      · injection e with e1 _; rw [e1]
  byValue := fun k v h => by
    rcases keyIs_shape h with ⟨i, t, rfl, rfl⟩ | ⟨x, t, rfl, rfl⟩ <;> rfl
  pyHash := fun hv h => by
    rcases keyIs_shape hv with ⟨i, t, rfl, rfl⟩ | ⟨x, t, rfl, rfl⟩
    · exact wpAny_pyHash_int h
    · exact wpAny_pyHash_str h
  eqBool := fun hu hv h => by
    rcases keyIs_shape hu with ⟨i, t, rfl, rfl⟩ | ⟨x, t, rfl, rfl⟩
    · rcases keyIs_shape hv with ⟨j, u, rfl, rfl⟩ | ⟨y, u, rfl, rfl⟩
      · rw [key_ll] at h; exact wpAny_eqBool_int h
      · rw [key_lr] at h; exact SeqAt.EqAt.int_str i t y u _ _ _ _ h
    · rcases keyIs_shape hv with ⟨j, u, rfl, rfl⟩ | ⟨y, u, rfl, rfl⟩
      · rw [key_rl] at h; exact SeqAt.EqAt.str_int x t j u _ _ _ _ h
      · rw [key_rr] at h; exact wpAny_eqBool_str h
  «strs» := fun k x t v h => by
    rcases keyIs_shape h with ⟨i, u, rfl, e⟩ | ⟨y, u, rfl, e⟩
    · exact nomatch e
    · injection e with e1 _
      subst e1
      cases v <;> rfl

theorem mixKind_int (prog : Program) (w : World) (i : Int) (t : Tok) : (mixKind prog w).is (.inl i) (.int i t) = true := keyIs_int i t
theorem mixKind_str (prog : Program) (w : World) (x : Str) (t : Tok) : (mixKind prog w).is (.inr x) (.str x t) = true := keyIs_str x t
end L2

namespace L2
open PySem PySem.Spec PyProof.Rows

/-- a value, without the heap -/
inductive V where
  | non | bl (b : Bool) | int (i : Int) | str (x : Str) | byt (b : Array UInt8) | flt (b : UInt64) | ref (a : Addr) | ty (n : String)
  deriving DecidableEq

def RelV : V → Value → Prop
  | .non, u => u = Value.none
  | .bl b, u => u = Value.bool b
  | .int i, u => ∃ t, u = Value.int i t
  | .str x, u => ∃ t, u = Value.str x t
  | .byt b, u => ∃ t, u = Value.bytes b t
  | .flt b, u => ∃ t, u = Value.float b t
  | .ref a, u => u = Value.ref a
  | .ty n, u => u = Value.type n

abbrev Vals : List V → List Value → Prop := Paired RelV
theorem Vals.length {xs : List V} {us : List Value} (r : Vals xs us) : xs.length = us.length := Paired.length r
theorem Vals.get : ∀ {xs : List V} {us : List Value} {i : Nat} {x : V}, Vals xs us → xs[i]? = some x → ∃ u, us[i]? = some u ∧ RelV x u
  | _, _, _, _, .nil, e => by simp at e
  | _, _, 0, _, .cons r _, e => by simp at e; subst e; exact ⟨_, rfl, r⟩
  | _, _, i + 1, x, .cons _ t, e => by
    obtain ⟨u, h1, h2⟩ := Vals.get (i := i) (x := x) t (by simpa using e)
    exact ⟨u, by simpa using h1, h2⟩
theorem Vals.set {x : V} {u : Value} (r : RelV x u) : ∀ {xs : List V} {us : List Value} (i : Nat), Vals xs us → Vals (xs.set i x) (us.set i u)
  | _, _, _, .nil => .nil
  | _, _, 0, .cons _ t => .cons r t
  | _, _, i + 1, .cons q t => .cons q (Vals.set r i t)
theorem Vals.append : ∀ {xs ys : List V} {us ws : List Value}, Vals xs us → Vals ys ws → Vals (xs ++ ys) (us ++ ws)
  | _, _, _, _, .nil, s => s
  | _, _, _, _, .cons r t, s => .cons r (Vals.append t s)
theorem Vals.take : ∀ {xs : List V} {us : List Value} (n : Nat), Vals xs us → Vals (xs.take n) (us.take n)
  | _, _, 0, _ => .nil
  | _, _, _ + 1, .nil => .nil
  | _, _, n + 1, .cons r t => .cons r (Vals.take n t)
theorem Vals.drop : ∀ {xs : List V} {us : List Value} (n : Nat), Vals xs us → Vals (xs.drop n) (us.drop n)
  | _, _, 0, r => r
  | _, _, _ + 1, .nil => .nil
  | _, _, n + 1, .cons _ t => Vals.drop n t
theorem Vals.none_of : ∀ {xs : List V} {us : List Value} {i : Nat}, Vals xs us → xs[i]? = none → us[i]? = none := fun {xs us i} r e => by
  have h1 := r.length
  have h2 : xs.length ≤ i := List.getElem?_eq_none_iff.mp e
  exact List.getElem?_eq_none_iff.mpr (by omega)

def RelO : Option V → Option Value → Prop
  | some v, some u => RelV v u
  | none, none => True
  | _, _ => False
def KV {κ : Type} : List (κ × V) → List (κ × Value) → Prop := Paired fun (p : κ × V) (q : κ × Value) => p.1 = q.1 ∧ RelV p.2 q.2

/-- a key of a dict (00_mix): an int or a text -/
def kV : Key → V
  | .inl i => .int i
  | .inr x => .str x

/-- what stands at a tracked address -/
inductive HO where
  /-- a list -/
  | lst (xs : List V)
  /-- a tuple (never changes) -/
  | tup (xs : List V)
  /-- a dict whose keys are ints and texts; one whose keys are tuples of ints and texts (the empty one is both) -/
  | dK (kvs : List (Key × V)) | dT (kvs : List (List Key × V))
  /-- a set of ints: its members, its size -/
  | set (S : Int → Bool) (n : Nat)
  /-- an instance of the class at C, its dict at dx, its attributes -/
  | ins (C dx : Addr) (fs : List (Str × V))
  /-- the dict of the instance at x -/
  | own (x : Addr)
  /-- the dict of an exception -/
  | xd (fs : List (Str × V))
  /-- a bound method, f of x -/
  | met (f x : Addr)
  /-- a range object lo, lo + 1, .. below hi -/
  | rng (lo hi : Int)
  /-- a thing that is known to the object (the script; a dict while a loop walks it): read, never written while it is so -/
  | frz (o : Obj) (u : HO)
  /-- a code object's table -/
  | tbl (ps : Array Value)
  /-- any other thing, by what is true of its one object (a def of one's own: SetO a S n := HO.ext fun h => ..) -/
  | ext (φ : Heap → Prop)

abbrev Hp := Addr → Option HO
def upd (H : Hp) (a : Addr) (o : HO) : Hp := fun b => if b = a then some o else H b
theorem upd_same {H : Hp} {a : Addr} {o : HO} : upd H a o a = some o := by unfold upd; rw [if_pos rfl]
theorem upd_ne {H : Hp} {a b : Addr} {o : HO} (h : b ≠ a) : upd H a o b = H b := by unfold upd; rw [if_neg h]
theorem upd_upd {H : Hp} {a : Addr} {o u : HO} : upd (upd H a o) a u = upd H a u := by
  funext b; unfold upd; split <;> rfl
/-- two objects of different content stand apart -/
theorem ne_of {H : Hp} {a b : Addr} {o u : HO} (h : H a = some o) (h' : H b = some u) (d : o ≠ u) : a ≠ b := by
  intro e; subst e; rw [h] at h'; exact d (Option.some.inj h')
theorem ne_of_none {H : Hp} {a b : Addr} {o : HO} (h : H a = some o) (h' : H b = none) : a ≠ b := by
  intro e; subst e; rw [h] at h'; cases h'

section
variable (P : Program) (w : World)
def ObjOk (H : Hp) (h : Heap) (a : Addr) : HO → Prop
  | .lst xs => xs.length ≤ sizeLine ∧ ∃ (its : List Value) (n : Nat), Vals xs its ∧ h.get? a = some { cls := .type "list", data := .seq its.toArray n }
  | .tup xs => xs.length ≤ sizeLine ∧ ∃ its : List Value, Vals xs its ∧ IsTup h a its.toArray
  | .dK kvs => kvs.length ≤ sizeLine ∧ (a == sysModules) = false ∧ ∃ vs, KV kvs vs ∧ h.DictOf (mixKind P w) a vs
  | .dT kvs => kvs.length ≤ sizeLine ∧ (a == sysModules) = false ∧ ∃ xs : List (List Key × Addr × Value),
      Paired (fun (p : List Key × V) (q : List Key × Addr × Value) => p.1 = q.1 ∧ H q.2.1 = some (.tup (p.1.map kV)) ∧ RelV p.2 q.2.2) kvs xs ∧
      ∃ o es ep, h.get? a = some o ∧ o.ExactDict ∧ o.data = .dict es ep ∧ es.toList = xs.map (entryOfKey (tupleKind (mixKind P w))) ∧ (xs.map (·.1)).Nodup
  | .set S n => h.SetOf (intKind P w) a S n
  | .ins C dx fs => H dx = some (.own a) ∧ fs.length ≤ 1000 ∧ dx ≠ a ∧ h.get? a = some (PySem.W.instObj C dx) ∧
      ∃ mA, h.Ns1 dx mA ∧ (∀ f, RelO (fs.lookup f) (mA f)) ∧ PySem.Within mA (fs.map (·.1))
  | .own _ => ∃ o, h.get? a = some o
  | .xd fs => ∃ mA, h.Ns1 a mA ∧ ∀ f, RelO (fs.lookup f) (mA f)
  | .rng lo hi => ∃ t u v, h.get? a = some { cls := .type "range", data := .fields #[.int lo t, .int hi u, .int 1 v] }
  | .frz o u => h.get? a = some o ∧ ObjOk H h a u
  | .tbl ps => h.get? a = some { cls := .none, data := .fields ps }
  | .met f x => h.get? a = some (PySem.W.methodObj (.ref f) (.ref x))
  | .ext φ => φ h ∧ (∃ o, h.get? a = some o) ∧ ∀ h1 h2 : Heap, φ h1 → (∀ o, h1.get? a = some o → h2.get? a = some o) → φ h2
/-- the abstract heap is held -/
def HOk (H : Hp) (h : Heap) : Prop := ∀ a o, H a = some o → ObjOk P w H h a o
end

section
variable {P : Program} {w : World} {H H' : Hp} {h h' : Heap} {a : Addr} {o : HO}
theorem ObjOk.lt (x : ObjOk P w H h a o) : a < h.objs.size := by
  cases o with
  | lst xs => obtain ⟨_, _, _, _, e⟩ := x; exact Heap.lt_size e
  | tup xs => obtain ⟨_, _, _, p⟩ := x; exact p.lt
  | dK kvs => obtain ⟨_, _, _, _, o, _, _, e, _⟩ := x; exact Heap.lt_size e
  | dT kvs => obtain ⟨_, _, _, _, o, _, _, e, _⟩ := x; exact Heap.lt_size e
  | set S n => obtain ⟨o, _, _, _, e, _⟩ := x; exact Heap.lt_size e
  | ins C dx fs => obtain ⟨_, _, _, e, _⟩ := x; exact Heap.lt_size e
  | own y => obtain ⟨_, e⟩ := x; exact Heap.lt_size e
  | xd fs => obtain ⟨_, ⟨_, _, _, e, _⟩, _⟩ := x; exact Heap.lt_size e
  | rng lo hi => obtain ⟨_, _, _, e⟩ := x; exact Heap.lt_size e
  | frz ob u => obtain ⟨e, _⟩ := x; exact Heap.lt_size e
  | tbl ps => exact Heap.lt_size (show h.get? a = some _ from x)
  | met f y => exact Heap.lt_size (show h.get? a = some _ from x)
  | ext φ => obtain ⟨_, ⟨_, e⟩, _⟩ := x; exact Heap.lt_size e
theorem Paired.mapP {α β : Type} {F G : α → β → Prop} : ∀ {l₁ : List α} {l₂ : List β}, Paired F l₁ l₂ → (∀ a b, F a b → G a b) → Paired G l₁ l₂
  | _, _, .nil, _ => .nil
  | _, _, .cons r t, f => .cons (f _ _ r) (Paired.mapP t f)
/-- what an object's description leans on: its own object, its own dict, the tuples -/
theorem ObjOk.stay (x : ObjOk P w H h a o) (k : ∀ b u, (b = a ∨ H b = some (.own a)) → h.get? b = some u → h'.get? b = some u)
    (ho : ∀ b, H b = some (.own a) → H' b = some (.own a)) (ht : ∀ b xs, H b = some (.tup xs) → H' b = some (.tup xs)) : ObjOk P w H' h' a o := by
  induction o with
  | lst xs => obtain ⟨z, its, n, r, e⟩ := x; exact ⟨z, its, n, r, k _ _ (.inl rfl) e⟩
  | tup xs => obtain ⟨z, its, r, ob, e, c⟩ := x; exact ⟨z, its, r, ob, k _ _ (.inl rfl) e, c⟩
  | dK kvs => obtain ⟨z, y, vs, r, ob, es, ep, e, c⟩ := x; exact ⟨z, y, vs, r, ob, es, ep, k _ _ (.inl rfl) e, c⟩
  | dT kvs =>
    obtain ⟨z, y, xs, r, ob, es, ep, e, c⟩ := x
    exact ⟨z, y, xs, Paired.mapP r fun p q z => ⟨z.1, ht _ _ z.2.1, z.2.2⟩, ob, es, ep, k _ _ (.inl rfl) e, c⟩
  | set S n => obtain ⟨ob, es, ep, t, e, c⟩ := x; exact ⟨ob, es, ep, t, k _ _ (.inl rfl) e, c⟩
  | ins C dx fs =>
    obtain ⟨d, z, ne, e, mA, ⟨od, es, ep, e2, c⟩, r⟩ := x
    exact ⟨ho _ d, z, ne, k _ _ (.inl rfl) e, mA, ⟨od, es, ep, k _ _ (.inr d) e2, c⟩, r⟩
  | own y => obtain ⟨ob, e⟩ := x; exact ⟨ob, k _ _ (.inl rfl) e⟩
  | xd fs => obtain ⟨mA, ⟨od, es, ep, e, c⟩, r⟩ := x; exact ⟨mA, ⟨od, es, ep, k _ _ (.inl rfl) e, c⟩, r⟩
  | rng lo hi => obtain ⟨t, u, v, e⟩ := x; exact ⟨t, u, v, k _ _ (.inl rfl) e⟩
  | frz ob u ih => obtain ⟨e, q⟩ := x; exact ⟨k _ _ (.inl rfl) e, ih q⟩
  | tbl ps =>
    have e : h.get? a = some { cls := .none, data := .fields ps } := x
    show h'.get? a = some { cls := .none, data := .fields ps }
    exact k a _ (.inl rfl) e
  | met f y =>
    have e : h.get? a = some (PySem.W.methodObj (.ref f) (.ref y)) := x
    show h'.get? a = some (PySem.W.methodObj (.ref f) (.ref y))
    exact k a _ (.inl rfl) e
  | ext φ => obtain ⟨p, ⟨o, e⟩, st⟩ := x; exact ⟨st _ _ p fun o q => k _ _ (.inl rfl) q, ⟨o, k _ _ (.inl rfl) e⟩, st⟩
theorem HOk.lt (x : HOk P w H h) (e : H a = some o) : a < h.objs.size := (x a o e).lt
theorem HOk.fresh (x : HOk P w H h) (e : h.objs.size ≤ a) : H a = none := by
  cases q : H a with
  | none => rfl
  | some u => exact absurd (Nat.lt_of_lt_of_le (x.lt q) e) (Nat.lt_irrefl _)
/-- every object of the heap is kept -/
theorem HOk.kept (x : HOk P w H h) (k : ∀ b u, h.get? b = some u → h'.get? b = some u) : HOk P w H h' := fun a o e =>
  (x a o e).stay (fun b u _ q => k b u q) (fun _ q => q) fun _ _ q => q
/-- a new object is laid and tracked -/
theorem HOk.laid (x : HOk P w H h) (k : ∀ b u, h.get? b = some u → h'.get? b = some u) (hp : h.objs.size ≤ a) (new : ObjOk P w (upd H a o) h' a o) : HOk P w (upd H a o) h' := fun b u e => by
  have hn := x.fresh hp
  by_cases hb : b = a
  · subst hb; rw [upd_same] at e; cases e; exact new
  · rw [upd_ne hb] at e
    exact (x b u e).stay (fun c v _ q => k c v q) (fun c q => by rw [upd_ne (ne_of_none q hn)]; exact q) fun c xs q => by rw [upd_ne (ne_of_none q hn)]; exact q
end

/-- what may be read as u: it is u, or a known u -/
def Rd (H : Hp) (a : Addr) (u : HO) : Prop := H a = some u ∨ ∃ o, H a = some (.frz o u)
theorem Rd.of {H : Hp} {a : Addr} {u : HO} (h : H a = some u) : Rd H a u := .inl h
theorem Rd.ok {P : Program} {w : World} {H : Hp} {h : Heap} {a : Addr} {u : HO} (r : Rd H a u) (x : HOk P w H h) : ObjOk P w H h a u := by
  rcases r with r | ⟨o, r⟩
  · exact x a u r
  · obtain ⟨_, q⟩ := x a _ r
    exact q
/-- what may be written -/
def Mut : Option HO → Prop
  | some (.lst _) => True
  | some (.dK _) => True
  | some (.dT _) => True
  | some (.set _ _) => True
  | some (.ins _ _ _) => True
  | some (.ext _) => True
  | _ => False
section
variable {P : Program} {w : World} {H : Hp} {h h' : Heap} {x e : Addr} {o' : HO}
/-- the object at e is changed: x itself, or the dict of the instance x -/
theorem HOk.write (ok : HOk P w H h) (mu : Mut (H x)) (he : e = x ∨ H e = some (.own x)) (k : ∀ b u, b ≠ e → h.get? b = some u → h'.get? b = some u) (heo : ∃ u, h'.get? e = some u)
    (new : ObjOk P w (upd H x o') h' x o') : HOk P w (upd H x o') h' := fun b u q => by
  have nown : ∀ c y, H c = some (.own y) → c ≠ x := fun c y r z => by subst z; rw [r] at mu; exact mu
  have ntup : ∀ c xs, H c = some (.tup xs) → c ≠ x := fun c xs r z => by subst z; rw [r] at mu; exact mu
  by_cases hb : b = x
  · subst hb; rw [upd_same] at q; cases q; exact new
  · rw [upd_ne hb] at q
    by_cases hbe : b = e
    · have q' : H b = some (.own x) := by
        rcases he with z | z
        · exact absurd (hbe.trans z) hb
        · rw [hbe]; exact z
      rw [q] at q'; cases q'
      obtain ⟨v, hv⟩ := heo
      exact ⟨v, by rw [hbe]; exact hv⟩
    · refine (ok b u q).stay (fun c v hc r => k c v ?_ r) (fun c r => by rw [upd_ne (nown c b r)]; exact r) fun c xs r => by rw [upd_ne (ntup c xs r)]; exact r
      rcases hc with rfl | hc
      · exact hbe
      · rintro rfl
        rcases he with z | z
        · exact nown c b hc z
        · rw [hc] at z; cases z; exact hb rfl
end

/-! ### kept unless tracked; of the frames at fs (the callers') the slots may change (an exception that passes writes there); of the records at ex (iterators) nothing is said -/
structure Un (fs ex : List Addr) (H H' : Hp) (h h' : Heap) : Prop where
  keep : ∀ b o, h.get? b = some o → H b = none → b ∉ fs → b ∉ ex → h'.get? b = some o
  slot : ∀ b o, h.get? b = some o → H b = none → b ∈ fs → b ∉ ex → ∃ sl, h'.get? b = some { o with slots := sl }
  free : ∀ b o, h.get? b = some o → H b = none → b ∉ ex → H' b = none
  there : ∀ b o, h.get? b = some o → b ∉ ex → ∃ o', h'.get? b = some o'
  tups : ∀ b xs, H b = some (.tup xs) → H' b = some (.tup xs)
  frzs : ∀ b o u, H b = some (.frz o u) → H' b = some (.frz o u)
  tbls : ∀ b ps, H b = some (.tbl ps) → ∃ more, H' b = some (.tbl (ps ++ more))
section
variable {fs fs' ex ex' : List Addr} {H H1 H2 : Hp} {h h1 h2 h' : Heap} {a x e : Addr} {o : HO}
theorem Un.any (u : Un fs ex H H1 h h1) {b : Addr} {ob : Obj} (q : h.get? b = some ob) (n : H b = none) (hx : b ∉ ex) : ∃ sl, h1.get? b = some { ob with slots := sl } := by
  by_cases hb : b ∈ fs
  · exact u.slot b ob q n hb hx
  · exact ⟨ob.slots, u.keep b ob q n hb hx⟩
theorem Un.trans (a : Un fs ex H H1 h h1) (b : Un fs ex H1 H2 h1 h2) : Un fs ex H H2 h h2 where
  keep := fun c ob q n hc hx => b.keep c ob (a.keep c ob q n hc hx) (a.free c ob q n hx) hc hx
  slot := fun c ob q n hc hx => by
    obtain ⟨sl, e1⟩ := a.slot c ob q n hc hx
    obtain ⟨sl', e2⟩ := b.slot c _ e1 (a.free c ob q n hx) hc hx
    exact ⟨sl', e2⟩
  free := fun c ob q n hx => by
    obtain ⟨o', e1⟩ := a.there c ob q hx
    exact b.free c o' e1 (a.free c ob q n hx) hx
  there := fun c ob q hx => by
    obtain ⟨o', e1⟩ := a.there c ob q hx
    exact b.there c o' e1 hx
  tups := fun c xs q => b.tups c xs (a.tups c xs q)
  frzs := fun c ob xs q => b.frzs c ob xs (a.frzs c ob xs q)
  tbls := fun c ps q => by
    obtain ⟨m1, e1⟩ := a.tbls c ps q
    obtain ⟨m2, e2⟩ := b.tbls c _ e1
    exact ⟨m1 ++ m2, by rw [e2, Array.append_assoc]⟩
theorem Un.kept (k : ∀ b u, h.get? b = some u → h'.get? b = some u) : Un fs ex H H h h' :=
  ⟨fun b ob q _ _ _ => k b ob q, fun b ob q _ _ _ => ⟨ob.slots, k b ob q⟩, fun _ _ _ n _ => n, fun b ob q _ => ⟨ob, k b ob q⟩, fun _ _ q => q, fun _ _ _ q => q, fun _ ps q => ⟨#[], by rw [q]; simp⟩⟩
theorem Un.refl : Un fs ex H H h h := Un.kept fun _ _ q => q
theorem Un.laid (k : ∀ b u, h.get? b = some u → h'.get? b = some u) (hp : h.objs.size ≤ a) (hn : H a = none) : Un fs ex H (upd H a o) h h' where
  keep := fun b u q _ _ _ => k b u q
  slot := fun b u q _ _ _ => ⟨u.slots, k b u q⟩
  free := fun b u q n _ => by rw [upd_ne (Nat.ne_of_lt (Nat.lt_of_lt_of_le (Heap.lt_size q) hp))]; exact n
  there := fun b u q _ => ⟨u, k b u q⟩
  tups := fun b xs q => by rw [upd_ne (ne_of_none q hn)]; exact q
  frzs := fun b u xs q => by rw [upd_ne (ne_of_none q hn)]; exact q
  tbls := fun b ps q => ⟨#[], by rw [upd_ne (ne_of_none q hn), q]; simp⟩
theorem Un.write (mu : Mut (H x)) (he : e = x ∨ H e = some (.own x)) (k : ∀ b u, b ≠ e → h.get? b = some u → h'.get? b = some u) (heo : ∃ u, h'.get? e = some u) : Un fs ex H (upd H x o) h h' := by
  have hx : ∀ b, H b = none → b ≠ x := fun b n z => by subst z; rw [n] at mu; exact mu
  have hb : ∀ b, H b = none → b ≠ e := fun b n z => by
    subst z
    rcases he with r | r
    · exact hx b n r
    · rw [n] at r; cases r
  have hm : ∀ b u, H b = some u → ¬ Mut (some u) → b ≠ x := fun b u q nm z => by subst z; rw [q] at mu; exact nm mu
  refine ⟨fun b u q n _ _ => k b u (hb b n) q, fun b u q n _ _ => ⟨u.slots, k b u (hb b n) q⟩, fun b u q n _ => by rw [upd_ne (hx b n)]; exact n, fun b u q _ => ?_,
    fun b xs q => by rw [upd_ne (hm b _ q fun z => z)]; exact q, fun b u xs q => by rw [upd_ne (hm b _ q fun z => z)]; exact q, fun b ps q => ⟨#[], by rw [upd_ne (hm b _ q fun z => z), q]; simp⟩⟩
  by_cases hbe : b = e
  · subst hbe; exact heo
  · exact ⟨u, k b u hbe q⟩
theorem Un.mono (u : Un fs ex H H1 h h1) (hs : ∀ b ∈ fs, b ∈ fs') (hx : ∀ b ∈ ex, b ∈ ex') : Un fs' ex' H H1 h h1 :=
  ⟨fun b ob q n hb he => u.keep b ob q n (fun z => hb (hs b z)) fun z => he (hx b z), fun _ _ q n _ he => u.any q n fun z => he (hx _ z), fun b ob q n he => u.free b ob q n fun z => he (hx b z), fun b ob q he => u.there b ob q fun z => he (hx b z), u.tups, u.frzs, u.tbls⟩
end

/-! ### the heap without what is tracked -/
def trk (h : Heap) (H : Hp) : List Addr := (List.range h.objs.size).filter fun a => (H a).isSome
def hidT (h : Heap) (H : Hp) : Heap := PySem.W.hideAll h (trk h H)
theorem hidT_size (h : Heap) (H : Hp) : (hidT h H).objs.size = h.objs.size := PySem.W.hideAll_size _ _
theorem hidT_get {h : Heap} {H : Hp} {b : Addr} {o : Obj} (e : h.get? b = some o) (n : H b = none) : (hidT h H).get? b = some o :=
  PySem.W.hideAll_get _ e fun hm => by
    have q : (H b).isSome = true := (List.mem_filter.mp hm).2
    rw [n] at q; simp at q
theorem of_hidT {h : Heap} {H : Hp} {b : Addr} {o : Obj} (e : (hidT h H).get? b = some o) : h.get? b = some o ∧ H b = none := by
  have e' : h.get? b = some o := PySem.W.of_hideAll (trk h H) e
  refine ⟨e', ?_⟩
  cases q : H b with
  | none => rfl
  | some x =>
    have hm : b ∈ trk h H := List.mem_filter.mpr ⟨List.mem_range.mpr (Heap.lt_size e'), by simp [q]⟩
    have z : (hidT h H).get? b = none := PySem.W.hideAll_none (trk h H) hm
    rw [z] at e; cases e

/-! ### OpenK's ledger, filled with every new object but one -/
def allNews (g h : Heap) (L : Addr) : List (Addr × Obj) := (List.range h.objs.size).filterMap fun a => if a = L ∨ (g.get? a).isSome = true then none else (h.get? a).map fun o => (a, o)
def rest (g h : Heap) (L d : Addr) : List (Addr × Obj) := (allNews g h L).filter fun p => decide (p.1 ≠ d)
end L2

namespace L2
open PySem PySem.Spec PyProof.Rows

/-- the module's facts, over the base: the heap at the law's entry without what is tracked there -/
structure Mod (K : PySem.W.Frag) (mg : Str → Option Value) (base : Heap) : Prop where
  kin : K.In base
  glob : base.Ns mainGlobals mg
  blt : ∃ mb, base.Ns builtinsNs mb ∧ ∀ x : Str, x ≠ "__name__" → mb x = bootBuiltins x
  nolimit : base.NoLimit

/-- the context: a def's body (or a comprehension's block) running. base: fixed through the whole law; s₀, H₀: the entry; outer: the frames whose slots others may change (a def's callers); stack: all frames that run;
   ex: iterators that were made ahead of the entry and are walked here (a comprehension's); fn: the names whose cells were made at the entry (a def: all; a comprehension's block: its own); calm: not within an except suite; pn: pins that every state bears; xe: what is wanted of an exception that leaves the code -/
structure Cx where
  prog : Program
  w : World
  K : PySem.W.Frag
  mg : Str → Option Value
  base : Heap
  A : Around
  N : List Str
  s₀ : Shared
  H₀ : Hp
  env : Env
  outer : List Env
  stack : List Env
  ex : List Addr
  fn : Str → Bool
  calm : Bool
  pn : List (Addr × Obj)
  xe : Value → Shared → Prop
/-- the callers' frames -/
def frs (l : List Env) : List Addr := l.filterMap (·.frame)
abbrev Cx.fs (X : Cx) : List Addr := frs X.outer

def Vis (sc : Scope) (x : Str) : Prop := sc.names.lookup x = some .local ∨ sc.names.lookup x = some .cell ∨ sc.names.lookup x = some .free
def Loc (sc : Scope) (x : Str) : Prop := sc.names.lookup x = some .local ∨ sc.names.lookup x = some .cell
def Look (env : Env) (h : Heap) (m : Str → Option Value) (x : Str) (u : Value) : Prop :=
  (env.kindOf x = some .local ∧ m x = some u) ∨ ((env.kindOf x = some .cell ∨ env.kindOf x = some .free) ∧ ∃ c, env.cells.lookup x = some c ∧ h.IsCell c (some u))

structure Cx.Ok (X : Cx) : Prop where
  mod : Mod X.K X.mg X.base
  kind : X.env.scope.kind = .function
  glob : X.env.globals = mainGlobals
  blt : X.env.builtins = builtinsNs
  above : X.s₀.heap.objs.size ≤ X.env.locals
  inj : ∀ x y c, X.env.cells.lookup x = some c → X.env.cells.lookup y = some c → x = y
  has : ∀ x, (X.env.kindOf x = some .cell ∨ X.env.kindOf x = some .free) → ∃ c, X.env.cells.lookup x = some c
  cab : ∀ x c, X.fn x = true → X.env.cells.lookup x = some c → X.s₀.heap.objs.size ≤ c
  hd : X.calm = true → X.A.handled = none
  frames : X.A.frames = some X.stack
  stk : X.stack = X.outer ∨ (X.stack = X.env :: X.outer ∧ X.env.frame = some X.env.locals)
  exf : ∀ b ∈ X.ex, b ≠ X.env.locals ∧ ∀ x c, X.env.cells.lookup x = some c → c ≠ b
  bs : ∀ b o, X.base.get? b = some o → X.s₀.heap.get? b = some o ∧ X.H₀ b = none
  bsz : X.base.objs.size ≤ X.s₀.heap.objs.size
  noex : ∀ b o, X.base.get? b = some o → b ∉ X.ex
  exfs : ∀ b ∈ X.ex, b ∉ X.fs
  funs : X.s₀.heap.FunFrames X.base X.outer
  frf : ∀ b ∈ X.fs, X.H₀ b = none

structure Inv (X : Cx) (pins : List (Addr × Obj)) (σ : List (Option V)) (H : Hp) (s : Shared) : Prop where
  ok : X.Ok
  os : s.os = X.s₀.os
  bare : AllBare s.gens
  base : Un X.fs X.ex X.H₀ H X.s₀.heap s.heap
  loc : ∃ m, s.heap.Ns X.env.locals m ∧ ∀ (i : Nat) (x : Str) (v : V), X.N[i]? = some x → σ[i]? = some (some v) → Vis X.env.scope x → ∃ u, RelV v u ∧ Look X.env s.heap m x u
  cell : ∀ x c, X.env.cells.lookup x = some c → ∃ v, s.heap.IsCell c v
  free : H X.env.locals = none
  freeC : ∀ x c, X.env.cells.lookup x = some c → H c = none
  pin : ∀ p ∈ X.pn ++ pins, s.heap.get? p.1 = some p.2 ∧ H p.1 = none ∧ p.1 ≠ X.env.locals ∧ p.1 ∉ X.fs ∧ ∀ v, p.2.data ≠ .cell v
  hok : HOk X.prog X.w H s.heap
  len : σ.length = X.N.length

section
variable {X : Cx} {pins : List (Addr × Obj)} {σ : List (Option V)} {H H' : Hp} {s : Shared} {h' : Heap}

theorem Cx.Ok.nofr (ok : X.Ok) {b : Addr} {o : Obj} (e : X.base.get? b = some o) : b ∉ X.fs := fun hb => by
  have := (ok.funs.mem hb).1
  rw [e] at this; cases this
theorem Inv.bs (I : Inv X pins σ H s) : ∀ b o, X.base.get? b = some o → s.heap.get? b = some o ∧ H b = none := fun b o e =>
  ⟨I.base.keep b o (I.ok.bs b o e).1 (I.ok.bs b o e).2 (I.ok.nofr e) (I.ok.noex b o e), I.base.free b o (I.ok.bs b o e).1 (I.ok.bs b o e).2 (I.ok.noex b o e)⟩
theorem Inv.bk (I : Inv X pins σ H s) : ∀ b o, X.base.get? b = some o → s.heap.get? b = some o := fun b o e => (I.bs b o e).1
theorem Inv.mod (I : Inv X pins σ H s) : Mod X.K X.mg X.base := I.ok.mod
theorem Inv.kIn (I : Inv X pins σ H s) : X.K.In s.heap := I.ok.mod.kin.keeps I.bk
theorem Inv.nolimit (I : Inv X pins σ H s) : s.heap.NoLimit := I.ok.mod.nolimit.keeps I.bk
/-- the frame over the base: for OpenK's rules (K.In X.base is I.mod.kin) -/
theorem Inv.fr (I : Inv X pins σ H s) : ∃ m, Fr X.base X.env.locals s.heap m :=
  let ⟨m, hn, _⟩ := I.loc
  ⟨m, hn, I.bk, Nat.le_trans I.ok.bsz I.ok.above⟩
theorem Inv.lt (I : Inv X pins σ H s) : X.env.locals < s.heap.objs.size := let ⟨_, hn, _⟩ := I.loc; hn.lt
theorem Inv.sz (I : Inv X pins σ H s) : X.s₀.heap.objs.size ≤ s.heap.objs.size := Nat.le_trans I.ok.above (Nat.le_of_lt I.lt)
theorem Inv.nofs (I : Inv X pins σ H s) {a : Addr} (h : s.heap.objs.size ≤ a) : a ∉ X.fs := fun hb => by
  obtain ⟨_, o, ho, _⟩ := I.ok.funs.mem hb
  exact absurd (Nat.lt_of_lt_of_le (Heap.lt_size ho) (Nat.le_trans I.sz h)) (Nat.lt_irrefl _)
theorem Inv.cne (I : Inv X pins σ H s) : ∀ x c, X.env.cells.lookup x = some c → c ≠ X.env.locals := fun x c e z => by
  obtain ⟨v, o, ho, hd⟩ := I.cell x c e
  obtain ⟨m, ⟨o', es, ep, ho', hd', _⟩, _⟩ := I.loc
  rw [z, ho'] at ho; cases ho; rw [hd'] at hd; cases hd
theorem Inv.funs (I : Inv X pins σ H s) : s.heap.FunFrames X.base X.outer := by
  have all : ∀ (l : List Env), (∀ b ∈ frs l, b ∈ X.fs) → X.s₀.heap.FunFrames X.base l → s.heap.FunFrames X.base l := by
    intro l
    induction l with
    | nil => intro _ _; trivial
    | cons env r ih =>
      intro hs hl
      obtain ⟨hk, ⟨L, o, hf, hn, ho, hd⟩, hr⟩ := hl
      have hL : L ∈ X.fs := hs L (by unfold frs; rw [List.filterMap_cons, hf]; exact List.mem_cons_self)
      obtain ⟨sl, e⟩ := I.base.slot L o ho (I.ok.frf L hL) hL fun z => I.ok.exfs L z hL
      exact ⟨hk, ⟨L, _, hf, hn, e, hd⟩, ih (fun b hb => hs b (by unfold frs; rw [List.filterMap_cons, hf]; exact List.mem_cons_of_mem _ hb)) hr⟩
  exact all X.outer (fun _ hb => hb) I.ok.funs

/-- the frames that run, for a call -/
theorem Inv.stack (I : Inv X pins σ H s) : s.heap.FunFrames X.base X.stack := by
  rcases I.ok.stk with e | ⟨e, hf⟩
  · rw [e]; exact I.funs
  · rw [e]
    obtain ⟨m, hn, _⟩ := I.loc
    refine .cons (by rw [I.ok.kind]; decide) hf hn ?_ I.funs
    exact Heap.get?_none_of_le (Nat.le_trans I.ok.bsz I.ok.above)
theorem Inv.stkSub (I : Inv X pins σ H s) : ∀ b ∈ frs X.stack, b ∈ X.env.locals :: X.fs := fun b hb => by
  rcases I.ok.stk with e | ⟨e, hf⟩
  · rw [e] at hb; exact List.mem_cons_of_mem _ hb
  · rw [e] at hb
    unfold frs at hb
    rw [List.filterMap_cons, hf] at hb
    exact hb
theorem Inv.stkFree (I : Inv X pins σ H s) : ∀ b ∈ frs X.stack, H b = none := fun b hb => by
  rcases List.mem_cons.mp (I.stkSub b hb) with e | hb
  · rw [e]; exact I.free
  · obtain ⟨_, o, ho, _⟩ := I.ok.funs.mem hb
    exact I.base.free b o ho (I.ok.frf b hb) fun z => I.ok.exfs b z hb

/-- THE STEP: the untracked objects but the frame and the records at ch are kept (the callers' frames up to slots), the frame's map is kept, the new abstract heap is held -/
theorem Inv.step {g' : Array GenState} {t' : Nat} {d' : Drawn} {ch : List Addr} (I : Inv X pins σ H s)
    (hch : ∀ b ∈ ch, (b ∈ X.ex ∨ X.s₀.heap.objs.size ≤ b) ∧ b ≠ X.env.locals ∧ (∀ x c, X.env.cells.lookup x = some c → c ≠ b) ∧ ∀ p ∈ X.pn ++ pins, p.1 ≠ b)
    (keep : ∀ b o, b ≠ X.env.locals → b ∉ X.fs → b ∉ ch → s.heap.get? b = some o → H b = none → h'.get? b = some o)
    (slot : ∀ b o, b ≠ X.env.locals → b ∈ X.fs → b ∉ ch → s.heap.get? b = some o → H b = none → ∃ sl, h'.get? b = some { o with slots := sl }) (free : ∀ b o, b ∉ ch → s.heap.get? b = some o → H b = none → H' b = none)
    (there : ∀ b o, b ∉ ch → s.heap.get? b = some o → ∃ o', h'.get? b = some o')
    (tups : ∀ b xs, H b = some (.tup xs) → H' b = some (.tup xs)) (frzs : ∀ b o u, H b = some (.frz o u) → H' b = some (.frz o u)) (tbls : ∀ b ps, H b = some (.tbl ps) → ∃ more, H' b = some (.tbl (ps ++ more)))
    (ns : ∀ m, s.heap.Ns X.env.locals m → h'.Ns X.env.locals m) (hok : HOk X.prog X.w H' h') (hg : AllBare g') :
    Inv X pins σ H' { s with heap := h', gens := g', drawn := d', toks := t' } := by
  have neL : ∀ b o, X.s₀.heap.get? b = some o → b ≠ X.env.locals := fun b o e => Nat.ne_of_lt (Nat.lt_of_lt_of_le (Heap.lt_size e) I.ok.above)
  have neC : ∀ b o, X.s₀.heap.get? b = some o → b ∉ X.ex → b ∉ ch := fun b o e hx hb => by
    rcases (hch b hb).1 with z | z
    · exact hx z
    · exact absurd (Nat.lt_of_lt_of_le (Heap.lt_size e) z) (Nat.lt_irrefl _)
  have cellK : ∀ x c, X.env.cells.lookup x = some c → ∀ v, s.heap.IsCell c v → h'.IsCell c v := fun x c e v ⟨o, ho, hd⟩ => by
    have nch : c ∉ ch := fun z => (hch c z).2.2.1 x c e rfl
    by_cases hc : c ∈ X.fs
    · obtain ⟨sl, q⟩ := slot c o (I.cne x c e) hc nch ho (I.freeC x c e)
      exact ⟨_, q, hd⟩
    · exact ⟨o, keep c o (I.cne x c e) hc nch ho (I.freeC x c e), hd⟩
  refine ⟨I.ok, I.os, hg, ⟨fun b o e n hb hx => ?_, fun b o e n hb hx => ?_, fun b o e n hx => ?_, fun b o e hx => ?_, fun b xs e => tups b xs (I.base.tups b xs e), fun b o xs e => frzs b o xs (I.base.frzs b o xs e), fun b ps e => ?_⟩, ?_, fun x c e => ?_, ?_, fun x c e => ?_, fun p hp => ?_, hok, I.len⟩
  · exact keep b o (neL b o e) hb (neC b o e hx) (I.base.keep b o e n hb hx) (I.base.free b o e n hx)
  · obtain ⟨sl, e1⟩ := I.base.slot b o e n hb hx
    obtain ⟨sl', e2⟩ := slot b _ (neL b o e) hb (neC b o e hx) e1 (I.base.free b o e n hx)
    exact ⟨sl', e2⟩
  · obtain ⟨o', e1⟩ := I.base.there b o e hx
    exact free b o' (neC b o e hx) e1 (I.base.free b o e n hx)
  · obtain ⟨o', e1⟩ := I.base.there b o e hx
    exact there b o' (neC b o e hx) e1
  · obtain ⟨m1, e1⟩ := I.base.tbls b ps e
    obtain ⟨m2, e2⟩ := tbls b _ e1
    exact ⟨m1 ++ m2, by rw [e2, Array.append_assoc]⟩
  · obtain ⟨m, hn, hl⟩ := I.loc
    refine ⟨m, ns m hn, fun i x v e1 e2 e3 => ?_⟩
    obtain ⟨u, r, l⟩ := hl i x v e1 e2 e3
    refine ⟨u, r, ?_⟩
    rcases l with l | ⟨k, c, e, z⟩
    · exact .inl l
    · exact .inr ⟨k, c, e, cellK x c e _ z⟩
  · obtain ⟨v, z⟩ := I.cell x c e
    exact ⟨v, cellK x c e v z⟩
  · obtain ⟨m, ⟨o, _, _, ho, _⟩, _⟩ := I.loc
    exact free _ o (fun z => (hch _ z).2.1 rfl) ho I.free
  · obtain ⟨v, o, ho, hd⟩ := I.cell x c e
    exact free c o (fun z => (hch c z).2.2.1 x c e rfl) ho (I.freeC x c e)
  · obtain ⟨e, n, ne, nf, d⟩ := I.pin p hp
    have nch : p.1 ∉ ch := fun z => (hch p.1 z).2.2.2 p hp rfl
    exact ⟨keep p.1 p.2 ne nf nch e n, free p.1 p.2 nch e n, ne, nf, d⟩
/-- .. where the frame's own object is kept too -/
theorem Inv.un {t' : Nat} (I : Inv X pins σ H s) (u : Un X.fs [] H H' s.heap h') (hok : HOk X.prog X.w H' h') : Inv X pins σ H' { s with heap := h', toks := t' } := by
  obtain ⟨m, ⟨o, es, ep, ho, r⟩, _⟩ := id I.loc
  obtain ⟨sl, hL⟩ := u.any ho I.free (by simp)
  exact I.step (g' := s.gens) (d' := s.drawn) (ch := []) (fun _ z => nomatch z) (fun b o _ hb _ e n => u.keep b o e n hb (by simp)) (fun b o _ hb _ e n => u.slot b o e n hb (by simp)) (fun b o _ e n => u.free b o e n (by simp)) (fun b o _ e => u.there b o e (by simp)) u.tups u.frzs u.tbls (fun m' hm => by
    obtain ⟨o', es', ep', ho', r'⟩ := hm
    rw [ho] at ho'; cases ho'
    exact ⟨_, es', ep', hL, r'⟩) hok I.bare
/-- behind a call (or a comprehension's block): the slots of this frame may have changed too, the records at ch may have turned -/
theorem Inv.call {g' : Array GenState} {t' : Nat} {d' : Drawn} {ch : List Addr} (I : Inv X pins σ H s) (u : Un (frs X.stack) ch H H' s.heap h') (hok : HOk X.prog X.w H' h') (hg : AllBare g')
    (hch : ∀ b ∈ ch, (b ∈ X.ex ∨ X.s₀.heap.objs.size ≤ b) ∧ b ≠ X.env.locals ∧ (∀ x c, X.env.cells.lookup x = some c → c ≠ b) ∧ ∀ p ∈ X.pn ++ pins, p.1 ≠ b) :
    Inv X pins σ H' { s with heap := h', gens := g', drawn := d', toks := t' } := by
  obtain ⟨m, ⟨o, es, ep, ho, r⟩, _⟩ := id I.loc
  obtain ⟨sl, hL⟩ := u.any ho I.free fun z => (hch _ z).2.1 rfl
  exact I.step (ch := ch) hch (fun b o hL hb hc e n => u.keep b o e n (fun z => (List.mem_cons.mp (I.stkSub b z)).elim hL hb) hc) (fun b o _ _ hc e n => u.any e n hc) (fun b o hc e n => u.free b o e n hc) (fun b o hc e => u.there b o e hc) u.tups u.frzs u.tbls (fun m' hm => by
    obtain ⟨o', es', ep', ho', r'⟩ := hm
    rw [ho] at ho'; cases ho'
    exact ⟨_, es', ep', hL, r'⟩) hok hg
/-- an untracked record of ours (an iterator) has turned -/
theorem Inv.turned {t' : Nat} {it : Addr} (I : Inv X pins σ H s) (k : ∀ b o, b ≠ it → s.heap.get? b = some o → h'.get? b = some o) (hn : H it = none) (hL : it ≠ X.env.locals)
    (h1 : it ∈ X.ex ∨ X.s₀.heap.objs.size ≤ it) (h2 : ∀ x c, X.env.cells.lookup x = some c → c ≠ it) (h3 : ∀ p ∈ X.pn ++ pins, p.1 ≠ it) : Inv X pins σ H { s with heap := h', toks := t' } := by
  have nit : ∀ b u, H b = some u → b ≠ it := fun b u e z => by rw [z, hn] at e; cases e
  refine I.step (g' := s.gens) (d' := s.drawn) (ch := [it]) (fun b hb => ?_) (fun b o _ _ hc e _ => k b o (fun z => hc (by simp [z])) e) (fun b o _ _ hc e _ => ⟨o.slots, k b o (fun z => hc (by simp [z])) e⟩) (fun _ _ _ _ n => n)
    (fun b o hc e => ⟨o, k b o (fun z => hc (by simp [z])) e⟩) (fun _ _ e => e) (fun _ _ _ e => e) (fun b ps e => ⟨#[], by rw [e]; simp⟩) (fun m hm => ?_) (fun b u e => ?_) I.bare
  · have e : b = it := by simpa using hb
    subst e
    exact ⟨h1, hL, h2, h3⟩
  · obtain ⟨o, es, ep, ho, r⟩ := hm
    exact ⟨o, es, ep, k _ o (Ne.symm hL) ho, r⟩
  · refine (I.hok b u e).stay (fun c v hc q => k c v ?_ q) (fun _ q => q) fun _ _ q => q
    rcases hc with z | z
    · rw [z]; exact nit b u e
    · exact nit c _ z
theorem Inv.tok (I : Inv X pins σ H s) (t : Nat) : Inv X pins σ H { s with toks := t } := I.un (h' := s.heap) (t' := t) Un.refl I.hok
/-- all objects kept -/
theorem Inv.kept {t' : Nat} (I : Inv X pins σ H s) (k : ∀ b u, s.heap.get? b = some u → h'.get? b = some u) : Inv X pins σ H { s with heap := h', toks := t' } := I.un (Un.kept k) (I.hok.kept k)
/-- a new object laid and tracked -/
theorem Inv.laid {a : Addr} {o : HO} {t' : Nat} (I : Inv X pins σ H s) (k : ∀ b u, s.heap.get? b = some u → h'.get? b = some u) (hp : s.heap.objs.size ≤ a) (new : ObjOk X.prog X.w (upd H a o) h' a o) :
    Inv X pins σ (upd H a o) { s with heap := h', toks := t' } := I.un (Un.laid k hp (I.hok.fresh hp)) (I.hok.laid k hp new)
/-- an object written -/
theorem Inv.write {x e : Addr} {o : HO} {t' : Nat} (I : Inv X pins σ H s) (mu : Mut (H x)) (he : e = x ∨ H e = some (.own x)) (k : ∀ b u, b ≠ e → s.heap.get? b = some u → h'.get? b = some u) (heo : ∃ u, h'.get? e = some u)
    (new : ObjOk X.prog X.w (upd H x o) h' x o) : Inv X pins σ (upd H x o) { s with heap := h', toks := t' } := I.un (Un.write mu he k heo) (I.hok.write mu he k heo new)
/-- forgetting slots, pins -/
theorem Inv.weak {σ' : List (Option V)} (I : Inv X pins σ H s) (hl : σ'.length = σ.length) (w : ∀ (i : Nat) v, σ'[i]? = some (some v) → σ[i]? = some (some v)) : Inv X pins σ' H s :=
  ⟨I.ok, I.os, I.bare, I.base, let ⟨m, hn, hl'⟩ := I.loc; ⟨m, hn, fun i x v e1 e2 e3 => hl' i x v e1 (w i v e2) e3⟩, I.cell, I.free, I.freeC, I.pin, I.hok, hl.trans I.len⟩
theorem Inv.pins_of {pins' : List (Addr × Obj)} (I : Inv X pins σ H s) (h : ∀ p ∈ pins', s.heap.get? p.1 = some p.2 ∧ H p.1 = none ∧ p.1 ≠ X.env.locals ∧ p.1 ∉ X.fs ∧ ∀ v, p.2.data ≠ .cell v) : Inv X pins' σ H s :=
  ⟨I.ok, I.os, I.bare, I.base, I.loc, I.cell, I.free, I.freeC, fun p hp => (List.mem_append.mp hp).elim (fun z => I.pin p (List.mem_append_left _ z)) (h p), I.hok, I.len⟩

theorem nodup_ix {N : List Str} (hN : N.Nodup) {i j : Nat} {x : Str} (a : N[i]? = some x) (b : N[j]? = some x) : i = j := by
  obtain ⟨h1, e1⟩ := List.getElem?_eq_some_iff.mp a
  obtain ⟨h2, e2⟩ := List.getElem?_eq_some_iff.mp b
  exact (List.getElem_inj hN).mp (e1.trans e2.symm)

/-- a name is stored; what changed -/
theorem store_ok2 {M : Model} {A : Around} {E : Value → Shared → Prop} {i : Nat} {x : Str} {v : V} {u : Value} {Q : Unit → Shared → Prop} (I : Inv X pins σ H s) (hN : X.N.Nodup) (hi : X.N[i]? = some x) (hx : Loc X.env.scope x) (r : RelV v u)
    (h : ∀ s', Inv X pins (σ.set i (some v)) H s' → (∃ a, Heap.SameBut a s.heap s'.heap ∧ (a = X.env.locals ∨ X.env.cells.lookup x = some a)) → Q () s') (hf : X.fn x = true ∨ X.env.scope.names.lookup x = some .local := by first | exact .inl rfl | exact .inr rfl | assumption) : wpAny M A (storeName X.env x u) Q E s := by
  obtain ⟨m, hn, hl⟩ := id I.loc
  have hcls : (X.env.scope.kind == .class || (X.env.scope.kind == .module && X.env.locals != X.env.globals)) = false := by rw [I.ok.kind]; rfl
  have hiσ : i < σ.length := by rw [I.len]; exact (List.getElem?_eq_some_iff.mp hi).1
  have cne := I.cne
  have tracked : ∀ {a : Addr} {h' : Heap}, (∃ o, s.heap.get? a = some o ∧ H a = none) → Heap.SameBut a s.heap h' → HOk X.prog X.w H h' := fun {a h'} ha hs b ob e => by
    obtain ⟨_, _, hfree⟩ := ha
    refine (I.hok b ob e).stay (fun c w' hc q => (hs.2 c ?_).trans q) (fun _ q => q) fun _ _ q => q
    rintro rfl
    rcases hc with rfl | hc
    · rw [hfree] at e; cases e
    · rw [hfree] at hc; cases hc
  rcases hx with hk | hk
  · refine wpAny_storeName_local hk hn (fun h' hn' hs => ?_) hcls
    obtain ⟨oL, _, _, hoL, _⟩ := id hn
    refine h _ ⟨I.ok, I.os, I.bare, ⟨fun b o e n hb hx => ?_, fun b o e n hb hx => ?_, I.base.free, fun b o e hx => ?_, I.base.tups, I.base.frzs, I.base.tbls⟩, ⟨_, hn', fun j y v' e1 e2 e3 => ?_⟩, fun y c e => ?_, I.free, I.freeC, fun p hp => ?_, tracked ⟨oL, hoL, I.free⟩ hs, by simpa using I.len⟩ ⟨_, hs, .inl rfl⟩
    · exact (hs.2 b (Nat.ne_of_lt (Nat.lt_of_lt_of_le (Heap.lt_size e) I.ok.above))).trans (I.base.keep b o e n hb hx)
    · obtain ⟨sl, e1⟩ := I.base.slot b o e n hb hx
      exact ⟨sl, (hs.2 b (Nat.ne_of_lt (Nat.lt_of_lt_of_le (Heap.lt_size e) I.ok.above))).trans e1⟩
    · obtain ⟨o', e1⟩ := I.base.there b o e hx
      exact ⟨o', (hs.2 b (Nat.ne_of_lt (Nat.lt_of_lt_of_le (Heap.lt_size e) I.ok.above))).trans e1⟩
    · by_cases hj : j = i
      · subst hj
        rw [hi] at e1; cases e1
        rw [List.getElem?_set_self hiσ] at e2
        cases e2
        exact ⟨u, r, .inl ⟨hk, by simp⟩⟩
      · rw [List.getElem?_set_ne (Ne.symm hj)] at e2
        obtain ⟨u', r', q⟩ := hl j y v' e1 e2 e3
        refine ⟨u', r', ?_⟩
        rcases q with ⟨k, e⟩ | ⟨k, c, e, z⟩
        · refine .inl ⟨k, ?_⟩
          have : y ≠ x := fun e => hj (nodup_ix hN e1 (e ▸ hi))
          simp [this, e]
        · exact .inr ⟨k, c, e, z.sameBut hs (cne y c e)⟩
    · obtain ⟨w', z⟩ := I.cell y c e
      exact ⟨w', z.sameBut hs (cne y c e)⟩
    · obtain ⟨e, n, ne, nf, d⟩ := I.pin p hp
      exact ⟨(hs.2 p.1 ne).trans e, n, ne, nf, d⟩
  · have hfn : X.fn x = true := by
      rcases hf with z | z
      · exact z
      · rw [z] at hk; cases hk
    obtain ⟨c, hc⟩ := I.ok.has x (.inl hk)
    obtain ⟨w', z⟩ := I.cell x c hc
    refine wpAny_storeName_cell I.ok.kind hk hc z (fun h' hc' hs => ?_)
    obtain ⟨oc, hoc, hocd⟩ := id z
    refine h { s with heap := h' } ⟨I.ok, I.os, I.bare, ⟨fun b o e n hb hx => ?_, fun b o e n hb hx => ?_, I.base.free, fun b o e hx => ?_, I.base.tups, I.base.frzs, I.base.tbls⟩, ⟨m, hn.sameBut hs (Ne.symm (cne x c hc)), fun j y v' e1 e2 e3 => ?_⟩, fun y c' e => ?_, I.free, I.freeC, fun p hp => ?_, tracked ⟨oc, hoc, I.freeC x c hc⟩ hs, by simpa using I.len⟩ ⟨c, hs, .inr hc⟩
    · exact (hs.2 b (Nat.ne_of_lt (Nat.lt_of_lt_of_le (Heap.lt_size e) (I.ok.cab x c hfn hc)))).trans (I.base.keep b o e n hb hx)
    · obtain ⟨sl, e1⟩ := I.base.slot b o e n hb hx
      exact ⟨sl, (hs.2 b (Nat.ne_of_lt (Nat.lt_of_lt_of_le (Heap.lt_size e) (I.ok.cab x c hfn hc)))).trans e1⟩
    · obtain ⟨o', e1⟩ := I.base.there b o e hx
      exact ⟨o', (hs.2 b (Nat.ne_of_lt (Nat.lt_of_lt_of_le (Heap.lt_size e) (I.ok.cab x c hfn hc)))).trans e1⟩
    · by_cases hj : j = i
      · subst hj
        rw [hi] at e1; cases e1
        rw [List.getElem?_set_self hiσ] at e2
        cases e2
        exact ⟨u, r, .inr ⟨.inl hk, c, hc, hc'⟩⟩
      · rw [List.getElem?_set_ne (Ne.symm hj)] at e2
        obtain ⟨u', r', q⟩ := hl j y v' e1 e2 e3
        refine ⟨u', r', ?_⟩
        rcases q with q | ⟨k, c', e, z'⟩
        · exact .inl q
        · refine .inr ⟨k, c', e, z'.sameBut hs ?_⟩
          rintro rfl
          exact hj (nodup_ix hN e1 (I.ok.inj _ _ _ e hc ▸ hi))
    · by_cases hcc : c' = c
      · subst hcc; exact ⟨_, hc'⟩
      · obtain ⟨w2, z2⟩ := I.cell y c' e
        exact ⟨w2, z2.sameBut hs hcc⟩
    · obtain ⟨e, n, ne, nf, d⟩ := I.pin p hp
      refine ⟨(hs.2 p.1 ?_).trans e, n, ne, nf, d⟩
      intro q
      rw [q, hoc] at e
      have q' : oc = p.2 := Option.some.inj e
      exact d w' (by rw [← q']; exact hocd)
theorem store_ok {M : Model} {A : Around} {E : Value → Shared → Prop} {i : Nat} {x : Str} {v : V} {u : Value} {Q : Unit → Shared → Prop} (I : Inv X pins σ H s) (hN : X.N.Nodup) (hi : X.N[i]? = some x) (hx : Loc X.env.scope x) (r : RelV v u)
    (h : ∀ s', Inv X pins (σ.set i (some v)) H s' → Q () s') (hf : X.fn x = true ∨ X.env.scope.names.lookup x = some .local := by first | exact .inl rfl | exact .inr rfl | assumption) : wpAny M A (storeName X.env x u) Q E s :=
  store_ok2 I hN hi hx r (fun s' I' _ => h s' I') hf
/-- behind a call or a block, the state as it is -/
theorem Inv.call' {s' : Shared} {ch : List Addr} (I : Inv X pins σ H s) (ho : s'.os = s.os) (u : Un (frs X.stack) ch H H' s.heap s'.heap) (hok : HOk X.prog X.w H' s'.heap) (hg : AllBare s'.gens)
    (hch : ∀ b ∈ ch, (b ∈ X.ex ∨ X.s₀.heap.objs.size ≤ b) ∧ b ≠ X.env.locals ∧ (∀ x c, X.env.cells.lookup x = some c → c ≠ b) ∧ ∀ p ∈ X.pn ++ pins, p.1 ≠ b) : Inv X pins σ H' s' := by
  obtain ⟨h', g', d', t', o'⟩ := s'
  have e : o' = s.os := ho
  subst e
  exact I.call (g' := g') (t' := t') (d' := d') u hok hg hch
end

/-! ### the judgements -/
/-- an exception: its class, its own dict's address (where it has one), the abstract heap behind it -/
abbrev XK := Value → Option Addr → Hp → Prop
abbrev St := List (Option V)
abbrev VK := V → Hp → Prop
/-- an expression's reading; a test's; an argument list's -/
abbrev TE := St → Hp → VK → Prop
abbrev TT := St → Hp → (Bool → Hp → Prop) → Prop
abbrev TA := St → Hp → (List V → Hp → Prop) → Prop
/-- what is wanted behind a statement -/
structure Ends where
  nx : St → Hp → Prop
  rt : VK
  bk : St → Hp → Prop := fun _ _ => False
  ct : St → Hp → Prop := fun _ _ => False
abbrev TS := Ends → St → Hp → Prop

def EP (X : Cx) (pins : List (Addr × Obj)) (σ : St) (Q : VK) (u : Value) (s' : Shared) : Prop := ∃ v H', Inv X pins σ H' s' ∧ RelV v u ∧ Q v H'
def TP (X : Cx) (pins : List (Addr × Obj)) (σ : St) (Q : Bool → Hp → Prop) (b : Bool) (s' : Shared) : Prop := ∃ H', Inv X pins σ H' s' ∧ Q b H'
def AP (X : Cx) (pins : List (Addr × Obj)) (σ : St) (Q : List V → Hp → Prop) (us : List Value) (s' : Shared) : Prop := ∃ vs H', Inv X pins σ H' s' ∧ Vals vs us ∧ Q vs H'
def SP (X : Cx) (pins : List (Addr × Obj)) (D : Ends) (f : Flow) (s' : Shared) : Prop :=
  match f with
  | .next => ∃ σ' H', Inv X pins σ' H' s' ∧ D.nx σ' H'
  | .brk => ∃ σ' H', Inv X pins σ' H' s' ∧ D.bk σ' H'
  | .cont => ∃ σ' H', Inv X pins σ' H' s' ∧ D.ct σ' H'
  | .ret u => ∃ v σ' H', Inv X pins σ' H' s' ∧ RelV v u ∧ D.rt v H'

def PE (X : Cx) (e : Expr) (t : TE) : Prop :=
  ∀ (pins : List (Addr × Obj)) (s : Shared) (σ : St) (H : Hp) (Q : VK), Inv X pins σ H s → t σ H Q → wpAny (model X.prog X.w) X.A (eval e X.env) (EP X pins σ Q) X.xe s
def PT (X : Cx) (e : Expr) (t : TT) : Prop :=
  ∀ (pins : List (Addr × Obj)) (s : Shared) (σ : St) (H : Hp) (Q : Bool → Hp → Prop), Inv X pins σ H s → t σ H Q → wpAny (model X.prog X.w) X.A (isTrue e X.env (eval e X.env)) (TP X pins σ Q) X.xe s
/-- a test whatever its 'whole' is (and, or) -/
def PW (X : Cx) (e : Expr) (t : TT) : Prop :=
  ∀ (whole : Sem Value) (pins : List (Addr × Obj)) (s : Shared) (σ : St) (H : Hp) (Q : Bool → Hp → Prop), Inv X pins σ H s → t σ H Q → wpAny (model X.prog X.w) X.A (isTrue e X.env whole) (TP X pins σ Q) X.xe s
theorem PW.pt {X : Cx} {e : Expr} {t : TT} (h : PW X e t) : PT X e t := h _
/-- an argument list (no star), from the left -/
def PA (X : Cx) (es : List Expr) (t : TA) : Prop :=
  ∀ (pos : Pos) (pins : List (Addr × Obj)) (s : Shared) (σ : St) (H : Hp) (Q : List V → Hp → Prop), Inv X pins σ H s → t σ H Q → wpAny (model X.prog X.w) X.A (spliced (backTo pos (starEach es X.env))) (AP X pins σ Q) X.xe s
def PS (X : Cx) (st : Stmt) (t : TS) : Prop :=
  ∀ (pins : List (Addr × Obj)) (s : Shared) (σ : St) (H : Hp) (D : Ends), Inv X pins σ H s → t D σ H → wpAny (model X.prog X.w) X.A (exec st X.env) (SP X pins D) X.xe s
def PSs (X : Cx) (st : List Stmt) (t : TS) : Prop :=
  ∀ (pins : List (Addr × Obj)) (s : Shared) (σ : St) (H : Hp) (D : Ends), Inv X pins σ H s → t D σ H → wpAny (model X.prog X.w) X.A (execs st X.env) (SP X pins D) X.xe s
/-- weaken the end -/
theorem thn {α : Type} {t : Sem α} {Q Q' : α → Shared → Prop} {M : Model} {A : Around} {E : Value → Shared → Prop} {s : Shared} (h : wpAny M A t Q E s) (hQ : ∀ a s, Q a s → Q' a s) : wpAny M A t Q' E s := wpAny_mono h hQ fun _ _ x => x
end L2

namespace L2
open PySem PySem.Spec PyProof.Rows
section
variable {X : Cx}

/-! ### names and constants -/
def tVar (i : Nat) : TE := fun σ H Q => ∃ v, σ[i]? = some (some v) ∧ Q v H
def tC (v : V) : TE := fun _ H Q => Q v H
theorem pe_var {i : Nat} {x : Str} {pos : Pos} (hN : X.N[i]? = some x) (hv : Vis X.env.scope x) (hd : (x == ("__debug__" : Str)) = false := by decide) (hcd : (x == ("__classdict__" : Str)) = false := by decide) : PE X (.Name x pos) (tVar i) := by
  intro pins s σ H Q I h
  obtain ⟨v, e, h⟩ := h
  obtain ⟨m, hn, hl⟩ := I.loc
  obtain ⟨u, r, l⟩ := hl i x v hN e hv
  have fin : EP X pins σ Q u s := ⟨v, H, I, r, h⟩
  rcases l with ⟨hk, hm⟩ | ⟨hk, c, hc, hcell⟩
  · exact wpAny_Name (wpAny_loadName_local I.ok.kind hk hn hm fin) hd
  · rcases hk with hk | hk
    · exact wpAny_Name (wpAny_loadName_cell I.ok.kind hk hc hcell fin) hd
    · exact wpAny_Name (wpAny_loadName_free I.ok.kind hk hc hcell fin hcd) hd
theorem pe_int {i j pos} : PE X (.Constant (.int i) j pos) (tC (.int i)) := fun _ _ _ H _ I h => wpAny_Constant_int ⟨.int i, H, I.tok _, ⟨_, rfl⟩, h⟩
theorem pe_bl {b j pos} : PE X (.Constant (.bool b) j pos) (tC (.bl b)) := fun _ _ _ H _ I h => Constant_bool ⟨.bl b, H, I, rfl, h⟩
theorem pe_non {j pos} : PE X (.Constant .none j pos) (tC .non) := fun _ _ _ H _ I h => Constant_none ⟨.non, H, I, rfl, h⟩
theorem pe_str {x j pos} : PE X (.Constant (.str x) j pos) (tC (.str x)) := fun _ _ _ H _ I h => Calls.Constant_str ⟨.str x, H, I.tok _, ⟨_, rfl⟩, h⟩

/-- a global name of the def -/
def Gl (X : Cx) (x : Str) : Prop := X.env.kindOf x = some .globalImplicit
theorem ld_glob {E : Value → Shared → Prop} {pins : List (Addr × Obj)} {s : Shared} {σ : St} {H : Hp} {x : Str} {u : Value} {pos : Pos} {Q : Value → Shared → Prop} (I : Inv X pins σ H s) (hg : Gl X x) (hm : X.mg x = some u) (h : Q u s)
    (hd : (x == ("__debug__" : Str)) = false := by decide) : wpAny (model X.prog X.w) X.A (eval (.Name x pos) X.env) Q E s :=
  Calls.Name_function_global I.ok.kind hg (Calls.loadGlobal_global (by rw [I.ok.glob]; exact I.mod.glob.keeps I.bk) hm h) hd
theorem ld_blt {E : Value → Shared → Prop} {pins : List (Addr × Obj)} {s : Shared} {σ : St} {H : Hp} {x : Str} {u : Value} {pos : Pos} {Q : Value → Shared → Prop} (I : Inv X pins σ H s) (hg : Gl X x) (hm : X.mg x = none) (hv : bootBuiltins x = some u) (h : Q u s)
    (hn : x ≠ "__name__" := by decide) (hd : (x == ("__debug__" : Str)) = false := by decide) : wpAny (model X.prog X.w) X.A (eval (.Name x pos) X.env) Q E s := by
  obtain ⟨mb, h1, h2⟩ := I.mod.blt
  exact Calls.Name_function_global I.ok.kind hg (Calls.loadGlobal_builtin (by rw [I.ok.glob]; exact I.mod.glob.keeps I.bk) hm (by rw [I.ok.blt]; exact h1.keeps I.bk) ((h2 x hn).trans hv) h) hd
theorem pe_bltn {x : Str} {v : V} {u : Value} {pos : Pos} (hg : Gl X x) (hm : X.mg x = none) (hv : bootBuiltins x = some u) (r : RelV v u) (hn : x ≠ "__name__" := by decide) (hd : (x == ("__debug__" : Str)) = false := by decide) : PE X (.Name x pos) (tC v) :=
  fun _ _ _ H _ I h => ld_blt I hg hm hv ⟨v, H, I, r, h⟩ hn hd

/-! ### arithmetic -/
/-- two ints -/
def t2I (ta tb : TE) (k : Int → Int → Hp → Prop) : St → Hp → Prop := fun σ H => ta σ H fun x H1 => tb σ H1 fun y H2 => ∃ i j, x = .int i ∧ y = .int j ∧ k i j H2
def tAdd (ta tb : TE) : TE := fun σ H Q => t2I ta tb (fun i j H2 => Q (.int (i + j)) H2) σ H
def tSub (ta tb : TE) : TE := fun σ H Q => t2I ta tb (fun i j H2 => Q (.int (i - j)) H2) σ H
/-- the left factor below 2^64 -/
def tMul (ta tb : TE) : TE := fun σ H Q => t2I ta tb (fun i j H2 => (-(2 ^ 64) < i ∧ i < 2 ^ 64) ∧ Q (.int (i * j)) H2) σ H
variable {a b : Expr} {ta tb : TE} {pos : Pos}
/-! ### comparisons -/
def PC (X : Cx) (op : CmpOp) (a b : Expr) (t : TE) : Prop :=
  ∀ (pins : List (Addr × Obj)) (s : Shared) (σ : St) (H : Hp) (Q : VK), Inv X pins σ H s → t σ H Q →
    wpAny (model X.prog X.w) X.A (eval a X.env) (fun v s₁ => wpAny (model X.prog X.w) X.A (eval b X.env) (fun u s₂ => wpAny (model X.prog X.w) X.A (compareOp op v u) (EP X pins σ Q) X.xe s₂) X.xe s₁) X.xe s
theorem nobehind (b : Expr) {op : CmpOp} (h : op ≠ .In) (h2 : op ≠ .NotIn) : behindInMarks op b = false := by
  have e1 : (op == CmpOp.In) = false := by cases op <;> first | rfl | exact absurd rfl h
  have e2 : (op == CmpOp.NotIn) = false := by cases op <;> first | rfl | exact absurd rfl h2
  cases b <;> simp [behindInMarks, e1, e2]
def tCmp (p : Int → Int → Bool) (ta tb : TE) : TE := fun σ H Q => t2I ta tb (fun i j H2 => Q (.bl (p i j)) H2) σ H
abbrev tLt : TE → TE → TE := tCmp fun i j => decide (i < j)
abbrev tLe : TE → TE → TE := tCmp fun i j => decide (i ≤ j)
abbrev tGt : TE → TE → TE := tCmp fun i j => decide (j < i)
abbrev tGe : TE → TE → TE := tCmp fun i j => decide (j ≤ i)
abbrev tEqI : TE → TE → TE := tCmp fun i j => decide (i = j)
abbrev tNeI : TE → TE → TE := tCmp fun i j => !decide (i = j)
/-- is None -/
def tIsN (ta : TE) : TE := fun σ H Q => ta σ H fun x H1 => Q (.bl (decide (x = .non))) H1
def tNotN (ta : TE) : TE := fun σ H Q => ta σ H fun x H1 => Q (.bl (!decide (x = .non))) H1
theorem RelV.none_iff {x : V} {v : Value} (r : RelV x v) : (v == Value.none) = decide (x = .non) := by
  cases x with
  | non => cases r; rfl
  | bl _ => cases r; rfl
  | int _ => obtain ⟨t, rfl⟩ := r; rfl
  | str _ => obtain ⟨t, rfl⟩ := r; rfl
  | byt _ => obtain ⟨t, rfl⟩ := r; rfl
  | flt _ => obtain ⟨t, rfl⟩ := r; rfl
  | ref _ => cases r; rfl
  | ty _ => cases r; rfl
theorem pc_isN {j pos'} (ha : PE X a ta) : PC X .Is a (.Constant .none j pos') (tIsN ta) := by
  intro pins s σ H Q I h
  refine thn (ha pins s σ H _ I h) fun v s1 ⟨x, H1, I1, r1, q1⟩ => ?_
  exact Constant_none (is_none_gen ⟨.bl _, H1, I1, by rw [r1.none_iff]; rfl, q1⟩)
/-- a comparison as a value, as a test -/
def tB (t : TE) : TT := fun σ H Q => t σ H fun x H1 => ∃ c, x = .bl c ∧ Q c H1
theorem pe_cmp {op : CmpOp} {t : TE} (h : PC X op a b t) (h1 : behindInMarks op b = false := by first | exact nobehind _ (by decide) (by decide) | rfl) : PE X (.Compare a [op] [b] pos) t := fun pins s σ H Q I hw => wpAny_Compare1 (h pins s σ H Q I hw) h1
theorem pt_cmp {op : CmpOp} {t : TE} (h : PC X op a b t) (h1 : behindInMarks op b = false := by first | exact nobehind _ (by decide) (by decide) | rfl) : PT X (.Compare a [op] [b] pos) (tB t) := by
  intro pins s σ H Q I hw
  refine wpAny_isTrue_Compare1 (thn (h pins s σ H _ I hw) fun v s1 h1 => thn h1 fun u s2 h2 => thn h2 fun c s3 ⟨x, H1, I1, r1, q1⟩ => ?_) h1
  obtain ⟨d, rfl, q⟩ := q1
  cases r1
  exact wpAny_truthy_bool ⟨H1, I1, q⟩
/-- an expression whose value is a bool, as a test -/
theorem pt_val {e : Expr} {t : TE} (h : PE X e t) (he : ∀ whole, isTrue e X.env whole = (do let v ← whole; standAt e.pos; holding [v] (truthy v)) := by intro _; rfl) : PT X e (tB t) := by
  intro pins s σ H Q I hw
  refine isTrue_plain (thn (h pins s σ H _ I hw) fun v s1 ⟨x, H1, I1, r1, q1⟩ => ?_) (he _)
  obtain ⟨d, rfl, q⟩ := q1
  cases r1
  exact wpAny_truthy_bool ⟨H1, I1, q⟩

/-! ### and, or, not -/
variable {tA tB' : TT} {rest : List Expr}
def tAnd (t u : TT) : TT := fun σ H Q => t σ H fun c H1 => if c = true then u σ H1 Q else Q false H1
def tOr (t u : TT) : TT := fun σ H Q => t σ H fun c H1 => if c = true then Q true H1 else u σ H1 Q
def tNot (t : TT) : TT := fun σ H Q => t σ H fun c H1 => Q (!c) H1
theorem pw_and1 (ha : PT X a tA) : PW X (.BoolOp .And [a] pos) tA := by
  intro wh pins s σ H Q I h
  refine isTrue_and (thn (ha pins s σ H Q I h) fun c s1 e => ?_)
  cases c with
  | true => exact isTrue_and_nil e
  | false => exact e
theorem pw_or1 (ha : PT X a tA) : PW X (.BoolOp .Or [a] pos) tA := by
  intro wh pins s σ H Q I h
  refine isTrue_or (thn (ha pins s σ H Q I h) fun c s1 e => ?_)
  cases c with
  | false => exact isTrue_or_nil e
  | true => exact e
theorem pw_and (ha : PT X a tA) (hb : PW X (.BoolOp .And (b :: rest) pos) tB') : PW X (.BoolOp .And (a :: b :: rest) pos) (tAnd tA tB') := by
  intro wh pins s σ H Q I h
  refine isTrue_and (thn (ha pins s σ H _ I h) fun c s1 ⟨H1, I1, q1⟩ => ?_)
  cases c with
  | true => exact hb wh pins s1 σ H1 Q I1 q1
  | false => exact ⟨H1, I1, q1⟩
theorem pw_or (ha : PT X a tA) (hb : PW X (.BoolOp .Or (b :: rest) pos) tB') : PW X (.BoolOp .Or (a :: b :: rest) pos) (tOr tA tB') := by
  intro wh pins s σ H Q I h
  refine isTrue_or (thn (ha pins s σ H _ I h) fun c s1 ⟨H1, I1, q1⟩ => ?_)
  cases c with
  | true => exact ⟨H1, I1, q1⟩
  | false => exact hb wh pins s1 σ H1 Q I1 q1
theorem pt_not (ha : PT X a tA) : PT X (.UnaryOp .Not a pos) (tNot tA) := by
  intro pins s σ H Q I h
  exact isTrue_not (ha pins s σ H (fun c H1 => Q (!c) H1) I h)
/-- .. as values (bools) -/
def tAndV (ta tb : TE) : TE := fun σ H Q => ta σ H fun x H1 => ∃ c, x = .bl c ∧ if c = true then tb σ H1 Q else Q (.bl false) H1
def tOrV (ta tb : TE) : TE := fun σ H Q => ta σ H fun x H1 => ∃ c, x = .bl c ∧ if c = true then Q (.bl true) H1 else tb σ H1 Q
def tNotV (ta : TE) : TE := fun σ H Q => ta σ H fun x H1 => ∃ c, x = .bl c ∧ Q (.bl (!c)) H1
theorem pe_one {op} {t : TE} (h : PE X a t) : PE X (.BoolOp op [a] pos) t := fun pins s σ H Q I hw => BoolOp_one (h pins s σ H Q I hw)
theorem pe_and (ha : PE X a ta) (hb : PE X (.BoolOp .And (b :: rest) pos) tb) : PE X (.BoolOp .And (a :: b :: rest) pos) (tAndV ta tb) := by
  intro pins s σ H Q I h
  refine BoolOp_and (thn (ha pins s σ H _ I h) fun v s1 ⟨x, H1, I1, r1, q1⟩ => ?_)
  obtain ⟨c, rfl, q1⟩ := q1
  cases r1
  refine wpAny_truthy_bool ?_
  cases c with
  | true => exact hb pins s1 σ H1 Q I1 q1
  | false => exact ⟨.bl false, H1, I1, rfl, q1⟩
theorem pe_not (ha : PE X a ta) : PE X (.UnaryOp .Not a pos) (tNotV ta) := by
  intro pins s σ H Q I h
  refine UnaryOp_ (thn (ha pins s σ H _ I h) fun v s1 ⟨x, H1, I1, r1, q1⟩ => ?_)
  obtain ⟨c, rfl, q1⟩ := q1
  cases r1
  exact not_of (wpAny_truthy_bool ⟨.bl (!c), H1, I1, rfl, q1⟩)
/-- a if t else b -/
def tIf (t : TT) (ta tb : TE) : TE := fun σ H Q => t σ H fun c H1 => if c = true then ta σ H1 Q else tb σ H1 Q
end
end L2

namespace L2
open PySem PySem.Spec PyProof.Rows

/-! ### a list, a tuple that is read: tracked, frozen, or an object of the module -/
def SqL (K : PySem.W.Frag) (H : Hp) (a : Addr) (xs : List V) : Prop :=
  Rd H a (.lst xs) ∨
    ∃ (o : Obj) (its : Array Value) (n : Nat), K.lookup a = some o ∧ o.cls = .type "list" ∧ o.dict = none ∧ o.data = .seq its n ∧ its.size ≤ sizeLine ∧ Vals xs its.toList
def SqT (K : PySem.W.Frag) (H : Hp) (a : Addr) (xs : List V) : Prop :=
  Rd H a (.tup xs) ∨
    ∃ (o : Obj) (its : Array Value) (n : Nat), K.lookup a = some o ∧ o.cls = .type "tuple" ∧ o.data = .seq its n ∧ its.size ≤ sizeLine ∧ Vals xs its.toList
def absV : Value → Option V
  | .none => some .non
  | .bool b => some (.bl b)
  | .int i _ => some (.int i)
  | .str x _ => some (.str x)
  | .bytes b _ => some (.byt b)
  | .float b _ => some (.flt b)
  | .ref a => some (.ref a)
  | .type n => some (.ty n)
  | _ => none
theorem RelV.abs {x : V} {u : Value} (r : RelV x u) : absV u = some x := by
  cases x with
  | non => cases r; rfl
  | bl _ => cases r; rfl
  | int _ => obtain ⟨t, rfl⟩ := r; rfl
  | str _ => obtain ⟨t, rfl⟩ := r; rfl
  | byt _ => obtain ⟨t, rfl⟩ := r; rfl
  | flt _ => obtain ⟨t, rfl⟩ := r; rfl
  | ref _ => cases r; rfl
  | ty _ => cases r; rfl
theorem RelV.inj {x y : V} {u : Value} (r : RelV x u) (q : RelV y u) : x = y := Option.some.inj (r.abs.symm.trans q.abs)
theorem Vals.inj : ∀ {xs ys : List V} {us : List Value}, Vals xs us → Vals ys us → xs = ys
  | _, _, _, .nil, .nil => rfl
  | _, _, _, .cons r t, .cons r' t' => by rw [r.inj r', Vals.inj t t']
section
variable {X : Cx} {pins : List (Addr × Obj)} {σ : St} {H : Hp} {s : Shared} {a : Addr} {xs ys : List V}
theorem SqL.of {K : PySem.W.Frag} (h : H a = some (.lst xs)) : SqL K H a xs := .inl (.inl h)
theorem SqT.of {K : PySem.W.Frag} (h : H a = some (.tup xs)) : SqT K H a xs := .inl (.inl h)
theorem Inv.list (I : Inv X pins σ H s) (h : SqL X.K H a xs) : ∃ its : List Value, Vals xs its ∧ PlainL s.heap a its.toArray ∧ xs.length ≤ sizeLine := by
  rcases h with h | ⟨o, its, n, hk, hc, hd, hs, hz, r⟩
  · obtain ⟨z, its, n, r, e⟩ := h.ok I.hok
    exact ⟨its, r, ⟨_, n, e, rfl, rfl, rfl⟩, z⟩
  · refine ⟨its.toList, r, ⟨o, n, I.kIn a o hk, hc, hd, by simpa using hs⟩, ?_⟩
    have e := r.length
    simp only [Array.length_toList] at e
    omega
theorem Inv.tuple (I : Inv X pins σ H s) (h : SqT X.K H a xs) : ∃ its : List Value, Vals xs its ∧ IsTup s.heap a its.toArray ∧ xs.length ≤ sizeLine := by
  rcases h with h | ⟨o, its, n, hk, hc, hs, hz, r⟩
  · obtain ⟨z, its, r, p⟩ := h.ok I.hok
    exact ⟨its, r, p, z⟩
  · refine ⟨its.toList, r, ⟨o, I.kIn a o hk, hc, n, by simpa using hs⟩, ?_⟩
    have e := r.length
    simp only [Array.length_toList] at e
    omega
theorem Inv.list_inj (I : Inv X pins σ H s) (h : SqL X.K H a xs) (h' : SqL X.K H a ys) : xs = ys := by
  obtain ⟨its, r, ⟨o, n, e, _, _, d⟩, _⟩ := I.list h
  obtain ⟨its', r', ⟨o', n', e', _, _, d'⟩, _⟩ := I.list h'
  rw [e] at e'; cases e'
  rw [d] at d'
  injection d' with d1 _
  have : its = its' := by simpa using congrArg Array.toList d1
  subst this
  exact r.inj r'
theorem Inv.tuple_inj (I : Inv X pins σ H s) (h : SqT X.K H a xs) (h' : SqT X.K H a ys) : xs = ys := by
  obtain ⟨its, r, ⟨o, e, _, n, d⟩, _⟩ := I.tuple h
  obtain ⟨its', r', ⟨o', e', _, n', d'⟩, _⟩ := I.tuple h'
  rw [e] at e'; cases e'
  rw [d] at d'
  injection d' with d1 _
  have : its = its' := by simpa using congrArg Array.toList d1
  subst this
  exact r.inj r'
end

/-! ### another wish about exceptions -/
abbrev Cx.wish (X : Cx) (E : Value → Shared → Prop) : Cx := { X with xe := E }
/-- no exception leaves -/
abbrev Cx.nox (X : Cx) : Cx := X.wish fun _ _ => False
theorem Cx.Ok.wish {X : Cx} (ok : X.Ok) (E : Value → Shared → Prop) : (X.wish E).Ok :=
  ⟨ok.mod, ok.kind, ok.glob, ok.blt, ok.above, ok.inj, ok.has, ok.cab, ok.hd, ok.frames, ok.stk, ok.exf, ok.bs, ok.bsz, ok.noex, ok.exfs, ok.funs, ok.frf⟩
theorem Cx.Ok.unwish {X : Cx} {E : Value → Shared → Prop} (ok : (X.wish E).Ok) : X.Ok :=
  ⟨ok.mod, ok.kind, ok.glob, ok.blt, ok.above, ok.inj, ok.has, ok.cab, ok.hd, ok.frames, ok.stk, ok.exf, ok.bs, ok.bsz, ok.noex, ok.exfs, ok.funs, ok.frf⟩
section
variable {X : Cx} {pins : List (Addr × Obj)} {σ : St} {H : Hp} {s : Shared} {E : Value → Shared → Prop}
theorem Inv.wish (I : Inv X pins σ H s) (E : Value → Shared → Prop) : Inv (X.wish E) pins σ H s := ⟨I.ok.wish E, I.os, I.bare, I.base, I.loc, I.cell, I.free, I.freeC, I.pin, I.hok, I.len⟩
theorem Inv.unwish (I : Inv (X.wish E) pins σ H s) : Inv X pins σ H s := ⟨I.ok.unwish, I.os, I.bare, I.base, I.loc, I.cell, I.free, I.freeC, I.pin, I.hok, I.len⟩
theorem SP.unwish {D : Ends} {f : Flow} {s' : Shared} (h : SP (X.wish E) pins D f s') : SP X pins D f s' := by
  cases f with
  | next => obtain ⟨σ', H', I, q⟩ := h; exact ⟨σ', H', I.unwish, q⟩
  | brk => obtain ⟨σ', H', I, q⟩ := h; exact ⟨σ', H', I.unwish, q⟩
  | cont => obtain ⟨σ', H', I, q⟩ := h; exact ⟨σ', H', I.unwish, q⟩
  | ret u => obtain ⟨v, σ', H', I, r, q⟩ := h; exact ⟨v, σ', H', I.unwish, r, q⟩
theorem PE.nox {e : Expr} {t : TE} (h : PE X.nox e t) : PE X e t := fun pins s σ H Q I hw =>
  wpAny_mono (h pins s σ H Q (I.wish _) hw) (fun _ _ ⟨v, H', I', r, q⟩ => ⟨v, H', I'.unwish, r, q⟩) fun _ _ z => False.elim z
theorem PT.nox {e : Expr} {t : TT} (h : PT X.nox e t) : PT X e t := fun pins s σ H Q I hw =>
  wpAny_mono (h pins s σ H Q (I.wish _) hw) (fun _ _ ⟨H', I', q⟩ => ⟨H', I'.unwish, q⟩) fun _ _ z => False.elim z
theorem PSs.nox {st : List Stmt} {t : TS} (h : PSs X.nox st t) : PSs X st t := fun pins s σ H D I hw =>
  wpAny_mono (h pins s σ H D (I.wish _) hw) (fun _ _ q => q.unwish) fun _ _ z => False.elim z
end

/-! ### blocks and small statements -/
section
variable {X : Cx} {st : Stmt} {rest : List Stmt} {t u : TS} {e : Expr} {te : TE} {pos : Pos}
def tNext : TS := fun D σ H => D.nx σ H
def tSeq (t u : TS) : TS := fun D σ H => t { D with nx := u D } σ H
theorem pss_nil : PSs X [] tNext := fun _ _ σ H _ I h => wpAny_execs_nil ⟨σ, H, I, h⟩
theorem pss_cons (h1 : PS X st t) (h2 : PSs X rest u) : PSs X (st :: rest) (tSeq t u) := by
  intro pins s σ H D I h
  refine wpAny_execs_cons (thn (h1 pins s σ H { D with nx := u D } I h) fun f s1 q => ?_)
  cases f with
  | next =>
    obtain ⟨σ', H', I', q⟩ := q
    exact h2 pins s1 σ' H' D I' q
  | ret v => exact q
  | brk => exact q
  | cont => exact q
theorem pss_one (h1 : PS X st t) : PSs X [st] t := by
  intro pins s σ H D I h
  refine wpAny_execs_cons (thn (h1 pins s σ H D I h) fun f s1 q => ?_)
  cases f with
  | next => exact wpAny_execs_nil q
  | ret v => exact q
  | brk => exact q
  | cont => exact q
def tBreak : TS := fun D σ H => D.bk σ H
def tCont : TS := fun D σ H => D.ct σ H
/-- in a def's body nothing is shown -/
theorem Inv.quiet {pins : List (Addr × Obj)} {σ : St} {H : Hp} {s : Shared} (I : Inv X pins σ H s) : interactive X.env = false := by simp [interactive, I.ok.kind]
/-- an expression whose value is dropped -/
def tDrop (te : TE) : TS := fun D σ H => te σ H fun _ H1 => D.nx σ H1
theorem ps_expr (he : PE X e te) (hs : swapsWith e none pos.line X.env = pure false := by rfl) : PS X (.Expr e pos) (tDrop te) := by
  intro pins s σ H D I h
  exact wpAny_Expr_any (thn (he pins s σ H _ I h) fun v s1 ⟨x, H1, I1, r1, q1⟩ => ⟨σ, H1, I1, q1⟩) I.quiet hs
def tRet (te : TE) : TS := fun D σ H => te σ H D.rt
theorem ps_ret (he : PE X e te) : PS X (.Return (some e) pos) (tRet te) := by
  intro pins s σ H D I h
  exact wpAny_Return_some (thn (he pins s σ H _ I h) fun v s1 ⟨x, H1, I1, r1, q1⟩ => ⟨x, σ, H1, I1, r1, q1⟩)
def tRetN : TS := fun D _ H => D.rt .non H
def tIfS (c : TT) (t u : TS) : TS := fun D σ H => c σ H fun b H1 => if b = true then t D σ H1 else u D σ H1
theorem ps_if {c : Expr} {a b : List Stmt} {tc : TT} (hc : PT X c tc) (ha : PSs X a t) (hb : PSs X b u) : PS X (.If c a b pos) (tIfS tc t u) := by
  intro pins s σ H D I h
  refine wpAny_If (thn (hc pins s σ H _ I h) fun d s1 ⟨H1, I1, q1⟩ => ?_)
  cases d with
  | true => exact ha pins s1 σ H1 D I1 q1
  | false => exact hb pins s1 σ H1 D I1 q1
/-- code that the proof never comes to -/
def tNever : TS := fun _ _ _ => False
end

/-! ### targets -/
abbrev TG := V → St → Hp → (St → Hp → Prop) → Prop
abbrev TGs := List V → St → Hp → (St → Hp → Prop) → Prop
def PG (X : Cx) (target : Expr) (t : TG) : Prop :=
  ∀ (pins : List (Addr × Obj)) (s : Shared) (σ : St) (H : Hp) (v : V) (u : Value) (Q : St → Hp → Prop), Inv X pins σ H s → RelV v u → t v σ H Q →
    wpAny (model X.prog X.w) X.A (assign target X.env u) (fun _ s' => ∃ σ' H', Inv X pins σ' H' s' ∧ Q σ' H') X.xe s
/-- several targets, one after another -/
def PGs (X : Cx) (ts : List Expr) (t : TGs) : Prop :=
  ∀ (pins : List (Addr × Obj)) (s : Shared) (σ : St) (H : Hp) (vs : List V) (us : List Value) (Q : St → Hp → Prop), Inv X pins σ H s → Vals vs us → t vs σ H Q →
    wpAny (model X.prog X.w) X.A (assignInOrder ((assignEach ts X.env).map (·.2)) us) (fun _ s' => ∃ σ' H', Inv X pins σ' H' s' ∧ Q σ' H') X.xe s
/-- o[i] = v, by values -/
abbrev TSet := V → V → V → Hp → (Hp → Prop) → Prop
def PSet (X : Cx) (t : TSet) : Prop :=
  ∀ (pins : List (Addr × Obj)) (s : Shared) (σ : St) (H : Hp) (o i v : V) (ov iv u : Value) (Q : Hp → Prop), Inv X pins σ H s → RelV o ov → RelV i iv → RelV v u → t o i v H Q →
    wpAny (model X.prog X.w) X.A (setItem ov iv u) (fun _ s' => ∃ H', Inv X pins σ H' s' ∧ Q H') X.xe s
/-- a op= b, by values -/
abbrev TIp := V → V → Hp → VK → Prop
def PIp (X : Cx) (op : Operator) (t : TIp) : Prop :=
  ∀ (pins : List (Addr × Obj)) (s : Shared) (σ : St) (H : Hp) (x y : V) (v u : Value) (Q : VK), Inv X pins σ H s → RelV x v → RelV y u → t x y H Q →
    wpAny (model X.prog X.w) X.A (inplaceOp op v u) (EP X pins σ Q) X.xe s
section
variable {X : Cx} {pos : Pos}
def gName (i : Nat) : TG := fun v σ H Q => Q (σ.set i (some v)) H
theorem pg_name {i : Nat} {x : Str} (hN : X.N.Nodup) (hi : X.N[i]? = some x) (hx : Loc X.env.scope x) (hf : X.fn x = true ∨ X.env.scope.names.lookup x = some .local := by first | exact .inl rfl | exact .inr rfl | assumption) : PG X (.Name x pos) (gName i) := by
  intro pins s σ H v u Q I r h
  exact wpAny_assign_Name (store_ok I hN hi hx r (fun s' I' => ⟨_, H, I', h⟩) hf)
def gNil : TGs := fun vs σ H Q => vs = [] ∧ Q σ H
def gCons (t : TG) (u : TGs) : TGs := fun vs σ H Q => ∃ v r, vs = v :: r ∧ t v σ H fun σ' H' => u r σ' H' Q
theorem pgs_nil : PGs X [] gNil := by
  intro pins s σ H vs us Q I r h
  obtain ⟨e, h⟩ := h
  subst e
  cases r
  exact assignInOrder_nil ⟨σ, H, I, h⟩
theorem pgs_cons {e : Expr} {es : List Expr} {t : TG} {u : TGs} (h1 : PG X e t) (h2 : PGs X es u)
    (hs : (assignEach (e :: es) X.env).map (·.2) = assign e X.env :: (assignEach es X.env).map (·.2) := by rfl) : PGs X (e :: es) (gCons t u) := by
  intro pins s σ H vs us Q I r h
  obtain ⟨v, vr, e1, h⟩ := h
  subst e1
  cases r with
  | cons r rr =>
    rw [hs]
    refine assignInOrder_cons (thn (h1 pins s σ H _ _ _ I r h) fun _ s1 ⟨σ1, H1, I1, q1⟩ => ?_)
    exact h2 pins s1 σ1 H1 _ _ Q I1 rr q1
/-- (a, b, ..) = a tuple of that length -/
def gTup (K : PySem.W.Frag) (n : Nat) (t : TGs) : TG := fun v σ H Q => ∃ a xs, v = .ref a ∧ SqT K H a xs ∧ xs.length = n ∧ t xs σ H Q
theorem pg_tup {es : List Expr} {k : Nat} {t : TGs} {n : Nat} (hc : X.calm = true) (h : PGs X es t)
    (hn : (assignEach es X.env).length = n := by rfl) (hst : (assignEach es X.env).findIdx? (·.1) = none := by rfl) : PG X (.Tuple es k pos) (gTup X.K n t) := by
  intro pins s σ H v u Q I r hw
  obtain ⟨a, xs, e1, hq, hl, hw⟩ := hw
  subst e1
  cases r
  obtain ⟨its, rv, ht, hz⟩ := I.tuple hq
  refine assign_Tuple_tuple (I.ok.hd hc) ht (by simp [hn, ← hl, rv.length]) hst fun h' hx => ?_
  have I1 : Inv X pins σ H { s with heap := h' } := I.kept (t' := s.toks) fun b o e => hx b o (Nat.ne_of_lt (Heap.lt_size e)) e
  exact h pins _ σ H xs _ Q I1 (by simpa using rv) hw
/-- o[i] = .. -/
def gSub (to ti : TE) (t : TSet) : TG := fun v σ H Q => to σ H fun o H1 => ti σ H1 fun i H2 => t o i v H2 fun H3 => Q σ H3
theorem pg_sub {o i : Expr} {to ti : TE} {t : TSet} (ho : PE X o to) (hi : PE X i ti) (hs : PSet X t)
    (ha : ∀ v, assign (.Subscript o i pos) X.env v = (do
      let ov ← holding [v] (eval o X.env)
      let iv ← holding [v, ov] (eval i X.env)
      standAt pos
      holding [v, ov, iv] (setItem ov iv v)
      release [v, ov, iv] []) := by intro _; rfl) : PG X (.Subscript o i pos) (gSub to ti t) := by
  intro pins s σ H v u Q I r h
  rw [ha]
  refine wpAny_bind (wpAny_holding (thn (ho pins s σ H _ I h) fun ov s1 ⟨x, H1, I1, r1, q1⟩ => ?_))
  refine wpAny_bind (wpAny_holding (thn (hi pins s1 σ H1 _ I1 q1) fun iv s2 ⟨y, H2, I2, r2, q2⟩ => ?_))
  refine wpAny_bind (wpAny_standAt (wpAny_bind (wpAny_holding (thn (hs pins s2 σ H2 x y v ov iv u _ I2 r1 r2 r q2) fun _ s3 ⟨H3, I3, q3⟩ => ?_))))
  exact wpAny_release ⟨σ, H3, I3, q3⟩
/-- target = value -/
def tAsg (te : TE) (g : TG) : TS := fun D σ H => te σ H fun x H1 => g x σ H1 D.nx
theorem ps_asg {tg e : Expr} {te : TE} {g : TG} (he : PE X e te) (hg : PG X tg g) (hs : swapsWithSole [tg] e pos.line X.env = pure false := by rfl) (hw : swappedStores [tg] e X.env = pure none := by rfl)
    (h1 : (assignEach [tg] X.env).map (·.2) = [assign tg X.env] := by rfl) : PS X (.Assign [tg] e pos) (tAsg te g) := by
  intro pins s σ H D I h
  refine wpAny_Assign_stores (thn (he pins s σ H _ I h) fun v s1 ⟨x, H1, I1, r1, q1⟩ => ?_) hs hw
  rw [h1]
  exact thn (hg pins s1 σ H1 x v _ I1 r1 q1) fun _ s2 q => q
/-- name = value -/
theorem ps_set {i : Nat} {x : Str} {e : Expr} {te : TE} {pos' : Pos} (hN : X.N.Nodup) (hi : X.N[i]? = some x) (hx : Loc X.env.scope x) (he : PE X e te) (hs : swapsWith e (some (.Name x pos')) pos.line X.env = pure false := by rfl) (hf : X.fn x = true ∨ X.env.scope.names.lookup x = some .local := by first | exact .inl rfl | exact .inr rfl | assumption) :
    PS X (.Assign [.Name x pos'] e pos) (tAsg te (gName i)) := by
  intro pins s σ H D I h
  refine wpAny_Assign_Name (thn (he pins s σ H _ I h) fun v s1 ⟨y, H1, I1, r1, q1⟩ => ?_) hs
  exact store_ok I1 hN hi hx r1 (fun s2 I2 => ⟨_, H1, I2, q1⟩) hf
/-- a, b = x, y with plain local names: stored from the right; the pair itself is not tracked (the opening rows as in PyProof/Rows/TupAssign.lean:23) -/
def tPar (i j : Nat) (ta : TA) : TS := fun D σ H => ta σ H fun vs H1 => ∃ v w, vs = [v, w] ∧ D.nx ((σ.set i (some v)).set j (some w)) H1
/-- name op= e -/
def tAug (i : Nat) (te : TE) (ti : TIp) : TS := fun D σ H => ∃ x, σ[i]? = some (some x) ∧ te σ H fun y H1 => ti x y H1 fun z H2 => D.nx (σ.set i (some z)) H2
/-- o[i] op= e -/
def tAugS (to ti te : TE) (tget : V → V → Hp → VK → Prop) (tip : TIp) (tset : TSet) : TS := fun D σ H => to σ H fun o H1 => ti σ H1 fun i H2 => tget o i H2 fun x H3 => te σ H3 fun y H4 => tip x y H4 fun z H5 => tset o i z H5 fun H6 => D.nx σ H6
/-- o[i], by values -/
def PGet (X : Cx) (t : V → V → Hp → VK → Prop) : Prop :=
  ∀ (pins : List (Addr × Obj)) (s : Shared) (σ : St) (H : Hp) (o i : V) (ov iv : Value) (Q : VK), Inv X pins σ H s → RelV o ov → RelV i iv → t o i H Q →
    wpAny (model X.prog X.w) X.A (getItem ov iv) (EP X pins σ Q) X.xe s
/-- ints -/
def ipI (f : Int → Int → Int) : TIp := fun x y H Q => ∃ i j, x = .int i ∧ y = .int j ∧ Q (.int (f i j)) H
end

/-! ### while -/
section
variable {X : Cx} {pos : Pos}
/-- the invariant W with its measure -/
def tWhile (c : TT) (tb : TS) : TS := fun D σ H => ∃ W : Nat → St → Hp → Prop, (∃ m, W m σ H) ∧ ∀ m σ H, W m σ H →
  c σ H fun b H1 => if b = true then ∃ N : St → Hp → Prop, (∀ σ' H', N σ' H' → ∃ m', m' < m ∧ W m' σ' H') ∧ tb { D with nx := N, ct := N, bk := D.nx } σ H1 else D.nx σ H1
end

/-! ### what a loop or a comprehension walks -/
/-- at turn i: it yields x (the heap may grow), or it stops -/
structure It where
  go : Nat → Hp → Prop
  yld : Nat → Hp → V → Hp → Prop
  stop : Nat → Hp → Prop
/-- the iterator's own objects may turn: they are not the frame's, not pinned, younger than the entry (or a comprehension's own) -/
def FpOk (X : Cx) (pins : List (Addr × Obj)) (H : Hp) (b : Addr) : Prop :=
  H b = none ∧ b ≠ X.env.locals ∧ b ∉ X.fs ∧ (b ∈ X.ex ∨ X.s₀.heap.objs.size ≤ b) ∧ (∀ x c, X.env.cells.lookup x = some c → c ≠ b) ∧ ∀ p ∈ X.pn ++ pins, p.1 ≠ b
theorem Inv.fpOk {X : Cx} {pins : List (Addr × Obj)} {σ : St} {H H' : Hp} {s : Shared} {b : Addr} (I : Inv X pins σ H s) (hb : s.heap.objs.size ≤ b) (hn : H' b = none) : FpOk X pins H' b := by
  refine ⟨hn, Nat.ne_of_gt (Nat.lt_of_lt_of_le I.lt hb), I.nofs hb, .inr (Nat.le_trans I.sz hb), fun x c e z => ?_, fun p hp z => ?_⟩
  · obtain ⟨v, q⟩ := I.cell x c e
    exact absurd (Nat.lt_of_lt_of_le q.lt (by rw [z]; exact hb)) (Nat.lt_irrefl _)
  · exact absurd (Nat.lt_of_lt_of_le (Heap.lt_size (I.pin p hp).1) (by rw [z]; exact hb)) (Nat.lt_irrefl _)
structure Turn (P : Program) (w : World) (K : PySem.W.Frag) (tg : Expr) (J : It) (fp : List Addr) (it : Addr) (tn : Nat → Heap → Prop) : Prop where
  mem : it ∈ fp
  obj : ∀ i h, tn i h → ∀ b ∈ fp, ∃ o, h.get? b = some o ∧ ∀ v, o.data ≠ .cell v
  keep : ∀ i h h', tn i h → (∀ b ∈ fp, ∀ o, h.get? b = some o → h'.get? b = some o) → tn i h'
  item : ∀ (X : Cx), X.prog = P → X.w = w → X.K = K → X.calm = true → ∀ (i : Nat) (pins : List (Addr × Obj)) (s : Shared) (σ : St) (H : Hp) (E : Value → Shared → Prop), Inv X pins σ H s → (∀ b ∈ fp, FpOk X pins H b) → tn i s.heap → J.go i H →
    wpAny (model P w) X.A (pyNext (.ref it)) (fun r s1 => ∃ u, r = some u ∧
      wpAny (model P w) X.A (letOwnedTupleGo tg (.ref it) u) (fun _ s2 => ∃ x H', Inv X pins σ H' s2 ∧ RelV x u ∧ J.yld i H x H' ∧ tn (i + 1) s2.heap ∧ ∀ b ∈ fp, H' b = none) E s1) E s
  done : ∀ (X : Cx), X.prog = P → X.w = w → X.K = K → X.calm = true → ∀ (i : Nat) (pins : List (Addr × Obj)) (s : Shared) (σ : St) (H : Hp) (E : Value → Shared → Prop), Inv X pins σ H s → (∀ b ∈ fp, FpOk X pins H b) → tn i s.heap → J.stop i H →
    wpAny (model P w) X.A (pyNext (.ref it)) (fun r s1 => r = none ∧ Inv X pins σ H s1) E s
  self : ∀ (A : Around) (i : Nat) (s : Shared) (Q : Value → Shared → Prop) (E : Value → Shared → Prop), tn i s.heap → Q (.ref it) s → wpAny (model P w) A (pyIter (.ref it)) Q E s
abbrev TI := St → Hp → (It → Hp → Prop) → Prop
/-- an iterator has come -/
def PIE (X : Cx) (pins : List (Addr × Obj)) (σ : St) (tg : Expr) (R : It → Hp → Prop) (itv : Value) (s2 : Shared) : Prop :=
  ∃ (it : Addr) (fp : List Addr) (tn : Nat → Heap → Prop) (J : It) (H' : Hp), itv = .ref it ∧ Inv X pins σ H' s2 ∧ Turn X.prog X.w X.K tg J fp it tn ∧ tn 0 s2.heap ∧ (∀ b ∈ fp, FpOk X pins H' b) ∧ R J H'
def PI (X : Cx) (tg iter : Expr) (wi : TI) : Prop :=
  ∀ (pins : List (Addr × Obj)) (s : Shared) (σ : St) (H : Hp) (R : It → Hp → Prop), Inv X pins σ H s → wi σ H R →
    wpAny (model X.prog X.w) X.A (eval iter X.env) (fun v s1 => wpAny (model X.prog X.w) X.A (pyIter v) (PIE X pins σ tg R) X.xe s1) X.xe s

/-- the step ahead of the store is nothing for an iterator that keeps no tuple -/
theorem go_of {M : Model} {A : Around} {E : Value → Shared → Prop} {s : Shared} {tg : Expr} {it : Addr} {u : Value} {o : Obj} {n : String} {vs : Array Value} {Q : Unit → Shared → Prop} (ho : s.heap.get? it = some o) (hc : o.cls = .type n) (hd : o.data = .fields vs)
    (hn : ["enumerate", "zip", "dict_itemiterator", "dict_reverseitemiterator", "odict_iterator", "itertools.zip_longest", "itertools.pairwise"].contains n = false) (hQ : Q () s) : wpAny M A (letOwnedTupleGo tg (.ref it) u) Q E s := by
  unfold letOwnedTupleGo
  cases tg <;> first
    | exact wpAny_pure hQ
    | (cases u <;> first
        | exact wpAny_pure hQ
        | (refine wpAny_bind (wpAny_load ho ?_)
           rw [hc, hd]
           show wpAny M A (if (["enumerate", "zip", "dict_itemiterator", "dict_reverseitemiterator", "odict_iterator", "itertools.zip_longest", "itertools.pairwise"].contains n && vs[0]? == some (rawInt _)) = true then _ else _) Q E s
           rw [if_neg (by intro h; rw [hn, Bool.false_and] at h; cases h)]
           exact wpAny_pure hQ))

/-- the list at a, as it stands at each turn (a loop may append to it) -/
def Itl (K : PySem.W.Frag) (a : Addr) : It :=
  ⟨fun i H => ∃ xs x, SqL K H a xs ∧ xs[i]? = some x, fun i H x H' => H' = H ∧ ∀ xs, SqL K H a xs → xs[i]? = some x, fun i H => ∃ xs, SqL K H a xs ∧ xs.length ≤ i⟩
def Itt (K : PySem.W.Frag) (a : Addr) : It :=
  ⟨fun i H => ∃ xs x, SqT K H a xs ∧ xs[i]? = some x, fun i H x H' => H' = H ∧ ∀ xs, SqT K H a xs → xs[i]? = some x, fun i H => ∃ xs, SqT K H a xs ∧ xs.length ≤ i⟩
/-- lo, lo + 1, .. (n of them) -/
def Itr (lo : Int) (n : Nat) : It := ⟨fun i _ => i < n, fun i H x H' => H' = H ∧ x = .int (lo + i), fun i _ => n ≤ i⟩
theorem turn_list {P : Program} {w : World} {K : PySem.W.Frag} {tg : Expr} (a it : Addr) : Turn P w K tg (Itl K a) [it] it (fun i h => h.IsListIter it a i) where
  mem := by simp
  obj := fun i h st b hb => by
    have e : b = it := by simpa using hb
    subst e
    obtain ⟨o, e, c, d⟩ := st
    exact ⟨o, e, fun v z => by rw [d] at z; cases z⟩
  keep := fun i h h' st k => st.at fun o e => k it (by simp) o e
  item := by
    intro X hP hw hK hc i pins s σ H E I hf st hg
    subst hP hw hK
    obtain ⟨xs, x, hq, hx⟩ := hg
    obtain ⟨its, rv, p, hz⟩ := I.list hq
    obtain ⟨u, hu, ru⟩ := rv.get hx
    obtain ⟨f0, f1, f2, f3, f4, f5⟩ := hf it (by simp)
    refine wpAny_pyNext_list_item st p.isList (x := u) (by simpa using hu) fun h' st' sb => ?_
    have I1 : Inv X pins σ H { s with heap := h' } := I.turned (t' := s.toks) (fun b o hb e => (sb.2 b hb).trans e) f0 f1 f3 f4 f5
    obtain ⟨o, e, c, d⟩ := id st'
    exact ⟨u, rfl, go_of (s := { s with heap := h' }) e c d (by decide) ⟨x, H, I1, ru, ⟨rfl, fun ys hy => by rw [I.list_inj hy hq]; exact hx⟩, st', fun b hb => (hf b hb).1⟩⟩
  done := by
    intro X hP hw hK hc i pins s σ H E I hf st hg
    subst hP hw hK
    obtain ⟨xs, hq, hx⟩ := hg
    obtain ⟨its, rv, p, hz⟩ := I.list hq
    obtain ⟨f0, f1, f2, f3, f4, f5⟩ := hf it (by simp)
    have hl := rv.length
    exact wpAny_pyNext_list_end (I.ok.hd hc) st p.isList (by simp; omega) fun h' eb => ⟨rfl, I.turned (t' := s.toks) (fun b o hb e => eb b o hb e) f0 f1 f3 f4 f5⟩
  self := fun _ _ _ _ _ st h => wpAny_pyIter_listiter st h
theorem turn_range {P : Program} {w : World} {K : PySem.W.Frag} {tg : Expr} (it : Addr) (lo : Int) (n : Nat) : Turn P w K tg (Itr lo n) [it] it (fun i h => IsRangeIter h it (lo + (i : Nat) * 1) ((n : Int) - (i : Nat)) 1) where
  mem := by simp
  obj := fun i h st b hb => by
    have e : b = it := by simpa using hb
    subst e
    exact ⟨_, st, fun v z => by
      have z' : Data.fields _ = Data.cell v := z
      cases z'⟩
  keep := fun i h h' st k => k it (by simp) _ st
  item := by
    intro X hP hw hK hc i pins s σ H E I hf st hg
    subst hP hw hK
    obtain ⟨f0, f1, f2, f3, f4, f5⟩ := hf it (by simp)
    have W := Walks.range (prog := X.prog) (w := X.w) (I.ok.hd hc) it lo 1 n
    refine W.item i s _ _ hg st fun v h' tk hv st' kk => ?_
    obtain ⟨t, rfl⟩ := hv
    have I1 : Inv X pins σ H { s with heap := h', toks := tk } := I.turned (fun b o hb e => kk b o (by simpa using hb) e) f0 f1 f3 f4 f5
    refine ⟨_, rfl, go_of (s := { s with heap := h', toks := tk }) (n := "range_iterator") st' rfl rfl (by decide) ⟨.int (lo + i), H, I1, ⟨t, ?_⟩, ⟨rfl, rfl⟩, st', fun b hb => (hf b hb).1⟩⟩
    rw [Int.mul_one]
  done := by
    intro X hP hw hK hc i pins s σ H E I hf st hg
    subst hP hw hK
    obtain ⟨f0, f1, f2, f3, f4, f5⟩ := hf it (by simp)
    exact wpAny_pyNext_range_end (I.ok.hd hc) st (by have : n ≤ i := hg; omega) fun h' eb => ⟨rfl, I.turned (t' := s.toks) (fun b o hb e => eb b o hb e) f0 f1 f3 f4 f5⟩
  self := fun _ _ _ _ _ st h => wpAny_pyIter_rangeiter st h
end L2

namespace L2
open PySem PySem.Spec PyProof.Rows
section
variable {X : Cx} {tg : Expr}
def iList (K : PySem.W.Frag) (tl : TE) : TI := fun σ H R => tl σ H fun x H1 => ∃ a, x = .ref a ∧ (∃ xs, SqL K H1 a xs) ∧ R (Itl K a) H1
def iTup (K : PySem.W.Frag) (tl : TE) : TI := fun σ H R => tl σ H fun x H1 => ∃ a, x = .ref a ∧ (∃ xs, SqT K H1 a xs) ∧ R (Itt K a) H1
theorem pi_list {l : Expr} {tl : TE} (hl : PE X l tl) : PI X tg l (iList X.K tl) := by
  intro pins s σ H R I h
  refine thn (hl pins s σ H _ I h) fun v s1 ⟨x, H1, I1, r1, q1⟩ => ?_
  obtain ⟨a, e, ⟨xs, hq⟩, q⟩ := q1
  subst e
  cases r1
  obtain ⟨its, rv, p, hz⟩ := I1.list hq
  refine wpAny_pyIter_list p.isList ?_
  refine ⟨s1.heap.objs.size, [s1.heap.objs.size], _, _, H1, rfl, I1.kept (t' := s1.toks) fun b o e => Heap.get?_push_of_some _ e, turn_list a _, ⟨_, Heap.get?_push_size _ rfl, rfl, rfl⟩, fun b hb => ?_, q⟩
  have e : b = s1.heap.objs.size := by simpa using hb
  subst e
  exact I1.fpOk (Nat.le_refl _) (I1.hok.fresh (Nat.le_refl _))
/-- a range object just made, walked -/
theorem range_it {pins : List (Addr × Obj)} {σ : St} {H : Hp} {s : Shared} {R : It → Hp → Prop} {E : Value → Shared → Prop} {lo hi : Int} {t u v : Tok} {tk : Nat} (I : Inv X pins σ H s) (h1 : -(2 ^ 62) ≤ lo) (h2 : lo < 2 ^ 62) (h3 : -(2 ^ 62) ≤ hi) (h4 : hi < 2 ^ 62)
    (q : R (Itr lo (hi - lo).toNat) H) : wpAny (model X.prog X.w) X.A (pyIter (.ref s.heap.objs.size)) (PIE X pins σ tg R) E { s with heap := s.heap.push { cls := .type "range", data := .fields #[.int lo t, .int hi u, .int 1 v] }, toks := tk } := by
  refine wpAny_pyIter_range (IsRange.new ..) (small_one h1 h2 h3 h4) ?_
  have I1 : Inv X pins σ H { s with heap := s.heap.push { cls := .type "range", data := .fields #[.int lo t, .int hi u, .int 1 v] }, toks := tk } := I.kept fun b o e => Heap.get?_push_of_some _ e
  refine ⟨(s.heap.push { cls := .type "range", data := .fields #[.int lo t, .int hi u, .int 1 v] }).objs.size, [(s.heap.push { cls := .type "range", data := .fields #[.int lo t, .int hi u, .int 1 v] }).objs.size], _, _, H, rfl,
    I1.kept (t' := tk) fun b o e => Heap.get?_push_of_some _ e, turn_range _ lo (hi - lo).toNat, ?_, fun b hb => ?_, q⟩
  · have e1 : lo + ((0 : Nat) : Int) * 1 = lo := by simp
    have e2 : (((hi - lo).toNat : Nat) : Int) - ((0 : Nat) : Int) = Builtin.Range.rangeSize lo hi 1 := by rw [rangeSize_one]; split <;> omega
    show IsRangeIter _ _ (lo + ((0 : Nat) : Int) * 1) ((((hi - lo).toNat : Nat) : Int) - ((0 : Nat) : Int)) 1
    rw [e1, e2]
    exact Heap.get?_push_size _ rfl
  · have e : b = (s.heap.push { cls := .type "range", data := .fields #[.int lo t, .int hi u, .int 1 v] }).objs.size := by simpa using hb
    subst e
    exact I1.fpOk (Nat.le_refl _) (I1.hok.fresh (Nat.le_refl _))
def iRng1 (ta : TA) : TI := fun σ H R => ta σ H fun vs H1 => ∃ j : Int, vs = [.int j] ∧ -(2 ^ 62) ≤ j ∧ j < 2 ^ 62 ∧ R (Itr 0 j.toNat) H1
def iRng2 (ta : TA) : TI := fun σ H R => ta σ H fun vs H1 => ∃ i j : Int, vs = [.int i, .int j] ∧ (-(2 ^ 62) ≤ i ∧ i < 2 ^ 62 ∧ -(2 ^ 62) ≤ j ∧ j < 2 ^ 62) ∧ R (Itr i (j - i).toNat) H1
theorem pi_range1 {a : Expr} {ta : TA} {p pos : Pos} (hg : Gl X "range") (hm : X.mg "range" = none) (ha : PA X [a] ta) (hs : starEach [a] X.env = [(false, eval a X.env)] := by rfl) : PI X tg (.Call (.Name "range" p) [a] [] pos) (iRng1 ta) := by
  intro pins s σ H R I h
  refine Call_ (ld_blt I hg hm boot_range (PyProof.Rows.callWith_type1 (thn (ha pos pins s σ H _ I h) fun us s1 ⟨vs, H1, I1, r1, q1⟩ => ?_) hs rfl))
  obtain ⟨j, e, q1, q2, q⟩ := q1
  subst e
  cases r1 with
  | cons r rr =>
    cases rr
    obtain ⟨t, rfl⟩ := r
    exact call_range_1 (range_it I1 (by omega) (by omega) q1 q2 (by simpa using q))
/-! ### for -/
/-- W: the invariant by the turn and a measure; N: what the body is to reach -/
def tFor (wi : TI) (g : TG) (tb : TS) : TS := fun D σ H => wi σ H fun J H1 => ∃ W : Nat → Nat → St → Hp → Prop, (∃ m, W 0 m σ H1) ∧ ∀ i m σ H, W i m σ H →
  (J.stop i H ∧ D.nx σ H) ∨ (J.go i H ∧ ∃ N : St → Hp → Prop, (∀ σ' H', N σ' H' → ∃ m', m' < m ∧ W (i + 1) m' σ' H') ∧ ∀ x H', J.yld i H x H' → g x σ H' fun σ2 H2 => tb { D with nx := N, ct := N, bk := D.nx } σ2 H2)
/-- the records at fp as they stand -/
def pinsAt (fp : List Addr) (h : Heap) : List (Addr × Obj) := fp.filterMap fun b => (h.get? b).map fun o => (b, o)
theorem mem_pinsAt {fp : List Addr} {h : Heap} {b : Addr} {o : Obj} (hb : b ∈ fp) (e : h.get? b = some o) : (b, o) ∈ pinsAt fp h := List.mem_filterMap.mpr ⟨b, hb, by rw [e]; rfl⟩
theorem of_pinsAt {fp : List Addr} {h : Heap} {p : Addr × Obj} (hp : p ∈ pinsAt fp h) : p.1 ∈ fp ∧ h.get? p.1 = some p.2 := by
  obtain ⟨b, hb, e⟩ := List.mem_filterMap.mp hp
  cases q : h.get? b with
  | none => rw [q] at e; cases e
  | some o =>
    rw [q] at e
    have e' : (b, o) = p := Option.some.inj e
    subst e'
    exact ⟨hb, q⟩
theorem Inv.pinned {pins : List (Addr × Obj)} {σ : St} {H : Hp} {s : Shared} {fp : List Addr} (I : Inv X pins σ H s) (hf : ∀ b ∈ fp, FpOk X pins H b) (ho : ∀ b ∈ fp, ∃ o, s.heap.get? b = some o ∧ ∀ v, o.data ≠ .cell v) : Inv X (pins ++ pinsAt fp s.heap) σ H s :=
  I.pins_of fun p hp => (List.mem_append.mp hp).elim (fun z => I.pin p (List.mem_append_right _ z)) fun z => by
    obtain ⟨hb, e⟩ := of_pinsAt z
    obtain ⟨f0, f1, f2, _⟩ := hf p.1 hb
    obtain ⟨o, e', d⟩ := ho p.1 hb
    rw [e] at e'; cases e'
    exact ⟨e, f0, f1, f2, d⟩
theorem Inv.unpinned {pins pl : List (Addr × Obj)} {σ : St} {H : Hp} {s : Shared} (I : Inv X (pins ++ pl) σ H s) : Inv X pins σ H s := I.pins_of fun p hp => I.pin p (List.mem_append_right _ (List.mem_append_left _ hp))
theorem ps_for {iter : Expr} {body : List Stmt} {wi : TI} {g : TG} {tb : TS} {pos : Pos} (hp : PassesOwn (model X.prog X.w) X.A X.env X.xe) (hc : X.calm = true) (hi : PI X tg iter wi) (hg : PG X tg g) (hb : PSs X body tb)
    (hs : ∀ x, foldedSetIterable iter X.env x = pure x := by intro _; rfl) : PS X (.For tg iter body [] pos) (tFor wi g tb) := by
  intro pins s σ H D I h
  refine wpAny_For (thn (hi pins s σ H _ I h) fun v s1 h1 => thn h1 fun itv s2 h2 => ?_) hs
  obtain ⟨it, fp, tn, J, H2, e, I2, T, st2, f2, W, ⟨m0, w0⟩, turn⟩ := h2
  subst e
  -- what stays true of the iterator's objects through the loop
  have stat : ∀ {H' : Hp}, (∀ b ∈ fp, H' b = none) → ∀ b ∈ fp, FpOk X pins H' b := fun hn b hb => ⟨hn b hb, (f2 b hb).2⟩
  refine codeAny_forLoop_any (fun n s' => ∃ i σ' H', Inv X pins σ' H' s' ∧ tn i s'.heap ∧ (∀ b ∈ fp, H' b = none) ∧ W i n σ' H') ?_ m0 ⟨0, σ, H2, I2, st2, fun b hb => (f2 b hb).1, w0⟩
  rintro n s3 ⟨i, σ3, H3, I3, st3, fr3, w3⟩
  rcases turn i n σ3 H3 w3 with ⟨stop, qn⟩ | ⟨go, N, hN, step⟩
  · refine wpAny_passesOwn hp (thn (T.done X rfl rfl rfl hc i pins s3 σ3 H3 X.xe I3 (stat fr3) st3 stop) fun r s4 ⟨hr, I4⟩ => ?_)
    subst hr
    exact wpAny_execs_nil ⟨σ3, H3, I4, qn⟩
  · refine wpAny_passesOwn hp (thn (T.item X rfl rfl rfl hc i pins s3 σ3 H3 X.xe I3 (stat fr3) st3 go) fun r s4 ⟨u, hr, h4⟩ => ?_)
    subst hr
    refine wpAny_passesOwn hp (thn h4 fun _ s5 ⟨x, H5, I5, r5, y5, st5, fr5⟩ => ?_)
    have I5' := I5.pinned (stat fr5) (T.obj _ _ st5)
    refine wpAny_passesOwn hp (thn (hg _ s5 σ3 H5 x u _ I5' r5 (step x H5 y5)) fun _ s6 ⟨σ6, H6, I6, q6⟩ => ?_)
    refine wpAny_passesOwn hp (thn (hb _ s6 σ6 H6 _ I6 q6) fun f s7 q7 => ?_)
    have again : ∀ {σ7 : St} {H7 : Hp}, Inv X (pins ++ pinsAt fp s5.heap) σ7 H7 s7 → N σ7 H7 → ∃ m, m < n ∧ ∃ i σ' H', Inv X pins σ' H' s7 ∧ tn i s7.heap ∧ (∀ b ∈ fp, H' b = none) ∧ W i m σ' H' := fun {σ7 H7} I7 n7 => by
      obtain ⟨m', hm, w7⟩ := hN σ7 H7 n7
      refine ⟨m', hm, i + 1, σ7, H7, I7.unpinned, T.keep _ _ _ st5 fun b hb o e => (I7.pin (b, o) (List.mem_append_right _ (List.mem_append_right _ (mem_pinsAt hb e)))).1, fun b hb => ?_, w7⟩
      obtain ⟨o, e, d⟩ := T.obj _ _ st5 b hb
      exact (I7.pin (b, o) (List.mem_append_right _ (List.mem_append_right _ (mem_pinsAt hb e)))).2.1
    cases f with
    | next => obtain ⟨σ7, H7, I7, n7⟩ := q7; exact again I7 n7
    | cont => obtain ⟨σ7, H7, I7, n7⟩ := q7; exact again I7 n7
    | brk => obtain ⟨σ7, H7, I7, q7⟩ := q7; exact ⟨σ7, H7, I7.unpinned, q7⟩
    | ret v => obtain ⟨x7, σ7, H7, I7, r7, q7⟩ := q7; exact ⟨x7, σ7, H7, I7.unpinned, r7, q7⟩
end

/-! ### the forms one uses -/
theorem for_range {lo : Int} {n : Nat} {g : TG} {tb : TS} {D : Ends} {σ : St} {H : Hp} (Pv : Nat → St → Hp → Prop) (h0 : Pv 0 σ H)
    (hs : ∀ i σ H, i < n → Pv i σ H → g (.int (lo + i)) σ H fun σ2 H2 => tb { D with nx := Pv (i + 1), ct := Pv (i + 1), bk := D.nx } σ2 H2) (hd : ∀ σ H, Pv n σ H → D.nx σ H) :
    ∃ W : Nat → Nat → St → Hp → Prop, (∃ m, W 0 m σ H) ∧ ∀ i m σ H, W i m σ H →
      ((Itr lo n).stop i H ∧ D.nx σ H) ∨ ((Itr lo n).go i H ∧ ∃ N : St → Hp → Prop, (∀ σ' H', N σ' H' → ∃ m', m' < m ∧ W (i + 1) m' σ' H') ∧ ∀ x H', (Itr lo n).yld i H x H' → g x σ H' fun σ2 H2 => tb { D with nx := N, ct := N, bk := D.nx } σ2 H2) := by
  refine ⟨fun i m σ H => m = n - i ∧ i ≤ n ∧ Pv i σ H, ⟨n, by simp, Nat.zero_le _, h0⟩, ?_⟩
  rintro i m σ H ⟨rfl, hi, p⟩
  by_cases hlt : i < n
  · refine .inr ⟨hlt, Pv (i + 1), fun σ' H' p' => ⟨n - (i + 1), by omega, rfl, hlt, p'⟩, fun x H' y => ?_⟩
    obtain ⟨e, y⟩ := y
    subst e y
    exact hs i σ _ hlt p
  · have e : i = n := by omega
    subst e
    exact .inl ⟨Nat.le_refl _, hd σ H p⟩
end L2

namespace L2
open PySem PySem.Spec PyProof.Rows

abbrev R2 := V → V → Hp → VK → Prop
/-- a two-place operation on values: f is binaryOp op, inplaceOp op or compareOp op -/
def OpR (X : Cx) (f : Value → Value → Sem Value) (r : R2) : Prop :=
  ∀ (pins : List (Addr × Obj)) (s : Shared) (σ : St) (H : Hp) (x y : V) (v u : Value) (Q : VK), Inv X pins σ H s → RelV x v → RelV y u → r x y H Q →
    wpAny (model X.prog X.w) X.A (f v u) (EP X pins σ Q) X.xe s
/-- a one-place operation -/
def UnR (X : Cx) (f : Value → Sem Value) (r : V → Hp → VK → Prop) : Prop :=
  ∀ (pins : List (Addr × Obj)) (s : Shared) (σ : St) (H : Hp) (x : V) (v : Value) (Q : VK), Inv X pins σ H s → RelV x v → r x H Q →
    wpAny (model X.prog X.w) X.A (f v) (EP X pins σ Q) X.xe s
/-- a call of a value that is known (a builtin, a type) with values -/
def CallR (X : Cx) (f : Value) (r : List V → Hp → VK → Prop) : Prop :=
  ∀ (pins : List (Addr × Obj)) (s : Shared) (σ : St) (H : Hp) (xs : List V) (us : List Value) (Q : VK), Inv X pins σ H s → Vals xs us → r xs H Q →
    wpAny (model X.prog X.w) X.A (call f us) (EP X pins σ Q) X.xe s
/-- a value's truth -/
def TruR (X : Cx) (r : V → Hp → (Bool → Hp → Prop) → Prop) : Prop :=
  ∀ (pins : List (Addr × Obj)) (s : Shared) (σ : St) (H : Hp) (x : V) (v : Value) (Q : Bool → Hp → Prop), Inv X pins σ H s → RelV x v → r x H Q →
    wpAny (model X.prog X.w) X.A (truthy v) (TP X pins σ Q) X.xe s

def tOp (r : R2) (ta tb : TE) : TE := fun σ H Q => ta σ H fun x H1 => tb σ H1 fun y H2 => r x y H2 Q
def tUn (r : V → Hp → VK → Prop) (ta : TE) : TE := fun σ H Q => ta σ H fun x H1 => r x H1 Q
/-- ints in, under C, and a value out -/
def rI (C : Int → Int → Prop) (g : Int → Int → V) : R2 := fun x y H Q => ∃ i j, x = .int i ∧ y = .int j ∧ C i j ∧ Q (g i j) H
def rI0 (g : Int → Int → V) : R2 := fun x y H Q => ∃ i j, x = .int i ∧ y = .int j ∧ Q (g i j) H
def rU (g : Int → V) : V → Hp → VK → Prop := fun x H Q => ∃ i, x = .int i ∧ Q (g i) H

section
variable {X : Cx} {a b c : Expr} {ta tb tc : TE} {pos : Pos}

theorem binT (ha : PE X a ta) (hb : PE X b tb) {pins : List (Addr × Obj)} {s : Shared} {σ : St} {H : Hp} {R : V → V → Hp → Prop} (I : Inv X pins σ H s)
    (h : ta σ H fun x H1 => tb σ H1 fun y H2 => R x y H2) {Q : Value → Shared → Prop} {f : Value → Value → Sem Value}
    (hf : ∀ v u s2 x y H2, Inv X pins σ H2 s2 → RelV x v → RelV y u → R x y H2 → wpAny (model X.prog X.w) X.A (f v u) Q X.xe s2) :
    wpAny (model X.prog X.w) X.A (eval a X.env) (fun v s₁ => wpAny (model X.prog X.w) X.A (eval b X.env) (fun u s₂ => wpAny (model X.prog X.w) X.A (f v u) Q X.xe s₂) X.xe s₁) X.xe s := by
  refine thn (ha pins s σ H _ I h) fun v s1 ⟨x, H1, I1, r1, q1⟩ => ?_
  refine thn (hb pins s1 σ H1 _ I1 q1) fun u s2 ⟨y, H2, I2, r2, q2⟩ => ?_
  exact hf v u s2 x y H2 I2 r1 r2 q2

theorem pe_op {op : Operator} {r : R2} (ho : OpR X (binaryOp op) r) (ha : PE X a ta) (hb : PE X b tb) : PE X (.BinOp a op b pos) (tOp r ta tb) := by
  intro pins s σ H Q I h
  exact wpAny_BinOp (binT ha hb I h fun v u s2 x y H2 I2 rx ry q => ho pins s2 σ H2 x y v u Q I2 rx ry q)
theorem pe_un {op : UnaryOp} {r : V → Hp → VK → Prop} (ho : UnR X (unaryOp op) r) (ha : PE X a ta) : PE X (.UnaryOp op a pos) (tUn r ta) := by
  intro pins s σ H Q I h
  exact UnaryOp_ (thn (ha pins s σ H _ I h) fun v s1 ⟨x, H1, I1, r1, q1⟩ => ho pins s1 σ H1 x v Q I1 r1 q1)
/-! ### ints -/
theorem opI {f : Value → Value → Sem Value} {C : Int → Int → Prop} {g : Int → Int → Int}
    (rule : ∀ (i j : Int) (t u : Tok) (s : Shared) (Q : Value → Shared → Prop) (E : Value → Shared → Prop), C i j → Q (.int (g i j) s.toks) { s with toks := s.toks + 1 } → wpAny (model X.prog X.w) X.A (f (.int i t) (.int j u)) Q E s) :
    OpR X f (rI C fun i j => .int (g i j)) := by
  intro pins s σ H x y v u Q I rx ry h
  obtain ⟨i, j, rfl, rfl, hc, q⟩ := h
  obtain ⟨t, rfl⟩ := rx
  obtain ⟨t', rfl⟩ := ry
  exact rule i j t t' s _ _ hc ⟨.int (g i j), H, I.tok _, ⟨_, rfl⟩, q⟩
theorem opI0 {f : Value → Value → Sem Value} {g : Int → Int → Int}
    (rule : ∀ (i j : Int) (t u : Tok) (s : Shared) (Q : Value → Shared → Prop) (E : Value → Shared → Prop), Q (.int (g i j) s.toks) { s with toks := s.toks + 1 } → wpAny (model X.prog X.w) X.A (f (.int i t) (.int j u)) Q E s) :
    OpR X f (rI0 fun i j => .int (g i j)) := by
  intro pins s σ H x y v u Q I rx ry h
  obtain ⟨i, j, rfl, rfl, q⟩ := h
  obtain ⟨t, rfl⟩ := rx
  obtain ⟨t', rfl⟩ := ry
  exact rule i j t t' s _ _ ⟨.int (g i j), H, I.tok _, ⟨_, rfl⟩, q⟩
theorem opB0 {f : Value → Value → Sem Value} {g : Int → Int → Bool}
    (rule : ∀ (i j : Int) (t u : Tok) (s : Shared) (Q : Value → Shared → Prop) (E : Value → Shared → Prop), Q (.bool (g i j)) s → wpAny (model X.prog X.w) X.A (f (.int i t) (.int j u)) Q E s) :
    OpR X f (rI0 fun i j => .bl (g i j)) := by
  intro pins s σ H x y v u Q I rx ry h
  obtain ⟨i, j, rfl, rfl, q⟩ := h
  obtain ⟨t, rfl⟩ := rx
  obtain ⟨t', rfl⟩ := ry
  exact rule i j t t' s _ _ ⟨.bl (g i j), H, I, rfl, q⟩

def CDiv (i j : Int) : Prop := 0 < j ∧ j < 1073741824
def CDivN (i j : Int) : Prop := j ≠ 0 ∧ j.natAbs < 1073741824
def CPow (i j : Int) : Prop := 0 ≤ j ∧ j ≤ 1000000 ∧ i.natAbs < 2 ^ 64
def CMul (i j : Int) : Prop := (-(2 ^ 64) < i ∧ i < 2 ^ 64) ∨ (-(2 ^ 64) < j ∧ j < 2 ^ 64)
theorem CMul.ok {i j : Int} (h : CMul i j) : IntMulOk i j := by
  rcases h with ⟨h1, h2⟩ | ⟨h1, h2⟩
  · exact .of_left (intBits_le_64 h1 h2)
  · exact .of_right (intBits_le_64 h1 h2)
theorem op_add : OpR X (binaryOp .Add) (rI0 fun i j => .int (i + j)) := opI0 fun _ _ _ _ _ _ _ q => add_int q
theorem op_sub : OpR X (binaryOp .Sub) (rI0 fun i j => .int (i - j)) := opI0 fun _ _ _ _ _ _ _ q => sub_int q
theorem op_mul : OpR X (binaryOp .Mult) (rI CMul fun i j => .int (i * j)) := opI fun _ _ _ _ _ _ _ hc q => mul_int q hc.ok
/-- % by a positive divisor of any size -/
theorem op_mod : OpR X (binaryOp .Mod) (rI (fun _ j => 0 < j) fun i j => .int (i % j)) := opI fun i j _ _ _ _ _ hc q => by
  have h1 : (0 : Int) < j := hc
  exact mod_int' (by omega) (by rw [Int.fmod_eq_emod_of_nonneg i (by omega)]; exact q)
theorem op_pow : OpR X (binaryOp .Pow) (rI CPow fun i j => .int (i ^ j.toNat)) := opI fun _ _ _ _ _ _ _ hc q => pow_int_small hc.1 hc.2.1 hc.2.2 q
theorem unI {f : Value → Sem Value} {g : Int → Int}
    (rule : ∀ (i : Int) (t : Tok) (s : Shared) (Q : Value → Shared → Prop) (E : Value → Shared → Prop), Q (.int (g i) s.toks) { s with toks := s.toks + 1 } → wpAny (model X.prog X.w) X.A (f (.int i t)) Q E s) :
    UnR X f (rU fun i => .int (g i)) := by
  intro pins s σ H x v Q I rx h
  obtain ⟨i, rfl, q⟩ := h
  obtain ⟨t, rfl⟩ := rx
  exact rule i t s _ _ ⟨.int (g i), H, I.tok _, ⟨_, rfl⟩, q⟩
theorem un_neg : UnR X (unaryOp .USub) (rU fun i => .int (-i)) := unI fun _ _ _ _ _ q => neg_int q
/-! ### bools among ints: n += (a < b) -/
end

/-! ### comparisons -/
/-- the scalars that == tells apart as data does -/
def scal : V → V → Bool
  | .non, .non => true | .non, .int _ => true | .int _, .non => true | .non, .bl _ => true | .bl _, .non => true | .non, .str _ => true | .str _, .non => true
  | .int _, .int _ => true | .bl _, .bl _ => true | .str _, .str _ => true | .byt _, .byt _ => true
  | .int _, .str _ => true | .str _, .int _ => true | .bl _, .str _ => true | .str _, .bl _ => true
  | _, _ => false
def rEq : R2 := fun x y H Q => scal x y = true ∧ Q (.bl (decide (x = y))) H
def rNe : R2 := fun x y H Q => scal x y = true ∧ Q (.bl (!decide (x = y))) H

theorem dec_int {i j : Int} : decide (V.int i = V.int j) = (i == j) := by
  rw [Bool.eq_iff_iff]
  simp
theorem dec_bl {i j : Bool} : decide (V.bl i = V.bl j) = (i == j) := by
  rw [Bool.eq_iff_iff]
  simp
theorem dec_str {i j : Str} : decide (V.str i = V.str j) = (i == j) := by
  rw [Bool.eq_iff_iff]
  simp
theorem dec_byt {i j : Array UInt8} : decide (V.byt i = V.byt j) = (i.toList == j.toList) := by
  rw [Bool.eq_iff_iff]
  cases i
  cases j
  simp

section
variable {X : Cx} {a b c : Expr} {ta tb tc : TE} {pos : Pos}
theorem fin_bl {pins : List (Addr × Obj)} {σ : St} {H : Hp} {s : Shared} {Q : VK} {k k' : Bool} (I : Inv X pins σ H s) (q : Q (.bl k) H) (e : k = k') : EP X pins σ Q (.bool k') s := by
  subst e
  exact ⟨.bl k, H, I, rfl, q⟩
theorem op_eq : OpR X (compareOp .Eq) rEq := by
  intro pins s σ H x y v u Q I rx ry h
  obtain ⟨hs, q⟩ := h
  cases x with
  | non =>
    cases rx
    cases y with
    | non => cases ry; exact PySem.EqNone.eq_none_none (fin_bl I q (by simp))
    | bl j => cases ry; exact PySem.EqNone.eq_none_bool (fin_bl I q (by simp))
    | int j => obtain ⟨t', rfl⟩ := ry; exact PySem.EqNone.eq_none_int (fin_bl I q (by simp))
    | str j => obtain ⟨t', rfl⟩ := ry; exact PySem.EqNone.eq_none_str (fin_bl I q (by simp))
    | _ => exact absurd (show false = true from hs) Bool.false_ne_true
  | bl i =>
    cases rx
    cases y with
    | non => cases ry; exact PySem.EqNone.eq_bool_none (fin_bl I q (by simp))
    | bl j => cases ry; exact eq_bool (fin_bl I q dec_bl)
    | str j => obtain ⟨t', rfl⟩ := ry; exact PySem.EqMixed.eq_bool_str (fin_bl I q (by simp))
    | _ => exact absurd (show false = true from hs) Bool.false_ne_true
  | int i =>
    obtain ⟨t, rfl⟩ := rx
    cases y with
    | non => cases ry; exact PySem.EqNone.eq_int_none (fin_bl I q (by simp))
    | int j => obtain ⟨t', rfl⟩ := ry; exact eq_int (fin_bl I q dec_int)
    | str j => obtain ⟨t', rfl⟩ := ry; exact PySem.EqMixed.eq_int_str (fin_bl I q (by simp))
    | _ => exact absurd (show false = true from hs) Bool.false_ne_true
  | str i =>
    obtain ⟨t, rfl⟩ := rx
    cases y with
    | non => cases ry; exact PySem.EqNone.eq_str_none (fin_bl I q (by simp))
    | bl j => cases ry; exact PySem.EqMixed.eq_str_bool (fin_bl I q (by simp))
    | int j => obtain ⟨t', rfl⟩ := ry; exact PySem.EqMixed.eq_str_int (fin_bl I q (by simp))
    | str j => obtain ⟨t', rfl⟩ := ry; exact eq_str (fin_bl I q dec_str)
    | _ => exact absurd (show false = true from hs) Bool.false_ne_true
  | byt i =>
    obtain ⟨t, rfl⟩ := rx
    cases y with
    | byt j => obtain ⟨t', rfl⟩ := ry; exact PySem.W.eq_bytes (fin_bl I q dec_byt)
    | _ => exact absurd (show false = true from hs) Bool.false_ne_true
  | _ => cases y <;> exact absurd (show false = true from hs) Bool.false_ne_true
theorem op_ne : OpR X (compareOp .NotEq) rNe := by
  intro pins s σ H x y v u Q I rx ry h
  obtain ⟨hs, q⟩ := h
  cases x with
  | non =>
    cases rx
    cases y with
    | non => cases ry; exact PySem.EqNone.ne_none_none (fin_bl I q (by simp))
    | bl j => cases ry; exact PySem.EqNone.ne_none_bool (fin_bl I q (by simp))
    | int j => obtain ⟨t', rfl⟩ := ry; exact PySem.EqNone.ne_none_int (fin_bl I q (by simp))
    | str j => obtain ⟨t', rfl⟩ := ry; exact PySem.EqNone.ne_none_str (fin_bl I q (by simp))
    | _ => exact absurd (show false = true from hs) Bool.false_ne_true
  | bl i =>
    cases rx
    cases y with
    | non => cases ry; exact PySem.EqNone.ne_bool_none (fin_bl I q (by simp))
    | bl j => cases ry; exact ne_bool (fin_bl I q (congrArg not dec_bl))
    | str j => obtain ⟨t', rfl⟩ := ry; exact PySem.EqMixed.ne_bool_str (fin_bl I q (by simp))
    | _ => exact absurd (show false = true from hs) Bool.false_ne_true
  | int i =>
    obtain ⟨t, rfl⟩ := rx
    cases y with
    | non => cases ry; exact PySem.EqNone.ne_int_none (fin_bl I q (by simp))
    | int j => obtain ⟨t', rfl⟩ := ry; exact ne_int (fin_bl I q (congrArg not dec_int))
    | str j => obtain ⟨t', rfl⟩ := ry; exact PySem.EqMixed.ne_int_str (fin_bl I q (by simp))
    | _ => exact absurd (show false = true from hs) Bool.false_ne_true
  | str i =>
    obtain ⟨t, rfl⟩ := rx
    cases y with
    | non => cases ry; exact PySem.EqNone.ne_str_none (fin_bl I q (by simp))
    | bl j => cases ry; exact PySem.EqMixed.ne_str_bool (fin_bl I q (by simp))
    | int j => obtain ⟨t', rfl⟩ := ry; exact PySem.EqMixed.ne_str_int (fin_bl I q (by simp))
    | str j => obtain ⟨t', rfl⟩ := ry; exact ne_str (fin_bl I q (congrArg not dec_str))
    | _ => exact absurd (show false = true from hs) Bool.false_ne_true
  | byt i =>
    obtain ⟨t, rfl⟩ := rx
    cases y with
    | byt j => obtain ⟨t', rfl⟩ := ry; exact PySem.W.ne_bytes (fin_bl I q (congrArg not dec_byt))
    | _ => exact absurd (show false = true from hs) Bool.false_ne_true
  | _ => cases y <;> exact absurd (show false = true from hs) Bool.false_ne_true

theorem op_lt : OpR X (compareOp .Lt) (rI0 fun i j => .bl (decide (i < j))) := opB0 fun _ _ _ _ _ _ _ q => lt_int q
theorem op_gt : OpR X (compareOp .Gt) (rI0 fun i j => .bl (decide (j < i))) := opB0 fun _ _ _ _ _ _ _ q => gt_int q
/-- is, is not of two objects that are tracked lists or instances -/
def isObj : HO → Bool
  | .lst _ => true
  | .ins _ _ _ => true
  | _ => false
/-- two rules for one operation: by cases -/
theorem OpR.or {f : Value → Value → Sem Value} {r r' : R2} (h : OpR X f r) (h' : OpR X f r') : OpR X f (fun x y H Q => r x y H Q ∨ r' x y H Q) := by
  intro pins s σ H x y v u Q I rx ry q
  rcases q with q | q
  · exact h pins s σ H x y v u Q I rx ry q
  · exact h' pins s σ H x y v u Q I rx ry q

theorem nomark (b : Expr) {op : CmpOp} (h : op ≠ .In := by decide) (h2 : op ≠ .NotIn := by decide) : behindInMarks op b = false := by
  have e1 : (op == CmpOp.In) = false := by cases op <;> first | rfl | exact absurd rfl h
  have e2 : (op == CmpOp.NotIn) = false := by cases op <;> first | rfl | exact absurd rfl h2
  cases b <;> simp [behindInMarks, e1, e2]
/-- a comparison as a value; hm: nomark b, or (for in, not in) by with_unfolding_all rfl -/
theorem pe_cmpR {op : CmpOp} {r : R2} (ho : OpR X (compareOp op) r) (ha : PE X a ta) (hb : PE X b tb) (hm : behindInMarks op b = false) : PE X (.Compare a [op] [b] pos) (tOp r ta tb) := by
  intro pins s σ H Q I h
  exact wpAny_Compare1 (binT ha hb I h fun v u s2 x y H2 I2 rx ry q => ho pins s2 σ H2 x y v u Q I2 rx ry q) hm
/-- a reading of a value as a test -/
def tTest (t : TE) : TT := fun σ H Q => t σ H fun x H' => ∃ k, x = .bl k ∧ Q k H'
theorem pt_cmpR {op : CmpOp} {r : R2} (ho : OpR X (compareOp op) r) (ha : PE X a ta) (hb : PE X b tb) (hm : behindInMarks op b = false) : PT X (.Compare a [op] [b] pos) (tTest (tOp r ta tb)) := by
  intro pins s σ H Q I h
  refine wpAny_isTrue_Compare1 (thn (ha pins s σ H _ I h) fun v s1 ⟨x, H1, I1, r1, q1⟩ => thn (hb pins s1 σ H1 _ I1 q1) fun u s2 ⟨y, H2, I2, r2, q2⟩ =>
    thn (ho pins s2 σ H2 x y v u _ I2 r1 r2 q2) fun c s3 ⟨z, H3, I3, r3, k, e, q3⟩ => ?_) hm
  subst e
  cases r3
  exact wpAny_truthy_bool ⟨H3, I3, q3⟩
/-- a op1 b op2 c -/
def tChain (r r' : R2) (ta tb tc : TE) : TE := fun σ H Q => ta σ H fun x H1 => tb σ H1 fun y H2 => r x y H2 fun z H3 => ∃ k, z = .bl k ∧
  (if k = true then tc σ H3 fun w' H4 => r' y w' H4 Q else Q (.bl false) H3)
/-! ### truth -/
/-- a value's truth by the abstract heap -/
def TruV (K : PySem.W.Frag) (x : V) (H : Hp) (k : Bool) : Prop :=
  match x with
  | .non => k = false
  | .bl b => k = b
  | .int i => k = (i != 0)
  | .str y => y.length ≤ sizeLine ∧ k = ((y.length : Int) != 0)
  | .byt y => y.size ≤ sizeLine ∧ k = ((y.size : Int) != 0)
  | .ref p => (∃ xs, SqL K H p xs ∧ k = !xs.isEmpty) ∨ (∃ xs, SqT K H p xs ∧ k = !xs.isEmpty) ∨ ∃ kvs, H p = some (.dK kvs) ∧ k = !kvs.isEmpty
  | _ => False
theorem line63 : (sizeLine : Nat) < 2 ^ 63 := by rw [sizeLine_eq]; decide
/-! ### strs and bytes -/
theorem op_add_str : OpR X (binaryOp .Add) (fun x y H Q => ∃ i j, x = .str i ∧ y = .str j ∧ i.length + j.length ≤ sizeLine ∧ Q (.str (i ++ j)) H) := by
  intro pins s σ H x y v u Q I rx ry h
  obtain ⟨i, j, rfl, rfl, hz, q⟩ := h
  obtain ⟨t, rfl⟩ := rx
  obtain ⟨t', rfl⟩ := ry
  exact add_str (fun t' tk => ⟨.str (i ++ j), H, I.tok _, ⟨_, rfl⟩, q⟩) hz
def PlainIxT (b : Expr) : Prop := ∀ o i, subscripted b false o i = operate [o, i] (getItem o i)
/-! ### scalar builtins, by CallR -/
theorem vals1 {x : V} {us : List Value} (r : Vals [x] us) : ∃ u, us = [u] ∧ RelV x u := by
  cases r with
  | cons r1 r2 => cases r2; exact ⟨_, rfl, r1⟩
theorem vals2 {x y : V} {us : List Value} (r : Vals [x, y] us) : ∃ u w', us = [u, w'] ∧ RelV x u ∧ RelV y w' := by
  cases r with
  | cons r1 r2 =>
    cases r2 with
    | cons r3 r4 => cases r4; exact ⟨_, _, rfl, r1, r3⟩
theorem call_min2 (hc : X.calm = true) : CallR X (.builtin "min") (fun xs H Q => ∃ i j, xs = [.int i, .int j] ∧ Q (.int (if j < i then j else i)) H) := by
  intro pins s σ H xs us Q I r h
  obtain ⟨i, j, rfl, q⟩ := h
  obtain ⟨u, w', rfl, ⟨t, rfl⟩, ⟨t', rfl⟩⟩ := vals2 r
  refine min_two_ints (I.ok.hd hc) fun h' tk k => ⟨_, H, I.kept k, ?_, q⟩
  by_cases hj : j < i
  · rw [if_pos hj, if_pos hj]; exact ⟨_, rfl⟩
  · rw [if_neg hj, if_neg hj]; exact ⟨_, rfl⟩
theorem call_int1 : CallR X (.type "int") (fun xs H Q => (∃ i, xs = [.int i] ∧ Q (.int i) H) ∨ ∃ k, xs = [.bl k] ∧ Q (.int (if k then 1 else 0)) H) := by
  intro pins s σ H xs us Q I r h
  rcases h with ⟨i, rfl, q⟩ | ⟨k, rfl, q⟩
  · obtain ⟨u, rfl, t, rfl⟩ := vals1 r
    exact call_int_int ⟨.int i, H, I, ⟨_, rfl⟩, q⟩
  · obtain ⟨u, rfl, r1⟩ := vals1 r
    cases r1
    exact call_int_bool ⟨.int (if k then 1 else 0), H, I.tok _, ⟨_, rfl⟩, q⟩
/-- len of a str, a bytes, a list, a tuple -/
def LenV (K : PySem.W.Frag) (x : V) (H : Hp) (n : Nat) : Prop :=
  match x with
  | .str y => y.length ≤ sizeLine ∧ n = y.length
  | .byt y => y.size ≤ sizeLine ∧ n = y.size
  | .ref p => (∃ xs, SqL K H p xs ∧ n = xs.length) ∨ ∃ xs, SqT K H p xs ∧ n = xs.length
  | _ => False
theorem call_len : CallR X (.builtin "len") (fun xs H Q => ∃ x n, xs = [x] ∧ LenV X.K x H n ∧ Q (.int n) H) := by
  intro pins s σ H xs us Q I r h
  obtain ⟨x, n, rfl, e, q⟩ := h
  obtain ⟨u, rfl, rx⟩ := vals1 r
  have hl := line63
  have hs : sizeLine = 16777216 := sizeLine_eq
  cases x with
  | str y =>
    obtain ⟨t, rfl⟩ := rx
    obtain ⟨hy, e'⟩ : y.length ≤ sizeLine ∧ n = y.length := e
    subst e'
    exact len_str (by omega) ⟨.int _, H, I.tok _, ⟨_, rfl⟩, q⟩
  | byt y =>
    obtain ⟨t, rfl⟩ := rx
    obtain ⟨hy, e'⟩ : y.size ≤ sizeLine ∧ n = y.size := e
    subst e'
    exact PySem.W.len_bytes (by omega) ⟨.int _, H, I.tok _, ⟨_, rfl⟩, q⟩
  | ref p =>
    cases rx
    have e' : (∃ xs, SqL X.K H p xs ∧ n = xs.length) ∨ ∃ xs, SqT X.K H p xs ∧ n = xs.length := e
    rcases e' with ⟨xs, hx, e'⟩ | ⟨xs, hx, e'⟩
    · subst e'
      obtain ⟨its, r', pl, hz⟩ := I.list hx
      have hlen := r'.length
      exact Calls.call_len_list pl.isList (by simp only [List.size_toArray]; omega) ⟨.int xs.length, H, I.tok _, ⟨_, by simp only [List.size_toArray]; rw [hlen]⟩, q⟩
    · subst e'
      obtain ⟨its, r', pl, hz⟩ := I.tuple hx
      have hlen := r'.length
      exact len_tuple pl (by simp only [List.size_toArray]; omega) ⟨.int xs.length, H, I.tok _, ⟨_, by simp only [List.size_toArray]; rw [hlen]⟩, q⟩
  | _ => exact (show False from e).elim
end
end L2

namespace L2
open PySem PySem.Spec PyProof.Rows

/-! ### an instance, its attributes a map -/
structure ObjM (h : Heap) (x dx C : Addr) (mA : Str → Option Value) : Prop where
  obj : h.get? x = some (PySem.W.instObj C dx)
  ns : h.Ns1 dx mA
  ne : dx ≠ x

theorem lookIn_ns {h : Heap} {dx : Addr} {mA : Str → Option Value} (n : h.Ns1 dx mA) : ∃ od, h.get? dx = some od ∧ ∀ name, PySem.W.lookIn name od = some (mA name) := by
  obtain ⟨o, es, ep, ho, hd, hk, _, hm⟩ := n
  refine ⟨o, ho, fun name => ?_⟩
  have e := hm name
  unfold nsFind findBy at e
  rw [← Array.find?_toList] at e
  unfold PySem.W.lookIn
  rw [hd]
  dsimp only
  split
  · rename_i y q
    rw [q] at e
    exact congrArg some e
  · rename_i q
    rw [q] at e
    have a : es.toList.any (·.refKey) = false := by
      rw [List.any_eq_false]
      intro y hy
      obtain ⟨z, t, hkey⟩ := hk y (Array.mem_toList_iff.mp hy)
      simp [DictEntry.refKey, hkey]
    have a' : ¬ es.toList.any (·.refKey) = true := by rw [a]; exact Bool.false_ne_true
    rw [if_neg a']
    exact congrArg some e

theorem ObjM.look {h : Heap} {x dx C : Addr} {mA : Str → Option Value} (I : ObjM h x dx C mA) : ∃ od, PySem.W.InstAt h x (PySem.W.instObj C dx) C (some od) ∧ ∀ name, PySem.W.lookIn name od = some (mA name) :=
  let ⟨od, ho, hl⟩ := lookIn_ns I.ns
  ⟨od, ⟨I.obj, rfl, rfl, ho⟩, hl⟩

section
variable {prog : Program} {w : World} {A : Around} {E : Value → Shared → Prop} {s : Shared} {K : PySem.W.Frag} {x dx C f : Addr} {mA : Str → Option Value} {name : Str} {v : Value}

theorem get_map {expr : Bool} {Q : Value → Shared → Prop} (X : K.In s.heap) (I : ObjM s.heap x dx C mA) (hg : PySem.W.plainGet K C name = true) (hh : PySem.W.hasDictIn K C = true)
    (ha : PySem.W.findIn K (.ref C) name = some none) (hv : mA name = some v) (hv' : PySem.W.handedIn v = true) (h : Q v { s with toks := s.toks + 1 }) :
    wpAny (model prog w) A (getAttr (.ref x) name expr) Q E s := by
  obtain ⟨od, J, hl⟩ := I.look
  exact PySem.W.get_value X J (PySem.W.plainGet_of hg).1 (PySem.W.findObj_own hh ha rfl (by rw [hl, hv])) hv' h

theorem get_meth {pl : Sem Bool} {Q : Value × List Value → Shared → Prop} (X : K.In s.heap) (I : ObjM s.heap x dx C mA) (hg : PySem.W.plainGet K C name = true)
    (hf : PySem.W.findIn K (.ref C) name = some (some (.ref f))) (ht : PySem.W.isFn K (.ref f) = true) (hv : mA name = none) (h : Q (.ref f, [.ref x]) s) :
    wpAny (model prog w) A (getMethod (.ref x) name pl) Q E s := by
  obtain ⟨od, J, hl⟩ := I.look
  exact PySem.W.method_fn X J (PySem.W.plainGet_of hg).1 (PySem.W.plainGet_of hg).2 hf (beq_iff_eq.mp ht) (by show (PySem.W.lookIn name od).map (·.isSome) = some false; rw [hl, hv]; rfl) h

theorem set_map {ns : List Str} {Q : Unit → Shared → Prop} (X : K.In s.heap) (I : ObjM s.heap x dx C mA)
    (hs : PySem.W.findIn K (.ref C) "__setattr__" = some (some (.builtin "object.__setattr__"))) (hp : PySem.W.plainOver K C = true) (ht : PySem.W.takerIn K C name = some none) (hh : PySem.W.hasDictIn K C = true)
    (hw : PySem.Within mA ns) (hsz : ns.length ≤ sizeLine)
    (h : ∀ h', ObjM h' x dx C (fun y => if y = name then some v else mA y) → Heap.SameBut dx s.heap h' → Q () { s with heap := h', toks := s.toks + 2 }) :
    wpAny (model prog w) A (setAttr (.ref x) name v) Q E s := by
  obtain ⟨od, J, hl⟩ := I.look
  refine PySem.W.set_plain X J hs (PySem.W.osa_open (s := { s with toks := s.toks + 1 }) (r := none) X J hp ht fun b => ?_)
  obtain ⟨cd, hc, hd'⟩ := PySem.W.any_some hh
  have hx : s.heap.get? x = some ⟨.ref C, some dx, .plain, #[]⟩ := I.obj
  refine wpAny_bind (wpAny_pure (wpAny_bind (wpAny_bind (wpAny_loadPart hx (wpAny_bind (PySem.W.Looks.here (s := { s with toks := s.toks + 1 }) (PySem.W.looks_clsIn X hc) ?_))))))
  rw [hd']
  refine wpAny_pure (a := some dx) (wpAny_bind (wpAny_pure (wpAny_bind ?_)))
  refine wpAny_nsSet1 (s := { s with toks := s.toks + 1 }) I.ns fun h' hn2 hs2 => ?_
  obtain ⟨oD, esD, epD, hoD, hdD, hcD⟩ := hn2.count (PySem.Within.cons name v hw)
  refine wpAny_bind (wpAny_lookBehind hoD (by rw [hdD]; exact pastItsLine_dict (Nat.le_trans hcD (by rw [List.length_cons]; omega))) ?_)
  exact wpAny_pure (h _ ⟨(hs2.2 _ (Ne.symm I.ne)).trans I.obj, hn2, I.ne⟩ hs2)

/-- C(..): the dict at the heap's end, the instance behind it; then its __init__ -/
theorem make_map {R : Result → Shared → Prop} {vs : List Value} {kw : List (Str × Value)} (X : K.In s.heap) (hm : PySem.W.makesIn K C = true)
    (hi : PySem.W.findIn K (.ref C) "__init__" = some (some (.ref f))) (hf : PySem.W.typeIn K (.ref f) = some (.type "function"))
    (h : codeAny (model prog w) (A.under (.builtin "type.__call__" ⟨.ref C :: vs, kw⟩)) (.call (.ref f) ⟨.ref (s.heap.objs.size + 1) :: vs, kw⟩) (PySem.W.InitBack (s.heap.objs.size + 1) R)
      { s with heap := (s.heap.push PySem.W.emptyDict).push (PySem.W.instObj C s.heap.objs.size) }) :
    codeAny (model prog w) A (.call (.ref C) ⟨vs, kw⟩) R s := by
  obtain ⟨hh, g, d, t, os⟩ := s
  exact PySem.W.make_core (PySem.W.makes_of X hm) (PySem.W.looks_findIn X hi) (fun self => PySem.W.bind_fn X self hf) (.inl rfl) h
end

/-! ### the attributes as a list of pairs -/
def putF (f : Str) (v : V) : List (Str × V) → List (Str × V)
  | [] => [(f, v)]
  | (g, x) :: r => if g = f then (g, v) :: r else (g, x) :: putF f v r
theorem lookup_putF (f g : Str) (v : V) : ∀ fs : List (Str × V), (putF f v fs).lookup g = if g = f then some v else fs.lookup g
  | [] => by
    show List.lookup g [(f, v)] = _
    by_cases h : g = f
    · have hb : (g == f) = true := beq_iff_eq.mpr h
      simp only [List.lookup, hb, if_pos h]
    · have hb : (g == f) = false := beq_eq_false_iff_ne.mpr h
      simp only [List.lookup, hb, if_neg h]
  | (k, x) :: r => by
    have ih := lookup_putF f g v r
    rw [show putF f v ((k, x) :: r) = (if k = f then (k, v) :: r else (k, x) :: putF f v r) from rfl]
    by_cases hk : k = f
    · rw [if_pos hk]
      by_cases h : g = k
      · have hb : (g == k) = true := beq_iff_eq.mpr h
        simp only [List.lookup, hb, if_pos (h.trans hk)]
      · have hb : (g == k) = false := beq_eq_false_iff_ne.mpr h
        simp only [List.lookup, hb, if_neg (fun e : g = f => h (e.trans hk.symm))]
    · rw [if_neg hk]
      by_cases h : g = k
      · have hb : (g == k) = true := beq_iff_eq.mpr h
        simp only [List.lookup, hb, if_neg (fun e : g = f => hk (h.symm.trans e))]
      · have hb : (g == k) = false := beq_eq_false_iff_ne.mpr h
        simp only [List.lookup, hb]
        exact ih
theorem keys_putF (f : Str) (v : V) : ∀ fs : List (Str × V), f ∈ (putF f v fs).map (·.1) ∧ ∀ g, g ∈ fs.map (·.1) → g ∈ (putF f v fs).map (·.1)
  | [] => ⟨by simp [putF], fun g h => by simp at h⟩
  | (k, x) :: r => by
    obtain ⟨i1, i2⟩ := keys_putF f v r
    rw [show putF f v ((k, x) :: r) = (if k = f then (k, v) :: r else (k, x) :: putF f v r) from rfl]
    by_cases hk : k = f
    · rw [if_pos hk]
      subst hk
      exact ⟨by simp, fun g h => by simpa using h⟩
    · rw [if_neg hk]
      refine ⟨?_, fun g h => ?_⟩
      · rw [List.map_cons]
        exact List.mem_cons_of_mem _ i1
      · rw [List.map_cons] at h ⊢
        rcases List.mem_cons.mp h with e | e
        · exact List.mem_cons.mpr (.inl e)
        · exact List.mem_cons_of_mem _ (i2 g e)
theorem length_putF (f : Str) (v : V) : ∀ fs : List (Str × V), (putF f v fs).length ≤ fs.length + 1
  | [] => by simp [putF]
  | (k, x) :: r => by
    have ih := length_putF f v r
    rw [show putF f v ((k, x) :: r) = (if k = f then (k, v) :: r else (k, x) :: putF f v r) from rfl]
    by_cases hk : k = f
    · rw [if_pos hk, List.length_cons, List.length_cons]; omega
    · rw [if_neg hk, List.length_cons, List.length_cons]; omega

theorem RelO.some_of {v : V} {o : Option Value} (r : RelO (some v) o) : ∃ u, o = some u ∧ RelV v u := by
  cases o with
  | none => exact (show False from r).elim
  | some u => exact ⟨u, rfl, r⟩
theorem RelO.none_of {o : Option Value} (r : RelO none o) : o = none := by
  cases o with
  | none => rfl
  | some u => exact (show False from r).elim
theorem handed_of {v : V} {u : Value} (r : RelV v u) : PySem.W.handedIn u = true := by
  cases v with
  | non => cases (show u = Value.none from r); rfl
  | bl b => cases (show u = Value.bool b from r); rfl
  | int i => obtain ⟨t, e⟩ := (show ∃ t, u = Value.int i t from r); cases e; rfl
  | str x => obtain ⟨t, e⟩ := (show ∃ t, u = Value.str x t from r); cases e; rfl
  | byt b => obtain ⟨t, e⟩ := (show ∃ t, u = Value.bytes b t from r); cases e; rfl
  | flt b => obtain ⟨t, e⟩ := (show ∃ t, u = Value.float b t from r); cases e; rfl
  | ref a => cases (show u = Value.ref a from r); rfl
  | ty n => cases (show u = Value.type n from r); rfl

section
variable {P : Program} {w : World} {H H' : Hp} {h h' : Heap} {a C dx : Addr} {fs fs' : List (Str × V)}
theorem ins_get (hok : HOk P w H h) (e : H a = some (.ins C dx fs)) : ∃ mA, ObjM h a dx C mA ∧ (∀ f, RelO (fs.lookup f) (mA f)) ∧ PySem.Within mA (fs.map (·.1)) ∧ fs.length ≤ 1000 ∧ H dx = some (.own a) := by
  obtain ⟨d, z, ne, ob, mA, n, r, q⟩ := (show ObjOk P w H h a (.ins C dx fs) from hok a _ e)
  exact ⟨mA, ⟨ob, n, ne⟩, r, q, z, d⟩
end

/-! ### what of the text a class must have -/
structure Cls (K : PySem.W.Frag) (C : Addr) : Prop where
  pg : PySem.W.plainGet K C Str.empty = true
  hd : PySem.W.hasDictIn K C = true
  po : PySem.W.plainOver K C = true
  sa : PySem.W.findIn K (.ref C) "__setattr__" = some (some (.builtin "object.__setattr__"))
theorem Cls.get {K : PySem.W.Frag} {C : Addr} (c : Cls K C) (f : Str) : PySem.W.plainGet K C f = true := c.pg
/-- no class of it has the name -/
def NoAttr (K : PySem.W.Frag) (C : Addr) (f : Str) : Prop := PySem.W.findIn K (.ref C) f = some none
theorem NoAttr.taker {K : PySem.W.Frag} {C : Addr} {f : Str} (n : NoAttr K C f) : PySem.W.takerIn K C f = some none := by
  unfold PySem.W.takerIn
  rw [show PySem.W.findIn K (.ref C) f = some none from n]
  rfl
/-- a constant of the class -/
structure Con (K : PySem.W.Frag) (C : Addr) (f : Str) (v : V) (u : Value) : Prop where
  at_ : PySem.W.findIn K (.ref C) f = some (some u)
  rel : RelV v u
  get : PySem.W.specialIn K u "__get__" = some none
  cp : PySem.W.copiedNames.contains f = false
/-- a method: a plain def of the class or of one above it -/
structure Meth (K : PySem.W.Frag) (C : Addr) (m : Str) (f : Addr) : Prop where
  at_ : PySem.W.findIn K (.ref C) m = some (some (.ref f))
  fn : PySem.W.isFn K (.ref f) = true
  kp : PySem.W.keepIn K (.ref f) = true

section
variable {X : Cx} {pins : List (Addr × Obj)} {σ : St} {H : Hp} {s : Shared} {a C dx : Addr} {fs : List (Str × V)} {f : Str} {v : V} {A : Around} {E : Value → Shared → Prop}

theorem getattr_ok {b : Bool} {Q : Value → Shared → Prop} (I : Inv X pins σ H s) (e : H a = some (.ins C dx fs)) (c : Cls X.K C) (n : NoAttr X.K C f) (l : fs.lookup f = some v)
    (h : ∀ u s', Inv X pins σ H s' → RelV v u → Q u s') : wpAny (model X.prog X.w) A (getAttr (.ref a) f b) Q E s := by
  obtain ⟨mA, O, r, _, _, _⟩ := ins_get I.hok e
  obtain ⟨u, hu, ru⟩ := RelO.some_of (v := v) (o := mA f) (by rw [← l]; exact r f)
  exact get_map I.kIn O (c.get f) c.hd n hu (handed_of ru) (h u _ (I.tok _) ru)

theorem getmeth_ok {m : Str} {g : Addr} {pl : Sem Bool} {Q : Value × List Value → Shared → Prop} (I : Inv X pins σ H s) (e : H a = some (.ins C dx fs)) (c : Cls X.K C) (k : Meth X.K C m g) (l : fs.lookup m = none)
    (h : Q (.ref g, [.ref a]) s) : wpAny (model X.prog X.w) A (getMethod (.ref a) m pl) Q E s := by
  obtain ⟨mA, O, r, _, _, _⟩ := ins_get I.hok e
  have hn : mA m = none := RelO.none_of (by rw [← l]; exact r m)
  exact get_meth I.kIn O (c.get m) k.at_ k.fn hn h

theorem setattr_ok {y : V} {u : Value} {Q : Unit → Shared → Prop} (I : Inv X pins σ H s) (e : H a = some (.ins C dx fs)) (c : Cls X.K C) (n : NoAttr X.K C f) (hl : fs.length < 1000) (ry : RelV y u)
    (h : ∀ s', Inv X pins σ (upd H a (.ins C dx (putF f y fs))) s' → Q () s') : wpAny (model X.prog X.w) A (setAttr (.ref a) f u) Q E s := by
  obtain ⟨mA, O, r, wi, _, ho⟩ := ins_get I.hok e
  have hz : (fs.map (·.1)).length ≤ sizeLine := by rw [List.length_map, sizeLine_eq]; omega
  refine set_map I.kIn O c.sa c.po n.taker c.hd wi hz fun h' O' sb => h _ ?_
  have hd : ∃ o, h'.get? dx = some o := let ⟨o, _, _, e', _⟩ := O'.ns; ⟨o, e'⟩
  refine I.write (x := a) (e := dx) (by rw [e]; exact True.intro) (.inr ho) (fun b q hb z => (sb.2 b hb).trans z) hd ?_
  refine ⟨by rw [upd_ne O.ne]; exact ho, ?_, O.ne, O'.obj, _, O'.ns, fun g => ?_, fun g hg => ?_⟩
  · have := length_putF f y fs; omega
  · show RelO ((putF f y fs).lookup g) (if g = f then some u else mA g)
    rw [lookup_putF]
    by_cases q : g = f
    · rw [if_pos q, if_pos q]; exact ry
    · rw [if_neg q, if_neg q]; exact r g
  · by_cases q : g = f
    · rw [q]; exact (keys_putF f y fs).1
    · refine (keys_putF f y fs).2 g (wi g fun z => hg ?_)
      show (if g = f then some u else mA g) = none
      rw [if_neg q]; exact z

/-- a new instance, tracked, without attributes -/
theorem Inv.made (I : Inv X pins σ H s) : Inv X pins σ (upd (upd H s.heap.objs.size (.own (s.heap.objs.size + 1))) (s.heap.objs.size + 1) (.ins C s.heap.objs.size []))
    { s with heap := (s.heap.push PySem.W.emptyDict).push (PySem.W.instObj C s.heap.objs.size) } := by
  have e1 : (s.heap.push PySem.W.emptyDict).get? s.heap.objs.size = some PySem.W.emptyDict := Heap.get?_push_size s.heap rfl
  have e2 : ((s.heap.push PySem.W.emptyDict).push (PySem.W.instObj C s.heap.objs.size)).get? (s.heap.objs.size + 1) = some (PySem.W.instObj C s.heap.objs.size) := by
    have := Heap.get?_push_size (s.heap.push PySem.W.emptyDict) (o := PySem.W.instObj C s.heap.objs.size) rfl
    rwa [Heap.size_push] at this
  have e3 : (s.heap.push PySem.W.emptyDict).Ns s.heap.objs.size (fun _ => none) := ⟨PySem.W.emptyDict, #[], _, e1, rfl, (fun e he => absurd he (by simp)), fun _ => rfl⟩
  have I1 := I.laid (a := s.heap.objs.size) (o := .own (s.heap.objs.size + 1)) (h' := s.heap.push PySem.W.emptyDict) (t' := s.toks) (fun b u q => Heap.get?_push_of_some _ q) (Nat.le_refl _) ⟨_, e1⟩
  refine I1.laid (a := s.heap.objs.size + 1) (o := .ins C s.heap.objs.size []) (t' := s.toks) (fun b u q => Heap.get?_push_of_some _ q) (Nat.le_of_eq (Heap.size_push _ _)) ?_
  have ne : s.heap.objs.size ≠ s.heap.objs.size + 1 := Nat.ne_of_lt (Nat.lt_succ_self _)
  refine ⟨by rw [upd_ne ne, upd_same], Nat.zero_le _, ne, e2, fun _ => none, (Heap.Ns1.of_empty e3).at fun o q => Heap.get?_push_of_some _ q, fun _ => True.intro, fun y hy => absurd rfl hy⟩

/-- e.f where nothing but the object is asked: through attributeBase (super) and the last hold -/
theorem attr_of {prog : Program} {w : World} {env : Env} {e : Expr} {f : Str} {pos : Pos} {s : Shared} {Q : Value → Shared → Prop} (hb : attributeBase e f env (eval e env) = eval e env)
    (h : wpAny (model prog w) A (eval e env) (fun o s₁ => wpAny (model prog w) A (getAttr o f true) Q E s₁) E s) : wpAny (model prog w) A (eval (.Attribute e f pos) env) Q E s :=
  Attribute_any_ h (by rw [arm_eval_Attribute, hb])
end

/-! ### readings and rules -/
/-- e.f, an attribute of the instance -/
def tFld (K : PySem.W.Frag) (ta : TE) (f : Str) : TE := fun σ H Q => ta σ H fun x H1 => ∃ a C dx fs v, x = .ref a ∧ H1 a = some (.ins C dx fs) ∧ Cls K C ∧ NoAttr K C f ∧ fs.lookup f = some v ∧ Q v H1
/-- e.f, a constant of the class -/
def tCon (K : PySem.W.Frag) (ta : TE) (f : Str) : TE := fun σ H Q => ta σ H fun x H1 => ∃ a C dx fs v u, x = .ref a ∧ H1 a = some (.ins C dx fs) ∧ Cls K C ∧ Con K C f v u ∧ fs.lookup f = none ∧ Q v H1
/-- e.f = value -/
def sFld (K : PySem.W.Frag) (ta tv : TE) (f : Str) : TS := fun D σ H => tv σ H fun y H1 => ta σ H1 fun x H2 => ∃ a C dx fs, x = .ref a ∧ H2 a = some (.ins C dx fs) ∧ Cls K C ∧ NoAttr K C f ∧ fs.length < 1000 ∧
  D.nx σ (upd H2 a (.ins C dx (putF f y fs)))
/-- an augmented operator on two values -/
def InOp (X : Cx) (op : Operator) (rd : V → V → Hp → VK → Prop) : Prop :=
  ∀ (pins : List (Addr × Obj)) (s : Shared) (σ : St) (H : Hp) (x y : V) (u v : Value) (Q : VK), Inv X pins σ H s → RelV x u → RelV y v → rd x y H Q → wpAny (model X.prog X.w) X.A (inplaceOp op u v) (EP X pins σ Q) X.xe s
/-- e.f op= value -/
def sFldAug (K : PySem.W.Frag) (ta tv : TE) (rd : V → V → Hp → VK → Prop) (f : Str) : TS := fun D σ H => ta σ H fun x H1 => ∃ a C dx fs v, x = .ref a ∧ H1 a = some (.ins C dx fs) ∧ Cls K C ∧ NoAttr K C f ∧ fs.lookup f = some v ∧
  tv σ H1 fun y H2 => rd v y H2 fun z H3 => ∃ dx' fs', H3 a = some (.ins C dx' fs') ∧ fs'.length < 1000 ∧ D.nx σ (upd H3 a (.ins C dx' (putF f z fs')))

section
variable {X : Cx} {o e value : Expr} {f : Str} {pos pos' tpos : Pos} {ta tv : TE}
theorem pe_fld (he : PE X e ta) (hb : attributeBase e f X.env (eval e X.env) = eval e X.env) : PE X (.Attribute e f pos) (tFld X.K ta f) := by
  intro pins s σ H Q I h
  refine attr_of hb (thn (he pins s σ H _ I h) fun u s1 ⟨x, H1, I1, rx, a, C, dx, fs, v, ex, ea, c, n, l, q⟩ => ?_)
  subst ex
  obtain rfl : u = Value.ref a := rx
  exact getattr_ok I1 ea c n l fun u' s2 I2 ru => ⟨v, H1, I2, ru, q⟩
theorem ps_fld (ha : PE X o ta) (hv : PE X value tv) (hs : swapsWith value (some (.Attribute o f pos')) pos.line X.env = pure false) : PS X (.Assign [.Attribute o f pos'] value pos) (sFld X.K ta tv f) := by
  intro pins s σ H D I h
  refine plainObj_wpAny_Assign_Attribute (thn (hv pins s σ H _ I h) fun u s1 ⟨y, H1, I1, ry, q⟩ => thn (ha pins s1 σ H1 _ I1 q) fun ov s2 ⟨x, H2, I2, rx, a, C, dx, fs, ex, ea, c, n, l, q2⟩ => ?_) hs
  subst ex
  obtain rfl : ov = Value.ref a := rx
  exact setattr_ok I2 ea c n l ry fun s3 I3 => ⟨σ, _, I3, q2⟩
def rAdd : V → V → Hp → VK → Prop := fun x y H Q => ∃ i j, x = .int i ∧ y = .int j ∧ Q (.int (i + j)) H
def rSub : V → V → Hp → VK → Prop := fun x y H Q => ∃ i j, x = .int i ∧ y = .int j ∧ Q (.int (i - j)) H
end

/-! ### isinstance -/
section
variable {X : Cx} {pins : List (Addr × Obj)} {σ : St} {H : Hp} {s : Shared} {A : Around} {E : Value → Shared → Prop} {Q : Value → Shared → Prop} {c : Value} {b : Bool}
/-- the type of a value, as the fragment's deciders take it; for an instance its class -/
inductive TyOf (K : PySem.W.Frag) (H : Hp) : V → Value → Prop where
  | non : TyOf K H .non (.type "NoneType")
  | bl (x : Bool) : TyOf K H (.bl x) (.type "bool")
  | int (i : Int) : TyOf K H (.int i) (.type "int")
  | str (x : Str) : TyOf K H (.str x) (.type "str")
  | flt (x : UInt64) : TyOf K H (.flt x) (.type "float")
  | lst {a : Addr} {xs : List V} (e : H a = some (.lst xs)) : TyOf K H (.ref a) (.type "list")
  | frz {a : Addr} {o : Obj} {xs : List V} (e : H a = some (.frz o (.lst xs))) : TyOf K H (.ref a) (.type "list")
  | tup {a : Addr} {xs : List V} (e : H a = some (.tup xs)) : TyOf K H (.ref a) (.type "tuple")
  | dK {a : Addr} {kvs : List (Key × V)} (e : H a = some (.dK kvs)) : TyOf K H (.ref a) (.type "dict")
  | dT {a : Addr} {kvs : List (List Key × V)} (e : H a = some (.dT kvs)) : TyOf K H (.ref a) (.type "dict")
  | ins {a C dx : Addr} {fs : List (Str × V)} (e : H a = some (.ins C dx fs)) (cl : Cls K C) (ha : PySem.W.findIn K (.ref C) "__class__" = some (some (.builtin "object.__class__")))
      (hn : PySem.W.specialIn K (.builtin "object.__class__") "__get__" = some (some (.builtin "getset_descriptor.__get__"))) (htk : PySem.W.takesIn K (.builtin "object.__class__") = some true)
      (hm : PySem.W.mroIn K C (.type "object") = some true) : TyOf K H (.ref a) (.ref C)
/-- isinstance(x, c) for one class c, a built-in or an own one: kitOne's answer -/
theorem isinst_ok {x : V} {u t : Value} (I : Inv X pins σ H s) (rx : RelV x u) (ty : TyOf X.K H x t) (e : PySem.W.kitOne X.K t c = some b) (h : ∀ tk, Q (.bool b) { s with toks := tk }) :
    wpAny (model X.prog X.w) A (call (.builtin "isinstance") [u, c]) Q E s := by
  cases ty with
  | non => cases (show u = Value.none from rx); exact PySem.W.kia_one PySem.W.kitx_none I.kIn True.intro e (fun z => nomatch z) h
  | bl y => cases (show u = Value.bool y from rx); exact PySem.W.kia_one PySem.W.kitx_bool I.kIn True.intro e (fun z => nomatch z) h
  | int i => obtain ⟨t, q⟩ := (show ∃ t, u = Value.int i t from rx); cases q; exact PySem.W.kia_one PySem.W.kitx_int I.kIn True.intro e (fun z => nomatch z) h
  | str y => obtain ⟨t, q⟩ := (show ∃ t, u = Value.str y t from rx); cases q; exact PySem.W.kia_one PySem.W.kitx_str I.kIn True.intro e (fun z => nomatch z) h
  | flt y => obtain ⟨t, q⟩ := (show ∃ t, u = Value.float y t from rx); cases q; exact PySem.W.kia_one PySem.W.kitx_float I.kIn True.intro e (fun z => nomatch z) h
  | @lst a xs ea =>
    cases (show u = Value.ref a from rx)
    obtain ⟨_, _, n, _, h1⟩ := (show ObjOk X.prog X.w H s.heap a (.lst xs) from I.hok a _ ea)
    exact PySem.W.kia_one PySem.W.kitx_list I.kIn ⟨_, h1, rfl⟩ e (fun z => nomatch z) h
  | @frz a ob xs ea =>
    cases (show u = Value.ref a from rx)
    obtain ⟨_, _, _, n, _, h1⟩ := (show ObjOk X.prog X.w H s.heap a (.frz ob (.lst xs)) from I.hok a _ ea)
    exact PySem.W.kia_one PySem.W.kitx_list I.kIn ⟨_, h1, rfl⟩ e (fun z => nomatch z) h
  | @tup a xs ea =>
    cases (show u = Value.ref a from rx)
    obtain ⟨_, _, _, p⟩ := (show ObjOk X.prog X.w H s.heap a (.tup xs) from I.hok a _ ea)
    obtain ⟨o, h1, h2, _⟩ := p
    exact PySem.W.kia_one PySem.W.kitx_tuple I.kIn ⟨o, h1, h2⟩ e (fun z => nomatch z) h
  | @dK a kvs ea =>
    cases (show u = Value.ref a from rx)
    obtain ⟨_, _, vs, _, p⟩ := (show ObjOk X.prog X.w H s.heap a (.dK kvs) from I.hok a _ ea)
    obtain ⟨o, es, ep, h1, h2, _⟩ := p
    exact PySem.W.kia_one PySem.W.kitx_dict I.kIn ⟨o, h1, h2.1⟩ e (fun z => nomatch z) h
  | @dT a kvs ea =>
    cases (show u = Value.ref a from rx)
    obtain ⟨_, _, xs, _, o, es, ep, h1, h2, _⟩ := (show ObjOk X.prog X.w H s.heap a (.dT kvs) from I.hok a _ ea)
    exact PySem.W.kia_one PySem.W.kitx_dict I.kIn ⟨o, h1, h2.1⟩ e (fun z => nomatch z) h
  | @ins a C dx fs ea cl ha hn htk hm =>
    cases (show u = Value.ref a from rx)
    obtain ⟨mA, O, _⟩ := ins_get I.hok ea
    obtain ⟨od, J, _⟩ := O.look
    exact PySem.W.kia_one (PySem.W.kitx_own (cl.get _) cl.hd ha hn htk hm) I.kIn J e (fun z => nomatch z) h
end
end L2

namespace L2
open PySem PySem.Spec PyProof.Rows

/-! ### room -/
structure Room (k : Nat) (A : Around) : Prop where
  hd : A.handled = none
  dp : A.depth + 3 * k + 5 < recursionLimit
  un : A.units + 16 * k + 200 < cLine
  gd : A.guards = some []
theorem Room.mono {j k : Nat} {A : Around} (r : Room k A) (h : j ≤ k) : Room j A := ⟨r.hd, by have := r.dp; omega, by have := r.un; omega, r.gd⟩
theorem Room.deeper {k : Nat} {A : Around} (r : Room (k + 1) A) (env : Env) : Room k (A.deeper env) :=
  ⟨r.hd, by have := r.dp; show A.depth + 1 + 3 * k + 5 < _; omega, by have := r.un; show A.units + 3 + 16 * k + 200 < _; omega, r.gd⟩
theorem Room.in1 {k : Nat} {A : Around} (r : Room (k + 1) A) : Room k A.in1 :=
  ⟨r.hd, by have := r.dp; show A.depth + 3 * k + 5 < _; omega, by have := r.un; show A.units + 1 + 16 * k + 200 < _; omega, r.gd⟩
theorem make_depth {A : Around} {C : Addr} {us : List Value} {kw : List (Str × Value)} : (A.under (.builtin "type.__call__" ⟨.ref C :: us, kw⟩)).depth = A.depth + 1 := by
  first | rfl | simp [Around.under, Code.weight, Code.isCreation, Code.isGuard, Code.isCaller, Code.frames, Code.isFrame, guardIds]
theorem make_units {A : Around} {C : Addr} {us : List Value} {kw : List (Str × Value)} : (A.under (.builtin "type.__call__" ⟨.ref C :: us, kw⟩)).units = A.units + 1 := by
  first | rfl | simp [Around.under, Code.cUnits, Code.frames, Code.isFrame]
theorem make_guards {A : Around} {C : Addr} {us : List Value} {kw : List (Str × Value)} : (A.under (.builtin "type.__call__" ⟨.ref C :: us, kw⟩)).guards = A.guards := by
  first | rfl | (show pushGuards (Code.guards _) A.guards = _; rw [show Code.guards (.builtin "type.__call__" ⟨.ref C :: us, kw⟩) = [] from rfl]; rfl) | simp [Around.under, Code.guards, Code.isGuard, guardIds, pushGuards]
theorem Room.make {k : Nat} {A : Around} (r : Room (k + 1) A) (C : Addr) (us : List Value) (kw : List (Str × Value)) : Room k (A.under (.builtin "type.__call__" ⟨.ref C :: us, kw⟩)) :=
  ⟨r.hd, by have := r.dp; rw [make_depth]; omega, by have := r.un; rw [make_units]; omega, (make_guards (A := A) (C := C) (us := us) (kw := kw)).trans r.gd⟩
theorem Room.depth {k : Nat} {A : Around} (r : Room k A) : A.depth < recursionLimit := by have := r.dp; omega
theorem Room.units {k : Nat} {A : Around} (r : Room k A) : A.units + 64 < cLine := by have := r.un; omega
/-! ### argument lists and displays -/
def tNil : TA := fun _ H Q => Q [] H
def tCons (ta : TE) (tr : TA) : TA := fun σ H Q => ta σ H fun x H1 => tr σ H1 fun xs H2 => Q (x :: xs) H2
section
variable {X : Cx} {e : Expr} {es : List Expr} {te : TE} {t : TA} {pos : Pos}
theorem pa_nil : PA X [] tNil := fun _ _ _ _ H Q I h => Calls.spliced_nil ⟨[], H, I, .nil, h⟩
theorem pa_cons (ha : PE X e te) (hr : PA X es t) (hs : starEach (e :: es) X.env = (false, eval e X.env) :: starEach es X.env := by rfl) : PA X (e :: es) (tCons te t) := by
  intro pos pins s σ H Q I h
  rw [hs]
  show wpAny _ _ (spliced ((false, eval e X.env) :: backTo pos (starEach es X.env))) _ _ s
  refine Calls.spliced_cons (thn (ha pins s σ H _ I h) fun u s1 ⟨x, H1, I1, r1, q1⟩ => ?_)
  exact thn (hr pos pins s1 σ H1 _ I1 q1) fun us s2 ⟨xs, H2, I2, r2, q2⟩ => ⟨x :: xs, H2, I2, .cons r1 r2, q2⟩

/-- a tuple, a list of written items -/
def tTup (t : TA) : TE := fun σ H Q => t σ H fun xs H1 => xs.length ≤ sizeLine ∧ ∀ p, H1 p = none → Q (.ref p) (upd H1 p (.tup xs))
def tLst (t : TA) : TE := fun σ H Q => t σ H fun xs H1 => xs.length ≤ sizeLine ∧ ∀ p, H1 p = none → Q (.ref p) (upd H1 p (.lst xs))
theorem pe_tup {x1} (h : PA X es t) : PE X (.Tuple es x1 pos) (tTup t) := by
  intro pins s σ H Q I hq
  refine wpAny_Tuple_spliced (thn (h pos pins s σ H _ I hq) fun us s1 ⟨xs, H1, I1, r, z, q⟩ => ⟨by rw [← r.length]; exact z, ?_⟩)
  have hf : H1 s1.heap.objs.size = none := I1.hok.fresh (Nat.le_refl _)
  refine ⟨.ref s1.heap.objs.size, upd H1 s1.heap.objs.size (.tup xs), I1.laid (t' := s1.toks) (fun b u e => Heap.get?_push_of_some _ e) (Nat.le_refl _) ?_, rfl, q _ hf⟩
  exact ⟨z, us, r, ⟨_, Heap.get?_push_size _ rfl, rfl, _, rfl⟩⟩
theorem pe_lst (h : PA X es t) : PE X (.List es pos) (tLst t) := by
  intro pins s σ H Q I hq
  refine wpAny_List_spliced (thn (h pos pins s σ H _ I hq) fun us s1 ⟨xs, H1, I1, r, z, q⟩ => ⟨by rw [← r.length]; exact z, ?_⟩)
  have hf : H1 s1.heap.objs.size = none := I1.hok.fresh (Nat.le_refl _)
  refine ⟨.ref s1.heap.objs.size, upd H1 s1.heap.objs.size (.lst xs), I1.laid (t' := s1.toks) (fun b u e => Heap.get?_push_of_some _ e) (Nat.le_refl _) ?_, rfl, q _ hf⟩
  exact ⟨z, us, 0, r, Heap.get?_push_size _ rfl⟩
end

/-! ### what a def promises -/
/-- a def's promise: the bound arguments in the parameters' order, the heap, the wanted end, the wanted exception -/
abbrev Sp := List V → Hp → VK → XK → Prop
/-- how an exception lies behind a call (file 08 gives it): the callers' frames, abstract heap and state ahead of the call, the wish, the exception, the state -/
abbrev CXT := List Env → Hp → Shared → XK → Value → Shared → Prop

/-- the state at a call -/
structure Env0 (P : Program) (w : World) (K : PySem.W.Frag) (mg : Str → Option Value) (base : Heap) (A : Around) (outer : List Env) (s : Shared) (H : Hp) : Prop where
  frames : A.frames = some outer
  mod : Mod K mg base
  bs : ∀ b o, base.get? b = some o → s.heap.get? b = some o ∧ H b = none
  bsz : base.objs.size ≤ s.heap.objs.size
  funs : s.heap.FunFrames base outer
  frf : ∀ b ∈ frs outer, H b = none
  hok : HOk P w H s.heap
  bare : AllBare s.gens
/-- a call's end -/
def CE (outer : List Env) (P : Program) (w : World) (H : Hp) (s : Shared) (Q : VK) (u : Value) (s' : Shared) : Prop :=
  ∃ v H', s'.os = s.os ∧ AllBare s'.gens ∧ Un (frs outer) [] H H' s.heap s'.heap ∧ HOk P w H' s'.heap ∧ RelV v u ∧ Q v H'
def CR (CX : CXT) (outer : List Env) (P : Program) (w : World) (H : Hp) (s : Shared) (Q : VK) (E : XK) (r : Result) (s' : Shared) : Prop :=
  match r with
  | .ok (.ret u) => CE outer P w H s Q u s'
  | .ok _ => False
  | .error e => CX outer H s E e s'
structure FnOk (P : Program) (w : World) (K : PySem.W.Frag) (mg : Str → Option Value) (base : Heap) (CX : CXT) (k : Nat) (f : Addr) (fd : FuncData) (ps : List Str) (sp : Sp) : Prop where
  len : ∀ vs H Q E, sp vs H Q E → vs.length = ps.length
  run : ∀ (A : Around) (outer : List Env) (s : Shared) (H : Hp) (args : Args) (us : List Value) (vs : List V) (Q : VK) (E : XK), Room k A → Env0 P w K mg base A outer s H → BindsTo s fd args (ps.zip us) → Vals vs us → sp vs H Q E →
    codeAny (model P w) A (.call (.ref f) args) (CR CX outer P w H s Q E) s
theorem FnOk.mono {P : Program} {w : World} {K : PySem.W.Frag} {mg : Str → Option Value} {base : Heap} {CX : CXT} {j k : Nat} {f : Addr} {fd : FuncData} {ps : List Str} {sp : Sp} (F : FnOk P w K mg base CX j f fd ps sp) (h : j ≤ k) :
    FnOk P w K mg base CX k f fd ps sp := ⟨F.len, fun A outer s H args us vs Q E hr => F.run A outer s H args us vs Q E (hr.mono h)⟩
theorem Env0.make {P : Program} {w : World} {K : PySem.W.Frag} {mg : Str → Option Value} {base : Heap} {A : Around} {outer : List Env} {s : Shared} {H : Hp} (e : Env0 P w K mg base A outer s H) (C : Addr) (us : List Value) (kw : List (Str × Value)) :
    Env0 P w K mg base (A.under (.builtin "type.__call__" ⟨.ref C :: us, kw⟩)) outer s H := ⟨by first | exact e.frames | (simpa [Around.under, Code.envs, Code.isFrame, pushEnvs] using e.frames), e.mod, e.bs, e.bsz, e.funs, e.frf, e.hok, e.bare⟩
theorem Env0.in1 {P : Program} {w : World} {K : PySem.W.Frag} {mg : Str → Option Value} {base : Heap} {A : Around} {outer : List Env} {s : Shared} {H : Hp} (e : Env0 P w K mg base A outer s H) :
    Env0 P w K mg base A.in1 outer s H := ⟨e.frames, e.mod, e.bs, e.bsz, e.funs, e.frf, e.hok, e.bare⟩

section
variable {X : Cx} {pins : List (Addr × Obj)} {σ : St} {H : Hp} {s s' : Shared}
/-- from a body: what a callee wants -/
theorem Inv.env0 (I : Inv X pins σ H s) : Env0 X.prog X.w X.K X.mg X.base X.A X.stack s H :=
  ⟨I.ok.frames, I.ok.mod, I.bs, Nat.le_trans I.ok.bsz I.sz, I.stack, I.stkFree, I.hok, I.bare⟩
/-- behind a call -/
theorem Inv.after {Q : VK} {u : Value} (I : Inv X pins σ H s) (h : CE X.stack X.prog X.w H s Q u s') : EP X pins σ Q u s' := by
  obtain ⟨v, H', os, bare, un, hok, r, q⟩ := h
  obtain ⟨hh, g, d, t, os'⟩ := s'
  obtain rfl : os' = s.os := os
  exact ⟨v, H', I.call (h' := hh) (g' := g) (d' := d) (t' := t) (ch := []) un hok bare (fun b z => absurd z (by simp)), r, q⟩
end

/-! ### calls -/
/-- f(..): the written arguments, then the defaults dvs; E: what is wanted of an exception -/
def tCall (sp : Sp) (dvs : List V) (E : XK) (t : TA) : TE := fun σ H Q => t σ H fun vs H1 => sp (vs ++ dvs) H1 Q E
/-- o.m(..) of an instance of the class at C -/
def tMeth (C : Addr) (m : Str) (sp : Sp) (dvs : List V) (E : XK) (ta : TE) (t : TA) : TE := fun σ H Q => ta σ H fun x H1 => ∃ a dx fs, x = .ref a ∧ H1 a = some (.ins C dx fs) ∧ fs.lookup m = none ∧
  t σ H1 fun vs H2 => sp (x :: (vs ++ dvs)) H2 Q E
/-- C(..): a new instance and its dict, then __init__ -/
def tMake (C : Addr) (sp : Sp) (dvs : List V) (E : XK) (t : TA) : TE := fun σ H Q => t σ H fun vs H1 => ∀ x dx, H1 x = none → H1 dx = none → dx ≠ x →
  sp (.ref x :: (vs ++ dvs)) (upd (upd H1 dx (.own x)) x (.ins C dx [])) (fun v H2 => v = .non ∧ Q (.ref x) H2) E

/-- how the parameters are bound: us the positional arguments, kw the keywords' values by name, ds the defaults that fill up -/
def Binds (K : PySem.W.Frag) (fd : FuncData) (ps : List Str) (ds : List Value) : Prop :=
  ∀ (s : Shared) (us : List Value), K.In s.heap → (us ++ ds).length = ps.length → BindsTo s fd ⟨us, []⟩ (ps.zip (us ++ ds))
/-- every parameter is given -/
theorem Binds.all {K : PySem.W.Frag} {fd : FuncData} {ps : List Str} (h : ∀ us : List Value, us.length = ps.length → bindArgs fd ⟨us, []⟩ = pure (ps.zip us)) : Binds K fd ps [] := fun s us _ hl => by
  rw [List.append_nil] at hl ⊢
  exact .of_eq (h us hl)

/-- an exception of a callee reaches what this body wants of exceptions -/
def Passes (CX : CXT) (X : Cx) (E : XK) : Prop := ∀ (pins : List (Addr × Obj)) (σ : St) (H : Hp) (s : Shared) (e : Value) (s' : Shared), Inv X pins σ H s → CX X.stack H s E e s' → X.xe e s'

section
variable {X : Cx} {CX : CXT} {k : Nat} {f C : Addr} {fd : FuncData} {ps : List Str} {sp : Sp} {dvs : List V} {ds : List Value} {E : XK} {x m : Str} {p pos apos : Pos} {e o : Expr} {es : List Expr} {ta : TE} {t : TA}

/-- the callee runs -/
theorem run_fn {pins : List (Addr × Obj)} {σ : St} {H : Hp} {s : Shared} {Q : VK} {us : List Value} {vs : List V} (F : FnOk X.prog X.w X.K X.mg X.base CX k f fd ps sp) (hr : Room k X.A) (hb : Binds X.K fd ps ds) (hd : Vals dvs ds) (hx : Passes CX X E)
    (I : Inv X pins σ H s) (r : Vals vs us) (h : sp (vs ++ dvs) H Q E) : wpAny (model X.prog X.w) X.A (call (.ref f) us) (EP X pins σ Q) X.xe s := by
  have r2 : Vals (vs ++ dvs) (us ++ ds) := r.append hd
  have hl : (us ++ ds).length = ps.length := by rw [← r2.length]; exact F.len _ _ _ _ h
  refine wpAny_call (codeAny_mono (F.run X.A X.stack s H ⟨us, []⟩ (us ++ ds) (vs ++ dvs) Q E hr I.env0 (hb s us I.kIn hl) r2 h) fun r s' hq => ?_)
  cases r with
  | error e => exact hx pins σ H s e s' I hq
  | ok fl =>
    cases fl with
    | ret u => exact I.after hq
    | next => exact False.elim hq
    | brk => exact False.elim hq
    | cont => exact False.elim hq

theorem pe_call (F : FnOk X.prog X.w X.K X.mg X.base CX k f fd ps sp) (hr : Room k X.A) (hg : Gl X x) (hm : X.mg x = some (.ref f)) (hk : PySem.W.keepIn X.K (.ref f) = true) (hb : Binds X.K fd ps ds) (hd : Vals dvs ds) (hx : Passes CX X E)
    (ha : PA X (e :: es) t) (hdb : (x == ("__debug__" : Str)) = false := by decide) (he : starEach (e :: es) X.env = (false, eval e X.env) :: starEach es X.env := by rfl) (hpl : (backTo pos (starEach es X.env)).any (·.1) = false := by rfl) :
    PE X (.Call (.Name x p) (e :: es) [] pos) (tCall sp dvs E t) := by
  intro pins s σ H Q I h
  refine wpAny_Call_Name_kw (ld_glob I hg hm ?_ hdb)
  refine PySem.W.callWith_K (h₀ := X.base) I.ok.mod.kin hk (thn (ha pos pins s σ H _ I h) fun us s1 ⟨vs, H1, I1, r, q⟩ => ⟨I1.kIn, ?_⟩) he hpl
  exact run_fn F hr hb hd hx I1 r q
/-- o.m(e, ..) -/
theorem pe_meth {pl : Sem Bool} (he : PE X o ta) (c : Cls X.K C) (hm : Meth X.K C m f) (F : FnOk X.prog X.w X.K X.mg X.base CX k f fd ps sp) (hr : Room k X.A) (hb : Binds X.K fd ps ds) (hd : Vals dvs ds) (hx : Passes CX X E) (ha : PA X (e :: es) t)
    (hst : starEach (e :: es) X.env = (false, eval e X.env) :: starEach es X.env := by rfl) (hpl : (backTo pos (starEach es X.env)).any (·.1) = false := by rfl)
    (ht : eval (.Call (.Attribute o m apos) (e :: es) [] pos) X.env = (do
      let ov ← eval o X.env
      standAt apos.atName
      let (f, first) ← holding [ov] (getMethod ov m pl)
      callWith pos f first (backTo pos (starEach (e :: es) X.env)) (backToKw pos (keywordEach [] X.env))) := by rfl) :
    PE X (.Call (.Attribute o m apos) (e :: es) [] pos) (tMeth C m sp dvs E ta t) := by
  intro pins s σ H Q I h
  refine PySem.W.methodCall_KW (pl := pl) (thn (he pins s σ H _ I h) fun u s1 ⟨x, H1, I1, rx, a, dx, fs, ex, ea, l, q⟩ => ?_) ht
  subst ex
  obtain rfl : u = Value.ref a := rx
  refine getmeth_ok I1 ea c hm l ?_
  refine PySem.W.callWith_K (first := [.ref a]) (h₀ := X.base) I.ok.mod.kin hm.kp (thn (ha pos pins s1 σ H1 _ I1 q) fun us s2 ⟨vs, H2, I2, r, q2⟩ => ⟨I2.kIn, ?_⟩) hst hpl
  exact run_fn (us := .ref a :: us) (vs := .ref a :: vs) F hr hb hd hx I2 (.cons rfl r) q2
/-- o.m() -/
theorem pe_meth0 {pl : Sem Bool} (he : PE X o ta) (c : Cls X.K C) (hm : Meth X.K C m f) (F : FnOk X.prog X.w X.K X.mg X.base CX k f fd ps sp) (hr : Room k X.A) (hb : Binds X.K fd ps ds) (hd : Vals dvs ds) (hx : Passes CX X E)
    (ht : eval (.Call (.Attribute o m apos) [] [] pos) X.env = (do
      let ov ← eval o X.env
      standAt apos.atName
      let (f, first) ← holding [ov] (getMethod ov m pl)
      callWith pos f first (backTo pos (starEach [] X.env)) (backToKw pos (keywordEach [] X.env))) := by rfl) :
    PE X (.Call (.Attribute o m apos) [] [] pos) (tMeth C m sp dvs E ta tNil) := by
  intro pins s σ H Q I h
  refine PySem.W.methodCall_KW (pl := pl) (thn (he pins s σ H _ I h) fun u s1 ⟨x, H1, I1, rx, a, dx, fs, ex, ea, l, q⟩ => ?_) ht
  subst ex
  obtain rfl : u = Value.ref a := rx
  refine getmeth_ok I1 ea c hm l ?_
  exact PySem.W.callWith_K0 (first := [.ref a]) I1.kIn hm.kp (run_fn (us := [.ref a]) (vs := [.ref a]) F hr hb hd hx I1 (.cons rfl .nil) q)

/-- what a class must have to be made -/
structure Mk (K : PySem.W.Frag) (C f : Addr) : Prop where
  makes : PySem.W.makesIn K C = true
  init : PySem.W.findIn K (.ref C) "__init__" = some (some (.ref f))
  fn : PySem.W.isFn K (.ref f) = true
  kp : PySem.W.keepIn K (.ref C) = true

theorem run_make {pins : List (Addr × Obj)} {σ : St} {H : Hp} {s : Shared} {Q : VK} {us : List Value} {vs : List V} (M : Mk X.K C f) (F : FnOk X.prog X.w X.K X.mg X.base CX k f fd ps sp) (hr : Room (k + 1) X.A) (hb : Binds X.K fd ps ds) (hd : Vals dvs ds)
    (hx : Passes CX X E) (I : Inv X pins σ H s) (r : Vals vs us)
    (h : ∀ x dx, H x = none → H dx = none → dx ≠ x → sp (.ref x :: (vs ++ dvs)) (upd (upd H dx (.own x)) x (.ins C dx [])) (fun v H2 => v = .non ∧ Q (.ref x) H2) E) :
    wpAny (model X.prog X.w) X.A (call (.ref C) us) (EP X pins σ Q) X.xe s := by
  have hq := h (s.heap.objs.size + 1) s.heap.objs.size (I.hok.fresh (Nat.le_succ _)) (I.hok.fresh (Nat.le_refl _)) (Nat.ne_of_lt (Nat.lt_succ_self _))
  have I2 := Inv.made (C := C) I
  have r2 : Vals (V.ref (s.heap.objs.size + 1) :: (vs ++ dvs)) (Value.ref (s.heap.objs.size + 1) :: (us ++ ds)) := .cons rfl (r.append hd)
  have hl : (Value.ref (s.heap.objs.size + 1) :: us ++ ds).length = ps.length := by
    have e := r2.length
    rw [F.len _ _ _ _ hq] at e
    exact e.symm
  refine wpAny_call (make_map (f := f) I.kIn M.makes M.init (beq_iff_eq.mp M.fn) (codeAny_mono (F.run _ X.stack _ _ ⟨Value.ref (s.heap.objs.size + 1) :: us, []⟩ (Value.ref (s.heap.objs.size + 1) :: (us ++ ds)) _ _ E (hr.make C us [])
    (I2.env0.make C us []) (hb _ (Value.ref (s.heap.objs.size + 1) :: us) I2.kIn hl) r2 hq) fun r s' hq' => ?_))
  cases r with
  | error e => exact hx pins σ _ _ e s' I2 hq'
  | ok fl =>
    cases fl with
    | ret u =>
      obtain ⟨v, H', I3, rv, ev, q3⟩ := I2.after hq'
      subst ev
      exact ⟨rv, ⟨V.ref (s.heap.objs.size + 1), H', I3, rfl, q3⟩⟩
    | next => exact False.elim hq'
    | brk => exact False.elim hq'
    | cont => exact False.elim hq'
theorem pe_make (M : Mk X.K C f) (F : FnOk X.prog X.w X.K X.mg X.base CX k f fd ps sp) (hr : Room (k + 1) X.A) (hg : Gl X x) (hm : X.mg x = some (.ref C)) (hb : Binds X.K fd ps ds) (hd : Vals dvs ds) (hx : Passes CX X E)
    (ha : PA X (e :: es) t) (hdb : (x == ("__debug__" : Str)) = false := by decide) (he : starEach (e :: es) X.env = (false, eval e X.env) :: starEach es X.env := by rfl) (hpl : (backTo pos (starEach es X.env)).any (·.1) = false := by rfl) :
    PE X (.Call (.Name x p) (e :: es) [] pos) (tMake C sp dvs E t) := by
  intro pins s σ H Q I h
  refine wpAny_Call_Name_kw (ld_glob I hg hm ?_ hdb)
  refine PySem.W.callWith_K (h₀ := X.base) I.ok.mod.kin M.kp (thn (ha pos pins s σ H _ I h) fun us s1 ⟨vs, H1, I1, r, q⟩ => ⟨I1.kIn, ?_⟩) he hpl
  exact run_make M F hr hb hd hx I1 r q
theorem pe_make0 (M : Mk X.K C f) (F : FnOk X.prog X.w X.K X.mg X.base CX k f fd ps sp) (hr : Room (k + 1) X.A) (hg : Gl X x) (hm : X.mg x = some (.ref C)) (hb : Binds X.K fd ps ds) (hd : Vals dvs ds) (hx : Passes CX X E)
    (hdb : (x == ("__debug__" : Str)) = false := by decide) : PE X (.Call (.Name x p) [] [] pos) (tMake C sp dvs E tNil) := by
  intro pins s σ H Q I h
  refine wpAny_Call_Name_kw (ld_glob I hg hm ?_ hdb)
  exact PySem.W.callWith_K0 I.kIn M.kp (run_make (us := []) M F hr hb hd hx I .nil h)
end

/-! ### keywords -/
/-- the values of the keywords, from the left -/
def PK (X : Cx) (kws : List Keyword) (t : TA) : Prop :=
  ∀ (pos : Pos) (pins : List (Addr × Obj)) (s : Shared) (σ : St) (H : Hp) (Q : List V → Hp → Prop), Inv X pins σ H s → t σ H Q → wpAny (model X.prog X.w) X.A (evalAll ((backToKw pos (keywordEach kws X.env)).map (·.2))) (AP X pins σ Q) X.xe s
section
variable {X : Cx} {CX : CXT} {k : Nat} {f C : Addr} {fd : FuncData} {ps ks : List Str} {sp : Sp} {E : XK} {x m : Str} {p pos apos kpos : Pos} {e o : Expr} {es : List Expr} {kws : List Keyword} {te ta : TE} {t tk : TA} {nm : Option Str}
/-- how a call with keywords binds: g puts the positional values us and the keywords' values ws (names ks) in the parameters' order, defaults among them -/
structure KBinds (K : PySem.W.Frag) (fd : FuncData) (ps ks : List Str) (g : List Value → List Value → List Value) (gV : List V → List V → List V) : Prop where
  to : ∀ (s : Shared) (us ws : List Value), K.In s.heap → (g us ws).length = ps.length → BindsTo s fd ⟨us, ks.zip ws⟩ (ps.zip (g us ws))
  rel : ∀ {vs : List V} {us : List Value} {zs : List V} {ws : List Value}, Vals vs us → Vals zs ws → Vals (gV vs zs) (g us ws)
def tCallK (sp : Sp) (gV : List V → List V → List V) (E : XK) (t tk : TA) : TE := fun σ H Q => t σ H fun vs H1 => tk σ H1 fun zs H2 => sp (gV vs zs) H2 Q E
variable {g : List Value → List Value → List Value} {gV : List V → List V → List V}
end

/-! ### a def's body keeps its promise -/
/-- names: the parameters first -/
structure FnScope (N P : List Str) (sc : Scope) : Prop where
  kind : sc.kind = .function
  co : sc.isCoroutine = false
  gen : sc.isGenerator = false
  nd : N.Nodup
  pre : N.take P.length = P
  par : ∀ x ∈ P, sc.names.lookup x = some .local ∨ sc.names.lookup x = some .cell
  nofree : ∀ y ∈ sc.names, y.2 ≠ .free

theorem bindL_out {kindOf : Str → Option NameKind} {x : Str} : ∀ {binds : List (Str × Value)} {m : Str → Option Value}, (∀ v, (x, v) ∉ binds) → bindL kindOf binds m x = m x
  | [], _, _ => rfl
  | (n, v) :: r, m, h => by
    unfold bindL
    rw [bindL_out fun w hw => h w (List.mem_cons_of_mem _ hw)]
    split
    · have : x ≠ n := by rintro rfl; exact h v List.mem_cons_self
      simp [this]
    · rfl
theorem bindC_out {kindOf : Str → Option NameKind} {x : Str} : ∀ {binds : List (Str × Value)} {m : Str → Option Value}, (∀ v, (x, v) ∉ binds) → bindC kindOf binds m x = m x
  | [], _, _ => rfl
  | (n, v) :: r, m, h => by
    unfold bindC
    rw [bindC_out fun w hw => h w (List.mem_cons_of_mem _ hw)]
    split
    · rfl
    · have : x ≠ n := by rintro rfl; exact h v List.mem_cons_self
      simp [this]
theorem bindL_get {kindOf : Str → Option NameKind} {x : Str} {v : Value} : ∀ {P : List Str} {vs : List Value} {i : Nat} {m : Str → Option Value}, P.Nodup → P[i]? = some x → vs[i]? = some v → kindOf x = some .local →
    bindL kindOf (P.zip vs) m x = some v
  | [], _, _, _, _, h, _, _ => by simp at h
  | _ :: _, [], _, _, _, _, h, _ => by simp at h
  | p :: P, w :: vs, 0, m, nd, h1, h2, hk => by
    simp at h1 h2; subst h1; subst h2
    show bindL kindOf ((p, w) :: P.zip vs) m p = _
    unfold bindL
    rw [bindL_out fun v hv => (List.nodup_cons.mp nd).1 (List.of_mem_zip hv).1, if_pos hk]
    simp
  | p :: P, w :: vs, i + 1, m, nd, h1, h2, hk => by
    show bindL kindOf ((p, w) :: P.zip vs) m x = _
    unfold bindL
    exact bindL_get (i := i) (List.nodup_cons.mp nd).2 (by simpa using h1) (by simpa using h2) hk
theorem bindC_get {kindOf : Str → Option NameKind} {x : Str} {v : Value} : ∀ {P : List Str} {vs : List Value} {i : Nat} {m : Str → Option Value}, P.Nodup → P[i]? = some x → vs[i]? = some v → kindOf x ≠ some .local →
    bindC kindOf (P.zip vs) m x = some v
  | [], _, _, _, _, h, _, _ => by simp at h
  | _ :: _, [], _, _, _, _, h, _ => by simp at h
  | p :: P, w :: vs, 0, m, nd, h1, h2, hk => by
    simp at h1 h2; subst h1; subst h2
    show bindC kindOf ((p, w) :: P.zip vs) m p = _
    unfold bindC
    rw [bindC_out fun v hv => (List.nodup_cons.mp nd).1 (List.of_mem_zip hv).1, if_neg hk]
    simp
  | p :: P, w :: vs, i + 1, m, nd, h1, h2, hk => by
    show bindC kindOf ((p, w) :: P.zip vs) m x = _
    unfold bindC
    exact bindC_get (i := i) (List.nodup_cons.mp nd).2 (by simpa using h1) (by simpa using h2) hk

/-- the names' values at the entry -/
def start (N : List Str) (vs : List V) : St := vs.map some ++ List.replicate (N.length - vs.length) none

/-- the context of a def's body, at its entry; an exception leaves the frame, then lies as CX says -/
def cxOf (CX : CXT) (P : Program) (w : World) (K : PySem.W.Frag) (mg : Str → Option Value) (base : Heap) (N : List Str) (qual : Str) (scope : Scope) (f : Addr) (cd : Value) (A : Around) (outer : List Env) (s : Shared) (H : Hp) (E : XK) : Cx where
  prog := P
  w := w
  K := K
  mg := mg
  base := base
  A := A.deeper (envOfC qual scope s.heap.objs.size f cd)
  N := N
  s₀ := s
  H₀ := H
  env := envOfC qual scope s.heap.objs.size f cd
  outer := outer
  stack := envOfC qual scope s.heap.objs.size f cd :: outer
  ex := []
  calm := true
  fn := fun _ => true
  pn := []
  xe := fun e s' => wpAny (model P w) (A.deeper (envOfC qual scope s.heap.objs.size f cd)) (leaving (envOfC qual scope s.heap.objs.size f cd) e) (fun _ s'' => CX outer H s E e s'') (fun e' s'' => CX outer H s E e' s'') s'

theorem cell_has {sc : Scope} {n : Nat} {x : Str} (h : sc.names.lookup x = some .cell) : ∃ c, (cellsFrom n sc.names []).lookup x = some c := by
  have q := PySem.W.cellsFrom_some sc.names n [] (.inl h)
  exact Option.isSome_iff_exists.mp q

theorem inv_start {CX : CXT} {P : Program} {w : World} {K : PySem.W.Frag} {mg : Str → Option Value} {base : Heap} {N ps : List Str} {qual : Str} {scope : Scope} {f : Addr} {cd : Value} {A : Around} {outer : List Env} {s s1 : Shared} {H : Hp} {E : XK} {us : List Value} {vs : List V}
    (S : FnScope N ps scope) (hd : A.handled = none) (e0 : Env0 P w K mg base A outer s H) (hl : vs.length = ps.length) (r : Vals vs us)
    (x : InCallC s s.heap.objs.size (bindL (envOfC qual scope s.heap.objs.size f cd).kindOf (ps.zip us) fun _ => none) (cellsFrom (s.heap.objs.size + 1) scope.names []) (bindC (envOfC qual scope s.heap.objs.size f cd).kindOf (ps.zip us) fun _ => none) s1) :
    Inv (cxOf CX P w K mg base N qual scope f cd A outer s H E) [] (start N vs) H s1 := by
  have hpl : ps.length ≤ N.length := by have := congrArg List.length S.pre; rw [List.length_take] at this; omega
  obtain ⟨h1, tk, rfl, hk⟩ := x.done
  have noA : ∀ b : Addr, b ∉ (cxOf CX P w K mg base N qual scope f cd A outer s H E).ex := fun b z => absurd (show b ∈ ([] : List Addr) from z) (by simp)
  refine ⟨⟨e0.mod, S.kind, rfl, rfl, Nat.le_refl _, fun y z c h1 h2 => ?_, fun y hy => ?_, fun y c _ h => ?_, fun _ => hd, Around.frames_deeper e0.frames, .inr ⟨rfl, rfl⟩, fun b z => absurd z (noA b), e0.bs, e0.bsz, fun b _ _ => noA b, fun b z => absurd z (noA b), e0.funs, e0.frf⟩,
    rfl, e0.bare, Un.kept hk, ⟨_, x.toInCall.ns, fun i y v h1 h2 h3 => ?_⟩, fun y c h => ⟨_, x.cell y c h⟩, e0.hok.fresh (Nat.le_refl _), fun y c h => ?_, fun p hp => absurd (show p ∈ ([] : List (Addr × Obj)) from hp) (by simp), e0.hok.kept hk, ?_⟩
  · exact name_of_addr x.apart (PySem.mem_of_lookup h1) (PySem.mem_of_lookup h2)
  · have hy : scope.names.lookup y = some .cell ∨ scope.names.lookup y = some .free := hy
    rcases hy with hy | hy
    · exact cell_has hy
    · exact absurd rfl (S.nofree _ (PySem.mem_of_lookup hy))
  · exact Nat.le_of_lt (x.above y c (PySem.mem_of_lookup h))
  · have hi : i < vs.length := by
      unfold start at h2
      by_cases hi : i < vs.length
      · exact hi
      · rw [List.getElem?_append_right (by simpa using hi)] at h2
        rw [List.getElem?_replicate] at h2
        split at h2 <;> cases h2
    have ha : vs[i]? = some v := by
      unfold start at h2
      rw [List.getElem?_append_left (by simpa using hi), List.getElem?_map] at h2
      cases e : vs[i]? with
      | none => rw [e] at h2; cases h2
      | some a => rw [e] at h2; cases h2; rfl
    obtain ⟨u, hu, rv⟩ := r.get ha
    have hp : ps[i]? = some y := by
      rw [← S.pre, List.getElem?_take_of_lt (by omega)]; exact h1
    have ndP : ps.Nodup := by rw [← S.pre]; exact S.nd.sublist (List.take_sublist _ _)
    refine ⟨u, rv, ?_⟩
    rcases S.par y (List.mem_of_getElem? hp) with k | k
    · exact .inl ⟨k, bindL_get ndP hp hu k⟩
    · obtain ⟨c, e⟩ := cell_has (n := s.heap.objs.size + 1) k
      refine .inr ⟨.inl k, c, e, ?_⟩
      have q := x.cell y c e
      rw [bindC_get ndP hp hu (by show scope.names.lookup y ≠ _; rw [k]; decide)] at q
      exact q
  · exact e0.hok.fresh (Nat.le_of_lt (x.above y c (PySem.mem_of_lookup h)))
  · unfold start
    show _ = N.length
    rw [List.length_append, List.length_map, List.length_replicate]
    omega

/-- THE RULE: a def (or a method) of the text, by its body. The body's reading t is chosen for each entry; it is run at the parameters' values -/
theorem fn_of {CX : CXT} {P : Program} {w : World} {K : PySem.W.Frag} {mg : Str → Option Value} {base : Heap} {k : Nat} {f : Addr} {name qual : Str} {params : Arguments} {body : List Stmt} {scope : Scope} {dV kV doc pm cdv ct oc : Value} {an od : Option Addr}
    {osl : Array (Option Value)} {N ps : List Str} {sp : Sp} (lk : K.lookup f = some ⟨oc, od, .func (PySem.W.fnOf name qual params body scope dV kV doc pm an cdv ct), osl⟩) (hcd : PySem.W.codeIn K cdv qual = true) (S : FnScope N ps scope)
    (len : ∀ vs H Q E, sp vs H Q E → vs.length = ps.length)
    (hbody : ∀ (A : Around) (outer : List Env) (s : Shared) (H : Hp) (vs : List V) (Q : VK) (E : XK), Room k (A.deeper (envOfC qual scope s.heap.objs.size f cdv)) → sp vs H Q E →
      ∃ t, PSs (cxOf CX P w K mg base N qual scope f cdv A outer s H E) body t ∧ t { nx := fun _ H' => Q .non H', rt := Q } (start N vs) H) :
    FnOk P w K mg base CX (k + 1) f (PySem.W.fnOf name qual params body scope dV kV doc pm an cdv ct) ps sp := by
  refine ⟨len, fun A outer s H args us vs Q E hr e0 hb r hsp => ?_⟩
  have hl := len _ _ _ _ hsp
  have KX : K.In s.heap := e0.mod.kin.keeps fun b o e => (e0.bs b o e).1
  have lim : s.heap.NoLimit := e0.mod.nolimit.keeps fun b o e => (e0.bs b o e).1
  have hkind : ∀ y ∈ ps.zip us, scope.names.lookup y.1 = some .local ∨ (scope.names.lookup y.1 = some .cell ∧ ((cellsFrom (s.heap.objs.size + 1) scope.names []).lookup y.1).isSome = true) := fun ⟨n, v⟩ hy => by
    rcases S.par n (List.of_mem_zip hy).1 with q | q
    · exact .inl q
    · exact .inr ⟨q, PySem.W.cellsFrom_some _ _ _ (.inl q)⟩
  refine codeAny_call_function hr.depth (KX _ _ lk) rfl S.co S.gen rfl (PySem.W.codeRec_of KX hcd) (hb _ _ _ _ ?_)
  refine wpAny_newFunctionEnv_cells S.kind hkind fun env he s1 x => ?_
  subst he
  refine ⟨lim.keeps x.toInCall.keep, codeAny_func ?_⟩
  obtain ⟨t, ht, hq⟩ := hbody A outer s H vs Q E (hr.deeper _) hsp
  have I : Inv (cxOf CX P w K mg base N qual scope f cdv A outer s H E) [] (start N vs) H s1 := inv_start S hr.hd e0 hl r x
  refine wpAny_mono (ht [] s1 (start N vs) H _ I hq) (fun fl s' hs => ?_) fun e s' hs => hs
  have fin : ∀ {σ' : St} {H' : Hp} {v : V} {u : Value}, Inv (cxOf CX P w K mg base N qual scope f cdv A outer s H E) [] σ' H' s' → RelV v u → Q v H' → CE outer P w H s Q u s' :=
    fun {σ' H' v u} J rv q => ⟨v, H', J.os, J.bare, J.base, J.hok, rv, q⟩
  cases fl with
  | ret u =>
    obtain ⟨v, σ', H', J, rv, q⟩ := hs
    exact fin J rv q
  | next =>
    obtain ⟨σ', H', J, q⟩ := hs
    exact fin (v := V.non) (u := Value.none) J rfl q
  | brk =>
    obtain ⟨_, _, _, q⟩ := hs
    exact False.elim q
  | cont =>
    obtain ⟨_, _, _, q⟩ := hs
    exact False.elim q
end L2

namespace L2
open PySem PySem.Spec PyProof.Rows
section
variable {X : Cx} {x : Str} {p pos : Pos} {e : Expr} {es : List Expr} {t : TA} {id T : String} {r : List V → Hp → VK → Prop}

def tCB (r : List V → Hp → VK → Prop) (t : TA) : TE := fun σ H Q => t σ H fun vs H1 => r vs H1 Q
/-- f(e, ..), f a built-in function -/
theorem pe_callB (hc : CallR X (.builtin id) r) (hg : Gl X x) (hm : X.mg x = none) (hv : bootBuiltins x = some (.builtin id)) (ha : PA X (e :: es) t) (hn : x ≠ "__name__" := by decide) (hdb : (x == ("__debug__" : Str)) = false := by decide)
    (he : starEach (e :: es) X.env = (false, eval e X.env) :: starEach es X.env := by rfl) (hpl : (backTo pos (starEach es X.env)).any (·.1) = false := by rfl) : PE X (.Call (.Name x p) (e :: es) [] pos) (tCB r t) := by
  intro pins s σ H Q I h
  refine wpAny_Call_Name_kw (ld_blt I hg hm hv ?_ hn hdb)
  exact PyProof.Rows.callWith_builtin1 (thn (ha pos pins s σ H _ I h) fun us s1 ⟨vs, H1, I1, r1, q1⟩ => hc pins s1 σ H1 vs us Q I1 r1 q1) he hpl
/-- T(e, ..), T a built-in type -/
theorem pe_callTy (hc : CallR X (.type T) r) (hg : Gl X x) (hm : X.mg x = none) (hv : bootBuiltins x = some (.type T)) (ha : PA X (e :: es) t) (hn : x ≠ "__name__" := by decide) (hdb : (x == ("__debug__" : Str)) = false := by decide)
    (he : starEach (e :: es) X.env = (false, eval e X.env) :: starEach es X.env := by rfl) (hpl : (backTo pos (starEach es X.env)).any (·.1) = false := by rfl) : PE X (.Call (.Name x p) (e :: es) [] pos) (tCB r t) := by
  intro pins s σ H Q I h
  refine wpAny_Call_Name_kw (ld_blt I hg hm hv ?_ hn hdb)
  exact PyProof.Rows.callWith_type1 (thn (ha pos pins s σ H _ I h) fun us s1 ⟨vs, H1, I1, r1, q1⟩ => hc pins s1 σ H1 vs us Q I1 r1 q1) he hpl
end
end L2

namespace L2
open PySem PySem.Spec PyProof.Rows

/-! ### lists of pairs as tables -/
section
variable {κ : Type} [DecidableEq κ]
def valV (kvs : List (κ × V)) (k : κ) : Option V := (kvs.find? fun kv => decide (kv.1 = k)).map (·.2)
/-- in its place, or at the end -/
def putK (kvs : List (κ × V)) (k : κ) (v : V) : List (κ × V) :=
  if (kvs.any fun kv => decide (kv.1 = k)) = true then kvs.map (fun kv => if kv.1 = k then (kv.1, v) else kv) else kvs ++ [(k, v)]
def dropK (kvs : List (κ × V)) (k : κ) : List (κ × V) := kvs.filter fun kv => decide (kv.1 ≠ k)

theorem valV_pos {p : κ × V} {r : List (κ × V)} {k : κ} (e : p.1 = k) : valV (p :: r) k = some p.2 := by simp [valV, List.find?_cons, e]
theorem valV_neg {p : κ × V} {r : List (κ × V)} {k : κ} (e : ¬ p.1 = k) : valV (p :: r) k = valV r k := by simp [valV, List.find?_cons, e]
theorem valV_any (k : κ) : ∀ kvs : List (κ × V), (kvs.any fun kv => decide (kv.1 = k)) = (valV kvs k).isSome
  | [] => rfl
  | p :: r => by
    rw [List.any_cons]
    by_cases e : p.1 = k
    · simp only [valV_pos e, decide_eq_true e, Bool.true_or, Option.isSome_some]
    · rw [valV_neg e, decide_eq_false e, Bool.false_or]; exact valV_any k r
theorem RelO.isSome_eq {o : Option V} {u : Option Value} (r : RelO o u) : o.isSome = u.isSome := by
  cases o with
  | none => cases u with
    | none => rfl
    | some _ => exact (show False from r).elim
  | some _ => cases u with
    | none => exact (show False from r).elim
    | some _ => rfl
theorem RelO.getD {o : Option V} {u : Option Value} {d : V} {d' : Value} (r : RelO o u) (rd : RelV d d') : RelV (o.getD d) (u.getD d') := by
  cases o with
  | none => cases u with
    | none => exact rd
    | some _ => exact (show False from r).elim
  | some _ => cases u with
    | none => exact (show False from r).elim
    | some _ => exact r

/-- raw tables of the same keys -/
theorem KV.val {kvs : List (κ × V)} {vs : List (κ × Value)} (r : KV kvs vs) (k : κ) : RelO (valV kvs k) (valueAt vs k) := by
  unfold KV at r
  induction r with
  | nil => exact True.intro
  | @cons p q ps qs h t ih =>
    obtain ⟨h1, h2⟩ := h
    by_cases e : p.1 = k
    · have e' : q.1 = k := h1.symm.trans e
      have b : valueAt (q :: qs) k = some q.2 := by simp [valueAt, List.find?_cons, e']
      rw [valV_pos e, b]; exact h2
    · have e' : ¬ q.1 = k := fun z => e (h1.trans z)
      have b : valueAt (q :: qs) k = valueAt qs k := by simp [valueAt, List.find?_cons, e']
      rw [valV_neg e, b]; exact ih
theorem KV.any {kvs : List (κ × V)} {vs : List (κ × Value)} (r : KV kvs vs) (k : κ) : (kvs.any fun kv => decide (kv.1 = k)) = vs.any fun kv => decide (kv.1 = k) := by
  unfold KV at r
  induction r with
  | nil => rfl
  | cons h t ih => rw [List.any_cons, List.any_cons, ih, h.1]
theorem KV.repl {kvs : List (κ × V)} {vs : List (κ × Value)} (r : KV kvs vs) (k : κ) {y : V} {u : Value} (ry : RelV y u) :
    KV (kvs.map fun kv => if kv.1 = k then (kv.1, y) else kv) (vs.map fun kv => if kv.1 = k then (kv.1, u) else kv) := by
  unfold KV at r ⊢
  induction r with
  | nil => exact .nil
  | @cons p q ps qs h t ih =>
    rw [List.map_cons, List.map_cons]
    refine .cons ?_ ih
    obtain ⟨h1, h2⟩ := h
    by_cases e : p.1 = k
    · rw [if_pos e, if_pos (h1.symm.trans e)]; exact ⟨h1, ry⟩
    · rw [if_neg e, if_neg (fun z => e (h1.trans z))]; exact ⟨h1, h2⟩
theorem KV.put {kvs : List (κ × V)} {vs : List (κ × Value)} (r : KV kvs vs) (k : κ) {y : V} {u : Value} (ry : RelV y u) : KV (putK kvs k y) (stored vs k u) := by
  unfold putK stored
  rw [r.any k]
  by_cases e : (vs.any fun kv => decide (kv.1 = k)) = true
  · rw [if_pos e, if_pos e]; exact r.repl k ry
  · rw [if_neg e, if_neg e]; exact Paired.snoc r ⟨rfl, ry⟩
theorem KV.drop {kvs : List (κ × V)} {vs : List (κ × Value)} (r : KV kvs vs) (k : κ) : KV (dropK kvs k) (without vs k) := by
  unfold KV at r ⊢
  unfold dropK without
  induction r with
  | nil => exact .nil
  | @cons p q ps qs h t ih =>
    obtain ⟨h1, h2⟩ := h
    rw [List.filter_cons, List.filter_cons]
    by_cases e : p.1 = k
    · have a : ¬ decide (p.1 ≠ k) = true := by simp [e]
      have b : ¬ decide (q.1 ≠ k) = true := by simp [h1.symm.trans e]
      rw [if_neg a, if_neg b]; exact ih
    · have e' : ¬ q.1 = k := fun z => e (h1.trans z)
      have a : decide (p.1 ≠ k) = true := by simp [e]
      have b : decide (q.1 ≠ k) = true := by simp [e']
      rw [if_pos a, if_pos b]; exact .cons ⟨h1, h2⟩ ih
theorem KV.keys {kvs : List (κ × V)} {vs : List (κ × Value)} (r : KV kvs vs) : kvs.map (·.1) = vs.map (·.1) := by
  unfold KV at r
  induction r with
  | nil => rfl
  | cons h t ih => rw [List.map_cons, List.map_cons, ih, h.1]
theorem KV.length {kvs : List (κ × V)} {vs : List (κ × Value)} (r : KV kvs vs) : kvs.length = vs.length := Paired.length r
end


/-! ### a tracked dict, its keys ints and texts or tuples of these -/
theorem kV_is {P : Program} {w : World} {k : Key} {u : Value} (r : RelV (kV k) u) : (mixKind P w).is k u = true := by
  cases k with
  | inl i => obtain ⟨t, e⟩ := (show ∃ t, u = Value.int i t from r); subst e; exact mixKind_int P w i t
  | inr x => obtain ⟨t, e⟩ := (show ∃ t, u = Value.str x t from r); subst e; exact mixKind_str P w x t
/-- raw entries of a dict with tuple keys -/
abbrev KT (H : Hp) : List (List Key × V) → List (List Key × Addr × Value) → Prop := Paired fun p q => p.1 = q.1 ∧ H q.2.1 = some (.tup (p.1.map kV)) ∧ RelV p.2 q.2.2
theorem KT.val {H : Hp} {kvs : List (List Key × V)} {xs : List (List Key × Addr × Value)} (r : KT H kvs xs) (k : List Key) : RelO (valV kvs k) ((atKey xs k).map (·.2)) := by
  induction r with
  | nil => exact True.intro
  | @cons p q ps qs h t ih =>
    obtain ⟨h1, _, h2⟩ := h
    by_cases e : p.1 = k
    · have e' : q.1 = k := h1.symm.trans e
      have b : atKey (q :: qs) k = some q.2 := by simp [atKey, List.find?_cons, e']
      rw [valV_pos e, b]; exact h2
    · have e' : ¬ q.1 = k := fun z => e (h1.trans z)
      have b : atKey (q :: qs) k = atKey qs k := by simp [atKey, List.find?_cons, e']
      rw [valV_neg e, b]; exact ih
theorem KT.repl {H : Hp} {kvs : List (List Key × V)} {xs : List (List Key × Addr × Value)} (r : KT H kvs xs) (k : List Key) {y : V} {u : Value} (ry : RelV y u) :
    KT H (kvs.map fun kv => if kv.1 = k then (kv.1, y) else kv) (xs.map (putAt k u)) := by
  induction r with
  | nil => exact .nil
  | @cons p q ps qs h t ih =>
    rw [List.map_cons, List.map_cons]
    refine .cons ?_ ih
    obtain ⟨h1, h2, h3⟩ := h
    unfold putAt
    by_cases e : p.1 = k
    · rw [if_pos e, if_pos (h1.symm.trans e)]; exact ⟨h1, h2, ry⟩
    · rw [if_neg e, if_neg (fun z => e (h1.trans z))]; exact ⟨h1, h2, h3⟩
theorem KT.put {H : Hp} {kvs : List (List Key × V)} {xs : List (List Key × Addr × Value)} (r : KT H kvs xs) (k : List Key) {b : Addr} {y : V} {u : Value} (hb : H b = some (.tup (k.map kV))) (ry : RelV y u) :
    KT H (putK kvs k y) (storedH xs k b u) := by
  have e : (kvs.any fun kv => decide (kv.1 = k)) = (atKey xs k).isSome := by
    rw [valV_any, (r.val k).isSome_eq, Option.isSome_map]
  unfold putK storedH
  rw [e]
  by_cases q : (atKey xs k).isSome = true
  · rw [if_pos q, if_pos q]; exact r.repl k ry
  · rw [if_neg q, if_neg q]; exact Paired.snoc r ⟨rfl, hb, ry⟩
theorem KT.keeps {H H' : Hp} {kvs : List (List Key × V)} {xs : List (List Key × Addr × Value)} (r : KT H kvs xs) (ht : ∀ b ys, H b = some (.tup ys) → H' b = some (.tup ys)) : KT H' kvs xs :=
  Paired.mapP r fun _ _ z => ⟨z.1, ht _ _ z.2.1, z.2.2⟩

section
variable {P : Program} {w : World} {H : Hp} {h : Heap} {a : Addr}
theorem rd_of {u : HO} (ok : HOk P w H h) (e : Rd H a u) : ObjOk P w H h a u := e.ok ok
theorem dk_rd {kvs : List (Key × V)} (ok : HOk P w H h) (e : Rd H a (.dK kvs)) : kvs.length ≤ sizeLine ∧ (a == sysModules) = false ∧ ∃ vs, KV kvs vs ∧ h.DictOf (mixKind P w) a vs :=
  show ObjOk P w H h a (.dK kvs) from rd_of ok e
end

/-- what the dict at a holds at the key y -/
def DGet (H : Hp) (a : Addr) (y : V) (r : Option V) : Prop :=
  (∃ kvs k, Rd H a (.dK kvs) ∧ y = kV k ∧ r = valV kvs k) ∨ ∃ kvs k b, Rd H a (.dT kvs) ∧ y = .ref b ∧ H b = some (.tup (k.map kV)) ∧ r = valV kvs k
/-- the heap behind a[y] = v -/
def DPut (H : Hp) (a : Addr) (y v : V) (H' : Hp) : Prop :=
  (∃ kvs k, H a = some (.dK kvs) ∧ y = kV k ∧ kvs.length < sizeLine ∧ H' = upd H a (.dK (putK kvs k v))) ∨
  ∃ kvs k b, H a = some (.dT kvs) ∧ y = .ref b ∧ H b = some (.tup (k.map kV)) ∧ kvs.length < sizeLine ∧ H' = upd H a (.dT (putK kvs k v))
theorem DGet.k {H : Hp} {a : Addr} {kvs : List (Key × V)} {k : Key} (e : H a = some (.dK kvs)) : DGet H a (kV k) (valV kvs k) := .inl ⟨kvs, k, .inl e, rfl, rfl⟩
theorem DGet.t {H : Hp} {a b : Addr} {kvs : List (List Key × V)} {k : List Key} (e : H a = some (.dT kvs)) (eb : H b = some (.tup (k.map kV))) : DGet H a (.ref b) (valV kvs k) := .inr ⟨kvs, k, b, .inl e, rfl, eb, rfl⟩
theorem DPut.k {H : Hp} {a : Addr} {kvs : List (Key × V)} {k : Key} {v : V} (e : H a = some (.dK kvs)) (hl : kvs.length < sizeLine) : DPut H a (kV k) v (upd H a (.dK (putK kvs k v))) := .inl ⟨kvs, k, e, rfl, hl, rfl⟩
theorem DPut.t {H : Hp} {a b : Addr} {kvs : List (List Key × V)} {k : List Key} {v : V} (e : H a = some (.dT kvs)) (eb : H b = some (.tup (k.map kV))) (hl : kvs.length < sizeLine) :
    DPut H a (.ref b) v (upd H a (.dT (putK kvs k v))) := .inr ⟨kvs, k, b, e, rfl, eb, hl, rfl⟩


section
variable {X : Cx} {pins : List (Addr × Obj)} {σ : St} {H : Hp} {s : Shared} {a : Addr} {y v : V} {u r : Value} {o : Option V} {A : Around} {E : Value → Shared → Prop}

theorem Inv.big (I : Inv X pins σ H s) : sysModules < s.heap.objs.size := by
  have h : mainGlobals < s.heap.objs.size := (I.mod.glob.keeps I.bk).lt
  exact Nat.lt_trans (by decide) h

theorem dk_new {P : Program} {w : World} {H' : Hp} {h' : Heap} {kvs : List (Key × V)} {vs : List (Key × Value)} (z : kvs.length ≤ sizeLine) (hd : (a == sysModules) = false) (rel : KV kvs vs) (dd : h'.DictOf (mixKind P w) a vs) :
    ObjOk P w H' h' a (.dK kvs) := ⟨z, hd, vs, rel, dd⟩
end

section
variable {X : Cx} {pins : List (Addr × Obj)} {σ : St} {H : Hp} {s : Shared} {a : Addr} {kvs : List (Key × V)} {k : Key} {u : Value} {A : Around} {E : Value → Shared → Prop}
end


/-! ### readings and rules -/
/-- the element of a subscription, not a slice -/
def NoSl (i : Expr) : Prop := ∀ ov iv, subscripted i false ov iv = operate [ov, iv] (getItem ov iv)
/-- d[y] -/
def tDGet (td ty : TE) : TE := fun σ H Q => td σ H fun x H1 => ty σ H1 fun y H2 => ∃ a v, x = .ref a ∧ DGet H2 a y (some v) ∧ Q v H2
/-- y in d, y not in d -/
def tDIn (ty td : TE) : TE := fun σ H Q => ty σ H fun y H1 => td σ H1 fun x H2 => ∃ a o, x = .ref a ∧ DGet H2 a y o ∧ Q (.bl o.isSome) H2
def tDNotIn (ty td : TE) : TE := fun σ H Q => ty σ H fun y H1 => td σ H1 fun x H2 => ∃ a o, x = .ref a ∧ DGet H2 a y o ∧ Q (.bl (!o.isSome)) H2
/-- d[y] = v -/
def sDPut (td ty tv : TE) : TS := fun D σ H => tv σ H fun v H1 => td σ H1 fun x H2 => ty σ H2 fun y H3 => ∃ a H4, x = .ref a ∧ DPut H3 a y v H4 ∧ D.nx σ H4
/-- d[y] op= v -/
def sDAug (td ty tv : TE) (rd : V → V → Hp → VK → Prop) : TS := fun D σ H => td σ H fun x H1 => ty σ H1 fun y H2 => ∃ a v, x = .ref a ∧ DGet H2 a y (some v) ∧
  tv σ H2 fun y2 H3 => rd v y2 H3 fun z H4 => ∃ H5, DPut H4 a y z H5 ∧ D.nx σ H5
/-- del d[y] -/
def sDDel (td ty : TE) : TS := fun D σ H => td σ H fun x H1 => ty σ H1 fun y H2 => ∃ a kvs k, x = .ref a ∧ H2 a = some (.dK kvs) ∧ y = kV k ∧ (valV kvs k).isSome = true ∧ D.nx σ (upd H2 a (.dK (dropK kvs k)))

section
variable {X : Cx} {o i e value : Expr} {pos pos' tpos : Pos} {td ty tv : TE}
end


/-! ### displays -/
/-- {}, to be a dict of the kind that is wanted -/
def tDNewK : TE := fun _ H Q => ∀ p, H p = none → Q (.ref p) (upd H p (.dK []))
def tDNewT : TE := fun _ H Q => ∀ p, H p = none → Q (.ref p) (upd H p (.dT []))
section
variable {X : Cx} {pos : Pos}
end

/-- the pairs of a display, from the left -/
def tPairs : List (TE × TE) → St → Hp → (List (V × V) → Hp → Prop) → Prop
  | [], _, H, Q => Q [] H
  | (tk, tv) :: r, σ, H, Q => tk σ H fun x H1 => tv σ H1 fun y H2 => tPairs r σ H2 fun ps H3 => Q ((x, y) :: ps) H3
abbrev VV : List (V × V) → List (Value × Value) → Prop := Paired fun p q => RelV p.1 q.1 ∧ RelV p.2 q.2
def PPs (X : Cx) (pos : Pos) (keys : List (Option Expr)) (values : List Expr) (trs : List (TE × TE)) : Prop :=
  ∀ (pins : List (Addr × Obj)) (s : Shared) (σ : St) (H : Hp) (Q : List (V × V) → Hp → Prop), Inv X pins σ H s → tPairs trs σ H Q →
    wpAny (model X.prog X.w) X.A (evalPairs (pairTrees keys values X.env pos)) (fun vs s' => ∃ ps H', Inv X pins σ H' s' ∧ VV ps vs ∧ Q ps H') X.xe s
def mergeK (kvs more : List (Key × V)) : List (Key × V) := more.foldl (fun acc kv => putK acc kv.1 kv.2) kvs
/-- {k: v, ..} with keys ints and texts; the new dict stands empty while the pairs are made -/
def tDisp (trs : List (TE × TE)) : TE := fun σ H Q => ∀ p, H p = none → tPairs trs σ (upd H p (.dK [])) fun ps H2 => H2 p = some (.dK []) ∧ ∃ kvs : List (Key × V), ps = kvs.map (fun kv => (kV kv.1, kv.2)) ∧ kvs.length ≤ 15 ∧ Q (.ref p) (upd H2 p (.dK (mergeK [] kvs)))
/-! ### methods -/
/-- a method call o.m(e) of a built-in, with one argument: what must be seen of the text -/
structure M1 (X : Cx) (o : Expr) (m : Str) (apos : Pos) (e : Expr) (cpos : Pos) : Prop where
  base : attributeBase o m X.env (eval o X.env) = eval o X.env
  few : ((backTo cpos (starEach [e] X.env)).all (fun x => !x.1) && (backToKw cpos (keywordEach [] X.env)).all (fun x => x.1.isSome)
    && decide (([e] : List Expr).length + ([] : List Keyword).length + (if ([] : List Keyword).isEmpty then 0 else 1) < 30)) = true
  line : (apos.endLine == cpos.line) = true
  trees : backTo cpos (starEach [e] X.env) = [(false, eval e X.env)]
structure M2 (X : Cx) (o : Expr) (m : Str) (apos : Pos) (e f : Expr) (cpos : Pos) : Prop where
  base : attributeBase o m X.env (eval o X.env) = eval o X.env
  few : ((backTo cpos (starEach [e, f] X.env)).all (fun x => !x.1) && (backToKw cpos (keywordEach [] X.env)).all (fun x => x.1.isSome)
    && decide (([e, f] : List Expr).length + ([] : List Keyword).length + (if ([] : List Keyword).isEmpty then 0 else 1) < 30)) = true
  line : (apos.endLine == cpos.line) = true
  trees : backTo cpos (starEach [e, f] X.env) = [(false, eval e X.env), (false, eval f X.env)]

/-- a is a dict, whatever its keys -/
def IsD (H : Hp) (a : Addr) : Prop := (∃ kvs, Rd H a (.dK kvs)) ∨ ∃ kvs, Rd H a (.dT kvs)
section
variable {X : Cx} {pins : List (Addr × Obj)} {σ : St} {H : Hp} {s : Shared} {a : Addr} {y d : V} {u r : Value} {o : Option V} {A : Around} {E : Value → Shared → Prop}
end

def tDGet1 (td ty : TE) : TE := fun σ H Q => td σ H fun x H1 => ∃ a, x = .ref a ∧ IsD H1 a ∧ ty σ H1 fun y H2 => ∃ o, DGet H2 a y o ∧ Q (o.getD .non) H2
def tDGet2 (td ty tx : TE) : TE := fun σ H Q => td σ H fun x H1 => ∃ a, x = .ref a ∧ IsD H1 a ∧ ty σ H1 fun y H2 => tx σ H2 fun z H3 => ∃ o, DGet H3 a y o ∧ Q (o.getD z) H3
/-- d.pop(k): there; d.pop(k, x): there or not -/
def tDPop1 (td ty : TE) : TE := fun σ H Q => td σ H fun x H1 => ∃ a, x = .ref a ∧ IsD H1 a ∧ ty σ H1 fun y H2 => ∃ kvs k v, H2 a = some (.dK kvs) ∧ y = kV k ∧ valV kvs k = some v ∧ Q v (upd H2 a (.dK (dropK kvs k)))
def tDPop2 (td ty tx : TE) : TE := fun σ H Q => td σ H fun x H1 => ∃ a, x = .ref a ∧ IsD H1 a ∧ ty σ H1 fun y H2 => tx σ H2 fun z H3 => ∃ kvs k, H3 a = some (.dK kvs) ∧ y = kV k ∧
  (∀ v, valV kvs k = some v → Q v (upd H3 a (.dK (dropK kvs k)))) ∧ (valV kvs k = none → Q z H3)
section
variable {X : Cx} {o e f : Expr} {apos cpos : Pos} {td ty tx : TE}
end

/-! ### dict(d): a copy -/
section
variable {X : Cx} {pins : List (Addr × Obj)} {σ : St} {H : Hp} {s : Shared} {a : Addr} {kvs : List (Key × V)} {A : Around} {E : Value → Shared → Prop}
theorem d_copyOf {Q : Value → Shared → Prop} (I : Inv X pins σ H s) (e : Rd H a (.dK kvs)) (h : ∀ p s', H p = none → Inv X pins σ (upd H p (.dK kvs)) s' → Q (.ref p) s') : wpAny (model X.prog X.w) A (call (.type "dict") [.ref a]) Q E s := by
  obtain ⟨z, hd, vs, rel, dd⟩ := dk_rd I.hok e
  refine kt_call_dict hd dd (by rw [← rel.length]; exact z) fun h' dd' hs => ?_
  refine h _ _ (I.hok.fresh (Nat.le_refl _)) (I.laid (a := s.heap.objs.size) (o := .dK kvs) (t' := s.toks) (fun b q hq => ?_) (Nat.le_refl _) (dk_new z (beq_eq_false_iff_ne.mpr (Ne.symm (Nat.ne_of_lt I.big))) rel dd'))
  exact (hs.2 b (Nat.ne_of_lt (Heap.lt_size hq))).trans (Heap.get?_push_of_some _ hq)
end


section
variable {X : Cx} {pins : List (Addr × Obj)} {σ : St} {H : Hp} {s : Shared} {a : Addr} {y : V} {u : Value} {A : Around} {E : Value → Shared → Prop}
end
end L2

namespace HT
open PySem PyProof.Rows

/-- t < u of tuples of ints -/
def lexLt : List Int → List Int → Bool
  | [], [] => false
  | [], _ :: _ => true
  | _ :: _, [] => false
  | x :: xs, y :: ys => if x = y then lexLt xs ys else decide (x < y)
section
open PySem.SeqAt
open PySem.AutoSeq1 (wpAny_loadPart')
open PySem.MeetsSeq PySem.MeetsSeq2 PySem.MeetsSeq3

end

section
variable {prog : Program} {w : World} {A : Around} {E : Value → Shared → Prop} {s : Shared}

/-- t + u, t not empty -/
theorem cat_tup {t b : Addr} {vs ws : List Value} {Q : Value → Shared → Prop} (ht : IsTup s.heap t vs.toArray) (hb : IsTup s.heap b ws.toArray) (hv : vs ≠ [])
    (h1 : ws = [] → Q (.ref t) s) (h2 : ws ≠ [] → Q (.ref s.heap.objs.size) { s with heap := s.heap.push { cls := .type "tuple", data := .seq (vs ++ ws).toArray } })
    (hsz : vs.length + ws.length ≤ sizeLine) : wpAny (model prog w) A (binaryOp .Add (.ref t) (.ref b)) Q E s := by
  obtain ⟨⟨cls, dd, data, sl⟩, ho, hc, n, hd⟩ := id ht
  obtain ⟨⟨cls2, dd2, data2, sl2⟩, ho2, hc2, n2, hd2⟩ := id hb
  simp only at hc hd hc2 hd2
  subst hc hd hc2 hd2
  have e : vs.toArray ++ ws.toArray = (vs ++ ws).toArray := by simp
  by_cases hw : ws = []
  · exact concat_meets ⟨_, ho, rfl⟩ ⟨_, ho2, rfl⟩ noFill_tuple_add seq_tuple_add PySem.F.slot_tuple_add PySem.F.entry_tuple_add (PySem.F.args_tuple_add_2 _ _)
      (tuple_addW1 t b vs.toArray ws.toArray n n2 dd dd2 sl sl2 (by simpa using hv) (by simp [hw])) ⟨ho, ho2, h1 hw⟩
  · refine concat_meets ⟨_, ho, rfl⟩ ⟨_, ho2, rfl⟩ noFill_tuple_add seq_tuple_add PySem.F.slot_tuple_add PySem.F.entry_tuple_add (PySem.F.args_tuple_add_2 _ _)
      (tuple_addW2 t b vs.toArray ws.toArray n n2 dd dd2 sl sl2 (by simpa using hv) (by simpa using hw) (by rw [List.size_toArray, List.size_toArray]; exact hsz)) ⟨ho, ho2, ?_⟩
    rw [e]
    exact h2 hw

/-! ### t[a:b], not the whole -/
/-- a slice's bound as a place among n (d where it is left out) -/
def sIx (n d : Nat) : Option Int → Nat
  | none => d
  | some v => if v < 0 then (v + (n : Int)).toNat else min v.toNat n
theorem sIx_none (n d : Nat) : sIx n d none = d := rfl
theorem sIx_nat (n d k : Nat) : sIx n d (some (k : Int)) = min k n := by
  show (if (k : Int) < 0 then ((k : Int) + (n : Int)).toNat else min (k : Int).toNat n) = min k n
  rw [if_neg (by omega), Int.toNat_natCast]
theorem sIx_le (n d : Nat) (hd : d ≤ n) (o : Option Int) : sIx n d o ≤ n := by
  cases o with
  | none => exact hd
  | some v =>
    show (if v < 0 then (v + (n : Int)).toNat else min v.toNat n) ≤ n
    by_cases hv : v < 0
    · rw [if_pos hv]; omega
    · rw [if_neg hv]; exact Nat.min_le_right _ _
theorem clip_eq (v : Int) (n d : Nat) : (if v < 0 then max (v + (n : Int)) 0 else min v (n : Int)) = ((sIx n d (some v) : Nat) : Int) := by
  show (if v < 0 then max (v + (n : Int)) 0 else min v (n : Int)) = (((if v < 0 then (v + (n : Int)).toNat else min v.toNat n) : Nat) : Int)
  by_cases hv : v < 0
  · simp only [if_pos hv]; omega
  · simp only [if_neg hv]; omega
theorem adjust_gen (lo hi : Option Int) (n : Nat) : Builtin.Slice.sliceAdjust lo hi 1 (n : Int) = (((sIx n 0 lo : Nat) : Int), ((sIx n n hi : Nat) : Int)) := by
  have h1 : ¬ ((1 : Int) < 0) := by omega
  unfold Builtin.Slice.sliceAdjust
  simp only [h1, if_false]
  refine Prod.ext ?_ ?_
  · cases lo with
    | none => rfl
    | some v => exact clip_eq v n 0
  · cases hi with
    | none => rfl
    | some v => exact clip_eq v n n
theorem places_gen (i j : Nat) : Builtin.Slice.slicePlaces (i : Int) (j : Int) 1 = j - i := by
  unfold Builtin.Slice.slicePlaces
  have h1 : (1 : Int) > 0 := by omega
  simp only [h1, if_true, Int.ediv_one]
  split <;> omega
theorem slicePart_ {v : Value} {o : Option Int} {Q : Option Int → Shared → Prop} (p : IsPart v o) (h : Q o s) : wpAny (model prog w) A (Builtin.Slice.slicePartIndex v) Q E s := by
  cases p with
  | none => exact slicePart_none h
  | int i t => exact slicePart_int h
theorem sliceApplied_gen {sl : Addr} {vl vu : Value} {lo hi : Option Int} {n : Nat} {Q : Int × Int × Nat → Shared → Prop} (hs : s.heap.IsSliceOf sl vl vu .none) (pl : IsPart vl lo) (pu : IsPart vu hi)
    (h : Q (((sIx n 0 lo : Nat) : Int), 1, sIx n n hi - sIx n 0 lo) s) : wpAny (model prog w) A (Builtin.Slice.sliceApplied (.ref sl) (pure (n : Int))) Q E s := by
  obtain ⟨os, hos, hcs, hds⟩ := id hs
  unfold Builtin.Slice.sliceApplied Builtin.Slice.sliceFields
  refine wpAny_bind (wpAny_bind (wpAny_field hos hds (x := vl) rfl (wpAny_bind (wpAny_field hos hds (x := vu) rfl (wpAny_bind (wpAny_field hos hds (x := .none) rfl (wpAny_pure ?_)))))))
  refine wpAny_bind (slicePart_none ?_)
  show wpAny _ _ (if ((1 : Int) == 0) = true then _ else _) _ _ s
  rw [if_neg (by decide)]
  refine wpAny_bind (slicePart_ pl (wpAny_bind (slicePart_ pu (wpAny_bind (wpAny_pure ?_)))))
  show wpAny _ _ (match Builtin.Slice.sliceAdjust lo hi 1 (n : Int) with | (lo, hi) => pure (lo, (1 : Int), Builtin.Slice.slicePlaces lo hi 1)) _ _ s
  rw [adjust_gen lo hi n]
  show wpAny _ _ (pure (((sIx n 0 lo : Nat) : Int), (1 : Int), Builtin.Slice.slicePlaces ((sIx n 0 lo : Nat) : Int) ((sIx n n hi : Nat) : Int) 1)) _ _ s
  rw [places_gen]
  exact wpAny_pure h
theorem pick_gen (xs : Array Value) (i k : Nat) : ((List.range k).filterMap fun (m : Nat) => xs[((i : Int) + (m : Int) * 1).toNat]?).toArray = ((xs.toList.drop i).take k).toArray := by
  have e : (fun (m : Nat) => xs[((i : Int) + (m : Int) * 1).toNat]?) = fun m => xs[i + m]? := by
    funext m
    have : ((i : Int) + (m : Int) * 1).toNat = i + m := by omega
    rw [this]
  rw [e]
  have := pick_run xs i k
  rw [List.filterMap_map] at this
  have e2 : ((fun x => xs[x]?) ∘ fun x => i + x) = fun m => xs[i + m]? := rfl
  rw [e2] at this
  rw [this]

theorem getItem_tuple_cut {t sl : Addr} {items : Array Value} {vl vu : Value} {lo hi : Option Int} {Q : Value → Shared → Prop} (ht : IsTup s.heap t items) (hs : s.heap.IsSliceOf sl vl vu .none) (pl : IsPart vl lo) (pu : IsPart vu hi)
    (hw : ¬ (sIx items.size 0 lo = 0 ∧ sIx items.size items.size hi = items.size))
    (h : Q (.ref s.heap.objs.size) { s with heap := s.heap.push { cls := .type "tuple", data := .seq ((items.toList.drop (sIx items.size 0 lo)).take (sIx items.size items.size hi - sIx items.size 0 lo)).toArray } })
    (hsz : items.size ≤ sizeLine) : wpAny (model prog w) A (getItem (.ref t) (.ref sl)) Q E s := by
  have htake : sizeOk (.seq ((items.toList.drop (sIx items.size 0 lo)).take (sIx items.size items.size hi - sIx items.size 0 lo)).toArray) := by
    show ((items.toList.drop (sIx items.size 0 lo)).take (sIx items.size items.size hi - sIx items.size 0 lo)).toArray.size ≤ sizeLine
    rw [List.size_toArray, List.length_take, List.length_drop, Array.length_toList]
    omega
  have hj : sIx items.size items.size hi ≤ items.size := sIx_le _ _ (Nat.le_refl _) hi
  obtain ⟨os, hos, hcs, hds⟩ := id hs
  have hTs : s.TypeIs (.ref sl) "slice" := ⟨os, hos, hcs⟩
  unfold getItem
  try with_reducible refine wpAny_holding ?_
  first | refine wpAny_bind (wpAny_pure ?_) | skip
  refine wpAny_bind (wpAny_sequenceKey ht.typeIs (by decide) ?_)
  refine wpAny_bind (wpAny_callSpecial?_slot (name := Str.ofString "__getitem__") ht.typeIs PyProof.Rows.slot_tuple_getitem
    (wpAny_call_entry PyProof.Rows.slot_tuple_getitem ht.typeIs entry_tuple_getitem ?_ (args_tuple_getitem _ _)))
  show wpAny _ _ (Builtin.Tuple.tupleItemsOf (.ref t) >>= _) _ _ s
  refine wpAny_bind (tupleItemsOf_ ht ?_)
  refine wpAny_bind (wpAny_typeOf hTs ?_)
  rw [if_pos (by decide)]
  refine wpAny_bind (sliceApplied_gen hs pl pu ?_)
  have hno : ¬ ((((sIx items.size 0 lo : Nat) : Int) == 0 && (1 : Int) == 1 && (sIx items.size items.size hi - sIx items.size 0 lo) == items.size) = true) := by
    intro q
    rw [Bool.and_eq_true, Bool.and_eq_true] at q
    have q1 : ((sIx items.size 0 lo : Nat) : Int) = 0 := eq_of_beq q.1.1
    have q2 : sIx items.size items.size hi - sIx items.size 0 lo = items.size := eq_of_beq q.2
    exact hw ⟨by omega, by omega⟩
  show wpAny _ _ (if (((sIx items.size 0 lo : Nat) : Int) == 0 && (1 : Int) == 1 && (sIx items.size items.size hi - sIx items.size 0 lo) == items.size) = true then _ else _) _ _ s
  rw [if_neg hno, pick_gen]
  first
    | exact wpAny_bind (m := Builtin.Tuple.tupleExact _) (wpAny_newObj_type (wpAny_pure ⟨_, rfl, wpAny_pure h⟩) htake)
    | exact wpAny_bind (m := Builtin.Tuple.tupleExact _) (wpAny_newObj_type (wpAny_bind (wpAny_pure (wpAny_pure ⟨_, rfl, wpAny_pure h⟩))) htake)
    | exact wpAny_bind (wpAny_bind (m := Builtin.Tuple.tupleExact _) (wpAny_newObj_type (wpAny_pure (wpAny_pure ⟨_, rfl, wpAny_pure h⟩)) htake))
    | exact wpAny_bind (wpAny_bind (m := Builtin.Tuple.tupleExact _) (wpAny_newObj_type (wpAny_pure ⟨_, rfl, wpAny_pure h⟩) htake))
end
end HT

namespace L2
open PySem PySem.Spec PyProof.Rows

/-! ### the parts of a slice -/
abbrev TO := St → Hp → (Option Int → Hp → Prop) → Prop
/-- a slice's part (left out, or an int) -/
def PO (X : Cx) (e : Option Expr) (t : TO) : Prop :=
  ∀ (pins : List (Addr × Obj)) (s : Shared) (σ : St) (H : Hp) (Q : Option Int → Hp → Prop), Inv X pins σ H s → t σ H Q →
    wpAny (model X.prog X.w) X.A (evalPart e X.env) (fun u s' => ∃ o H', Inv X pins σ H' s' ∧ IsPart u o ∧ Q o H') X.xe s
def tNoPart : TO := fun _ H Q => Q none H
def tPart (t : TE) : TO := fun σ H Q => t σ H fun x H1 => ∃ i, x = .int i ∧ Q (some i) H1

section
variable {X : Cx} {e : Expr} {te : TE} {lo hi : Option Expr} {tl th : TO} {pos p2 : Pos}

theorem po_none : PO X none tNoPart := by
  intro pins s σ H Q I h
  rw [evalPart_none]
  exact wpAny_pure ⟨none, H, I, .none, h⟩
theorem po_some (h : PE X e te) : PO X (some e) (tPart te) := by
  intro pins s σ H Q I hw
  rw [evalPart_some]
  refine thn (h pins s σ H _ I hw) fun u s1 ⟨x, H1, I1, r1, q1⟩ => ?_
  obtain ⟨i, rfl, q⟩ := q1
  obtain ⟨t, rfl⟩ := r1
  exact ⟨some i, H1, I1, .int i t, q⟩

/-- what a slice of a value is, by values: the slice object stands at sl -/
def SlR (X : Cx) (r : V → Option Int → Option Int → Hp → VK → Prop) : Prop :=
  ∀ (pins : List (Addr × Obj)) (s : Shared) (σ : St) (H : Hp) (x : V) (v vl vu : Value) (lo hi : Option Int) (sl : Addr) (Q : VK), Inv X pins σ H s → RelV x v → s.heap.IsSliceOf sl vl vu .none → IsPart vl lo → IsPart vu hi → r x lo hi H Q →
    ∃ T id, typeLookup (.type T) "__getitem__" = pure (some (.builtin id)) ∧ s.TypeIs v T ∧ wpAny (model X.prog X.w) X.A (getItem v (.ref sl)) (EP X pins σ Q) X.xe s
theorem SlR.or {r r' : V → Option Int → Option Int → Hp → VK → Prop} (h : SlR X r) (h' : SlR X r') : SlR X (fun x lo hi H Q => r x lo hi H Q ∨ r' x lo hi H Q) := by
  intro pins s σ H x v vl vu lo hi sl Q I rx hs pl pu q
  rcases q with q | q
  · exact h pins s σ H x v vl vu lo hi sl Q I rx hs pl pu q
  · exact h' pins s σ H x v vl vu lo hi sl Q I rx hs pl pu q
def tSl (r : V → Option Int → Option Int → Hp → VK → Prop) (te : TE) (tl th : TO) : TE := fun σ H Q => te σ H fun x H1 => tl σ H1 fun l H2 => th σ H2 fun u H3 => r x l u H3 Q
/-- a[lo:hi], any a -/
theorem pe_slice {r : V → Option Int → Option Int → Hp → VK → Prop} (hr : SlR X r) (he : PE X e te) (hl : PO X lo tl) (hu : PO X hi th) : PE X (.Subscript e (.Slice lo hi none p2) pos) (tSl r te tl th) := by
  intro pins s σ H Q I h
  refine Subscript_ (thn (he pins s σ H _ I h) fun v s1 ⟨x, H1, I1, r1, q1⟩ => ?_)
  refine wpAny_Slice (thn (hl pins s1 σ H1 _ I1 q1) fun vl s2 ⟨l, H2, I2, pl, q2⟩ => thn (hu pins s2 σ H2 _ I2 q2) fun vu s3 ⟨u, H3, I3, pu, q3⟩ => ?_)
  rw [evalPart_none]
  refine wpAny_pure ?_
  have I4 : Inv X pins σ H3 { s3 with heap := s3.heap.push { cls := .type "slice", data := .fields #[vl, vu, .none] } } := I3.kept (t' := s3.toks) fun b ob q => Heap.get?_push_of_some _ q
  obtain ⟨T, id, hT, ht, hg⟩ := hr pins { s3 with heap := s3.heap.push { cls := .type "slice", data := .fields #[vl, vu, .none] } } σ H3 x v vl vu l u s3.heap.objs.size Q I4 r1 (Heap.IsSliceOf.new ..) pl pu q3
  show wpAny (model X.prog X.w) X.A (subscriptTail e (.Slice lo hi none p2) v (.ref s3.heap.objs.size)) (EP X pins σ Q) X.xe { s3 with heap := s3.heap.push { cls := .type "slice", data := .fields #[vl, vu, .none] } }
  exact tail_any (ops := [.ref s3.heap.objs.size, v]) ht hT hg (by with_unfolding_all rfl)

/-- the items of xs[lo:hi] -/
def cutV (xs : List V) (lo hi : Option Int) : List V := (xs.drop (HT.sIx xs.length 0 lo)).take (HT.sIx xs.length xs.length hi - HT.sIx xs.length 0 lo)
theorem cutV_length (xs : List V) (lo hi : Option Int) : (cutV xs lo hi).length ≤ xs.length := by
  unfold cutV
  rw [List.length_take, List.length_drop]
  omega
/-- t[lo:hi], not the whole of it (the whole would be t itself) -/
def rSlT (K : PySem.W.Frag) : V → Option Int → Option Int → Hp → VK → Prop := fun x lo hi H Q => ∃ a xs, x = .ref a ∧ SqT K H a xs ∧
  ¬ (HT.sIx xs.length 0 lo = 0 ∧ HT.sIx xs.length xs.length hi = xs.length) ∧ ∀ p, H p = none → Q (.ref p) (upd H p (.tup (cutV xs lo hi)))
theorem sl_tup : SlR X (rSlT X.K) := by
  intro pins s σ H x v vl vu lo hi sl Q I rx hs pl pu h
  obtain ⟨a, xs, rfl, hx, hw, q⟩ := h
  cases rx
  obtain ⟨its, r, ht, hz⟩ := I.tuple hx
  have hlen : its.toArray.size = xs.length := by rw [List.size_toArray]; exact r.length.symm
  refine ⟨"tuple", _, PyProof.Rows.slot_tuple_getitem.lookup, ht.typeIs, ?_⟩
  refine HT.getItem_tuple_cut ht hs pl pu (by rw [hlen]; exact hw) ?_ (by rw [hlen]; exact hz)
  rw [hlen]
  refine ⟨.ref s.heap.objs.size, _, I.laid (t' := s.toks) (o := .tup (cutV xs lo hi)) (fun b ob q => Heap.get?_push_of_some _ q) (Nat.le_refl _) ?_, rfl, q _ (I.hok.fresh (Nat.le_refl _))⟩
  exact ⟨Nat.le_trans (cutV_length xs lo hi) hz, _, (r.drop (HT.sIx xs.length 0 lo)).take (HT.sIx xs.length xs.length hi - HT.sIx xs.length 0 lo), IsTup.new _ _⟩

/-! ### t < u, t + u -/
def rLtT (K : PySem.W.Frag) : R2 := fun x y H Q => ∃ a b ns ms, x = .ref a ∧ y = .ref b ∧ SqT K H a (ns.map V.int) ∧ SqT K H b (ms.map V.int) ∧ Q (.bl (HT.lexLt ns ms)) H
/-- t + u, t not empty: u empty gives t itself -/
def rCatT (K : PySem.W.Frag) : R2 := fun x y H Q => ∃ a b xs ys, x = .ref a ∧ y = .ref b ∧ SqT K H a xs ∧ SqT K H b ys ∧ xs ≠ [] ∧ xs.length + ys.length ≤ sizeLine ∧
  (ys = [] → Q (.ref a) H) ∧ (ys ≠ [] → ∀ p, H p = none → Q (.ref p) (upd H p (.tup (xs ++ ys))))
theorem Vals.nil_iff {xs : List V} {us : List Value} (r : Vals xs us) : us = [] ↔ xs = [] := by
  cases r with
  | nil => simp
  | cons _ _ => simp
theorem op_catT : OpR X (binaryOp .Add) (rCatT X.K) := by
  intro pins s σ H x y v u Q I rx ry h
  obtain ⟨a, b, xs, ys, rfl, rfl, ha, hb, hx, hz, q1, q2⟩ := h
  cases rx
  cases ry
  obtain ⟨its, r1, p1, _⟩ := I.tuple ha
  obtain ⟨its2, r2, p2, _⟩ := I.tuple hb
  refine HT.cat_tup p1 p2 (fun z => hx (r1.nil_iff.mp z)) (fun z => ⟨.ref a, H, I, rfl, q1 (r2.nil_iff.mp z)⟩) (fun z => ?_) (by rw [← r1.length, ← r2.length]; exact hz)
  refine ⟨.ref s.heap.objs.size, _, I.laid (t' := s.toks) (o := .tup (xs ++ ys)) (fun b ob q => Heap.get?_push_of_some _ q) (Nat.le_refl _) ?_, rfl, q2 (fun w => z (r2.nil_iff.mpr w)) _ (I.hok.fresh (Nat.le_refl _))⟩
  exact ⟨by rw [List.length_append]; exact hz, _, r1.append r2, IsTup.new _ _⟩
end
end L2

namespace L2
open PySem PySem.Spec PyProof.Rows

/-! ### places -/
/-- the place that an index of any sign means -/
def ixN (n : Nat) (i : Int) : Option Nat := if 0 ≤ i then (if i < n then some i.toNat else none) else if -(n : Int) ≤ i then some (i + n).toNat else none
def atI {α : Type} (xs : List α) (i : Int) : Option α := (ixN xs.length i).bind fun j => xs[j]?
theorem ixN_seq {n : Nat} {i : Int} {j : Nat} (h : ixN n i = some j) : seqIndex? i n = some j ∧ j < n ∧ -(n : Int) ≤ i ∧ i < n := by
  unfold ixN at h
  by_cases h0 : 0 ≤ i
  · rw [if_pos h0] at h
    by_cases h1 : i < n
    · rw [if_pos h1] at h
      have e : i.toNat = j := Option.some.inj h
      exact ⟨by rw [seqIndex_of h0 h1, e], by omega, by omega, h1⟩
    · rw [if_neg h1] at h; cases h
  · rw [if_neg h0] at h
    by_cases h1 : -(n : Int) ≤ i
    · rw [if_pos h1] at h
      have e : (i + n).toNat = j := Option.some.inj h
      exact ⟨by rw [seqIndex_neg (by omega) h1, e], by omega, h1, by omega⟩
    · rw [if_neg h1] at h; cases h
theorem atI_get {α : Type} {xs : List α} {i : Int} {v : α} (h : atI xs i = some v) : ∃ j, seqIndex? i xs.length = some j ∧ xs[j]? = some v ∧ j < xs.length ∧ -(xs.length : Int) ≤ i ∧ i < xs.length := by
  unfold atI at h
  cases e : ixN xs.length i with
  | none => rw [e] at h; cases h
  | some j =>
    rw [e] at h
    obtain ⟨h1, h2, h3, h4⟩ := ixN_seq e
    exact ⟨j, h1, h, h2, h3, h4⟩
theorem atI_nat {α : Type} {xs : List α} {j : Nat} {v : α} (h : xs[j]? = some v) : atI xs (j : Int) = some v := by
  have hj : j < xs.length := (List.getElem?_eq_some_iff.mp h).1
  have e : ixN xs.length (j : Int) = some j := by
    unfold ixN
    rw [if_pos (by omega), if_pos (by omega)]; simp
  unfold atI; rw [e]; exact h
/-! ### what may be subscripted -/
/-- what stands as an index of a plain subscript -/
def PlainIx (b : Expr) : Prop := ∀ o i, subscripted b false o i = operate [o, i] (getItem o i)
/-- a subscript by values -/
def IxR (X : Cx) (r : R2) : Prop :=
  ∀ (value slice : Expr) (pins : List (Addr × Obj)) (s : Shared) (σ : St) (H : Hp) (x y : V) (v u : Value) (Q : VK), Inv X pins σ H s → RelV x v → RelV y u → r x y H Q →
    subscripted slice false v u = operate [v, u] (getItem v u) → wpAny (model X.prog X.w) X.A (subscriptTail value slice v u) (EP X pins σ Q) X.xe s
/-- a call of a builtin's method by values: the receiver, the arguments -/
def MtR (X : Cx) (id : String) (r : V → List V → Hp → VK → Prop) : Prop :=
  ∀ (pins : List (Addr × Obj)) (s : Shared) (σ : St) (H : Hp) (x : V) (xs : List V) (v : Value) (us : List Value) (Q : VK), Inv X pins σ H s → RelV x v → Vals xs us → r x xs H Q →
    wpAny (model X.prog X.w) X.A (call (.builtin id) (v :: us)) (EP X pins σ Q) X.xe s
section
variable {X : Cx} {a b : Expr} {ta tb : TE} {pos : Pos}
theorem IxR.or {r r' : R2} (h : IxR X r) (h' : IxR X r') : IxR X (fun x y H Q => r x y H Q ∨ r' x y H Q) := by
  intro value slice pins s σ H x y v u Q I rx ry q hs
  rcases q with q | q
  · exact h value slice pins s σ H x y v u Q I rx ry q hs
  · exact h' value slice pins s σ H x y v u Q I rx ry q hs
theorem MtR.or {id : String} {r r' : V → List V → Hp → VK → Prop} (h : MtR X id r) (h' : MtR X id r') : MtR X id (fun x xs H Q => r x xs H Q ∨ r' x xs H Q) := by
  intro pins s σ H x xs v us Q I rx rs q
  rcases q with q | q
  · exact h pins s σ H x xs v us Q I rx rs q
  · exact h' pins s σ H x xs v us Q I rx rs q
/-- a[b] -/
theorem pe_ix {r : R2} (hr : IxR X r) (ha : PE X a ta) (hb : PE X b tb) (hs : PlainIx b) : PE X (.Subscript a b pos) (tOp r ta tb) := by
  intro pins s σ H Q I h
  exact Subscript_ (binT ha hb I h fun v u s2 x y H2 I2 rx ry q => hr a b pins s2 σ H2 x y v u Q I2 rx ry q (hs _ _))

def rIxL (K : PySem.W.Frag) : R2 := fun x y H Q => ∃ p xs i v, x = .ref p ∧ y = .int i ∧ SqL K H p xs ∧ atI xs i = some v ∧ Q v H
def rIxT (K : PySem.W.Frag) : R2 := fun x y H Q => ∃ p xs i v, x = .ref p ∧ y = .int i ∧ SqT K H p xs ∧ atI xs i = some v ∧ Q v H
def rIxS : R2 := fun x y H Q => ∃ z i c, x = .str z ∧ y = .int i ∧ z.length ≤ sizeLine ∧ atI z.cps.toList i = some c ∧ Q (.str ⟨#[c]⟩) H
theorem ix_list : IxR X (rIxL X.K) := by
  intro value slice pins s σ H x y v u Q I rx ry h hs
  obtain ⟨p, xs, i, z, rfl, rfl, hq, he, q⟩ := h
  cases rx
  obtain ⟨t, rfl⟩ := ry
  obtain ⟨its, r, pl, hz⟩ := I.list hq
  obtain ⟨j, h1, h2, h3, h4, h5⟩ := atI_get he
  obtain ⟨w, ew, rw'⟩ := r.get h2
  have hl := r.length
  have hn := line63
  have fin : EP X pins σ Q w s := ⟨z, H, I, rw', q⟩
  by_cases h0 : 0 ≤ i
  · have hj : i.toNat = j := by
      rw [seqIndex_of h0 h5] at h1
      exact Option.some.inj h1
    exact item_listR pl.isList h0 (by omega) (by rw [hj]; simpa using ew) fin hs
  · have hj : (i + (its.toArray.size : Int)).toNat = j := by
      rw [seqIndex_neg (by omega) h4] at h1
      rw [List.size_toArray, ← hl]
      exact Option.some.inj h1
    exact subscriptTail_builtinR (x := w) pl.isList.typeIs slot_list_getitem.lookup
      (wpAny_getItem_list_neg (Q := fun r s' => r = w ∧ EP X pins σ Q r s') pl.isList (by omega) (by rw [List.size_toArray] <;> omega) (by omega) (by rw [hj]; simpa using ew) ⟨rfl, fin⟩) hs
theorem ix_tup : IxR X (rIxT X.K) := by
  intro value slice pins s σ H x y v u Q I rx ry h hs
  obtain ⟨p, xs, i, z, rfl, rfl, hq, he, q⟩ := h
  cases rx
  obtain ⟨t, rfl⟩ := ry
  obtain ⟨its, r, pl, hz⟩ := I.tuple hq
  obtain ⟨j, h1, h2, h3, h4, h5⟩ := atI_get he
  obtain ⟨w, ew, rw'⟩ := r.get h2
  have hl := r.length
  have hn := line63
  have fin : EP X pins σ Q w s := ⟨z, H, I, rw', q⟩
  exact subscriptTail_builtinR (x := w) pl.typeIs slot_tuple_getitem.lookup
    (getItem_tuple (j := j) (Q := fun r s' => r = w ∧ EP X pins σ Q r s') pl (by omega) (by omega) (by rw [List.size_toArray, ← hl]; exact h1) (by simpa using ew) ⟨rfl, fin⟩) hs
theorem ix_str : IxR X rIxS := by
  intro value slice pins s σ H x y v u Q I rx ry h hs
  obtain ⟨z, i, c, rfl, rfl, hz, he, q⟩ := h
  obtain ⟨t, rfl⟩ := rx
  obtain ⟨t', rfl⟩ := ry
  obtain ⟨j, h1, h2, h3, h4, h5⟩ := atI_get he
  have hl : z.cps.toList.length = z.length := by simp [Str.length]
  rw [hl] at h1 h4 h5
  have hn := line63
  exact tail_any (typeIs_str s z t) slot_str_getitem.lookup (getItem_str (c := c) (by
    have e1 : decide (i < -(2 ^ 63 : Int)) = false := decide_eq_false (by omega)
    have e2 : decide (i ≥ 2 ^ 63) = false := decide_eq_false (by omega)
    rw [e1, e2, Bool.or_false]) (by rw [h1]; simpa using h2) ⟨.str ⟨#[c]⟩, H, I.tok _, ⟨_, rfl⟩, q⟩) hs
/-- list, tuple or str -/
def rIx (K : PySem.W.Frag) : R2 := fun x y H Q => rIxL K x y H Q ∨ rIxT K x y H Q ∨ rIxS x y H Q
theorem ix_seq : IxR X (rIx X.K) := ix_list.or (ix_tup.or ix_str)

/-! ### xs[i] = v, any sign -/
/-- the list's object behind a store -/
theorem mapSeq_set (its : List Value) (n j : Nat) (u : Value) : Obj.mapSeq (·.setIfInBounds j u) { cls := .type "list", data := .seq its.toArray n } = { cls := .type "list", data := .seq (its.set j u).toArray n } := by
  simp [Obj.mapSeq]
theorem Inv.lst {pins : List (Addr × Obj)} {σ : St} {H : Hp} {s : Shared} {p : Addr} {xs : List V} (I : Inv X pins σ H s) (h : H p = some (.lst xs)) :
    ∃ (its : List Value) (n : Nat), Vals xs its ∧ s.heap.get? p = some { cls := .type "list", data := .seq its.toArray n } ∧ xs.length ≤ sizeLine := by
  obtain ⟨z, its, n, r, e⟩ := I.hok p _ h
  exact ⟨its, n, r, e, z⟩
/-- the list at p is written by an update of its object -/
theorem Inv.lstUpd {pins : List (Addr × Obj)} {σ : St} {H : Hp} {s : Shared} {p : Addr} {xs ys : List V} {its its' : List Value} {n n' : Nat} {f : Obj → Obj} (I : Inv X pins σ H s) (h : H p = some (.lst xs))
    (ho : s.heap.get? p = some { cls := .type "list", data := .seq its.toArray n }) (hf : f { cls := .type "list", data := .seq its.toArray n } = { cls := .type "list", data := .seq its'.toArray n' }) (r : Vals ys its') (hz : ys.length ≤ sizeLine) (t : Nat) :
    Inv X pins σ (upd H p (.lst ys)) { s with heap := s.heap.update p f, toks := t } := by
  have e : (s.heap.update p f).get? p = some { cls := .type "list", data := .seq its'.toArray n' } := by
    rw [Heap.get?_update_self f ho (by rw [hf] <;> rfl), hf]
  refine I.write (x := p) (e := p) (by rw [h]; trivial) (.inl rfl) (fun b u hb q => (Heap.get?_update_other _ _ (Ne.symm hb)).trans q) ⟨_, e⟩ ?_
  exact ⟨hz, its', n', r, e⟩
def rSetL : V → V → V → Hp → (Hp → Prop) → Prop := fun o i v H Q => ∃ p xs k j, o = .ref p ∧ i = .int k ∧ H p = some (.lst xs) ∧ ixN xs.length k = some j ∧ Q (upd H p (.lst (xs.set j v)))
theorem set_list : PSet X rSetL := by
  intro pins s σ H o i v ov iv u Q I ro ri rv h
  obtain ⟨p, xs, k, j, rfl, rfl, hp, hj, q⟩ := h
  cases ro
  obtain ⟨t, rfl⟩ := ri
  obtain ⟨its, n, r, ho, hz⟩ := I.lst hp
  obtain ⟨h1, h2, h3, h4⟩ := ixN_seq hj
  have hl := r.length
  have hn := line63
  have I' : Inv X pins σ (upd H p (.lst (xs.set j v))) { s with heap := s.heap.update p (Obj.mapSeq (·.setIfInBounds j u)) } :=
    I.lstUpd hp ho (mapSeq_set its n j u) (r.set rv j) (by rw [List.length_set]; exact hz) s.toks
  by_cases h0 : 0 ≤ k
  · have hk : k.toNat = j := by
      rw [seqIndex_of h0 h4] at h1
      exact Option.some.inj h1
    exact PySem.W.ki_setAt ho h0 (by omega) (by rw [List.size_toArray, ← hl]; exact h4) (by rw [hk]; exact ⟨_, I', q⟩)
  · have hk : (k + (its.toArray.size : Int)).toNat = j := by
      rw [seqIndex_neg (by omega) h3] at h1
      rw [List.size_toArray, ← hl]
      exact Option.some.inj h1
    exact PySem.W.ki_setBack ho (by omega) (by rw [List.size_toArray, ← hl]; exact h3) (by omega) (by rw [hk]; exact ⟨_, I', q⟩)

/-! ### slices -/
/-- xs[lo:hi] of a list: a new list -/
def rSlL (K : PySem.W.Frag) : V → Option Int → Option Int → Hp → VK → Prop := fun x lo hi H Q => ∃ a xs, x = .ref a ∧ SqL K H a xs ∧ ∀ p, H p = none → Q (.ref p) (upd H p (.lst (cutV xs lo hi)))
/-! ### in, not in: flat items -/
def flatV : V → Bool
  | .non => true
  | .bl _ => true
  | .int _ => true
  | .str _ => true
  | _ => false
/-- == of flat values -/
def eqV : V → V → Bool
  | .non, .non => true
  | .bl a, .bl b => a == b
  | .bl a, .int b => (if a then 1 else 0) == b
  | .int a, .bl b => a == (if b then 1 else 0)
  | .int a, .int b => a == b
  | .str a, .str b => a == b
  | _, _ => false
theorem eqAt_V {A : Around} {s : Shared} {y x : V} {u v : Value} (ry : RelV y u) (rx : RelV x v) (fy : flatV y = true) (fx : flatV x = true) : SeqAt.EqAt A s u v (eqV y x) := by
  cases y with
  | non =>
    cases ry
    cases x with
    | non => cases rx; exact SeqAt.EqAt.same _
    | bl b => cases rx; exact SeqAt.EqAt.none_bool b
    | int b => obtain ⟨t, rfl⟩ := rx; exact SeqAt.EqAt.none_int b t
    | str b => obtain ⟨t, rfl⟩ := rx; exact SeqAt.EqAt.none_str b t
    | _ => exact absurd (show false = true from fx) Bool.false_ne_true
  | bl a =>
    cases ry
    cases x with
    | non => cases rx; exact SeqAt.EqAt.bool_none a
    | bl b => cases rx; exact SeqAt.EqAt.bool_bool a b
    | int b => obtain ⟨t, rfl⟩ := rx; exact SeqAt.EqAt.bool_int a b t
    | str b => obtain ⟨t, rfl⟩ := rx; exact SeqAt.EqAt.bool_str a b t
    | _ => exact absurd (show false = true from fx) Bool.false_ne_true
  | int a =>
    obtain ⟨t', rfl⟩ := ry
    cases x with
    | non => cases rx; exact SeqAt.EqAt.int_none a t'
    | bl b => cases rx; exact SeqAt.EqAt.int_bool a t' b
    | int b => obtain ⟨t, rfl⟩ := rx; exact SeqAt.EqAt.int_int a t' b t
    | str b => obtain ⟨t, rfl⟩ := rx; exact SeqAt.EqAt.int_str a t' b t
    | _ => exact absurd (show false = true from fx) Bool.false_ne_true
  | str a =>
    obtain ⟨t', rfl⟩ := ry
    cases x with
    | non => cases rx; exact SeqAt.EqAt.str_none a t'
    | bl b => cases rx; exact SeqAt.EqAt.str_bool a t' b
    | int b => obtain ⟨t, rfl⟩ := rx; exact SeqAt.EqAt.str_int a t' b t
    | str b => obtain ⟨t, rfl⟩ := rx; exact SeqAt.EqAt.str_str a t' b t
    | _ => exact absurd (show false = true from fx) Bool.false_ne_true
  | _ => exact absurd (show false = true from fy) Bool.false_ne_true
/-- the items' answers, read off the values (a value's own answer does not lean on its token) -/
def eqU (x : V) (u : Value) : Bool := match u with
  | .none => eqV .non x
  | .bool b => eqV (.bl b) x
  | .int i _ => eqV (.int i) x
  | .str z _ => eqV (.str z) x
  | _ => false
theorem eqU_of {x y : V} {u : Value} (r : RelV y u) (f : flatV y = true) : eqU x u = eqV y x := by
  cases y with
  | non => cases r; rfl
  | bl b => cases r; rfl
  | int i => obtain ⟨t, rfl⟩ := r; rfl
  | str z => obtain ⟨t, rfl⟩ := r; rfl
  | _ => exact absurd (show false = true from f) Bool.false_ne_true
theorem any_eqU {x : V} : ∀ {xs : List V} {us : List Value}, Vals xs us → xs.all flatV = true → us.any (eqU x) = xs.any fun y => eqV y x
  | _, _, .nil, _ => rfl
  | y :: xs, u :: us, .cons r t, f => by
    rw [List.all_cons, Bool.and_eq_true] at f
    rw [List.any_cons, List.any_cons, eqU_of r f.1, any_eqU t f.2]
theorem mem_eqAt {A : Around} {s : Shared} {x : V} {v : Value} (rx : RelV x v) (fx : flatV x = true) : ∀ {xs : List V} {us : List Value}, Vals xs us → xs.all flatV = true → ∀ u ∈ us, SeqAt.EqAt A s u v (eqU x u)
  | _, _, .nil, _ => fun u hu => by cases hu
  | y :: xs, u :: us, .cons r t, f => fun u' hu => by
    rw [List.all_cons, Bool.and_eq_true] at f
    rcases List.mem_cons.mp hu with rfl | hu
    · rw [eqU_of r f.1]; exact eqAt_V r rx f.1 fx
    · exact mem_eqAt rx fx t f.2 u' hu
def inV (x : V) (xs : List V) : Bool := xs.any fun y => eqV y x
/-- x in a list or tuple of flat items -/
def rIn (K : PySem.W.Frag) (neg : Bool) : R2 := fun x y H Q => ∃ p xs, y = .ref p ∧ (SqL K H p xs ∨ SqT K H p xs) ∧ flatV x = true ∧ xs.all flatV = true ∧ Q (.bl (if neg then !inV x xs else inV x xs)) H
theorem op_in_seq : OpR X (compareOp .In) (rIn X.K false) := by
  intro pins s σ H x y v u Q I rx ry h
  obtain ⟨p, xs, rfl, hq, fx, fs, q⟩ := h
  cases ry
  rcases hq with hq | hq
  · obtain ⟨its, r, pl, hz⟩ := I.list hq
    refine SeqAt.in_listAt (eqU x) pl.isList (fun w hw => mem_eqAt rx fx r fs w (by simpa using hw)) ⟨.bl _, H, I, rfl, ?_⟩
    rw [show its.toArray.any (eqU x) = its.any (eqU x) by simp, any_eqU r fs]
    exact q
  · obtain ⟨its, r, pl, hz⟩ := I.tuple hq
    refine SeqAt.in_tupleAt (eqU x) pl (fun w hw => mem_eqAt rx fx r fs w (by simpa using hw)) ⟨.bl _, H, I, rfl, ?_⟩
    rw [show its.toArray.any (eqU x) = its.any (eqU x) by simp, any_eqU r fs]
    exact q
/-! ### len, list(x), tuple(x) of any list or tuple that is read -/
theorem CallR.or {f : Value} {r r' : List V → Hp → VK → Prop} (h : CallR X f r) (h' : CallR X f r') : CallR X f (fun xs H Q => r xs H Q ∨ r' xs H Q) := by
  intro pins s σ H xs us Q I rs q
  rcases q with q | q
  · exact h pins s σ H xs us Q I rs q
  · exact h' pins s σ H xs us Q I rs q
theorem call_list_of : CallR X (.type "list") (fun xs H Q => ∃ p ys, xs = [.ref p] ∧ (SqL X.K H p ys ∨ SqT X.K H p ys) ∧ ∀ l, H l = none → Q (.ref l) (upd H l (.lst ys))) := by
  intro pins s σ H xs us Q I r h
  obtain ⟨p, ys, rfl, hq, q⟩ := h
  obtain ⟨u, rfl, rx⟩ := vals1 r
  cases rx
  have fin : ∀ (its : List Value), Vals ys its → ys.length ≤ sizeLine → ∀ (h' : Heap) (c' : Nat), (∀ b o', s.heap.get? b = some o' → h'.get? b = some o') →
      h'.get? s.heap.objs.size = some { cls := .type "list", dict := none, data := .seq its.toArray c', slots := #[] } → EP X pins σ Q (.ref s.heap.objs.size) { s with heap := h' } := fun its r' hz h' c' kp e =>
    ⟨.ref s.heap.objs.size, _, I.laid (t' := s.toks) kp (Nat.le_refl _) (show ObjOk X.prog X.w _ h' _ (.lst ys) from ⟨hz, its, c', r', e⟩), rfl, q _ (I.hok.fresh (Nat.le_refl _))⟩
  rcases hq with hq | hq
  · obtain ⟨its, r', pl, hz⟩ := I.list hq
    have hlen := r'.length
    obtain ⟨o, ho, hc, n, hd⟩ := pl.isList
    exact call_list_seq p (.inl rfl) ho hc hd (fun h' c' kp e => fin its r' hz h' c' kp e) (by simp only [List.size_toArray] <;> omega)
  · obtain ⟨its, r', pl, hz⟩ := I.tuple hq
    have hlen := r'.length
    obtain ⟨o, ho, hc, n, hd⟩ := pl
    exact call_list_seq p (.inr rfl) ho hc hd (fun h' c' kp e => fin its r' hz h' c' kp e) (by simp only [List.size_toArray] <;> omega)
theorem call_tuple_of : CallR X (.type "tuple") (fun xs H Q => ∃ p ys, xs = [.ref p] ∧ ((SqL X.K H p ys ∧ ∀ l, H l = none → Q (.ref l) (upd H l (.tup ys))) ∨ (SqT X.K H p ys ∧ Q (.ref p) H))) := by
  intro pins s σ H xs us Q I r h
  obtain ⟨p, ys, rfl, h⟩ := h
  obtain ⟨u, rfl, rx⟩ := vals1 r
  cases rx
  rcases h with ⟨hq, q⟩ | ⟨hq, q⟩
  · obtain ⟨its, r', pl, hz⟩ := I.list hq
    have hlen := r'.length
    refine call_tuple_list pl.isList (fun h' kp => ?_) (by simp only [List.size_toArray] <;> omega)
    have I1 : Inv X pins σ H { s with heap := h' } := I.kept (t' := s.toks) kp
    have I2 : Inv X pins σ (upd H h'.objs.size (.tup ys)) { s with heap := h'.push { cls := .type "tuple", data := .seq its.toArray } } :=
      I1.laid (t' := s.toks) (fun b o e => Heap.get?_push_of_some _ e) (Nat.le_refl _) (show ObjOk X.prog X.w _ _ _ (.tup ys) from ⟨hz, its, r', IsTup.new _ _⟩)
    exact ⟨.ref h'.objs.size, _, I2, rfl, q _ (I1.hok.fresh (Nat.le_refl _))⟩
  · obtain ⟨its, r', pl, hz⟩ := I.tuple hq
    exact call_tuple_same pl ⟨.ref p, H, I, rfl, q⟩

/-! ### the call of a builtin's method: o.m(..) -/
/-- the value is of that builtin type -/
def tyV (K : PySem.W.Frag) (T : String) (x : V) (H : Hp) : Prop := match x with
  | .str _ => T = "str"
  | .int _ => T = "int"
  | .ref p => (T = "list" ∧ ∃ xs, SqL K H p xs) ∨ (T = "tuple" ∧ ∃ o, K.lookup p = some o ∧ o.cls = .type "tuple" ∧ o.dict = none) ∨
      (T = "dict" ∧ ((∃ kvs, H p = some (.dK kvs)) ∨ ∃ kvs, H p = some (.dT kvs))) ∨ (T = "set" ∧ ∃ S n, H p = some (.set S n))
  | _ => False
theorem tyV_is {pins : List (Addr × Obj)} {σ : St} {H : Hp} {s : Shared} {T : String} {x : V} {v : Value} (I : Inv X pins σ H s) (r : RelV x v) (ty : tyV X.K T x H) :
    s.TypeIs v T ∧ ∀ a, v = .ref a → ∃ ob, s.heap.get? a = some ob ∧ ob.dict = none := by
  cases x with
  | str z =>
    obtain ⟨t, rfl⟩ := r
    cases (show T = "str" from ty)
    exact ⟨typeIs_str s z t, fun _ e => nomatch e⟩
  | int i =>
    obtain ⟨t, rfl⟩ := r
    cases (show T = "int" from ty)
    exact ⟨typeIs_int s i t, fun _ e => nomatch e⟩
  | ref p =>
    cases r
    rcases ty with ⟨rfl, xs, hq⟩ | ⟨rfl, o, hk, hc, hd⟩ | ⟨rfl, hk⟩ | ⟨rfl, S, n, hk⟩
    · obtain ⟨its, _, pl, _⟩ := I.list hq
      refine ⟨pl.isList.typeIs, fun a e => ?_⟩
      cases e
      obtain ⟨o, n, e, c, hd, _⟩ := pl
      exact ⟨o, e, hd⟩
    · refine ⟨⟨o, I.kIn p o hk, hc⟩, fun a e => ?_⟩
      cases e
      exact ⟨o, I.kIn _ o hk, hd⟩
    · have z : ∃ o, s.heap.get? p = some o ∧ o.ExactDict := by
        rcases hk with ⟨kvs, hk⟩ | ⟨kvs, hk⟩
        · obtain ⟨_, _, _, _, o, _, _, e, ex, _⟩ := I.hok p _ hk
          exact ⟨o, e, ex⟩
        · obtain ⟨_, _, _, _, o, _, _, e, ex, _⟩ := I.hok p _ hk
          exact ⟨o, e, ex⟩
      obtain ⟨o, e, ex⟩ := z
      refine ⟨⟨o, e, ex.1⟩, fun a e2 => ?_⟩
      cases e2
      exact ⟨o, e, ex.2.1⟩
    · obtain ⟨o, _, _, _, e, ex, _⟩ := I.hok p _ hk
      refine ⟨⟨o, e, ex.1⟩, fun a e2 => ?_⟩
      cases e2
      exact ⟨o, e, ex.2.1⟩
  | _ => exact False.elim ty
def tBM0 (K : PySem.W.Frag) (T : String) (r : V → List V → Hp → VK → Prop) (to : TE) : TE := fun σ H Q => to σ H fun x H1 => tyV K T x H1 ∧ r x [] H1 Q
def tBM (K : PySem.W.Frag) (T : String) (r : V → List V → Hp → VK → Prop) (to : TE) (t : TA) : TE := fun σ H Q => to σ H fun x H1 => tyV K T x H1 ∧ t σ H1 fun xs H2 => r x xs H2 Q
variable {o e : Expr} {es : List Expr} {to : TE} {t : TA} {name : Str} {apos cpos : Pos} {T id : String} {r : V → List V → Hp → VK → Prop}
theorem pe_bm0 (pa : PlainAttrs T) (slot : Slot T name id) (hty : typeOf (.builtin id) = pure (.type "method_descriptor")) (hm : MtR X id r) (ho : PE X o to)
    (hbase : attributeBase o name X.env (eval o X.env) = eval o X.env := by rfl) (hline : (apos.endLine == cpos.line) = true := by rfl) : PE X (.Call (.Attribute o name apos) [] [] cpos) (tBM0 X.K T r to) := by
  intro pins s σ H Q I h
  refine wpAny_Call_method0_late hbase hline (thn (ho pins s σ H _ I h) fun v s1 ⟨x, H1, I1, r1, ty, q1⟩ => ?_)
  obtain ⟨h1, h2⟩ := tyV_is I1 r1 ty
  exact ⟨T, id, pa, slot, hty, h1, h2, Calls.callWith_builtin rfl (PySem.evalArgs_none (hm pins s1 σ H1 x [] v [] Q I1 r1 .nil q1))⟩
theorem pe_bm (pa : PlainAttrs T) (slot : Slot T name id) (hty : typeOf (.builtin id) = pure (.type "method_descriptor")) (hm : MtR X id r) (ho : PE X o to) (ha : PA X (e :: es) t)
    (hbase : attributeBase o name X.env (eval o X.env) = eval o X.env := by rfl)
    (hfew : ((backTo cpos (starEach (e :: es) X.env)).all (fun x => !x.1) && (backToKw cpos (keywordEach [] X.env)).all (fun x => x.1.isSome)
      && decide ((e :: es).length + ([] : List Keyword).length + (if ([] : List Keyword).isEmpty then 0 else 1) < 30)) = true := by rfl)
    (hline : (apos.endLine == cpos.line) = true := by rfl) (hs : starEach (e :: es) X.env = (false, eval e X.env) :: starEach es X.env := by rfl) (hplain : (backTo cpos (starEach es X.env)).any (·.1) = false := by rfl) :
    PE X (.Call (.Attribute o name apos) (e :: es) [] cpos) (tBM X.K T r to t) := by
  intro pins s σ H Q I h
  refine wpAny_Call_method_late hbase hfew hline rfl (thn (ho pins s σ H _ I h) fun v s1 ⟨x, H1, I1, r1, ty, q1⟩ => ?_)
  obtain ⟨h1, h2⟩ := tyV_is I1 r1 ty
  refine ⟨T, id, pa, slot, hty, h1, h2, ?_⟩
  have hA := ha cpos pins s1 σ H1 _ I1 q1
  rw [hs] at hA ⊢
  refine Calls.callWith_builtin (by show (false || (backTo cpos (starEach es X.env)).any (·.1)) = false; rw [hplain] <;> rfl) (Calls.evalArgs_plain ?_)
  exact thn hA fun us s2 ⟨vs, H2, I2, r2, q2⟩ => hm pins s2 σ H2 x vs v us Q I2 r1 r2 q2
/- xs.append(e), list.index on a module's tuple .. are MtR facts of 06m -/
end
end L2

namespace L2
open PySem PySem.Spec PyProof.Rows

def MtM (X : Cx) (id : String) (r : V → List V → Hp → VK → Prop) : Prop :=
  ∀ (pins : List (Addr × Obj)) (s : Shared) (σ : St) (H : Hp) (x : V) (xs : List V) (v : Value) (us : List Value) (Q : VK), Inv X pins σ H s → RelV x v → Vals xs us → r x xs H Q →
    wpAny (model X.prog X.w) X.A (call (.builtin id) (v :: us)) (EP X pins σ Q) X.xe s

/-! ### lists of values -/
theorem Vals.one : ∀ {x : V} {us : List Value}, Vals [x] us → ∃ u, us = [u] ∧ RelV x u
  | _, _, .cons r .nil => ⟨_, rfl, r⟩
theorem Vals.two : ∀ {x y : V} {us : List Value}, Vals [x, y] us → ∃ u v, us = [u, v] ∧ RelV x u ∧ RelV y v
  | _, _, _, .cons r (.cons q .nil) => ⟨_, _, rfl, r, q⟩
theorem Vals.zero : ∀ {us : List Value}, Vals [] us → us = []
  | _, .nil => rfl
theorem Vals.dropLast {xs : List V} {us : List Value} (h : Vals xs us) : Vals xs.dropLast us.dropLast := by
  induction h with
  | nil => exact .nil
  | cons r t ih =>
    cases t with
    | nil => exact .nil
    | cons q t' => exact .cons r ih
theorem Vals.eraseIdx : ∀ {xs : List V} {us : List Value} (i : Nat), Vals xs us → Vals (xs.eraseIdx i) (us.eraseIdx i)
  | _, _, _, .nil => .nil
  | _, _, 0, .cons _ t => t
  | _, _, i + 1, .cons r t => .cons r (Vals.eraseIdx i t)
theorem Vals.reverse {xs : List V} {us : List Value} (h : Vals xs us) : Vals xs.reverse us.reverse := by
  induction h with
  | nil => exact .nil
  | cons r t ih => rw [List.reverse_cons, List.reverse_cons]; exact Vals.append ih (.cons r .nil)
section
variable {X : Cx} {pins : List (Addr × Obj)} {σ : St} {H : Hp} {s : Shared} {l b : Addr} {xs ys zs : List V}

/-! ### the two steps: a tracked list is rewritten, a new list is laid -/
theorem Inv.lset {its its' : List Value} {n : Nat} {f : Array Value → Array Value} {t' : Nat} (I : Inv X pins σ H s) (hH : H l = some (.lst xs))
    (e : s.heap.get? l = some { cls := .type "list", data := .seq its.toArray n }) (hf : f its.toArray = its'.toArray) (hv : Vals ys its') (hz : ys.length ≤ sizeLine) :
    Inv X pins σ (upd H l (.lst ys)) { s with heap := s.heap.update l (Obj.mapSeq f), toks := t' } := by
  have q := PySem.IsL.update e f
  rw [hf] at q
  refine I.write (x := l) (e := l) (by rw [hH]; exact trivial) (.inl rfl) (fun b' u hb hu => (Heap.get?_update_other s.heap (Obj.mapSeq f) (Ne.symm hb)).trans hu) ⟨_, q⟩ ?_
  exact ⟨hz, its', _, hv, q⟩
theorem Inv.fresh (I : Inv X pins σ H s) : H s.heap.objs.size = none := I.hok.fresh (Nat.le_refl _)
theorem Inv.lstM (I : Inv X pins σ H s) (hH : H l = some (.lst xs)) : xs.length ≤ sizeLine ∧ ∃ (its : List Value) (n : Nat), Vals xs its ∧ xs.length = its.length ∧ s.heap.get? l = some { cls := .type "list", data := .seq its.toArray n } := by
  obtain ⟨z, its, n, r, e⟩ := I.hok l _ hH
  exact ⟨z, its, n, r, r.length, e⟩

end

section
variable {X : Cx}

/-! ### methods -/
def rAppend : V → List V → Hp → VK → Prop := fun x vs H Q => ∃ l xs y, x = .ref l ∧ vs = [y] ∧ H l = some (.lst xs) ∧ xs.length < sizeLine ∧ Q .non (upd H l (.lst (xs ++ [y])))
theorem mt_append : MtM X "list.append" rAppend := by
  intro pins s σ H x vs v us Q I rx rv h
  obtain ⟨l, xs, y, rfl, rfl, hH, hz, q⟩ := h
  cases rx
  obtain ⟨u, rfl, ru⟩ := rv.one
  obtain ⟨z, its, n, r, hl, e⟩ := I.lstM hH
  refine call_meets F.slot_list_append ⟨_, e, rfl⟩ F.entry_list_append (F.args_list_append_2 _ _) (PySem.list_append l its.toArray n u (by rw [List.size_toArray]; omega)) ⟨e, ?_⟩
  refine ⟨.non, _, I.lset (its' := its ++ [u]) hH e (by simp) (r.append (.cons ru .nil)) ?_, rfl, q⟩
  rw [List.length_append, List.length_singleton]
  omega

def rExtend : V → List V → Hp → VK → Prop := fun x vs H Q => ∃ l b xs zs, x = .ref l ∧ vs = [.ref b] ∧ H l = some (.lst xs) ∧ H b = some (.lst zs) ∧ xs.length + zs.length ≤ sizeLine ∧ Q .non (upd H l (.lst (xs ++ zs)))
def rPop : V → List V → Hp → VK → Prop := fun x vs H Q => ∃ l xs y, x = .ref l ∧ vs = [] ∧ H l = some (.lst xs) ∧ xs[xs.length - 1]? = some y ∧ Q y (upd H l (.lst xs.dropLast))
def rPopAt : V → List V → Hp → VK → Prop := fun x vs H Q => ∃ l xs i k y, x = .ref l ∧ vs = [.int i] ∧ H l = some (.lst xs) ∧ -(2 ^ 63) ≤ i ∧ i < 2 ^ 63 ∧ seqIndex? i xs.length = some k ∧ xs[k]? = some y ∧ Q y (upd H l (.lst (xs.eraseIdx k)))
def rReverse : V → List V → Hp → VK → Prop := fun x vs H Q => ∃ l xs, x = .ref l ∧ vs = [] ∧ H l = some (.lst xs) ∧ Q .non (upd H l (.lst xs.reverse))
def rClear : V → List V → Hp → VK → Prop := fun x vs H Q => ∃ l xs, x = .ref l ∧ vs = [] ∧ H l = some (.lst xs) ∧ Q .non (upd H l (.lst []))
theorem mt_clear : MtM X "list.clear" rClear := by
  intro pins s σ H x vs v us Q I rx rv h
  obtain ⟨l, xs, rfl, rfl, hH, q⟩ := h
  cases rx
  have hus := rv.zero
  subst hus
  obtain ⟨z, its, n, r, hl, e⟩ := I.lstM hH
  refine call_meets F.slot_list_clear ⟨_, e, rfl⟩ F.entry_list_clear (F.args_list_clear_1 _) (AutoSeq1.list_clear_list_0 l its.toArray n (by rw [List.size_toArray]; omega)) ⟨e, ?_⟩
  exact ⟨.non, _, I.lset (its' := []) (ys := []) hH e rfl .nil (Nat.zero_le _), rfl, q⟩

/-! ### list + list, list += list, list * int -/
def rCat : R2 := fun x y H Q => ∃ l b xs zs, x = .ref l ∧ y = .ref b ∧ H l = some (.lst xs) ∧ H b = some (.lst zs) ∧ xs.length + zs.length ≤ sizeLine ∧ ∀ p, H p = none → Q (.ref p) (upd H p (.lst (xs ++ zs)))
/-- a list times an int (a negative one is nothing) -/
def rRep : R2 := fun x y H Q => ∃ l k xs, x = .ref l ∧ y = .int k ∧ H l = some (.lst xs) ∧ -(2 ^ 63) ≤ k ∧ k < 2 ^ 63 ∧ xs.length * k.toNat ≤ sizeLine ∧
  ∀ p, H p = none → Q (.ref p) (upd H p (.lst (List.replicate k.toNat xs).flatten))
/-! ### del xs[i] -/
end

/-! ### xs[a:b] = ys -/
section
variable {prog : Program} {w : World} {A : Around} {E : Value → Shared → Prop} {s : Shared}
set_option maxRecDepth 100000 in
end

section
variable {X : Cx}
end
end L2

namespace Att
open PySem PySem.W PySem.Calls PyProof.Rows

/-! ### the script -/
theorem ints_of_wellAll {P : Params} {h : Heap} : ∀ (ns : List Int) (vs : List Value), WellAll P h vs (ns.map WData.int) → IntsAre vs ns := by
  intro ns
  induction ns with
  | nil =>
    intro vs w
    rw [List.map_nil] at w
    cases w
    exact .nil
  | cons n ns ih =>
    intro vs w
    rw [List.map_cons] at w
    cases w with
    | cons a b =>
      cases a
      exact .cons _ _ (ih _ b)

theorem script_of {l : OpenLaw} {n : Nat} (hn : l.most = some n) {P : Params} {h : Heap} {args : List WData} {vals : List Value}
    (hpre : l.row.toRowW.claim.pre args = true) (hwl : WellAll P h vals args) :
    ∃ a vs ns, vals = [Value.ref a] ∧ args = [WData.list (ns.map WData.int)] ∧ h.get? a = some { cls := .type "list", data := .seq vs.toArray } ∧ IntsAre vs ns ∧ ns.length ≤ n := by
  have hsh : WShape.hasAll [] args [.list .int] = true := (pre_splitW hpre).1
  have hc : l.pre.holds [] { args := args } = true := (pre_splitW hpre).2
  obtain ⟨d, r, rfl, h1, h2⟩ := hasAllW_cons hsh
  obtain rfl := hasAllW_nil h2
  obtain ⟨xs, rfl, h3⟩ := hasW_list h1
  obtain ⟨ns, rfl⟩ := items_int h3
  have hlen : ns.length ≤ n := by
    unfold OpenLaw.pre at hc
    have h4 : (WTm.not (.lt (.lit (.int (n : Int))) (.len (.arg 0)))).holds [] { args := [.list (ns.map .int)] } = true := by
      have h4 := (holds_andW hc).1
      rw [hn] at h4
      exact h4
    have h5 := condW_of h4 (w_not (w_lt w_lit (w_len_list (w_arg rfl))))
    rw [List.length_map] at h5
    refine Nat.le_of_not_lt fun q => ?_
    have q' : (n : Int) < ((ns.length : Nat) : Int) := by omega
    first
      | (rw [decide_eq_true q'] at h5; exact absurd h5 (by decide))
      | (simp at h5; omega)
  cases hwl with
  | cons w1 w2 =>
    cases w2
    cases w1 with
    | list ho hall => exact ⟨_, _, ns, rfl, rfl, ho, ints_of_wellAll ns _ hall, hlen⟩

theorem post_true (l : OpenLaw) (args : List WData) : l.row.toRowW.claim.post args (.bool true) args = true :=
  postW_of (r := l.row.toRowW) (X := (true == true))
    (show WShape.has [] (.bool true) .bool = true by first | rfl | decide | simp [WShape.has, WShape.arms, WShape.armsAll])
    (show (WTm.eq .res (.lit (.bool true))).value [] { args := args, res := some (.bool true), after := args } = some (.bool (true == true)) from w_eq_bool (w_res rfl) w_lit) rfl

/-! ### the attachment: holds_open's last premise (the goal 'hc' behind k_head) from a wpAny of the law's body -/
/-- the same from a codeAny of the CALL (for a layer whose function contracts speak of calls) -/
theorem attach_call {l : OpenLaw} {n : Nat} {q : Program} {loose : List Str} {XP : (Str → Option Value) → Heap → Prop} {YP : World → Heap → Prop} {d : DefRec}
    (hn : l.most = some n) (hdf : d.params.defaults = [])
    (call : ∀ (w : World) (s₀ s₁ : Shared) (mg mb : Str → Option Value) (fa : Addr) (o : Obj) (pm cd doc : Value) (a : Addr) (vs : List Value) (ns : List Int),
      Ground q loose [] XP w s₀ mg mb s₁.heap → YP w s₁.heap →
      s₁.heap.get? fa = some o → o.data = .func (docDef d.name d.params d.body d.scope pm cd doc) → s₁.heap.CodeRec cd d.name → mg d.name = some (.ref fa) →
      s₁.heap.get? a = some { cls := .type "list", data := .seq vs.toArray } → IntsAre vs ns → ns.length ≤ n → s₁.gens = #[] →
      codeAny (model l.prog w) callerA (.call (.ref fa) ⟨[.ref a], []⟩) (fun r s' => r = .ok (.ret (.bool true)) ∧ OldK s₁.heap s'.heap ∧ s'.os = s₁.os ∧ AllBare s'.gens) s₁) :
    WalkO q loose XP YP l.row.toRowW d [] (fun f vs => PySem.call f vs) := by
  intro w s₀ s₁ mg mb G Y fa o pm cd doc dV kV ho hd hcd hD hmg hg args vals as hpre hlay hrd hwl hlo
  obtain rfl : dV = .none := Dflts.none hD hdf
  obtain rfl : kV = .none := Dflts.noKw hD
  obtain ⟨a, vs, ns, rfl, rfl, hobj, hints, hlen⟩ := script_of hn hpre hwl
  refine enter_call (codeAny_mono (call w s₀ s₁ mg mb fa o pm cd doc a vs ns G Y ho (fd_plain hd) hcd hmg hobj hints hlen hg) fun r s' hq => ?_)
  obtain ⟨rfl, h2, h3, h4⟩ := hq
  exact ⟨.inl ⟨.bool true, .bool true, [], rfl, fun _ => rfl, .bool true, post_true l _, fun _ => ⟨List.Pairwise.nil, fun _ hm => (nomatch hm)⟩⟩, h2, h3, h4⟩

/-! ### rules over ANY heap (no ledger) from facts about the written part K: the library's own take a ledger (News) for what they write -/
section
variable {prog : Program} {w : World} {A : Around} {E : Value → Shared → Prop} {s : Shared} {K : Frag}

/-! the whole heap as the ledger: makes every rule that writes through a ledger a rule over any heap -/
def noObjs (h : Heap) : Heap := { h with objs := #[] }
def ledger (h : Heap) (L d : Addr) : List (Addr × Obj) := (List.range h.objs.size).filterMap fun a => if a = L ∨ a = d then none else (h.get? a).map fun o => (a, o)
end
end Att

namespace L2
open PySem PySem.Spec PyProof.Rows

theorem vals_ints : ∀ {vs : List Value} {ns : List Int}, IntsAre vs ns → Vals (ns.map V.int) vs
  | _, _, .nil => .nil
  | _, _, .cons n t h => .cons ⟨t, rfl⟩ (vals_ints h)

/-- nothing is tracked but the script, known to the object (or it is an object of the module) -/
def Only (H : Hp) : Prop := ∀ b, H b = none ∨ ∃ o xs, H b = some (.frz o (.lst xs))

/-- THE HEAD: the law's promise, at the heap behind the top. F, the promise of the law's def, may use that base is part of the heap (so K.In base, base.Ns mainGlobals mg stand in Mod) -/
theorem law_call {P : Program} {w : World} {K : PySem.W.Frag} {mg mb : Str → Option Value} {CX : CXT} {k : Nat} {fa a : Addr} {fd : FuncData} {x : Str} {sp : Sp} {s₁ : Shared} {vs : List Value} {ns : List Int}
    (KX : K.In s₁.heap) (hns : s₁.heap.Ns mainGlobals mg) (hb : s₁.heap.Ns builtinsNs mb) (hbb : ∀ x : Str, x ≠ "__name__" → mb x = bootBuiltins x) (hlim : s₁.heap.NoLimit) (hg : s₁.gens = #[])
    (ha : s₁.heap.get? a = some { cls := .type "list", data := .seq vs.toArray }) (hi : IntsAre vs ns) (hl : ns.length ≤ sizeLine) (hr : Room k callerA)
    (F : ∀ base : Heap, K.In base → base.Ns mainGlobals mg → FnOk P w K mg base CX k fa fd [x] sp) (hbind : ∀ (s : Shared) (u : Value), BindsTo s fd ⟨[u], []⟩ [(x, u)])
    (hsp : ∀ H : Hp, Only H → SqL K H a (ns.map V.int) → sp [.ref a] H (fun v _ => v = .bl true) fun _ _ _ => False)
    (hCX : ∀ H e s', CX [] H s₁ (fun _ _ _ => False) e s' → False) :
    codeAny (model P w) callerA (.call (.ref fa) ⟨[.ref a], []⟩) (fun r s' => r = .ok (.ret (.bool true)) ∧ OldK s₁.heap s'.heap ∧ s'.os = s₁.os ∧ AllBare s'.gens) s₁ := by
  have rv := vals_ints hi
  have lenV := hi.length
  -- from an abstract heap in which nothing but the script may be tracked
  have core : ∀ H : Hp, Only H → SqL K H a (ns.map V.int) → HOk P w H s₁.heap → (∀ b, H b ≠ none → b = a) → (H a ≠ none → K.lookup a = none) →
      codeAny (model P w) callerA (.call (.ref fa) ⟨[.ref a], []⟩) (fun r s' => r = .ok (.ret (.bool true)) ∧ OldK s₁.heap s'.heap ∧ s'.os = s₁.os ∧ AllBare s'.gens) s₁ := by
    intro H hO hS hok hA hK
    have base_of : ∀ {b : Addr} {o : Obj}, s₁.heap.get? b = some o → H b = none → (hidT s₁.heap H).get? b = some o := fun e n => hidT_get e n
    have noA : ∀ {b : Addr} {o : Obj} {es : Array DictEntry} {ep : Nat}, s₁.heap.get? b = some o → o.data = .dict es ep → H b = none := fun {b o es ep} e d => by
      cases q : H b with
      | none => rfl
      | some u =>
        have e' : b = a := hA b (by rw [q]; simp)
        subst e'
        rw [ha] at e; cases e
        have d' : Data.seq vs.toArray _ = Data.dict es ep := d
        cases d'
    have nsK : ∀ {b : Addr} {m : Str → Option Value}, s₁.heap.Ns b m → (hidT s₁.heap H).Ns b m := fun {b m} ⟨o, es, ep, e, d, r⟩ => ⟨o, es, ep, base_of e (noA e d), d, r⟩
    have hKb : K.In (hidT s₁.heap H) := fun b o e => base_of (KX b o e) (by
      cases q : H b with
      | none => rfl
      | some u =>
        have e' : b = a := hA b (by rw [q]; simp)
        subst e'
        rw [hK (by rw [q]; simp)] at e; cases e)
    have hM : Mod K mg (hidT s₁.heap H) := ⟨hKb, nsK hns, ⟨mb, nsK hb, hbb⟩, let ⟨mc, h1, h2⟩ := hlim; ⟨mc, nsK h1, h2⟩⟩
    have e0 : Env0 P w K mg (hidT s₁.heap H) callerA [] s₁ H := ⟨rfl, hM, fun b o e => of_hidT e, Nat.le_of_eq (hidT_size _ _), trivial, fun b hb => absurd (show b ∈ ([] : List Addr) from hb) (by simp), hok, .of_eq hg⟩
    refine codeAny_mono ((F _ hKb (nsK hns)).run callerA [] s₁ H ⟨[.ref a], []⟩ [.ref a] [.ref a] _ _ hr e0 (hbind s₁ (.ref a)) (.cons rfl .nil) (hsp H hO hS)) fun r s' h => ?_
    cases r with
    | error e => exact (hCX H e s' h).elim
    | ok fl =>
      cases fl with
      | next => exact False.elim h
      | brk => exact False.elim h
      | cont => exact False.elim h
      | ret u =>
        obtain ⟨v, H', os, bare, un, hok', r', q⟩ := h
        have q' : v = .bl true := q
        subst q'
        obtain rfl : u = Value.bool true := r'
        refine ⟨rfl, OldK.of_keep fun b o e => ?_, os, bare⟩
        cases q : H b with
        | none => exact un.keep b o e q (by intro z; exact absurd (show b ∈ ([] : List Addr) from z) (by simp)) (by simp)
        | some u =>
          rcases hO b with z | ⟨ob, xs, z⟩
          · rw [q] at z; cases z
          · have z2 := un.frzs b ob _ z
            obtain ⟨e1, _⟩ := hok b _ z
            obtain ⟨e2, _⟩ := hok' b _ z2
            rw [e] at e1; cases e1
            exact e2
  cases hk : K.lookup a with
  | some o =>
    -- the script is one of the module's own objects
    have e := KX a o hk
    rw [ha] at e
    cases e
    refine core (fun _ => none) (fun _ => .inl rfl) (.inr ⟨_, vs.toArray, _, hk, rfl, rfl, rfl, by rw [List.size_toArray, lenV]; exact hl, by simpa using rv⟩) (fun b u z => by have z' : (none : Option HO) = some u := z; cases z') (fun b z => absurd rfl z) fun z => absurd rfl z
  | none =>
    refine core (fun b => if b = a then some (.frz { cls := .type "list", data := .seq vs.toArray } (.lst (ns.map V.int))) else none) (fun b => ?_) (.inl (.inr ⟨{ cls := .type "list", data := .seq vs.toArray }, if_pos rfl⟩)) (fun b u z => ?_) (fun b z => ?_) fun _ => hk
    · by_cases hb : b = a
      · exact .inr ⟨_, _, if_pos hb⟩
      · exact .inl (if_neg hb)
    · by_cases hb : b = a
      · have z' := (if_pos hb).symm.trans z
        cases z'
        subst hb
        exact ⟨ha, by rw [List.length_map]; exact hl, vs, _, rv, ha⟩
      · have z' := (if_neg hb).symm.trans z
        cases z'
    · by_cases hb : b = a
      · exact hb
      · exact absurd (if_neg hb) z
end L2

namespace L2
open PySem PySem.Spec PyProof.Rows

abbrev KOf {K : PySem.W.Frag} {h : Heap} (_ : K.In h) : PySem.W.Frag := K

/-- the goal that k_head leaves (case hc), from the law's promise. F gives the function object fd (K's own) once, then the promise over every base -/
theorem walk_of {l : PySem.W.OpenLaw} {n k : Nat} {q : Program} {loose : List Str} {XP : (Str → Option Value) → Heap → Prop} {YP : World → Heap → Prop} {d : DefRec} {K : Params → PySem.W.Frag} {CX : World → CXT} {sp : World → Sp} {x : Str}
    (hn : l.most = some n) (hn2 : n ≤ sizeLine) (hdf : d.params.defaults = []) (hr : Room k callerA)
    (hY : ∀ (w : World) (h : Heap), YP w h → (K w.params).In h)
    (F : ∀ (w : World) (mg : Str → Option Value) (fa : Addr) (h : Heap), (K w.params).In h → h.Ns mainGlobals mg → mg d.name = some (.ref fa) →
      ∃ fd : FuncData, (∀ (s : Shared) (u : Value), BindsTo s fd ⟨[u], []⟩ [(x, u)]) ∧
        ∀ base : Heap, (K w.params).In base → base.Ns mainGlobals mg → FnOk l.prog w (K w.params) mg base (CX w) k fa fd [x] (sp w))
    (hsp : ∀ (w : World) (H : Hp) (a : Addr) (ns : List Int), ns.length ≤ n → Only H → SqL (K w.params) H a (ns.map V.int) → sp w [.ref a] H (fun v _ => v = .bl true) fun _ _ _ => False)
    (hCX : ∀ (w : World) (H : Hp) (s : Shared) (e : Value) (s' : Shared), CX w [] H s (fun _ _ _ => False) e s' → False) :
    PySem.W.WalkO q loose XP YP l.row.toRowW d [] (fun f vs => PySem.call f vs) := by
  refine Att.attach_call hn hdf fun w s₀ s₁ mg mb fa o pm cd doc a vs ns G Y ho hd hcd hmg hobj hints hlen hg => ?_
  have KX := hY w _ Y
  obtain ⟨fd, hb, hF⟩ := F w mg fa _ KX G.T.g hmg
  exact law_call KX G.T.g G.T.b G.T.builtins G.T.nolimit hg hobj hints (Nat.le_trans hlen hn2) hr hF hb (fun H hO hS => hsp w H a ns hlen hO hS) fun H e s' => hCX w H s₁ e s'
end L2

/- THE LAST THEOREM (shape; LID, My.* are yours):
   My.Adr: a structure of the addresses that your layer names (classes, functions); My.Txt K t: a structure (Prop) of the equations over K;
   My.txt_mk : {K} {implicit addresses ..} (e1 : nsIn K mainGlobals "law" = some (some (.ref f))) (e2 : K.lookup f = some ⟨oc, od, .func (fnOf "law" "law" params body scope dV kV doc pm an cdv ct), sl⟩) (e3 : codeIn K cdv "law" = true) .. : ∃ t, My.Txt K t

set_option maxRecDepth 100000 in
set_option maxHeartbeats 0 in
theorem PySem.Challenge.cw_LID_holds : PySem.Challenge.rw_LID.Holds := by
  w_on; o_law; k_head; (case hw => w_witness2)
  k_fill
  refine L2.walk_of (l := PySem.Challenge.rw_LID) (n := 63) (k := 40) (x := "script") (CX := fun w => ..) (sp := fun _ => My.sp_law) rfl (by decide) rfl ⟨rfl, by decide, by decide⟩ (fun w h Y => PySem.W.kIn_of Y) ?F ?S ?C
  case F =>
    intro w mg fa h KX G hmg
    have T : ∃ t, My.Txt (L2.KOf KX) t := by
      dsimp only [L2.KOf]                          -- K must stand as «<heap const> w.params» for k_is
      refine' My.txt_mk ?e1 ?e2 ?e3 ..
      (case e1 => PySem.W.k_is)                    -- in the order: a name -> its address -> its object -> its parts
      (case e2 => PySem.W.k_is)
      ..
    obtain ⟨t, T⟩ := T
    have e0 := hmg.symm.trans (PySem.W.mg_of KX G T.law)
    cases e0                                       -- fa is the law's own address
    exact ⟨_, fun s u => .of_eq rfl, fun base kb nb => My.law_fn T kb nb⟩     -- if «.of_eq rfl» comes too early: refine' ⟨_, ?b, fun base kb nb => My.law_fn T kb nb⟩; exact fun s u => .of_eq rfl
  case S => exact fun w H a ns hl hO hS => ..
  case C => exact ..
(the tactic k_is has no namespace: write k_is) -/

/-! SHORT WORDS over the layer: a def of the text, its body, what a loop and a test want. -/
namespace L2
open PySem PySem.Spec PyProof.Rows

/-! ### the text by places -/
/-- the j-th statement of a class's body -/
def inClass (s : Stmt) (j : Nat) : Stmt := match s with
  | .ClassDef _ _ _ body _ _ _ _ _ _ _ => body.getD j (.Pass ⟨0, 0, 0, 0⟩)
  | _ => .Pass ⟨0, 0, 0, 0⟩
def defArgs (s : Stmt) : Arguments := match s with
  | .FunctionDef _ a _ _ _ _ _ _ _ _ => a
  | _ => { posonlyargs := [], args := [], vararg := none, kwonlyargs := [], kw_defaults := [], kwarg := none, defaults := [] }
def defBody (s : Stmt) : List Stmt := match s with
  | .FunctionDef _ _ b _ _ _ _ _ _ _ => b
  | _ => []
def defScope (s : Stmt) : Scope := match s with
  | .FunctionDef _ _ _ _ _ _ sc _ _ _ => sc
  | _ => { kind := .function, names := [], isGenerator := false, isCoroutine := false }

/-! ### no exception leaves a def -/
abbrev CX0 : CXT := fun _ _ _ _ _ _ => False
abbrev E0 : XK := fun _ _ _ => False
theorem pass0 {X : Cx} : Passes CX0 X E0 := fun _ _ _ _ _ _ _ h => h.elim

/-! ### a def (or method) of the text as it stands behind the top -/
structure Fun (K : PySem.W.Frag) (x qual : Str) (st : Stmt) (f : Addr) (fd : FuncData) : Prop where
  ex : ∃ (oc : Value) (od : Option Addr) (kV doc pm : Value) (an : Option Addr) (cdv ct : Value) (osl : Array (Option Value)),
    fd = PySem.W.fnOf x qual (defArgs st) (defBody st) (defScope st) .none kV doc pm an cdv ct ∧ K.lookup f = some ⟨oc, od, .func fd, osl⟩ ∧ PySem.W.codeIn K cdv qual = true
  kp : PySem.W.keepIn K (.ref f) = true
section
variable {P : Program} {w : World} {K : PySem.W.Frag} {mg : Str → Option Value} {base : Heap}
/-- THE RULE for a def: its body as a term of rules, and the reading of that term -/
theorem Fun.ok {x qual : Str} {st : Stmt} {f : Addr} {fd : FuncData} {N ps : List Str} {k : Nat} {sp : Sp} (F : Fun K x qual st f fd) (S : FnScope N ps (defScope st)) (len : ∀ vs H Q E, sp vs H Q E → vs.length = ps.length)
    (hbody : ∀ (cdv : Value) (A : Around) (outer : List Env) (s : Shared) (H : Hp) (vs : List V) (Q : VK) (E : XK), Room k (A.deeper (envOfC qual (defScope st) s.heap.objs.size f cdv)) → sp vs H Q E →
      ∃ t, PSs (cxOf CX0 P w K mg base N qual (defScope st) f cdv A outer s H E).nox (defBody st) t ∧ t { nx := fun _ H' => Q .non H', rt := Q } (start N vs) H) : FnOk P w K mg base CX0 (k + 1) f fd ps sp := by
  obtain ⟨oc, od, kV, doc, pm, an, cdv, ct, osl, rfl, lk, hcd⟩ := F.ex
  refine fn_of lk hcd S len fun A outer s H vs Q E hr hsp => ?_
  obtain ⟨t, h, q⟩ := hbody cdv A outer s H vs Q E hr hsp
  exact ⟨t, h.nox, q⟩
/-- how its arguments bind (no defaults): h is «fun _ _ _ _ _ _ us hl => match us, hl with | [_, _], _ => rfl», one _ a parameter -/
theorem Fun.binds {x qual : Str} {st : Stmt} {f : Addr} {fd : FuncData} {ps : List Str} (F : Fun K x qual st f fd)
    (h : ∀ (kV doc pm : Value) (an : Option Addr) (cdv ct : Value) (us : List Value), us.length = ps.length → bindArgs (PySem.W.fnOf x qual (defArgs st) (defBody st) (defScope st) .none kV doc pm an cdv ct) ⟨us, []⟩ = pure (ps.zip us)) : Binds K fd ps [] := by
  obtain ⟨oc, od, kV, doc, pm, an, cdv, ct, osl, rfl, lk, hcd⟩ := F.ex
  exact .all (h kV doc pm an cdv ct)
theorem fun_mk {x qual : Str} {st : Stmt} {f : Addr} {oc : Value} {od an : Option Addr} {osl : Array (Option Value)} {kV doc pm cdv ct : Value} (l : K.lookup f = some ⟨oc, od, .func (PySem.W.fnOf x qual (defArgs st) (defBody st) (defScope st) .none kV doc pm an cdv ct), osl⟩)
    (c : PySem.W.codeIn K cdv qual = true) (k : PySem.W.keepIn K (.ref f) = true) : Fun K x qual st f (PySem.W.fnOf x qual (defArgs st) (defBody st) (defScope st) .none kV doc pm an cdv ct) := ⟨⟨oc, od, kV, doc, pm, an, cdv, ct, osl, rfl, l, c⟩, k⟩
end
theorem small1000 {n : Nat} (h : n ≤ 1000) : n < sizeLine := Nat.lt_of_le_of_lt h (by decide)

/-! ### expressions in short: the name that stands in the i-th slot -/
section
variable {X : Cx}
theorem pv (i : Nat) {x : Str} {pos : Pos} (hN : X.N[i]? = some x := by rfl) (hv : Vis X.env.scope x := by first | exact Or.inl rfl | exact Or.inr (Or.inl rfl) | exact Or.inr (Or.inr rfl)) (hd : (x == ("__debug__" : Str)) = false := by decide)
    (hcd : (x == ("__classdict__" : Str)) = false := by decide) : PE X (.Name x pos) (tVar i) := pe_var hN hv hd hcd
end

/-! ### tests -/
theorem iteF {A B : Prop} (h : B) : if false = true then A else B := by
  rw [if_neg Bool.false_ne_true]
  exact h
theorem iteT {A B : Prop} (h : A) : if true = true then A else B := by
  rw [if_pos rfl]
  exact h
theorem ite2 {c A B : Prop} [Decidable c] (h1 : c → A) (h2 : ¬ c → B) : if c then A else B := by
  by_cases h : c
  · rw [if_pos h]
    exact h1 h
  · rw [if_neg h]
    exact h2 h
/-! ### heaps -/
/-- all that was tracked is as it was -/
def Same (H H' : Hp) : Prop := ∀ b o, H b = some o → H' b = some o
theorem Same.refl (H : Hp) : Same H H := fun _ _ h => h
theorem Same.trans {H H1 H2 : Hp} (a : Same H H1) (b : Same H1 H2) : Same H H2 := fun c o h => b c o (a c o h)
theorem Same.free {H H' : Hp} (e : Same H H') {l : Addr} (h : H' l = Option.none) : H l = Option.none := by
  cases q : H l with
  | none => rfl
  | some o =>
    rw [e l o q] at h
    cases h
theorem Same.seq {K : PySem.W.Frag} {H H' : Hp} {a : Addr} {xs : List V} (e : Same H H') (h : SqL K H a xs) : SqL K H' a xs := by
  rcases h with (h | ⟨o, h⟩) | h
  · exact .inl (.inl (e _ _ h))
  · exact .inl (.inr ⟨o, e _ _ h⟩)
  · exact .inr h

/-! ### a dict's pairs: keys that differ -/
section
variable {κ : Type} [DecidableEq κ]
end
end L2

set_option Elab.async false
set_option linter.all false
set_option maxRecDepth 100000
set_option maxHeartbeats 4000000
namespace L2
open PySem PySem.Spec PyProof.Rows

/-- an object that stood untracked is tracked -/
theorem HOk.track {P : Program} {w : World} {H : Hp} {h : Heap} {a : Addr} {o : HO} (x : HOk P w H h) (hn : H a = none) (new : ObjOk P w (upd H a o) h a o) : HOk P w (upd H a o) h := fun b u e => by
  by_cases hb : b = a
  · subst hb; rw [upd_same] at e; cases e; exact new
  · rw [upd_ne hb] at e
    exact (x b u e).stay (fun c v _ q => q) (fun c q => by rw [upd_ne (ne_of_none q hn)]; exact q) fun c xs q => by rw [upd_ne (ne_of_none q hn)]; exact q
/-- an untracked object is changed -/
theorem HOk.other {P : Program} {w : World} {H : Hp} {h h' : Heap} {a : Addr} (x : HOk P w H h) (hn : H a = none) (hs : Heap.SameBut a h h') : HOk P w H h' := fun b u e =>
  (x b u e).stay (fun c v hc q => (hs.2 c (by
    rintro rfl
    rcases hc with rfl | hc
    · rw [hn] at e; cases e
    · rw [hn] at hc; cases hc)).trans q) (fun _ q => q) fun _ _ q => q

section
variable {prog : Program} {w : World} {A : Around} {R : Result → Shared → Prop} {s : Shared}
theorem comp_loop {elt target iter : Expr} {ifs : List Expr} {scope : Scope} {pos : Pos} {it acc : Value} {env : Env} (I : Nat → Shared → Prop)
    (turn : ∀ n s, I n s → wpAny (model prog w) A (pyNext it) (fun r s₁ => match r with
      | none => R (.ok .next) s₁
      | some v => wpAny (model prog w) A (letOwnedTupleGo target it v) (fun _ s₀ => wpAny (model prog w) A (assign target env v) (fun _ s₂ =>
          wpAny (model prog w) A (forIn ifs true fun c r => if r = true then do let ok ← isTrue c env (eval c env); pure (ForInStep.yield ok) else pure (ForInStep.yield r)) (fun ok s₃ =>
            if ok = true then wpAny (model prog w) A (eval elt env) (fun x s₄ =>
              wpAny (model prog w) A (call (.builtin "list.append") [acc, x]) (fun _ s₅ => ∃ m, m < n ∧ I m s₅) (notedBy (model prog w) A env fun e s' => R (.error e) s') s₄) (notedBy (model prog w) A env fun e s' => R (.error e) s') s₃
            else ∃ m, m < n ∧ I m s₃) (notedBy (model prog w) A env fun e s' => R (.error e) s') s₂) (notedBy (model prog w) A env fun e s' => R (.error e) s') s₀) (notedBy (model prog w) A env fun e s' => R (.error e) s') s₁) (notedBy (model prog w) A env fun e s' => R (.error e) s') s)
    (n : Nat) (h : I n s) : codeAny (model prog w) A (.compLoop (.ListComp elt [⟨target, iter, ifs, 0⟩] scope pos) 0 it acc env) R s := by
  refine codeAny_loop rfl I (fun n s hI => ?_) n h
  show wpAny _ A ((compTurn (.ListComp elt [⟨target, iter, ifs, 0⟩] scope pos) 0 it acc env).onRaise (fun x => do noteFrame x env; theTreesLotGoes x)) _ _ s
  refine wpAny_noted ?_
  rw [compTurn_list]
  refine wpAny_bind (wpAny_standAt (wpAny_bind (wpAny_mono (turn n s hI) (fun r s₁ h₁ => ?_) fun _ _ h' => h')))
  cases r with
  | none => exact wpAny_pure h₁
  | some v =>
    refine wpAny_bind (wpAny_mono h₁ (fun _ s₀ h₀ => ?_) fun _ _ h' => h')
    refine wpAny_bind (wpAny_mono h₀ (fun _ s₂ h₂ => wpAny_bind (wpAny_mono h₂ (fun ok s₃ h₃ => ?_) fun _ _ h' => h')) fun _ _ h' => h')
    cases ok with
    | false => exact wpAny_pure ⟨rfl, h₃⟩
    | true =>
      exact wpAny_bind (wpAny_bind (wpAny_mono h₃ (fun x s₄ h₄ => wpAny_bind (wpAny_mono h₄ (fun _ s₅ h₅ => wpAny_pure (wpAny_pure ⟨rfl, h₅⟩)) fun _ _ h' => h')) fun _ _ h' => h'))
end

/-! ### a comprehension's block -/
def cxComp (X : Cx) (scope : Scope) (cl : List (Str × Addr)) (NY : List Str) (C : Addr) (s : Shared) (H : Hp) (fp : List Addr) : Cx where
  prog := X.prog
  w := X.w
  K := X.K
  mg := X.mg
  base := X.base
  A := X.A
  N := NY
  s₀ := s
  H₀ := H
  env := compEnvC scope cl C X.env
  outer := X.stack
  stack := X.stack
  ex := fp
  fn := fun _ => false
  calm := true
  pn := []
  xe := notedBy (model X.prog X.w) X.A (compEnvC scope cl C X.env) fun e s' => compPost (model X.prog X.w) X.A X.xe none (fun _ _ => False) .none C (.error e) s'
def ClOk : List (Str × Addr) → List (Str × Addr) → Prop
  | [], _ => True
  | p :: r, cells => cells.lookup p.1 = some p.2 ∧ ClOk r cells
theorem ClOk.mem : ∀ {cl cells : List (Str × Addr)}, ClOk cl cells → ∀ {x : Str} {c : Addr}, cl.lookup x = some c → cells.lookup x = some c
  | [], _, _, _, _, e => by simp at e
  | (y, d) :: r, cells, h, x, c, e => by
    rw [List.lookup_cons] at e
    split at e
    · rename_i q
      have q' : x = y := by simpa using q
      subst q'
      cases e
      exact h.1
    · exact ClOk.mem h.2 e
def FrOk (X : Cx) (scope : Scope) (cl : List (Str × Addr)) : List Nat → List Str → Prop
  | [], [] => True
  | i :: r, y :: ys => (X.N[i]? = some y ∧ scope.names.lookup y = some .free ∧ Vis X.env.scope y ∧ X.env.kindOf y ≠ some .local ∧ ∃ c, cl.lookup y = some c) ∧ FrOk X scope cl r ys
  | _, _ => False
def PIfs (X : Cx) (ifs : List Expr) (t : TT) : Prop :=
  ∀ (pins : List (Addr × Obj)) (s : Shared) (σ : St) (H : Hp) (Q : Bool → Hp → Prop), Inv X pins σ H s → t σ H Q →
    wpAny (model X.prog X.w) X.A (forIn ifs true fun c r => if r = true then do let ok ← isTrue c X.env (eval c X.env); pure (ForInStep.yield ok) else pure (ForInStep.yield r)) (TP X pins σ Q) X.xe s
theorem pifs_nil {X : Cx} : PIfs X [] (fun _ H Q => Q true H) := fun _ _ _ H _ I h => wpAny_tests_nil ⟨H, I, h⟩
/-- the names' values in the block: the walked one, those of the frame that it reads -/
def frees (fr : List Nat) (σ : St) : St := fr.map fun k => (σ[k]?).join
def tLComp (fr : List Nat) (wi : TI) (tt : TT) (te : TE) : TE := fun σ H Q => wi σ H fun J H1 => ∃ W : Nat → Nat → List V → Hp → Prop, (∃ m, W 0 m [] H1) ∧ ∀ i m vs H, W i m vs H → vs.length ≤ sizeLine ∧
  ((J.stop i H ∧ ∀ D, H D = none → Q (.ref D) (upd H D (.lst vs))) ∨
   (J.go i H ∧ ∀ v H', J.yld i H v H' → tt (some v :: frees fr σ) H' fun b H2 => if b = true then te (some v :: frees fr σ) H2 fun y H3 => ∃ m', m' < m ∧ W (i + 1) m' (vs ++ [y]) H3 else ∃ m', m' < m ∧ W (i + 1) m' vs H2))

def relF (env : Env) (p : Str × NameKind) : Str × NameKind := if (p.2 == NameKind.free && env.scope.kind == .function && env.kindOf p.1 == some .cell) = true then (p.1, NameKind.cell) else (p.1, p.2)
theorem relF_fst (env : Env) (p : Str × NameKind) : (relF env p).1 = p.1 := by unfold relF; split <;> rfl
theorem lookup_relF {env : Env} : ∀ {names : List (Str × NameKind)} {x : Str}, (names.map (relF env)).lookup x = (names.lookup x).map fun k => (relF env (x, k)).2
  | [], _ => rfl
  | (n, k) :: r, x => by
    have ih := @lookup_relF env r x
    rw [List.map_cons]
    have e : relF env (n, k) = (n, (relF env (n, k)).2) := Prod.ext (relF_fst env (n, k)) rfl
    rw [e]
    cases hx : x == n with
    | true =>
      have q' : x = n := by simpa using hx
      subst q'
      simp only [List.lookup_cons, hx, Option.map_some]
    | false => simp only [List.lookup_cons, hx]; exact ih
theorem lookup_relabel_free {env : Env} {names : List (Str × NameKind)} {x : Str} (h : names.lookup x = some .free) :
    (names.map (relF env)).lookup x = some .cell ∨ (names.map (relF env)).lookup x = some .free := by
  rw [lookup_relF, h, Option.map_some]
  unfold relF
  split
  · exact .inl rfl
  · exact .inr rfl
theorem lookup_relabel_inv {env : Env} {names : List (Str × NameKind)} {x : Str} (hn : ∀ y ∈ names, y.2 ≠ .cell) (h : (names.map (relF env)).lookup x = some .cell ∨ (names.map (relF env)).lookup x = some .free) : (x, NameKind.free) ∈ names := by
  rw [lookup_relF] at h
  cases q : names.lookup x with
  | none => rw [q] at h; simp at h
  | some k =>
    rw [q] at h
    have hm := PySem.mem_of_lookup q
    have hk : k = .free := by
      unfold relF at h
      simp only [Option.map_some, Option.some.injEq] at h
      split at h
      · rename_i c
        simp only [Bool.and_eq_true] at c
        simpa using c.1.1
      · rcases h with h | h
        · exact absurd h (hn _ hm)
        · exact h
    rw [← hk]
    exact hm

theorem frees_get {X : Cx} {scope : Scope} {cl : List (Str × Addr)} {σ : St} : ∀ {fr : List Nat} {ys : List Str}, FrOk X scope cl fr ys → ∀ (j : Nat) (y : Str) (v : V), ys[j]? = some y → (frees fr σ)[j]? = some (some v) →
    ∃ i : Nat, X.N[i]? = some y ∧ σ[i]? = some (some v) ∧ scope.names.lookup y = some .free ∧ Vis X.env.scope y ∧ X.env.kindOf y ≠ some .local ∧ ∃ c, cl.lookup y = some c
  | [], [], _, j, y, v, e, _ => by simp at e
  | [], _ :: _, h, _, _, _, _, _ => h.elim
  | _ :: _, [], h, _, _, _, _, _ => h.elim
  | i :: r, z :: ys, h, 0, y, v, e1, e2 => by
    have e1' : z = y := by simpa using e1
    subst e1'
    have e2' : (σ[i]?).join = some v := by simpa [frees] using e2
    have : σ[i]? = some (some v) := by
      cases q : σ[i]? with
      | none => rw [q] at e2'; cases e2'
      | some o => rw [q] at e2'; cases o with
        | none => cases e2'
        | some u => cases e2'; rfl
    exact ⟨i, h.1.1, this, h.1.2.1, h.1.2.2.1, h.1.2.2.2.1, h.1.2.2.2.2⟩
  | i :: r, z :: ys, h, j + 1, y, v, e1, e2 => frees_get (fr := r) (ys := ys) h.2 j y v (by simpa using e1) (by simpa [frees] using e2)
theorem frees_len {X : Cx} {scope : Scope} {cl : List (Str × Addr)} {σ : St} : ∀ {fr : List Nat} {ys : List Str}, FrOk X scope cl fr ys → (frees fr σ).length = ys.length
  | [], [], _ => rfl
  | [], _ :: _, h => h.elim
  | _ :: _, [], h => h.elim
  | i :: r, z :: ys, h => by
    have := frees_len (σ := σ) (fr := r) (ys := ys) h.2
    simp only [frees, List.map_cons, List.length_cons, List.length_map] at *
    omega

theorem pe_lcomp {X : Cx} {elt iter : Expr} {x : Str} {px pos : Pos} {ifs : List Expr} {scope : Scope} {cl : List (Str × Addr)} (fr : List Nat) (ys : List Str) {wi : TI} {tt : TT} {te : TE}
    (hc : X.calm = true) (hclos : closureFor scope X.env = pure cl) (hcell : ∀ y ∈ scope.names, y.2 ≠ .cell) (hkind : scope.kind = .function) (hnames : ∀ y ∈ scope.names, y.2 = .local → scope.names.lookup y.1 = some .local)
    (hx : scope.names.lookup x = some .local) (hnd : (x :: ys).Nodup) (hcl : ClOk cl X.env.cells) (hall : (scope.names.all fun y => y.2 != .free || (cl.lookup y.1).isSome) = true) (hfr : FrOk X scope cl fr ys)
    (hi : PI X (.Name x px) iter wi)
    (hY : ∀ C s H fp, PIfs (cxComp X scope cl (x :: ys) C s H fp) ifs tt ∧ PE (cxComp X scope cl (x :: ys) C s H fp) elt te)
    (hs : ∀ v, foldedSetIterable iter X.env v = pure v := by intro _; rfl) :
    PE X (.ListComp elt [⟨.Name x px, iter, ifs, 0⟩] scope pos) (tLComp fr wi tt te) := by
  intro pins s σ H Q I h
  rw [eval_ListComp]
  refine wpAny_comprehension_free (use := none) rfl hs hclos hkind hnames (wpAny_mono (hi pins s σ H _ I h) (fun v s1 h1 => wpAny_mono h1 (fun itv s2 h2 => ?_) fun _ _ e => e) fun _ _ e => e)
  obtain ⟨it, fp, tn, J, H2, rfl, I2, T, st2, f2, W, ⟨m0, w0⟩, turn⟩ := h2
  refine wpAny_newObj_type (wpAny_newFunctionEnv hcell (by intro y hy; simp at hy) (fun h₁ hns₁ hsb₁ => ?_) hkind)
  dsimp only at hns₁ hsb₁ ⊢
  generalize hP2 : s2.heap.push { cls := .type "list", dict := none, data := .seq ([] : List Value).toArray } = P2 at hns₁ hsb₁ ⊢
  have hC : P2.objs.size = s2.heap.objs.size + 1 := by rw [← hP2, Heap.size_push]
  have hDC : s2.heap.objs.size ≠ P2.objs.size := by rw [hC]; exact Nat.ne_of_lt (Nat.lt_succ_self _)
  have hCle : s2.heap.objs.size ≤ P2.objs.size := by rw [hC]; exact Nat.le_succ _
  have below : ∀ b, b < s2.heap.objs.size → b ≠ P2.objs.size ∧ b ≠ s2.heap.objs.size := fun b hb => ⟨by rw [hC]; exact Nat.ne_of_lt (Nat.lt_succ_of_lt hb), Nat.ne_of_lt hb⟩
  have old : ∀ b o, s2.heap.get? b = some o → h₁.get? b = some o := fun b o e => hsb₁.extBut b o (below b (Heap.lt_size e)).1 (Heap.get?_push_of_some _ (hP2 ▸ Heap.get?_push_of_some _ e))
  have hacc : h₁.get? s2.heap.objs.size = some { cls := .type "list", data := .seq ([] : List Value).toArray } := hsb₁.extBut _ _ hDC (Heap.get?_push_of_some _ (hP2 ▸ Heap.get?_push_size _ rfl))
  have fpl : ∀ b ∈ fp, b < s2.heap.objs.size := fun b hb => by
    obtain ⟨o, e, _⟩ := T.obj _ _ st2 b hb
    exact Heap.lt_size e
  have tlt : ∀ b o, H2 b = some o → b < s2.heap.objs.size := fun b o e => I2.hok.lt e
  generalize hCg : P2.objs.size = C at hns₁ hsb₁ hDC hCle below ⊢
  generalize hDg : s2.heap.objs.size = D at hDC below hacc fpl tlt ⊢
  have hDle : D ≤ C := by rw [← hDg]; exact hCle
  have cls : ∀ y c, cl.lookup y = some c → X.env.cells.lookup y = some c := fun y c e => hcl.mem e
  have clt : ∀ y c, cl.lookup y = some c → c < D := fun y c e => by
    obtain ⟨v, q⟩ := I2.cell y c (cls y c e)
    rw [← hDg]; exact q.lt
  have sub : ∀ b ∈ frs X.stack, b < D := fun b hb => by
    rcases List.mem_cons.mp (I2.stkSub b hb) with e | hb
    · rw [e, ← hDg]; exact I2.lt
    · obtain ⟨_, o, ho, _⟩ := I2.ok.funs.mem hb
      rw [← hDg]; exact Nat.lt_of_lt_of_le (Heap.lt_size ho) I2.sz
  obtain ⟨YI, YE⟩ := hY C s2 H2 fp
  have Yok : (cxComp X scope cl (x :: ys) C s2 H2 fp).Ok := by
    refine ⟨I2.ok.mod, hkind, I2.ok.glob, I2.ok.blt, hCle, ?_, ?_, ?_, fun _ => I2.ok.hd hc, I2.ok.frames, .inl rfl, ?_, I2.bs, Nat.le_trans I2.ok.bsz I2.sz, ?_, ?_, I2.stack, I2.stkFree⟩
    · exact fun y z c e1 e2 => I2.ok.inj y z c (cls y c e1) (cls z c e2)
    · intro y hy
      have hm := lookup_relabel_inv (env := X.env) (names := scope.names) (x := y) hcell hy
      have q := List.all_eq_true.mp hall _ hm
      show ∃ c, cl.lookup y = some c
      exact Option.isSome_iff_exists.mp (by simpa using q)
    · intro y c hf _
      exact absurd hf (by show ¬ false = true; decide)
    · intro b hb
      refine ⟨(below b (fpl b hb)).1, fun y c e z => ?_⟩
      exact (f2 b hb).2.2.2.2.1 y c (cls y c e) z
    · intro b o e hb
      have hb : b ∈ fp := hb
      rcases (f2 b hb).2.2.2.1 with z | z
      · exact I2.ok.noex b o e z
      · exact absurd (Nat.lt_of_lt_of_le (Heap.lt_size e) (Nat.le_trans I2.ok.bsz z)) (Nat.lt_irrefl _)
    · intro b hb hf
      have hb : b ∈ fp := hb
      rcases List.mem_cons.mp (I2.stkSub b hf) with e | hf
      · exact (f2 b hb).2.1 e
      · exact (f2 b hb).2.2.1 hf
  -- the block's state at a turn's start
  have hvis : Loc (cxComp X scope cl (x :: ys) C s2 H2 fp).env.scope x := .inl (lookup_relabel_local hx)
  have start : ∀ tk, Inv (cxComp X scope cl (x :: ys) C s2 H2 fp) [] (none :: frees fr σ) H2 { s2 with heap := h₁, toks := tk } := fun tk => by
    refine ⟨Yok, rfl, I2.bare, Un.kept old, ⟨_, hns₁, fun i y v e1 e2 e3 => ?_⟩, fun y c e => ?_, ?_, fun y c e => ?_, fun p hp => absurd (show p ∈ ([] : List (Addr × Obj)) from hp) (by simp), I2.hok.kept old, ?_⟩
    · cases i with
      | zero => simp at e2
      | succ j =>
        obtain ⟨i', n1, n2, n3, n4, n5, c, n6⟩ := frees_get hfr j y v (by simpa [cxComp] using e1) (by simpa using e2)
        obtain ⟨m, hn, hl⟩ := I2.loc
        obtain ⟨u, r, l⟩ := hl i' y v n1 n2 n4
        refine ⟨u, r, .inr ⟨lookup_relabel_free n3, c, n6, ?_⟩⟩
        rcases l with ⟨k, _⟩ | ⟨k, c', e, z⟩
        · exact absurd k n5
        · rw [cls y c n6] at e
          cases e
          obtain ⟨o, ho, hd⟩ := z
          exact ⟨o, old _ _ ho, hd⟩
    · obtain ⟨v, o, ho, hd⟩ := I2.cell y c (cls y c e)
      exact ⟨v, o, old _ _ ho, hd⟩
    · show H2 C = none
      cases q : H2 C with
      | none => rfl
      | some o => exact absurd (tlt C o q) (Nat.not_lt.mpr hDle)
    · exact I2.freeC y c (cls y c e)
    · show (none :: frees fr σ).length = (x :: ys).length
      rw [List.length_cons, List.length_cons, frees_len hfr]
  have fpY : ∀ {pl : List (Addr × Obj)} {H' : Hp}, (∀ b ∈ fp, H' b = none) → (∀ p ∈ pl, p.1 = D) → ∀ b ∈ fp, FpOk (cxComp X scope cl (x :: ys) C s2 H2 fp) pl H' b := fun {pl H'} hn hpl b hb => by
    refine ⟨hn b hb, (below b (fpl b hb)).1, Yok.exfs b hb, .inl hb, fun y c e z => (f2 b hb).2.2.2.2.1 y c (cls y c e) z, fun p hp => ?_⟩
    have hp : p ∈ [] ++ pl := hp
    rw [List.nil_append] at hp
    rw [hpl p hp]
    exact (below b (fpl b hb)).2.symm
  have loop : ∀ s₃ : Shared, (∃ tk, s₃ = { s2 with heap := h₁, toks := tk }) →
      codeAny (model X.prog X.w) X.A (.compLoop (.ListComp elt [⟨.Name x px, iter, ifs, 0⟩] scope pos) 0 (.ref it) (.ref D) (compEnvC scope cl C X.env))
        (compPost (model X.prog X.w) X.A X.xe none (EP X pins σ Q) (.ref D) C) s₃ := by
    rintro s₃ ⟨tk, rfl⟩
    refine comp_loop
      (fun k s' => ∃ i vs ws nn H', Inv (cxComp X scope cl (x :: ys) C s2 H2 fp) [] (none :: frees fr σ) H' s' ∧ tn i s'.heap ∧ (∀ b ∈ fp, H' b = none) ∧ H' D = none ∧
        s'.heap.get? D = some { cls := .type "list", data := .seq (ws : List Value).toArray nn } ∧ Vals vs ws ∧ W i k vs H') ?_ m0
      ⟨0, [], [], 0, H2, start tk, T.keep _ _ _ st2 fun b _ o e => old b o e, fun b hb => (f2 b hb).1, ?_, hacc, .nil, w0⟩
    · rintro n s3 ⟨i, vs, ws, nn, H3, I3, st3, fr3, hD3, ho3, rv3, w3⟩
      have I3' : Inv (cxComp X scope cl (x :: ys) C s2 H2 fp) [(D, { cls := .type "list", data := .seq ws.toArray nn })] (none :: frees fr σ) H3 s3 := I3.pins_of fun p hp => by
        have e : p = (D, { cls := .type "list", data := .seq ws.toArray nn }) := by simpa using hp
        subst e
        refine ⟨ho3, hD3, hDC, fun z => absurd (sub D z) (Nat.lt_irrefl _), fun v z => ?_⟩
        have z' : Data.seq ws.toArray nn = Data.cell v := z
        cases z'
      have fp3 := fpY (pl := [(D, { cls := .type "list", data := .seq ws.toArray nn })]) fr3 (fun p hp => by rw [List.mem_singleton.mp hp])
      obtain ⟨hsz, alt⟩ := turn i n vs H3 w3
      rcases alt with ⟨stop, fin⟩ | ⟨go, step⟩
      · refine thn (T.done (cxComp X scope cl (x :: ys) C s2 H2 fp) rfl rfl rfl rfl i _ s3 _ H3 _ I3' fp3 st3 stop) fun r s4 ⟨hr, I4⟩ => ?_
        subst hr
        have pD := I4.pin (D, { cls := .type "list", data := .seq ws.toArray nn }) (by show _ ∈ [] ++ _; simp)
        obtain ⟨m4, hn4, _⟩ := I4.loc
        refine ⟨m4, hn4, fun h' hs' => ?_⟩
        have hC4 : H3 C = none := I4.free
        have hok' : HOk X.prog X.w (upd H3 D (.lst vs)) h' := by
          refine HOk.track (I4.hok.other hC4 hs') hD3 ⟨hsz, ws, nn, rv3, (hs'.2 D hDC).trans pD.1⟩
        have b4 := I4.base
        have un : Un (frs X.stack) fp H2 (upd H3 D (.lst vs)) s2.heap h' := by
          have lt : ∀ b o, s2.heap.get? b = some o → b < D := fun b o e => by rw [← hDg]; exact Heap.lt_size e
          refine ⟨fun b o e n hb hx => (hs'.2 b (below b (lt b o e)).1).trans (b4.keep b o e n hb hx), fun b o e n hb hx => ?_, fun b o e n hx => ?_, fun b o e hx => ?_, fun b zs e => ?_, fun b o u e => ?_, fun b ps e => ?_⟩
          · obtain ⟨sl, q⟩ := b4.slot b o e n hb hx
            exact ⟨sl, (hs'.2 b (below b (lt b o e)).1).trans q⟩
          · rw [upd_ne (below b (lt b o e)).2]; exact b4.free b o e n hx
          · obtain ⟨o', q⟩ := b4.there b o e hx
            exact ⟨o', (hs'.2 b (below b (lt b o e)).1).trans q⟩
          · rw [upd_ne (below b (tlt b _ e)).2]; exact b4.tups b zs e
          · rw [upd_ne (below b (tlt b _ e)).2]; exact b4.frzs b o u e
          · rw [upd_ne (below b (tlt b _ e)).2]; exact b4.tbls b ps e
        refine ⟨.ref D, upd H3 D (.lst vs), ?_, rfl, fin D hD3⟩
        exact I2.call' (s' := { s4 with heap := h' }) (ch := fp) I4.os un hok' I4.bare fun b hb => ⟨(f2 b hb).2.2.2.1, (f2 b hb).2.1, (f2 b hb).2.2.2.2.1, (f2 b hb).2.2.2.2.2⟩
      · refine thn (T.item (cxComp X scope cl (x :: ys) C s2 H2 fp) rfl rfl rfl rfl i _ s3 _ H3 _ I3' fp3 st3 go) fun r s4 ⟨u, hr, h4⟩ => ?_
        subst hr
        refine thn h4 fun _ s5 ⟨v, H5, I5, r5, y5, st5, fr5⟩ => ?_
        have fp5 := fpY (pl := [(D, { cls := .type "list", data := .seq ws.toArray nn })]) fr5 (fun p hp => by rw [List.mem_singleton.mp hp])
        have I5' := I5.pinned fp5 (T.obj _ _ st5)
        refine thn (pg_name (X := cxComp X scope cl (x :: ys) C s2 H2 fp) (i := 0) (pos := px) hnd rfl hvis (.inr (lookup_relabel_local hx)) _ s5 _ H5 v u (fun σ' H' => σ' = some v :: frees fr σ ∧ H' = H5) I5' r5 ⟨rfl, rfl⟩) fun _ s6 ⟨σ6, H6, I6, e6, e6'⟩ => ?_
        subst e6 e6'
        refine thn (YI _ s6 _ _ _ I6 (step v H6 y5)) fun b s7 ⟨H7, I7, q7⟩ => ?_
        -- what is kept through the turn
        have back : ∀ {H8 : Hp} {s8 : Shared}, Inv (cxComp X scope cl (x :: ys) C s2 H2 fp) ([(D, { cls := .type "list", data := .seq ws.toArray nn })] ++ pinsAt fp s5.heap) (some v :: frees fr σ) H8 s8 →
            s8.heap.get? D = some { cls := .type "list", data := .seq ws.toArray nn } ∧ H8 D = none ∧ (∀ b ∈ fp, H8 b = none) ∧ (∀ b ∈ fp, ∀ o, s5.heap.get? b = some o → s8.heap.get? b = some o) := fun {H8 s8} I8 => by
          have pD := I8.pin (D, { cls := .type "list", data := .seq ws.toArray nn }) (by show _ ∈ [] ++ _; simp)
          refine ⟨pD.1, pD.2.1, fun b hb => ?_, fun b hb o e => ?_⟩
          · obtain ⟨o, e, d⟩ := T.obj _ _ st5 b hb
            exact (I8.pin (b, o) (List.mem_append_right _ (List.mem_append_right _ (mem_pinsAt hb e)))).2.1
          · exact (I8.pin (b, o) (List.mem_append_right _ (List.mem_append_right _ (mem_pinsAt hb e)))).1
        have weak : ∀ {H8 : Hp} {s8 : Shared}, Inv (cxComp X scope cl (x :: ys) C s2 H2 fp) [] (some v :: frees fr σ) H8 s8 → Inv (cxComp X scope cl (x :: ys) C s2 H2 fp) [] (none :: frees fr σ) H8 s8 := fun {H8 s8} I8 =>
          I8.weak rfl fun i v' e => by
            cases i with
            | zero => simp at e
            | succ j => simpa using e
        have nopin : ∀ {H8 : Hp} {s8 : Shared} {pl : List (Addr × Obj)}, Inv (cxComp X scope cl (x :: ys) C s2 H2 fp) pl (some v :: frees fr σ) H8 s8 → Inv (cxComp X scope cl (x :: ys) C s2 H2 fp) [] (some v :: frees fr σ) H8 s8 := fun {H8 s8 pl} I8 =>
          I8.pins_of fun p hp => absurd hp (by simp)
        cases b with
        | false =>
          rw [if_neg Bool.false_ne_true] at q7 ⊢
          obtain ⟨m', hm, w7⟩ := q7
          obtain ⟨k1, k2, k3, k4⟩ := back I7
          exact ⟨m', hm, i + 1, vs, ws, nn, H7, weak (nopin I7), T.keep _ _ _ st5 k4, k3, k2, k1, rv3, w7⟩
        | true =>
          rw [if_pos rfl] at q7 ⊢
          refine thn (YE _ s7 _ _ _ I7 q7) fun u8 s8 ⟨y8, H8, I8, r8, m', hm, w8⟩ => ?_
          obtain ⟨k1, k2, k3, k4⟩ := back I8
          refine append_at (hsz := by rw [List.size_toArray, ← rv3.length]; exact hsz) k1 fun h9 hs9 ho9 => ?_
          have I9 : Inv (cxComp X scope cl (x :: ys) C s2 H2 fp) [] (some v :: frees fr σ) H8 { s8 with heap := h9 } :=
            (nopin I8).turned (t' := s8.toks) (it := D) (fun b o hb e => (hs9.2 b hb).trans e) k2 hDC (.inr (by rw [← hDg]; exact Nat.le_refl _)) (fun y c e => Nat.ne_of_lt (clt y c e)) fun p hp => absurd (show p ∈ ([] : List (Addr × Obj)) from hp) (by simp)
          refine ⟨m', hm, i + 1, vs ++ [y8], ws ++ [u8], nn + 1, H8, weak I9, ?_, k3, k2, ?_, rv3.append (.cons r8 .nil), w8⟩
          · refine T.keep _ _ _ st5 fun b hb o e => ?_
            exact (hs9.2 b (below b (fpl b hb)).2).trans (k4 b hb o e)
          · rw [ho9, List.push_toArray]
    · cases q : H2 D with
      | none => rfl
      | some o => exact absurd (tlt D o q) (Nat.lt_irrefl _)
  exact codeAny_compStart_list (loop _ ⟨_, rfl⟩) (T.self _ 0 _ _ _ (T.keep _ _ _ st2 fun b _ o e => old b o e) (loop _ ⟨_, rfl⟩))
end L2

set_option Elab.async false
set_option linter.all false
set_option maxRecDepth 100000
set_option maxHeartbeats 4000000
namespace L2
open PySem PySem.Spec PyProof.Rows

/-! ### a def that keeps a promise, by its name -/
def Have (P : Program) (w : World) (K : PySem.W.Frag) (mg : Str → Option Value) (base : Heap) (x : Str) (k : Nat) (ps : List Str) (sp : Sp) : Prop :=
  ∃ (f : Addr) (fd : FuncData), FnOk P w K mg base CX0 k f fd ps sp ∧ Binds K fd ps [] ∧ PySem.W.keepIn K (.ref f) = true ∧ mg x = some (.ref f)
theorem Have.mono {P : Program} {w : World} {K : PySem.W.Frag} {mg : Str → Option Value} {base : Heap} {x : Str} {j k : Nat} {ps : List Str} {sp : Sp} (h : Have P w K mg base x j ps sp) (e : j ≤ k) : Have P w K mg base x k ps sp :=
  let ⟨f, fd, F, r⟩ := h; ⟨f, fd, F.mono e, r⟩
section
variable {X : Cx} {x : Str} {k : Nat} {ps : List Str} {sp : Sp} {e : Expr} {es : List Expr} {t : TA} {p pos : Pos}
theorem pe_fn (G : Have X.prog X.w X.K X.mg X.base x k ps sp) (hr : Room k X.A) (hg : Gl X x) (ha : PA X (e :: es) t) (hdb : (x == ("__debug__" : Str)) = false := by decide)
    (he : starEach (e :: es) X.env = (false, eval e X.env) :: starEach es X.env := by rfl) (hpl : (backTo pos (starEach es X.env)).any (·.1) = false := by rfl) :
    PE X (.Call (.Name x p) (e :: es) [] pos) (tCall sp [] E0 t) := by
  obtain ⟨f, fd, F, b, kp, m⟩ := G
  exact pe_call F hr hg m kp b .nil pass0 ha hdb he hpl
end

section
variable {X : Cx}
/-- // by a positive divisor of some thousand bits -/
def CDivB (i j : Int) : Prop := 0 < j ∧ j.natAbs.log2 < 9000
theorem op_fdivB : OpR X (binaryOp .FloorDiv) (rI CDivB fun i j => .int (i / j)) := opI fun i j _ _ _ _ _ hc q => by
  have h1 : (0 : Int) < j := hc.1
  exact floordiv_int (by omega) (by rw [Int.fdiv_eq_ediv_of_nonneg i (by omega)]; exact q) (.inl (PyProof.noPylong_of_log2 hc.2))

/-! ### isinstance by a built-in class -/
def isiNames : List String := ["NoneType", "bool", "int", "str", "list", "tuple", "dict"]
def isi (A T : String) : Option Bool := if isiNames.contains A && isiNames.contains T then some (A == T || (A == "bool" && T == "int")) else none
theorem isi_mem {A : String} (h : isiNames.contains A = true) : A = "NoneType" ∨ A = "bool" ∨ A = "int" ∨ A = "str" ∨ A = "list" ∨ A = "tuple" ∨ A = "dict" := by
  have : A ∈ isiNames := by simpa using h
  simpa [isiNames] using this
theorem isi_ok {K : PySem.W.Frag} {A T : String} {b : Bool} (h : isi A T = some b) : PySem.W.kitOne K (.type A) (.type T) = some b := by
  unfold isi at h
  split at h
  · rename_i c
    rw [Bool.and_eq_true] at c
    cases h
    rcases isi_mem c.1 with rfl | rfl | rfl | rfl | rfl | rfl | rfl <;> rcases isi_mem c.2 with rfl | rfl | rfl | rfl | rfl | rfl | rfl <;> kernel_rfl
  · cases h
theorem call_isi : CallR X (.builtin "isinstance") (fun xs H Q => ∃ v T A b, xs = [v, .ty T] ∧ TyOf X.K H v (.type A) ∧ isi A T = some b ∧ Q (.bl b) H) := by
  intro pins s σ H xs us Q I r h
  obtain ⟨v, T, A, b, rfl, ty, e, q⟩ := h
  obtain ⟨u, c, rfl, ru, rc⟩ := vals2 r
  cases (show c = Value.type T from rc)
  exact isinst_ok I ru ty (isi_ok e) fun tk => ⟨.bl b, H, I.tok tk, rfl, q⟩

/-! ### sum, all, max of a list -/
theorem truth_bools {A : Around} {P : Program} {w : World} {xs : List Bool} {its : List Value} (r : Vals (xs.map V.bl) its) : TruthOf P w A (fun i v => its.toArray[i]? = some v) (fun i => xs.getD i true) := by
  intro i v s Q E hv h
  have hv' : its[i]? = some v := by simpa using hv
  have hl := r.length
  rw [List.length_map] at hl
  have hi : i < xs.length := by rw [hl]; exact (List.getElem?_eq_some_iff.mp hv').1
  obtain ⟨u, hu, ru⟩ := r.get (i := i) (x := V.bl xs[i]) (by rw [List.getElem?_map, List.getElem?_eq_getElem hi]; rfl)
  rw [hv'] at hu
  cases hu
  cases ru
  refine wpAny_truthy_bool ?_
  have e : xs.getD i true = xs[i] := by rw [List.getD_eq_getElem?_getD, List.getElem?_eq_getElem hi]; rfl
  have h : Q (xs.getD i true) s := h
  rw [e] at h
  exact h
theorem all_range (xs : List Bool) : (List.range xs.length).all (fun i => xs.getD i true) = xs.all id := by
  rw [Bool.eq_iff_iff, List.all_eq_true, List.all_eq_true]
  constructor
  · intro h x hx
    obtain ⟨i, hi, rfl⟩ := List.mem_iff_getElem.mp hx
    have := h i (List.mem_range.mpr hi)
    rw [List.getD_eq_getElem?_getD, List.getElem?_eq_getElem hi] at this
    exact this
  · intro h i hi
    have hi := List.mem_range.mp hi
    rw [List.getD_eq_getElem?_getD, List.getElem?_eq_getElem hi]
    exact h _ (List.getElem_mem hi)
theorem call_all_bools (hc : X.calm = true) : CallR X (.builtin "all") (fun xs H Q => ∃ (p : Addr) (bs : List Bool), xs = [.ref p] ∧ SqL X.K H p (bs.map V.bl) ∧ Q (.bl (bs.all id)) H) := by
  intro pins s σ H xs us Q I r h
  obtain ⟨p, bs, rfl, hq, q⟩ := h
  obtain ⟨u, rfl, rx⟩ := vals1 r
  cases rx
  obtain ⟨its, r', pl, hz⟩ := I.list hq
  have hl := pl.isList
  obtain ⟨o, ho, _⟩ := id hl
  have hlt := Heap.lt_size ho
  refine call_all_walk (wpAny_pyIter_list hl ?_)
  refine ⟨_, _, _, _, _, _, fun i => bs.getD i true, rfl, Walks.list (A := X.A.in1) (I.ok.hd hc) s.heap.objs.size p (Nat.ne_of_lt hlt) its.toArray, ⟨⟨_, Heap.get?_push_size _ rfl, rfl, rfl⟩, hl.push _⟩, truth_bools r', fun h' tk hk => ?_⟩
  have e : (List.range its.toArray.size).all (fun i => bs.getD i true) = bs.all id := by
    have hl2 := r'.length
    rw [List.length_map] at hl2
    rw [List.size_toArray, ← hl2]
    exact all_range bs
  rw [e]
  refine ⟨.bl (bs.all id), H, I.kept (h' := h') (t' := tk) fun b o e => ?_, rfl, q⟩
  exact hk b o (fun hm => absurd (Heap.lt_size e) (by rw [List.mem_singleton.mp hm]; exact Nat.lt_irrefl _)) (Heap.get?_push_of_some _ e)

/-! ### str of a text -/
end

/-! ### max(xs, default=d) -/
def maxL : Int → List Int → Int
  | b, [] => b
  | b, y :: r => maxL (if y > b then y else b) r
def maxD (d : Int) : List Int → Int
  | [] => d
  | x :: r => maxL x r
section
variable {prog : Program} {w : World} {A : Around} {R : Result → Shared → Prop} {I l : Addr} {vs : List Value} {ns : List Int} {d : Value}
end

def tMaxD (d : Int) (K : PySem.W.Frag) (te : TE) : TE := fun σ H Q => te σ H fun x H1 => ∃ (p : Addr) (ns : List Int), x = .ref p ∧ SqL K H1 p (ns.map V.int) ∧ Q (.int (maxD d ns)) H1
end L2

set_option Elab.async false
set_option linter.all false
set_option maxRecDepth 100000
set_option maxHeartbeats 4000000
namespace L2
open PySem PySem.Spec PyProof.Rows
/-! ### the signs of a text, walked -/
def Its (z : Str) : It := ⟨fun i _ => i < z.cps.size, fun i H x H' => H' = H ∧ ∃ c, z.cps[i]? = some c ∧ x = .str ⟨#[c]⟩, fun i _ => i = z.cps.size⟩
def iStr (te : TE) : TI := fun σ H R => te σ H fun x H1 => ∃ z, x = .str z ∧ R (Its z) H1
theorem pe_ty {X : Cx} {x : Str} {T : String} {pos : Pos} (hg : Gl X x) (hm : X.mg x = none) (hv : bootBuiltins x = some (.type T)) (hn : x ≠ "__name__" := by decide) (hd : (x == ("__debug__" : Str)) = false := by decide) : PE X (.Name x pos) (tC (.ty T)) := pe_bltn hg hm hv rfl hn hd
theorem Same.new {H : Hp} {p : Addr} {o : HO} (h : H p = none) : Same H (upd H p o) := fun b u q => by rw [upd_ne (ne_of_none q h)]; exact q
theorem take_snoc {α : Type} {xs : List α} {i : Nat} {x : α} (h : xs[i]? = some x) : xs.take (i + 1) = xs.take i ++ [x] := by
  rw [List.take_add_one, h]; rfl
theorem isi_tt : isi "tuple" "tuple" = some true := by decide +kernel
theorem isi_it : isi "int" "tuple" = some false := by decide +kernel
theorem isi_st : isi "str" "tuple" = some false := by decide +kernel
theorem isi_bt : isi "bool" "tuple" = some false := by decide +kernel
theorem isi_nt : isi "NoneType" "tuple" = some false := by decide +kernel
theorem isi_ts : isi "tuple" "str" = some false := by decide +kernel
theorem isi_is : isi "int" "str" = some false := by decide +kernel
theorem isi_ss : isi "str" "str" = some true := by decide +kernel
theorem isi_bs : isi "bool" "str" = some false := by decide +kernel
theorem isi_ns : isi "NoneType" "str" = some false := by decide +kernel
theorem isi_ti : isi "tuple" "int" = some false := by decide +kernel
theorem isi_ii : isi "int" "int" = some true := by decide +kernel
theorem isi_si : isi "str" "int" = some false := by decide +kernel
theorem isi_bi : isi "bool" "int" = some true := by decide +kernel
theorem isi_ni : isi "NoneType" "int" = some false := by decide +kernel
theorem isi_ib : isi "int" "bool" = some false := by decide +kernel
theorem isi_bb : isi "bool" "bool" = some true := by decide +kernel
theorem boot_tupleT : bootBuiltins (Str.ofString "tuple") = some (.type "tuple") := by kernel_rfl
theorem boot_strT : bootBuiltins (Str.ofString "str") = some (.type "str") := by kernel_rfl
theorem boot_intT : bootBuiltins (Str.ofString "int") = some (.type "int") := by kernel_rfl
theorem boot_boolT : bootBuiltins (Str.ofString "bool") = some (.type "bool") := by kernel_rfl
theorem boot_isi : bootBuiltins (Str.ofString "isinstance") = some (.builtin "isinstance") := by kernel_rfl
theorem boot_allB : bootBuiltins (Str.ofString "all") = some (.builtin "all") := by kernel_rfl
end L2

set_option Elab.async false
set_option linter.all false
set_option maxRecDepth 100000
namespace D
open PySem L2
def top (i : Nat) : Stmt := PySem.Challenge.pw_leastforge_k34_shelves.main.body.getD i (.Pass ⟨0, 0, 0, 0⟩)
abbrev s__wall : Stmt := top 0
abbrev s_just_so : Stmt := top 2
abbrev s_Laid___init__ : Stmt := inClass (top 4) 0
abbrev s_Laid_fits : Stmt := inClass (top 4) 1
abbrev s_Shelf___init__ : Stmt := inClass (top 5) 0
abbrev s_Shelf_lay : Stmt := inClass (top 5) 1
abbrev s_Shelf_lying : Stmt := inClass (top 5) 2
abbrev s_Shelf_fitting : Stmt := inClass (top 5) 3
abbrev s_Shelf_has : Stmt := inClass (top 5) 4
abbrev s_Shelf_copy : Stmt := inClass (top 5) 5
abbrev sCell : Stmt := top 7
abbrev sBox : Stmt := top 8
abbrev sTake : Stmt := top 9
abbrev sText : Stmt := top 10
abbrev sNumber : Stmt := top 11
abbrev sWorth : Stmt := top 12
abbrev s_lthing : Stmt := top 13
abbrev s_lother : Stmt := top 14
abbrev s_lalike : Stmt := top 15
abbrev s_llaid : Stmt := top 16
abbrev s_ltells : Stmt := top 17
abbrev s_llies : Stmt := top 18
abbrev s_lright : Stmt := top 19
abbrev s_llaid_often : Stmt := top 20
abbrev s_lasked : Stmt := top 21
abbrev sLaw : Stmt := top 22
end D

set_option Elab.async false
set_option linter.all false
set_option maxRecDepth 100000
set_option maxHeartbeats 4000000
namespace L2
open PySem PySem.Spec PyProof.Rows
theorem seqI {t u : TS} {D : Ends} {σ : St} {H : Hp} (Pv : St → Hp → Prop) (h2 : ∀ σ' H', Pv σ' H' → u D σ' H') (h1 : (∀ σ' H', Pv σ' H' → u D σ' H') → t { D with nx := u D } σ H) : tSeq t u D σ H := h1 h2
theorem pos (n : Nat) : (0 : Int) < (((n + 1 : Nat) : Int)) := by omega
end L2
namespace D
open PySem L2
/-! ### promises -/
def IsBox (H : Hp) (b : Addr) : Prop := ∃ a f m : Int, H b = some (.lst [.int a, .int f, .int m])
structure Step (b : Addr) (H H' : Hp) : Prop where
  box : IsBox H' b
  keep : ∀ c o, c ≠ b → H c = some o → H' c = some o
theorem Step.refl {b : Addr} {H : Hp} (h : IsBox H b) : Step b H H := ⟨h, fun _ _ _ e => e⟩
theorem Step.trans {b : Addr} {H H1 H2 : Hp} (x : Step b H H1) (y : Step b H1 H2) : Step b H H2 := ⟨y.box, fun c o hc e => y.keep c o hc (x.keep c o hc e)⟩
theorem Step.new {b p : Addr} {H : Hp} {o : HO} (h : IsBox H b) (hp : H p = none) : Step b H (upd H p o) := by
  obtain ⟨a, f, m, e⟩ := h
  exact ⟨⟨a, f, m, by rw [upd_ne (ne_of_none e hp)]; exact e⟩, fun c u _ e => by rw [upd_ne (ne_of_none e hp)]; exact e⟩
theorem Step.put {b : Addr} {H : Hp} (a f m : Int) : Step b H (upd H b (.lst [.int a, .int f, .int m])) := ⟨⟨a, f, m, upd_same⟩, fun c o hc e => by rw [upd_ne hc]; exact e⟩
theorem Step.keepN {b : Addr} {H H' : Hp} (x : Step b H H') {c : Addr} {o : HO} (hb : IsBox H b) (e : H c = some o) (ho : ∀ a f m : Int, o ≠ .lst [.int a, .int f, .int m]) : H' c = some o := by
  obtain ⟨a, f, m, e'⟩ := hb
  exact x.keep c o (ne_of e e' (ho a f m)) e
def spCell (K : PySem.W.Frag) : Sp := fun vs H Q _ => ∃ (a : Addr) (ns : List Int) (k : Int), vs = [.ref a, .int k] ∧ SqL K H a (ns.map V.int) ∧ 0 ≤ k ∧ ∀ i : Int, Q (.int i) H
def spBox (K : PySem.W.Frag) : Sp := fun vs H Q _ => ∃ (a : Addr) (ns : List Int) (k : Int), vs = [.ref a, .int k] ∧ SqL K H a (ns.map V.int) ∧ 0 ≤ k ∧ ∀ (x f m : Int) (p : Addr), H p = none → Q (.ref p) (upd H p (.lst [.int x, .int f, .int m]))
def spTake : Sp := fun vs H Q _ => ∃ (b : Addr) (n : Int), vs = [.ref b, .int n] ∧ IsBox H b ∧ 0 < n ∧ n < 10 ^ 61 ∧ ∀ (r : Int) (H' : Hp), 0 ≤ r → r < n → Step b H H' → Q (.int r) H'
def Signs (x : Str) : Prop := ∀ c ∈ x.cps.toList, 32 ≤ c ∧ c ≤ 126 ∧ c ≠ 34 ∧ c ≠ 37
def spText : Sp := fun vs H Q _ => ∃ (b : Addr) (n : Int), vs = [.ref b, .int n] ∧ IsBox H b ∧ 0 ≤ n ∧ n < 10000 ∧ ∀ (x : Str) (H' : Hp), (x.length : Int) ≤ n → Signs x → Step b H H' → Q (.str x) H'
def spNumber : Sp := fun vs H Q _ => ∃ b : Addr, vs = [.ref b] ∧ IsBox H b ∧ ∀ (i : Int) (H' : Hp), -(10 ^ 60) < i → i < 10 ^ 60 → Step b H H' → Q (.int i) H'
section
variable {P : Program} {w : World} {K : PySem.W.Frag} {mg : Str → Option Value} {base : Heap} {f : Addr} {fd : FuncData} {k : Nat}
theorem scCell : FnScope ["_law_script", "_law_k"] ["_law_script", "_law_k"] (defScope sCell) := ⟨rfl, rfl, rfl, by decide +kernel, rfl, by decide +kernel, by decide +kernel⟩
theorem ok_cell (F : Fun K "_law_cell" "_law_cell" sCell f fd) (m_len : mg "len" = none) : FnOk P w K mg base CX0 (k + 1) f fd ["_law_script", "_law_k"] (spCell K) := by
  refine F.ok scCell (fun vs H Q E h => ?_) (fun cdv A outer s H vs Q E hr h => ?_)
  · obtain ⟨a, ns, k, rfl, _⟩ := h
    rfl
  obtain ⟨a, ns, j, rfl, hS, h0, q⟩ := h
  refine ⟨_, (pss_cons (ps_if (pt_cmpR op_lt (pv 1) (pe_callB call_len rfl m_len PySem.boot_len (pa_cons (pv 0) pa_nil)) (nomark _)) (pss_one (ps_ret (pe_ix ix_list (pv 0) (pv 1) (fun _ _ => rfl)))) pss_nil)
    (pss_one (ps_ret (pe_op op_add (pe_op op_mul pe_int (pv 1)) pe_int)))), ?_⟩
  refine ⟨_, rfl, _, rfl, _, _, rfl, .inl ⟨_, hS, rfl⟩, _, _, rfl, rfl, _, rfl, ?_⟩
  refine ite2 (fun c => ?_) (fun c => ?_)
  · have c' : j < (((ns.map V.int).length : Nat) : Int) := of_decide_eq_true c
    rw [List.length_map] at c'
    have hj : j.toNat < ns.length := by omega
    have ej : j = ((j.toNat : Nat) : Int) := by omega
    have at1 : atI (ns.map V.int) ((j.toNat : Nat) : Int) = some (.int ns[j.toNat]) := atI_nat (by rw [List.getElem?_map, List.getElem?_eq_getElem hj]; rfl)
    rw [← ej] at at1
    exact ⟨_, rfl, _, rfl, a, _, j, .int ns[j.toNat], rfl, rfl, hS, at1, q _⟩
  · exact ⟨_, rfl, _, _, rfl, rfl, .inl ⟨by decide, by decide⟩, _, _, rfl, rfl, q _⟩
theorem scBox : FnScope ["_law_script", "_law_k", "_law_cell_here", "_law_number_here", "_law_mixed"] ["_law_script", "_law_k"] (defScope sBox) := ⟨rfl, rfl, rfl, by decide +kernel, rfl, by decide +kernel, by decide +kernel⟩
theorem ok_box (F : Fun K "_law_box" "_law_box" sBox f fd) (G_lcell : Have P w K mg base "_law_cell" k ["_law_script", "_law_k"] (spCell K)) : FnOk P w K mg base CX0 (k + 1) f fd ["_law_script", "_law_k"] (spBox K) := by
  refine F.ok scBox (fun vs H Q E h => ?_) (fun cdv A outer s H vs Q E hr h => ?_)
  · obtain ⟨a, ns, k, rfl, _⟩ := h
    rfl
  obtain ⟨a, ns, j, rfl, hS, h0, q⟩ := h
  refine ⟨_, (pss_cons (ps_set (i := 2) scBox.nd rfl (Or.inl rfl) (pe_fn G_lcell hr rfl (pa_cons (pv 0) (pa_cons (pv 1) pa_nil))))
    (pss_cons (ps_set (i := 3) scBox.nd rfl (Or.inl rfl) (pe_op op_mod (pe_op op_mul (pe_op op_add (pe_op op_mod (pv 2) pe_int) pe_int) pe_int) pe_int))
    (pss_cons (ps_set (i := 4) scBox.nd rfl (Or.inl rfl) (pe_op op_mod (pe_op op_add (pe_op op_mul (pv 3) (pe_op op_add (pe_op op_mod (pv 3) pe_int) pe_int)) (pe_op op_mul pe_int (pv 1))) pe_int))
    (pss_cons (ps_if (pt_cmpR op_eq (pe_op op_mod (pe_fn G_lcell hr rfl (pa_cons (pv 0) (pa_cons pe_int pa_nil))) pe_int) pe_int (nomark _)) (pss_one (ps_ret (pe_lst (pa_cons (pv 2) (pa_cons pe_int (pa_cons (pv 4) pa_nil)))))) pss_nil)
    (pss_one (ps_ret (pe_lst (pa_cons (pv 4) (pa_cons pe_int (pa_cons pe_int pa_nil)))))))))), ?_⟩
  refine ⟨_, rfl, _, rfl, a, ns, j, rfl, hS, h0, fun c => ?_⟩
  refine ⟨_, rfl, _, _, rfl, rfl, pos _, _, _, rfl, rfl, _, _, rfl, rfl, .inr ⟨by decide, by decide⟩, _, _, rfl, rfl, pos _, ?_⟩
  have b1 : 0 ≤ (c % 2147483629 + 11) * 69621 % 2147483629 := Int.emod_nonneg _ (by decide)
  have b2 : (c % 2147483629 + 11) * 69621 % 2147483629 < 2147483629 := Int.emod_lt_of_pos _ (by decide)
  refine ⟨_, rfl, _, rfl, _, _, rfl, rfl, pos _, _, _, rfl, rfl, _, _, rfl, rfl, .inl ⟨by omega, by omega⟩, _, rfl, _, _, rfl, rfl, .inl ⟨by decide, by decide⟩, _, _, rfl, rfl, _, _, rfl, rfl, pos _, ?_⟩
  refine ⟨_, rfl, a, ns, 0, rfl, hS, Int.le_refl 0, fun c0 => ?_⟩
  refine ⟨_, _, rfl, rfl, pos _, rfl, _, rfl, ?_⟩
  refine ite2 (fun e => ?_) (fun e => ?_)
  · exact ⟨_, rfl, _, rfl, (by show 3 ≤ sizeLine; decide), fun p hp => q _ _ _ p hp⟩
  · exact ⟨_, rfl, (by show 3 ≤ sizeLine; decide), fun p hp => q _ _ _ p hp⟩
theorem scTake : FnScope ["_law_box_here", "_law_wide", "_law_found"] ["_law_box_here", "_law_wide"] (defScope sTake) := ⟨rfl, rfl, rfl, by decide +kernel, rfl, by decide +kernel, by decide +kernel⟩
theorem log_lt {n : Int} (h0 : 0 < n) (h : n < 10 ^ 61) : n.natAbs.log2 < 9000 := by
  have h1 : n.natAbs < 2 ^ 210 := by
    have : (10 : Int) ^ 61 ≤ 2 ^ 210 := by decide
    omega
  have := (Nat.log2_lt (by omega)).mpr h1
  omega
theorem ok_take (F : Fun K "_law_take" "_law_take" sTake f fd) : FnOk P w K mg base CX0 (k + 1) f fd ["_law_box_here", "_law_wide"] spTake := by
  refine F.ok scTake (fun vs H Q E h => ?_) (fun cdv A outer s H vs Q E hr h => ?_)
  · obtain ⟨b, n, rfl, _⟩ := h
    rfl
  obtain ⟨b, n, rfl, ⟨a0, f0, m, hb⟩, hn, hn2, q⟩ := h
  refine ⟨_, (pss_cons (ps_if (pw_and (pt_cmpR op_eq (pe_ix ix_list (pv 0) pe_int (fun _ _ => rfl)) pe_int (nomark _)) (pw_and1 (pt_cmpR op_in_seq (pe_ix ix_list (pv 0) pe_int (fun _ _ => rfl)) (pe_tup (pa_cons pe_int (pa_cons (pe_un un_neg pe_int) pa_nil))) (by rfl)))).pt (pss_cons (ps_asg (pe_ix ix_list (pv 0) pe_int (fun _ _ => rfl)) (pg_sub (pv 0) pe_int set_list))
    (pss_one (ps_asg pe_int (pg_sub (pv 0) pe_int set_list)))) pss_nil)
    (pss_cons (ps_if (pt_cmpR op_eq (pe_ix ix_list (pv 0) pe_int (fun _ _ => rfl)) pe_int (nomark _)) (pss_cons (ps_set (i := 2) scTake.nd rfl (Or.inl rfl) (pe_op op_mod (pe_ix ix_list (pv 0) pe_int (fun _ _ => rfl)) (pv 1)))
    (pss_cons (ps_asg (pe_op op_fdivB (pe_ix ix_list (pv 0) pe_int (fun _ _ => rfl)) (pv 1)) (pg_sub (pv 0) pe_int set_list))
    (pss_one (ps_ret (pv 2))))) pss_nil)
    (pss_cons (ps_asg (pe_op op_mod (pe_op op_add (pe_op op_mul (pe_ix ix_list (pv 0) pe_int (fun _ _ => rfl)) pe_int) pe_int) pe_int) (pg_sub (pv 0) pe_int set_list))
    (pss_cons (ps_set (i := 2) scTake.nd rfl (Or.inl rfl) (pe_op op_mod (pe_op op_mul (pe_ix ix_list (pv 0) pe_int (fun _ _ => rfl)) (pe_op op_add (pe_op op_mod (pe_ix ix_list (pv 0) pe_int (fun _ _ => rfl)) pe_int) pe_int)) pe_int))
    (pss_cons (ps_if (pt_cmpR op_gt (pv 1) (pe_op op_pow pe_int pe_int) (nomark _)) (pss_one (ps_set (i := 2) scTake.nd rfl (Or.inl rfl) (pe_op op_add (pe_op op_pow (pv 2) pe_int) (pv 2)))) pss_nil)
    (pss_one (ps_ret (pe_op op_mod (pv 2) (pv 1))))))))), ?_⟩
  refine seqI (fun σ' H' => σ' = [some (.ref b), some (.int n), none] ∧ Step b H H') (fun σ' H1 h1 => ?_) (fun rest => ?_)
  · obtain ⟨rfl, st1⟩ := h1
    obtain ⟨a, f, m, hb1⟩ := st1.box
    refine ⟨_, rfl, b, _, 1, .int f, rfl, rfl, SqL.of hb1, rfl, rfl, _, rfl, ?_⟩
    refine ite2 (fun e => ?_) (fun e => ?_)
    · refine ⟨_, rfl, b, _, 0, .int a, rfl, rfl, SqL.of hb1, rfl, _, rfl, _, _, rfl, rfl, hn, ?_⟩
      refine ⟨_, rfl, b, _, 0, .int a, rfl, rfl, SqL.of hb1, rfl, _, rfl, _, _, rfl, rfl, ⟨hn, log_lt hn hn2⟩, _, rfl, b, _, 0, 0, rfl, rfl, hb1, rfl, ?_⟩
      exact ⟨_, rfl, q _ _ (Int.emod_nonneg _ (by omega)) (Int.emod_lt_of_pos _ hn) (st1.trans (Step.put _ _ _))⟩
    · refine ⟨_, rfl, b, _, 0, .int a, rfl, rfl, SqL.of hb1, rfl, _, _, rfl, rfl, .inr ⟨by decide, by decide⟩, _, _, rfl, rfl, _, _, rfl, rfl, pos _, _, rfl, b, _, 0, 0, rfl, rfl, hb1, rfl, ?_⟩
      refine ⟨_, rfl, b, _, 0, _, rfl, rfl, SqL.of upd_same, rfl, _, rfl, b, _, 0, _, rfl, rfl, SqL.of upd_same, rfl, _, _, rfl, rfl, pos _, _, _, rfl, rfl, _, _, rfl, rfl, .inr ⟨?_, ?_⟩, _, _, rfl, rfl, pos _, ?_⟩
      · have := Int.emod_nonneg ((a * 69621 + 104729) % 2147483587) (show (16807 : Int) ≠ 0 by decide)
        omega
      · have := Int.emod_lt_of_pos ((a * 69621 + 104729) % 2147483587) (show (0 : Int) < 16807 by decide)
        omega
      dsimp only [gName]
      refine seqI (t := tIfS _ _ _) (fun σ' H' => ∃ x : Int, σ' = [some (.ref b), some (.int n), some (.int x)] ∧ Step b H H') (fun σ' H1 h1 => ?_) (fun rest => ?_)
      · obtain ⟨x, rfl, st2⟩ := h1
        exact ⟨_, rfl, _, rfl, _, _, rfl, rfl, hn, q _ _ (Int.emod_nonneg _ (by omega)) (Int.emod_lt_of_pos _ hn) st2⟩
      · refine ⟨_, rfl, _, _, rfl, rfl, ⟨by decide, by decide, by decide⟩, _, _, rfl, rfl, _, rfl, ?_⟩
        refine ite2 (fun e => ?_) (fun e => ?_)
        · refine ⟨_, rfl, _, _, rfl, rfl, ⟨by decide, by decide, ?_⟩, _, rfl, _, _, rfl, rfl, rest _ _ ⟨_, rfl, st1.trans (Step.put _ _ _)⟩⟩
          have l1 := Int.emod_nonneg ((a * 69621 + 104729) % 2147483587 * ((a * 69621 + 104729) % 2147483587 % 16807 + 1)) (show (2147483579 : Int) ≠ 0 by decide)
          have l2 := Int.emod_lt_of_pos ((a * 69621 + 104729) % 2147483587 * ((a * 69621 + 104729) % 2147483587 % 16807 + 1)) (show (0 : Int) < 2147483579 by decide)
          omega
        · exact rest _ _ ⟨_, rfl, st1.trans (Step.put _ _ _)⟩
  · refine ⟨_, rfl, b, _, 1, .int f0, rfl, rfl, SqL.of hb, rfl, rfl, _, rfl, ?_⟩
    refine ite2 (fun e => ?_) (fun e => ?_)
    · refine ⟨_, rfl, b, _, 0, .int a0, rfl, rfl, SqL.of hb, rfl, _, rfl, (by show 2 ≤ sizeLine; decide), fun t ht => ?_⟩
      have hb2 : upd H t (.tup [.int 0, .int (-1)]) b = some (.lst [.int a0, .int f0, .int m]) := by rw [upd_ne (ne_of_none hb ht)]; exact hb
      refine ⟨t, _, rfl, .inr (SqT.of upd_same), rfl, rfl, _, rfl, ?_⟩
      refine ite2 (fun e => ?_) (fun e => ?_)
      · refine ⟨_, rfl, b, _, 2, .int m, rfl, rfl, SqL.of hb2, rfl, _, rfl, b, _, 0, 0, rfl, rfl, hb2, rfl, ?_⟩
        refine ⟨_, rfl, b, _, 1, 1, rfl, rfl, upd_same, rfl, ?_⟩
        exact rest _ _ ⟨rfl, ((Step.new ⟨_, _, _, hb⟩ ht).trans (Step.put _ _ _)).trans (Step.put _ _ _)⟩
      · exact rest _ _ ⟨rfl, Step.new ⟨_, _, _, hb⟩ ht⟩
    · refine iteF ?_
      exact rest _ _ ⟨rfl, Step.refl ⟨_, _, _, hb⟩⟩
end
end D

set_option Elab.async false
set_option linter.all false
set_option maxRecDepth 100000
set_option maxHeartbeats 4000000
namespace D
open PySem L2
/-! ### worths -/
inductive W where
  | num (i : Int)
  | txt (x : Str)
  | lst (ws : List W)
mutual
def W.size : W → Int
  | .num _ => 1
  | .txt x => 1 + (x.length : Int)
  | .lst ws => 1 + sizes ws
def sizes : List W → Int
  | [] => 0
  | w :: r => w.size + sizes r
end
mutual
def W.depth : W → Nat
  | .num _ => 0
  | .txt _ => 0
  | .lst ws => 1 + depths ws
def depths : List W → Nat
  | [] => 0
  | w :: r => max w.depth (depths r)
end
mutual
def W.Ok : W → Prop
  | .num i => -(10 ^ 60) < i ∧ i < 10 ^ 60
  | .txt x => x.length ≤ 400 ∧ Signs x
  | .lst ws => ws.length ≤ 60 ∧ Oks ws
def Oks : List W → Prop
  | [] => True
  | w :: r => w.Ok ∧ Oks r
end
/-- v stands for w -/
inductive RW (H : Hp) : V → W → Prop where
  | num (i : Int) : RW H (.int i) (.num i)
  | txt (x : Str) : RW H (.str x) (.txt x)
  | lst {a : Addr} {vs : List V} {ws : List W} : H a = some (.tup vs) → vs.length = ws.length → (∀ (i : Nat) (v : V) (w : W), vs[i]? = some v → ws[i]? = some w → RW H v w) → RW H (.ref a) (.lst ws)
structure RWs (H : Hp) (vs : List V) (ws : List W) : Prop where
  len : vs.length = ws.length
  at' : ∀ (i : Nat) (v : V) (w : W), vs[i]? = some v → ws[i]? = some w → RW H v w
def Tups (H H' : Hp) : Prop := ∀ a vs, H a = some (.tup vs) → H' a = some (.tup vs)
theorem RW.mono {H H' : Hp} (t : Tups H H') {v : V} {w : W} (h : RW H v w) : RW H' v w := by
  induction h with
  | num i => exact .num i
  | txt x => exact .txt x
  | lst e l _ ih => exact .lst (t _ _ e) l ih
theorem RWs.mono {H H' : Hp} (t : Tups H H') {vs : List V} {ws : List W} (h : RWs H vs ws) : RWs H' vs ws := ⟨h.len, fun i v w a b => (h.at' i v w a b).mono t⟩
theorem RWs.snoc {H : Hp} {vs : List V} {ws : List W} {v : V} {w : W} (h : RWs H vs ws) (x : RW H v w) : RWs H (vs ++ [v]) (ws ++ [w]) := by
  refine ⟨by rw [List.length_append, List.length_append, h.len]; rfl, fun i v' w' a b => ?_⟩
  by_cases hi : i < vs.length
  · rw [List.getElem?_append_left hi] at a
    rw [List.getElem?_append_left (h.len ▸ hi)] at b
    exact h.at' i v' w' a b
  · rw [List.getElem?_append_right (by omega)] at a
    rw [List.getElem?_append_right (by have := h.len; omega)] at b
    have hi0 : i - vs.length = 0 := by
      have := (List.getElem?_eq_some_iff.mp a).1
      simp at this
      omega
    have hi1 : i - ws.length = 0 := by have := h.len; omega
    rw [hi0] at a
    rw [hi1] at b
    have e1 : v = v' := by simpa using a
    have e2 : w = w' := by simpa using b
    rw [← e1, ← e2]
    exact x
theorem Step.tups {b : Addr} {H H' : Hp} (x : Step b H H') (hb : IsBox H b) : Tups H H' := fun a vs e => x.keepN hb e (fun _ _ _ z => nomatch z)
/-! ### texts and numbers drawn -/
def signsA : Str := Str.ofString " !#$&'()*+,-./0123456789:;<=>?@ABCDEFGHIJKLMNOPQRSTUVWXYZ"
def signsB : Str := Str.ofString "[\\]^_`abcdefghijklmnopqrstuvwxyz{|}~"
theorem signs_len : (signsA ++ signsB).length = 93 := by decide +kernel
theorem signs_all : ∀ c ∈ (signsA ++ signsB).cps.toList, 32 ≤ c ∧ c ≤ 126 ∧ c ≠ 34 ∧ c ≠ 37 := by decide +kernel
theorem str_len (x : Str) : x.cps.toList.length = x.length := by simp [Str.length]
theorem str_app (x y : Str) : (x ++ y).cps.toList = x.cps.toList ++ y.cps.toList := by
  show (x.cps ++ y.cps).toList = _
  simp
theorem str_app_len (x y : Str) : (x ++ y).length = x.length + y.length := by
  rw [← str_len, str_app, List.length_append, str_len, str_len]
mutual
theorem size_pos : ∀ w : W, 1 ≤ w.size
  | .num _ => by simp [W.size]
  | .txt x => by simp only [W.size]; omega
  | .lst ws => by have := sizes_nn ws; simp only [W.size]; omega
theorem sizes_nn : ∀ ws : List W, 0 ≤ sizes ws
  | [] => by simp [sizes]
  | w :: r => by have h1 := size_pos w; have h2 := sizes_nn r; simp only [sizes]; omega
end
section
variable {P : Program} {w : World} {K : PySem.W.Frag} {mg : Str → Option Value} {base : Heap} {f : Addr} {fd : FuncData} {k : Nat}
theorem scText : FnScope ["_law_box_here", "_law_most", "_law_signs", "_law_found", "_law_k"] ["_law_box_here", "_law_most"] (defScope sText) := ⟨rfl, rfl, rfl, by decide +kernel, rfl, by decide +kernel, by decide +kernel⟩
theorem small {n : Nat} (h : n ≤ 1000000) : n ≤ sizeLine := Nat.le_trans h (by decide)
theorem ok_text (F : Fun K "_law_text" "_law_text" sText f fd) (G_ltake : Have P w K mg base "_law_take" k ["_law_box_here", "_law_wide"] spTake) (m_len : mg "len" = none) (m_range : mg "range" = none) :
    FnOk P w K mg base CX0 (k + 1) f fd ["_law_box_here", "_law_most"] spText := by
  refine F.ok scText (fun vs H Q E h => ?_) (fun cdv A outer s H vs Q E hr h => ?_)
  · obtain ⟨b, n, rfl, _⟩ := h
    rfl
  obtain ⟨b, n, rfl, hb, hn, hn2, q⟩ := h
  refine ⟨_, (pss_cons (ps_set (i := 2) scText.nd rfl (Or.inl rfl) pe_str)
    (pss_cons (ps_set (i := 2) scText.nd rfl (Or.inl rfl) (pe_op op_add_str (pv 2) pe_str))
    (pss_cons (ps_set (i := 3) scText.nd rfl (Or.inl rfl) pe_str)
    (pss_cons (ps_for PassesOwn.never rfl (pi_range1 rfl m_range (pa_cons (pe_fn G_ltake hr rfl (pa_cons (pv 0) (pa_cons (pe_op op_add (pv 1) pe_int) pa_nil))) pa_nil)) (pg_name (i := 4) scText.nd rfl (Or.inl rfl)) (pss_one (ps_set (i := 3) scText.nd rfl (Or.inl rfl) (pe_op op_add_str (pv 3) (pe_ix ix_str (pv 2) (pe_fn G_ltake hr rfl (pa_cons (pv 0) (pa_cons (pe_callB call_len rfl m_len PySem.boot_len (pa_cons (pv 2) pa_nil)) pa_nil))) (fun _ _ => rfl))))))
    (pss_one (ps_ret (pv 3))))))), ?_⟩
  refine ⟨_, rfl, signsA, signsB, rfl, rfl, small (by decide +kernel), ?_⟩
  refine ⟨_, rfl, _, rfl, _, _, rfl, rfl, b, n + 1, rfl, hb, by omega, by omega, fun r H1 h0 h1 st => ?_⟩
  refine ⟨r, rfl, by omega, by omega, for_range (n := r.toNat) (fun i σ' H' => ∃ (x : Str) (o : Option V), σ' = [some (.ref b), some (.int n), some (.str (signsA ++ signsB)), some (.str x), o] ∧ x.length = i ∧ Signs x ∧ Step b H H')
    ⟨Str.ofString "", none, rfl, rfl, ?_, st⟩ (fun i σ' H' hi h => ?_) (fun σ' H' h => ?_)⟩
  · intro c hc
    have e0 : (Str.ofString "").cps.toList = [] := by decide +kernel
    rw [e0] at hc
    cases hc
  · obtain ⟨x, o, rfl, hx, sx, st1⟩ := h
    refine ⟨_, rfl, _, rfl, _, rfl, _, rfl, _, _, rfl, ⟨small (by rw [signs_len]; decide), rfl⟩, b, _, rfl, st1.box, by rw [signs_len]; decide, by rw [signs_len]; decide, fun r2 H2 r0 r1 st2 => ?_⟩
    rw [signs_len] at r1
    have hr2 : r2.toNat < (signsA ++ signsB).cps.toList.length := by rw [str_len, signs_len]; omega
    have er2 : r2 = ((r2.toNat : Nat) : Int) := by omega
    have a1 : atI (signsA ++ signsB).cps.toList ((r2.toNat : Nat) : Int) = some (signsA ++ signsB).cps.toList[r2.toNat] := atI_nat (List.getElem?_eq_getElem hr2)
    rw [← er2] at a1
    refine ⟨_, r2, _, rfl, rfl, small (by rw [signs_len]; decide), a1, x, _, rfl, rfl, small ?_, ?_⟩
    · have : (Str.mk #[(signsA ++ signsB).cps.toList[r2.toNat]]).length = 1 := rfl
      rw [this]
      omega
    · refine ⟨_, _, rfl, ?_, ?_, st1.trans st2⟩
      · rw [str_app_len, hx]
        rfl
      · intro c hc
        rw [str_app] at hc
        rcases List.mem_append.mp hc with hc | hc
        · exact sx c hc
        · have : c = (signsA ++ signsB).cps.toList[r2.toNat] := by simpa using hc
          rw [this]
          exact signs_all _ (List.getElem_mem _)
  · obtain ⟨x, o, rfl, hx, sx, st1⟩ := h
    exact ⟨_, rfl, q x H' (by omega) sx st1⟩
/-! ### a worth drawn -/
def spWorth (n : Nat) : Sp := fun vs H Q _ => ∃ (b : Addr) (room deep : Int), vs = [.ref b, .int room, .int deep] ∧ IsBox H b ∧ 1 ≤ room ∧ room < 1000 ∧ 0 ≤ deep ∧ deep < n ∧
  ∀ (v : V) (x : W) (H' : Hp), RW H' v x → x.Ok → (x.depth : Int) ≤ deep → x.size ≤ 16 * room → Step b H H' → Q v H'
end
end D

set_option Elab.async false
set_option linter.all false
set_option maxRecDepth 100000
set_option maxHeartbeats 4000000
namespace L2
open PySem PySem.Spec PyProof.Rows PySem.Builtin
section
variable {prog : Program} {w : World} {A : Around} {E : Value → Shared → Prop} {s : Shared}
end
/-- t * k, t of one item or more, k above 1 -/
def rRepT (K : PySem.W.Frag) : R2 := fun x y H Q => ∃ (a : Addr) (k : Int) (xs : List V), x = .ref a ∧ y = .int k ∧ SqT K H a xs ∧ xs ≠ [] ∧ 1 < k ∧ k < 1000000 ∧ xs.length * k.toNat ≤ 1000000 ∧ ∀ p, H p = none → Q (.ref p) (upd H p (.tup (List.replicate k.toNat xs).flatten))
/-- () + t -/
theorem op_catT0 {X : Cx} : OpR X (binaryOp .Add) (fun x y H Q => ∃ (a b : Addr) (ys : List V), x = .ref a ∧ y = .ref b ∧ SqT X.K H a [] ∧ SqT X.K H b ys ∧ Q (.ref b) H) := by
  intro pins s σ H x y v u Q I rx ry h
  obtain ⟨a, b, ys, rfl, rfl, ha, hb, q⟩ := h
  cases rx
  cases ry
  obtain ⟨its, r1, p1, _⟩ := I.tuple ha
  obtain ⟨its2, r2, p2, _⟩ := I.tuple hb
  have e0 : its = [] := by cases r1; rfl
  subst e0
  obtain ⟨⟨cls, dd, data, sl⟩, ho, hc, n, hd⟩ := id p1
  obtain ⟨⟨cls2, dd2, data2, sl2⟩, ho2, hc2, n2, hd2⟩ := id p2
  simp only at hc hd hc2 hd2
  subst hc hd hc2 hd2
  exact concat_meets ⟨_, ho, rfl⟩ ⟨_, ho2, rfl⟩ noFill_tuple_add seq_tuple_add PySem.F.slot_tuple_add PySem.F.entry_tuple_add (PySem.F.args_tuple_add_2 _ _)
    (tuple_addW0 a b #[] its2.toArray n n2 dd dd2 sl sl2 rfl) ⟨ho, ho2, ⟨.ref b, H, I, rfl, q⟩⟩
end L2

set_option Elab.async false
set_option linter.all false
set_option maxRecDepth 100000
set_option maxHeartbeats 4000000
namespace L2
open PySem PySem.Spec PyProof.Rows
end L2
namespace D
open PySem L2
/-! ### worths that are equal -/
mutual
def eqW : W → W → Bool
  | .num i, .num j => i == j
  | .txt x, .txt y => x == y
  | .lst ws, .lst zs => eqWs ws zs
  | .num _, .txt _ => false
  | .num _, .lst _ => false
  | .txt _, .num _ => false
  | .txt _, .lst _ => false
  | .lst _, .num _ => false
  | .lst _, .txt _ => false
def eqWs : List W → List W → Bool
  | [], [] => true
  | w :: r, z :: s => eqW w z && eqWs r s
  | [], _ :: _ => false
  | _ :: _, [] => false
end
mutual
theorem eqW_refl : ∀ w : W, eqW w w = true
  | .num i => by simp [eqW]
  | .txt x => by simp [eqW]
  | .lst ws => eqWs_refl ws
theorem eqWs_refl : ∀ ws : List W, eqWs ws ws = true
  | [] => rfl
  | w :: r => by simp only [eqWs, eqW_refl w, eqWs_refl r, Bool.and_self]
end
mutual
theorem eqW_symm : ∀ w z : W, eqW w z = eqW z w
  | .num i, .num j => by simp only [eqW]; exact BEq.comm
  | .txt x, .txt y => by simp only [eqW]; exact BEq.comm
  | .lst ws, .lst zs => by simp only [eqW]; exact eqWs_symm ws zs
  | .num _, .txt _ => rfl
  | .num _, .lst _ => rfl
  | .txt _, .num _ => rfl
  | .txt _, .lst _ => rfl
  | .lst _, .num _ => rfl
  | .lst _, .txt _ => rfl
theorem eqWs_symm : ∀ ws zs : List W, eqWs ws zs = eqWs zs ws
  | [], [] => rfl
  | w :: r, z :: s => by simp only [eqWs, eqW_symm w z, eqWs_symm r s]
  | [], _ :: _ => rfl
  | _ :: _, [] => rfl
end
theorem RW.inj {H : Hp} {v : V} {x : W} (h : RW H v x) : ∀ {y : W}, RW H v y → x = y := by
  induction h with
  | num i => intro y g; cases g; rfl
  | txt z => intro y g; cases g; rfl
  | @lst a vs ws e l _ ih =>
    intro y g
    cases g with
    | @lst _ vs2 zs e2 l2 at2 =>
      rw [e] at e2
      cases e2
      congr 1
      refine List.ext_getElem (by omega) fun i h1 h2 => ?_
      exact ih i vs[i] ws[i] (List.getElem?_eq_getElem (by omega)) (List.getElem?_eq_getElem h1) (at2 i vs[i] zs[i] (List.getElem?_eq_getElem (by omega)) (List.getElem?_eq_getElem h2))
end D

set_option Elab.async false
set_option linter.all false
set_option maxRecDepth 100000
set_option maxHeartbeats 4000000
namespace L2
open PySem PySem.Spec PyProof.Rows
/-- isinstance, of a tuple that the module holds too -/
def rIsiS (K : PySem.W.Frag) (xs : List V) (H : Hp) (Q : VK) : Prop := ∃ v T A b, xs = [v, .ty T] ∧ (TyOf K H v (.type A) ∨ (A = "tuple" ∧ ∃ a ys, v = .ref a ∧ SqT K H a ys)) ∧ isi A T = some b ∧ Q (.bl b) H
theorem slice_mem (x : Str) (l u : Option Int) : ∀ c ∈ (Txt.slice x l u).cps.toList, c ∈ x.cps.toList := by
  intro c hc
  unfold Txt.slice at hc
  split at hc
  · exact hc
  · rw [List.toList_toArray] at hc
    obtain ⟨i, _, e⟩ := List.mem_filterMap.mp hc
    have e2 : x.cps.toList[i]? = some c := by simpa using e
    exact List.mem_of_getElem? e2
theorem isi_tb : isi "tuple" "bool" = some false := by decide +kernel
theorem isi_sb : isi "str" "bool" = some false := by decide +kernel
theorem boot_listT : bootBuiltins (Str.ofString "list") = some (.type "list") := by kernel_rfl
end L2

set_option Elab.async false
set_option linter.all false
set_option maxRecDepth 100000
set_option maxHeartbeats 4000000
namespace L2
open PySem PySem.Spec PyProof.Rows
section
variable {prog : Program} {w : World} {A : Around} {E : Value → Shared → Prop} {s : Shared}
open HT in
end
end L2
namespace D
open PySem L2
end D

set_option Elab.async false
set_option linter.all false
set_option maxRecDepth 100000
set_option maxHeartbeats 4000000
namespace L2
open PySem PySem.Spec PyProof.Rows
structure QSs (X : Cx) (st : List Stmt) (t : TS) : Prop where
  un : PSs X st t
structure QIfs (X : Cx) (ifs : List Expr) (t : TT) : Prop where
  un : PIfs X ifs t
structure QPs (X : Cx) (pos : Pos) (keys : List (Option Expr)) (values : List Expr) (trs : List (TE × TE)) : Prop where
  un : PPs X pos keys values trs
structure QGs (X : Cx) (ts : List Expr) (t : TGs) : Prop where
  un : PGs X ts t
structure QE (X : Cx) (e : Expr) (t : TE) : Prop where
  un : PE X e t
structure QT (X : Cx) (e : Expr) (t : TT) : Prop where
  un : PT X e t
structure QW (X : Cx) (e : Expr) (t : TT) : Prop where
  un : PW X e t
structure QA (X : Cx) (es : List Expr) (t : TA) : Prop where
  un : PA X es t
structure QS (X : Cx) (st : Stmt) (t : TS) : Prop where
  un : PS X st t
structure QI (X : Cx) (tg iter : Expr) (wi : TI) : Prop where
  un : PI X tg iter wi
structure QG (X : Cx) (tg : Expr) (t : TG) : Prop where
  un : PG X tg t
structure QO (X : Cx) (e : Option Expr) (t : TO) : Prop where
  un : PO X e t
structure QC (X : Cx) (op : CmpOp) (a b : Expr) (t : TE) : Prop where
  un : PC X op a b t
theorem Fun.okQ {P : Program} {w : World} {K : PySem.W.Frag} {mg : Str → Option Value} {base : Heap} {x qual : Str} {st : Stmt} {f : Addr} {fd : FuncData} {N ps : List Str} {k : Nat} {sp : Sp} (F : Fun K x qual st f fd) (sc : FnScope N ps (defScope st)) (h1 : ∀ (vs : List V) (H : Hp) (Q : VK) (E : XK), sp vs H Q E → vs.length = ps.length)
    (h2 : ∀ (cdv : Value) (A : Around) (outer : List Env) (s : Shared) (H : Hp) (vs : List V) (Q : VK) (E : XK), Room k (A.deeper (PyProof.Rows.envOfC qual (defScope st) s.heap.objs.size f cdv)) → sp vs H Q E →
      ∃ t : TS, QSs (cxOf CX0 P w K mg base N qual (defScope st) f cdv A outer s H E).nox (defBody st) t ∧ t { nx := fun _ H' => Q V.non H', rt := Q } (L2.start N vs) H) : FnOk P w K mg base CX0 (k + 1) f fd ps sp :=
  F.ok sc h1 fun cdv A outer s H vs Q E hr h => let ⟨t, a, b⟩ := h2 cdv A outer s H vs Q E hr h; ⟨t, a.un, b⟩
end L2
namespace D
open PySem L2
theorem pss_nil {X : Cx}  : QSs X [] tNext := ⟨L2.pss_nil ⟩
theorem pss_cons {X : Cx} {st : Stmt} {rest : List Stmt} {t u : TS} (h0 : QS X st t) (h1 : QSs X rest u) : QSs X (st :: rest) (tSeq t u) := ⟨L2.pss_cons h0.un h1.un⟩
theorem pss_one {X : Cx} {st : Stmt} {t : TS} (h0 : QS X st t) : QSs X [st] t := ⟨L2.pss_one h0.un⟩
theorem ps_ret {X : Cx} {e : Expr} {te : TE} {pos : Pos} (h0 : QE X e te) : QS X (Stmt.Return (some e) pos) (tRet te) := ⟨L2.ps_ret h0.un⟩
theorem ps_if {X : Cx} {t u : TS} {pos : Pos} {c : Expr} {a b : List Stmt} {tc : TT} (h0 : QT X c tc) (h1 : QSs X a t) (h2 : QSs X b u) : QS X (Stmt.If c a b pos) (tIfS tc t u) := ⟨L2.ps_if h0.un h1.un h2.un⟩
theorem ps_set {X : Cx} {pos : Pos} {i : Nat} {x : Str} {e : Expr} {te : TE} {pos' : Pos} (h0 : X.N.Nodup) (h1 : X.N[i]? = some x) (h2 : L2.Loc X.env.scope x) (h3 : QE X e te) (h4 : autoParam (swapsWith e (some (Expr.Name x pos')) pos.line X.env = pure false) L2.ps_set._auto_1) (h5 : autoParam (X.fn x = true ∨ List.lookup x X.env.scope.names = some NameKind.local) L2.ps_set._auto_2) : QS X (Stmt.Assign [Expr.Name x pos'] e pos) (tAsg te (gName i)) := ⟨L2.ps_set h0 h1 h2 h3.un h4 h5⟩
theorem ps_asg {X : Cx} {pos : Pos} {tg e : Expr} {te : TE} {g : TG} (h0 : QE X e te) (h1 : QG X tg g) (h2 : autoParam (swapsWithSole [tg] e pos.line X.env = pure false) L2.ps_asg._auto_1) (h3 : autoParam (swappedStores [tg] e X.env = pure none) L2.ps_asg._auto_2) (h4 : autoParam (List.map (fun (x : Bool × (Value → Sem Unit)) => x.snd) (assignEach [tg] X.env) = [assign tg X.env]) L2.ps_asg._auto_3) : QS X (Stmt.Assign [tg] e pos) (tAsg te g) := ⟨L2.ps_asg h0.un h1.un h2 h3 h4⟩
theorem ps_expr {X : Cx} {e : Expr} {te : TE} {pos : Pos} (h0 : QE X e te) (h1 : autoParam (swapsWith e none pos.line X.env = pure false) L2.ps_expr._auto_1) : QS X (Stmt.Expr e pos) (tDrop te) := ⟨L2.ps_expr h0.un h1⟩
theorem ps_for {X : Cx} {tg iter : Expr} {body : List Stmt} {wi : TI} {g : TG} {tb : TS} {pos : Pos} (h0 : PassesOwn (model X.prog X.w) X.A X.env X.xe) (h1 : X.calm = true) (h2 : QI X tg iter wi) (h3 : QG X tg g) (h4 : QSs X body tb) (h5 : autoParam (∀ (x : Value), foldedSetIterable iter X.env x = pure x) L2.ps_for._auto_1) : QS X (Stmt.For tg iter body [] pos) (tFor wi g tb) := ⟨L2.ps_for h0 h1 h2.un h3.un h4.un h5⟩
theorem pe_int {X : Cx} {i : Int} {j : Nat} {pos : Pos}  : QE X (Expr.Constant (Const.int i) j pos) (tC (V.int i)) := ⟨L2.pe_int ⟩
theorem pe_str {X : Cx} {x : Str} {j : Nat} {pos : Pos}  : QE X (Expr.Constant (Const.str x) j pos) (tC (V.str x)) := ⟨L2.pe_str ⟩
theorem pe_bl {X : Cx} {b : Bool} {j : Nat} {pos : Pos}  : QE X (Expr.Constant (Const.bool b) j pos) (tC (V.bl b)) := ⟨L2.pe_bl ⟩
theorem pe_non {X : Cx} {j : Nat} {pos : Pos}  : QE X (Expr.Constant Const.none j pos) (tC V.non) := ⟨L2.pe_non ⟩
theorem pv {X : Cx} (i : Nat) {x : Str} {pos : Pos} (h0 : autoParam (X.N[i]? = some x) L2.pv._auto_1) (h1 : autoParam (Vis X.env.scope x) L2.pv._auto_2) (h2 : autoParam ((x == Str.ofString "__debug__") = false) L2.pv._auto_3) (h3 : autoParam ((x == Str.ofString "__classdict__") = false) L2.pv._auto_4) : QE X (Expr.Name x pos) (tVar i) := ⟨L2.pv i h0 h1 h2 h3⟩
theorem pe_ty {X : Cx} {x : Str} {T : String} {pos : Pos} (h0 : Gl X x) (h1 : X.mg x = none) (h2 : bootBuiltins x = some (Value.type T)) (h3 : autoParam (x ≠ Str.ofString "__name__") L2.pe_ty._auto_1) (h4 : autoParam ((x == Str.ofString "__debug__") = false) L2.pe_ty._auto_2) : QE X (Expr.Name x pos) (tC (V.ty T)) := ⟨L2.pe_ty h0 h1 h2 h3 h4⟩
theorem pe_op {X : Cx} {a b : Expr} {ta tb : TE} {pos : Pos} {op : Operator} {r : R2} (h0 : OpR X (binaryOp op) r) (h1 : QE X a ta) (h2 : QE X b tb) : QE X (a.BinOp op b pos) (tOp r ta tb) := ⟨L2.pe_op h0 h1.un h2.un⟩
theorem pe_un {X : Cx} {a : Expr} {ta : TE} {pos : Pos} {op : UnaryOp} {r : V → Hp → VK → Prop} (h0 : UnR X (unaryOp op) r) (h1 : QE X a ta) : QE X (Expr.UnaryOp op a pos) (tUn r ta) := ⟨L2.pe_un h0 h1.un⟩
theorem pe_cmpR {X : Cx} {a b : Expr} {ta tb : TE} {pos : Pos} {op : CmpOp} {r : R2} (h0 : OpR X (compareOp op) r) (h1 : QE X a ta) (h2 : QE X b tb) (h3 : behindInMarks op b = false) : QE X (a.Compare [op] [b] pos) (tOp r ta tb) := ⟨L2.pe_cmpR h0 h1.un h2.un h3⟩
theorem pt_cmpR {X : Cx} {a b : Expr} {ta tb : TE} {pos : Pos} {op : CmpOp} {r : R2} (h0 : OpR X (compareOp op) r) (h1 : QE X a ta) (h2 : QE X b tb) (h3 : behindInMarks op b = false) : QT X (a.Compare [op] [b] pos) (tTest (tOp r ta tb)) := ⟨L2.pt_cmpR h0 h1.un h2.un h3⟩
theorem pe_cmp {X : Cx} {a b : Expr} {pos : Pos} {op : CmpOp} {t : TE} (h0 : QC X op a b t) (h1 : autoParam (behindInMarks op b = false) L2.pe_cmp._auto_1) : QE X (a.Compare [op] [b] pos) t := ⟨L2.pe_cmp h0.un h1⟩
theorem pt_cmp {X : Cx} {a b : Expr} {pos : Pos} {op : CmpOp} {t : TE} (h0 : QC X op a b t) (h1 : autoParam (behindInMarks op b = false) L2.pt_cmp._auto_1) : QT X (a.Compare [op] [b] pos) (tB t) := ⟨L2.pt_cmp h0.un h1⟩
theorem pe_and {X : Cx} {a b : Expr} {ta tb : TE} {pos : Pos} {rest : List Expr} (h0 : QE X a ta) (h1 : QE X (Expr.BoolOp BoolOp.And (b :: rest) pos) tb) : QE X (Expr.BoolOp BoolOp.And (a :: b :: rest) pos) (tAndV ta tb) := ⟨L2.pe_and h0.un h1.un⟩
theorem pe_one {X : Cx} {a : Expr} {pos : Pos} {op : BoolOp} {t : TE} (h0 : QE X a t) : QE X (Expr.BoolOp op [a] pos) t := ⟨L2.pe_one h0.un⟩
theorem pe_not {X : Cx} {a : Expr} {ta : TE} {pos : Pos} (h0 : QE X a ta) : QE X (Expr.UnaryOp UnaryOp.Not a pos) (tNotV ta) := ⟨L2.pe_not h0.un⟩
theorem pt_val {X : Cx} {e : Expr} {t : TE} (h : QE X e t) (he : ∀ whole, isTrue e X.env whole = (do let v ← whole; standAt e.pos; holding [v] (truthy v)) := by intro _; rfl) : QT X e (tB t) := ⟨L2.pt_val h.un he⟩
theorem pt_not {X : Cx} {a : Expr} {pos : Pos} {tA : TT} (h0 : QT X a tA) : QT X (Expr.UnaryOp UnaryOp.Not a pos) (tNot tA) := ⟨L2.pt_not h0.un⟩
theorem pw_and {X : Cx} {a b : Expr} {pos : Pos} {tA tB' : TT} {rest : List Expr} (h0 : QT X a tA) (h1 : QW X (Expr.BoolOp BoolOp.And (b :: rest) pos) tB') : QW X (Expr.BoolOp BoolOp.And (a :: b :: rest) pos) (tAnd tA tB') := ⟨L2.pw_and h0.un h1.un⟩
theorem pw_and1 {X : Cx} {a : Expr} {pos : Pos} {tA : TT} (h0 : QT X a tA) : QW X (Expr.BoolOp BoolOp.And [a] pos) tA := ⟨L2.pw_and1 h0.un⟩
theorem pw_or {X : Cx} {a b : Expr} {pos : Pos} {tA tB' : TT} {rest : List Expr} (h0 : QT X a tA) (h1 : QW X (Expr.BoolOp BoolOp.Or (b :: rest) pos) tB') : QW X (Expr.BoolOp BoolOp.Or (a :: b :: rest) pos) (tOr tA tB') := ⟨L2.pw_or h0.un h1.un⟩
theorem pw_or1 {X : Cx} {a : Expr} {pos : Pos} {tA : TT} (h0 : QT X a tA) : QW X (Expr.BoolOp BoolOp.Or [a] pos) tA := ⟨L2.pw_or1 h0.un⟩
theorem PW.pt {X : Cx} {e : Expr} {t : TT} (h0 : QW X e t) : QT X e t := ⟨L2.PW.pt h0.un⟩
theorem pe_fn {X : Cx} {x : Str} {k : Nat} {ps : List Str} {sp : Sp} {e : Expr} {es : List Expr} {t : TA} {p pos : Pos} (h0 : Have X.prog X.w X.K X.mg X.base x k ps sp) (h1 : Room k X.A) (h2 : Gl X x) (h3 : QA X (e :: es) t) (h4 : autoParam ((x == Str.ofString "__debug__") = false) L2.pe_fn._auto_1) (h5 : autoParam (starEach (e :: es) X.env = (false, eval e X.env) :: starEach es X.env) L2.pe_fn._auto_2) (h6 : autoParam (((backTo pos (starEach es X.env)).any fun (x : Bool × Sem Value) => x.fst) = false) L2.pe_fn._auto_3) : QE X ((Expr.Name x p).Call (e :: es) [] pos) (tCall sp [] E0 t) := ⟨L2.pe_fn h0 h1 h2 h3.un h4 h5 h6⟩
theorem pe_callB {X : Cx} {x : Str} {p pos : Pos} {e : Expr} {es : List Expr} {t : TA} {id : String} {r : List V → Hp → VK → Prop} (h0 : CallR X (Value.builtin id) r) (h1 : Gl X x) (h2 : X.mg x = none) (h3 : bootBuiltins x = some (Value.builtin id)) (h4 : QA X (e :: es) t) (h5 : autoParam (x ≠ Str.ofString "__name__") L2.pe_callB._auto_1) (h6 : autoParam ((x == Str.ofString "__debug__") = false) L2.pe_callB._auto_2) (h7 : autoParam (starEach (e :: es) X.env = (false, eval e X.env) :: starEach es X.env) L2.pe_callB._auto_3) (h8 : autoParam (((backTo pos (starEach es X.env)).any fun (x : Bool × Sem Value) => x.fst) = false) L2.pe_callB._auto_4) : QE X ((Expr.Name x p).Call (e :: es) [] pos) (tCB r t) := ⟨L2.pe_callB h0 h1 h2 h3 h4.un h5 h6 h7 h8⟩
theorem pe_callTy {X : Cx} {x : Str} {p pos : Pos} {e : Expr} {es : List Expr} {t : TA} {T : String} {r : List V → Hp → VK → Prop} (h0 : CallR X (Value.type T) r) (h1 : Gl X x) (h2 : X.mg x = none) (h3 : bootBuiltins x = some (Value.type T)) (h4 : QA X (e :: es) t) (h5 : autoParam (x ≠ Str.ofString "__name__") L2.pe_callTy._auto_1) (h6 : autoParam ((x == Str.ofString "__debug__") = false) L2.pe_callTy._auto_2) (h7 : autoParam (starEach (e :: es) X.env = (false, eval e X.env) :: starEach es X.env) L2.pe_callTy._auto_3) (h8 : autoParam (((backTo pos (starEach es X.env)).any fun (x : Bool × Sem Value) => x.fst) = false) L2.pe_callTy._auto_4) : QE X ((Expr.Name x p).Call (e :: es) [] pos) (tCB r t) := ⟨L2.pe_callTy h0 h1 h2 h3 h4.un h5 h6 h7 h8⟩
theorem pe_bm {X : Cx} {o e : Expr} {es : List Expr} {to : TE} {t : TA} {name : Str} {apos cpos : Pos} {T id : String} {r : V → List V → Hp → VK → Prop} (pa : PlainAttrs T) (slot : Slot T name id) (hty : typeOf (.builtin id) = pure (.type "method_descriptor")) (hm : MtR X id r) (ho : QE X o to) (ha : QA X (e :: es) t)
    (hbase : attributeBase o name X.env (eval o X.env) = eval o X.env := by rfl)
    (hfew : ((backTo cpos (starEach (e :: es) X.env)).all (fun x => !x.1) && (backToKw cpos (keywordEach [] X.env)).all (fun x => x.1.isSome)
      && decide ((e :: es).length + ([] : List Keyword).length + (if ([] : List Keyword).isEmpty then 0 else 1) < 30)) = true := by rfl)
    (hline : (apos.endLine == cpos.line) = true := by rfl) (hs : starEach (e :: es) X.env = (false, eval e X.env) :: starEach es X.env := by rfl) (hplain : (backTo cpos (starEach es X.env)).any (·.1) = false := by rfl) :
    QE X (.Call (.Attribute o name apos) (e :: es) [] cpos) (tBM X.K T r to t) := ⟨L2.pe_bm pa slot hty hm ho.un ha.un hbase hfew hline hs hplain⟩
theorem pe_bm0 {X : Cx} {o : Expr} {to : TE} {name : Str} {apos cpos : Pos} {T id : String} {r : V → List V → Hp → VK → Prop} (h0 : PlainAttrs T) (h1 : Slot T name id) (h2 : typeOf (Value.builtin id) = pure (Value.type "method_descriptor")) (h3 : MtR X id r) (h4 : QE X o to) (h5 : autoParam (attributeBase o name X.env (eval o X.env) = eval o X.env) L2.pe_bm0._auto_1) (h6 : autoParam ((apos.endLine == cpos.line) = true) L2.pe_bm0._auto_2) : QE X ((o.Attribute name apos).Call [] [] cpos) (tBM0 X.K T r to) := ⟨L2.pe_bm0 h0 h1 h2 h3 h4.un h5 h6⟩
theorem pe_ix {X : Cx} {a b : Expr} {ta tb : TE} {pos : Pos} {r : R2} (h0 : IxR X r) (h1 : QE X a ta) (h2 : QE X b tb) (h3 : PlainIx b) : QE X (a.Subscript b pos) (tOp r ta tb) := ⟨L2.pe_ix h0 h1.un h2.un h3⟩
theorem pe_slice {X : Cx} {e : Expr} {te : TE} {lo hi : Option Expr} {tl th : TO} {pos p2 : Pos} {r : V → Option Int → Option Int → Hp → VK → Prop} (h0 : SlR X r) (h1 : QE X e te) (h2 : QO X lo tl) (h3 : QO X hi th) : QE X (e.Subscript (Expr.Slice lo hi none p2) pos) (tSl r te tl th) := ⟨L2.pe_slice h0 h1.un h2.un h3.un⟩
theorem po_none {X : Cx}  : QO X none tNoPart := ⟨L2.po_none ⟩
theorem po_some {X : Cx} {e : Expr} {te : TE} (h0 : QE X e te) : QO X (some e) (tPart te) := ⟨L2.po_some h0.un⟩
theorem pe_lst {X : Cx} {es : List Expr} {t : TA} {pos : Pos} (h0 : QA X es t) : QE X (Expr.List es pos) (tLst t) := ⟨L2.pe_lst h0.un⟩
theorem pe_tup {X : Cx} {es : List Expr} {t : TA} {pos : Pos} {x1 : Nat} (h0 : QA X es t) : QE X (Expr.Tuple es x1 pos) (tTup t) := ⟨L2.pe_tup h0.un⟩
theorem pa_nil {X : Cx}  : QA X [] tNil := ⟨L2.pa_nil ⟩
theorem pa_cons {X : Cx} {e : Expr} {es : List Expr} {te : TE} {t : TA} (h0 : QE X e te) (h1 : QA X es t) (h2 : autoParam (starEach (e :: es) X.env = (false, eval e X.env) :: starEach es X.env) L2.pa_cons._auto_1) : QA X (e :: es) (tCons te t) := ⟨L2.pa_cons h0.un h1.un h2⟩
theorem pc_isN {X : Cx} {a : Expr} {ta : TE} {j : Nat} {pos' : Pos} (h0 : QE X a ta) : QC X CmpOp.Is a (Expr.Constant Const.none j pos') (tIsN ta) := ⟨L2.pc_isN h0.un⟩
theorem pe_lcomp {X : Cx} {elt iter : Expr} {x : Str} {px pos : Pos} {ifs : List Expr} {scope : Scope} {cl : List (Str × Addr)} (fr : List Nat) (ys : List Str) {wi : TI} {tt : TT} {te : TE} (h0 : X.calm = true) (h1 : closureFor scope X.env = pure cl) (h2 : (∀ (y : Str × NameKind), y ∈ scope.names → y.snd ≠ NameKind.cell)) (h3 : scope.kind = ScopeKind.function) (h4 : (∀ (y : Str × NameKind), y ∈ scope.names → y.snd = NameKind.local → List.lookup y.fst scope.names = some NameKind.local)) (h5 : List.lookup x scope.names = some NameKind.local) (h6 : (x :: ys).Nodup) (h7 : ClOk cl X.env.cells) (h8 : (scope.names.all fun (y : Str × NameKind) => y.snd != NameKind.free || (List.lookup y.fst cl).isSome) = true) (h9 : FrOk X scope cl fr ys) (h10 : QI X (Expr.Name x px) iter wi) (h11 : (∀ (C : Addr) (s : Shared) (H : Hp) (fp : List Addr), QIfs (cxComp X scope cl (x :: ys) C s H fp) ifs tt ∧ QE (cxComp X scope cl (x :: ys) C s H fp) elt te)) (h12 : autoParam (∀ (v : Value), foldedSetIterable iter X.env v = pure v) L2.pe_lcomp._auto_1) : QE X (elt.ListComp [{ target := Expr.Name x px, iter := iter, ifs := ifs, is_async := 0 }] scope pos) (tLComp fr wi tt te) := ⟨L2.pe_lcomp fr ys h0 h1 h2 h3 h4 h5 h6 h7 h8 h9 h10.un (fun C s H fp => ⟨(h11 C s H fp).1.un, (h11 C s H fp).2.un⟩) h12⟩
theorem pifs_nil {X : Cx}  : QIfs X [] fun (x : St) (H : Hp) (Q : Bool → Hp → Prop) => Q true H := ⟨L2.pifs_nil ⟩
theorem pi_list {X : Cx} {tg l : Expr} {tl : TE} (h0 : QE X l tl) : QI X tg l (iList X.K tl) := ⟨L2.pi_list h0.un⟩
theorem pi_range1 {X : Cx} {tg a : Expr} {ta : TA} {p pos : Pos} (h0 : Gl X (Str.ofString "range")) (h1 : X.mg (Str.ofString "range") = none) (h2 : QA X [a] ta) (h3 : autoParam (starEach [a] X.env = [(false, eval a X.env)]) L2.pi_range1._auto_1) : QI X tg ((Expr.Name (Str.ofString "range") p).Call [a] [] pos) (iRng1 ta) := ⟨L2.pi_range1 h0 h1 h2.un h3⟩
theorem pg_name {X : Cx} {pos : Pos} {i : Nat} {x : Str} (h0 : X.N.Nodup) (h1 : X.N[i]? = some x) (h2 : L2.Loc X.env.scope x) (h3 : autoParam (X.fn x = true ∨ List.lookup x X.env.scope.names = some NameKind.local) L2.pg_name._auto_1) : QG X (Expr.Name x pos) (gName i) := ⟨L2.pg_name h0 h1 h2 h3⟩
theorem pg_tup {X : Cx} {pos : Pos} {es : List Expr} {k : Nat} {t : TGs} {n : Nat} (h0 : X.calm = true) (h1 : QGs X es t) (h2 : autoParam ((assignEach es X.env).length = n) L2.pg_tup._auto_1) (h3 : autoParam (List.findIdx? (fun (x : Bool × (Value → Sem Unit)) => x.fst) (assignEach es X.env) = none) L2.pg_tup._auto_2) : QG X (Expr.Tuple es k pos) (gTup X.K n t) := ⟨L2.pg_tup h0 h1.un h2 h3⟩
theorem pgs_nil {X : Cx}  : QGs X [] gNil := ⟨L2.pgs_nil ⟩
theorem pgs_cons {X : Cx} {e : Expr} {es : List Expr} {t : TG} {u : TGs} (h0 : QG X e t) (h1 : QGs X es u) (h2 : autoParam (List.map (fun (x : Bool × (Value → Sem Unit)) => x.snd) (assignEach (e :: es) X.env) = assign e X.env :: List.map (fun (x : Bool × (Value → Sem Unit)) => x.snd) (assignEach es X.env)) L2.pgs_cons._auto_1) : QGs X (e :: es) (gCons t u) := ⟨L2.pgs_cons h0.un h1.un h2⟩
theorem pg_sub {X : Cx} {pos : Pos} {o i : Expr} {to ti : TE} {t : TSet} (ho : QE X o to) (hi : QE X i ti) (hs : PSet X t)
    (ha : ∀ v, assign (.Subscript o i pos) X.env v = (do
      let ov ← holding [v] (eval o X.env)
      let iv ← holding [v, ov] (eval i X.env)
      standAt pos
      holding [v, ov, iv] (setItem ov iv v)
      release [v, ov, iv] []) := by intro _; rfl) : QG X (.Subscript o i pos) (gSub to ti t) := ⟨L2.pg_sub ho.un hi.un hs ha⟩
theorem pe_fld {X : Cx} {e : Expr} {f : Str} {pos : Pos} {ta : TE} (h0 : QE X e ta) (h1 : attributeBase e f X.env (eval e X.env) = eval e X.env) : QE X (e.Attribute f pos) (tFld X.K ta f) := ⟨L2.pe_fld h0.un h1⟩
theorem ps_fld {X : Cx} {o value : Expr} {f : Str} {pos pos' : Pos} {ta tv : TE} (h0 : QE X o ta) (h1 : QE X value tv) (h2 : swapsWith value (some (o.Attribute f pos')) pos.line X.env = pure false) : QS X (Stmt.Assign [o.Attribute f pos'] value pos) (sFld X.K ta tv f) := ⟨L2.ps_fld h0.un h1.un h2⟩
theorem pe_make {X : Cx} {CX : CXT} {k : Nat} {f C : Addr} {fd : FuncData} {ps : List Str} {sp : Sp} {dvs : List V} {ds : List Value} {E : XK} {x : Str} {p pos : Pos} {e : Expr} {es : List Expr} {t : TA} (h0 : Mk X.K C f) (h1 : FnOk X.prog X.w X.K X.mg X.base CX k f fd ps sp) (h2 : Room (k + 1) X.A) (h3 : Gl X x) (h4 : X.mg x = some (Value.ref C)) (h5 : Binds X.K fd ps ds) (h6 : Vals dvs ds) (h7 : Passes CX X E) (h8 : QA X (e :: es) t) (h9 : autoParam ((x == Str.ofString "__debug__") = false) L2.pe_make._auto_1) (h10 : autoParam (starEach (e :: es) X.env = (false, eval e X.env) :: starEach es X.env) L2.pe_make._auto_2) (h11 : autoParam (((backTo pos (starEach es X.env)).any fun (x : Bool × Sem Value) => x.fst) = false) L2.pe_make._auto_3) : QE X ((Expr.Name x p).Call (e :: es) [] pos) (tMake C sp dvs E t) := ⟨L2.pe_make h0 h1 h2 h3 h4 h5 h6 h7 h8.un h9 h10 h11⟩
theorem pe_make0 {X : Cx} {CX : CXT} {k : Nat} {f C : Addr} {fd : FuncData} {ps : List Str} {sp : Sp} {dvs : List V} {ds : List Value} {E : XK} {x : Str} {p pos : Pos} (h0 : Mk X.K C f) (h1 : FnOk X.prog X.w X.K X.mg X.base CX k f fd ps sp) (h2 : Room (k + 1) X.A) (h3 : Gl X x) (h4 : X.mg x = some (Value.ref C)) (h5 : Binds X.K fd ps ds) (h6 : Vals dvs ds) (h7 : Passes CX X E) (h8 : autoParam ((x == Str.ofString "__debug__") = false) L2.pe_make0._auto_1) : QE X ((Expr.Name x p).Call [] [] pos) (tMake C sp dvs E tNil) := ⟨L2.pe_make0 h0 h1 h2 h3 h4 h5 h6 h7 h8⟩
end D

set_option Elab.async false
set_option linter.all false
set_option maxRecDepth 100000
set_option maxHeartbeats 4000000
namespace L2
open PySem PySem.Spec PyProof.Rows
/-! ### a module's dict of texts -/
def MD (P : Program) (w : World) (K : PySem.W.Frag) (g : Addr) (kvs : List (Key × V)) : Prop :=
  ∃ (o : Obj) (vs : List (Key × Value)), K.lookup g = some o ∧ PySem.Obj.IsDictOf (mixKind P w) o vs ∧ KV kvs vs ∧ (g == sysModules) = false
theorem MD.dict {P : Program} {w : World} {K : PySem.W.Frag} {g : Addr} {kvs : List (Key × V)} {h : Heap} (m : MD P w K g kvs) (x : K.In h) : ∃ vs, KV kvs vs ∧ h.DictOf (mixKind P w) g vs ∧ (g == sysModules) = false := by
  obtain ⟨o, vs, e, d, r, n⟩ := m
  exact ⟨vs, r, Heap.dictOf_iff.mpr ⟨o, x _ _ e, d⟩, n⟩
/-! ### a call of a value that is a def -/
def HaveF (P : Program) (w : World) (K : PySem.W.Frag) (mg : Str → Option Value) (base : Heap) (f : Addr) (k : Nat) (ps : List Str) (sp : Sp) : Prop := ∃ fd : FuncData, FnOk P w K mg base CX0 k f fd ps sp ∧ Binds K fd ps [] ∧ PySem.W.keepIn K (.ref f) = true
theorem HaveF.mono {P : Program} {w : World} {K : PySem.W.Frag} {mg : Str → Option Value} {base : Heap} {f : Addr} {j k : Nat} {ps : List Str} {sp : Sp} (h : HaveF P w K mg base f j ps sp) (e : j ≤ k) : HaveF P w K mg base f k ps sp :=
  let ⟨fd, F, r⟩ := h; ⟨fd, F.mono e, r⟩
def tCallF (P : Program) (w : World) (K : PySem.W.Frag) (mg : Str → Option Value) (base : Heap) (k : Nat) (tf : TE) (t : TA) : TE := fun σ H Q => tf σ H fun x H1 => ∃ (f : Addr) (ps : List Str) (sp : Sp), x = .ref f ∧ HaveF P w K mg base f k ps sp ∧ t σ H1 fun vs H2 => sp vs H2 Q E0
end L2
namespace D
open PySem L2
end D

set_option Elab.async false
set_option linter.all false
set_option maxRecDepth 100000
set_option maxHeartbeats 4000000
namespace L2
open PySem PySem.Spec PyProof.Rows PySem.Builtin PySem.Builtin.Str
theorem op_mulB {X : Cx} : OpR X (binaryOp .Mult) (rI IntMulOk fun i j => .int (i * j)) := opI fun _ _ _ _ _ _ _ hc q => mul_int q hc
def CDivNB (i j : Int) : Prop := j ≠ 0 ∧ j.natAbs.log2 < 9000
/-- two texts, or two tuples, one behind the other -/
def rJoin (K : PySem.W.Frag) : R2 := fun x y H Q => (∃ i j, x = .str i ∧ y = .str j ∧ i.length + j.length ≤ sizeLine ∧ Q (.str (i ++ j)) H) ∨ rCatT K x y H Q ∨
  ∃ (a b : Addr) (ys : List V), x = .ref a ∧ y = .ref b ∧ SqT K H a [] ∧ SqT K H b ys ∧ Q (.ref b) H
/-- a cut of a text, just so -/
theorem sl_strX {X : Cx} : SlR X (fun x lo hi H Q => ∃ z : Str, x = .str z ∧ z.length ≤ 1000000 ∧ Q (.str (Txt.slice z lo hi)) H) := by
  intro pins s σ H x v vl vu lo hi sl Q I rx hs pl pu h
  obtain ⟨z, rfl, hz, q⟩ := h
  obtain ⟨t, rfl⟩ := rx
  refine ⟨"str", _, PySem.F.slot_str_getitem.lookup, typeIs_str _ _ _, ?_⟩
  have hz' : z.length ≤ sizeLine := Nat.le_trans hz (by decide)
  have fin : ∀ (l u : Option (Int × Tok)), partValue l = vl → partValue u = vu → Q (.str (Txt.slice z (l.map (·.1)) (u.map (·.1)))) H → wpAny (model X.prog X.w) X.A (getItem (.str z t) (.ref sl)) (EP X pins σ Q) X.xe s := fun l u e1 e2 q => by
    obtain ⟨o, ho, hc, hd⟩ := hs
    refine wpAny_getItem_str_slice (l := l) (u := u) (st := none) ⟨o, ho, hc, by rw [hd, e1, e2]; rfl⟩ rfl (post_val_or_str ⟨Nat.le_trans (Txt.slice_le z _ _) hz', fun t' k => ?_⟩)
    exact ⟨.str _, H, I.tok k, ⟨t', rfl⟩, q⟩
  cases pl with
  | none => cases pu with
    | none => exact fin none none rfl rfl q
    | int j tj => exact fin none (some (j, tj)) rfl rfl q
  | int i ti => cases pu with
    | none => exact fin (some (i, ti)) none rfl rfl q
    | int j tj => exact fin (some (i, ti)) (some (j, tj)) rfl rfl q
end L2

set_option Elab.async false
set_option linter.all false
set_option maxRecDepth 100000
set_option maxHeartbeats 4000000
namespace L2
open PySem PySem.Spec PyProof.Rows
end L2
namespace D
open PySem L2
end D

set_option Elab.async false
set_option linter.all false
set_option maxRecDepth 100000
set_option maxHeartbeats 4000000
namespace L2
open PySem PySem.Spec PyProof.Rows
theorem call_dict_of {X : Cx} : CallR X (.type "dict") (fun xs H Q => ∃ (a : Addr) (kvs : List (Key × V)), xs = [.ref a] ∧ H a = some (.dK kvs) ∧ ∀ p, H p = none → Q (.ref p) (upd H p (.dK kvs))) := by
  intro pins s σ H xs us Q I r h
  obtain ⟨a, kvs, rfl, e, q⟩ := h
  obtain ⟨u, rfl, rx⟩ := vals1 r
  cases rx
  exact d_copyOf I (.inl e) fun p s' hp I' => ⟨.ref p, _, I', rfl, q p hp⟩
/-- d.get(y, z) of a module's dict -/
def tMGet2 (P : Program) (w : World) (K : PySem.W.Frag) (td ty tx : TE) : TE := fun σ H Q => td σ H fun x H1 => ∃ (g : Addr) (kvs : List (Key × V)), x = .ref g ∧ MD P w K g kvs ∧ ty σ H1 fun y H2 => tx σ H2 fun z H3 => ∃ k : Key, y = kV k ∧ Q ((valV kvs k).getD z) H3
theorem pe_mget2 {X : Cx} {o e f : Expr} {apos cpos : Pos} {td ty tx : TE} (ho : PE X o td) (he : PE X e ty) (hf : PE X f tx) (m : M2 X o "get" apos e f cpos) : PE X (.Call (.Attribute o "get" apos) [e, f] [] cpos) (tMGet2 X.prog X.w X.K td ty tx) := by
  intro pins s σ H Q I h
  refine wpAny_Call_method m.base m.few m.line PySem.F.plainAttrs_dict PySem.F.slot_dict_get PySem.F.type_dict_get (thn (ho pins s σ H _ I h) fun u s1 ⟨x, H1, I1, rx, a, kvs, ex, d, q1⟩ => ?_)
  subst ex
  obtain rfl : u = Value.ref a := rx
  obtain ⟨vs1, rel1, dd1, hd1⟩ := d.dict I1.kIn
  refine ⟨dd1.typeIs, fun b q => ?_, ?_⟩
  · cases q
    obtain ⟨ob, _, _, h1, h2, _⟩ := dd1
    exact ⟨ob, h1, h2.2.1⟩
  rw [m.trees]
  refine Calls.callWith_builtin rfl (Calls.evalArgs_plain (Calls.spliced_cons (thn (he pins s1 σ H1 _ I1 q1) fun iv s2 ⟨y, H2, I2, ry, q2⟩ =>
    Calls.spliced_cons (thn (hf pins s2 σ H2 _ I2 q2) fun fv s3 ⟨z, H3, I3, rz, k, ey, q3⟩ => Calls.spliced_nil ?_))))
  subst ey
  obtain ⟨vs, rel, dd, hd⟩ := d.dict I3.kIn
  refine call_meetsIn PySem.F.slot_dict_get dd.typeIs PySem.F.entry_dict_get (PySem.F.args_dict_get_3 _ _ _) (meets_dict_get_default (mixKind X.prog X.w) a (kV_is ry) hd fv) ⟨_, dd.mapOf, ?_⟩
  exact ⟨_, H3, I3.tok _, (rel.val k).getD rz, q3⟩
end L2
namespace D
open PySem L2
theorem pe_mget2 {X : Cx} {o e f : Expr} {apos cpos : Pos} {td ty tx : TE} (ho : QE X o td) (he : QE X e ty) (hf : QE X f tx) (m : M2 X o "get" apos e f cpos) : QE X (.Call (.Attribute o "get" apos) [e, f] [] cpos) (tMGet2 X.prog X.w X.K td ty tx) := ⟨L2.pe_mget2 ho.un he.un hf.un m⟩
end D

set_option Elab.async false
set_option linter.all false
set_option maxRecDepth 100000
set_option maxHeartbeats 4000000
namespace L2
open PySem PySem.Spec PyProof.Rows
/-! ### enumerate of a list, two names at each turn -/
theorem Inv.turnedL {X : Cx} {pins : List (Addr × Obj)} {σ : St} {H : Hp} {s : Shared} {h' : Heap} {t' : Nat} {fp : List Addr} (I : Inv X pins σ H s) (k : ∀ b o, b ∉ fp → s.heap.get? b = some o → h'.get? b = some o) (hf : ∀ b ∈ fp, FpOk X pins H b) :
    Inv X pins σ H { s with heap := h', toks := t' } := by
  have nit : ∀ b u, H b = some u → b ∉ fp := fun b u e z => by
    have := (hf b z).1
    rw [e] at this
    cases this
  refine I.step (g' := s.gens) (d' := s.drawn) (ch := fp) (fun b hb => ?_) (fun b o _ _ hc e _ => k b o hc e) (fun b o _ _ hc e _ => ⟨o.slots, k b o hc e⟩) (fun _ _ _ _ n => n)
    (fun b o hc e => ⟨o, k b o hc e⟩) (fun _ _ e => e) (fun _ _ _ e => e) (fun b ps e => ⟨#[], by rw [e]; simp⟩) (fun m hm => ?_) (fun b u e => ?_) I.bare
  · obtain ⟨f0, f1, f2, f3, f4, f5⟩ := hf b hb
    exact ⟨f3, f1, f4, f5⟩
  · obtain ⟨o, es, ep, ho, r⟩ := hm
    exact ⟨o, es, ep, k _ o (fun z => (hf _ z).2.1 rfl) ho, r⟩
  · refine (I.hok b u e).stay (fun c v hc q => k c v ?_ q) (fun _ q => q) fun _ _ q => q
    rcases hc with z | z
    · rw [z]; exact nit b u e
    · exact nit c _ z
theorem push_old {h : Heap} {o u : Obj} {b : Addr} (e : (h.push o).get? b = some u) (hb : b < h.objs.size) : h.get? b = some u := by
  rcases Heap.get?_push_cases e with ⟨r, _⟩ | r
  · rw [r] at hb
    exact absurd hb (Nat.lt_irrefl _)
  · exact r
def Ite (K : PySem.W.Frag) (a : Addr) : It :=
  ⟨fun i H => ∃ xs x, SqL K H a xs ∧ xs[i]? = some x, fun i H x H' => ∃ t y, H t = none ∧ x = .ref t ∧ (∀ xs, SqL K H a xs → xs[i]? = some y) ∧ H' = upd H t (.tup [.int i, y]), fun i H => ∃ xs, SqL K H a xs ∧ xs.length ≤ i⟩
def iEnum (K : PySem.W.Frag) (ta : TA) : TI := fun σ H R => ta σ H fun vs H1 => ∃ (a : Addr) (xs : List V), vs = [.ref a] ∧ SqL K H1 a xs ∧ R (Ite K a) H1
end L2
namespace D
open PySem L2
end D

set_option Elab.async false
set_option linter.all false
set_option maxRecDepth 100000
set_option maxHeartbeats 4000000
namespace D
open PySem L2 PySem.Spec PyProof.Rows
/-! ### lists held against one another -/
/-- xs != [] -/
theorem op_neE {X : Cx} (hu : X.A.units < cLine) : OpR X (compareOp .NotEq) (fun x y H Q => ∃ (a b : Addr) (us : List V), x = .ref a ∧ y = .ref b ∧ SqL X.K H a us ∧ SqL X.K H b [] ∧ Q (.bl (!us.isEmpty)) H) := by
  intro pins s σ H x y v u Q I rx ry h
  obtain ⟨a, b, us, rfl, rfl, ha, hb, q⟩ := h
  cases rx
  cases ry
  obtain ⟨its, v1, p1, _⟩ := I.list ha
  obtain ⟨its2, v2, p2, _⟩ := I.list hb
  have l1 := v1.length
  have l2 := v2.length
  cases us with
  | nil =>
    have key : SeqAt.RcNeAt X.A s (.ref a) (.ref b) (!(List.range its.toArray.size).all fun _ => true) :=
      SeqAt.RcNeAt.lists p1.isList p2.isList (by rw [List.size_toArray, List.size_toArray]; omega) hu (fun j h1 h2 => by
        have h3 : j < its.length := by simpa using h1
        exact absurd h3 (by rw [← l1]; exact Nat.not_lt_zero _))
    have e : (!(List.range its.toArray.size).all fun _ => true) = false := by simp
    rw [e] at key
    exact key X.prog X.w _ _ ⟨.bl false, H, I, rfl, q⟩
  | cons x r =>
    have hsz : (its.toArray.size != its2.toArray.size) = true := by
      rw [List.size_toArray, List.size_toArray, ← l1, ← l2]
      simp
    exact SeqAt.RcNeAt.lists_lengths p1.isList p2.isList hsz hu X.prog X.w _ _ ⟨.bl true, H, I, rfl, q⟩
end D

set_option Elab.async false
set_option linter.all false
set_option maxRecDepth 100000
set_option maxHeartbeats 4000000
namespace L2
open PySem PySem.Spec PyProof.Rows
/-- a comprehension whose target is of any kind, nothing of the frame read in it -/
def tLCompT (n : Nat) (wi : TI) (g : TG) (tt : TT) (te : TE) : TE := fun σ H Q => wi σ H fun J H1 => ∃ W : Nat → Nat → List V → Hp → Prop, (∃ m, W 0 m [] H1) ∧ ∀ i m vs H, W i m vs H → vs.length ≤ sizeLine ∧
  ((J.stop i H ∧ ∀ D, H D = none → Q (.ref D) (upd H D (.lst vs))) ∨
   (J.go i H ∧ ∀ v H', J.yld i H v H' → g v (List.replicate n none) H' fun σ2 H2 => tt σ2 H2 fun b H3 => if b = true then te σ2 H3 fun y H4 => ∃ m', m' < m ∧ W (i + 1) m' (vs ++ [y]) H4 else ∃ m', m' < m ∧ W (i + 1) m' vs H3))
theorem pe_lcompT {X : Cx} {elt iter tg : Expr} {pos : Pos} {ifs : List Expr} {scope : Scope} {cl : List (Str × Addr)} (NY : List Str) {wi : TI} {g : TG} {tt : TT} {te : TE}
    (hc : X.calm = true) (hclos : closureFor scope X.env = pure cl) (hcell : ∀ y ∈ scope.names, y.2 ≠ .cell) (hkind : scope.kind = .function) (hnames : ∀ y ∈ scope.names, y.2 = .local → scope.names.lookup y.1 = some .local)
    (hcl : ClOk cl X.env.cells) (hall : (scope.names.all fun y => y.2 != .free || (cl.lookup y.1).isSome) = true)
    (hi : PI X tg iter wi) (hg : ∀ C s H fp, PG (cxComp X scope cl NY C s H fp) tg g)
    (hY : ∀ C s H fp, PIfs (cxComp X scope cl NY C s H fp) ifs tt ∧ PE (cxComp X scope cl NY C s H fp) elt te)
    (hs : ∀ v, foldedSetIterable iter X.env v = pure v := by intro _; rfl) :
    PE X (.ListComp elt [⟨tg, iter, ifs, 0⟩] scope pos) (tLCompT NY.length wi g tt te) := by
  intro pins s σ H Q I h
  rw [eval_ListComp]
  refine wpAny_comprehension_free (use := none) rfl hs hclos hkind hnames (wpAny_mono (hi pins s σ H _ I h) (fun v s1 h1 => wpAny_mono h1 (fun itv s2 h2 => ?_) fun _ _ e => e) fun _ _ e => e)
  obtain ⟨it, fp, tn, J, H2, rfl, I2, T, st2, f2, W, ⟨m0, w0⟩, turn⟩ := h2
  refine wpAny_newObj_type (wpAny_newFunctionEnv hcell (by intro y hy; simp at hy) (fun h₁ hns₁ hsb₁ => ?_) hkind)
  dsimp only at hns₁ hsb₁ ⊢
  generalize hP2 : s2.heap.push { cls := .type "list", dict := none, data := .seq ([] : List Value).toArray } = P2 at hns₁ hsb₁ ⊢
  have hC : P2.objs.size = s2.heap.objs.size + 1 := by rw [← hP2, Heap.size_push]
  have hDC : s2.heap.objs.size ≠ P2.objs.size := by rw [hC]; exact Nat.ne_of_lt (Nat.lt_succ_self _)
  have hCle : s2.heap.objs.size ≤ P2.objs.size := by rw [hC]; exact Nat.le_succ _
  have below : ∀ b, b < s2.heap.objs.size → b ≠ P2.objs.size ∧ b ≠ s2.heap.objs.size := fun b hb => ⟨by rw [hC]; exact Nat.ne_of_lt (Nat.lt_succ_of_lt hb), Nat.ne_of_lt hb⟩
  have old : ∀ b o, s2.heap.get? b = some o → h₁.get? b = some o := fun b o e => hsb₁.extBut b o (below b (Heap.lt_size e)).1 (Heap.get?_push_of_some _ (hP2 ▸ Heap.get?_push_of_some _ e))
  have hacc : h₁.get? s2.heap.objs.size = some { cls := .type "list", data := .seq ([] : List Value).toArray } := hsb₁.extBut _ _ hDC (Heap.get?_push_of_some _ (hP2 ▸ Heap.get?_push_size _ rfl))
  have fpl : ∀ b ∈ fp, b < s2.heap.objs.size := fun b hb => by
    obtain ⟨o, e, _⟩ := T.obj _ _ st2 b hb
    exact Heap.lt_size e
  have tlt : ∀ b o, H2 b = some o → b < s2.heap.objs.size := fun b o e => I2.hok.lt e
  generalize hCg : P2.objs.size = C at hns₁ hsb₁ hDC hCle below ⊢
  generalize hDg : s2.heap.objs.size = D at hDC below hacc fpl tlt ⊢
  have hDle : D ≤ C := by rw [← hDg]; exact hCle
  have cls : ∀ y c, cl.lookup y = some c → X.env.cells.lookup y = some c := fun y c e => hcl.mem e
  have clt : ∀ y c, cl.lookup y = some c → c < D := fun y c e => by
    obtain ⟨v, q⟩ := I2.cell y c (cls y c e)
    rw [← hDg]; exact q.lt
  have sub : ∀ b ∈ frs X.stack, b < D := fun b hb => by
    rcases List.mem_cons.mp (I2.stkSub b hb) with e | hb
    · rw [e, ← hDg]; exact I2.lt
    · obtain ⟨_, o, ho, _⟩ := I2.ok.funs.mem hb
      rw [← hDg]; exact Nat.lt_of_lt_of_le (Heap.lt_size ho) I2.sz
  obtain ⟨YI, YE⟩ := hY C s2 H2 fp
  have YG := hg C s2 H2 fp
  have Yok : (cxComp X scope cl NY C s2 H2 fp).Ok := by
    refine ⟨I2.ok.mod, hkind, I2.ok.glob, I2.ok.blt, hCle, ?_, ?_, ?_, fun _ => I2.ok.hd hc, I2.ok.frames, .inl rfl, ?_, I2.bs, Nat.le_trans I2.ok.bsz I2.sz, ?_, ?_, I2.stack, I2.stkFree⟩
    · exact fun y z c e1 e2 => I2.ok.inj y z c (cls y c e1) (cls z c e2)
    · intro y hy
      have hm := lookup_relabel_inv (env := X.env) (names := scope.names) (x := y) hcell hy
      have q := List.all_eq_true.mp hall _ hm
      show ∃ c, cl.lookup y = some c
      exact Option.isSome_iff_exists.mp (by simpa using q)
    · intro y c hf _
      exact absurd hf (by show ¬ false = true; decide)
    · intro b hb
      refine ⟨(below b (fpl b hb)).1, fun y c e z => ?_⟩
      exact (f2 b hb).2.2.2.2.1 y c (cls y c e) z
    · intro b o e hb
      have hb : b ∈ fp := hb
      rcases (f2 b hb).2.2.2.1 with z | z
      · exact I2.ok.noex b o e z
      · exact absurd (Nat.lt_of_lt_of_le (Heap.lt_size e) (Nat.le_trans I2.ok.bsz z)) (Nat.lt_irrefl _)
    · intro b hb hf
      have hb : b ∈ fp := hb
      rcases List.mem_cons.mp (I2.stkSub b hf) with e | hf
      · exact (f2 b hb).2.1 e
      · exact (f2 b hb).2.2.1 hf
  -- the block's state at a turn's start
  have start : ∀ tk, Inv (cxComp X scope cl NY C s2 H2 fp) [] (List.replicate NY.length none) H2 { s2 with heap := h₁, toks := tk } := fun tk => by
    refine ⟨Yok, rfl, I2.bare, Un.kept old, ⟨_, hns₁, fun i y v e1 e2 e3 => ?_⟩, fun y c e => ?_, ?_, fun y c e => ?_, fun p hp => absurd (show p ∈ ([] : List (Addr × Obj)) from hp) (by simp), I2.hok.kept old, ?_⟩
    · rw [List.getElem?_replicate] at e2
      split at e2 <;> simp at e2
    · obtain ⟨v, o, ho, hd⟩ := I2.cell y c (cls y c e)
      exact ⟨v, o, old _ _ ho, hd⟩
    · show H2 C = none
      cases q : H2 C with
      | none => rfl
      | some o => exact absurd (tlt C o q) (Nat.not_lt.mpr hDle)
    · exact I2.freeC y c (cls y c e)
    · show (List.replicate NY.length (none : Option V)).length = NY.length
      rw [List.length_replicate]
  have fpY : ∀ {pl : List (Addr × Obj)} {H' : Hp}, (∀ b ∈ fp, H' b = none) → (∀ p ∈ pl, p.1 = D) → ∀ b ∈ fp, FpOk (cxComp X scope cl NY C s2 H2 fp) pl H' b := fun {pl H'} hn hpl b hb => by
    refine ⟨hn b hb, (below b (fpl b hb)).1, Yok.exfs b hb, .inl hb, fun y c e z => (f2 b hb).2.2.2.2.1 y c (cls y c e) z, fun p hp => ?_⟩
    have hp : p ∈ [] ++ pl := hp
    rw [List.nil_append] at hp
    rw [hpl p hp]
    exact (below b (fpl b hb)).2.symm
  have loop : ∀ s₃ : Shared, (∃ tk, s₃ = { s2 with heap := h₁, toks := tk }) →
      codeAny (model X.prog X.w) X.A (.compLoop (.ListComp elt [⟨tg, iter, ifs, 0⟩] scope pos) 0 (.ref it) (.ref D) (compEnvC scope cl C X.env))
        (compPost (model X.prog X.w) X.A X.xe none (EP X pins σ Q) (.ref D) C) s₃ := by
    rintro s₃ ⟨tk, rfl⟩
    refine comp_loop
      (fun k s' => ∃ i vs ws nn H', Inv (cxComp X scope cl NY C s2 H2 fp) [] (List.replicate NY.length none) H' s' ∧ tn i s'.heap ∧ (∀ b ∈ fp, H' b = none) ∧ H' D = none ∧
        s'.heap.get? D = some { cls := .type "list", data := .seq (ws : List Value).toArray nn } ∧ Vals vs ws ∧ W i k vs H') ?_ m0
      ⟨0, [], [], 0, H2, start tk, T.keep _ _ _ st2 fun b _ o e => old b o e, fun b hb => (f2 b hb).1, ?_, hacc, .nil, w0⟩
    · rintro n s3 ⟨i, vs, ws, nn, H3, I3, st3, fr3, hD3, ho3, rv3, w3⟩
      have I3' : Inv (cxComp X scope cl NY C s2 H2 fp) [(D, { cls := .type "list", data := .seq ws.toArray nn })] (List.replicate NY.length none) H3 s3 := I3.pins_of fun p hp => by
        have e : p = (D, { cls := .type "list", data := .seq ws.toArray nn }) := by simpa using hp
        subst e
        refine ⟨ho3, hD3, hDC, fun z => absurd (sub D z) (Nat.lt_irrefl _), fun v z => ?_⟩
        have z' : Data.seq ws.toArray nn = Data.cell v := z
        cases z'
      have fp3 := fpY (pl := [(D, { cls := .type "list", data := .seq ws.toArray nn })]) fr3 (fun p hp => by rw [List.mem_singleton.mp hp])
      obtain ⟨hsz, alt⟩ := turn i n vs H3 w3
      rcases alt with ⟨stop, fin⟩ | ⟨go, step⟩
      · refine thn (T.done (cxComp X scope cl NY C s2 H2 fp) rfl rfl rfl rfl i _ s3 _ H3 _ I3' fp3 st3 stop) fun r s4 ⟨hr, I4⟩ => ?_
        subst hr
        have pD := I4.pin (D, { cls := .type "list", data := .seq ws.toArray nn }) (by show _ ∈ [] ++ _; simp)
        obtain ⟨m4, hn4, _⟩ := I4.loc
        refine ⟨m4, hn4, fun h' hs' => ?_⟩
        have hC4 : H3 C = none := I4.free
        have hok' : HOk X.prog X.w (upd H3 D (.lst vs)) h' := by
          refine HOk.track (I4.hok.other hC4 hs') hD3 ⟨hsz, ws, nn, rv3, (hs'.2 D hDC).trans pD.1⟩
        have b4 := I4.base
        have un : Un (frs X.stack) fp H2 (upd H3 D (.lst vs)) s2.heap h' := by
          have lt : ∀ b o, s2.heap.get? b = some o → b < D := fun b o e => by rw [← hDg]; exact Heap.lt_size e
          refine ⟨fun b o e n hb hx => (hs'.2 b (below b (lt b o e)).1).trans (b4.keep b o e n hb hx), fun b o e n hb hx => ?_, fun b o e n hx => ?_, fun b o e hx => ?_, fun b zs e => ?_, fun b o u e => ?_, fun b ps e => ?_⟩
          · obtain ⟨sl, q⟩ := b4.slot b o e n hb hx
            exact ⟨sl, (hs'.2 b (below b (lt b o e)).1).trans q⟩
          · rw [upd_ne (below b (lt b o e)).2]; exact b4.free b o e n hx
          · obtain ⟨o', q⟩ := b4.there b o e hx
            exact ⟨o', (hs'.2 b (below b (lt b o e)).1).trans q⟩
          · rw [upd_ne (below b (tlt b _ e)).2]; exact b4.tups b zs e
          · rw [upd_ne (below b (tlt b _ e)).2]; exact b4.frzs b o u e
          · rw [upd_ne (below b (tlt b _ e)).2]; exact b4.tbls b ps e
        refine ⟨.ref D, upd H3 D (.lst vs), ?_, rfl, fin D hD3⟩
        exact I2.call' (s' := { s4 with heap := h' }) (ch := fp) I4.os un hok' I4.bare fun b hb => ⟨(f2 b hb).2.2.2.1, (f2 b hb).2.1, (f2 b hb).2.2.2.2.1, (f2 b hb).2.2.2.2.2⟩
      · refine thn (T.item (cxComp X scope cl NY C s2 H2 fp) rfl rfl rfl rfl i _ s3 _ H3 _ I3' fp3 st3 go) fun r s4 ⟨u, hr, h4⟩ => ?_
        subst hr
        refine thn h4 fun _ s5 ⟨v, H5, I5, r5, y5, st5, fr5⟩ => ?_
        have fp5 := fpY (pl := [(D, { cls := .type "list", data := .seq ws.toArray nn })]) fr5 (fun p hp => by rw [List.mem_singleton.mp hp])
        have I5' := I5.pinned fp5 (T.obj _ _ st5)
        refine thn (YG _ s5 _ H5 v u _ I5' r5 (step v H5 y5)) fun _ s6 ⟨σ6, H6, I6, q6⟩ => ?_
        refine thn (YI _ s6 _ _ _ I6 q6) fun b s7 ⟨H7, I7, q7⟩ => ?_
        -- what is kept through the turn
        have back : ∀ {H8 : Hp} {s8 : Shared}, Inv (cxComp X scope cl NY C s2 H2 fp) ([(D, { cls := .type "list", data := .seq ws.toArray nn })] ++ pinsAt fp s5.heap) σ6 H8 s8 →
            s8.heap.get? D = some { cls := .type "list", data := .seq ws.toArray nn } ∧ H8 D = none ∧ (∀ b ∈ fp, H8 b = none) ∧ (∀ b ∈ fp, ∀ o, s5.heap.get? b = some o → s8.heap.get? b = some o) := fun {H8 s8} I8 => by
          have pD := I8.pin (D, { cls := .type "list", data := .seq ws.toArray nn }) (by show _ ∈ [] ++ _; simp)
          refine ⟨pD.1, pD.2.1, fun b hb => ?_, fun b hb o e => ?_⟩
          · obtain ⟨o, e, d⟩ := T.obj _ _ st5 b hb
            exact (I8.pin (b, o) (List.mem_append_right _ (List.mem_append_right _ (mem_pinsAt hb e)))).2.1
          · exact (I8.pin (b, o) (List.mem_append_right _ (List.mem_append_right _ (mem_pinsAt hb e)))).1
        have weak : ∀ {H8 : Hp} {s8 : Shared}, Inv (cxComp X scope cl NY C s2 H2 fp) [] σ6 H8 s8 → Inv (cxComp X scope cl NY C s2 H2 fp) [] (List.replicate NY.length none) H8 s8 := fun {H8 s8} I8 =>
          I8.weak (by rw [List.length_replicate]; exact I8.len.symm) fun i v' e => by
            rw [List.getElem?_replicate] at e
            split at e <;> simp at e
        have nopin : ∀ {H8 : Hp} {s8 : Shared} {pl : List (Addr × Obj)}, Inv (cxComp X scope cl NY C s2 H2 fp) pl σ6 H8 s8 → Inv (cxComp X scope cl NY C s2 H2 fp) [] σ6 H8 s8 := fun {H8 s8 pl} I8 =>
          I8.pins_of fun p hp => absurd hp (by simp)
        cases b with
        | false =>
          rw [if_neg Bool.false_ne_true] at q7 ⊢
          obtain ⟨m', hm, w7⟩ := q7
          obtain ⟨k1, k2, k3, k4⟩ := back I7
          exact ⟨m', hm, i + 1, vs, ws, nn, H7, weak (nopin I7), T.keep _ _ _ st5 k4, k3, k2, k1, rv3, w7⟩
        | true =>
          rw [if_pos rfl] at q7 ⊢
          refine thn (YE _ s7 _ _ _ I7 q7) fun u8 s8 ⟨y8, H8, I8, r8, m', hm, w8⟩ => ?_
          obtain ⟨k1, k2, k3, k4⟩ := back I8
          refine append_at (hsz := by rw [List.size_toArray, ← rv3.length]; exact hsz) k1 fun h9 hs9 ho9 => ?_
          have I9 : Inv (cxComp X scope cl NY C s2 H2 fp) [] σ6 H8 { s8 with heap := h9 } :=
            (nopin I8).turned (t' := s8.toks) (it := D) (fun b o hb e => (hs9.2 b hb).trans e) k2 hDC (.inr (by rw [← hDg]; exact Nat.le_refl _)) (fun y c e => Nat.ne_of_lt (clt y c e)) fun p hp => absurd (show p ∈ ([] : List (Addr × Obj)) from hp) (by simp)
          refine ⟨m', hm, i + 1, vs ++ [y8], ws ++ [u8], nn + 1, H8, weak I9, ?_, k3, k2, ?_, rv3.append (.cons r8 .nil), w8⟩
          · refine T.keep _ _ _ st5 fun b hb o e => ?_
            exact (hs9.2 b (below b (fpl b hb)).2).trans (k4 b hb o e)
          · rw [ho9, List.push_toArray]
    · cases q : H2 D with
      | none => rfl
      | some o => exact absurd (tlt D o q) (Nat.lt_irrefl _)
  exact codeAny_compStart_list (loop _ ⟨_, rfl⟩) (T.self _ 0 _ _ _ (T.keep _ _ _ st2 fun b _ o e => old b o e) (loop _ ⟨_, rfl⟩))
/-- a comprehension without tests over a list, whatever hands the list in -/
theorem rd_bodyL {K : PySem.W.Frag} {fr : List Nat} {te : TE} {σ : St} {H : Hp} {F : Addr → Hp → List V → Prop} {a : Addr} {vs : List V} (outs : List V) (hS : SqL K H a vs) (hl : outs.length = vs.length) (hz : vs.length ≤ sizeLine)
    (step : ∀ (i : Nat) (v y : V) (H1 : Hp) (R : VK), vs[i]? = some v → outs[i]? = some y → Same H H1 → (∀ H2, Same H1 H2 → R y H2) → te (some v :: frees fr σ) H1 R)
    (fin : ∀ (H1 : Hp) (D : Addr), Same H H1 → H1 D = none → F D H1 outs) :
    ∃ W : Nat → Nat → List V → Hp → Prop, (∃ m, W 0 m [] H) ∧ ∀ i m vs H, W i m vs H → vs.length ≤ sizeLine ∧
      (((Itl K a).stop i H ∧ ∀ D, H D = none → F D H vs) ∨
       ((Itl K a).go i H ∧ ∀ v H', (Itl K a).yld i H v H' → if true = true then te (some v :: frees fr σ) H' fun y H3 => ∃ m', m' < m ∧ W (i + 1) m' (vs ++ [y]) H3 else ∃ m', m' < m ∧ W (i + 1) m' vs H')) := by
  refine ⟨fun i m us H1 => i ≤ vs.length ∧ m = vs.length - i ∧ us = outs.take i ∧ Same H H1, ⟨_, Nat.zero_le _, rfl, by simp, Same.refl _⟩, fun i m us H1 hW => ?_⟩
  obtain ⟨hi, hm, hu, sm⟩ := hW
  refine ⟨by rw [hu, List.length_take]; omega, ?_⟩
  by_cases hlt : i < vs.length
  · refine .inr ⟨⟨vs, vs[i], sm.seq hS, List.getElem?_eq_getElem hlt⟩, fun v H' hy => ?_⟩
    obtain ⟨rfl, hv⟩ := hy
    have hv := hv vs (sm.seq hS)
    have hy : outs[i]? = some outs[i] := List.getElem?_eq_getElem (by omega)
    refine iteT ?_
    refine step i v outs[i] H' _ hv hy sm fun H2 s2 => ⟨vs.length - (i + 1), by omega, by omega, rfl, ?_, sm.trans s2⟩
    rw [hu, take_snoc hy]
  · have e : i = vs.length := by omega
    refine .inl ⟨⟨vs, sm.seq hS, by omega⟩, fun D hD => ?_⟩
    have e2 : us = outs := by rw [hu, List.take_of_length_le (by omega)]
    rw [e2]
    exact fin H1 D sm hD
end L2
namespace D
open PySem L2
theorem pe_lcompT {X : Cx} {elt iter tg : Expr} {pos : Pos} {ifs : List Expr} {scope : Scope} {cl : List (Str × Addr)} (NY : List Str) {wi : TI} {g : TG} {tt : TT} {te : TE}
    (hc : X.calm = true) (hclos : closureFor scope X.env = pure cl) (hcell : ∀ y ∈ scope.names, y.2 ≠ .cell) (hkind : scope.kind = .function) (hnames : ∀ y ∈ scope.names, y.2 = .local → scope.names.lookup y.1 = some .local)
    (hcl : ClOk cl X.env.cells) (hall : (scope.names.all fun y => y.2 != .free || (cl.lookup y.1).isSome) = true)
    (hi : QI X tg iter wi) (hg : ∀ C s H fp, QG (cxComp X scope cl NY C s H fp) tg g)
    (hY : ∀ C s H fp, QIfs (cxComp X scope cl NY C s H fp) ifs tt ∧ QE (cxComp X scope cl NY C s H fp) elt te)
    (hs : ∀ v, foldedSetIterable iter X.env v = pure v := by intro _; rfl) :
    QE X (.ListComp elt [⟨tg, iter, ifs, 0⟩] scope pos) (tLCompT NY.length wi g tt te) := ⟨L2.pe_lcompT NY hc hclos hcell hkind hnames hcl hall hi.un (fun C s H fp => (hg C s H fp).un) (fun C s H fp => ⟨(hY C s H fp).1.un, (hY C s H fp).2.un⟩) hs⟩
end D

set_option Elab.async false
set_option linter.all false
set_option maxRecDepth 100000
set_option maxHeartbeats 4000000
namespace L2
open PySem PySem.Spec PyProof.Rows
/-! ### zip of two tuples of one length, walked -/
section
variable {prog : Program} {w : World} {A : Around} {E : Value → Shared → Prop} {s : Shared}
theorem nextOf_tup {it l : Addr} {i : Nat} {its : Array Value} {x : Value} {Q : Value → Shared → Prop} (st : s.heap.IsTupleIter it l i) (tp : s.heap.IsTuple l its) (ex : its[i]? = some x)
    (q : ∀ h', h'.IsTupleIter it l (i + 1) → Heap.SameBut it s.heap h' → Q x { s with heap := h' }) : wpAny (model prog w) A (Builtin.SmallTypes.nextOf (.ref it)) Q E s := by
  obtain ⟨o, g1, g2, g3⟩ := id st
  obtain ⟨p, f1, _, n, f3⟩ := tp
  unfold Builtin.SmallTypes.nextOf
  refine wpAny_bind (wpAny_callSpecial?_slot (name := Str.ofString "__next__") st.typeIs F.slot_tuple_iterator_next (wpAny_call_entry F.slot_tuple_iterator_next st.typeIs F.entry_tuple_iterator_next ?_ (F.args_tuple_iterator_next_1 _)))
  show wpAny _ _ (field (.ref it) 0 >>= _) _ _ s; refine wpAny_bind (wpAny_field g1 g3 (x := .ref l) rfl ?_)
  show wpAny _ _ (if (Value.ref l == Value.none) = true then _ else _) _ _ s; rw [if_neg (show ¬ ((Value.ref l == Value.none) = true) from Bool.false_ne_true)]
  show wpAny _ _ (field (.ref it) 1 >>= _) _ _ s; refine wpAny_bind (wpAny_field g1 g3 (x := .int i 0) rfl ?_)
  show wpAny _ _ (seqItems? (.ref l) >>= _) _ _ s; refine wpAny_bind (wpAny_seqItems f1 f3 ?_)
  simp only [Int.toNat_natCast, ex]
  refine wpAny_bind (wpAny_setField g1 g3 (by simp) (wpAny_pure ⟨x, rfl, wpAny_pure (q _ ?_ (Heap.SameBut.update ..))⟩))
  refine ⟨_, Heap.get?_update_self _ g1 (Obj.isFreed_of_fields (Obj.data_mapFields g3 _)), (Obj.cls_mapFields ..).trans g2, ?_⟩
  rw [Obj.data_mapFields g3]; simp [rawInt]
theorem nextOf_tup_end {it l : Addr} {i : Nat} {its : Array Value} {Q : Value → Shared → Prop} (hh : A.handled = none) (st : s.heap.IsTupleIter it l i) (tp : s.heap.IsTuple l its) (ex : its[i]? = none)
    (q : ∀ h' e, Heap.ExtBut it s.heap h' → (∃ o, h'.get? e = some o ∧ o.cls = .type "StopIteration") → E (.ref e) { s with heap := h' }) : wpAny (model prog w) A (Builtin.SmallTypes.nextOf (.ref it)) Q E s := by
  obtain ⟨o, g1, g2, g3⟩ := id st
  obtain ⟨p, f1, _, n, f3⟩ := tp
  unfold Builtin.SmallTypes.nextOf
  refine wpAny_bind (wpAny_callSpecial?_slot (name := Str.ofString "__next__") st.typeIs F.slot_tuple_iterator_next (wpAny_call_entry F.slot_tuple_iterator_next st.typeIs F.entry_tuple_iterator_next ?_ (F.args_tuple_iterator_next_1 _)))
  show wpAny _ _ (field (.ref it) 0 >>= _) _ _ s; refine wpAny_bind (wpAny_field g1 g3 (x := .ref l) rfl ?_)
  show wpAny _ _ (if (Value.ref l == Value.none) = true then _ else _) _ _ s; rw [if_neg (show ¬ ((Value.ref l == Value.none) = true) from Bool.false_ne_true)]
  show wpAny _ _ (field (.ref it) 1 >>= _) _ _ s; refine wpAny_bind (wpAny_field g1 g3 (x := .int i 0) rfl ?_)
  show wpAny _ _ (seqItems? (.ref l) >>= _) _ _ s; refine wpAny_bind (wpAny_seqItems f1 f3 ?_)
  simp only [Int.toNat_natCast, ex]
  refine wpAny_bind (wpAny_rule (wpAny_bind (wpAny_setField g1 g3 (by simp) ?_)))
  show wpAny _ _ (newExc (.type "StopIteration") [] >>= _) _ _ _; refine wpAny_bind ?_; simp only [newExc, newTuple]; refine wpAny_bind (wpAny_newObj_type ?_ (by size_fits))
  refine wpAny_bind (m := firstArgMember _ _) (wpAny_of_eq (a := Value.none) (by first | rfl | (simp only [firstArgMember]; rfl)) ?_); refine wpAny_newObj_type ?_ (by size_fits)
  simp only [raiseNew]; refine wpAny_bind (wpAny_handled ?_); first | rw [show A.in1.handled = none from hh] | rw [hh]
  refine wpAny_bind (wpAny_pure (wpAny_throw ?_)); exact q _ _ (((Heap.SameBut.update ..).extBut.push _).push _) ⟨_, Heap.get?_push_size _ rfl, rfl⟩

/-- the five objects of a zip of two tuples -/
structure ZT (h : Heap) (z TI TO i1 i2 l1 l2 : Addr) (k : Nat) (f0 : Value) : Prop where
  zip : IsZip h z TI TO f0
  ti : IsPair h TI (.ref i1) (.ref i2)
  to : ∃ a b, IsPair h TO a b
  it1 : h.IsTupleIter i1 l1 k
  it2 : h.IsTupleIter i2 l2 k
theorem zt_item {z TI TO i1 i2 l1 l2 : Addr} {k : Nat} {xs ys : Array Value} {x y : Value} {Q : Option Value → Shared → Prop} (D : ZipApart z TI TO i1 i2 l1 l2) (Z : ZT s.heap z TI TO i1 i2 l1 l2 k .none)
    (t1 : s.heap.IsTuple l1 xs) (t2 : s.heap.IsTuple l2 ys) (e1 : xs[k]? = some x) (e2 : ys[k]? = some y)
    (q : ∀ h', ZT h' z TI TO i1 i2 l1 l2 (k + 1) (rawInt s.heap.objs.size) → IsPair h' s.heap.objs.size x y → (∀ c o, c ≠ z → c ≠ TO → c ≠ i1 → c ≠ i2 → s.heap.get? c = some o → h'.get? c = some o) →
      Q (some (.ref s.heap.objs.size)) { s with heap := h' }) : wpAny (model prog w) A (pyNext (.ref z)) Q E s := by
  obtain ⟨hz, hI, ⟨a, b, hO⟩, j1, j2⟩ := Z
  have ty : s.TypeIs (.ref z) "zip" := ⟨_, hz, rfl⟩
  unfold pyNext
  refine wpAny_bind (wpAny_attempt (wpAny_callSpecial?_slot (name := Str.ofString "__next__") ty F.slot_zip_next (wpAny_call_entry F.slot_zip_next ty F.entry_zip_next ?_ (F.args_zip_next_1 _))))
  show wpAny _ _ (field (.ref z) 2 >>= _) _ _ _; refine wpAny_bind (wpAny_field hz rfl (x := .bool false) rfl ?_)
  show wpAny _ _ (field (.ref z) 3 >>= _) _ _ _; refine wpAny_bind (wpAny_field hz rfl (x := .ref TI) rfl ?_)
  refine wpAny_bind (wpAny_seqItems hI rfl ?_)
  show wpAny _ _ (Builtin.SmallTypes.ownedTupleIsFree (.ref z) >>= _) _ _ _; refine wpAny_bind ?_; unfold Builtin.SmallTypes.ownedTupleIsFree
  refine wpAny_bind (wpAny_field hz rfl (x := .none) rfl (wpAny_pure ?_)); simp only [if_true]
  refine wpAny_bind (wpAny_rule ?_); refine wpAny_bind (wpAny_field hz rfl (x := .ref TO) rfl ?_)
  refine wpAny_bind (wpAny_setField_rec hz (by simp) fun ha za sa => ?_)
  replace za : IsZip ha z TI TO .ellipsis := za
  refine wpAny_bind ?_
  simp only [List.zipIdx_cons, List.zipIdx_nil, List.forIn_cons, List.forIn_nil]
  refine wpAny_bind (wpAny_bind (wpAny_onRaise ?_)); show wpAny _ _ (Builtin.SmallTypes.nextOf (.ref i1) >>= _) _ _ _
  refine wpAny_bind (nextOf_tup (j1.extBut sa.extBut D.i1z) (t1.extBut sa.extBut D.l1z) e1 fun hb jb sb => wpAny_pure ?_)
  have Ob : IsPair hb TO a b := sb.extBut _ _ D.TOi1 (sa.extBut _ _ D.TOz hO)
  refine wpAny_bind (wpAny_seqItems Ob rfl ?_)
  refine wpAny_bind (wpAny_updateSeq_pair Ob fun hc Oc sc => ?_)
  replace Oc : IsPair hc TO x b := Oc
  refine wpAny_bind (wpAny_letGo (wpAny_pure ?_)); refine wpAny_bind (wpAny_bind (wpAny_onRaise ?_)); show wpAny _ _ (Builtin.SmallTypes.nextOf (.ref i2) >>= _) _ _ _
  refine wpAny_bind (nextOf_tup (((j2.extBut sa.extBut D.i2z).extBut sb.extBut D.i12.symm).extBut sc.extBut D.TOi2.symm) (((t2.extBut sa.extBut D.l2z).extBut sb.extBut D.l2i1).extBut sc.extBut D.l2TO) e2 fun hd jd sd => wpAny_pure ?_)
  have Od : IsPair hd TO x b := sd.extBut _ _ D.TOi2 Oc
  refine wpAny_bind (wpAny_seqItems Od rfl ?_)
  refine wpAny_bind (wpAny_updateSeq_pair Od fun he Oe se => ?_)
  replace Oe : IsPair he TO x y := Oe
  refine wpAny_bind (wpAny_letGo (wpAny_pure (wpAny_pure ?_))); refine wpAny_bind (wpAny_seqItems Oe rfl ?_); refine wpAny_bind (wpAny_newTuple ?_)
  have size : he.objs.size = s.heap.objs.size := by rw [se.1, sd.1, sc.1, sb.1, sa.1]
  have ze : IsZip he z TI TO .ellipsis := se.extBut _ _ D.TOz.symm (sd.extBut _ _ D.i2z.symm (sc.extBut _ _ D.TOz.symm (sb.extBut _ _ D.i1z.symm za)))
  have ke : ∀ c o, c ≠ z → c ≠ TO → c ≠ i1 → c ≠ i2 → s.heap.get? c = some o → he.get? c = some o := fun c o n1 n2 n3 n4 e => se.extBut _ _ n2 (sd.extBut _ _ n4 (sc.extBut _ _ n2 (sb.extBut _ _ n3 (sa.extBut _ _ n1 e))))
  have m1 : he.IsTupleIter i1 l1 (k + 1) := ((jb.extBut sc.extBut D.TOi1.symm).extBut sd.extBut D.i12).extBut se.extBut D.TOi1.symm
  have m2 : he.IsTupleIter i2 l2 (k + 1) := jd.extBut se.extBut D.TOi2.symm
  have lz : z < he.objs.size := Heap.lt_size ze
  show wpAny _ _ (Builtin.SmallTypes.ownedTupleHandOut (.ref z) (.ref he.objs.size) >>= _) _ _ _; refine wpAny_bind ?_; unfold Builtin.SmallTypes.ownedTupleHandOut
  have zf : IsZip (he.push { cls := .type "tuple", data := .seq #[x, y] }) z TI TO .ellipsis := Heap.get?_push_of_some _ ze
  refine wpAny_bind (wpAny_setField_rec zf (by simp) fun hg zg sg => ?_)
  replace zg : IsZip hg z TI TO (rawInt he.objs.size) := zg
  refine wpAny_setField_rec zg (by simp) fun hk zk sk => ?_
  replace zk : IsZip hk z TI TO (rawInt he.objs.size) := zk
  have up : ∀ c o, c ≠ z → he.get? c = some o → hk.get? c = some o := fun c o n1 e => sk.extBut _ _ n1 (sg.extBut _ _ n1 (Heap.get?_push_of_some _ e))
  have Tk : IsPair hk he.objs.size x y := sk.extBut _ _ (Nat.ne_of_gt lz) (sg.extBut _ _ (Nat.ne_of_gt lz) (Heap.get?_push_size _ rfl))
  rw [size] at zk Tk
  refine wpAny_pure ⟨_, rfl, wpAny_pure ?_⟩
  show Q (some (.ref he.objs.size)) _; rw [size]
  refine q hk ⟨zk, up _ _ D.TIz (ke _ _ D.TIz D.TITO D.TIi1 D.TIi2 hI), ⟨_, _, up _ _ D.TOz Oe⟩, m1.at fun o e => up _ o D.i1z e, m2.at fun o e => up _ o D.i2z e⟩ Tk fun c o n1 n2 n3 n4 e => up c o n1 (ke c o n1 n2 n3 n4 e)
theorem zt_end {z TI TO i1 i2 l1 l2 : Addr} {k : Nat} {xs : Array Value} {Q : Option Value → Shared → Prop} (hh : A.handled = none) (D : ZipApart z TI TO i1 i2 l1 l2) (Z : ZT s.heap z TI TO i1 i2 l1 l2 k .none)
    (t1 : s.heap.IsTuple l1 xs) (e1 : xs[k]? = none) (q : ∀ h', (∀ c o, c ≠ z → c ≠ TO → c ≠ i1 → c ≠ i2 → s.heap.get? c = some o → h'.get? c = some o) → Q none { s with heap := h' }) : wpAny (model prog w) A (pyNext (.ref z)) Q E s := by
  obtain ⟨hz, hI, ⟨a, b, hO⟩, j1, j2⟩ := Z
  have ty : s.TypeIs (.ref z) "zip" := ⟨_, hz, rfl⟩
  unfold pyNext
  refine wpAny_bind (wpAny_attempt (wpAny_callSpecial?_slot (name := Str.ofString "__next__") ty F.slot_zip_next (wpAny_call_entry F.slot_zip_next ty F.entry_zip_next ?_ (F.args_zip_next_1 _))))
  show wpAny _ _ (field (.ref z) 2 >>= _) _ _ _; refine wpAny_bind (wpAny_field hz rfl (x := .bool false) rfl ?_)
  show wpAny _ _ (field (.ref z) 3 >>= _) _ _ _; refine wpAny_bind (wpAny_field hz rfl (x := .ref TI) rfl ?_)
  refine wpAny_bind (wpAny_seqItems hI rfl ?_)
  show wpAny _ _ (Builtin.SmallTypes.ownedTupleIsFree (.ref z) >>= _) _ _ _; refine wpAny_bind ?_; unfold Builtin.SmallTypes.ownedTupleIsFree
  refine wpAny_bind (wpAny_field hz rfl (x := .none) rfl (wpAny_pure ?_)); simp only [if_true]
  refine wpAny_bind (wpAny_rule ?_); refine wpAny_bind (wpAny_field hz rfl (x := .ref TO) rfl ?_)
  refine wpAny_bind (wpAny_setField_rec hz (by simp) fun ha za sa => ?_)
  replace za : IsZip ha z TI TO .ellipsis := za
  refine wpAny_bind ?_
  simp only [List.zipIdx_cons, List.zipIdx_nil, List.forIn_cons, List.forIn_nil]
  refine wpAny_bind (wpAny_bind (wpAny_onRaise ?_)); show wpAny _ _ (Builtin.SmallTypes.nextOf (.ref i1) >>= _) _ _ _
  refine wpAny_bind (nextOf_tup_end hh (j1.extBut sa.extBut D.i1z) (t1.extBut sa.extBut D.l1z) e1 fun hb e sb ee => ?_)
  obtain ⟨oe, ge, ce⟩ := ee
  have zb : IsZip hb z TI TO .ellipsis := sb _ _ D.i1z.symm za
  have nz : e ≠ z := fun t => by subst t; rw [zb] at ge; cases ge; simp at ce
  refine wpAny_setField_rec zb (by simp) fun hc _ sc => ?_
  have gc : hc.get? e = some oe := sc.extBut _ _ nz ge
  refine wpAny_bind (wpAny_isInstance (T := "StopIteration") (b := true) ⟨oe, gc, ce⟩ isSubtype_stop ?_)
  exact wpAny_pure (q _ fun c o n1 _ n3 _ t => sc.extBut _ _ n1 (sb _ _ n3 (sa.extBut _ _ n1 t)))
end
end L2

set_option Elab.async false
set_option linter.all false
set_option maxRecDepth 100000
set_option maxHeartbeats 4000000
namespace L2
open PySem PySem.Spec PyProof.Rows
abbrev zt1 (h : Heap) (a : Addr) : Heap := h.push { cls := .type "tuple_iterator", data := .fields #[.ref a, .int 0 0] }
abbrev zt2 (h : Heap) (a b : Addr) : Heap := (zt1 h a).push { cls := .type "tuple_iterator", data := .fields #[.ref b, .int 0 0] }
abbrev zt3 (h : Heap) (a b : Addr) : Heap := (zt2 h a b).push { cls := .type "tuple", data := .seq #[.ref h.objs.size, .ref (zt1 h a).objs.size] }
abbrev zt4 (h : Heap) (a b : Addr) : Heap := (zt3 h a b).push { cls := .type "tuple", data := .seq #[.none, .none] }
abbrev zt5 (h : Heap) (a b : Addr) : Heap := (zt4 h a b).push { cls := .type "zip", data := .fields #[.none, .bool false, .bool false, .ref (zt2 h a b).objs.size, .ref (zt3 h a b).objs.size] }
theorem meets_zt (a b : Addr) (xs ys : Array Value) : Meets (Builtin.«zip.__new__» ⟨[.type "zip", .ref a, .ref b], []⟩) (fun _ R s => s.heap.IsTuple a xs ∧ s.heap.IsTuple b ys ∧ R (.ok (.ret (.ref (zt4 s.heap a b).objs.size))) { s with heap := zt5 s.heap a b }) :=
  .of_wp fun prog w A R s h => by
    obtain ⟨hp, g, d, tk, os⟩ := s; obtain ⟨h1, h2, h⟩ := h
    have hsub := sub_zip
    have L1 : Heap.IsTuple (Shared.heap ⟨hp, g, d, tk, os⟩) a xs := h1
    have L2' : Heap.IsTuple (Shared.heap ⟨hp.push { cls := .type "tuple_iterator", data := .fields #[.ref a, .int 0 0] }, g, d, tk, os⟩) b ys := Heap.IsTuple.push h2 _
    wp_walk using wpAny_pyIter_tuple L1, wpAny_pyIter_tuple L2'
    exact ⟨_, rfl, h⟩
section
variable {prog : Program} {w : World} {A : Around} {E : Value → Shared → Prop} {s : Shared}
theorem call_zt {a b : Addr} {xs ys : Array Value} {Q : Value → Shared → Prop} (t1 : s.heap.IsTuple a xs) (t2 : s.heap.IsTuple b ys)
    (h : ∀ h', ZT h' (s.heap.objs.size + 4) (s.heap.objs.size + 2) (s.heap.objs.size + 3) s.heap.objs.size (s.heap.objs.size + 1) a b 0 .none → (∀ c o, s.heap.get? c = some o → h'.get? c = some o) → Q (.ref (s.heap.objs.size + 4)) { s with heap := h' }) :
    wpAny (model prog w) A (call (.type "zip") [.ref a, .ref b]) Q E s := by
  refine callType_new F.called_zip (by decide) (F.typeCall_zip_2 _ _) (F.newCall_zip_2 _ _) (fun obj => F.args_object_init_3 obj _ _) F.entry_zip_new (meets_zt a b xs ys) ⟨t1, t2, ?_⟩
  have n1 : (zt1 s.heap a).objs.size = s.heap.objs.size + 1 := Heap.size_push ..
  have n2 : (zt2 s.heap a b).objs.size = s.heap.objs.size + 2 := by rw [Heap.size_push, n1]
  have n3 : (zt3 s.heap a b).objs.size = s.heap.objs.size + 3 := by rw [Heap.size_push, n2]
  have n4 : (zt4 s.heap a b).objs.size = s.heap.objs.size + 4 := by rw [Heap.size_push, n3]
  have o5 : (zt5 s.heap a b).get? (zt4 s.heap a b).objs.size = some _ := Heap.get?_push_size _ rfl
  have o4 : (zt5 s.heap a b).get? (zt3 s.heap a b).objs.size = some _ := Heap.get?_push_of_some _ (Heap.get?_push_size _ rfl)
  have o3 : (zt5 s.heap a b).get? (zt2 s.heap a b).objs.size = some _ := Heap.get?_push_of_some _ (Heap.get?_push_of_some _ (Heap.get?_push_size _ rfl))
  have o2 : (zt5 s.heap a b).get? (zt1 s.heap a).objs.size = some _ := Heap.get?_push_of_some _ (Heap.get?_push_of_some _ (Heap.get?_push_of_some _ (Heap.get?_push_size _ rfl)))
  have o1 : (zt5 s.heap a b).get? s.heap.objs.size = some _ := Heap.get?_push_of_some _ (Heap.get?_push_of_some _ (Heap.get?_push_of_some _ (Heap.get?_push_of_some _ (Heap.get?_push_size _ rfl))))
  show _ ∧ _
  rw [n2, n3, n4] at o5
  rw [n1, n2] at o3
  rw [n3] at o4
  rw [n1] at o2
  rw [n4]
  exact ⟨⟨_, o5, rfl⟩, h _ ⟨o5, o3, ⟨_, _, o4⟩, ⟨_, o1, rfl, rfl⟩, ⟨_, o2, rfl, rfl⟩⟩ fun c o x => Heap.get?_push_of_some _ (Heap.get?_push_of_some _ (Heap.get?_push_of_some _ (Heap.get?_push_of_some _ (Heap.get?_push_of_some _ x))))⟩
end
def Itz (K : PySem.W.Frag) (a b : Addr) : It :=
  ⟨fun i H => ∃ xs x ys y, SqT K H a xs ∧ SqT K H b ys ∧ xs[i]? = some x ∧ ys[i]? = some y,
   fun i H v H' => ∃ t x y, H t = none ∧ v = .ref t ∧ (∀ xs, SqT K H a xs → xs[i]? = some x) ∧ (∀ ys, SqT K H b ys → ys[i]? = some y) ∧ H' = upd H t (.tup [x, y]),
   fun i H => ∃ xs, SqT K H a xs ∧ xs.length ≤ i⟩
theorem turn_zip {P : Program} {w : World} {K : PySem.W.Frag} {elts : List Expr} {kk : Nat} {pos : Pos} (a b z TI TO i1 i2 : Addr) (D : ZipApart z TI TO i1 i2 a b) : Turn P w K (.Tuple elts kk pos) (Itz K a b) [z, TI, TO, i1, i2] z (fun i h => ZT h z TI TO i1 i2 a b i .none) where
  mem := by simp
  obj := fun i h st c hc => by
    obtain ⟨hz, hI, ⟨x, y, hO⟩, ⟨o1, g1, _, d1⟩, o2, g2, _, d2⟩ := st
    have hc : c = z ∨ c = TI ∨ c = TO ∨ c = i1 ∨ c = i2 := by simpa using hc
    rcases hc with rfl | rfl | rfl | rfl | rfl
    · exact ⟨_, hz, fun v q => by have q' : Data.fields _ = Data.cell v := q; cases q'⟩
    · exact ⟨_, hI, fun v q => by have q' : Data.seq _ _ = Data.cell v := q; cases q'⟩
    · exact ⟨_, hO, fun v q => by have q' : Data.seq _ _ = Data.cell v := q; cases q'⟩
    · exact ⟨o1, g1, fun v q => by rw [d1] at q; cases q⟩
    · exact ⟨o2, g2, fun v q => by rw [d2] at q; cases q⟩
  keep := fun i h h' st k => by
    obtain ⟨hz, hI, ⟨x, y, hO⟩, j1, j2⟩ := st
    exact ⟨k z (by simp) _ hz, k TI (by simp) _ hI, ⟨x, y, k TO (by simp) _ hO⟩, j1.at fun o e => k i1 (by simp) o e, j2.at fun o e => k i2 (by simp) o e⟩
  item := by
    intro X hP hw hK hc i pins s σ H E I hf st hg
    subst hP hw hK
    obtain ⟨xs, x, ys, y, q1, q2, e1, e2⟩ := hg
    obtain ⟨as, r1, p1, _⟩ := I.tuple q1
    obtain ⟨bs, r2, p2, _⟩ := I.tuple q2
    obtain ⟨u1, m1, v1⟩ := r1.get e1
    obtain ⟨u2, m2, v2⟩ := r2.get e2
    have hfr : H s.heap.objs.size = none := I.hok.fresh (Nat.le_refl _)
    have old : ∀ c ∈ [z, TI, TO, i1, i2], c < s.heap.objs.size := fun c hc => by
      obtain ⟨hz, hI, ⟨x, y, hO⟩, ⟨o1, g1, _⟩, o2, g2, _⟩ := st
      have hc : c = z ∨ c = TI ∨ c = TO ∨ c = i1 ∨ c = i2 := by simpa using hc
      rcases hc with rfl | rfl | rfl | rfl | rfl
      · exact Heap.lt_size hz
      · exact Heap.lt_size hI
      · exact Heap.lt_size hO
      · exact Heap.lt_size g1
      · exact Heap.lt_size g2
    refine zt_item D st (show s.heap.IsTuple a as.toArray from p1) (show s.heap.IsTuple b bs.toArray from p2) (x := u1) (y := u2) (by simpa using m1) (by simpa using m2) fun h1 Z1 T1 k1 => ⟨_, rfl, wpAny_letOwnedTupleGo_zip Z1.zip fun h2 z2 s2 => ?_⟩
    have I1 : Inv X pins σ (upd H s.heap.objs.size (.tup [x, y])) { s with heap := s.heap.push { cls := .type "tuple", data := .seq #[u1, u2] }, toks := s.toks } :=
      I.laid (t' := s.toks) (fun b u e => Heap.get?_push_of_some _ e) (Nat.le_refl _) ⟨(by show 2 ≤ sizeLine; decide), [u1, u2], .cons v1 (.cons v2 .nil), ⟨_, Heap.get?_push_size _ rfl, rfl, _, rfl⟩⟩
    have nn : ∀ c ∈ [z, TI, TO, i1, i2], upd H s.heap.objs.size (.tup [x, y]) c = none := fun c hc => by
      rw [upd_ne (Nat.ne_of_lt (old c hc))]
      exact (hf c hc).1
    have ap : ∀ c, c ∉ [z, TI, TO, i1, i2] → c ≠ z ∧ c ≠ TO ∧ c ≠ i1 ∧ c ≠ i2 := fun c hc => ⟨fun t => hc (by simp [t]), fun t => hc (by simp [t]), fun t => hc (by simp [t]), fun t => hc (by simp [t])⟩
    have I2 : Inv X pins σ (upd H s.heap.objs.size (.tup [x, y])) { s with heap := h2, toks := s.toks } := by
      refine Inv.turnedL (s := { s with heap := s.heap.push { cls := .type "tuple", data := .seq #[u1, u2] }, toks := s.toks }) (h' := h2) (t' := s.toks) (fp := [z, TI, TO, i1, i2]) I1 (fun c o hc ec => ?_) (fun c hc => ?_)
      · obtain ⟨c1, c2, c3, c4⟩ := ap c hc
        refine (s2.2 c c1).trans ?_
        by_cases hcs : c = s.heap.objs.size
        · subst hcs
          have f1 : (s.heap.push { cls := .type "tuple", data := .seq #[u1, u2] }).get? s.heap.objs.size = some { cls := .type "tuple", data := .seq #[u1, u2] } := Heap.get?_push_size _ rfl
          have ec : (s.heap.push { cls := .type "tuple", data := .seq #[u1, u2] }).get? s.heap.objs.size = some o := ec
          rw [f1] at ec
          cases ec
          exact T1
        · refine k1 c o c1 c2 c3 c4 ?_
          have ec : (s.heap.push { cls := .type "tuple", data := .seq #[u1, u2] }).get? c = some o := ec
          have hlt := Heap.lt_size ec
          rw [Heap.size_push] at hlt
          exact push_old ec (Nat.lt_of_le_of_ne (Nat.le_of_lt_succ hlt) hcs)
      · obtain ⟨f0, f1, f2, f3, f4, f5⟩ := hf c hc
        exact ⟨nn c hc, f1, f2, f3, f4, f5⟩
    obtain ⟨x5, y5, O5⟩ := Z1.to
    refine ⟨.ref s.heap.objs.size, _, I2, rfl, ⟨s.heap.objs.size, x, y, hfr, rfl, fun zs hy => by rw [I.tuple_inj hy q1]; exact e1, fun zs hy => by rw [I.tuple_inj hy q2]; exact e2, rfl⟩, ?_, nn⟩
    exact ⟨z2, (s2.2 _ D.TIz).trans Z1.ti, ⟨x5, y5, (s2.2 _ D.TOz).trans O5⟩, Z1.it1.at fun o e => (s2.2 _ D.i1z).trans e, Z1.it2.at fun o e => (s2.2 _ D.i2z).trans e⟩
  done := by
    intro X hP hw hK hc i pins s σ H E I hf st hg
    subst hP hw hK
    obtain ⟨xs, q1, hx⟩ := hg
    obtain ⟨as, r1, p1, _⟩ := I.tuple q1
    have hl := r1.length
    refine zt_end (I.ok.hd hc) D st (show s.heap.IsTuple a as.toArray from p1) (by simp; omega) fun h' eb => ⟨rfl, ?_⟩
    exact I.turnedL (t' := s.toks) (fp := [z, TI, TO, i1, i2]) (fun c o hc e => eb c o (fun t => hc (by simp [t])) (fun t => hc (by simp [t])) (fun t => hc (by simp [t])) (fun t => hc (by simp [t])) e) hf
  self := fun _ _ _ _ _ st h => wpAny_pyIter_zip st.zip h
theorem boot_zip : bootBuiltins (Str.ofString "zip") = some (.type "zip") := by kernel_rfl
def iZip (K : PySem.W.Frag) (ta : TA) : TI := fun σ H R => ta σ H fun vs H1 => ∃ (a b : Addr) (xs ys : List V), vs = [.ref a, .ref b] ∧ SqT K H1 a xs ∧ SqT K H1 b ys ∧ R (Itz K a b) H1
theorem pi_zip {X : Cx} {elts : List Expr} {k : Nat} {ps : Pos} {a b : Expr} {ta : TA} {p pos : Pos} (hg : Gl X "zip") (hm : X.mg "zip" = none) (ha : PA X [a, b] ta) (hs : starEach [a, b] X.env = (false, eval a X.env) :: starEach [b] X.env := by rfl)
    (hpl : (backTo pos (starEach [b] X.env)).any (·.1) = false := by rfl) :
    PI X (.Tuple elts k ps) (.Call (.Name "zip" p) [a, b] [] pos) (iZip X.K ta) := by
  intro pins s σ H R I h
  refine Call_ (ld_blt I hg hm boot_zip (PyProof.Rows.callWith_type1 (thn (ha pos pins s σ H _ I h) fun us s1 ⟨vs, H1, I1, r1, q1⟩ => ?_) hs hpl))
  obtain ⟨c, d, xs, ys, e, q2, q3, q⟩ := q1
  subst e
  obtain ⟨u, u', rfl, rx, ry⟩ := vals2 r1
  cases rx
  cases ry
  obtain ⟨as, r2, p1, _⟩ := I1.tuple q2
  obtain ⟨bs, r3, p2, _⟩ := I1.tuple q3
  obtain ⟨oc, gc, _⟩ := id p1
  obtain ⟨od, gd, _⟩ := id p2
  refine call_zt (show s1.heap.IsTuple c as.toArray from p1) (show s1.heap.IsTuple d bs.toArray from p2) fun h' Z hk => ?_
  refine wpAny_pyIter_zip Z.zip ?_
  have I2 : Inv X pins σ H1 { s1 with heap := h', toks := s1.toks } := I1.kept (t' := s1.toks) hk
  refine ⟨s1.heap.objs.size + 4, [s1.heap.objs.size + 4, s1.heap.objs.size + 2, s1.heap.objs.size + 3, s1.heap.objs.size, s1.heap.objs.size + 1], _, _, H1, rfl, I2, turn_zip c d _ _ _ _ _ (zipApart_new (Heap.lt_size gc) (Heap.lt_size gd)), Z, fun e he => ?_, q⟩
  have hle : s1.heap.objs.size ≤ e := by
    have hc : e = s1.heap.objs.size + 4 ∨ e = s1.heap.objs.size + 2 ∨ e = s1.heap.objs.size + 3 ∨ e = s1.heap.objs.size ∨ e = s1.heap.objs.size + 1 := by simpa using he
    rcases hc with r | r | r | r | r <;> rw [r] <;> first | exact Nat.le_refl _ | exact Nat.le_add_right _ _
  exact I1.fpOk hle (I1.hok.fresh hle)
end L2
namespace D
open PySem L2
theorem pi_zip {X : Cx} {elts : List Expr} {k : Nat} {ps : Pos} {a b : Expr} {ta : TA} {p pos : Pos} (hg : Gl X "zip") (hm : X.mg "zip" = none) (ha : QA X [a, b] ta) (hs : starEach [a, b] X.env = (false, eval a X.env) :: starEach [b] X.env := by rfl)
    (hpl : (backTo pos (starEach [b] X.env)).any (·.1) = false := by rfl) : QI X (.Tuple elts k ps) (.Call (.Name "zip" p) [a, b] [] pos) (iZip X.K ta) := ⟨L2.pi_zip hg hm ha.un hs hpl⟩
end D

set_option Elab.async false
set_option linter.all false
set_option maxRecDepth 100000
set_option maxHeartbeats 4000000
namespace D
open PySem L2
/-! ### things: None, truths, ints, texts and tuples of them, as PyData -/
mutual
def alk : PyData → PyData → Bool
  | .none, .none => true
  | .bool a, .bool b => a == b
  | .int a, .int b => a == b
  | .str a, .str b => a == b
  | .tuple xs, .tuple ys => alks xs ys
  | _, _ => false
def alks : List PyData → List PyData → Bool
  | [], [] => true
  | x :: xs, y :: ys => alk x y && alks xs ys
  | _, _ => false
end
mutual
def eqD : PyData → PyData → Bool
  | .none, .none => true
  | .bool a, .bool b => a == b
  | .bool a, .int i => (if a then 1 else 0) == i
  | .int i, .bool a => i == (if a then 1 else 0)
  | .int a, .int b => a == b
  | .str a, .str b => a == b
  | .tuple xs, .tuple ys => eqDs xs ys
  | _, _ => false
def eqDs : List PyData → List PyData → Bool
  | [], [] => true
  | x :: xs, y :: ys => eqD x y && eqDs xs ys
  | _, _ => false
end
mutual
def TB (B : Nat) : PyData → Prop
  | .none => True
  | .bool _ => True
  | .int i => i.natAbs < B
  | .str x => x.length ≤ 2000 ∧ ∀ c ∈ x.cps.toList, c < 200
  | .tuple xs => TBs B xs
  | .list _ => False
  | .dict _ => False
def TBs (B : Nat) : List PyData → Prop
  | [] => True
  | x :: xs => TB B x ∧ TBs B xs
end
def big : Nat := 10 ^ 121
def big1 : Nat := 10 ^ 120 + 1
abbrev TOk := TB big
abbrev TOks := TBs big
mutual
def cnt : PyData → Nat
  | .tuple xs => cnts xs + 1
  | .none => 1
  | .bool _ => 1
  | .int _ => 1
  | .str _ => 1
  | .list _ => 1
  | .dict _ => 1
def cnts : List PyData → Nat
  | [] => 0
  | x :: xs => cnt x + cnts xs
end
mutual
theorem alk_refl : ∀ d : PyData, TOk d → alk d d = true
  | .none, _ => rfl
  | .bool b, _ => by simp [alk]
  | .int i, _ => by simp [alk]
  | .str x, _ => by simp [alk]
  | .tuple xs, h => by simp only [alk]; exact alks_refl xs h
  | .list _, h => h.elim
  | .dict _, h => h.elim
theorem alks_refl : ∀ ds : List PyData, TOks ds → alks ds ds = true
  | [], _ => rfl
  | x :: xs, h => by simp only [alks, alk_refl x h.1, alks_refl xs h.2, Bool.and_self]
end
mutual
theorem alk_eq : ∀ (d e : PyData), alk d e = true → d = e
  | .none, .none, _ => rfl
  | .bool a, .bool b, h => by simp only [alk, beq_iff_eq] at h; rw [h]
  | .int a, .int b, h => by simp only [alk, beq_iff_eq] at h; rw [h]
  | .str a, .str b, h => by simp only [alk, beq_iff_eq] at h; rw [h]
  | .tuple xs, .tuple ys, h => by simp only [alk] at h; rw [alks_eq xs ys h]
  | .none, .bool _, h => by simp [alk] at h
  | .none, .int _, h => by simp [alk] at h
  | .none, .str _, h => by simp [alk] at h
  | .none, .tuple _, h => by simp [alk] at h
  | .bool _, .none, h => by simp [alk] at h
  | .bool _, .int _, h => by simp [alk] at h
  | .bool _, .str _, h => by simp [alk] at h
  | .bool _, .tuple _, h => by simp [alk] at h
  | .int _, .none, h => by simp [alk] at h
  | .int _, .bool _, h => by simp [alk] at h
  | .int _, .str _, h => by simp [alk] at h
  | .int _, .tuple _, h => by simp [alk] at h
  | .str _, .none, h => by simp [alk] at h
  | .str _, .bool _, h => by simp [alk] at h
  | .str _, .int _, h => by simp [alk] at h
  | .str _, .tuple _, h => by simp [alk] at h
  | .tuple _, .none, h => by simp [alk] at h
  | .tuple _, .bool _, h => by simp [alk] at h
  | .tuple _, .int _, h => by simp [alk] at h
  | .tuple _, .str _, h => by simp [alk] at h
  | .list _, _, h => by simp [alk] at h
  | .dict _, _, h => by simp [alk] at h
  | .none, .list _, h => by simp [alk] at h
  | .none, .dict _, h => by simp [alk] at h
  | .bool _, .list _, h => by simp [alk] at h
  | .bool _, .dict _, h => by simp [alk] at h
  | .int _, .list _, h => by simp [alk] at h
  | .int _, .dict _, h => by simp [alk] at h
  | .str _, .list _, h => by simp [alk] at h
  | .str _, .dict _, h => by simp [alk] at h
  | .tuple _, .list _, h => by simp [alk] at h
  | .tuple _, .dict _, h => by simp [alk] at h
theorem alks_eq : ∀ (ds es : List PyData), alks ds es = true → ds = es
  | [], [], _ => rfl
  | [], _ :: _, h => by simp [alks] at h
  | _ :: _, [], h => by simp [alks] at h
  | x :: xs, y :: ys, h => by
    simp only [alks, Bool.and_eq_true] at h
    rw [alk_eq x y h.1, alks_eq xs ys h.2]
end
mutual
theorem eqD_refl : ∀ d : PyData, TOk d → eqD d d = true
  | .none, _ => rfl
  | .bool b, _ => by simp [eqD]
  | .int i, _ => by simp [eqD]
  | .str x, _ => by simp [eqD]
  | .tuple xs, h => by simp only [eqD]; exact eqDs_refl xs h
  | .list _, h => h.elim
  | .dict _, h => h.elim
theorem eqDs_refl : ∀ ds : List PyData, TOks ds → eqDs ds ds = true
  | [], _ => rfl
  | x :: xs, h => by simp only [eqDs, eqD_refl x h.1, eqDs_refl xs h.2, Bool.and_self]
end
/-! ### the texts of two things that are equal but not alike differ -/
def DiffL (a b : List Nat) : Prop := ∃ p c d x y, c ≠ d ∧ a = p ++ c :: x ∧ b = p ++ d :: y
theorem DiffL.ne {a b : List Nat} (h : DiffL a b) : a ≠ b := by
  obtain ⟨p, c, d, x, y, hn, rfl, rfl⟩ := h
  intro e
  have := List.append_cancel_left e
  exact hn (List.cons.inj this).1
theorem DiffL.pre {a b : List Nat} (h : DiffL a b) (q : List Nat) : DiffL (q ++ a) (q ++ b) := by
  obtain ⟨p, c, d, x, y, hn, rfl, rfl⟩ := h
  exact ⟨q ++ p, c, d, x, y, hn, by simp, by simp⟩
theorem DiffL.suf {a b : List Nat} (h : DiffL a b) (q r : List Nat) : DiffL (a ++ q) (b ++ r) := by
  obtain ⟨p, c, d, x, y, hn, rfl, rfl⟩ := h
  exact ⟨p, c, d, x ++ q, y ++ r, hn, by simp, by simp⟩
def cp (x : Str) : List Nat := x.cps.toList
theorem cp_app (x y : Str) : cp (x ++ y) = cp x ++ cp y := by
  show (x.cps ++ y.cps).toList = _
  simp [cp]
def tails : List Str → List Nat
  | [] => []
  | t :: r => cp (", " : String) ++ (cp t ++ tails r)
theorem join_tails : ∀ (t : Str) (r : List Str), cp (Str.join ", " (t :: r)) = cp t ++ tails r
  | t, [] => by simp [Str.join, tails]
  | t, u :: r => by
    show cp (t ++ ", " ++ Str.join ", " (u :: r)) = _
    rw [cp_app, cp_app, join_tails u r, List.append_assoc]
    rfl
theorem cp_tuple (t : Str) (r : List Str) : ∃ e, cp (tupleText (t :: r)) = cp ("(" : String) ++ (cp t ++ (tails r ++ e)) := by
  refine ⟨cp ((if (t :: r).length == 1 then ",)" else ")" : String)), ?_⟩
  show cp (("(" : Str) ++ Str.join ", " (t :: r) ++ (if (t :: r).length == 1 then ",)" else ")" : String)) = _
  rw [cp_app, cp_app, join_tails]
  simp
mutual
theorem told : ∀ (d e : PyData), TOk d → TOk e → eqD d e = true → alk d e = false → DiffL (cp d.shown) (cp e.shown)
  | .none, .none, _, _, _, h => by simp [alk] at h
  | .bool a, .bool b, _, _, h, g => by simp only [eqD] at h; simp only [alk] at g; rw [h] at g; cases g
  | .int a, .int b, _, _, h, g => by simp only [eqD] at h; simp only [alk] at g; rw [h] at g; cases g
  | .str a, .str b, _, _, h, g => by simp only [eqD] at h; simp only [alk] at g; rw [h] at g; cases g
  | .bool a, .int i, _, _, h, _ => by
    simp only [eqD, beq_iff_eq] at h
    subst h
    cases a
    · exact ⟨[], 70, 48, [97, 108, 115, 101], [], by decide, by decide +kernel, by decide +kernel⟩
    · exact ⟨[], 84, 49, [114, 117, 101], [], by decide, by decide +kernel, by decide +kernel⟩
  | .int i, .bool a, _, _, h, _ => by
    simp only [eqD, beq_iff_eq] at h
    subst h
    cases a
    · exact ⟨[], 48, 70, [], [97, 108, 115, 101], by decide, by decide +kernel, by decide +kernel⟩
    · exact ⟨[], 49, 84, [], [114, 117, 101], by decide, by decide +kernel, by decide +kernel⟩
  | .tuple [], .tuple [], _, _, _, g => by simp [alk, alks] at g
  | .tuple [], .tuple (_ :: _), _, _, h, _ => by simp [eqD, eqDs] at h
  | .tuple (_ :: _), .tuple [], _, _, h, _ => by simp [eqD, eqDs] at h
  | .tuple (x :: xs), .tuple (y :: ys), hx, hy, h, g => by
    simp only [eqD, eqDs, Bool.and_eq_true] at h
    simp only [alk, alks] at g
    simp only [PyData.shown, PyData.shownAll]
    obtain ⟨e1, t1⟩ := cp_tuple (PyData.shown x) (PyData.shownAll xs)
    obtain ⟨e2, t2⟩ := cp_tuple (PyData.shown y) (PyData.shownAll ys)
    rw [t1, t2]
    refine DiffL.pre ?_ _
    cases q : alk x y with
    | true =>
      rw [q, Bool.true_and] at g
      rw [alk_eq x y q]
      exact ((tolds xs ys hx.2 hy.2 h.2 g).suf _ _).pre _
    | false => exact (told x y hx.1 hy.1 h.1 q).suf _ _
  | .none, .bool _, _, _, h, _ => by simp [eqD] at h
  | .none, .int _, _, _, h, _ => by simp [eqD] at h
  | .none, .str _, _, _, h, _ => by simp [eqD] at h
  | .none, .tuple _, _, _, h, _ => by simp [eqD] at h
  | .bool _, .none, _, _, h, _ => by simp [eqD] at h
  | .bool _, .str _, _, _, h, _ => by simp [eqD] at h
  | .bool _, .tuple _, _, _, h, _ => by simp [eqD] at h
  | .int _, .none, _, _, h, _ => by simp [eqD] at h
  | .int _, .str _, _, _, h, _ => by simp [eqD] at h
  | .int _, .tuple _, _, _, h, _ => by simp [eqD] at h
  | .str _, .none, _, _, h, _ => by simp [eqD] at h
  | .str _, .bool _, _, _, h, _ => by simp [eqD] at h
  | .str _, .int _, _, _, h, _ => by simp [eqD] at h
  | .str _, .tuple _, _, _, h, _ => by simp [eqD] at h
  | .tuple _, .none, _, _, h, _ => by simp [eqD] at h
  | .tuple _, .bool _, _, _, h, _ => by simp [eqD] at h
  | .tuple _, .int _, _, _, h, _ => by simp [eqD] at h
  | .tuple _, .str _, _, _, h, _ => by simp [eqD] at h
  | .list _, _, h, _, _, _ => h.elim
  | .dict _, _, h, _, _, _ => h.elim
  | _, .list _, _, h, _, _ => h.elim
  | _, .dict _, _, h, _, _ => h.elim
theorem tolds : ∀ (ds es : List PyData), TOks ds → TOks es → eqDs ds es = true → alks ds es = false → DiffL (tails (PyData.shownAll ds)) (tails (PyData.shownAll es))
  | [], [], _, _, _, h => by simp [alks] at h
  | [], _ :: _, _, _, h, _ => by simp [eqDs] at h
  | _ :: _, [], _, _, h, _ => by simp [eqDs] at h
  | x :: xs, y :: ys, hx, hy, h, g => by
    simp only [eqDs, Bool.and_eq_true] at h
    simp only [alks] at g
    simp only [PyData.shownAll, tails]
    refine DiffL.pre ?_ _
    cases q : alk x y with
    | true =>
      rw [q, Bool.true_and] at g
      rw [alk_eq x y q]
      exact (tolds xs ys hx.2 hy.2 h.2 g).pre _
    | false => exact (told x y hx.1 hy.1 h.1 q).suf _ _
end
theorem just {d e : PyData} (h1 : TOk d) (h2 : TOk e) : (eqD d e && decide (d.shown = e.shown)) = alk d e := by
  cases q : alk d e with
  | true =>
    have := alk_eq d e q
    subst this
    simp [eqD_refl d h1]
  | false =>
    cases p : eqD d e with
    | false => rfl
    | true =>
      have := (told d e h1 h2 p q).ne
      rw [Bool.true_and]
      exact decide_eq_false fun z => this (by rw [z])
/-! ### bounds -/
mutual
theorem shown_len : ∀ d : PyData, TOk d → d.shown.length + 10 ≤ 20020 * cnt d
  | .none, _ => by decide +kernel
  | .bool true, _ => by decide +kernel
  | .bool false, _ => by decide +kernel
  | .int i, h => by
    have h : i.natAbs < 10 ^ 121 := h
    have e : (PyData.int i).shown.length = (toString i).length := by
      simp only [PyData.shown]; exact ofString_length _
    rw [e]
    have := int_text_length_le10 (k := 121) (by decide) h
    simp only [cnt]; omega
  | .str x, h => by
    have h : x.length ≤ 2000 ∧ ∀ c ∈ x.cps.toList, c < 200 := h
    have := StrLaws.reprText_len x (fun c hc => Nat.lt_of_lt_of_le (h.2 c hc) (by decide))
    simp only [PyData.shown, cnt]; omega
  | .tuple xs, h => by
    have ih := piled_len xs h
    have e : (tupleText (PyData.shownAll xs)).length ≤ piled (PyData.shownAll xs) + 3 := by
      unfold tupleText
      rw [strLen_append, strLen_append]
      have e1 : ((("(" : String) : Str)).length = 1 := rfl
      have e3 : (((if (PyData.shownAll xs).length == 1 then ",)" else ")" : String) : Str)).length ≤ 2 := by split <;> decide
      have e2 : (Str.join ", " (PyData.shownAll xs)).length ≤ piled (PyData.shownAll xs) := by
        cases q : PyData.shownAll xs with
        | nil => decide +kernel
        | cons a b => have := join_length_add (a :: b) (by simp); omega
      omega
    simp only [PyData.shown, cnt]; omega
  | .list _, h => h.elim
  | .dict _, h => h.elim
theorem piled_len : ∀ ds : List PyData, TOks ds → piled (PyData.shownAll ds) ≤ 20020 * cnts ds
  | [], _ => by decide
  | x :: xs, h => by
    have a := shown_len x h.1
    have b := piled_len xs h.2
    simp only [PyData.shownAll, piled_cons, cnts]; omega
end
theorem log2_lt_of {n k : Nat} (hk : 0 < k) (h : n < 2 ^ k) : n.log2 < k := by
  by_cases z : n = 0
  · subst z; exact hk
  · exact (Nat.log2_lt z).mpr h
mutual
theorem showable_of : ∀ d : PyData, TOk d → d.showable = true ∧ d.hasDict = false
  | .none, _ => ⟨rfl, rfl⟩
  | .bool _, _ => ⟨rfl, rfl⟩
  | .int i, h => ⟨by simp only [PyData.showable, decide_eq_true_eq]; exact log2_lt_of (by decide) (Nat.lt_of_lt_of_le (show i.natAbs < 10 ^ 121 from h) (by decide +kernel)), rfl⟩
  | .str _, _ => ⟨rfl, rfl⟩
  | .tuple xs, h => by simp only [PyData.showable, PyData.hasDict]; exact showables_of xs h
  | .list _, h => h.elim
  | .dict _, h => h.elim
theorem showables_of : ∀ ds : List PyData, TOks ds → PyData.showableAll ds = true ∧ PyData.hasDictAll ds = false
  | [], _ => ⟨rfl, rfl⟩
  | x :: xs, h => by
    obtain ⟨a, b⟩ := showable_of x h.1
    obtain ⟨c, d⟩ := showables_of xs h.2
    simp only [PyData.showableAll, PyData.hasDictAll, a, b, c, d]
    exact ⟨rfl, rfl⟩
end
theorem depthAll_mem : ∀ {ds : List PyData} {d : PyData}, d ∈ ds → d.depth ≤ PyData.depthAll ds
  | x :: xs, d, h => by
    simp only [PyData.depthAll]
    rcases List.mem_cons.mp h with rfl | h
    · exact Nat.le_max_left _ _
    · exact Nat.le_trans (depthAll_mem h) (Nat.le_max_right _ _)
theorem TOks_mem {B : Nat} : ∀ {ds : List PyData} {d : PyData}, TBs B ds → d ∈ ds → TB B d
  | x :: xs, d, h, m => by
    rcases List.mem_cons.mp m with rfl | m
    · exact h.1
    · exact TOks_mem h.2 m
theorem cnts_mem : ∀ {ds : List PyData} {d : PyData}, d ∈ ds → cnt d ≤ cnts ds
  | x :: xs, d, m => by
    simp only [cnts]
    rcases List.mem_cons.mp m with rfl | m
    · omega
    · have := cnts_mem m; omega
theorem TOks_of {B : Nat} : ∀ {ds : List PyData}, (∀ d ∈ ds, TB B d) → TBs B ds
  | [], _ => trivial
  | x :: xs, h => ⟨h x (by simp), TOks_of fun d m => h d (by simp [m])⟩
mutual
theorem TB.mono {B C : Nat} (h : B ≤ C) : ∀ d : PyData, TB B d → TB C d
  | .none, _ => trivial
  | .bool _, _ => trivial
  | .int i, q => Nat.lt_of_lt_of_le (show i.natAbs < B from q) h
  | .str _, q => q
  | .tuple xs, q => TBs.mono h xs q
  | .list _, q => q
  | .dict _, q => q
theorem TBs.mono {B C : Nat} (h : B ≤ C) : ∀ ds : List PyData, TBs B ds → TBs C ds
  | [], _ => trivial
  | x :: xs, q => ⟨TB.mono h x q.1, TBs.mono h xs q.2⟩
end
theorem TB.up {d : PyData} (h : TB big1 d) : TOk d := TB.mono (by decide +kernel) d h
theorem alks_len : ∀ {xs ys : List PyData}, xs.length ≠ ys.length → alks xs ys = false
  | [], [], h => absurd rfl h
  | [], _ :: _, _ => rfl
  | _ :: _, [], _ => rfl
  | x :: xs, y :: ys, h => by
    simp only [alks, alks_len (xs := xs) (ys := ys) (by simpa using h), Bool.and_false]
theorem alks_zip : ∀ {xs ys : List PyData}, xs.length = ys.length → alks xs ys = (List.zipWith alk xs ys).all id
  | [], [], _ => rfl
  | x :: xs, y :: ys, h => by
    simp only [alks, alks_zip (xs := xs) (ys := ys) (by simpa using h), List.zipWith_cons_cons, List.all_cons]
    rfl
theorem cnt_pos : ∀ d : PyData, 1 ≤ cnt d
  | .none => Nat.le_refl _
  | .bool _ => Nat.le_refl _
  | .int _ => Nat.le_refl _
  | .str _ => Nat.le_refl _
  | .tuple xs => by simp only [cnt]; omega
  | .list _ => Nat.le_refl _
  | .dict _ => Nat.le_refl _
end D

set_option Elab.async false
set_option linter.all false
set_option maxRecDepth 100000
set_option maxHeartbeats 4000000
namespace D
open PySem L2
inductive RT (H : Hp) : V → PyData → Prop where
  | non : RT H .non .none
  | bl (b : Bool) : RT H (.bl b) (.bool b)
  | int (i : Int) : RT H (.int i) (.int i)
  | str (x : Str) : RT H (.str x) (.str x)
  | tup {a : Addr} {vs : List V} {ds : List PyData} : H a = some (.tup vs) → vs.length = ds.length → (∀ (i : Nat) (v : V) (d : PyData), vs[i]? = some v → ds[i]? = some d → RT H v d) → RT H (.ref a) (.tuple ds)
theorem RT.mono {H H' : Hp} (t : Tups H H') {v : V} {d : PyData} (h : RT H v d) : RT H' v d := by
  induction h with
  | non => exact .non
  | bl b => exact .bl b
  | int i => exact .int i
  | str x => exact .str x
  | tup e l _ ih => exact .tup (t _ _ e) l ih
theorem RT.inj {H : Hp} {v : V} {x : PyData} (h : RT H v x) : ∀ {y : PyData}, RT H v y → x = y := by
  induction h with
  | non => intro y hy; cases hy; rfl
  | bl b => intro y hy; cases hy; rfl
  | int i => intro y hy; cases hy; rfl
  | str x => intro y hy; cases hy; rfl
  | @tup a vs ds e l _ ih =>
    intro y hy
    cases hy with
    | @tup _ us es e2 l2 at2 =>
      rw [e] at e2
      cases e2
      congr 1
      apply List.ext_getElem?
      intro i
      by_cases hi : i < vs.length
      · have h1 : i < ds.length := by omega
        have h2 : i < es.length := by omega
        rw [List.getElem?_eq_getElem h1, List.getElem?_eq_getElem h2]
        exact congrArg some (ih i _ _ (List.getElem?_eq_getElem hi) (List.getElem?_eq_getElem h1) (at2 i _ _ (List.getElem?_eq_getElem hi) (List.getElem?_eq_getElem h2)))
      · rw [List.getElem?_eq_none (by omega), List.getElem?_eq_none (by omega)]
theorem eqDs_iff : ∀ (xs ys : List PyData), eqDs xs ys = ((List.range (min xs.length ys.length)).all (fun j => eqD (xs.getD j .none) (ys.getD j .none)) && xs.length == ys.length)
  | [], [] => by simp [eqDs]
  | [], _ :: _ => by simp [eqDs]
  | _ :: _, [] => by simp [eqDs]
  | x :: xs, y :: ys => by
    have ih := eqDs_iff xs ys
    simp only [eqDs, ih, List.length_cons]
    have e : min (xs.length + 1) (ys.length + 1) = min xs.length ys.length + 1 := by omega
    rw [e, List.range_succ_eq_map, List.all_cons, List.all_map]
    have e2 : (xs.length + 1 == ys.length + 1) = (xs.length == ys.length) := by
      by_cases q : xs.length = ys.length
      · simp [q]
      · simp [q]
    rw [e2, Bool.and_assoc]
    rfl
theorem eqAllD {H : Hp} {ws zs : List PyData} {its its2 : List Value} {vs us : List V} (r1 : Vals vs its) (r2 : Vals us its2) (l1 : vs.length = ws.length) (l2 : us.length = zs.length) :
    ((List.range (min its.toArray.size its2.toArray.size)).all (fun j => eqD (ws.getD j .none) (zs.getD j .none)) && its.toArray.size == its2.toArray.size) = eqD (.tuple ws) (.tuple zs) := by
  have e1 : its.toArray.size = ws.length := by rw [List.size_toArray, ← r1.length, l1]
  have e2 : its2.toArray.size = zs.length := by rw [List.size_toArray, ← r2.length, l2]
  rw [e1, e2]
  simp only [eqD]
  exact (eqDs_iff ws zs).symm
theorem eqAt_D {X : Cx} {pins : List (Addr × Obj)} {σ : St} {H : Hp} {s : Shared} (I : Inv X pins σ H s) : ∀ (n : Nat) (A : Around) (x y : PyData) (u v : V) (U V' : Value), TOk y → x.depth < n → RT H u x → RT H v y → RelV u U → RelV v V' → A.units + n + 2 < cLine →
    SeqAt.EqAt A s U V' (eqD x y) := by
  intro n
  induction n with
  | zero => intro A x y u v U V' _ h; omega
  | succ n ih =>
    intro A x y u v U V' oy hd rx ry r1 r2 hu
    have hu0 : A.units < cLine := by omega
    cases rx with
    | non =>
      cases r1
      cases ry with
      | non =>
        cases r2
        exact SeqAt.EqAt.same _
      | bl b2 =>
        cases r2
        exact SeqAt.EqAt.none_bool b2
      | int i2 =>
        obtain ⟨t2, rfl⟩ := r2
        exact SeqAt.EqAt.none_int i2 t2
      | str z2 =>
        obtain ⟨t2, rfl⟩ := r2
        exact SeqAt.EqAt.none_str z2 t2
      | @tup a2 vs2 ds2 e2 l2 at2 =>
        cases r2
        obtain ⟨its2, rv2, p2, _⟩ := I.tuple (SqT.of e2)
        exact SeqAt.EqAt.none_tuple p2 hu0
    | bl b1 =>
      cases r1
      cases ry with
      | non =>
        cases r2
        exact SeqAt.EqAt.bool_none b1
      | bl b2 =>
        cases r2
        exact SeqAt.EqAt.bool_bool b1 b2
      | int i2 =>
        obtain ⟨t2, rfl⟩ := r2
        exact SeqAt.EqAt.bool_int b1 i2 t2
      | str z2 =>
        obtain ⟨t2, rfl⟩ := r2
        exact SeqAt.EqAt.bool_str b1 z2 t2
      | @tup a2 vs2 ds2 e2 l2 at2 =>
        cases r2
        obtain ⟨its2, rv2, p2, _⟩ := I.tuple (SqT.of e2)
        exact SeqAt.EqAt.bool_tuple b1 p2 hu0
    | int i1 =>
      obtain ⟨t1, rfl⟩ := r1
      cases ry with
      | non =>
        cases r2
        exact SeqAt.EqAt.int_none i1 t1
      | bl b2 =>
        cases r2
        exact SeqAt.EqAt.int_bool i1 t1 b2
      | int i2 =>
        obtain ⟨t2, rfl⟩ := r2
        exact SeqAt.EqAt.int_int i1 t1 i2 t2
      | str z2 =>
        obtain ⟨t2, rfl⟩ := r2
        exact SeqAt.EqAt.int_str i1 t1 z2 t2
      | @tup a2 vs2 ds2 e2 l2 at2 =>
        cases r2
        obtain ⟨its2, rv2, p2, _⟩ := I.tuple (SqT.of e2)
        exact SeqAt.EqAt.int_tuple i1 t1 p2 hu0
    | str z1 =>
      obtain ⟨t1, rfl⟩ := r1
      cases ry with
      | non =>
        cases r2
        exact SeqAt.EqAt.str_none z1 t1
      | bl b2 =>
        cases r2
        exact SeqAt.EqAt.str_bool z1 t1 b2
      | int i2 =>
        obtain ⟨t2, rfl⟩ := r2
        exact SeqAt.EqAt.str_int z1 t1 i2 t2
      | str z2 =>
        obtain ⟨t2, rfl⟩ := r2
        exact SeqAt.EqAt.str_str z1 t1 z2 t2
      | @tup a2 vs2 ds2 e2 l2 at2 =>
        cases r2
        obtain ⟨its2, rv2, p2, _⟩ := I.tuple (SqT.of e2)
        exact SeqAt.EqAt.str_tuple z1 t1 p2 hu0
    | @tup a1 vs1 ds1 e1 l1 at1 =>
      cases r1
      obtain ⟨its1, rv1, p1, _⟩ := I.tuple (SqT.of e1)
      cases ry with
      | non =>
        cases r2
        exact SeqAt.EqAt.tuple_none p1 hu0
      | bl b2 =>
        cases r2
        exact SeqAt.EqAt.tuple_bool b2 p1 hu0
      | int i2 =>
        obtain ⟨t2, rfl⟩ := r2
        exact SeqAt.EqAt.tuple_int i2 t2 p1 hu0
      | str z2 =>
        obtain ⟨t2, rfl⟩ := r2
        exact SeqAt.EqAt.tuple_str z2 t2 p1 hu0
      | @tup a2 vs2 ds2 e2 l2 at2 =>
        cases r2
        obtain ⟨its2, rv2, p2, _⟩ := I.tuple (SqT.of e2)
        by_cases hab : a1 = a2
        · subst hab
          have ee : PyData.tuple ds1 = PyData.tuple ds2 := RT.inj (.tup e1 l1 at1) (.tup e2 l2 at2)
          rw [ee, eqD_refl _ oy]
          exact SeqAt.EqAt.same _
        · rw [← eqAllD (H := H) rv1 rv2 l1 l2]
          refine SeqAt.EqAt.of_refs hab (SeqAt.RcAt.tuples p1 p2 hu0 fun j h1 h2 => ?_)
          have j1 : j < its1.length := by simpa using h1
          have j2 : j < its2.length := by simpa using h2
          have k1 : j < vs1.length := by rw [rv1.length]; exact j1
          have k2 : j < vs2.length := by rw [rv2.length]; exact j2
          have m1 : j < ds1.length := by omega
          have m2 : j < ds2.length := by omega
          obtain ⟨U1, hU1, rU1⟩ := rv1.get (List.getElem?_eq_getElem k1)
          obtain ⟨U2, hU2, rU2⟩ := rv2.get (List.getElem?_eq_getElem k2)
          have f1 : its1.toArray[j] = U1 := by have := (List.getElem?_eq_some_iff.mp hU1).2; simpa using this
          have f2 : its2.toArray[j] = U2 := by have := (List.getElem?_eq_some_iff.mp hU2).2; simpa using this
          rw [f1, f2]
          have g1 : ds1.getD j .none = ds1[j] := by rw [List.getD_eq_getElem?_getD, List.getElem?_eq_getElem m1]; rfl
          have g2 : ds2.getD j .none = ds2[j] := by rw [List.getD_eq_getElem?_getD, List.getElem?_eq_getElem m2]; rfl
          rw [g1, g2]
          have hdj := depthAll_mem (List.getElem_mem m1)
          have hd' : PyData.depthAll ds1 + 1 < n + 1 := hd
          have hu1 : A.in1.units = A.units + 1 := rfl
          exact ih A.in1 ds1[j] ds2[j] vs1[j] vs2[j] U1 U2 (TOks_mem oy (List.getElem_mem m2)) (by omega) (at1 j _ _ (List.getElem?_eq_getElem k1) (List.getElem?_eq_getElem m1)) (at2 j _ _ (List.getElem?_eq_getElem k2) (List.getElem?_eq_getElem m2)) rU1 rU2 (by omega)
theorem op_eqD {X : Cx} (hu : X.A.units + 80 < cLine) : OpR X (compareOp .Eq) (fun x y H Q => ∃ wx wy : PyData, RT H x wx ∧ RT H y wy ∧ TOk wy ∧ wx.depth < 70 ∧ Q (.bl (eqD wx wy)) H) := by
    intro pins s σ H x y v u Q I r1 r2 h
    obtain ⟨wx, wy, rx, ry, oy, hd, q⟩ := h
    have hu0 : X.A.units < cLine := by omega
    have fin : EP X pins σ Q (.bool (eqD wx wy)) s := ⟨.bl _, H, I, rfl, q⟩
    cases rx with
    | non =>
      cases r1
      cases ry with
      | non =>
        cases r2
        exact SeqAt.RcAt.none_none _ _ _ _ fin
      | bl b2 =>
        cases r2
        exact SeqAt.RcAt.none_bool b2 _ _ _ _ fin
      | int i2 =>
        obtain ⟨t2, rfl⟩ := r2
        exact SeqAt.RcAt.none_int i2 t2 _ _ _ _ fin
      | str z2 =>
        obtain ⟨t2, rfl⟩ := r2
        exact SeqAt.RcAt.none_str z2 t2 _ _ _ _ fin
      | @tup a2 vs2 ds2 e2 l2 at2 =>
        cases r2
        obtain ⟨its2, rv2, p2, _⟩ := I.tuple (SqT.of e2)
        exact SeqAt.RcAt.none_tuple p2 hu0 _ _ _ _ fin
    | bl b1 =>
      cases r1
      cases ry with
      | non =>
        cases r2
        exact SeqAt.RcAt.bool_none b1 _ _ _ _ fin
      | bl b2 =>
        cases r2
        exact SeqAt.RcAt.bool_bool b1 b2 _ _ _ _ fin
      | int i2 =>
        obtain ⟨t2, rfl⟩ := r2
        exact SeqAt.RcAt.bool_int b1 i2 t2 _ _ _ _ fin
      | str z2 =>
        obtain ⟨t2, rfl⟩ := r2
        exact SeqAt.RcAt.bool_str b1 z2 t2 _ _ _ _ fin
      | @tup a2 vs2 ds2 e2 l2 at2 =>
        cases r2
        obtain ⟨its2, rv2, p2, _⟩ := I.tuple (SqT.of e2)
        exact SeqAt.RcAt.bool_tuple b1 p2 hu0 _ _ _ _ fin
    | int i1 =>
      obtain ⟨t1, rfl⟩ := r1
      cases ry with
      | non =>
        cases r2
        exact SeqAt.RcAt.int_none i1 t1 _ _ _ _ fin
      | bl b2 =>
        cases r2
        exact SeqAt.RcAt.int_bool i1 t1 b2 _ _ _ _ fin
      | int i2 =>
        obtain ⟨t2, rfl⟩ := r2
        exact SeqAt.RcAt.int_int i1 t1 i2 t2 _ _ _ _ fin
      | str z2 =>
        obtain ⟨t2, rfl⟩ := r2
        exact SeqAt.RcAt.int_str i1 t1 z2 t2 _ _ _ _ fin
      | @tup a2 vs2 ds2 e2 l2 at2 =>
        cases r2
        obtain ⟨its2, rv2, p2, _⟩ := I.tuple (SqT.of e2)
        exact SeqAt.RcAt.int_tuple i1 t1 p2 hu0 _ _ _ _ fin
    | str z1 =>
      obtain ⟨t1, rfl⟩ := r1
      cases ry with
      | non =>
        cases r2
        exact SeqAt.RcAt.str_none z1 t1 _ _ _ _ fin
      | bl b2 =>
        cases r2
        exact SeqAt.RcAt.str_bool z1 t1 b2 _ _ _ _ fin
      | int i2 =>
        obtain ⟨t2, rfl⟩ := r2
        exact SeqAt.RcAt.str_int z1 t1 i2 t2 _ _ _ _ fin
      | str z2 =>
        obtain ⟨t2, rfl⟩ := r2
        exact SeqAt.RcAt.str_str z1 t1 z2 t2 _ _ _ _ fin
      | @tup a2 vs2 ds2 e2 l2 at2 =>
        cases r2
        obtain ⟨its2, rv2, p2, _⟩ := I.tuple (SqT.of e2)
        exact SeqAt.RcAt.str_tuple z1 t1 p2 hu0 _ _ _ _ fin
    | @tup a1 vs1 ds1 e1 l1 at1 =>
      cases r1
      obtain ⟨its1, rv1, p1, _⟩ := I.tuple (SqT.of e1)
      cases ry with
      | non =>
        cases r2
        exact SeqAt.RcAt.tuple_none p1 hu0 _ _ _ _ fin
      | bl b2 =>
        cases r2
        exact SeqAt.RcAt.tuple_bool b2 p1 hu0 _ _ _ _ fin
      | int i2 =>
        obtain ⟨t2, rfl⟩ := r2
        exact SeqAt.RcAt.tuple_int i2 t2 p1 hu0 _ _ _ _ fin
      | str z2 =>
        obtain ⟨t2, rfl⟩ := r2
        exact SeqAt.RcAt.tuple_str z2 t2 p1 hu0 _ _ _ _ fin
      | @tup a2 vs2 ds2 e2 l2 at2 =>
        cases r2
        obtain ⟨its2, rv2, p2, _⟩ := I.tuple (SqT.of e2)
        rw [← eqAllD (H := H) rv1 rv2 l1 l2] at fin
        refine SeqAt.RcAt.tuples p1 p2 hu0 (fun j h1 h2 => ?_) _ _ _ _ fin
        · have j1 : j < its1.length := by simpa using h1
          have j2 : j < its2.length := by simpa using h2
          have k1 : j < vs1.length := by rw [rv1.length]; exact j1
          have k2 : j < vs2.length := by rw [rv2.length]; exact j2
          have m1 : j < ds1.length := by omega
          have m2 : j < ds2.length := by omega
          obtain ⟨U1, hU1, rU1⟩ := rv1.get (List.getElem?_eq_getElem k1)
          obtain ⟨U2, hU2, rU2⟩ := rv2.get (List.getElem?_eq_getElem k2)
          have f1 : its1.toArray[j] = U1 := by have := (List.getElem?_eq_some_iff.mp hU1).2; simpa using this
          have f2 : its2.toArray[j] = U2 := by have := (List.getElem?_eq_some_iff.mp hU2).2; simpa using this
          rw [f1, f2]
          have g1 : ds1.getD j .none = ds1[j] := by rw [List.getD_eq_getElem?_getD, List.getElem?_eq_getElem m1]; rfl
          have g2 : ds2.getD j .none = ds2[j] := by rw [List.getD_eq_getElem?_getD, List.getElem?_eq_getElem m2]; rfl
          rw [g1, g2]
          have hdj := depthAll_mem (List.getElem_mem m1)
          have hd' : PyData.depthAll ds1 + 1 < 70 := hd
          have hu1 : X.A.in1.units = X.A.units + 1 := rfl
          exact eqAt_D I 70 X.A.in1 ds1[j] ds2[j] vs1[j] vs2[j] U1 U2 (TOks_mem oy (List.getElem_mem m2)) (by omega) (at1 j _ _ (List.getElem?_eq_getElem k1) (List.getElem?_eq_getElem m1)) (at2 j _ _ (List.getElem?_eq_getElem k2) (List.getElem?_eq_getElem m2)) rU1 rU2 (by omega)
theorem readsAll_of {h : Heap} : ∀ {us : List Value} {ds : List PyData}, us.length = ds.length → (∀ (i : Nat) (u : Value) (d : PyData), us[i]? = some u → ds[i]? = some d → ∃ as, Reads h u d as) → ∃ as, ReadsAll h us ds as
  | [], [], _, _ => ⟨_, .nil⟩
  | u :: us, d :: ds, l, g => by
    obtain ⟨a, r⟩ := g 0 u d rfl rfl
    obtain ⟨b, rs⟩ := readsAll_of (us := us) (ds := ds) (by simpa using l) fun i u d e1 e2 => g (i + 1) u d e1 e2
    exact ⟨_, .cons r rs⟩
theorem RT.reads {X : Cx} {pins : List (Addr × Obj)} {σ : St} {H : Hp} {s : Shared} (I : Inv X pins σ H s) {v : V} {d : PyData} (h : RT H v d) : ∀ {u : Value}, RelV v u → ∃ as, Reads s.heap u d as := by
  induction h with
  | non => intro u r; cases r; exact ⟨_, .none⟩
  | bl b => intro u r; cases r; exact ⟨_, .bool b⟩
  | int i => intro u r; obtain ⟨t, rfl⟩ := r; exact ⟨_, .int i t⟩
  | str x => intro u r; obtain ⟨t, rfl⟩ := r; exact ⟨_, .str x t⟩
  | @tup a vs ds e l _ ih =>
    intro u r
    cases r
    obtain ⟨its, rv, p, _⟩ := I.tuple (SqT.of e)
    obtain ⟨o, g1, g2, n, g3⟩ := p
    obtain ⟨as, ra⟩ := readsAll_of (h := s.heap) (us := its.toArray.toList) (ds := ds) (by rw [List.toList_toArray, ← rv.length, l]) fun i u d e1 e2 => by
      rw [List.toList_toArray] at e1
      have hi : i < its.length := (List.getElem?_eq_some_iff.mp e1).1
      have hv : i < vs.length := by rw [rv.length]; exact hi
      obtain ⟨U, hU, rU⟩ := rv.get (List.getElem?_eq_getElem hv)
      rw [e1] at hU
      cases hU
      exact ih i _ _ (List.getElem?_eq_getElem hv) e2 rU
    exact ⟨_, .tuple g1 g2 g3 ra⟩
theorem call_repr {X : Cx} (hg : X.A.guards = some []) (hu : X.A.units + 80 < cLine) : CallR X (.builtin "repr") (fun xs H Q => ∃ v d, xs = [v] ∧ RT H v d ∧ TOk d ∧ d.depth < 70 ∧ cnt d ≤ 800 ∧ Q (.str d.shown) H) := by
  intro pins s σ H xs us Q I r h
  obtain ⟨v, d, rfl, rt, ok, dp, ct, q⟩ := h
  obtain ⟨u, rfl, rx⟩ := vals1 r
  have hz : d.shown.length ≤ sizeLine := by
    have := shown_len d ok
    rw [sizeLine_eq]
    omega
  obtain ⟨sh, nd⟩ := showable_of d ok
  cases rt with
  | non => cases rx; exact P.repr_of_none ⟨.str _, H, I.tok _, ⟨_, rfl⟩, q⟩
  | bl b => cases rx; exact P.repr_of_bool ⟨.str _, H, I.tok _, ⟨s.toks, by simp only [PyData.shown]⟩, q⟩
  | int i =>
    obtain ⟨t, rfl⟩ := rx
    exact P.repr_of_int (by simpa [PyData.showable] using sh) ⟨.str _, H, I.tok _, ⟨s.toks, by simp only [PyData.shown]⟩, q⟩
  | str x =>
    obtain ⟨t, rfl⟩ := rx
    exact P.repr_of_str ⟨.str _, H, I.tok _, ⟨s.toks, by simp only [PyData.shown]⟩, q⟩ (by simpa only [PyData.shown] using hz)
  | @tup a vs ds e l at1 =>
    cases rx
    obtain ⟨as, rd⟩ := RT.reads I (.tup e l at1) (u := .ref a) rfl
    exact repr_of_reads' rd sh (PyData.noDict_hsm nd) hg (by omega) (fun _ _ e => e) (fun h' u tk hk => ⟨.str _, H, I.kept (h' := h') (t' := tk) hk, ⟨_, rfl⟩, q⟩) hz
theorem any_range (bs : List Bool) : (List.range bs.length).any (fun i => bs.getD i true) = bs.any id := by
  rw [Bool.eq_iff_iff, List.any_eq_true, List.any_eq_true]
  constructor
  · rintro ⟨i, hi, h⟩
    have hi := List.mem_range.mp hi
    rw [List.getD_eq_getElem?_getD, List.getElem?_eq_getElem hi] at h
    exact ⟨_, List.getElem_mem hi, h⟩
  · rintro ⟨x, hx, h⟩
    obtain ⟨i, hi, rfl⟩ := List.mem_iff_getElem.mp hx
    refine ⟨i, List.mem_range.mpr hi, ?_⟩
    rw [List.getD_eq_getElem?_getD, List.getElem?_eq_getElem hi]
    exact h
theorem call_any_bools {X : Cx} (hc : X.calm = true) : CallR X (.builtin "any") (fun xs H Q => ∃ (p : Addr) (bs : List Bool), xs = [.ref p] ∧ SqL X.K H p (bs.map V.bl) ∧ Q (.bl (bs.any id)) H) := by
  intro pins s σ H xs us Q I r h
  obtain ⟨p, bs, rfl, hq, q⟩ := h
  obtain ⟨u, rfl, rx⟩ := vals1 r
  cases rx
  obtain ⟨its, r', pl, hz⟩ := I.list hq
  have hl := pl.isList
  obtain ⟨o, ho, _⟩ := id hl
  have hlt := Heap.lt_size ho
  refine call_any_walk (wpAny_pyIter_list hl ?_)
  refine ⟨_, _, _, _, _, _, fun i => bs.getD i true, rfl, Walks.list (A := X.A.in1) (I.ok.hd hc) s.heap.objs.size p (Nat.ne_of_lt hlt) its.toArray, ⟨⟨_, Heap.get?_push_size _ rfl, rfl, rfl⟩, hl.push _⟩, truth_bools r', fun h' tk hk => ?_⟩
  have e : (List.range its.toArray.size).any (fun i => bs.getD i true) = bs.any id := by
    have hl2 := r'.length
    rw [List.length_map] at hl2
    rw [List.size_toArray, ← hl2]
    exact any_range bs
  rw [e]
  refine ⟨.bl (bs.any id), H, I.kept (h' := h') (t' := tk) fun b o e => ?_, rfl, q⟩
  exact hk b o (fun hm => absurd (Heap.lt_size e) (by rw [List.mem_singleton.mp hm]; exact Nat.lt_irrefl _)) (Heap.get?_push_of_some _ e)
theorem boot_repr : bootBuiltins (Str.ofString "repr") = some (.builtin "repr") := by kernel_rfl
theorem boot_any : bootBuiltins (Str.ofString "any") = some (.builtin "any") := by kernel_rfl
end D

set_option Elab.async false
set_option linter.all false
set_option maxRecDepth 100000
set_option maxHeartbeats 4000000
namespace L2
open PySem PySem.Spec PyProof.Rows
theorem Room.u80 {k : Nat} {A : Around} (r : Room k A) : A.units + 80 < cLine := by have := r.un; omega
/-! ### a method, a class that is made, by what they promise -/
def HaveM (P : Program) (w : World) (K : PySem.W.Frag) (mg : Str → Option Value) (base : Heap) (C : Addr) (m : Str) (k : Nat) (ps : List Str) (sp : Sp) : Prop :=
  ∃ (f : Addr) (fd : FuncData), FnOk P w K mg base CX0 k f fd ps sp ∧ Binds K fd ps [] ∧ Meth K C m f ∧ Cls K C
def HaveC (P : Program) (w : World) (K : PySem.W.Frag) (mg : Str → Option Value) (base : Heap) (C : Addr) (x : Str) (k : Nat) (ps : List Str) (sp : Sp) : Prop :=
  ∃ (f : Addr) (fd : FuncData) (j : Nat), k = j + 1 ∧ FnOk P w K mg base CX0 j f fd ps sp ∧ Binds K fd ps [] ∧ Mk K C f ∧ mg x = some (.ref C)
theorem HaveM.mono {P : Program} {w : World} {K : PySem.W.Frag} {mg : Str → Option Value} {base : Heap} {C : Addr} {m : Str} {j k : Nat} {ps : List Str} {sp : Sp} (h : HaveM P w K mg base C m j ps sp) (e : j ≤ k) : HaveM P w K mg base C m k ps sp :=
  let ⟨f, fd, F, r⟩ := h; ⟨f, fd, F.mono e, r⟩
theorem HaveC.mono {P : Program} {w : World} {K : PySem.W.Frag} {mg : Str → Option Value} {base : Heap} {C : Addr} {m : Str} {j k : Nat} {ps : List Str} {sp : Sp} (h : HaveC P w K mg base C m j ps sp) (e : j ≤ k) : HaveC P w K mg base C m k ps sp := by
  obtain ⟨f, fd, i, rfl, F, r⟩ := h
  exact ⟨f, fd, k - 1, by omega, F.mono (by omega), r⟩
section
variable {X : Cx} {C : Addr} {x m : Str} {k : Nat} {ps : List Str} {sp : Sp} {e o : Expr} {es : List Expr} {ta : TE} {t : TA} {p pos apos : Pos}
theorem pe_m (G : HaveM X.prog X.w X.K X.mg X.base C m k ps sp) (hr : Room k X.A) (ho : PE X o ta) (ha : PA X (e :: es) t) {pl : Sem Bool}
    (hst : starEach (e :: es) X.env = (false, eval e X.env) :: starEach es X.env := by rfl) (hpl : (backTo pos (starEach es X.env)).any (·.1) = false := by rfl)
    (ht : eval (.Call (.Attribute o m apos) (e :: es) [] pos) X.env = (do
      let ov ← eval o X.env
      standAt apos.atName
      let (f, first) ← holding [ov] (getMethod ov m pl)
      callWith pos f first (backTo pos (starEach (e :: es) X.env)) (backToKw pos (keywordEach [] X.env))) := by rfl) :
    PE X (.Call (.Attribute o m apos) (e :: es) [] pos) (tMeth C m sp [] E0 ta t) := by
  obtain ⟨f, fd, F, b, mm, c⟩ := G
  exact pe_meth ho c mm F hr b .nil pass0 ha hst hpl ht
theorem pe_m0 (G : HaveM X.prog X.w X.K X.mg X.base C m k ps sp) (hr : Room k X.A) (ho : PE X o ta) {pl : Sem Bool}
    (ht : eval (.Call (.Attribute o m apos) [] [] pos) X.env = (do
      let ov ← eval o X.env
      standAt apos.atName
      let (f, first) ← holding [ov] (getMethod ov m pl)
      callWith pos f first (backTo pos (starEach [] X.env)) (backToKw pos (keywordEach [] X.env))) := by rfl) :
    PE X (.Call (.Attribute o m apos) [] [] pos) (tMeth C m sp [] E0 ta tNil) := by
  obtain ⟨f, fd, F, b, mm, c⟩ := G
  exact pe_meth0 ho c mm F hr b .nil pass0 ht
theorem pe_new (G : HaveC X.prog X.w X.K X.mg X.base C x k ps sp) (hr : Room k X.A) (hg : Gl X x) (ha : PA X (e :: es) t) (hdb : (x == ("__debug__" : Str)) = false := by decide)
    (he : starEach (e :: es) X.env = (false, eval e X.env) :: starEach es X.env := by rfl) (hpl : (backTo pos (starEach es X.env)).any (·.1) = false := by rfl) :
    PE X (.Call (.Name x p) (e :: es) [] pos) (tMake C sp [] E0 t) := by
  obtain ⟨f, fd, j, rfl, F, b, mk, mg⟩ := G
  exact pe_make mk F hr hg mg b .nil pass0 ha hdb he hpl
theorem pe_new0 (G : HaveC X.prog X.w X.K X.mg X.base C x k ps sp) (hr : Room k X.A) (hg : Gl X x) (hdb : (x == ("__debug__" : Str)) = false := by decide) :
    PE X (.Call (.Name x p) [] [] pos) (tMake C sp [] E0 tNil) := by
  obtain ⟨f, fd, j, rfl, F, b, mk, mg⟩ := G
  exact pe_make0 mk F hr hg mg b .nil pass0 hdb
end
/-- a comprehension by two names over zip of two tuples of one length -/
theorem rd_zip {K : PySem.W.Frag} {te : TE} {H : Hp} {F : Addr → Hp → List V → Prop} {a b : Addr} {xs ys : List V} (outs : List V) (h1 : SqT K H a xs) (h2 : SqT K H b ys) (hl : xs.length = ys.length) (ho : outs.length = xs.length) (hz : xs.length ≤ sizeLine)
    (step : ∀ (i : Nat) (x y z : V) (H1 : Hp) (R : VK), xs[i]? = some x → ys[i]? = some y → outs[i]? = some z → Same H H1 → (∀ H2, Same H1 H2 → R z H2) → te [some x, some y] H1 R)
    (sq : ∀ H1, Same H H1 → SqT K H1 a xs ∧ SqT K H1 b ys)
    (fin : ∀ (H1 : Hp) (D : Addr), Same H H1 → H1 D = none → F D H1 outs) :
    ∃ W : Nat → Nat → List V → Hp → Prop, (∃ m, W 0 m [] H) ∧ ∀ i m vs H, W i m vs H → vs.length ≤ sizeLine ∧
      (((Itz K a b).stop i H ∧ ∀ D, H D = none → F D H vs) ∨
       ((Itz K a b).go i H ∧ ∀ v H', (Itz K a b).yld i H v H' → gTup K 2 (gCons (gName 0) (gCons (gName 1) gNil)) v (List.replicate 2 none) H' fun σ2 H2 => if true = true then te σ2 H2 fun y H3 => ∃ m', m' < m ∧ W (i + 1) m' (vs ++ [y]) H3 else ∃ m', m' < m ∧ W (i + 1) m' vs H2)) := by
  refine ⟨fun i m us H1 => i ≤ xs.length ∧ m = xs.length - i ∧ us = outs.take i ∧ Same H H1, ⟨_, Nat.zero_le _, rfl, by simp, Same.refl _⟩, fun i m us H1 hW => ?_⟩
  obtain ⟨hi, hm, hu, sm⟩ := hW
  obtain ⟨q1, q2⟩ := sq H1 sm
  refine ⟨by rw [hu, List.length_take]; omega, ?_⟩
  by_cases hlt : i < xs.length
  · have hlt2 : i < ys.length := by omega
    refine .inr ⟨⟨xs, xs[i], ys, ys[i], q1, q2, List.getElem?_eq_getElem hlt, List.getElem?_eq_getElem hlt2⟩, fun v H' hy => ?_⟩
    obtain ⟨t, x, y, ht, rfl, e1, e2, rfl⟩ := hy
    have hz : outs[i]? = some outs[i] := List.getElem?_eq_getElem (by omega)
    have s2 : Same H1 (upd H1 t (.tup [x, y])) := fun c o e => by rw [upd_ne (ne_of_none e ht)]; exact e
    refine ⟨t, _, rfl, SqT.of upd_same, rfl, _, _, rfl, _, _, rfl, rfl, ?_⟩
    refine iteT ?_
    refine step i x y outs[i] _ _ (e1 xs q1) (e2 ys q2) hz (sm.trans s2) fun H2 s3 => ⟨xs.length - (i + 1), by omega, by omega, rfl, ?_, (sm.trans s2).trans s3⟩
    rw [hu, take_snoc hz]
  · have e : i = xs.length := by omega
    refine .inl ⟨⟨xs, q1, by omega⟩, fun D hD => ?_⟩
    have e2 : us = outs := by rw [hu, List.take_of_length_le (by omega)]
    rw [e2]
    exact fin H1 D sm hD
end L2
namespace D
open PySem L2
section
variable {X : Cx} {C : Addr} {x m : Str} {k : Nat} {ps : List Str} {sp : Sp} {e o : Expr} {es : List Expr} {ta : TE} {t : TA} {p pos apos : Pos}
theorem pe_m (G : HaveM X.prog X.w X.K X.mg X.base C m k ps sp) (hr : Room k X.A) (ho : QE X o ta) (ha : QA X (e :: es) t) {pl : Sem Bool}
    (hst : starEach (e :: es) X.env = (false, eval e X.env) :: starEach es X.env := by rfl) (hpl : (backTo pos (starEach es X.env)).any (·.1) = false := by rfl)
    (ht : eval (.Call (.Attribute o m apos) (e :: es) [] pos) X.env = (do
      let ov ← eval o X.env
      standAt apos.atName
      let (f, first) ← holding [ov] (getMethod ov m pl)
      callWith pos f first (backTo pos (starEach (e :: es) X.env)) (backToKw pos (keywordEach [] X.env))) := by rfl) :
    QE X (.Call (.Attribute o m apos) (e :: es) [] pos) (tMeth C m sp [] E0 ta t) := ⟨L2.pe_m G hr ho.un ha.un hst hpl ht⟩
theorem pe_m0 (G : HaveM X.prog X.w X.K X.mg X.base C m k ps sp) (hr : Room k X.A) (ho : QE X o ta) {pl : Sem Bool}
    (ht : eval (.Call (.Attribute o m apos) [] [] pos) X.env = (do
      let ov ← eval o X.env
      standAt apos.atName
      let (f, first) ← holding [ov] (getMethod ov m pl)
      callWith pos f first (backTo pos (starEach [] X.env)) (backToKw pos (keywordEach [] X.env))) := by rfl) :
    QE X (.Call (.Attribute o m apos) [] [] pos) (tMeth C m sp [] E0 ta tNil) := ⟨L2.pe_m0 G hr ho.un ht⟩
theorem pe_new (G : HaveC X.prog X.w X.K X.mg X.base C x k ps sp) (hr : Room k X.A) (hg : Gl X x) (ha : QA X (e :: es) t) (hdb : (x == ("__debug__" : Str)) = false := by decide)
    (he : starEach (e :: es) X.env = (false, eval e X.env) :: starEach es X.env := by rfl) (hpl : (backTo pos (starEach es X.env)).any (·.1) = false := by rfl) :
    QE X (.Call (.Name x p) (e :: es) [] pos) (tMake C sp [] E0 t) := ⟨L2.pe_new G hr hg ha.un hdb he hpl⟩
theorem pe_fldK {K : PySem.W.Frag} {f : Str} (hK : X.K = K) (he : QE X e ta) (hb : attributeBase e f X.env (eval e X.env) = eval e X.env) : QE X (.Attribute e f pos) (tFld K ta f) := hK ▸ pe_fld he hb
theorem pe_new0 (G : HaveC X.prog X.w X.K X.mg X.base C x k ps sp) (hr : Room k X.A) (hg : Gl X x) (hdb : (x == ("__debug__" : Str)) = false := by decide) :
    QE X (.Call (.Name x p) [] [] pos) (tMake C sp [] E0 tNil) := ⟨L2.pe_new0 G hr hg hdb⟩
end
end D

set_option Elab.async false
set_option linter.all false
set_option maxRecDepth 100000
set_option maxHeartbeats 4000000
namespace D
open PySem L2
/-! ### the shelf's two classes -/
structure Tx (K : PySem.W.Frag) (AL AS : Addr) : Prop where
  clL : Cls K AL
  nRow : NoAttr K AL "row"
  nRight : NoAttr K AL "right"
  clS : Cls K AS
  nLaid : NoAttr K AS "laid"
def fL (v : V) : List (Str × V) := putF "right" .non (putF "row" v [])
theorem fL_row (v : V) : (fL v).lookup ("row" : Str) = some v := by
  unfold fL
  rw [lookup_putF, if_neg (by decide +kernel), lookup_putF, if_pos rfl]
def fS (l : Addr) : List (Str × V) := putF "laid" (.ref l) []
theorem fS_laid (l : Addr) : (fS l).lookup ("laid" : Str) = some (.ref l) := by
  unfold fS
  rw [lookup_putF, if_pos rfl]
theorem fS_no (l : Addr) {m : Str} (h : ¬ m = "laid") : (fS l).lookup m = none := by
  unfold fS
  rw [lookup_putF, if_neg h]
  rfl
theorem fS_put (l q : Addr) : putF "laid" (.ref q) (fS l) = fS q := by
  show (if ("laid" : Str) = "laid" then _ else _) = _
  rw [if_pos rfl]
  rfl
/-- one thing laid: its object, its dict, its row -/
abbrev Zs := List (Addr × Addr × V)
structure ShAt (AL AS : Addr) (H : Hp) (p l : Addr) (ds : List PyData) : Prop where
  ob : ∃ dx, H p = some (.ins AS dx (fS l))
  li : ∃ zs : Zs, H l = some (.lst (zs.map fun z => .ref z.1)) ∧ zs.length = ds.length ∧ ∀ (i : Nat) (z : Addr × Addr × V) (d : PyData), zs[i]? = some z → ds[i]? = some d → H z.1 = some (.ins AL z.2.1 (fL z.2.2)) ∧ RT H z.2.2 d
/-- what a def may touch: lists alone -/
def Keep (S : Addr → Prop) (H H' : Hp) : Prop := ∀ c o, ¬ S c → H c = some o → H' c = some o
theorem ShAt.keep {AL AS : Addr} {H H' : Hp} {p l : Addr} {ds : List PyData} {S : Addr → Prop} (h : ShAt AL AS H p l ds) (k : Keep S H H') (hs : ∀ c, S c → ∃ xs, H c = some (.lst xs)) (hl : ¬ S l) : ShAt AL AS H' p l ds := by
  have nS : ∀ {c : Addr} {o : HO}, H c = some o → (∀ xs, o ≠ .lst xs) → ¬ S c := fun {c o} e n z => by
    obtain ⟨xs, q⟩ := hs c z
    rw [e] at q
    exact n xs (Option.some.inj q)
  obtain ⟨⟨dx, e⟩, zs, e2, l2, at2⟩ := h
  refine ⟨⟨dx, k _ _ (nS e (fun xs z => by cases z)) e⟩, zs, k _ _ hl e2, l2, fun i z d h1 h2 => ?_⟩
  obtain ⟨g1, g2⟩ := at2 i z d h1 h2
  exact ⟨k _ _ (nS g1 (fun xs z => by cases z)) g1, g2.mono fun a vs q => k _ _ (nS q (fun xs z => by cases z)) q⟩
theorem ShAt.same {AL AS : Addr} {H H' : Hp} {p l : Addr} {ds : List PyData} (h : ShAt AL AS H p l ds) (s : Same H H') : ShAt AL AS H' p l ds :=
  h.keep (S := fun _ => False) (fun c o _ e => s c o e) (fun c z => z.elim) (fun z => z)
theorem same_tups {H H' : Hp} (s : Same H H') : Tups H H' := fun a vs e => s a _ e
theorem RT.pair {H : Hp} {a : Addr} {u1 u2 : V} {w1 w2 : PyData} (e : H a = some (.tup [u1, u2])) (r1 : RT H u1 w1) (r2 : RT H u2 w2) : RT H (.ref a) (.tuple [w1, w2]) :=
  .tup e rfl fun i v w hv hw => match i, hv, hw with
    | 0, hv, hw => by
      have a1 : u1 = v := by simpa using hv
      have a2 : w1 = w := by simpa using hw
      rw [← a1, ← a2]; exact r1
    | 1, hv, hw => by
      have a1 : u2 = v := by simpa using hv
      have a2 : w2 = w := by simpa using hw
      rw [← a1, ← a2]; exact r2
    | j + 2, hv, hw => by simp at hv
theorem RT.pair_inv {H : Hp} {v : V} {w1 w2 : PyData} (h : RT H v (.tuple [w1, w2])) : ∃ a u1 u2, v = .ref a ∧ H a = some (.tup [u1, u2]) ∧ RT H u1 w1 ∧ RT H u2 w2 := by
  cases h with
  | @tup a vs ds e l at1 =>
    match vs, l with
    | [u1, u2], _ => exact ⟨a, u1, u2, rfl, e, at1 0 _ _ rfl rfl, at1 1 _ _ rfl rfl⟩
def Good (d : PyData) : Prop := TOk d ∧ d.depth ≤ 60 ∧ cnt d ≤ 400
abbrev Rows := List (PyData × PyData)
def prD (r : PyData × PyData) : PyData := .tuple [r.1, r.2]
def lies (rs : Rows) (e : PyData) : Bool := rs.any fun r => alk r.2 e
def spJust : Sp := fun vs H Q _ => ∃ (u v : V) (a b : PyData), vs = [u, v] ∧ RT H u a ∧ RT H v b ∧ Good a ∧ Good b ∧ Q (.bl (alk a b)) H
def spLaidI (AL : Addr) : Sp := fun vs H Q _ => ∃ (p dx : Addr) (u v : V), vs = [.ref p, u, v] ∧ H p = some (.ins AL dx []) ∧ ∀ t, H t = none → Q .non (upd (upd H t (.tup [u, v])) p (.ins AL dx (fL (.ref t))))
def spShelfI (AS : Addr) : Sp := fun vs H Q _ => ∃ p dx : Addr, vs = [.ref p] ∧ H p = some (.ins AS dx []) ∧ ∀ l, H l = none → Q .non (upd (upd H l (.lst [])) p (.ins AS dx (fS l)))
def spLay (AL AS : Addr) : Sp := fun vs H Q _ => ∃ (p l : Addr) (u v : V) (ds : List PyData) (a b : PyData), vs = [.ref p, u, v] ∧ ShAt AL AS H p l ds ∧ RT H u a ∧ RT H v b ∧ ds.length < 1000 ∧
  ∀ H', ShAt AL AS H' p l (ds ++ [.tuple [a, b]]) → Keep (fun c => c = l) H H' → Q .non H'
def spLying (AL AS : Addr) : Sp := fun vs H Q _ => ∃ (p l : Addr) (ds : List PyData), vs = [.ref p] ∧ ShAt AL AS H p l ds ∧ ds.length ≤ 1000 ∧
  ∀ (q : Addr) (rvs : List V) (H' : Hp), H q = none → Same H H' → H' q = some (.lst rvs) → rvs.length = ds.length → (∀ (i : Nat) (v : V) (d : PyData), rvs[i]? = some v → ds[i]? = some d → RT H' v d) → Q (.ref q) H'
def spHas (AL AS : Addr) : Sp := fun vs H Q _ => ∃ (p l : Addr) (u : V) (rs : Rows) (e : PyData), vs = [.ref p, u] ∧ ShAt AL AS H p l (rs.map prD) ∧ RT H u e ∧ Good e ∧ rs.length ≤ 1000 ∧ (∀ r ∈ rs, Good r.2) ∧ ∀ H', Same H H' → Q (.bl (lies rs e)) H'
def spCopy (AL AS : Addr) : Sp := fun vs H Q _ => ∃ (p l : Addr) (ds : List PyData), vs = [.ref p] ∧ ShAt AL AS H p l ds ∧ ds.length ≤ 1000 ∧ ∀ (p' l' : Addr) (H' : Hp), H p' = none → H l' = none → Same H H' → ShAt AL AS H' p' l' ds → Q (.ref p') H'
section
variable {P : Program} {w : World} {K : PySem.W.Frag} {mg : Str → Option Value} {base : Heap} {f : Addr} {fd : FuncData} {k : Nat} {ALaid AShelf : Addr}
theorem sc_just_so : FnScope ["one", "other"] ["one", "other"] (defScope s_just_so) := ⟨rfl, rfl, rfl, by decide +kernel, rfl, by decide +kernel, by decide +kernel⟩
theorem ok_just_so (F : Fun K "just_so" "just_so" s_just_so f fd) (m_repr : mg "repr" = none) : FnOk P w K mg base CX0 (k + 1) f fd ["one", "other"] (spJust) := by
  refine F.okQ sc_just_so (fun vs H Q E h => ?_) (fun cdv A outer s H vs Q E hr h => ?_)
  · obtain ⟨u, v, a, b, rfl, _⟩ := h
    rfl
  obtain ⟨u, v, a, b, rfl, ra, rb, ga, gb, q⟩ := h
  refine ⟨_, (pss_one (ps_ret (pe_and (pe_cmpR (op_eqD hr.u80) (pv 0) (pv 1) (nomark _)) (pe_one (pe_cmpR op_eq (pe_callB (call_repr hr.gd hr.u80) rfl m_repr boot_repr (pa_cons (pv 0) pa_nil)) (pe_callB (call_repr hr.gd hr.u80) rfl m_repr boot_repr (pa_cons (pv 1) pa_nil)) (nomark _)))))), ?_⟩
  refine ⟨_, rfl, _, rfl, a, b, ra, rb, gb.1, Nat.lt_of_le_of_lt ga.2.1 (by decide), _, rfl, ?_⟩
  have e := just ga.1 gb.1
  cases c : eqD a b with
  | false =>
    refine iteF ?_
    rw [c, Bool.false_and] at e
    rw [← e] at q
    exact q
  | true =>
    refine iteT ⟨_, rfl, u, a, rfl, ra, ga.1, Nat.lt_of_le_of_lt ga.2.1 (by decide), Nat.le_trans ga.2.2 (by decide), _, rfl, v, b, rfl, rb, gb.1, Nat.lt_of_le_of_lt gb.2.1 (by decide), Nat.le_trans gb.2.2 (by decide), rfl, ?_⟩
    rw [c, Bool.true_and] at e
    rw [← e] at q
    have e2 : decide (V.str a.shown = V.str b.shown) = decide (a.shown = b.shown) := by
      by_cases z : a.shown = b.shown
      · rw [decide_eq_true z, z]; exact decide_eq_true rfl
      · rw [decide_eq_false z]; exact decide_eq_false fun y => z (V.str.inj y)
    rw [e2]
    exact q
theorem sc_Laid___init__ : FnScope ["self", "who", "paper"] ["self", "who", "paper"] (defScope s_Laid___init__) := ⟨rfl, rfl, rfl, by decide +kernel, rfl, by decide +kernel, by decide +kernel⟩
theorem ok_Laid___init__ (F : Fun K "__init__" "Laid.__init__" s_Laid___init__ f fd) (T : Tx K ALaid AShelf) : FnOk P w K mg base CX0 (k + 1) f fd ["self", "who", "paper"] (spLaidI ALaid) := by
  refine F.okQ sc_Laid___init__ (fun vs H Q E h => ?_) (fun cdv A outer s H vs Q E hr h => ?_)
  · obtain ⟨p, dx, u, v, rfl, _⟩ := h
    rfl
  obtain ⟨p, dx, u, v, rfl, hp, q⟩ := h
  refine ⟨_, (pss_cons (ps_fld (pv 0) (pe_tup (pa_cons (pv 1) (pa_cons (pv 2) pa_nil))) rfl)
    (pss_one (ps_fld (pv 0) pe_non rfl))), ?_⟩
  refine ⟨_, rfl, _, rfl, (by show 2 ≤ sizeLine; decide), fun t ht => ?_⟩
  have npt : p ≠ t := ne_of_none hp ht
  refine ⟨_, rfl, p, ALaid, dx, [], rfl, (by rw [upd_ne npt]; exact hp), T.clL, T.nRow, (by show 0 < 1000; decide), _, rfl, p, ALaid, dx, _, rfl, upd_same, T.clL, T.nRight, (by show 1 < 1000; decide), ?_⟩
  have := q t ht
  rw [upd_upd]
  exact this
theorem sc_Shelf___init__ : FnScope ["self"] ["self"] (defScope s_Shelf___init__) := ⟨rfl, rfl, rfl, by decide +kernel, rfl, by decide +kernel, by decide +kernel⟩
theorem ok_Shelf___init__ (F : Fun K "__init__" "Shelf.__init__" s_Shelf___init__ f fd) (T : Tx K ALaid AShelf) : FnOk P w K mg base CX0 (k + 1) f fd ["self"] (spShelfI AShelf) := by
  refine F.okQ sc_Shelf___init__ (fun vs H Q E h => ?_) (fun cdv A outer s H vs Q E hr h => ?_)
  · obtain ⟨p, dx, rfl, _⟩ := h
    rfl
  obtain ⟨p, dx, rfl, hp, q⟩ := h
  refine ⟨_, (pss_one (ps_fld (pv 0) (pe_lst pa_nil) rfl)), ?_⟩
  refine ⟨(by show 0 ≤ sizeLine; decide), fun l hl => ?_⟩
  have npl : p ≠ l := ne_of_none hp hl
  exact ⟨_, rfl, p, AShelf, dx, [], rfl, (by rw [upd_ne npl]; exact hp), T.clS, T.nLaid, (by show 0 < 1000; decide), q l hl⟩
theorem sc_Shelf_lay : FnScope ["self", "who", "paper"] ["self", "who", "paper"] (defScope s_Shelf_lay) := ⟨rfl, rfl, rfl, by decide +kernel, rfl, by decide +kernel, by decide +kernel⟩
theorem ok_Shelf_lay (F : Fun K "lay" "Shelf.lay" s_Shelf_lay f fd) (G_Laid___init__ : HaveC P w K mg base ALaid "Laid" k ["self", "who", "paper"] (spLaidI ALaid)) (T : Tx K ALaid AShelf) : FnOk P w K mg base CX0 (k + 1) f fd ["self", "who", "paper"] (spLay ALaid AShelf) := by
  refine F.okQ sc_Shelf_lay (fun vs H Q E h => ?_) (fun cdv A outer s H vs Q E hr h => ?_)
  · obtain ⟨p, l, u, v, ds, a, b, rfl, _⟩ := h
    rfl
  obtain ⟨p, l, u, v, ds, a, b, rfl, S, ra, rb, hl, q⟩ := h
  obtain ⟨⟨dx, hp⟩, zs, el, ll, at1⟩ := id S
  refine ⟨_, (pss_one (ps_expr (pe_bm PySem.F.plainAttrs_list PySem.F.slot_list_append PySem.F.type_list_append mt_append (pe_fld (pv 0) rfl) (pa_cons (pe_new G_Laid___init__ hr rfl (pa_cons (pv 1) (pa_cons (pv 2) pa_nil))) pa_nil)))), ?_⟩
  refine ⟨_, rfl, p, AShelf, dx, _, _, rfl, hp, T.clS, T.nLaid, fS_laid _, .inl ⟨rfl, _, SqL.of el⟩, _, rfl, _, rfl, fun x dy nx ndy nxy => ⟨x, dy, u, v, rfl, upd_same, fun t ht => ⟨rfl, ?_⟩⟩⟩
  have s1 : Same H (upd (upd H dy (.own x)) x (.ins ALaid dy [])) := fun c o e => by
    rw [upd_ne (ne_of_none e nx), upd_ne (ne_of_none e ndy)]
    exact e
  have ht' : t ≠ x := by
    intro z
    rw [z, upd_same] at ht
    cases ht
  have s2 : Same H (upd (upd (upd (upd H dy (.own x)) x (.ins ALaid dy [])) t (.tup [u, v])) x (.ins ALaid dy (fL (.ref t)))) := fun c o e => by
    rw [upd_ne (ne_of_none e nx), upd_ne (ne_of_none (s1 _ _ e) ht)]
    exact s1 _ _ e
  generalize hH2 : upd (upd (upd (upd H dy (.own x)) x (.ins ALaid dy [])) t (.tup [u, v])) x (.ins ALaid dy (fL (.ref t))) = H2 at s2
  have gx : H2 x = some (.ins ALaid dy (fL (.ref t))) := by rw [← hH2, upd_same]
  have gt : H2 t = some (.tup [u, v]) := by rw [← hH2, upd_ne ht', upd_same]
  refine ⟨l, _, _, rfl, rfl, s2 _ _ el, small1000 (by rw [List.length_map]; omega), ?_⟩
  have nl : ∀ {c : Addr} {o : HO}, H2 c = some o → (∀ xs, o ≠ .lst xs) → c ≠ l := fun {c o} e n z => by
    rw [z, s2 _ _ el] at e
    exact n _ (Option.some.inj e).symm
  have kp : Keep (fun c => c = l) H2 (upd H2 l (.lst ((zs.map fun z => V.ref z.1) ++ [.ref x]))) := fun c o n e => by rw [upd_ne n]; exact e
  have tps : Tups H2 (upd H2 l (.lst ((zs.map fun z => V.ref z.1) ++ [.ref x]))) := fun c vs e => kp c _ (nl e (fun xs z => by cases z)) e
  refine q _ ⟨⟨dx, kp _ _ (nl (s2 _ _ hp) (fun xs z => by cases z)) (s2 _ _ hp)⟩, zs ++ [(x, dy, .ref t)], by rw [upd_same, List.map_append]; rfl, by simp [ll], fun i z d h1 h2 => ?_⟩ (fun c o n e => kp c o n (s2 c o e))
  by_cases hi : i < zs.length
  · rw [List.getElem?_append_left hi] at h1
    rw [List.getElem?_append_left (by omega)] at h2
    obtain ⟨g1, g2⟩ := at1 i z d h1 h2
    exact ⟨kp _ _ (nl (s2 _ _ g1) (fun xs z => by cases z)) (s2 _ _ g1), (g2.mono (same_tups s2)).mono tps⟩
  · have hlt := (List.getElem?_eq_some_iff.mp h1).1
    have ei : i = zs.length := by simp at hlt; omega
    subst ei
    have e1 : z = (x, dy, .ref t) := by simpa using h1.symm
    have e2 : d = .tuple [a, b] := by
      rw [ll] at h2
      simpa using h2.symm
    subst e1 e2
    exact ⟨kp _ _ (nl gx (fun xs z => by cases z)) gx, RT.mono tps (RT.pair gt (ra.mono (same_tups s2)) (rb.mono (same_tups s2)))⟩
theorem sc_Shelf_lying : FnScope ["self"] ["self"] (defScope s_Shelf_lying) := ⟨rfl, rfl, rfl, by decide +kernel, rfl, by decide +kernel, by decide +kernel⟩
theorem ok_Shelf_lying (F : Fun K "lying" "Shelf.lying" s_Shelf_lying f fd) (T : Tx K ALaid AShelf) : FnOk P w K mg base CX0 (k + 1) f fd ["self"] (spLying ALaid AShelf) := by
  refine F.okQ sc_Shelf_lying (fun vs H Q E h => ?_) (fun cdv A outer s H vs Q E hr h => ?_)
  · obtain ⟨p, l, ds, rfl, _⟩ := h
    rfl
  obtain ⟨p, l, ds, rfl, S, hl, q⟩ := h
  obtain ⟨⟨dx, hp⟩, zs, el, ll, at1⟩ := id S
  refine ⟨_, (pss_one (ps_ret (pe_lcomp [] [] rfl rfl (by decide +kernel) rfl (by decide +kernel) rfl (by decide +kernel) trivial rfl trivial (pi_list (pe_fld (pv 0) rfl)) (fun C s H fp => ⟨pifs_nil, (pe_fldK (K := K) rfl (pv 0) rfl)⟩)))), ?_⟩
  refine ⟨_, rfl, p, AShelf, dx, _, _, rfl, hp, T.clS, T.nLaid, fS_laid _, l, rfl, ⟨_, SqL.of el⟩, ?_⟩
  refine rd_bodyL (K := K) (zs.map fun z => z.2.2) (SqL.of el) (by simp) (by rw [List.length_map]; exact Nat.le_of_lt (small1000 (by omega))) (fun i v y H1 R hv hy sm r => ?_) (fun H1 D sm hD => ?_)
  · rw [List.getElem?_map] at hv hy
    cases ez : zs[i]? with
    | none => rw [ez] at hv; cases hv
    | some z =>
      rw [ez] at hv hy
      obtain rfl : V.ref z.1 = v := by simpa using hv
      obtain rfl : z.2.2 = y := by simpa using hy
      have hi := (List.getElem?_eq_some_iff.mp ez).1
      obtain ⟨g1, g2⟩ := at1 i z ds[i] ez (List.getElem?_eq_getElem (by omega))
      exact ⟨_, rfl, z.1, ALaid, z.2.1, _, _, rfl, sm _ _ g1, T.clL, T.nRow, fL_row _, r _ (Same.refl _)⟩
  · have s2 : Same H (upd H1 D (.lst (zs.map fun z => z.2.2))) := sm.trans (Same.new hD)
    refine q D _ _ (sm.free hD) s2 upd_same (by rw [List.length_map, ll]) fun i v d hv hd => ?_
    rw [List.getElem?_map] at hv
    cases ez : zs[i]? with
    | none => rw [ez] at hv; cases hv
    | some z =>
      rw [ez] at hv
      obtain rfl : z.2.2 = v := by simpa using hv
      exact (at1 i z d ez hd).2.mono (same_tups s2)
theorem sc_Shelf_has : FnScope ["self", "paper"] ["self", "paper"] (defScope s_Shelf_has) := ⟨rfl, rfl, rfl, by decide +kernel, rfl, by decide +kernel, by decide +kernel⟩
theorem ok_Shelf_has (F : Fun K "has" "Shelf.has" s_Shelf_has f fd) (G_just_so : Have P w K mg base "just_so" k ["one", "other"] (spJust)) (m_any : mg "any" = none) (T : Tx K ALaid AShelf) : FnOk P w K mg base CX0 (k + 1) f fd ["self", "paper"] (spHas ALaid AShelf) := by
  refine F.okQ sc_Shelf_has (fun vs H Q E h => ?_) (fun cdv A outer s H vs Q E hr h => ?_)
  · obtain ⟨p, l, u, rs, e, rfl, _⟩ := h
    rfl
  obtain ⟨p, l, u, rs, e, rfl, S, re, ge, hl, gr, q⟩ := h
  obtain ⟨⟨dx, hp⟩, zs, el, ll, at1⟩ := id S
  rw [List.length_map] at ll
  refine ⟨_, (pss_one (ps_ret (pe_callB (call_any_bools rfl) rfl m_any boot_any (pa_cons (pe_lcomp [1] ["paper"] rfl rfl (by decide +kernel) rfl (by decide +kernel) rfl (by decide +kernel) ⟨rfl, trivial⟩ rfl ⟨⟨rfl, rfl, Or.inr (Or.inl rfl), (by show (some NameKind.cell : Option NameKind) ≠ some .local; decide), ⟨_, rfl⟩⟩, trivial⟩ (pi_list (pe_fld (pv 0) rfl)) (fun C s H fp => ⟨pifs_nil, (pe_fn G_just_so hr rfl (pa_cons (pe_ix (show IxR _ (rIxT K) from ix_tup) (pe_fldK (K := K) rfl (pv 0) rfl) pe_int (fun _ _ => rfl)) (pa_cons (pv 1) pa_nil)))⟩)) pa_nil)))), ?_⟩
  refine ⟨_, rfl, p, AShelf, dx, _, _, rfl, hp, T.clS, T.nLaid, fS_laid _, l, rfl, ⟨_, SqL.of el⟩, ?_⟩
  refine rd_bodyL (K := K) ((rs.map fun r => alk r.2 e).map V.bl) (SqL.of el) (by simp [ll]) (by rw [List.length_map]; exact Nat.le_of_lt (small1000 (by omega))) (fun i v y H1 R hv hy sm r => ?_) (fun H1 D sm hD => ?_)
  · rw [List.getElem?_map] at hv
    cases ez : zs[i]? with
    | none => rw [ez] at hv; cases hv
    | some z =>
      rw [ez] at hv
      obtain rfl : V.ref z.1 = v := by simpa using hv
      have hi := (List.getElem?_eq_some_iff.mp ez).1
      have hr' : i < rs.length := by omega
      rw [List.getElem?_map, List.getElem?_map, List.getElem?_eq_getElem hr'] at hy
      obtain rfl : V.bl (alk rs[i].2 e) = y := by simpa using hy
      obtain ⟨g1, g2⟩ := at1 i z (prD rs[i]) ez (by rw [List.getElem?_map, List.getElem?_eq_getElem hr']; rfl)
      obtain ⟨a, u1, u2, ea, ha, r1, r2⟩ := RT.pair_inv g2
      refine ⟨_, rfl, z.1, ALaid, z.2.1, _, _, rfl, sm _ _ g1, T.clL, T.nRow, fL_row _, a, _, 1, u2, ea, rfl, SqT.of (sm _ _ ha), atI_nat (j := 1) rfl, _, rfl, u2, u, rs[i].2, e, rfl, r2.mono (same_tups sm), re.mono (same_tups sm), gr _ (List.getElem_mem hr'), ge, r _ (Same.refl _)⟩
  · refine ⟨D, _, rfl, SqL.of upd_same, ?_⟩
    have := q _ (sm.trans (Same.new (o := .lst ((rs.map fun r => alk r.2 e).map V.bl)) hD))
    rw [show lies rs e = (rs.map fun r => alk r.2 e).any id by unfold lies; rw [List.any_map]; rfl] at this
    exact this
theorem sc_Shelf_copy : FnScope ["self", "other"] ["self"] (defScope s_Shelf_copy) := ⟨rfl, rfl, rfl, by decide +kernel, rfl, by decide +kernel, by decide +kernel⟩
theorem ok_Shelf_copy (F : Fun K "copy" "Shelf.copy" s_Shelf_copy f fd) (G_Shelf___init__ : HaveC P w K mg base AShelf "Shelf" k ["self"] (spShelfI AShelf)) (m_list : mg "list" = none) (T : Tx K ALaid AShelf) : FnOk P w K mg base CX0 (k + 1) f fd ["self"] (spCopy ALaid AShelf) := by
  refine F.okQ sc_Shelf_copy (fun vs H Q E h => ?_) (fun cdv A outer s H vs Q E hr h => ?_)
  · obtain ⟨p, l, ds, rfl, _⟩ := h
    rfl
  obtain ⟨p, l, ds, rfl, S, hl, q⟩ := h
  obtain ⟨⟨dx, hp⟩, zs, el, ll, at1⟩ := id S
  refine ⟨_, (pss_cons (ps_set (i := 1) sc_Shelf_copy.nd rfl (Or.inl rfl) (pe_new0 G_Shelf___init__ hr rfl))
    (pss_cons (ps_fld (pv 1) (pe_callTy call_list_of rfl m_list boot_listT (pa_cons (pe_fld (pv 0) rfl) pa_nil)) rfl)
    (pss_one (ps_ret (pv 1))))), ?_⟩
  refine fun x dy nx ndy nxy => ⟨x, dy, rfl, upd_same, fun l0 hl0 => ⟨rfl, ?_⟩⟩
  have nl0 : l0 ≠ x := by
    intro z
    rw [z, upd_same] at hl0
    cases hl0
  have s1 : Same H (upd (upd H dy (.own x)) x (.ins AShelf dy [])) := fun c o e => by
    rw [upd_ne (ne_of_none e nx), upd_ne (ne_of_none e ndy)]
    exact e
  have s2 : Same H (upd (upd (upd (upd H dy (.own x)) x (.ins AShelf dy [])) l0 (.lst [])) x (.ins AShelf dy (fS l0))) := fun c o e => by
    rw [upd_ne (ne_of_none e nx), upd_ne (ne_of_none (s1 _ _ e) hl0)]
    exact s1 _ _ e
  generalize hH2 : upd (upd (upd (upd H dy (.own x)) x (.ins AShelf dy [])) l0 (.lst [])) x (.ins AShelf dy (fS l0)) = H2 at s2
  have gx : H2 x = some (.ins AShelf dy (fS l0)) := by rw [← hH2, upd_same]
  refine ⟨_, rfl, p, AShelf, dx, _, _, rfl, s2 _ _ hp, T.clS, T.nLaid, fS_laid _, l, _, rfl, .inl (SqL.of (s2 _ _ el)), fun l' hl' => ?_⟩
  have nxl : x ≠ l' := ne_of_none gx hl'
  refine ⟨_, rfl, x, AShelf, dy, _, rfl, (by rw [upd_ne nxl]; exact gx), T.clS, T.nLaid, (by show 1 < 1000; decide), _, rfl, ?_⟩
  rw [fS_put]
  have s3 : Same H (upd (upd H2 l' (.lst (zs.map fun z => .ref z.1))) x (.ins AShelf dy (fS l'))) := fun c o e => by
    rw [upd_ne (ne_of_none e nx), upd_ne (ne_of_none (s2 _ _ e) hl')]
    exact s2 _ _ e
  refine q x l' _ nx (s2.free hl') s3 ⟨⟨dy, upd_same⟩, zs, by rw [upd_ne nxl.symm, upd_same], ll, fun i z d h1 h2 => ?_⟩
  obtain ⟨g1, g2⟩ := at1 i z d h1 h2
  exact ⟨s3 _ _ g1, g2.mono (same_tups s3)⟩
end
end D

set_option Elab.async false
set_option linter.all false
set_option maxRecDepth 100000
set_option maxHeartbeats 4000000
namespace D
open PySem L2
theorem isi_nb : isi "NoneType" "bool" = some false := by decide +kernel
theorem cnts_len : ∀ ds : List PyData, ds.length ≤ cnts ds
  | [] => Nat.le_refl _
  | d :: ds => by
    have := cnts_len ds
    have := cnt_pos d
    simp only [List.length_cons, cnts]
    omega
structure RTs (H : Hp) (vs : List V) (ds : List PyData) : Prop where
  len : vs.length = ds.length
  at' : ∀ (i : Nat) (v : V) (d : PyData), vs[i]? = some v → ds[i]? = some d → RT H v d
theorem RTs.mono {H H' : Hp} {vs : List V} {ds : List PyData} (h : RTs H vs ds) (t : Tups H H') : RTs H' vs ds := ⟨h.len, fun i v d a b => (h.at' i v d a b).mono t⟩
theorem RTs.tup {H : Hp} {a : Addr} {vs : List V} {ds : List PyData} (h : RTs H vs ds) (e : H a = some (.tup vs)) : RT H (.ref a) (.tuple ds) := .tup e h.len h.at'
theorem RTs.snoc {H : Hp} {vs : List V} {ds : List PyData} {v : V} {d : PyData} (h : RTs H vs ds) (r : RT H v d) : RTs H (vs ++ [v]) (ds ++ [d]) := by
  refine ⟨by simp [h.len], fun i u e h1 h2 => ?_⟩
  by_cases hi : i < vs.length
  · rw [List.getElem?_append_left hi] at h1
    rw [List.getElem?_append_left (by have := h.len; omega)] at h2
    exact h.at' i u e h1 h2
  · have hlt := (List.getElem?_eq_some_iff.mp h1).1
    have ei : i = vs.length := by simp at hlt; omega
    subst ei
    obtain rfl : v = u := by simpa using h1
    rw [h.len] at h2
    obtain rfl : d = e := by simpa using h2
    exact r
def spAlike (n : Nat) : Sp := fun vs H Q _ => ∃ (u v : V) (a b : PyData), vs = [u, v] ∧ RT H u a ∧ RT H v b ∧ a.depth < n ∧ cnt a ≤ 1000000 ∧ ∀ H', Same H H' → Q (.bl (alk a b)) H'
def spTells : Sp := fun vs H Q _ => ∃ c : Bool, vs = [.bl c, .bl c] ∧ Q (.bl true) H
def spLies : Sp := fun vs H Q _ => ∃ (r : Addr) (rvs : List V) (rs : Rows) (u : V) (e : PyData), vs = [.ref r, u] ∧ H r = some (.lst rvs) ∧ RTs H rvs (rs.map prD) ∧ RT H u e ∧ (∀ r ∈ rs, Good r.2) ∧ rs.length ≤ 1000 ∧ ∀ H', Same H H' → Q (.bl (lies rs e)) H'
theorem dec_bl (a b : Bool) : decide (V.bl a = V.bl b) = (a == b) := by cases a <;> cases b <;> rfl
theorem dec_str (a b : Str) : decide (V.str a = V.str b) = (a == b) := by
  rw [Bool.eq_iff_iff]
  simp
section
variable {P : Program} {w : World} {K : PySem.W.Frag} {mg : Str → Option Value} {base : Heap} {f : Addr} {fd : FuncData} {k : Nat}
theorem sc_lalike : FnScope ["_law_one", "_law_other_here"] ["_law_one", "_law_other_here"] (defScope s_lalike) := ⟨rfl, rfl, rfl, by decide +kernel, rfl, by decide +kernel, by decide +kernel⟩
theorem ok_lalike {n : Nat} (F : Fun K "_law_alike" "_law_alike" s_lalike f fd) (G_lalike : Have P w K mg base "_law_alike" k ["_law_one", "_law_other_here"] (spAlike n)) (m_all : mg "all" = none) (m_bool : mg "bool" = none) (m_int : mg "int" = none) (m_isi : mg "isinstance" = none) (m_len : mg "len" = none) (m_str : mg "str" = none) (m_tuple : mg "tuple" = none) (m_zip : mg "zip" = none) : FnOk P w K mg base CX0 (k + 1) f fd ["_law_one", "_law_other_here"] (spAlike (n + 1)) := by
  refine F.okQ sc_lalike (fun vs H Q E h => ?_) (fun cdv A outer s H vs Q E hr h => ?_)
  · obtain ⟨u, v, a, b, rfl, _⟩ := h
    rfl
  obtain ⟨u, v, a, b, rfl, ra, rb, hd, hc, q0⟩ := h
  refine ⟨_, (pss_cons (ps_if (pt_val (pe_callB call_isi rfl m_isi boot_isi (pa_cons (pv 0) (pa_cons (pe_ty rfl m_tuple boot_tupleT) pa_nil)))) (pss_cons (ps_if (PW.pt (pw_or (pt_not (pt_val (pe_callB call_isi rfl m_isi boot_isi (pa_cons (pv 1) (pa_cons (pe_ty rfl m_tuple boot_tupleT) pa_nil))))) (pw_or1 (pt_cmpR op_ne (pe_callB call_len rfl m_len PySem.boot_len (pa_cons (pv 0) pa_nil)) (pe_callB call_len rfl m_len PySem.boot_len (pa_cons (pv 1) pa_nil)) (nomark _))))) (pss_one (ps_ret pe_bl)) pss_nil)
    (pss_one (ps_ret (pe_callB (call_all_bools rfl) rfl m_all boot_allB (pa_cons (pe_lcompT ["_law_mine", "_law_yours"] rfl rfl (by decide +kernel) rfl (by decide +kernel) trivial rfl (pi_zip rfl m_zip (pa_cons (pv 0) (pa_cons (pv 1) pa_nil))) (fun C s H fp => (show QG _ _ (gTup K 2 (gCons (gName 0) (gCons (gName 1) gNil))) from pg_tup rfl (pgs_cons (pg_name (i := 0) (show (["_law_mine", "_law_yours"] : List Str).Nodup from by decide +kernel) rfl (Or.inl rfl) (Or.inr rfl)) (pgs_cons (pg_name (i := 1) (show (["_law_mine", "_law_yours"] : List Str).Nodup from by decide +kernel) rfl (Or.inl rfl) (Or.inr rfl)) pgs_nil)))) (fun C s H fp => ⟨pifs_nil, (pe_fn G_lalike hr rfl (pa_cons (pv 0) (pa_cons (pv 1) pa_nil)))⟩)) pa_nil))))) pss_nil)
    (pss_cons (ps_if (pt_val (pe_callB call_isi rfl m_isi boot_isi (pa_cons (pv 0) (pa_cons (pe_ty rfl m_str boot_strT) pa_nil)))) (pss_one (ps_ret (pe_and (pe_callB call_isi rfl m_isi boot_isi (pa_cons (pv 1) (pa_cons (pe_ty rfl m_str boot_strT) pa_nil))) (pe_one (pe_cmpR op_eq (pv 0) (pv 1) (nomark _)))))) pss_nil)
    (pss_cons (ps_if (pt_cmp (pc_isN (pv 0))) (pss_one (ps_ret (pe_cmp (pc_isN (pv 1))))) pss_nil)
    (pss_cons (ps_if (pt_val (pe_callB call_isi rfl m_isi boot_isi (pa_cons (pv 0) (pa_cons (pe_ty rfl m_bool boot_boolT) pa_nil)))) (pss_one (ps_ret (pe_and (pe_callB call_isi rfl m_isi boot_isi (pa_cons (pv 1) (pa_cons (pe_ty rfl m_bool boot_boolT) pa_nil))) (pe_one (pe_cmpR op_eq (pv 0) (pv 1) (nomark _)))))) pss_nil)
    (pss_one (ps_ret (pe_and (pe_callB call_isi rfl m_isi boot_isi (pa_cons (pv 1) (pa_cons (pe_ty rfl m_int boot_intT) pa_nil))) (pe_and (pe_not (pe_callB call_isi rfl m_isi boot_isi (pa_cons (pv 1) (pa_cons (pe_ty rfl m_bool boot_boolT) pa_nil)))) (pe_one (pe_cmpR op_eq (pv 0) (pv 1) (nomark _))))))))))), ?_⟩
  have q : ∀ c, alk a b = c → Q (.bl c) H := fun c hc => hc ▸ q0 H (Same.refl _)
  cases ra with
  | non =>
    refine ⟨_, rfl, _, _, _, _, rfl, .non, isi_nt, _, rfl, iteF ⟨_, rfl, _, _, _, _, rfl, .non, isi_ns, _, rfl, iteF ⟨_, rfl, _, rfl, iteT ⟨_, rfl, ?_⟩⟩⟩⟩
    cases rb with
    | non => exact q true rfl
    | bl b2 => exact q false rfl
    | int i2 => exact q false rfl
    | str z2 => exact q false rfl
    | tup e2 l2 at2 => exact q false rfl
  | bl b1 =>
    refine ⟨_, rfl, _, _, _, _, rfl, .bl b1, isi_bt, _, rfl, iteF ⟨_, rfl, _, _, _, _, rfl, .bl b1, isi_bs, _, rfl, iteF ⟨_, rfl, _, rfl, iteF ⟨_, rfl, _, _, _, _, rfl, .bl b1, isi_bb, _, rfl, iteT ?_⟩⟩⟩⟩
    cases rb with
    | non => exact ⟨_, rfl, _, _, _, _, rfl, .non, isi_nb, _, rfl, iteF (q false rfl)⟩
    | bl b2 => exact ⟨_, rfl, _, _, _, _, rfl, .bl b2, isi_bb, _, rfl, iteT ⟨_, rfl, _, rfl, rfl, q _ (dec_bl b1 b2).symm⟩⟩
    | int i2 => exact ⟨_, rfl, _, _, _, _, rfl, .int i2, isi_ib, _, rfl, iteF (q false rfl)⟩
    | str z2 => exact ⟨_, rfl, _, _, _, _, rfl, .str z2, isi_sb, _, rfl, iteF (q false rfl)⟩
    | tup e2 l2 at2 => exact ⟨_, rfl, _, _, _, _, rfl, .tup e2, isi_tb, _, rfl, iteF (q false rfl)⟩
  | int i1 =>
    refine ⟨_, rfl, _, _, _, _, rfl, .int i1, isi_it, _, rfl, iteF ⟨_, rfl, _, _, _, _, rfl, .int i1, isi_is, _, rfl, iteF ⟨_, rfl, _, rfl, iteF ⟨_, rfl, _, _, _, _, rfl, .int i1, isi_ib, _, rfl, iteF ?_⟩⟩⟩⟩
    cases rb with
    | non => exact ⟨_, rfl, _, _, _, _, rfl, .non, isi_ni, _, rfl, iteF (q false rfl)⟩
    | bl b2 => exact ⟨_, rfl, _, _, _, _, rfl, .bl b2, isi_bi, _, rfl, iteT ⟨_, rfl, _, _, _, _, rfl, .bl b2, isi_bb, _, rfl, _, rfl, iteF (q false rfl)⟩⟩
    | int i2 => exact ⟨_, rfl, _, _, _, _, rfl, .int i2, isi_ii, _, rfl, iteT ⟨_, rfl, _, _, _, _, rfl, .int i2, isi_ib, _, rfl, _, rfl, iteT ⟨_, rfl, _, rfl, rfl, q _ dec_int.symm⟩⟩⟩
    | str z2 => exact ⟨_, rfl, _, _, _, _, rfl, .str z2, isi_si, _, rfl, iteF (q false rfl)⟩
    | tup e2 l2 at2 => exact ⟨_, rfl, _, _, _, _, rfl, .tup e2, isi_ti, _, rfl, iteF (q false rfl)⟩
  | str z1 =>
    refine ⟨_, rfl, _, _, _, _, rfl, .str z1, isi_st, _, rfl, iteF ⟨_, rfl, _, _, _, _, rfl, .str z1, isi_ss, _, rfl, iteT ?_⟩⟩
    cases rb with
    | non => exact ⟨_, rfl, _, _, _, _, rfl, .non, isi_ns, _, rfl, iteF (q false rfl)⟩
    | bl b2 => exact ⟨_, rfl, _, _, _, _, rfl, .bl b2, isi_bs, _, rfl, iteF (q false rfl)⟩
    | int i2 => exact ⟨_, rfl, _, _, _, _, rfl, .int i2, isi_is, _, rfl, iteF (q false rfl)⟩
    | str z2 => exact ⟨_, rfl, _, _, _, _, rfl, .str z2, isi_ss, _, rfl, iteT ⟨_, rfl, _, rfl, rfl, q _ (dec_str z1 z2).symm⟩⟩
    | tup e2 l2 at2 => exact ⟨_, rfl, _, _, _, _, rfl, .tup e2, isi_ts, _, rfl, iteF (q false rfl)⟩
  | @tup a1 vs1 ds1 e1 l1 at1 =>
    refine ⟨_, rfl, _, _, _, _, rfl, .tup e1, isi_tt, _, rfl, iteT ?_⟩
    cases rb with
    | non => exact ⟨_, rfl, _, _, _, _, rfl, .non, isi_nt, _, rfl, iteT (iteT (q false rfl))⟩
    | bl b2 => exact ⟨_, rfl, _, _, _, _, rfl, .bl b2, isi_bt, _, rfl, iteT (iteT (q false rfl))⟩
    | int i2 => exact ⟨_, rfl, _, _, _, _, rfl, .int i2, isi_it, _, rfl, iteT (iteT (q false rfl))⟩
    | str z2 => exact ⟨_, rfl, _, _, _, _, rfl, .str z2, isi_st, _, rfl, iteT (iteT (q false rfl))⟩
    | @tup a2 vs2 ds2 e2 l2 at2 =>
      refine ⟨_, rfl, _, _, _, _, rfl, .tup e2, isi_tt, _, rfl, iteF ⟨_, rfl, _, _, rfl, .inr ⟨_, SqT.of e1, rfl⟩, _, rfl, _, _, rfl, .inr ⟨_, SqT.of e2, rfl⟩, rfl, _, rfl, ?_⟩⟩
      by_cases hl : vs1.length = vs2.length
      · rw [show (!decide (V.int ((vs1.length : Nat) : Int) = V.int ((vs2.length : Nat) : Int))) = false by rw [hl]; simp]
        refine iteF ⟨_, rfl, _, rfl, a1, a2, vs1, vs2, rfl, SqT.of e1, SqT.of e2, ?_⟩
        have hl2 : ds1.length = ds2.length := by omega
        have hz : vs1.length ≤ sizeLine := by
          have := cnts_len ds1
          have hc : cnts ds1 + 1 ≤ 1000000 := hc
          rw [sizeLine_eq]
          omega
        refine rd_zip (K := K) ((List.zipWith alk ds1 ds2).map V.bl) (SqT.of e1) (SqT.of e2) hl (by simp [l1, l2, hl2]) hz (fun i x y z H1 R hx hy hzz sm r => ?_) (fun H1 sm => ⟨SqT.of (sm _ _ e1), SqT.of (sm _ _ e2)⟩) (fun H1 D sm hD => ?_)
        · have hi1 := (List.getElem?_eq_some_iff.mp hx).1
          have hi2 := (List.getElem?_eq_some_iff.mp hy).1
          have k1 : i < ds1.length := by omega
          have k2 : i < ds2.length := by omega
          have g1 : ds1[i]? = some ds1[i] := List.getElem?_eq_getElem k1
          have g2 : ds2[i]? = some ds2[i] := List.getElem?_eq_getElem k2
          obtain rfl : V.bl (alk ds1[i] ds2[i]) = z := by
            rw [List.getElem?_map, List.getElem?_zipWith, g1, g2] at hzz
            simpa using hzz
          have hd' : PyData.depthAll ds1 + 1 < n + 1 := hd
          have hdm := depthAll_mem (List.getElem_mem k1)
          have hcm := cnts_mem (List.getElem_mem k1)
          have hc : cnts ds1 + 1 ≤ 1000000 := hc
          exact ⟨_, rfl, _, rfl, x, y, ds1[i], ds2[i], rfl, (at1 i _ _ hx g1).mono (same_tups sm), (at2 i _ _ hy g2).mono (same_tups sm), by omega, by omega, r⟩
        · refine ⟨D, _, rfl, SqL.of upd_same, ?_⟩
          have := q0 _ (sm.trans (Same.new (o := .lst ((List.zipWith alk ds1 ds2).map V.bl)) hD))
          rw [show alk (.tuple ds1) (.tuple ds2) = (List.zipWith alk ds1 ds2).all id by simp only [alk]; exact alks_zip hl2] at this
          exact this
      · rw [show (!decide (V.int ((vs1.length : Nat) : Int) = V.int ((vs2.length : Nat) : Int))) = true by rw [decide_eq_false (fun z => hl (by have := V.int.inj z; omega))]; rfl]
        exact iteT (q false (by simp only [alk]; exact alks_len (by omega)))
theorem sc_ltells : FnScope ["_law_found", "_law_due"] ["_law_found", "_law_due"] (defScope s_ltells) := ⟨rfl, rfl, rfl, by decide +kernel, rfl, by decide +kernel, by decide +kernel⟩
theorem ok_ltells (F : Fun K "_law_tells" "_law_tells" s_ltells f fd) (m_bool : mg "bool" = none) (m_isi : mg "isinstance" = none) : FnOk P w K mg base CX0 (k + 1) f fd ["_law_found", "_law_due"] (spTells) := by
  refine F.okQ sc_ltells (fun vs H Q E h => ?_) (fun cdv A outer s H vs Q E hr h => ?_)
  · obtain ⟨c, rfl, _⟩ := h
    rfl
  obtain ⟨c, rfl, q⟩ := h
  refine ⟨_, (pss_one (ps_ret (pe_and (pe_callB call_isi rfl m_isi boot_isi (pa_cons (pv 0) (pa_cons (pe_ty rfl m_bool boot_boolT) pa_nil))) (pe_one (pe_cmpR op_eq (pv 0) (pv 1) (nomark _)))))), ?_⟩
  refine ⟨_, rfl, _, _, _, _, rfl, .bl c, isi_bb, _, rfl, iteT ⟨_, rfl, _, rfl, rfl, ?_⟩⟩
  rw [decide_eq_true (rfl : V.bl c = V.bl c)]
  exact q
theorem sc_llies : FnScope ["_law_rows", "_law_thing_here"] ["_law_rows", "_law_thing_here"] (defScope s_llies) := ⟨rfl, rfl, rfl, by decide +kernel, rfl, by decide +kernel, by decide +kernel⟩
theorem ok_llies (F : Fun K "_law_lies" "_law_lies" s_llies f fd) (G_lalike : Have P w K mg base "_law_alike" k ["_law_one", "_law_other_here"] (spAlike 66)) (m_any : mg "any" = none) : FnOk P w K mg base CX0 (k + 1) f fd ["_law_rows", "_law_thing_here"] (spLies) := by
  refine F.okQ sc_llies (fun vs H Q E h => ?_) (fun cdv A outer s H vs Q E hr h => ?_)
  · obtain ⟨r, rvs, rs, u, e, rfl, _⟩ := h
    rfl
  obtain ⟨r, rvs, rs, u, e, rfl, er, rt, re, gr, hl, q⟩ := h
  refine ⟨_, (pss_one (ps_ret (pe_callB (call_any_bools rfl) rfl m_any boot_any (pa_cons (pe_lcomp [1] ["_law_thing_here"] rfl rfl (by decide +kernel) rfl (by decide +kernel) rfl (by decide +kernel) ⟨rfl, trivial⟩ rfl ⟨⟨rfl, rfl, Or.inr (Or.inl rfl), (by show (some NameKind.cell : Option NameKind) ≠ some .local; decide), ⟨_, rfl⟩⟩, trivial⟩ (pi_list (pv 0)) (fun C s H fp => ⟨pifs_nil, (pe_fn G_lalike hr rfl (pa_cons (pe_ix (show IxR _ (rIxT K) from ix_tup) (pv 0) pe_int (fun _ _ => rfl)) (pa_cons (pv 1) pa_nil)))⟩)) pa_nil)))), ?_⟩
  have l1 := rt.len
  rw [List.length_map] at l1
  refine ⟨_, rfl, r, rfl, ⟨_, SqL.of er⟩, ?_⟩
  refine rd_bodyL (K := K) ((rs.map fun r => alk r.2 e).map V.bl) (SqL.of er) (by simp [l1]) (Nat.le_of_lt (small1000 (by omega))) (fun i v y H1 R hv hy sm r => ?_) (fun H1 D sm hD => ?_)
  · have hi := (List.getElem?_eq_some_iff.mp hv).1
    have hr' : i < rs.length := by omega
    rw [List.getElem?_map, List.getElem?_map, List.getElem?_eq_getElem hr'] at hy
    obtain rfl : V.bl (alk rs[i].2 e) = y := by simpa using hy
    have g2 := rt.at' i v (prD rs[i]) hv (by rw [List.getElem?_map, List.getElem?_eq_getElem hr']; rfl)
    obtain ⟨a, u1, u2, ea, ha, r1, r2⟩ := RT.pair_inv g2
    have gd := gr _ (List.getElem_mem hr')
    refine ⟨_, rfl, a, _, 1, u2, ea, rfl, SqT.of (sm _ _ ha), atI_nat (j := 1) rfl, _, rfl, u2, u, rs[i].2, e, rfl, r2.mono (same_tups sm), re.mono (same_tups sm), Nat.lt_of_le_of_lt gd.2.1 (by decide), Nat.le_trans gd.2.2 (by decide), r⟩
  · refine ⟨D, _, rfl, SqL.of upd_same, ?_⟩
    have := q _ (sm.trans (Same.new (o := .lst ((rs.map fun r => alk r.2 e).map V.bl)) hD))
    rw [show lies rs e = (rs.map fun r => alk r.2 e).any id by unfold lies; rw [List.any_map]; rfl] at this
    exact this
end
end D

set_option Elab.async false
set_option linter.all false
set_option maxRecDepth 100000
set_option maxHeartbeats 4000000
namespace D
open PySem L2
def cN : Nat → Nat
  | 0 => 1
  | n + 1 => 1 + 4 * cN n
theorem cN_pos : ∀ n, 1 ≤ cN n
  | 0 => Nat.le_refl _
  | n + 1 => by simp only [cN]; omega
theorem cnts_app (a b : List PyData) : cnts (a ++ b) = cnts a + cnts b := by
  induction a with
  | nil => simp [cnts]
  | cons x r ih => simp only [List.cons_append, cnts, ih]; omega
theorem depthAll_app (a b : List PyData) : PyData.depthAll (a ++ b) = max (PyData.depthAll a) (PyData.depthAll b) := by
  induction a with
  | nil => simp [PyData.depthAll]
  | cons x r ih => simp only [List.cons_append, PyData.depthAll, ih]; omega
theorem TBs_app {B : Nat} {a b : List PyData} (h1 : TBs B a) (h2 : TBs B b) : TBs B (a ++ b) := by
  induction a with
  | nil => exact h2
  | cons x r ih => exact ⟨h1.1, ih h1.2⟩
theorem mulOk' {a b : Int} (h1 : a.natAbs < 10 ^ 121) (h2 : b.natAbs < 10 ^ 121) : IntMulOk a b := by
  have bits : ∀ {c : Int}, c.natAbs < 10 ^ 121 → Builtin.Int.intBits c ≤ 1920 := fun {c} h => by
    have := log2_lt_of (k := 1919) (by decide) (Nat.lt_of_lt_of_le h (by decide +kernel : 10 ^ 121 ≤ 2 ^ 1919))
    unfold Builtin.Int.intBits
    split <;> omega
  unfold IntMulOk
  have := bits h1
  have := bits h2
  have e : Builtin.Int.intTooBig (Builtin.Int.intBits a + Builtin.Int.intBits b) = false := by
    unfold Builtin.Int.intTooBig
    have hb : 10000 ≤ bitsLine := by decide
    exact decide_eq_false (by omega)
  rw [e]
  simp
def spThing (n : Nat) : Sp := fun vs H Q _ => ∃ (b : Addr) (d : Int), vs = [.ref b, .int d] ∧ 0 ≤ d ∧ d < n ∧ IsBox H b ∧ ∀ (v : V) (t : PyData) (H' : Hp), RT H' v t → TB big1 t → t.depth ≤ d.toNat → cnt t ≤ cN d.toNat → Step b H H' → Q v H'
def spLaid : Sp := fun vs H Q _ => ∃ b : Addr, vs = [.ref b] ∧ IsBox H b ∧ ∀ (v : V) (t : PyData) (H' : Hp), RT H' v t → TB big1 t → t.depth ≤ 53 → cnt t ≤ 200 → Step b H H' → Q v H'
theorem small_int {i : Int} (h1 : -(10 ^ 120) ≤ i) (h2 : i ≤ 10 ^ 120) : TB big1 (.int i) := by
  show i.natAbs < 10 ^ 120 + 1
  omega
theorem txt_ok {x : Str} (h : (x.length : Int) ≤ 2000) (s : Signs x) : TB big1 (.str x) := by
  refine ⟨by omega, fun c hc => ?_⟩
  have := s c hc
  omega
section
variable {P : Program} {w : World} {K : PySem.W.Frag} {mg : Str → Option Value} {base : Heap} {f : Addr} {fd : FuncData} {k : Nat}
theorem sc_lthing : FnScope ["_law_box_here", "_law_deep", "_law_kind"] ["_law_box_here", "_law_deep"] (defScope s_lthing) := ⟨rfl, rfl, rfl, by decide +kernel, rfl, by decide +kernel, by decide +kernel⟩
theorem ok_lthing {n : Nat} (F : Fun K "_law_thing" "_law_thing" s_lthing f fd) (G_ltake : Have P w K mg base "_law_take" k ["_law_box_here", "_law_wide"] (spTake)) (G_lthing : Have P w K mg base "_law_thing" k ["_law_box_here", "_law_deep"] (spThing n)) (G_ltext : Have P w K mg base "_law_text" k ["_law_box_here", "_law_most"] (spText)) (m_range : mg "range" = none) (m_tuple : mg "tuple" = none) : FnOk P w K mg base CX0 (k + 1) f fd ["_law_box_here", "_law_deep"] (spThing (n + 1)) := by
  refine F.okQ sc_lthing (fun vs H Q E h => ?_) (fun cdv A outer s H vs Q E hr h => ?_)
  · obtain ⟨b, d, rfl, _⟩ := h
    rfl
  obtain ⟨b, d, rfl, d0, dn, hb, q⟩ := h
  refine ⟨_, (pss_cons (ps_set (i := 2) sc_lthing.nd rfl (Or.inl rfl) (pe_fn G_ltake hr rfl (pa_cons (pv 0) (pa_cons pe_int pa_nil))))
    (pss_cons (ps_if (pt_cmpR op_lt (pv 2) pe_int (nomark _)) (pss_one (ps_ret (pe_ix ix_list (pe_lst (pa_cons pe_non (pa_cons pe_bl (pa_cons pe_bl pa_nil)))) (pv 2) (fun _ _ => rfl)))) pss_nil)
    (pss_cons (ps_if (pt_cmpR op_eq (pv 2) pe_int (nomark _)) (pss_one (ps_ret (pe_op op_sub (pe_fn G_ltake hr rfl (pa_cons (pv 0) (pa_cons pe_int pa_nil))) pe_int))) pss_nil)
    (pss_cons (ps_if (pt_cmpR op_eq (pv 2) pe_int (nomark _)) (pss_one (ps_ret (pe_op op_mulB (pe_op op_mulB (pe_fn G_ltake hr rfl (pa_cons (pv 0) (pa_cons (pe_op op_pow pe_int pe_int) pa_nil))) (pe_ix ix_list (pe_lst (pa_cons pe_int (pa_cons (pe_op op_pow pe_int pe_int) pa_nil))) (pe_fn G_ltake hr rfl (pa_cons (pv 0) (pa_cons pe_int pa_nil))) (fun _ _ => rfl))) (pe_op op_sub pe_int (pe_op op_mulB pe_int (pe_fn G_ltake hr rfl (pa_cons (pv 0) (pa_cons pe_int pa_nil)))))))) pss_nil)
    (pss_cons (ps_if (PW.pt (pw_or (pt_cmpR op_eq (pv 2) pe_int (nomark _)) (pw_or1 (pt_cmpR op_eq (pv 1) pe_int (nomark _))))) (pss_one (ps_ret (pe_fn G_ltext hr rfl (pa_cons (pv 0) (pa_cons pe_int pa_nil))))) pss_nil)
    (pss_one (ps_ret (pe_callTy call_tuple_of rfl m_tuple boot_tupleT (pa_cons (pe_lcomp [0, 1] ["_law_box_here", "_law_deep"] rfl rfl (by decide +kernel) rfl (by decide +kernel) rfl (by decide +kernel) ⟨rfl, rfl, trivial⟩ rfl ⟨⟨rfl, rfl, Or.inr (Or.inl rfl), (by show (some NameKind.cell : Option NameKind) ≠ some .local; decide), ⟨_, rfl⟩⟩, ⟨rfl, rfl, Or.inr (Or.inl rfl), (by show (some NameKind.cell : Option NameKind) ≠ some .local; decide), ⟨_, rfl⟩⟩, trivial⟩ (pi_range1 rfl m_range (pa_cons (pe_fn G_ltake hr rfl (pa_cons (pv 0) (pa_cons pe_int pa_nil))) pa_nil)) (fun C s H fp => ⟨pifs_nil, (pe_fn G_lthing hr rfl (pa_cons (pv 1) (pa_cons (pe_op op_sub (pv 2) pe_int) pa_nil)))⟩)) pa_nil))))))))), ?_⟩
  have hcp := cN_pos d.toNat
  refine ⟨_, rfl, b, 8, rfl, hb, by decide, by decide, fun kd H1 k0 k1 st1 => ?_⟩
  refine ⟨_, rfl, _, _, rfl, rfl, _, rfl, ite2 (fun c => ?_) (fun c => ?_)⟩
  · have c : kd < 3 := of_decide_eq_true c
    refine ⟨(by show 3 ≤ sizeLine; decide), fun p hp => ?_⟩
    have st2 := st1.trans (Step.new (o := .lst [.non, .bl true, .bl false]) st1.box hp)
    have hc : kd = 0 ∨ kd = 1 ∨ kd = 2 := by omega
    rcases hc with rfl | rfl | rfl
    · exact ⟨_, rfl, p, _, 0, .non, rfl, rfl, SqL.of upd_same, atI_nat (j := 0) rfl, q _ .none _ .non trivial (Nat.zero_le _) hcp st2⟩
    · exact ⟨_, rfl, p, _, 1, .bl true, rfl, rfl, SqL.of upd_same, atI_nat (j := 1) rfl, q _ (.bool true) _ (.bl _) trivial (Nat.zero_le _) hcp st2⟩
    · exact ⟨_, rfl, p, _, 2, .bl false, rfl, rfl, SqL.of upd_same, atI_nat (j := 2) rfl, q _ (.bool false) _ (.bl _) trivial (Nat.zero_le _) hcp st2⟩
  refine ⟨_, rfl, rfl, _, rfl, ite2 (fun c2 => ?_) (fun c2 => ?_)⟩
  · refine ⟨_, rfl, b, 3, rfl, st1.box, by decide, by decide, fun r H2 r0 r1 st2 => ⟨_, _, rfl, rfl, ?_⟩⟩
    exact q _ (.int (r - 1)) _ (.int _) (small_int (by omega) (by omega)) (Nat.zero_le _) hcp (st1.trans st2)
  refine ⟨_, rfl, rfl, _, rfl, ite2 (fun c3 => ?_) (fun c3 => ?_)⟩
  · have e60 : (10 : Int) ^ (60 : Int).toNat = 10 ^ 60 := rfl
    refine ⟨_, rfl, _, _, rfl, rfl, ⟨by decide, by decide, by decide⟩, b, _, rfl, st1.box, by decide, by decide, fun x H2 x0 x1 st2 => ?_⟩
    rw [e60] at x1
    refine ⟨_, _, rfl, rfl, ⟨by decide, by decide, by decide⟩, (by show 2 ≤ sizeLine; decide), fun p hp => ?_⟩
    have hp0 : upd H2 p (.lst [.int 1, .int ((10 : Int) ^ (60 : Int).toNat)]) p = some (.lst [.int 1, .int ((10 : Int) ^ (60 : Int).toNat)]) := upd_same
    have st3 := (st1.trans st2).trans (Step.new (o := .lst [.int 1, .int ((10 : Int) ^ (60 : Int).toNat)]) st2.box hp)
    have npb : p ≠ b := by
      obtain ⟨a', f', m', e'⟩ := st2.box
      exact (ne_of_none e' hp).symm
    refine ⟨_, rfl, b, 2, rfl, st3.box, by decide, by decide, fun m H3 m0 m1 st4 => ?_⟩
    have hp3 := st4.keep p _ npb hp0
    obtain ⟨y, hy, y0, y1⟩ : ∃ y : Int, atI [V.int 1, V.int ((10 : Int) ^ (60 : Int).toNat)] m = some (.int y) ∧ 0 ≤ y ∧ y ≤ 10 ^ 60 := by
      have hm : m = 0 ∨ m = 1 := by omega
      rcases hm with rfl | rfl
      · exact ⟨1, atI_nat (j := 0) rfl, by decide, by decide⟩
      · exact ⟨_, atI_nat (j := 1) rfl, by decide, by decide⟩
    have z0 : 0 ≤ x * y := Int.mul_nonneg x0 y0
    have z1 : x * y ≤ 10 ^ 120 := by
      have := Int.mul_le_mul (Int.le_of_lt x1) y1 y0 (by decide : (0 : Int) ≤ 10 ^ 60)
      have e : (10 : Int) ^ 60 * 10 ^ 60 = 10 ^ 120 := by decide +kernel
      omega
    refine ⟨p, _, m, _, rfl, rfl, SqL.of hp3, hy, _, _, rfl, rfl, mulOk' (by omega) (by omega), _, rfl, b, 2, rfl, (st3.trans st4).box, by decide, by decide, fun g H4 g0 g1 st5 => ?_⟩
    refine ⟨_, _, rfl, rfl, mulOk' (by decide) (by omega), _, _, rfl, rfl, _, _, rfl, rfl, mulOk' (by omega) (by omega), ?_⟩
    refine q _ (.int (x * y * (1 - 2 * g))) _ (.int _) ?_ (Nat.zero_le _) hcp ((st3.trans st4).trans st5)
    have hg : g = 0 ∨ g = 1 := by omega
    rcases hg with rfl | rfl
    · rw [show (1 : Int) - 2 * 0 = 1 from rfl, Int.mul_one]
      exact small_int (by omega) z1
    · rw [show (1 : Int) - 2 * 1 = -1 from rfl, Int.mul_neg, Int.mul_one]
      exact small_int (by omega) (by omega)
  have text : spText [.ref b, .int 30] H1 Q E0 := ⟨b, 30, rfl, st1.box, by decide, by decide, fun x H2 lx sx st2 => q _ (.str x) _ (.str x) (txt_ok (by omega) sx) (Nat.zero_le _) hcp (st1.trans st2)⟩
  refine ⟨_, rfl, rfl, _, rfl, ite2 (fun c4 => iteT ⟨_, rfl, text⟩) (fun c4 => ⟨_, rfl, rfl, _, rfl, ite2 (fun c5 => ⟨_, rfl, text⟩) (fun c5 => ?_)⟩)⟩
  have c5 : ¬ d = 0 := fun z => c5 (by rw [z]; rfl)
  refine ⟨_, rfl, b, 5, rfl, st1.box, by decide, by decide, fun m H2 m0 m1 st2 => ⟨m, rfl, by omega, by omega, ?_⟩⟩
  refine ⟨fun i mm us H3 => i ≤ m.toNat ∧ mm = m.toNat - i ∧ us.length = i ∧ Step b H H3 ∧ ∃ ds, RTs H3 us ds ∧ TBs big1 ds ∧ PyData.depthAll ds ≤ (d - 1).toNat ∧ cnts ds ≤ i * cN (d - 1).toNat,
    ⟨_, Nat.zero_le _, rfl, rfl, st1.trans st2, [], ⟨rfl, fun i v d h => by simp at h⟩, trivial, Nat.zero_le _, Nat.zero_le _⟩, fun i mm us H3 hW => ?_⟩
  obtain ⟨hi, hmm, hu, st3, ds, rt, tb, dp, ct⟩ := hW
  refine ⟨by rw [hu]; exact Nat.le_trans hi (by rw [sizeLine_eq]; omega), ?_⟩
  by_cases hlt : i < m.toNat
  · refine .inr ⟨hlt, fun v H' hy => ?_⟩
    obtain ⟨rfl, rfl⟩ := hy
    refine iteT ⟨_, rfl, _, rfl, _, _, rfl, rfl, b, d - 1, rfl, by omega, by omega, st3.box, fun v t H4 rv tv dv cv st4 => ?_⟩
    refine ⟨m.toNat - (i + 1), by omega, hlt, rfl, by simp [hu], st3.trans st4, ds ++ [t], (rt.mono (st4.tups st3.box)).snoc rv, TBs_app tb ⟨tv, trivial⟩, ?_, ?_⟩
    · rw [depthAll_app]
      simp only [PyData.depthAll]
      omega
    · rw [cnts_app, Nat.add_mul, Nat.one_mul]
      simp only [cnts]
      omega
  · refine .inl ⟨(by show m.toNat ≤ i; omega), fun D hD => ?_⟩
    have st4 := st3.trans (Step.new (o := .lst us) st3.box hD)
    refine ⟨D, us, rfl, .inl ⟨SqL.of upd_same, fun l hl => ?_⟩⟩
    have st5 := Step.new (o := .tup us) st4.box hl
    have t4 : Tups H3 (upd H3 D (.lst us)) := (Step.new (o := .lst us) st3.box hD).tups st3.box
    refine q _ (.tuple ds) _ (((rt.mono t4).mono (st5.tups st4.box)).tup upd_same) tb ?_ ?_ (st4.trans st5)
    · simp only [PyData.depth]
      omega
    · have e : d.toNat = (d - 1).toNat + 1 := by omega
      rw [e]
      simp only [cnt, cN]
      have : i * cN (d - 1).toNat ≤ 4 * cN (d - 1).toNat := Nat.mul_le_mul_right _ (by omega)
      omega
theorem sc_llaid : FnScope ["_law_box_here", "_law_thing_here", "_law_kind", "_law_k"] ["_law_box_here"] (defScope s_llaid) := ⟨rfl, rfl, rfl, by decide +kernel, rfl, by decide +kernel, by decide +kernel⟩
theorem ok_llaid (F : Fun K "_law_laid" "_law_laid" s_llaid f fd) (G_ltext : Have P w K mg base "_law_text" k ["_law_box_here", "_law_most"] (spText)) (G_ltake : Have P w K mg base "_law_take" k ["_law_box_here", "_law_wide"] (spTake)) (G_lthing : Have P w K mg base "_law_thing" k ["_law_box_here", "_law_deep"] (spThing 4)) (m_range : mg "range" = none) : FnOk P w K mg base CX0 (k + 1) f fd ["_law_box_here"] (spLaid) := by
  refine F.okQ sc_llaid (fun vs H Q E h => ?_) (fun cdv A outer s H vs Q E hr h => ?_)
  · obtain ⟨b, rfl, _⟩ := h
    rfl
  obtain ⟨b, rfl, hb, q⟩ := h
  refine ⟨_, (pss_cons (ps_set (i := 1) sc_llaid.nd rfl (Or.inl rfl) (pe_fn G_lthing hr rfl (pa_cons (pv 0) (pa_cons pe_int pa_nil))))
    (pss_cons (ps_set (i := 2) sc_llaid.nd rfl (Or.inl rfl) (pe_fn G_ltake hr rfl (pa_cons (pv 0) (pa_cons pe_int pa_nil))))
    (pss_cons (ps_if (pt_cmpR op_eq (pv 2) pe_int (nomark _)) (pss_one (ps_for PassesOwn.never rfl (pi_range1 rfl m_range (pa_cons (pe_fn G_ltake hr rfl (pa_cons (pv 0) (pa_cons pe_int pa_nil))) pa_nil)) (pg_name (i := 3) sc_llaid.nd rfl (Or.inl rfl)) (pss_one (ps_set (i := 1) sc_llaid.nd rfl (Or.inl rfl) (pe_tup (pa_cons (pv 1) pa_nil)))))) pss_nil)
    (pss_cons (ps_if (pt_cmpR op_eq (pv 2) pe_int (nomark _)) (pss_one (ps_set (i := 1) sc_llaid.nd rfl (Or.inl rfl) (pe_fn G_ltext hr rfl (pa_cons (pv 0) (pa_cons pe_int pa_nil))))) pss_nil)
    (pss_one (ps_ret (pv 1))))))), ?_⟩
  refine ⟨_, rfl, b, 3, rfl, by decide, by decide, hb, fun v t H1 rt tb dp ct st1 => ?_⟩
  have dp : t.depth ≤ 3 := dp
  have ct : cnt t ≤ 85 := ct
  refine ⟨_, rfl, b, 8, rfl, st1.box, by decide, by decide, fun kd H2 k0 k1 st2 => ?_⟩
  have stA := st1.trans st2
  have rt2 := rt.mono (st2.tups st1.box)
  refine ⟨_, rfl, rfl, _, rfl, ite2 (fun c => ?_) (fun c => ?_)⟩
  · have c : kd = 1 := V.int.inj (of_decide_eq_true c)
    subst c
    refine ⟨_, rfl, b, 51, rfl, stA.box, by decide, by decide, fun m H3 m0 m1 st3 => ⟨m, rfl, by omega, by omega, ?_⟩⟩
    refine for_range (n := m.toNat) (fun i σ' H' => ∃ (v : V) (t : PyData) (o : Option V), σ' = [some (.ref b), some v, some (.int 1), o] ∧ RT H' v t ∧ TB big1 t ∧ t.depth ≤ 3 + i ∧ cnt t ≤ 85 + i ∧ Step b H H')
      ⟨v, t, none, rfl, rt2.mono (st3.tups stA.box), tb, dp, ct, stA.trans st3⟩ (fun i σ' H' hi h => ?_) (fun σ' H' h => ?_)
    · obtain ⟨v, t, o, rfl, rt, tb, dp, ct, st⟩ := h
      refine ⟨_, rfl, (by show 1 ≤ sizeLine; decide), fun p hp => ?_⟩
      have st5 := Step.new (o := .tup [v]) st.box hp
      have rt5 : RTs (upd H' p (.tup [v])) [v] [t] := by
        have r0 : RTs (upd H' p (.tup [v])) [] [] := ⟨rfl, fun i v d h => by simp at h⟩
        exact r0.snoc (rt.mono (st5.tups st.box))
      refine ⟨_, .tuple [t], _, rfl, rt5.tup upd_same, ⟨tb, trivial⟩, ?_, ?_, st.trans st5⟩
      · simp only [PyData.depth, PyData.depthAll]
        omega
      · simp only [cnt, cnts]
        omega
    · obtain ⟨v, t, o, rfl, rt, tb, dp, ct, st⟩ := h
      exact ⟨_, rfl, rfl, _, rfl, iteF ⟨_, rfl, q v t _ rt tb (by omega) (by omega) st⟩⟩
  · refine ⟨_, rfl, rfl, _, rfl, ite2 (fun c2 => ?_) (fun c2 => ?_)⟩
    · exact ⟨_, rfl, b, 2000, rfl, stA.box, by decide, by decide, fun x H3 lx sx st3 => ⟨_, rfl, q _ (.str x) _ (.str x) (txt_ok lx sx) (Nat.zero_le _) (by show 1 ≤ 200; decide) (stA.trans st3)⟩⟩
    · exact ⟨_, rfl, q v t _ rt2 tb (by omega) (by omega) stA⟩
end
end D

set_option Elab.async false
set_option linter.all false
set_option maxRecDepth 100000
set_option maxHeartbeats 4000000
namespace D
open PySem L2
theorem cut_take (vs : List V) (k : Nat) (h : k ≤ vs.length) : cutV vs none (some (k : Int)) = vs.take k := by
  unfold cutV
  rw [HT.sIx_nat, HT.sIx_none]
  simp [Nat.min_eq_left h]
theorem cut_drop (vs : List V) (k : Nat) (h : k ≤ vs.length) : cutV vs (some (k : Int)) none = vs.drop k := by
  unfold cutV
  rw [HT.sIx_nat, HT.sIx_none, Nat.min_eq_left h, List.take_of_length_le (by rw [List.length_drop]; omega)]
theorem slice_sn {z : Str} {a : Nat} (h1 : a ≤ z.length) : (Txt.slice z (some (a : Int)) none).cps.toList = z.cps.toList.drop a := by
  rw [PyProof.Rows.slice_from_eq (x := z) (i := (a : Int)) (b := (z.length : Int)) (by omega) (by omega) rfl]
  simp
  rw [List.take_of_length_le]
  rw [List.length_drop, str_len]
  omega
theorem cut1 (z : Str) : (Txt.slice z (some 1) none).length ≤ z.length - 1 := by
  by_cases h : 1 ≤ z.length
  · have e : (Txt.slice z (some 1) none).cps.toList = z.cps.toList.drop 1 := slice_sn h
    have := congrArg List.length e
    rw [List.length_drop, str_len, str_len] at this
    omega
  · have hz : z.cps.toList = [] := List.eq_nil_of_length_eq_zero (by rw [str_len]; omega)
    have e : (Txt.slice z (some 1) none).cps.toList = [] := by
      apply List.eq_nil_iff_forall_not_mem.mpr
      intro c hc
      have := slice_mem z (some 1) none c hc
      rw [hz] at this
      cases this
    have := congrArg List.length e
    rw [str_len] at this
    have : (Txt.slice z (some 1) none).length = 0 := this
    omega
def spOther (n : Nat) : Sp := fun vs H Q _ => ∃ (b : Addr) (v : V) (d : PyData), vs = [.ref b, v] ∧ IsBox H b ∧ RT H v d ∧ d.depth < n ∧ TB big1 d ∧ cnt d ≤ 300 ∧
  ∀ (v' : V) (d' : PyData) (H' : Hp), RT H' v' d' → TOk d' → d'.depth ≤ d.depth + 1 → cnt d' ≤ cnt d + 1 → Step b H H' → Q v' H'
theorem depth_take (ds : List PyData) (j : Nat) : PyData.depthAll (ds.take j) ≤ PyData.depthAll ds := by
  have := depthAll_app (ds.take j) (ds.drop j)
  rw [List.take_append_drop] at this
  omega
theorem depth_drop (ds : List PyData) (j : Nat) : PyData.depthAll (ds.drop j) ≤ PyData.depthAll ds := by
  have := depthAll_app (ds.take j) (ds.drop j)
  rw [List.take_append_drop] at this
  omega
theorem cnts_split {ds : List PyData} {j : Nat} (h : j < ds.length) : cnts (ds.take j) + (cnt ds[j] + cnts (ds.drop (j + 1))) = cnts ds := by
  have := cnts_app (ds.take j) (ds.drop j)
  rw [List.take_append_drop, List.drop_eq_getElem_cons h] at this
  simp only [cnts] at this
  exact this.symm
section
variable {P : Program} {w : World} {K : PySem.W.Frag} {mg : Str → Option Value} {base : Heap} {f : Addr} {fd : FuncData} {k : Nat}
theorem sc_lother : FnScope ["_law_box_here", "_law_thing_here", "_law_at"] ["_law_box_here", "_law_thing_here"] (defScope s_lother) := ⟨rfl, rfl, rfl, by decide +kernel, rfl, by decide +kernel, by decide +kernel⟩
theorem ok_lother {n : Nat} (F : Fun K "_law_other" "_law_other" s_lother f fd) (G_lother : Have P w K mg base "_law_other" k ["_law_box_here", "_law_thing_here"] (spOther n)) (G_ltake : Have P w K mg base "_law_take" k ["_law_box_here", "_law_wide"] (spTake)) (m_bool : mg "bool" = none) (m_int : mg "int" = none) (m_isi : mg "isinstance" = none) (m_len : mg "len" = none) (m_str : mg "str" = none) (m_tuple : mg "tuple" = none) : FnOk P w K mg base CX0 (k + 1) f fd ["_law_box_here", "_law_thing_here"] (spOther (n + 1)) := by
  refine F.okQ sc_lother (fun vs H Q E h => ?_) (fun cdv A outer s H vs Q E hr h => ?_)
  · obtain ⟨b, v, d, rfl, _⟩ := h
    rfl
  obtain ⟨b, v, d, rfl, hb, rv, hn, tb, hc, q⟩ := h
  refine ⟨_, (pss_cons (ps_if (pt_val (pe_callB call_isi rfl m_isi boot_isi (pa_cons (pv 1) (pa_cons (pe_ty rfl m_tuple boot_tupleT) pa_nil)))) (pss_cons (ps_if (PW.pt (pw_or (pt_cmpR op_eq (pe_callB call_len rfl m_len PySem.boot_len (pa_cons (pv 1) pa_nil)) pe_int (nomark _)) (pw_or1 (pt_cmpR op_eq (pe_fn G_ltake hr rfl (pa_cons (pv 0) (pa_cons pe_int pa_nil))) pe_int (nomark _))))) (pss_one (ps_ret (pe_op (op_catT.or op_catT0) (pv 1) (pe_tup (pa_cons pe_int pa_nil))))) pss_nil)
    (pss_cons (ps_set (i := 2) sc_lother.nd rfl (Or.inl rfl) (pe_fn G_ltake hr rfl (pa_cons (pv 0) (pa_cons (pe_callB call_len rfl m_len PySem.boot_len (pa_cons (pv 1) pa_nil)) pa_nil))))
    (pss_one (ps_ret (pe_op op_catT (pe_op (op_catT.or op_catT0) (pe_slice sl_tup (pv 1) po_none (po_some (pv 2))) (pe_tup (pa_cons (pe_fn G_lother hr rfl (pa_cons (pv 0) (pa_cons (pe_ix ix_seq (pv 1) (pv 2) (fun _ _ => rfl)) pa_nil))) pa_nil))) (pe_slice sl_tup (pv 1) (po_some (pe_op op_add (pv 2) pe_int)) po_none)))))) pss_nil)
    (pss_cons (ps_if (pt_cmp (pc_isN (pv 1))) (pss_one (ps_ret (pe_tup pa_nil))) pss_nil)
    (pss_cons (ps_if (pt_val (pe_callB call_isi rfl m_isi boot_isi (pa_cons (pv 1) (pa_cons (pe_ty rfl m_str boot_strT) pa_nil)))) (pss_one (ps_ret (pe_op op_add_str (pe_slice sl_strX (pv 1) (po_some pe_int) po_none) pe_str))) pss_nil)
    (pss_cons (ps_if (pt_val (pe_callB call_isi rfl m_isi boot_isi (pa_cons (pv 1) (pa_cons (pe_ty rfl m_bool boot_boolT) pa_nil)))) (pss_one (ps_ret (pe_callTy call_int1 rfl m_int boot_intT (pa_cons (pv 1) pa_nil)))) pss_nil)
    (pss_cons (ps_if (PW.pt (pw_or (pt_cmpR op_eq (pv 1) pe_int (nomark _)) (pw_or1 (pt_cmpR op_eq (pv 1) pe_int (nomark _))))) (pss_one (ps_ret (pe_cmpR op_eq (pv 1) pe_int (nomark _)))) pss_nil)
    (pss_one (ps_ret (pe_op op_add (pv 1) pe_int)))))))), ?_⟩
  cases rv with
  | non =>
    refine ⟨_, rfl, _, _, _, _, rfl, .non, isi_nt, _, rfl, iteF ⟨_, rfl, _, rfl, iteT ⟨(by show 0 ≤ sizeLine; decide), fun p hp => ?_⟩⟩⟩
    have st := Step.new (o := .tup []) hb hp
    exact q _ (.tuple []) _ (.tup upd_same rfl fun i v d h => by simp at h) trivial (Nat.le_refl _) (by decide) st
  | bl c =>
    refine ⟨_, rfl, _, _, _, _, rfl, .bl c, isi_bt, _, rfl, iteF ⟨_, rfl, _, rfl, iteF ⟨_, rfl, _, _, _, _, rfl, .bl c, isi_bs, _, rfl, iteF ⟨_, rfl, _, _, _, _, rfl, .bl c, isi_bb, _, rfl, iteT ⟨_, rfl, .inr ⟨c, rfl, ?_⟩⟩⟩⟩⟩⟩
    exact q _ (.int _) _ (.int _) (by cases c <;> (show Int.natAbs _ < 10 ^ 121; decide +kernel)) (Nat.zero_le _) (by show 1 ≤ 2; decide) (Step.refl hb)
  | str z =>
    have hz : z.length ≤ 2000 := tb.1
    refine ⟨_, rfl, _, _, _, _, rfl, .str z, isi_st, _, rfl, iteF ⟨_, rfl, _, rfl, iteF ⟨_, rfl, _, _, _, _, rfl, .str z, isi_ss, _, rfl, iteT ⟨_, rfl, _, rfl, z, rfl, by omega, ?_⟩⟩⟩⟩
    have h1 := cut1 z
    refine ⟨_, _, rfl, rfl, small (by rw [show (Str.ofString " ").length = 1 by decide +kernel]; omega), ?_⟩
    refine q _ (.str _) _ (.str _) ⟨?_, fun c hc => ?_⟩ (Nat.zero_le _) (by show 1 ≤ 2; decide) (Step.refl hb)
    · rw [str_app_len, show (Str.ofString " ").length = 1 by decide +kernel]
      omega
    · have hc : c ∈ cp (Txt.slice z (some 1) none ++ Str.ofString " ") := hc
      rw [cp_app] at hc
      rcases List.mem_append.mp hc with hc | hc
      · exact tb.2 c (slice_mem z (some 1) none c hc)
      · have e : cp (Str.ofString " ") = [32] := by decide +kernel
        rw [e] at hc
        have : c = 32 := by simpa using hc
        omega
  | int i =>
    have hi : i.natAbs < 10 ^ 120 + 1 := tb
    refine ⟨_, rfl, _, _, _, _, rfl, .int i, isi_it, _, rfl, iteF ⟨_, rfl, _, rfl, iteF ⟨_, rfl, _, _, _, _, rfl, .int i, isi_is, _, rfl, iteF ⟨_, rfl, _, _, _, _, rfl, .int i, isi_ib, _, rfl, iteF ?_⟩⟩⟩⟩
    have tr : ∀ c : Bool, Q (.bl c) H := fun c => q _ (.bool c) _ (.bl c) trivial (Nat.zero_le _) (by show 1 ≤ 2; decide) (Step.refl hb)
    refine ⟨_, rfl, rfl, _, rfl, ite2 (fun c => iteT ⟨_, rfl, rfl, tr _⟩) (fun c => ⟨_, rfl, rfl, _, rfl, ite2 (fun c2 => ⟨_, rfl, rfl, tr _⟩) (fun c2 => ⟨_, rfl, _, _, rfl, rfl, ?_⟩)⟩)⟩
    exact q _ (.int _) _ (.int _) (show Int.natAbs (i + 1) < 10 ^ 121 by omega) (Nat.zero_le _) (by show 1 ≤ 2; decide) (Step.refl hb)
  | @tup a vs ds e l at' =>
    have tbd : TBs big1 ds := tb
    have tod : TOks ds := TBs.mono (by decide +kernel) ds tbd
    have hc : cnts ds + 1 ≤ 300 := hc
    have hlen := cnts_len ds
    refine ⟨_, rfl, _, _, _, _, rfl, .tup e, isi_tt, _, rfl, iteT ?_⟩
    -- _law_thing_here + (0,)
    have more : ∀ H2, Step b H H2 → tOp (fun x y H Q => rCatT K x y H Q ∨ ∃ (a b : Addr) (ys : List V), x = .ref a ∧ y = .ref b ∧ SqT K H a [] ∧ SqT K H b ys ∧ Q (.ref b) H) (tVar 1) (tTup (tCons (tC (.int 0)) tNil)) [some (.ref b), some (.ref a), none] H2 Q := fun H2 st2 => by
      have e2 := st2.tups hb _ _ e
      refine ⟨_, rfl, (by show 1 ≤ sizeLine; decide), fun p hp => ?_⟩
      have st3 := Step.new (o := .tup [.int 0]) st2.box hp
      have e3 := st3.tups st2.box _ _ e2
      have rts : ∀ H4, Step b (upd H2 p (.tup [.int 0])) H4 → RTs H4 (vs ++ [.int 0]) (ds ++ [.int 0]) := fun H4 st4 =>
        RTs.snoc ⟨l, fun i v d h1 h2 => (((at' i v d h1 h2).mono (st2.tups hb)).mono (st3.tups st2.box)).mono (st4.tups st3.box)⟩ (.int 0)
      have fin : ∀ H4 x, Step b (upd H2 p (.tup [.int 0])) H4 → H4 x = some (.tup (vs ++ [.int 0])) → Q (.ref x) H4 := fun H4 x st4 e4 => by
        refine q _ (.tuple (ds ++ [.int 0])) _ ((rts H4 st4).tup e4) (TBs_app tod ⟨(by show Int.natAbs 0 < 10 ^ 121; decide +kernel), trivial⟩) ?_ ?_ ((st2.trans st3).trans st4)
        · simp only [PyData.depth, depthAll_app, PyData.depthAll]
          omega
        · simp only [cnt, cnts_app, cnts]
          omega
      by_cases h0 : vs = []
      · subst h0
        exact .inr ⟨a, p, [.int 0], rfl, rfl, SqT.of e3, SqT.of upd_same, fin _ p (Step.refl st3.box) (by simpa using upd_same)⟩
      · refine .inl ⟨a, p, vs, [.int 0], rfl, rfl, SqT.of e3, SqT.of upd_same, h0, ?_, (fun z => by simp at z), fun _ p3 hp3 => ?_⟩
        · exact small (by show vs.length + 1 ≤ _; omega)
        · exact fin _ p3 (Step.new st3.box hp3) upd_same
    refine ⟨_, rfl, _, _, rfl, .inr ⟨_, SqT.of e, rfl⟩, rfl, _, rfl, ite2 (fun c => iteT (more H (Step.refl hb))) (fun c => ?_)⟩
    have c1 : ¬ V.int ((vs.length : Nat) : Int) = V.int 0 := of_decide_eq_false (Bool.eq_false_iff.mpr c)
    have hpos : 0 < vs.length := by
      rcases Nat.eq_zero_or_pos vs.length with h | h
      · exact absurd (by rw [h]; rfl) c1
      · exact h
    refine ⟨_, rfl, b, 5, rfl, hb, by decide, by decide, fun r H1 r0 r1 st1 => ⟨rfl, _, rfl, ite2 (fun c2 => more H1 st1) (fun c2 => ?_)⟩⟩
    have e1 := st1.tups hb _ _ e
    refine ⟨_, rfl, _, rfl, _, _, rfl, .inr ⟨_, SqT.of e1, rfl⟩, b, _, rfl, st1.box, by omega, ?_, fun at1 H2 a0 a1 st2 => ?_⟩
    · have : (1000 : Int) < 10 ^ 61 := by decide
      omega
    have e2 := st2.tups st1.box _ _ e1
    obtain ⟨j, rfl⟩ : ∃ j : Nat, at1 = (j : Int) := ⟨at1.toNat, by omega⟩
    have hj : j < vs.length := by omega
    have hjw : j < ds.length := by omega
    refine ⟨_, rfl, _, rfl, _, rfl, a, vs, rfl, SqT.of e2, ?_, fun p1 hp1 => ?_⟩
    · rw [HT.sIx_nat, HT.sIx_none]
      intro z
      have := z.2
      omega
    rw [cut_take vs j (by omega)]
    have st3 := Step.new (o := .tup (vs.take j)) st2.box hp1
    have e3 := st3.tups st2.box _ _ e2
    have tHw : Tups H (upd H2 p1 (.tup (vs.take j))) := fun c us z => st3.tups st2.box c us (st2.tups st1.box c us (st1.tups hb c us z))
    have hwj : ds[j]? = some ds[j] := List.getElem?_eq_getElem hjw
    have hvj : vs[j]? = some vs[j] := List.getElem?_eq_getElem hj
    have hm := List.mem_of_getElem? hwj
    have hdm := depthAll_mem hm
    have hcm := cnts_mem hm
    have hd2 : PyData.depthAll ds + 1 < n + 1 := hn
    refine ⟨_, rfl, _, rfl, _, rfl, .inr (.inl ⟨a, vs, _, vs[j], rfl, rfl, SqT.of e3, atI_nat hvj, b, vs[j], ds[j], rfl, st3.box, (at' j _ _ hvj hwj).mono tHw, by omega, TOks_mem tbd hm, by omega, fun v' t H4 rt sm dd cc st4 => ?_⟩)⟩
    refine ⟨(by show 1 ≤ sizeLine; decide), fun p2 hp2 => ?_⟩
    have st5 := Step.new (o := .tup [v']) st4.box hp2
    have e5 := st5.tups st4.box _ _ (st4.tups st3.box _ _ e3)
    have hp1' : upd H4 p2 (.tup [v']) p1 = some (.tup (vs.take j)) := st5.tups st4.box _ _ (st4.tups st3.box _ _ upd_same)
    have tH5 : Tups H (upd H4 p2 (.tup [v'])) := fun c us z => st5.tups st4.box c us (st4.tups st3.box c us (tHw c us z))
    have stAll : Step b H (upd H4 p2 (.tup [v'])) := st1.trans (st2.trans (st3.trans (st4.trans st5)))
    have rt5 := rt.mono (st5.tups st4.box)
    have full : ∀ (H6 : Hp) (p : Addr), Step b (upd H4 p2 (.tup [v'])) H6 → H6 p = some (.tup (vs.take j ++ ([v'] ++ vs.drop (j + 1)))) → Q (.ref p) H6 := fun H6 p st6 e6 => by
      refine q _ (.tuple (ds.take j ++ ([t] ++ ds.drop (j + 1)))) _ (.tup e6 ?_ fun i u tu a1 a2 => ?_) ?_ ?_ ?_ (stAll.trans st6)
      · simp only [List.length_append, List.length_take, List.length_drop, l]
        rfl
      · have t6 : Tups H H6 := fun c us z => st6.tups st5.box c us (tH5 c us z)
        by_cases hi : i < j
        · rw [List.getElem?_append_left (by rw [List.length_take]; omega), List.getElem?_take_of_lt hi] at a1
          rw [List.getElem?_append_left (by rw [List.length_take]; omega), List.getElem?_take_of_lt hi] at a2
          exact (at' i u tu a1 a2).mono t6
        · rw [List.getElem?_append_right (by rw [List.length_take]; omega), List.length_take, Nat.min_eq_left (by omega)] at a1
          rw [List.getElem?_append_right (by rw [List.length_take]; omega), List.length_take, Nat.min_eq_left (by omega)] at a2
          by_cases hij : i = j
          · subst hij
            rw [Nat.sub_self] at a1 a2
            cases a1
            cases a2
            exact rt5.mono (st6.tups st5.box)
          · obtain ⟨m, hm'⟩ : ∃ m, i - j = m + 1 := ⟨i - j - 1, by omega⟩
            rw [hm'] at a1 a2
            have a1' : (vs.drop (j + 1))[m]? = some u := by simpa using a1
            have a2' : (ds.drop (j + 1))[m]? = some tu := by simpa using a2
            rw [List.getElem?_drop] at a1' a2'
            exact (at' _ u tu a1' a2').mono t6
      · exact TBs_app (TOks_of fun t' ht' => TOks_mem tod (List.mem_of_mem_take ht')) (TBs_app ⟨sm, trivial⟩ (TOks_of fun t' ht' => TOks_mem tod (List.mem_of_mem_drop ht')))
      · have g1 := depth_take ds j
        have g2 := depth_drop ds (j + 1)
        simp only [PyData.depth, depthAll_app, PyData.depthAll]
        omega
      · have g1 := cnts_split hjw
        simp only [cnt, cnts_app, cnts]
        omega
    have third : ∀ (H6 : Hp) (p : Addr), Step b (upd H4 p2 (.tup [v'])) H6 → H6 p = some (.tup (vs.take j ++ [v'])) → H6 a = some (.tup vs) →
        tSl (rSlT K) (tVar 1) (tPart (tOp (rI0 fun i j => V.int (i + j)) (tVar 2) (tC (.int 1)))) tNoPart [some (.ref b), some (.ref a), some (.int (j : Int))] H6 (fun y H7 => rCatT K (.ref p) y H7 Q) := fun H6 p st6 e6 ea => by
      refine ⟨_, rfl, _, rfl, _, _, rfl, rfl, _, rfl, a, vs, rfl, SqT.of ea, ?_, fun p4 hp4 => ?_⟩
      · have : ((j : Int) + 1) = ((j + 1 : Nat) : Int) := by omega
        rw [this, HT.sIx_nat]
        intro z
        have := z.1
        omega
      · have ej : ((j : Int) + 1) = ((j + 1 : Nat) : Int) := by omega
        have ecut : cutV vs (some ((j : Int) + 1)) none = vs.drop (j + 1) := by rw [ej]; exact cut_drop vs (j + 1) (by omega)
        have st7 := Step.new (o := .tup (cutV vs (some ((j : Int) + 1)) none)) st6.box hp4
        have e7 := st7.tups st6.box _ _ e6
        refine ⟨p, p4, vs.take j ++ [v'], vs.drop (j + 1), rfl, rfl, SqT.of e7, SqT.of (by rw [upd_same, ecut]), by simp, ?_, fun z => ?_, fun z p5 hp5 => ?_⟩
        · simp only [List.length_append, List.length_take, List.length_drop]
          exact small (by show min j vs.length + 1 + _ ≤ _; omega)
        · refine full _ p (st6.trans st7) ?_
          rw [z]
          simpa using e7
        · have st8 := Step.new (o := .tup (vs.take j ++ [v'] ++ vs.drop (j + 1))) st7.box hp5
          refine full _ p5 ((st6.trans st7).trans st8) ?_
          rw [upd_same, List.append_assoc]
    by_cases hj0 : j = 0
    · subst hj0
      refine .inr ⟨p1, p2, [v'], rfl, rfl, SqT.of (by simpa using hp1'), SqT.of upd_same, ?_⟩
      exact third _ p2 (Step.refl st5.box) (by simpa using upd_same) e5
    · refine .inl ⟨p1, p2, vs.take j, [v'], rfl, rfl, SqT.of hp1', SqT.of upd_same, ?_, ?_, (fun z => by simp at z), fun _ p3 hp3 => ?_⟩
      · intro z
        have := congrArg List.length z
        rw [List.length_take] at this
        have : min j vs.length = 0 := this
        omega
      · rw [List.length_take]
        exact small (by show min j vs.length + 1 ≤ _; omega)
      · have st6 := Step.new (o := .tup (vs.take j ++ [v'])) st5.box hp3
        exact third _ p3 st6 upd_same (st6.tups st5.box _ _ e5)
end
end D

set_option Elab.async false
set_option linter.all false
set_option maxRecDepth 100000
set_option maxHeartbeats 4000000
namespace D
open PySem L2
theorem isi_ll : isi "list" "list" = some true := by decide +kernel
def RowsAt (H : Hp) (r : Addr) (rs : Rows) : Prop := ∃ rvs, H r = some (.lst rvs) ∧ RTs H rvs (rs.map prD)
structure Gr (x : PyData × PyData) : Prop where
  ok1 : TB big1 x.1
  d1 : x.1.depth = 0
  c1 : cnt x.1 = 1
  ok2 : TB big1 x.2
  d2 : x.2.depth ≤ 53
  c2 : cnt x.2 ≤ 200
theorem Gr.good {x : PyData × PyData} (h : Gr x) : Good x.2 := ⟨h.ok2.up, Nat.le_trans h.d2 (by decide), Nat.le_trans h.c2 (by decide)⟩
theorem gr_depth : ∀ {rs : Rows}, (∀ x ∈ rs, Gr x) → PyData.depthAll (rs.map prD) ≤ 54
  | [], _ => Nat.zero_le _
  | x :: rs, h => by
    have g := h x (by simp)
    have ih := gr_depth (rs := rs) fun y hy => h y (by simp [hy])
    have := g.d1
    have := g.d2
    simp only [List.map_cons, PyData.depthAll, prD, PyData.depth]
    omega
theorem gr_cnt : ∀ {rs : Rows}, (∀ x ∈ rs, Gr x) → cnts (rs.map prD) ≤ 202 * rs.length
  | [], _ => Nat.zero_le _
  | x :: rs, h => by
    have g := h x (by simp)
    have ih := gr_cnt (rs := rs) fun y hy => h y (by simp [hy])
    have := g.c1
    have := g.c2
    simp only [List.map_cons, cnts, prD, cnt, List.length_cons]
    omega
theorem gr_tok : ∀ {rs : Rows}, (∀ x ∈ rs, Gr x) → TOks (rs.map prD)
  | [], _ => trivial
  | x :: rs, h => by
    have g := h x (by simp)
    exact ⟨⟨g.ok1.up, g.ok2.up, trivial⟩, gr_tok (rs := rs) fun y hy => h y (by simp [hy])⟩
theorem RowsAt.same {H H' : Hp} {r : Addr} {rs : Rows} (h : RowsAt H r rs) (s : Same H H') : RowsAt H' r rs :=
  let ⟨rvs, e, rt⟩ := h; ⟨rvs, s _ _ e, rt.mono (same_tups s)⟩
theorem RowsAt.keep {H H' : Hp} {r : Addr} {rs : Rows} {S : Addr → Prop} (h : RowsAt H r rs) (k : Keep S H H') (hs : ∀ c, S c → ∃ xs, H c = some (.lst xs)) (hr : ¬ S r) : RowsAt H' r rs := by
  obtain ⟨rvs, e, rt⟩ := h
  refine ⟨rvs, k _ _ hr e, rt.mono fun a vs q => k _ _ (fun z => ?_) q⟩
  obtain ⟨xs, q'⟩ := hs a z
  rw [q] at q'
  cases q'
theorem Keep.tups {H H' : Hp} {S : Addr → Prop} (k : Keep S H H') (hs : ∀ c, S c → ∃ xs, H c = some (.lst xs)) : Tups H H' := fun a vs q => k _ _ (fun z => by
  obtain ⟨xs, q'⟩ := hs a z
  rw [q] at q'
  cases q') q
def spRight (AL AS : Addr) : Sp := fun vs H Q _ => ∃ (p l r : Addr) (rs : Rows), vs = [.ref p, .ref r] ∧ ShAt AL AS H p l (rs.map prD) ∧ RowsAt H r rs ∧ (∀ x ∈ rs, Gr x) ∧ rs.length ≤ 300 ∧ ∀ H', Same H H' → Q (.bl true) H'
def spAsked (K : PySem.W.Frag) (AL AS : Addr) : Sp := fun vs H Q _ => ∃ (a p l r : Addr) (ns : List Int) (rs : Rows), vs = [.ref a, .ref p, .ref r] ∧ SqL K H a (ns.map V.int) ∧ ShAt AL AS H p l (rs.map prD) ∧ RowsAt H r rs ∧ (∀ x ∈ rs, Gr x) ∧ rs.length ≤ 300 ∧ ∀ H', Same H H' → Q (.bl true) H'
theorem RowsAt.row {H : Hp} {rvs : List V} {rs : Rows} (rt : RTs H rvs (rs.map prD)) {i : Nat} (hi : i < rs.length) : ∃ t u1 u2, rvs[i]? = some (.ref t) ∧ H t = some (.tup [u1, u2]) ∧ RT H u1 rs[i].1 ∧ RT H u2 rs[i].2 := by
  have l1 := rt.len
  rw [List.length_map] at l1
  have hv : i < rvs.length := by omega
  have ev : rvs[i]? = some rvs[i] := List.getElem?_eq_getElem hv
  have g := rt.at' i _ (prD rs[i]) ev (by rw [List.getElem?_map, List.getElem?_eq_getElem hi]; rfl)
  obtain ⟨t, u1, u2, et, ht, r1, r2⟩ := RT.pair_inv g
  exact ⟨t, u1, u2, by rw [ev, et], ht, r1, r2⟩
theorem lies_mem {rs : Rows} {x : PyData × PyData} (h : x ∈ rs) (ok : TOk x.2) : lies rs x.2 = true := List.any_eq_true.mpr ⟨x, h, alk_refl _ ok⟩
section
variable {P : Program} {w : World} {K : PySem.W.Frag} {mg : Str → Option Value} {base : Heap} {f : Addr} {fd : FuncData} {k : Nat} {ALaid AShelf : Addr}
theorem sc_lright : FnScope ["_law_shelf", "_law_rows", "_law_found"] ["_law_shelf", "_law_rows"] (defScope s_lright) := ⟨rfl, rfl, rfl, by decide +kernel, rfl, by decide +kernel, by decide +kernel⟩
theorem ok_lright (F : Fun K "_law_right" "_law_right" s_lright f fd) (G_lalike : Have P w K mg base "_law_alike" k ["_law_one", "_law_other_here"] (spAlike 66)) (G_Shelf_lying : HaveM P w K mg base AShelf "lying" k ["self"] (spLying ALaid AShelf)) (m_isi : mg "isinstance" = none) (m_list : mg "list" = none) (m_tuple : mg "tuple" = none) : FnOk P w K mg base CX0 (k + 1) f fd ["_law_shelf", "_law_rows"] (spRight ALaid AShelf) := by
  refine F.okQ sc_lright (fun vs H Q E h => ?_) (fun cdv A outer s H vs Q E hr h => ?_)
  · obtain ⟨p, l, r, rs, rfl, _⟩ := h
    rfl
  obtain ⟨p, l, r, rs, rfl, S, R, gr, hl, q⟩ := h
  obtain ⟨dx, hp⟩ := S.ob
  obtain ⟨rvs, er, rt⟩ := id R
  have hdep := gr_depth gr
  have hcnt := gr_cnt gr
  have hal : alk (.tuple (rs.map prD)) (.tuple (rs.map prD)) = true := alk_refl _ (gr_tok gr)
  have hd1 : (PyData.tuple (rs.map prD)).depth < 66 := by simp only [PyData.depth]; omega
  have hc1 : cnt (PyData.tuple (rs.map prD)) ≤ 1000000 := by simp only [cnt]; omega
  refine ⟨_, (pss_cons (ps_set (i := 2) sc_lright.nd rfl (Or.inl rfl) (pe_m0 G_Shelf_lying hr (pv 0)))
    (pss_cons (ps_if (PW.pt (pw_or (pt_not (pt_val (pe_callB call_isi rfl m_isi boot_isi (pa_cons (pv 2) (pa_cons (pe_ty rfl m_list boot_listT) pa_nil))))) (pw_or1 (pt_not (pt_val (pe_fn G_lalike hr rfl (pa_cons (pe_callTy call_tuple_of rfl m_tuple boot_tupleT (pa_cons (pv 1) pa_nil)) (pa_cons (pe_callTy call_tuple_of rfl m_tuple boot_tupleT (pa_cons (pv 2) pa_nil)) pa_nil)))))))) (pss_one (ps_ret pe_bl)) pss_nil)
    (pss_cons (ps_expr (pe_bm0 PySem.F.plainAttrs_list PySem.F.slot_list_clear PySem.F.type_list_clear mt_clear (pv 2)))
    (pss_one (ps_ret (pe_fn G_lalike hr rfl (pa_cons (pe_callTy call_tuple_of rfl m_tuple boot_tupleT (pa_cons (pv 1) pa_nil)) (pa_cons (pe_callTy call_tuple_of rfl m_tuple boot_tupleT (pa_cons (pe_m0 G_Shelf_lying hr (pv 0)) pa_nil)) pa_nil)))))))), ?_⟩
  refine ⟨_, rfl, p, dx, _, rfl, hp, fS_no _ (by decide +kernel), p, l, rs.map prD, rfl, S, by rw [List.length_map]; omega, fun g gvs H1 hg s1 eg lg rg => ?_⟩
  have rg : RTs H1 gvs (rs.map prD) := ⟨lg, rg⟩
  refine ⟨_, rfl, _, _, _, _, rfl, .lst eg, isi_ll, _, rfl, iteF ?_⟩
  refine ⟨_, rfl, r, rvs, rfl, .inl ⟨SqL.of (s1 _ _ er), fun t1 ht1 => ?_⟩⟩
  have s2 := Same.new (o := .tup rvs) ht1
  refine ⟨_, rfl, g, gvs, rfl, .inl ⟨SqL.of (s2 _ _ eg), fun t2 ht2 => ?_⟩⟩
  have s3 := Same.new (o := .tup gvs) ht2
  have s23 := s2.trans s3
  refine ⟨.ref t1, .ref t2, _, _, rfl, ((rt.mono (same_tups s1)).mono (same_tups s23)).tup (s3 _ _ upd_same), (rg.mono (same_tups s23)).tup upd_same, hd1, hc1, fun H4 s4 => ?_⟩
  rw [hal]
  refine ⟨_, rfl, iteF ?_⟩
  have s14 := s23.trans s4
  have sA := s1.trans s14
  refine ⟨_, rfl, .inl ⟨rfl, _, SqL.of (s14 _ _ eg)⟩, g, _, rfl, rfl, s14 _ _ eg, ?_⟩
  have s5 : Same H (upd H4 g (.lst [])) := fun c o e => by
    rw [upd_ne (ne_of_none e hg)]
    exact sA _ _ e
  generalize upd H4 g (.lst []) = H5 at s5
  refine ⟨_, rfl, r, rvs, rfl, .inl ⟨SqL.of (s5 _ _ er), fun t3 ht3 => ?_⟩⟩
  have s6 := Same.new (o := .tup rvs) ht3
  have s56 := s5.trans s6
  refine ⟨_, rfl, p, dx, _, rfl, s56 _ _ hp, fS_no _ (by decide +kernel), p, l, rs.map prD, rfl, S.same s56, by rw [List.length_map]; omega, fun g2 gvs2 H7 hg2 s7 eg2 lg2 rg2 => ?_⟩
  have rg2 : RTs H7 gvs2 (rs.map prD) := ⟨lg2, rg2⟩
  refine ⟨g2, gvs2, rfl, .inl ⟨SqL.of eg2, fun t4 ht4 => ?_⟩⟩
  have s8 := Same.new (o := .tup gvs2) ht4
  refine ⟨.ref t3, .ref t4, _, _, rfl, ((rt.mono (same_tups s56)).mono (same_tups (s7.trans s8))).tup ((s7.trans s8) _ _ upd_same), (rg2.mono (same_tups s8)).tup upd_same, hd1, hc1, fun H9 s9 => ?_⟩
  rw [hal]
  exact q _ (((s56.trans s7).trans s8).trans s9)
theorem sc_lasked : FnScope ["_law_script", "_law_shelf", "_law_rows", "_law_k", "_law_box_here", "_law_other_here"] ["_law_script", "_law_shelf", "_law_rows"] (defScope s_lasked) := ⟨rfl, rfl, rfl, by decide +kernel, rfl, by decide +kernel, by decide +kernel⟩
theorem ok_lasked (F : Fun K "_law_asked" "_law_asked" s_lasked f fd) (G_ltells : Have P w K mg base "_law_tells" k ["_law_found", "_law_due"] (spTells)) (G_llies : Have P w K mg base "_law_lies" k ["_law_rows", "_law_thing_here"] (spLies)) (G_Shelf_has : HaveM P w K mg base AShelf "has" k ["self", "paper"] (spHas ALaid AShelf)) (G_lother : Have P w K mg base "_law_other" k ["_law_box_here", "_law_thing_here"] (spOther 64)) (G_lbox : Have P w K mg base "_law_box" k ["_law_script", "_law_k"] (spBox K)) (m_len : mg "len" = none) (m_min : mg "min" = none) (m_range : mg "range" = none) : FnOk P w K mg base CX0 (k + 1) f fd ["_law_script", "_law_shelf", "_law_rows"] (spAsked K ALaid AShelf) := by
  refine F.okQ sc_lasked (fun vs H Q E h => ?_) (fun cdv A outer s H vs Q E hr h => ?_)
  · obtain ⟨a, p, l, r, ns, rs, rfl, _⟩ := h
    rfl
  obtain ⟨a, p, l, r, ns, rs, rfl, hS, S, R, gr, hl, q⟩ := h
  obtain ⟨dx, hp⟩ := S.ob
  obtain ⟨rvs, er, rt⟩ := id R
  have l1 := rt.len
  rw [List.length_map] at l1
  refine ⟨_, (pss_cons (ps_for PassesOwn.never rfl (pi_range1 rfl m_range (pa_cons (pe_callB (call_min2 rfl) rfl m_min PyProof.Rows.boot_min (pa_cons pe_int (pa_cons (pe_callB call_len rfl m_len PySem.boot_len (pa_cons (pv 2) pa_nil)) pa_nil))) pa_nil)) (pg_name (i := 3) sc_lasked.nd rfl (Or.inl rfl)) (pss_cons (ps_set (i := 4) sc_lasked.nd rfl (Or.inl rfl) (pe_fn G_lbox hr rfl (pa_cons (pv 0) (pa_cons (pe_op op_add pe_int (pv 3)) pa_nil))))
    (pss_cons (ps_set (i := 5) sc_lasked.nd rfl (Or.inl rfl) (pe_fn G_lother hr rfl (pa_cons (pv 4) (pa_cons (pe_ix ix_seq (pe_ix ix_list (pv 2) (pv 3) (fun _ _ => rfl)) pe_int (fun _ _ => rfl)) pa_nil))))
    (pss_one (ps_if (PW.pt (pw_or (pt_not (pt_val (pe_fn G_ltells hr rfl (pa_cons (pe_m G_Shelf_has hr (pv 1) (pa_cons (pe_ix ix_seq (pe_ix ix_list (pv 2) (pv 3) (fun _ _ => rfl)) pe_int (fun _ _ => rfl)) pa_nil)) (pa_cons pe_bl pa_nil))))) (pw_or1 (pt_not (pt_val (pe_fn G_ltells hr rfl (pa_cons (pe_m G_Shelf_has hr (pv 1) (pa_cons (pv 5) pa_nil)) (pa_cons (pe_fn G_llies hr rfl (pa_cons (pv 2) (pa_cons (pv 5) pa_nil))) pa_nil)))))))) (pss_one (ps_ret pe_bl)) pss_nil)))))
    (pss_one (ps_ret (pe_and (pe_fn G_ltells hr rfl (pa_cons (pe_m G_Shelf_has hr (pv 1) (pa_cons (pe_tup pa_nil) pa_nil)) (pa_cons (pe_fn G_llies hr rfl (pa_cons (pv 2) (pa_cons (pe_tup pa_nil) pa_nil))) pa_nil))) (pe_one (pe_fn G_ltells hr rfl (pa_cons (pe_m G_Shelf_has hr (pv 1) (pa_cons pe_int pa_nil)) (pa_cons (pe_fn G_llies hr rfl (pa_cons (pv 2) (pa_cons pe_int pa_nil))) pa_nil)))))))), ?_⟩
  refine ⟨_, rfl, _, _, rfl, .inl ⟨_, SqL.of er, rfl⟩, _, _, rfl, ?_⟩
  generalize hN : (if ((rvs.length : Nat) : Int) < 20 then ((rvs.length : Nat) : Int) else 20) = N
  have hN0 : 0 ≤ N ∧ N ≤ rvs.length := by rw [← hN]; split <;> omega
  have hz : rvs.length < 1000 := by omega
  refine ⟨N, rfl, by omega, by omega, for_range (n := N.toNat) (fun i σ' H' => ∃ o3 o4 o5 : Option V, σ' = [some (.ref a), some (.ref p), some (.ref r), o3, o4, o5] ∧ Same H H')
    ⟨none, none, none, rfl, Same.refl _⟩ (fun i σ' H1 hi h => ?_) (fun σ' H1 h => ?_)⟩
  · obtain ⟨o3, o4, o5, rfl, s1⟩ := h
    have hi' : i < rs.length := by omega
    refine ⟨_, rfl, _, rfl, _, _, rfl, rfl, a, ns, _, rfl, s1.seq hS, by omega, fun x f m bp hbp => ?_⟩
    have s2 := s1.trans (Same.new (o := .lst [.int x, .int f, .int m]) hbp)
    have hbp0 : H bp = none := s1.free hbp
    have bx : IsBox (upd H1 bp (.lst [.int x, .int f, .int m])) bp := ⟨x, f, m, upd_same⟩
    generalize upd H1 bp (.lst [.int x, .int f, .int m]) = H2 at s2 bx
    obtain ⟨t, u1, u2, et, ht, r1, r2⟩ := RowsAt.row rt hi'
    have g := gr _ (List.getElem_mem hi')
    have hat : atI rvs (0 + (i : Int)) = some (.ref t) := by
      rw [Int.zero_add]
      exact atI_nat et
    refine ⟨_, rfl, _, rfl, _, rfl, r, rvs, _, _, rfl, rfl, SqL.of (s2 _ _ er), hat, .inr (.inl ⟨t, _, 1, u2, rfl, rfl, SqT.of (s2 _ _ ht), atI_nat (j := 1) rfl, ?_⟩)⟩
    refine ⟨bp, u2, rs[i].2, rfl, bx, r2.mono (same_tups s2), Nat.lt_of_le_of_lt g.d2 (by decide), g.ok2, Nat.le_trans g.c2 (by decide), fun v' d' H3 rv' ok' dp' ct' st3 => ?_⟩
    have s3 : Same H H3 := fun c o e => st3.keep c o (ne_of_none e hbp0) (s2 _ _ e)
    have good' : Good d' := ⟨ok', by have := g.d2; omega, by have := g.c2; omega⟩
    -- tells(has(rows[k][1]), True)
    refine ⟨_, rfl, p, dx, _, rfl, s3 _ _ hp, fS_no _ (by decide +kernel), _, rfl, _, rfl, r, rvs, _, _, rfl, rfl, SqL.of (s3 _ _ er), hat, .inr (.inl ⟨t, _, 1, u2, rfl, rfl, SqT.of (s3 _ _ ht), atI_nat (j := 1) rfl, ?_⟩)⟩
    refine ⟨p, l, u2, rs, rs[i].2, rfl, S.same s3, r2.mono (same_tups s3), g.good, by omega, fun y hy => (gr y hy).good, fun H4 s4 => ?_⟩
    rw [lies_mem (List.getElem_mem hi') g.ok2.up]
    refine ⟨true, rfl, _, rfl, iteF ?_⟩
    have s34 := s3.trans s4
    refine ⟨_, rfl, p, dx, _, rfl, s34 _ _ hp, fS_no _ (by decide +kernel), _, rfl, p, l, v', rs, d', rfl, S.same s34, rv'.mono (same_tups s4), good', by omega, fun y hy => (gr y hy).good, fun H5 s5 => ?_⟩
    have s35 := s34.trans s5
    refine ⟨_, rfl, _, rfl, r, rvs, rs, v', d', rfl, s35 _ _ er, rt.mono (same_tups s35), (rv'.mono (same_tups s4)).mono (same_tups s5), fun y hy => (gr y hy).good, by omega, fun H6 s6 => ?_⟩
    exact ⟨lies rs d', rfl, _, rfl, iteF ⟨_, _, _, rfl, s35.trans s6⟩⟩
  · obtain ⟨o3, o4, o5, rfl, s1⟩ := h
    have g0 : Good (.tuple []) := ⟨trivial, by decide, by decide⟩
    have gi : Good (.int 0) := ⟨(by show Int.natAbs 0 < 10 ^ 121; decide +kernel), by decide, by decide⟩
    have nil : ∀ {Hx : Hp} {c : Addr}, Hx c = some (.tup []) → RT Hx (.ref c) (.tuple []) := fun {Hx c} e => .tup e rfl fun i v d h => by simp at h
    refine ⟨_, rfl, p, dx, _, rfl, s1 _ _ hp, fS_no _ (by decide +kernel), (by show 0 ≤ sizeLine; decide), fun t1 ht1 => ?_⟩
    have s2 := s1.trans (Same.new (o := .tup []) ht1)
    refine ⟨p, l, _, rs, .tuple [], rfl, S.same s2, nil upd_same, g0, by omega, fun y hy => (gr y hy).good, fun H3 s3 => ?_⟩
    have s23 := s2.trans s3
    refine ⟨_, rfl, (by show 0 ≤ sizeLine; decide), fun t2 ht2 => ?_⟩
    have s4 := s23.trans (Same.new (o := .tup []) ht2)
    refine ⟨r, rvs, rs, _, .tuple [], rfl, s4 _ _ er, rt.mono (same_tups s4), nil upd_same, fun y hy => (gr y hy).good, by omega, fun H5 s5 => ?_⟩
    refine ⟨_, rfl, _, rfl, iteT ?_⟩
    have s45 := s4.trans s5
    refine ⟨_, rfl, p, dx, _, rfl, s45 _ _ hp, fS_no _ (by decide +kernel), p, l, .int 0, rs, .int 0, rfl, S.same s45, .int 0, gi, by omega, fun y hy => (gr y hy).good, fun H6 s6 => ?_⟩
    have s46 := s45.trans s6
    refine ⟨_, rfl, r, rvs, rs, .int 0, .int 0, rfl, s46 _ _ er, rt.mono (same_tups s46), .int 0, fun y hy => (gr y hy).good, by omega, fun H7 s7 => ?_⟩
    exact ⟨_, rfl, q _ (s46.trans s7)⟩
end
end D

set_option Elab.async false
set_option linter.all false
set_option maxRecDepth 100000
set_option maxHeartbeats 4000000
namespace D
open PySem L2
def spOften (AL AS : Addr) : Sp := fun vs H Q _ => ∃ (b p l r : Addr) (rs : Rows), vs = [.ref b, .ref p, .ref r] ∧ IsBox H b ∧ ShAt AL AS H p l (rs.map prD) ∧ RowsAt H r rs ∧ b ≠ l ∧ b ≠ r ∧ l ≠ r ∧ (∀ x ∈ rs, Gr x) ∧ rs.length ≤ 30 ∧
  ∀ (rs' : Rows) (H' : Hp), IsBox H' b → ShAt AL AS H' p l (rs'.map prD) → RowsAt H' r rs' → (∀ x ∈ rs', Gr x) → rs'.length ≤ 300 → Keep (fun c => c = b ∨ c = l ∨ c = r) H H' → Q (.bl true) H'
theorem IsBox.same {H H' : Hp} {b : Addr} (h : IsBox H b) (s : Same H H') : IsBox H' b := let ⟨x, y, z, e⟩ := h; ⟨x, y, z, s _ _ e⟩
theorem Keep.trans {S : Addr → Prop} {H H1 H2 : Hp} (a : Keep S H H1) (b : Keep S H1 H2) : Keep S H H2 := fun c o n e => b c o n (a c o n e)
theorem Keep.sub {S T : Addr → Prop} {H H1 : Hp} (a : Keep S H H1) (h : ∀ c, S c → T c) : Keep T H H1 := fun c o n e => a c o (fun z => n (h c z)) e
theorem Keep.ofSame {S : Addr → Prop} {H H1 : Hp} (s : Same H H1) : Keep S H H1 := fun c o _ e => s c o e
/-- a row is laid, and put behind the rows: what is so then -/
theorem laid_more {AL AS : Addr} {H1 H2 : Hp} {p l r t : Addr} {rs : Rows} {x : PyData × PyData} {rvs : List V} (er : H1 r = some (.lst rvs)) (rt : RTs H1 rvs (rs.map prD)) (hlr : l ≠ r) (el : ∃ xs, H1 l = some (.lst xs))
    (S2 : ShAt AL AS H2 p l (rs.map prD ++ [prD x])) (k2 : Keep (fun c => c = l) H1 H2) (rx : RT H1 (.ref t) (prD x)) :
    H2 r = some (.lst rvs) ∧ ShAt AL AS (upd H2 r (.lst (rvs ++ [.ref t]))) p l ((rs ++ [x]).map prD) ∧ RowsAt (upd H2 r (.lst (rvs ++ [.ref t]))) r (rs ++ [x]) ∧ Keep (fun c => c = l ∨ c = r) H1 (upd H2 r (.lst (rvs ++ [.ref t]))) := by
  have e2 : H2 r = some (.lst rvs) := k2 r _ (fun z => hlr z.symm) er
  have t2 : Tups H1 H2 := k2.tups fun c z => z ▸ el
  have k3 : Keep (fun c => c = r) H2 (upd H2 r (.lst (rvs ++ [.ref t]))) := fun c o n e => by rw [upd_ne n]; exact e
  have hr3 : ∀ c, c = r → ∃ xs, H2 c = some (.lst xs) := fun c z => z ▸ ⟨_, e2⟩
  have t3 := k3.tups hr3
  refine ⟨e2, ?_, ⟨_, upd_same, ?_⟩, fun c o n e => k3 c o (fun z => n (.inr z)) (k2 c o (fun z => n (.inl z)) e)⟩
  · rw [List.map_append]
    exact S2.keep k3 hr3 hlr
  · rw [List.map_append]
    exact ((rt.mono t2).mono t3).snoc ((rx.mono t2).mono t3)
def oneD (n : Int) : PyData := .tuple [.str "one", .int n]
theorem tok_str {x : Str} (h1 : x.length ≤ 2000) (h2 : ∀ c ∈ x.cps.toList, c < 200) : TB big1 (.str x) := ⟨h1, h2⟩
theorem tok_one {n : Int} (h0 : 0 ≤ n) (h1 : n ≤ 1000) : TB big1 (oneD n) := ⟨tok_str (by decide +kernel) (by decide +kernel), (by show n.natAbs < 10 ^ 120 + 1; omega), trivial⟩
theorem good_one {n : Int} (h0 : 0 ≤ n) (h1 : n ≤ 1000) : Good (oneD n) := ⟨(tok_one h0 h1).up, by show 1 ≤ 60; decide, by show 3 ≤ 400; decide⟩
section
variable {P : Program} {w : World} {K : PySem.W.Frag} {mg : Str → Option Value} {base : Heap} {f : Addr} {fd : FuncData} {k : Nat} {ALaid AShelf : Addr}
theorem sc_llaid_often : FnScope ["_law_box_here", "_law_shelf", "_law_rows", "_law_at", "_law_k", "_law_row", "_law_other_here"] ["_law_box_here", "_law_shelf", "_law_rows"] (defScope s_llaid_often) := ⟨rfl, rfl, rfl, by decide +kernel, rfl, by decide +kernel, by decide +kernel⟩
theorem ok_llaid_often (F : Fun K "_law_laid_often" "_law_laid_often" s_llaid_often f fd) (G_ltells : Have P w K mg base "_law_tells" k ["_law_found", "_law_due"] (spTells)) (G_llies : Have P w K mg base "_law_lies" k ["_law_rows", "_law_thing_here"] (spLies)) (G_Shelf_has : HaveM P w K mg base AShelf "has" k ["self", "paper"] (spHas ALaid AShelf)) (G_Shelf_lay : HaveM P w K mg base AShelf "lay" k ["self", "who", "paper"] (spLay ALaid AShelf)) (G_ltake : Have P w K mg base "_law_take" k ["_law_box_here", "_law_wide"] (spTake)) (m_range : mg "range" = none) : FnOk P w K mg base CX0 (k + 1) f fd ["_law_box_here", "_law_shelf", "_law_rows"] (spOften ALaid AShelf) := by
  refine F.okQ sc_llaid_often (fun vs H Q E h => ?_) (fun cdv A outer s H vs Q E hr h => ?_)
  · obtain ⟨b, p, l, r, rs, rfl, _⟩ := h
    rfl
  obtain ⟨b, p, l, r, rs, rfl, hb, S, R, nbl, nbr, nlr, gr, hl, q⟩ := h
  obtain ⟨dx, hp⟩ := S.ob
  refine ⟨_, (pss_cons (ps_set (i := 3) sc_llaid_often.nd rfl (Or.inl rfl) (pe_fn G_ltake hr rfl (pa_cons (pv 0) (pa_cons pe_int pa_nil))))
    (pss_cons (ps_for PassesOwn.never rfl (pi_range1 rfl m_range (pa_cons pe_int pa_nil)) (pg_name (i := 4) sc_llaid_often.nd rfl (Or.inl rfl)) (pss_cons (ps_set (i := 5) sc_llaid_often.nd rfl (Or.inl rfl) (pe_tup (pa_cons pe_str (pa_cons (pe_tup (pa_cons (pe_op op_mod (pv 4) pe_int) (pa_cons pe_str pa_nil))) pa_nil))))
    (pss_cons (ps_if (pt_cmpR op_eq (pv 4) (pv 3) (nomark _)) (pss_one (ps_set (i := 5) sc_llaid_often.nd rfl (Or.inl rfl) (pe_tup (pa_cons pe_str (pa_cons (pe_tup (pa_cons pe_str (pa_cons (pv 3) pa_nil))) pa_nil))))) pss_nil)
    (pss_cons (ps_expr (pe_m G_Shelf_lay hr (pv 1) (pa_cons (pe_ix ix_tup (pv 5) pe_int (fun _ _ => rfl)) (pa_cons (pe_ix ix_tup (pv 5) pe_int (fun _ _ => rfl)) pa_nil))))
    (pss_one (ps_expr (pe_bm PySem.F.plainAttrs_list PySem.F.slot_list_append PySem.F.type_list_append mt_append (pv 2) (pa_cons (pv 5) pa_nil))))))))
    (pss_cons (ps_set (i := 6) sc_llaid_often.nd rfl (Or.inl rfl) (pe_tup (pa_cons pe_str (pa_cons (pe_op op_add (pv 3) pe_int) pa_nil))))
    (pss_one (ps_ret (pe_and (pe_m G_Shelf_has hr (pv 1) (pa_cons (pe_tup (pa_cons pe_str (pa_cons (pv 3) pa_nil))) pa_nil)) (pe_one (pe_fn G_ltells hr rfl (pa_cons (pe_m G_Shelf_has hr (pv 1) (pa_cons (pv 6) pa_nil)) (pa_cons (pe_fn G_llies hr rfl (pa_cons (pv 2) (pa_cons (pv 6) pa_nil))) pa_nil)))))))))), ?_⟩
  refine ⟨_, rfl, b, 200, rfl, hb, by decide, by decide, fun at1 H1 a0 a1 st1 => ?_⟩
  have isL : ∀ {Hx : Hp}, IsBox Hx b → ∀ c, c = b → ∃ xs, Hx c = some (.lst xs) := fun {Hx} h c z => let ⟨x, y, zz, e⟩ := h; ⟨_, z ▸ e⟩
  have k1 : Keep (fun c => c = b) H H1 := fun c o n e => st1.keep c o n e
  refine ⟨200, rfl, by decide, by decide, for_range (n := 200) (fun i σ' H' => ∃ (o4 o5 : Option V) (rs' : Rows), σ' = [some (.ref b), some (.ref p), some (.ref r), some (.int at1), o4, o5, none] ∧ IsBox H' b ∧ ShAt ALaid AShelf H' p l (rs'.map prD) ∧ RowsAt H' r rs' ∧
      (∀ x ∈ rs', Gr x) ∧ rs'.length = rs.length + i ∧ Keep (fun c => c = b ∨ c = l ∨ c = r) H H' ∧ (at1 < i → (PyData.str "once", oneD at1) ∈ rs'))
    ⟨none, none, rs, rfl, st1.box, S.keep k1 (isL hb) (fun z => nbl z.symm), R.keep k1 (isL hb) (fun z => nbr z.symm), gr, rfl, k1.sub (fun c z => .inl z), fun z => by omega⟩ (fun i σ' H2 hi h => ?_) (fun σ' H2 h => ?_)⟩
  · obtain ⟨o4, o5, rs', rfl, hb2, S2, R2, gr2, hl2, kp2, mem2⟩ := h
    refine ⟨_, rfl, _, _, rfl, rfl, (by show (0 : Int) < 5; decide), (by show 2 ≤ sizeLine; decide), fun t1 ht1 => ⟨(by show 2 ≤ sizeLine; decide), fun t2 ht2 => ?_⟩⟩
    have s3 := (Same.new (o := .tup [.int ((0 + (i : Int)) % 5), .str ""]) ht1).trans (Same.new (o := .tup [.str "often", .ref t1]) ht2)
    have n21 : t1 ≠ t2 := ne_of_none (upd_same (H := H2) (a := t1) (o := .tup [.int ((0 + (i : Int)) % 5), .str ""])) ht2
    have rr : RT (upd (upd H2 t1 (.tup [.int ((0 + (i : Int)) % 5), .str ""])) t2 (.tup [.str "often", .ref t1])) (.ref t2) (prD (.str "often", .tuple [.int ((0 + (i : Int)) % 5), .str ""])) :=
      RT.pair upd_same (.str _) (RT.pair (by rw [upd_ne n21]; exact upd_same) (.int _) (.str _))
    have ee : upd (upd H2 t1 (.tup [.int ((0 + (i : Int)) % 5), .str ""])) t2 (.tup [.str "often", .ref t1]) t2 = some (.tup [.str "often", .ref t1]) := upd_same
    have gx : Gr (.str "often", .tuple [.int ((0 + (i : Int)) % 5), .str ""]) := ⟨tok_str (by decide +kernel) (by decide +kernel), rfl, rfl, ⟨(by show Int.natAbs _ < 10 ^ 120 + 1; omega), tok_str (by decide +kernel) (by decide +kernel), trivial⟩, (by show 1 ≤ 53; decide), (by show 3 ≤ 200; decide)⟩
    generalize upd (upd H2 t1 (.tup [.int ((0 + (i : Int)) % 5), .str ""])) t2 (.tup [.str "often", .ref t1]) = H3 at s3 rr ee
    -- what a turn does with its row
    have turn : ∀ (H4 : Hp) (t : Addr) (u v : V) (x : PyData × PyData), Same H2 H4 → H4 t = some (.tup [u, v]) → RT H4 u x.1 → RT H4 v x.2 → Gr x → (at1 = i → x = (PyData.str "once", oneD at1)) →
        spLay ALaid AShelf [.ref p, u, v] H4 (fun y H5 => y = .non ∧ ∃ rvs, H5 r = some (.lst rvs) ∧ rvs.length < 1000 ∧ ∃ rs'' : Rows, rs''.length = rs.length + (i + 1) ∧ (∀ x ∈ rs'', Gr x) ∧ (at1 < ((i + 1 : Nat) : Int) → (PyData.str "once", oneD at1) ∈ rs'') ∧ IsBox (upd H5 r (.lst (rvs ++ [.ref t]))) b ∧
          ShAt ALaid AShelf (upd H5 r (.lst (rvs ++ [.ref t]))) p l (rs''.map prD) ∧ RowsAt (upd H5 r (.lst (rvs ++ [.ref t]))) r rs'' ∧ Keep (fun c => c = b ∨ c = l ∨ c = r) H (upd H5 r (.lst (rvs ++ [.ref t])))) E0 := fun H4 t u v x s4 et ru rv gx hx => by
      obtain ⟨rvs, er, rt⟩ := R2.same s4
      have lr := rt.len
      rw [List.length_map] at lr
      refine ⟨p, l, u, v, rs'.map prD, x.1, x.2, rfl, S2.same s4, ru, rv, by rw [List.length_map]; omega, fun H5 S5 k5 => ⟨rfl, ?_⟩⟩
      have el : ∃ xs, H4 l = some (.lst xs) := let ⟨zs, e, _⟩ := (S2.same s4).li; ⟨_, e⟩
      obtain ⟨e5, S6, R6, k6⟩ := laid_more er rt nlr el S5 k5 (RT.pair et ru rv)
      refine ⟨rvs, e5, by omega, rs' ++ [x], by simp [hl2]; omega, fun y hy => ?_, fun hlt => ?_, ?_, S6, R6, ?_⟩
      · rcases List.mem_append.mp hy with hy | hy
        · exact gr2 y hy
        · rw [List.mem_singleton.mp hy]; exact gx
      · by_cases hc : at1 = i
        · rw [hx hc]; simp
        · exact List.mem_append_left _ (mem2 (by omega))
      · obtain ⟨bx, by', bz, eb⟩ := hb2.same s4
        exact ⟨bx, by', bz, k6 b _ (fun z => by rcases z with z | z; exact nbl z; exact nbr z) eb⟩
      · exact kp2.trans ((Keep.ofSame s4).trans (k6.sub fun c z => .inr z))
    have hp2 : ∀ {Hx : Hp}, Same H2 Hx → ∃ dx, Hx p = some (.ins AShelf dx (fS l)) := fun {Hx} s => (S2.same s).ob
    refine ⟨_, rfl, _, rfl, rfl, _, rfl, ite2 (fun c => ?_) (fun c => ?_)⟩
    · have c : 0 + (i : Int) = at1 := V.int.inj (of_decide_eq_true c)
      refine ⟨_, rfl, (by show 2 ≤ sizeLine; decide), fun t3 ht3 => ⟨(by show 2 ≤ sizeLine; decide), fun t4 ht4 => ?_⟩⟩
      have s5 := (Same.new (o := .tup [.str "one", .int at1]) ht3).trans (Same.new (o := .tup [.str "once", .ref t3]) ht4)
      have n43 : t3 ≠ t4 := ne_of_none (upd_same (H := H3) (a := t3) (o := .tup [.str "one", .int at1])) ht4
      have r1 : RT (upd (upd H3 t3 (.tup [.str "one", .int at1])) t4 (.tup [.str "once", .ref t3])) (.ref t3) (oneD at1) := RT.pair (by rw [upd_ne n43]; exact upd_same) (.str _) (.int _)
      have e4 : upd (upd H3 t3 (.tup [.str "one", .int at1])) t4 (.tup [.str "once", .ref t3]) t4 = some (.tup [.str "once", .ref t3]) := upd_same
      generalize upd (upd H3 t3 (.tup [.str "one", .int at1])) t4 (.tup [.str "once", .ref t3]) = H4 at s5 r1 e4
      obtain ⟨dy, hp4⟩ := hp2 (s3.trans s5)
      have g1 : Gr (PyData.str "once", oneD at1) := ⟨tok_str (by decide +kernel) (by decide +kernel), rfl, rfl, tok_one a0 (by omega), (by show 1 ≤ 53; decide), (by show 3 ≤ 200; decide)⟩
      refine ⟨_, rfl, p, dy, _, rfl, hp4, fS_no _ (by decide +kernel), _, rfl, t4, _, 0, .str "once", rfl, rfl, SqT.of e4, atI_nat (j := 0) rfl, _, rfl, t4, _, 1, .ref t3, rfl, rfl, SqT.of e4, atI_nat (j := 1) rfl, ?_⟩
      obtain ⟨p0, l0, u0, v0, ds0, a0', b0', z1, z2, z3, z4, z5, z6⟩ := turn H4 t4 _ _ _ (s3.trans s5) e4 (.str _) r1 g1 (fun _ => rfl)
      refine ⟨p0, l0, u0, v0, ds0, a0', b0', z1, z2, z3, z4, z5, fun H' S' k' => ?_⟩
      obtain ⟨_, rvs, e5, lr, rs'', y1, y2, y3, y4, y5, y6, y7⟩ := z6 H' S' k'
      exact ⟨_, rfl, .inl ⟨rfl, _, SqL.of e5⟩, _, rfl, r, rvs, _, rfl, rfl, e5, small1000 (Nat.le_of_lt lr), _, _, rs'', rfl, y4, y5, y6, y2, y1, y7, y3⟩
    · have c : ¬ 0 + (i : Int) = at1 := fun z => c (by rw [z]; exact decide_eq_true rfl)
      obtain ⟨dy, hp4⟩ := hp2 s3
      obtain ⟨aa, u1, u2, ea, hh, ru, rv⟩ := RT.pair_inv rr
      cases ea
      rw [ee] at hh
      cases hh
      refine ⟨_, rfl, p, dy, _, rfl, hp4, fS_no _ (by decide +kernel), _, rfl, t2, _, 0, .str "often", rfl, rfl, SqT.of ee, atI_nat (j := 0) rfl, _, rfl, t2, _, 1, .ref t1, rfl, rfl, SqT.of ee, atI_nat (j := 1) rfl, ?_⟩
      obtain ⟨p0, l0, u0, v0, ds0, a0', b0', z1, z2, z3, z4, z5, z6⟩ := turn H3 t2 _ _ _ s3 ee ru rv gx (fun z => absurd (by omega) c)
      refine ⟨p0, l0, u0, v0, ds0, a0', b0', z1, z2, z3, z4, z5, fun H' S' k' => ?_⟩
      obtain ⟨_, rvs, e5, lr, rs'', y1, y2, y3, y4, y5, y6, y7⟩ := z6 H' S' k'
      exact ⟨_, rfl, .inl ⟨rfl, _, SqL.of e5⟩, _, rfl, r, rvs, _, rfl, rfl, e5, small1000 (Nat.le_of_lt lr), _, _, rs'', rfl, y4, y5, y6, y2, y1, y7, y3⟩
  · obtain ⟨o4, o5, rs', rfl, hb2, S2, R2, gr2, hl2, kp2, mem2⟩ := h
    have mem := mem2 (by omega)
    refine ⟨_, rfl, _, _, rfl, rfl, (by show 2 ≤ sizeLine; decide), fun t1 ht1 => ?_⟩
    have s3 := Same.new (o := .tup [.str "one", .int (at1 + 1)]) ht1
    have r3 : RT (upd H2 t1 (.tup [.str "one", .int (at1 + 1)])) (.ref t1) (oneD (at1 + 1)) := RT.pair upd_same (.str _) (.int _)
    generalize upd H2 t1 (.tup [.str "one", .int (at1 + 1)]) = H3 at s3 r3
    obtain ⟨dy, hp3⟩ := (S2.same s3).ob
    refine ⟨_, rfl, p, dy, _, rfl, hp3, fS_no _ (by decide +kernel), _, rfl, (by show 2 ≤ sizeLine; decide), fun t2 ht2 => ?_⟩
    have s4 := s3.trans (Same.new (o := .tup [.str "one", .int at1]) ht2)
    have r4 : RT (upd H3 t2 (.tup [.str "one", .int at1])) (.ref t2) (oneD at1) := RT.pair upd_same (.str _) (.int _)
    have r34 := r3.mono (same_tups (Same.new (o := .tup [.str "one", .int at1]) ht2))
    refine ⟨p, l, _, rs', oneD at1, rfl, S2.same s4, r4, good_one a0 (by omega), by omega, fun y hy => (gr2 y hy).good, fun H5 s5 => ?_⟩
    rw [show lies rs' (oneD at1) = true from lies_mem mem (tok_one a0 (by omega)).up]
    refine ⟨_, rfl, iteT ?_⟩
    have s45 := s4.trans s5
    obtain ⟨dz, hp5⟩ := (S2.same s45).ob
    have g6 : Good (oneD (at1 + 1)) := good_one (by omega) (by omega)
    refine ⟨_, rfl, p, dz, _, rfl, hp5, fS_no _ (by decide +kernel), _, rfl, p, l, _, rs', oneD (at1 + 1), rfl, S2.same s45, r34.mono (same_tups s5), g6, by omega, fun y hy => (gr2 y hy).good, fun H6 s6 => ?_⟩
    have s46 := s45.trans s6
    obtain ⟨rvs, er, rt⟩ := R2.same s46
    refine ⟨_, rfl, _, rfl, r, rvs, rs', _, oneD (at1 + 1), rfl, er, rt, (r34.mono (same_tups s5)).mono (same_tups s6), fun y hy => (gr2 y hy).good, by omega, fun H7 s7 => ⟨_, rfl, ?_⟩⟩
    have s47 := s46.trans s7
    exact q rs' _ (hb2.same s47) (S2.same s47) (R2.same s47) gr2 (by omega) (kp2.trans (Keep.ofSame s47))
end
end D

set_option Elab.async false
set_option linter.all false
set_option maxRecDepth 100000
set_option maxHeartbeats 4000000
namespace D
open PySem L2
/-- the law's state: two shelves, two lists of rows, the box -/
structure St5 (AL AS : Addr) (H0 H : Hp) (b p l r p' l' r' : Addr) (rs rs' : Rows) : Prop where
  s0 : Same H0 H
  n0 : ∀ c ∈ [b, l, r, l', r'], H0 c = none
  nd : [b, l, r, l', r'].Nodup
  bx : IsBox H b
  S1 : ShAt AL AS H p l (rs.map prD)
  R1 : RowsAt H r rs
  S2 : ShAt AL AS H p' l' (rs'.map prD)
  R2 : RowsAt H r' rs'
  g1 : ∀ x ∈ rs, Gr x
  g2 : ∀ x ∈ rs', Gr x
section
variable {AL AS : Addr} {H0 H H1 : Hp} {b p l r p' l' r' p2 l2 r2 : Addr} {rs rs' rs2 : Rows}
theorem St5.same (h : St5 AL AS H0 H b p l r p' l' r' rs rs') (s : Same H H1) : St5 AL AS H0 H1 b p l r p' l' r' rs rs' :=
  ⟨h.s0.trans s, h.n0, h.nd, h.bx.same s, h.S1.same s, h.R1.same s, h.S2.same s, h.R2.same s, h.g1, h.g2⟩
theorem St5.ne (h : St5 AL AS H0 H b p l r p' l' r' rs rs') : (b ≠ l ∧ b ≠ r ∧ b ≠ l' ∧ b ≠ r') ∧ (l ≠ r ∧ l ≠ l' ∧ l ≠ r') ∧ (r ≠ l' ∧ r ≠ r') ∧ l' ≠ r' := by
  have := h.nd
  simp only [List.nodup_cons, List.mem_cons, List.not_mem_nil, or_false, not_or, not_false_eq_true, List.nodup_nil, and_true] at this
  exact this
theorem St5.lists (h : St5 AL AS H0 H b p l r p' l' r' rs rs') : (∃ xs, H b = some (.lst xs)) ∧ (∃ xs, H l = some (.lst xs)) ∧ (∃ xs, H r = some (.lst xs)) := by
  obtain ⟨x, y, z, e⟩ := h.bx
  obtain ⟨zs, e2, _⟩ := h.S1.li
  obtain ⟨rvs, e3, _⟩ := h.R1
  exact ⟨⟨_, e⟩, ⟨_, e2⟩, ⟨_, e3⟩⟩
theorem St5.step (h : St5 AL AS H0 H b p l r p' l' r' rs rs') (st : Step b H H1) : St5 AL AS H0 H1 b p l r p' l' r' rs rs' := by
  obtain ⟨⟨n1, n2, n3, n4⟩, _⟩ := h.ne
  have k : Keep (fun c => c = b) H H1 := fun c o n e => st.keep c o n e
  have hs : ∀ c, c = b → ∃ xs, H c = some (.lst xs) := fun c z => z ▸ h.lists.1
  have hb0 : H0 b = none := h.n0 b (by simp)
  exact ⟨fun c o e => st.keep c o (ne_of_none e hb0) (h.s0 c o e), h.n0, h.nd, st.box, h.S1.keep k hs (fun z => n1 z.symm), h.R1.keep k hs (fun z => n2 z.symm), h.S2.keep k hs (fun z => n3 z.symm), h.R2.keep k hs (fun z => n4 z.symm), h.g1, h.g2⟩
/-- the box, the first shelf and its rows have changed -/
theorem St5.more (h : St5 AL AS H0 H b p l r p' l' r' rs rs') (k : Keep (fun c => c = b ∨ c = l ∨ c = r) H H1) (bx : IsBox H1 b) (S : ShAt AL AS H1 p l (rs2.map prD)) (R : RowsAt H1 r rs2) (g : ∀ x ∈ rs2, Gr x) : St5 AL AS H0 H1 b p l r p' l' r' rs2 rs' := by
  obtain ⟨⟨n1, n2, n3, n4⟩, ⟨n5, n6, n7⟩, ⟨n8, n9⟩, n10⟩ := h.ne
  obtain ⟨e1, e2, e3⟩ := h.lists
  have hs : ∀ c, (c = b ∨ c = l ∨ c = r) → ∃ xs, H c = some (.lst xs) := fun c z => by
    rcases z with z | z | z
    · exact z ▸ e1
    · exact z ▸ e2
    · exact z ▸ e3
  refine ⟨fun c o e => k c o (fun z => ?_) (h.s0 c o e), h.n0, h.nd, bx, S, R, h.S2.keep k hs ?_, h.R2.keep k hs ?_, g, h.g2⟩
  · rcases z with z | z | z
    · exact ne_of_none e (h.n0 b (by simp)) z
    · exact ne_of_none e (h.n0 l (by simp)) z
    · exact ne_of_none e (h.n0 r (by simp)) z
  · rintro (z | z | z)
    · exact n3 z.symm
    · exact n6 z.symm
    · exact n8 z.symm
  · rintro (z | z | z)
    · exact n4 z.symm
    · exact n7 z.symm
    · exact n9 z.symm
/-- another second shelf, other second rows -/
theorem St5.fresh (h : St5 AL AS H0 H b p l r p' l' r' rs rs') (s : Same H H1) (S : ShAt AL AS H1 p2 l2 (rs2.map prD)) (R : RowsAt H1 r2 rs2) (hl : H l2 = none) (hr : H r2 = none) (nn : l2 ≠ r2) (g : ∀ x ∈ rs2, Gr x) : St5 AL AS H0 H1 b p l r p2 l2 r2 rs rs2 := by
  obtain ⟨⟨n1, n2, n3, n4⟩, ⟨n5, n6, n7⟩, _⟩ := h.ne
  obtain ⟨⟨_, e1⟩, ⟨_, e2⟩, ⟨_, e3⟩⟩ := h.lists
  refine ⟨h.s0.trans s, fun c hc => ?_, ?_, h.bx.same s, h.S1.same s, h.R1.same s, S, R, h.g1, g⟩
  · simp only [List.mem_cons, List.not_mem_nil, or_false] at hc
    rcases hc with z | z | z | z | z
    · exact h.n0 c (by simp [z])
    · exact h.n0 c (by simp [z])
    · exact h.n0 c (by simp [z])
    · rw [z]; exact h.s0.free hl
    · rw [z]; exact h.s0.free hr
  · simp only [List.nodup_cons, List.mem_cons, List.not_mem_nil, or_false, not_or, not_false_eq_true, List.nodup_nil, and_true]
    exact ⟨⟨n1, n2, ne_of_none e1 hl, ne_of_none e1 hr⟩, ⟨n5, ne_of_none e2 hl, ne_of_none e2 hr⟩, ⟨ne_of_none e3 hl, ne_of_none e3 hr⟩, nn⟩
end
theorem split_nx {c : Prop} [Decidable c] {A : Prop} {R : St → Hp → Prop} {σ : St} {H : Hp} (I2 : St → Hp → Prop) (hR : ∀ σ' H', I2 σ' H' → R σ' H') (h1 : c → (∀ σ' H', I2 σ' H' → R σ' H') → A) (h2 : ¬ c → I2 σ H) : if c then A else R σ H :=
  ite2 (fun z => h1 z hR) (fun z => hR _ _ (h2 z))
def spLaw (K : PySem.W.Frag) : Sp := fun vs H Q _ => ∃ (a : Addr) (ns : List Int), vs = [.ref a] ∧ SqL K H a (ns.map V.int) ∧ ns.length ≤ 63 ∧ ∀ H', Q (.bl true) H'
section
variable {P : Program} {w : World} {K : PySem.W.Frag} {mg : Str → Option Value} {base : Heap} {f : Addr} {fd : FuncData} {k : Nat} {ALaid AShelf : Addr}
theorem sc_law : FnScope ["_law_script", "_law_box_here", "_law_total", "_law_at", "_law_shelf", "_law_other_here", "_law_rows", "_law_others", "_law_k", "_law_deed", "_law_row"] ["_law_script"] (defScope sLaw) := ⟨rfl, rfl, rfl, by decide +kernel, rfl, by decide +kernel, by decide +kernel⟩
theorem ok_law (F : Fun K "law" "law" sLaw f fd) (G_lright : Have P w K mg base "_law_right" k ["_law_shelf", "_law_rows"] (spRight ALaid AShelf)) (G_lasked : Have P w K mg base "_law_asked" k ["_law_script", "_law_shelf", "_law_rows"] (spAsked K ALaid AShelf)) (G_llaid_often : Have P w K mg base "_law_laid_often" k ["_law_box_here", "_law_shelf", "_law_rows"] (spOften ALaid AShelf)) (G_ltake : Have P w K mg base "_law_take" k ["_law_box_here", "_law_wide"] (spTake)) (G_Shelf_lay : HaveM P w K mg base AShelf "lay" k ["self", "who", "paper"] (spLay ALaid AShelf)) (G_llaid : Have P w K mg base "_law_laid" k ["_law_box_here"] (spLaid)) (G_ltext : Have P w K mg base "_law_text" k ["_law_box_here", "_law_most"] (spText)) (G_lbox : Have P w K mg base "_law_box" k ["_law_script", "_law_k"] (spBox K)) (G_Shelf_copy : HaveM P w K mg base AShelf "copy" k ["self"] (spCopy ALaid AShelf)) (G_Shelf___init__ : HaveC P w K mg base AShelf "Shelf" k ["self"] (spShelfI AShelf)) (m_len : mg "len" = none) (m_list : mg "list" = none) (m_range : mg "range" = none) : FnOk P w K mg base CX0 (k + 1) f fd ["_law_script"] (spLaw K) := by
  refine F.okQ sc_law (fun vs H Q E h => ?_) (fun cdv A outer s H vs Q E hr h => ?_)
  · obtain ⟨a, ns, rfl, _⟩ := h
    rfl
  obtain ⟨a, ns, rfl, hS, hns, q⟩ := h
  refine ⟨_, (pss_cons (ps_set (i := 1) sc_law.nd rfl (Or.inl rfl) (pe_fn G_lbox hr rfl (pa_cons (pv 0) (pa_cons pe_int pa_nil))))
    (pss_cons (ps_set (i := 2) sc_law.nd rfl (Or.inl rfl) (pe_fn G_ltake hr rfl (pa_cons (pv 1) (pa_cons pe_int pa_nil))))
    (pss_cons (ps_set (i := 3) sc_law.nd rfl (Or.inl rfl) (pe_fn G_ltake hr rfl (pa_cons (pv 1) (pa_cons (pe_op op_add (pv 2) pe_int) pa_nil))))
    (pss_cons (ps_set (i := 4) sc_law.nd rfl (Or.inl rfl) (pe_new0 G_Shelf___init__ hr rfl))
    (pss_cons (ps_set (i := 5) sc_law.nd rfl (Or.inl rfl) (pe_m0 G_Shelf_copy hr (pv 4)))
    (pss_cons (ps_set (i := 6) sc_law.nd rfl (Or.inl rfl) (pe_lst pa_nil))
    (pss_cons (ps_set (i := 7) sc_law.nd rfl (Or.inl rfl) (pe_lst pa_nil))
    (pss_cons (ps_for PassesOwn.never rfl (pi_range1 rfl m_range (pa_cons (pv 2) pa_nil)) (pg_name (i := 8) sc_law.nd rfl (Or.inl rfl)) (pss_cons (ps_if (pt_cmpR op_eq (pv 8) (pv 3) (nomark _)) (pss_cons (ps_set (i := 5) sc_law.nd rfl (Or.inl rfl) (pe_m0 G_Shelf_copy hr (pv 4)))
    (pss_cons (ps_set (i := 7) sc_law.nd rfl (Or.inl rfl) (pe_callTy call_list_of rfl m_list boot_listT (pa_cons (pv 6) pa_nil)))
    (pss_cons (ps_expr (pe_m G_Shelf_lay hr (pv 5) (pa_cons pe_str (pa_cons (pe_tup (pa_cons (pv 8) (pa_cons pe_bl pa_nil))) pa_nil))))
    (pss_one (ps_expr (pe_bm PySem.F.plainAttrs_list PySem.F.slot_list_append PySem.F.type_list_append mt_append (pv 7) (pa_cons (pe_tup (pa_cons pe_str (pa_cons (pe_tup (pa_cons (pv 8) (pa_cons pe_bl pa_nil))) pa_nil))) pa_nil))))))) pss_nil)
    (pss_cons (ps_set (i := 9) sc_law.nd rfl (Or.inl rfl) (pe_fn G_lbox hr rfl (pa_cons (pv 0) (pa_cons (pe_op op_add pe_int (pv 8)) pa_nil))))
    (pss_cons (ps_set (i := 10) sc_law.nd rfl (Or.inl rfl) (pe_tup (pa_cons (pe_fn G_ltext hr rfl (pa_cons (pv 9) (pa_cons pe_int pa_nil))) (pa_cons (pe_fn G_llaid hr rfl (pa_cons (pv 9) pa_nil)) pa_nil))))
    (pss_cons (ps_if (PW.pt (pw_and (pt_cmpR (op_neE (Nat.lt_of_le_of_lt (Nat.le_add_right _ 64) hr.units)) (pv 6) (pe_lst pa_nil) (nomark _)) (pw_and1 (pt_cmpR op_eq (pe_fn G_ltake hr rfl (pa_cons (pv 9) (pa_cons pe_int pa_nil))) pe_int (nomark _))))) (pss_one (ps_set (i := 10) sc_law.nd rfl (Or.inl rfl) (pe_tup (pa_cons (pe_ix ix_tup (pv 10) pe_int (fun _ _ => rfl)) (pa_cons (pe_ix ix_seq (pe_ix ix_list (pv 6) (pe_fn G_ltake hr rfl (pa_cons (pv 9) (pa_cons (pe_callB call_len rfl m_len PySem.boot_len (pa_cons (pv 6) pa_nil)) pa_nil))) (fun _ _ => rfl)) pe_int (fun _ _ => rfl)) pa_nil))))) pss_nil)
    (pss_cons (ps_expr (pe_m G_Shelf_lay hr (pv 4) (pa_cons (pe_ix ix_tup (pv 10) pe_int (fun _ _ => rfl)) (pa_cons (pe_ix ix_tup (pv 10) pe_int (fun _ _ => rfl)) pa_nil))))
    (pss_one (ps_expr (pe_bm PySem.F.plainAttrs_list PySem.F.slot_list_append PySem.F.type_list_append mt_append (pv 6) (pa_cons (pv 10) pa_nil))))))))))
    (pss_cons (ps_if (PW.pt (pw_and (pt_cmpR op_eq (pe_fn G_ltake hr rfl (pa_cons (pv 1) (pa_cons pe_int pa_nil))) pe_int (nomark _)) (pw_and1 (pt_not (pt_val (pe_fn G_llaid_often hr rfl (pa_cons (pv 1) (pa_cons (pv 4) (pa_cons (pv 6) pa_nil))))))))) (pss_one (ps_ret pe_bl)) pss_nil)
    (pss_cons (ps_if (PW.pt (pw_or (pt_not (pt_val (pe_fn G_lright hr rfl (pa_cons (pv 4) (pa_cons (pv 6) pa_nil))))) (pw_or1 (pt_not (pt_val (pe_fn G_lright hr rfl (pa_cons (pv 5) (pa_cons (pv 7) pa_nil)))))))) (pss_one (ps_ret pe_bl)) pss_nil)
    (pss_one (ps_ret (pe_and (pe_fn G_lasked hr rfl (pa_cons (pv 0) (pa_cons (pv 4) (pa_cons (pv 6) pa_nil)))) (pe_and (pe_fn G_lasked hr rfl (pa_cons (pv 0) (pa_cons (pv 5) (pa_cons (pv 7) pa_nil)))) (pe_one (pe_fn G_lright hr rfl (pa_cons (pv 4) (pa_cons (pv 6) pa_nil)))))))))))))))))), ?_⟩
  refine ⟨_, rfl, a, ns, 1, rfl, hS, by decide, fun x0 f0 m0 b hb => ?_⟩
  have s1 := Same.new (o := .lst [.int x0, .int f0, .int m0]) hb
  have bx1 : IsBox (upd H b (.lst [.int x0, .int f0, .int m0])) b := ⟨x0, f0, m0, upd_same⟩
  generalize upd H b (.lst [.int x0, .int f0, .int m0]) = H1 at s1 bx1
  refine ⟨_, rfl, b, 21, rfl, bx1, by decide, by decide, fun total H2 t0 t1 st2 => ?_⟩
  refine ⟨_, rfl, _, rfl, _, _, rfl, rfl, b, _, rfl, st2.box, by omega, by omega, fun at1 H3 a0 a1 st3 => ?_⟩
  have s3 : Same H H3 := fun c o e => st3.keep c o (ne_of_none e hb) (st2.keep c o (ne_of_none e hb) (s1 c o e))
  obtain ⟨bx, by', bz, eb3⟩ := st3.box
  -- the two shelves, the two lists
  refine fun p dx nx ndx nex => ⟨p, dx, rfl, upd_same, fun l hl => ⟨rfl, ?_⟩⟩
  have nlp : l ≠ p := by
    intro z
    rw [z, upd_same] at hl
    cases hl
  have s4a : Same H3 (upd (upd H3 dx (.own p)) p (.ins AShelf dx [])) := fun c o e => by
    rw [upd_ne (ne_of_none e nx), upd_ne (ne_of_none e ndx)]
    exact e
  have s4 : Same H3 (upd (upd (upd (upd H3 dx (.own p)) p (.ins AShelf dx [])) l (.lst [])) p (.ins AShelf dx (fS l))) := fun c o e => by
    rw [upd_ne (ne_of_none e nx), upd_ne (ne_of_none (s4a _ _ e) hl)]
    exact s4a _ _ e
  have S4 : ShAt ALaid AShelf (upd (upd (upd (upd H3 dx (.own p)) p (.ins AShelf dx [])) l (.lst [])) p (.ins AShelf dx (fS l))) p l [] := ⟨⟨dx, upd_same⟩, [], by rw [upd_ne nlp, upd_same]; rfl, rfl, fun i z d h => by simp at h⟩
  have hl3 : H3 l = none := s4a.free hl
  generalize upd (upd (upd (upd H3 dx (.own p)) p (.ins AShelf dx [])) l (.lst [])) p (.ins AShelf dx (fS l)) = H4 at s4 S4
  obtain ⟨dy4, hp4⟩ := S4.ob
  have el4 : H4 l = some (.lst []) := by
    obtain ⟨zs, e, ll, _⟩ := S4.li
    have : zs = [] := List.eq_nil_of_length_eq_zero ll
    rw [this] at e
    exact e
  refine ⟨_, rfl, p, dy4, _, rfl, hp4, fS_no _ (by decide +kernel), p, l, [], rfl, S4, Nat.zero_le _, fun p' l' H5 hp' hl' s5 S5 => ?_⟩
  refine ⟨(by show 0 ≤ sizeLine; decide), fun r hr => ?_⟩
  have s6 := Same.new (o := .lst []) hr
  have er6 : upd H5 r (.lst []) r = some (.lst []) := upd_same
  generalize upd H5 r (.lst []) = H6 at s6 er6
  refine ⟨(by show 0 ≤ sizeLine; decide), fun r' hr' => ?_⟩
  have s7 := Same.new (o := .lst []) hr'
  have er7 : upd H6 r' (.lst []) r' = some (.lst []) := upd_same
  generalize upd H6 r' (.lst []) = H7 at s7 er7
  have nil : ∀ {Hx : Hp}, RTs Hx [] (([] : Rows).map prD) := fun {Hx} => ⟨rfl, fun i v d h => by simp at h⟩
  have st7 : St5 ALaid AShelf H H7 b p l r p' l' r' [] [] := by
    have s37 : Same H3 H7 := ((s4.trans s5).trans s6).trans s7
    have el7 : ∃ xs, H5 l' = some (.lst xs) := let ⟨zs, e, _⟩ := S5.li; ⟨_, e⟩
    obtain ⟨xl, el5⟩ := el7
    have fr5 : H3 l' = none := s4.free hl'
    have fr6 : H4 r = none := s5.free hr
    have fr7 : H5 r' = none := s6.free hr'
    refine ⟨s3.trans s37, fun c hc => ?_, ?_, ⟨bx, by', bz, s37 _ _ eb3⟩, S4.same ((s5.trans s6).trans s7), ⟨[], s7 _ _ er6, nil⟩, S5.same (s6.trans s7), ⟨[], er7, nil⟩, fun x hx => by simp at hx, fun x hx => by simp at hx⟩
    · simp only [List.mem_cons, List.not_mem_nil, or_false] at hc
      rcases hc with z | z | z | z | z
      · rw [z]; exact hb
      · rw [z]; exact s3.free hl3
      · rw [z]; exact s3.free (s4.free fr6)
      · rw [z]; exact s3.free fr5
      · rw [z]; exact s3.free (s4.free (s5.free fr7))
    · simp only [List.nodup_cons, List.mem_cons, List.not_mem_nil, or_false, not_or, not_false_eq_true, List.nodup_nil, and_true]
      exact ⟨⟨ne_of_none eb3 hl3, ne_of_none (s4 _ _ eb3) fr6, ne_of_none eb3 fr5, ne_of_none (s4 _ _ eb3) (s5.free fr7)⟩, ⟨ne_of_none el4 fr6, ne_of_none el4 hl', ne_of_none el4 (s5.free fr7)⟩, ⟨(ne_of_none el5 hr).symm, ne_of_none er6 hr'⟩, ne_of_none el5 fr7⟩
  refine ⟨_, rfl, total, rfl, by omega, by omega, for_range (n := total.toNat) (fun i σ' H' => ∃ (p' l' r' : Addr) (rs rs' : Rows) (o8 o9 o10 : Option V), σ' = [some (.ref a), some (.ref b), some (.int total), some (.int at1), some (.ref p), some (.ref p'), some (.ref r), some (.ref r'), o8, o9, o10] ∧
      St5 ALaid AShelf H H' b p l r p' l' r' rs rs' ∧ rs.length = i ∧ rs'.length ≤ 22) ⟨p', l', r', [], [], none, none, none, rfl, st7, rfl, by decide⟩ (fun i σ' H8 hi h => ?_) (fun σ' H8 h => ?_)⟩
  · obtain ⟨p', l', r', rs, rs', o8, o9, o10, rfl, st8, hl8, hl8'⟩ := h
    refine ⟨_, rfl, _, rfl, rfl, _, rfl, split_nx (fun σ'' H'' => ∃ (p' l' r' : Addr) (rs' : Rows), σ'' = [some (.ref a), some (.ref b), some (.int total), some (.int at1), some (.ref p), some (.ref p'), some (.ref r), some (.ref r'), some (.int (0 + (i : Int))), o9, o10] ∧
      St5 ALaid AShelf H H'' b p l r p' l' r' rs rs' ∧ rs'.length ≤ 22) (fun σ'' H9 h9 => ?_) (fun c go => ?_) (fun c => ⟨p', l', r', rs', rfl, st8, hl8'⟩)⟩
    · obtain ⟨p', l', r', rs', rfl, st9, hl'⟩ := h9
      refine ⟨_, rfl, _, rfl, _, _, rfl, rfl, a, ns, _, rfl, st9.s0.seq hS, by omega, fun x1 f1 m1 d hd => ?_⟩
      have s10 := Same.new (o := .lst [.int x1, .int f1, .int m1]) hd
      have bd : IsBox (upd H9 d (.lst [.int x1, .int f1, .int m1])) d := ⟨x1, f1, m1, upd_same⟩
      generalize upd H9 d (.lst [.int x1, .int f1, .int m1]) = H10 at s10 bd
      refine ⟨_, rfl, d, 15, rfl, bd, by decide, by decide, fun tx H11 ltx stx st11 => ?_⟩
      refine ⟨_, rfl, d, rfl, st11.box, fun v t H12 rt tb dp ct st12 => ⟨(by show 2 ≤ sizeLine; decide), fun t1 ht1 => ?_⟩⟩
      have s12 : Same H9 H12 := fun c o e => st12.keep c o (ne_of_none e hd) (st11.keep c o (ne_of_none e hd) (s10 c o e))
      have s13 := Same.new (o := .tup [.str tx, v]) ht1
      have sA := s12.trans s13
      have rt13 := rt.mono (same_tups s13)
      have et13 : upd H12 t1 (.tup [.str tx, v]) t1 = some (.tup [.str tx, v]) := upd_same
      have bd13 := st12.box.same s13
      have gx : Gr (.str tx, t) := ⟨txt_ok (by omega) stx, rfl, rfl, tb, dp, ct⟩
      generalize upd H12 t1 (.tup [.str tx, v]) = H13 at s13 sA rt13 et13 bd13
      have turn : ∀ (H4 : Hp) (t : Addr) (u v : V) (x : PyData × PyData), Same H9 H4 → H4 t = some (.tup [u, v]) → RT H4 u x.1 → RT H4 v x.2 → Gr x →
          spLay ALaid AShelf [.ref p, u, v] H4 (fun y H5 => y = .non ∧ ∃ rvs, H5 r = some (.lst rvs) ∧ rvs.length < 1000 ∧ ∃ rs'' : Rows, rs''.length = i + 1 ∧ St5 ALaid AShelf H (upd H5 r (.lst (rvs ++ [.ref t]))) b p l r p' l' r' rs'' rs') E0 := fun H4 t u v x s4 et ru rv gx => by
        have st4 := st9.same s4
        obtain ⟨⟨n1, n2, n3, n4⟩, ⟨n5, n6, n7⟩, _⟩ := st4.ne
        obtain ⟨rvs, er, rt⟩ := id st4.R1
        have lr := rt.len
        rw [List.length_map] at lr
        refine ⟨p, l, u, v, rs.map prD, x.1, x.2, rfl, st4.S1, ru, rv, by rw [List.length_map]; omega, fun H5 S5 k5 => ⟨rfl, ?_⟩⟩
        obtain ⟨e5, S6, R6, k6⟩ := laid_more er rt n5 st4.lists.2.1 S5 k5 (RT.pair et ru rv)
        refine ⟨rvs, e5, by omega, rs ++ [x], by simp [hl8], st4.more (k6.sub fun c z => .inr z) ?_ S6 R6 fun y hy => ?_⟩
        · obtain ⟨bx, by', bz, eb⟩ := st4.bx
          exact ⟨bx, by', bz, k6 b _ (fun z => by rcases z with z | z; exact n1 z; exact n2 z) eb⟩
        · rcases List.mem_append.mp hy with hy | hy
          · exact st4.g1 y hy
          · rw [List.mem_singleton.mp hy]; exact gx
      refine ⟨_, rfl, (by show 0 ≤ sizeLine; decide), fun e0 he0 => ?_⟩
      have s14 := Same.new (o := .lst []) he0
      have sB := sA.trans s14
      have ee0 : upd H13 e0 (.lst []) e0 = some (.lst []) := upd_same
      have et14 := s14 _ _ et13
      have rt14 := rt13.mono (same_tups s14)
      have bd14 := bd13.same s14
      generalize upd H13 e0 (.lst []) = H14 at s14 sB ee0 et14 rt14 bd14
      have st14 := st9.same sB
      obtain ⟨rvs, er, rts⟩ := id st14.R1
      have lr := rts.len
      rw [List.length_map] at lr
      refine ⟨r, e0, rvs, rfl, rfl, SqL.of er, SqL.of ee0, _, rfl, ?_⟩
      obtain ⟨dy, hp14⟩ := st14.S1.ob
      cases hemp : rvs with
      | nil =>
        refine iteF (iteF ?_)
        rw [hemp] at er
        refine ⟨_, rfl, p, dy, _, rfl, hp14, fS_no _ (by decide +kernel), _, rfl, t1, _, 0, _, rfl, rfl, SqT.of et14, atI_nat (j := 0) rfl, _, rfl, t1, _, 1, _, rfl, rfl, SqT.of et14, atI_nat (j := 1) rfl, ?_⟩
        obtain ⟨p0, l0, u0, v0, ds0, a0', b0', z1, z2, z3, z4, z5, z6⟩ := turn _ t1 _ _ (.str tx, t) sB et14 (.str _) rt14 gx
        refine ⟨p0, l0, u0, v0, ds0, a0', b0', z1, z2, z3, z4, z5, fun H' S' k' => ?_⟩
        obtain ⟨_, rvs9, e9, lr9, rs9, y1, St9⟩ := z6 H' S' k'
        exact ⟨_, rfl, .inl ⟨rfl, _, SqL.of e9⟩, _, rfl, r, rvs9, _, rfl, rfl, e9, small1000 (Nat.le_of_lt lr9), p', l', r', rs9, rs', _, _, _, rfl, St9, y1, hl'⟩
      | cons w0 ws =>
        rw [hemp] at er
        refine iteT ?_
        refine ⟨_, rfl, d, 6, rfl, bd14, by decide, by decide, fun g H15 g0 g1 st15 => ?_⟩
        have s15 : Same H9 H15 := fun c o e => st15.keep c o (ne_of_none e hd) (sB c o e)
        have t15 := st15.tups bd14
        have et15 := t15 _ _ et14
        have rt15 := rt14.mono t15
        have st15' := st9.same s15
        obtain ⟨dy, hp15⟩ := st15'.S1.ob
        refine ⟨rfl, _, rfl, ite2 (fun c6 => ?_) (fun c6 => ?_)⟩
        · obtain ⟨rvs5, er5, rts5⟩ := id st15'.R1
          have lr5 := rts5.len
          rw [List.length_map] at lr5
          have hpos : 0 < rs.length := by
            have : rvs.length = (w0 :: ws).length := by rw [hemp]
            rw [List.length_cons] at this
            omega
          refine ⟨_, rfl, t1, _, 0, .str tx, rfl, rfl, SqT.of et15, atI_nat (j := 0) rfl, _, rfl, _, rfl, _, rfl, _, _, rfl, .inl ⟨_, SqL.of er5, rfl⟩, d, _, rfl, st15.box, by omega, by omega, fun j H16 j0 j1 st16 => ?_⟩
          have s16 : Same H9 H16 := fun c o e => st16.keep c o (ne_of_none e hd) (s15 c o e)
          obtain ⟨jn, rfl⟩ : ∃ jn : Nat, j = (jn : Int) := ⟨j.toNat, by omega⟩
          have hj : jn < rs.length := by omega
          obtain ⟨t5, u1, u2, e5, h5, r1, r2⟩ := RowsAt.row rts5 hj
          have s56 : Tups H15 H16 := st16.tups st15.box
          have er6 : H16 r = some (.lst rvs5) := by
            have hdr : r ≠ d := by
              obtain ⟨rv9, er9, _⟩ := st9.R1
              exact ne_of_none er9 hd
            exact st16.keep r _ hdr er5
          refine ⟨r, rvs5, _, _, rfl, rfl, SqL.of er6, atI_nat e5, .inr (.inl ⟨t5, _, 1, u2, rfl, rfl, SqT.of (s56 _ _ h5), atI_nat (j := 1) rfl, (by show 2 ≤ sizeLine; decide), fun t6 ht6 => ?_⟩)⟩
          have s17 := Same.new (o := .tup [.str tx, u2]) ht6
          have sD := s16.trans s17
          have r17 := (r2.mono s56).mono (same_tups s17)
          have e17 : upd H16 t6 (.tup [.str tx, u2]) t6 = some (.tup [.str tx, u2]) := upd_same
          generalize upd H16 t6 (.tup [.str tx, u2]) = H17 at s17 sD r17 e17
          have gj := st9.g1 _ (List.getElem_mem hj)
          have gx2 : Gr (.str tx, rs[jn].2) := ⟨gx.ok1, rfl, rfl, gj.ok2, gj.d2, gj.c2⟩
          obtain ⟨dy, hp17⟩ := (st9.same sD).S1.ob
          refine ⟨_, rfl, p, dy, _, rfl, hp17, fS_no _ (by decide +kernel), _, rfl, t6, _, 0, _, rfl, rfl, SqT.of e17, atI_nat (j := 0) rfl, _, rfl, t6, _, 1, _, rfl, rfl, SqT.of e17, atI_nat (j := 1) rfl, ?_⟩
          obtain ⟨p0, l0, u0, v0, ds0, a0', b0', z1, z2, z3, z4, z5, z6⟩ := turn _ t6 _ _ (.str tx, rs[jn].2) sD e17 (.str _) r17 gx2
          refine ⟨p0, l0, u0, v0, ds0, a0', b0', z1, z2, z3, z4, z5, fun H' S' k' => ?_⟩
          obtain ⟨_, rvs9, e9, lr9, rs9, y1, St9⟩ := z6 H' S' k'
          exact ⟨_, rfl, .inl ⟨rfl, _, SqL.of e9⟩, _, rfl, r, rvs9, _, rfl, rfl, e9, small1000 (Nat.le_of_lt lr9), p', l', r', rs9, rs', _, _, _, rfl, St9, y1, hl'⟩
        · refine ⟨_, rfl, p, dy, _, rfl, hp15, fS_no _ (by decide +kernel), _, rfl, t1, _, 0, _, rfl, rfl, SqT.of et15, atI_nat (j := 0) rfl, _, rfl, t1, _, 1, _, rfl, rfl, SqT.of et15, atI_nat (j := 1) rfl, ?_⟩
          obtain ⟨p0, l0, u0, v0, ds0, a0', b0', z1, z2, z3, z4, z5, z6⟩ := turn _ t1 _ _ (.str tx, t) s15 et15 (.str _) rt15 gx
          refine ⟨p0, l0, u0, v0, ds0, a0', b0', z1, z2, z3, z4, z5, fun H' S' k' => ?_⟩
          obtain ⟨_, rvs9, e9, lr9, rs9, y1, St9⟩ := z6 H' S' k'
          exact ⟨_, rfl, .inl ⟨rfl, _, SqL.of e9⟩, _, rfl, r, rvs9, _, rfl, rfl, e9, small1000 (Nat.le_of_lt lr9), p', l', r', rs9, rs', _, _, _, rfl, St9, y1, hl'⟩
    · -- k == at: the second shelf is a copy
      obtain ⟨dy8, hp8⟩ := st8.S1.ob
      refine ⟨_, rfl, p, dy8, _, rfl, hp8, fS_no _ (by decide +kernel), p, l, rs.map prD, rfl, st8.S1, by rw [List.length_map]; omega, fun p2 l2 H9 hp2 hl2 s9 S9 => ?_⟩
      obtain ⟨rvs, er, rts⟩ := st8.R1.same s9
      have lr := rts.len
      rw [List.length_map] at lr
      refine ⟨_, rfl, r, rvs, rfl, .inl (SqL.of er), fun r2 hr2 => ?_⟩
      have s10 := Same.new (o := .lst rvs) hr2
      have e10 : upd H9 r2 (.lst rvs) r2 = some (.lst rvs) := upd_same
      have hr28 : H8 r2 = none := s9.free hr2
      obtain ⟨xs2, el9⟩ : ∃ xs, H9 l2 = some (.lst xs) := let ⟨zs, e, _⟩ := S9.li; ⟨_, e⟩
      have n22 : l2 ≠ r2 := ne_of_none el9 hr2
      generalize upd H9 r2 (.lst rvs) = H10 at s10 e10
      have S10 := S9.same s10
      obtain ⟨dz, hp10⟩ := S10.ob
      refine ⟨_, rfl, p2, dz, _, rfl, hp10, fS_no _ (by decide +kernel), _, rfl, (by show 2 ≤ sizeLine; decide), fun t1 ht1 => ?_⟩
      have s11 := Same.new (o := .tup [.int (0 + (i : Int)), .bl true]) ht1
      have r11 : RT (upd H10 t1 (.tup [.int (0 + (i : Int)), .bl true])) (.ref t1) (.tuple [.int (0 + (i : Int)), .bool true]) := RT.pair upd_same (.int _) (.bl _)
      generalize upd H10 t1 (.tup [.int (0 + (i : Int)), .bl true]) = H11 at s11 r11
      refine ⟨p2, l2, .str "a", _, rs.map prD, .str "a", _, rfl, S10.same s11, .str _, r11, by rw [List.length_map]; omega, fun H12 S12 k12 => ?_⟩
      have gx : Gr (PyData.str "a", PyData.tuple [.int (0 + (i : Int)), .bool true]) := ⟨tok_str (by decide +kernel) (by decide +kernel), rfl, rfl, ⟨(by show Int.natAbs _ < 10 ^ 120 + 1; omega), trivial, trivial⟩, (by show 1 ≤ 53; decide), (by show 3 ≤ 200; decide)⟩
      have el11 : H11 l2 = some (.lst xs2) := s11 _ _ (s10 _ _ el9)
      have t12 : Tups H11 H12 := k12.tups fun c z => z ▸ ⟨_, el11⟩
      have e12 : H12 r2 = some (.lst rvs) := k12 r2 _ (fun z => n22 z.symm) (s11 _ _ e10)
      have rt12 : RTs H12 rvs (rs.map prD) := ((rts.mono (same_tups s10)).mono (same_tups s11)).mono t12
      have s812 : Same H8 H12 := fun c o e => k12 c o (fun z => ne_of_none e hl2 z) (s11 _ _ (s10 _ _ (s9 _ _ e)))
      refine ⟨_, rfl, .inl ⟨rfl, _, SqL.of e12⟩, _, rfl, (by show 2 ≤ sizeLine; decide), fun t2 ht2 => ⟨(by show 2 ≤ sizeLine; decide), fun t3 ht3 => ?_⟩⟩
      have s13 := (Same.new (o := .tup [.int (0 + (i : Int)), .bl true]) ht2).trans (Same.new (o := .tup [.str "a", .ref t2]) ht3)
      have n23 : t2 ≠ t3 := ne_of_none (upd_same (H := H12) (a := t2) (o := .tup [.int (0 + (i : Int)), .bl true])) ht3
      have r13 : RT (upd (upd H12 t2 (.tup [.int (0 + (i : Int)), .bl true])) t3 (.tup [.str "a", .ref t2])) (.ref t3) (prD (.str "a", .tuple [.int (0 + (i : Int)), .bool true])) :=
        RT.pair upd_same (.str _) (RT.pair (by rw [upd_ne n23]; exact upd_same) (.int _) (.bl _))
      generalize upd (upd H12 t2 (.tup [.int (0 + (i : Int)), .bl true])) t3 (.tup [.str "a", .ref t2]) = H13 at s13 r13
      refine ⟨r2, rvs, _, rfl, rfl, s13 _ _ e12, small1000 (by omega), ?_⟩
      have k14 : Keep (fun c => c = r2) H13 (upd H13 r2 (.lst (rvs ++ [.ref t3]))) := fun c o n e => by rw [upd_ne n]; exact e
      have h14 : ∀ c, c = r2 → ∃ xs, H13 c = some (.lst xs) := fun c z => z ▸ ⟨_, s13 _ _ e12⟩
      have t14 := k14.tups h14
      have S14 : ShAt ALaid AShelf (upd H13 r2 (.lst (rvs ++ [.ref t3]))) p2 l2 ((rs ++ [(PyData.str "a", PyData.tuple [.int (0 + (i : Int)), .bool true])]).map prD) := by
        rw [List.map_append]
        exact (S12.same s13).keep k14 h14 n22
      have R14 : RowsAt (upd H13 r2 (.lst (rvs ++ [.ref t3]))) r2 (rs ++ [(PyData.str "a", PyData.tuple [.int (0 + (i : Int)), .bool true])]) := by
        refine ⟨_, upd_same, ?_⟩
        rw [List.map_append]
        exact ((rt12.mono (same_tups s13)).mono t14).snoc (r13.mono t14)
      have s814 : Same H8 (upd H13 r2 (.lst (rvs ++ [.ref t3]))) := fun c o e => k14 c o (fun z => ne_of_none e hr28 z) (s13 _ _ (s812 _ _ e))
      refine go _ _ ⟨p2, l2, r2, _, rfl, st8.fresh s814 S14 R14 hl2 hr28 n22 fun y hy => ?_, by simp; omega⟩
      rcases List.mem_append.mp hy with hy | hy
      · exact st8.g1 y hy
      · rw [List.mem_singleton.mp hy]; exact gx
  · obtain ⟨p', l', r', rs, rs', o8, o9, o10, rfl, st8, hl8, hl8'⟩ := h
    refine ⟨_, rfl, b, 16, rfl, st8.bx, by decide, by decide, fun g H9 g0 g1 st9 => ⟨rfl, _, rfl, ite2 (fun c => ?_) (fun c => iteF ?_)⟩⟩
    · have S9 := st8.step st9
      obtain ⟨⟨n1, n2, n3, n4⟩, ⟨n5, n6, n7⟩, _⟩ := S9.ne
      refine ⟨_, rfl, _, rfl, _, rfl, b, p, l, r, rs, rfl, S9.bx, S9.S1, S9.R1, n1, n2, n5, S9.g1, by omega, fun rs2 H10 bx10 S10 R10 g10 l10 k10 => ⟨_, rfl, iteF ?_⟩⟩
      have S1 := S9.more k10 bx10 S10 R10 g10
      refine ⟨_, rfl, _, rfl, p, l, r, rs2, rfl, S1.S1, S1.R1, S1.g1, l10, fun H1 s1 => ⟨_, rfl, iteF ?_⟩⟩
      have S2 := S1.same s1
      refine ⟨_, rfl, _, rfl, p', l', r', rs', rfl, S2.S2, S2.R2, S2.g2, by omega, fun H2 s2 => ⟨_, rfl, iteF ?_⟩⟩
      have S3 := S2.same s2
      refine ⟨_, rfl, _, rfl, _, rfl, a, p, l, r, ns, rs2, rfl, S3.s0.seq hS, S3.S1, S3.R1, S3.g1, l10, fun H3 s3 => ⟨_, rfl, iteT ?_⟩⟩
      have S4 := S3.same s3
      refine ⟨_, rfl, _, rfl, _, rfl, a, p', l', r', ns, rs', rfl, S4.s0.seq hS, S4.S2, S4.R2, S4.g2, by omega, fun H4 s4 => ⟨_, rfl, iteT ?_⟩⟩
      have S5 := S4.same s4
      exact ⟨_, rfl, _, rfl, p, l, r, rs2, rfl, S5.S1, S5.R1, S5.g1, l10, fun H5 s5 => q H5⟩
    · have S1 := st8.step st9
      refine ⟨_, rfl, _, rfl, p, l, r, rs, rfl, S1.S1, S1.R1, S1.g1, (by omega), fun H1 s1 => ⟨_, rfl, iteF ?_⟩⟩
      have S2 := S1.same s1
      refine ⟨_, rfl, _, rfl, p', l', r', rs', rfl, S2.S2, S2.R2, S2.g2, by omega, fun H2 s2 => ⟨_, rfl, iteF ?_⟩⟩
      have S3 := S2.same s2
      refine ⟨_, rfl, _, rfl, _, rfl, a, p, l, r, ns, rs, rfl, S3.s0.seq hS, S3.S1, S3.R1, S3.g1, (by omega), fun H3 s3 => ⟨_, rfl, iteT ?_⟩⟩
      have S4 := S3.same s3
      refine ⟨_, rfl, _, rfl, _, rfl, a, p', l', r', ns, rs', rfl, S4.s0.seq hS, S4.S2, S4.R2, S4.g2, by omega, fun H4 s4 => ⟨_, rfl, iteT ?_⟩⟩
      have S5 := S4.same s4
      exact ⟨_, rfl, _, rfl, p, l, r, rs, rfl, S5.S1, S5.R1, S5.g1, (by omega), fun H5 s5 => q H5⟩
end
end D

set_option Elab.async false
set_option linter.all false
set_option maxRecDepth 100000
set_option maxHeartbeats 4000000
namespace D
open PySem L2
theorem none_ok {P : Program} {w : World} {K : PySem.W.Frag} {mg : Str → Option Value} {base : Heap} {f : Addr} {fd : FuncData} {ps : List Str} {sp : Sp} (no : ∀ vs H Q E, ¬ sp vs H Q E) (k : Nat) : FnOk P w K mg base CX0 k f fd ps sp :=
  ⟨fun vs H Q E h => absurd h (no vs H Q E), fun A outer s H args us vs Q E _ _ _ _ h => absurd h (no vs H Q E)⟩
theorem us_1 {us : List Value} (h : us.length = 1) : ∃ x0, us = [x0] := by
  match us, h with
  | [x0], _ => exact ⟨x0, rfl⟩
theorem us_2 {us : List Value} (h : us.length = 2) : ∃ x0 x1, us = [x0, x1] := by
  match us, h with
  | [x0, x1], _ => exact ⟨x0, x1, rfl⟩
theorem us_3 {us : List Value} (h : us.length = 3) : ∃ x0 x1 x2, us = [x0, x1, x2] := by
  match us, h with
  | [x0, x1, x2], _ => exact ⟨x0, x1, x2, rfl⟩
theorem all_mk {l : PySem.W.OpenLaw} {w : World} {K : PySem.W.Frag} {h : Heap} {mg : Str → Option Value} {fa f0 f1 f2 f3 f4 f5 f6 f7 f8 f9 f10 f11 f12 f13 f14 f15 f16 f17 f18 f19 f20 : Addr} (X : K.In h) (G : h.Ns mainGlobals mg) (hfa : mg "law" = some (.ref fa))
    {od0 an0 od1 an1 od2 an2 od3 an3 od4 an4 od5 an5 od6 an6 od7 an7 od8 an8 od9 an9 od10 an10 od11 an11 od12 an12 od13 an13 od14 an14 od15 an15 od16 an16 od17 an17 od18 an18 od19 an19 od20 an20 : Option Addr} {sl0 sl1 sl2 sl3 sl4 sl5 sl6 sl7 sl8 sl9 sl10 sl11 sl12 sl13 sl14 sl15 sl16 sl17 sl18 sl19 sl20 : Array (Option Value)} {oc0 kV0 dc0 pm0 cd0 ct0 oc1 kV1 dc1 pm1 cd1 ct1 oc2 kV2 dc2 pm2 cd2 ct2 oc3 kV3 dc3 pm3 cd3 ct3 oc4 kV4 dc4 pm4 cd4 ct4 oc5 kV5 dc5 pm5 cd5 ct5 oc6 kV6 dc6 pm6 cd6 ct6 oc7 kV7 dc7 pm7 cd7 ct7 oc8 kV8 dc8 pm8 cd8 ct8 oc9 kV9 dc9 pm9 cd9 ct9 oc10 kV10 dc10 pm10 cd10 ct10 oc11 kV11 dc11 pm11 cd11 ct11 oc12 kV12 dc12 pm12 cd12 ct12 oc13 kV13 dc13 pm13 cd13 ct13 oc14 kV14 dc14 pm14 cd14 ct14 oc15 kV15 dc15 pm15 cd15 ct15 oc16 kV16 dc16 pm16 cd16 ct16 oc17 kV17 dc17 pm17 cd17 ct17 oc18 kV18 dc18 pm18 cd18 ct18 oc19 kV19 dc19 pm19 cd19 ct19 oc20 kV20 dc20 pm20 cd20 ct20 : Value}
    {ALaid : Addr} (aC_Laid : PySem.W.nsIn K mainGlobals "Laid" = some (some (.ref ALaid))) (pg_Laid : PySem.W.plainGet K ALaid Str.empty = true) (hd_Laid : PySem.W.hasDictIn K ALaid = true) (po_Laid : PySem.W.plainOver K ALaid = true) (sa_Laid : PySem.W.findIn K (.ref ALaid) "__setattr__" = some (some (.builtin "object.__setattr__"))) (mk_Laid : PySem.W.makesIn K ALaid = true) (kc_Laid : PySem.W.keepIn K (.ref ALaid) = true) (nf_Laid_row : PySem.W.findIn K (.ref ALaid) "row" = some none) (nf_Laid_right : PySem.W.findIn K (.ref ALaid) "right" = some none)
    {AShelf : Addr} (aC_Shelf : PySem.W.nsIn K mainGlobals "Shelf" = some (some (.ref AShelf))) (pg_Shelf : PySem.W.plainGet K AShelf Str.empty = true) (hd_Shelf : PySem.W.hasDictIn K AShelf = true) (po_Shelf : PySem.W.plainOver K AShelf = true) (sa_Shelf : PySem.W.findIn K (.ref AShelf) "__setattr__" = some (some (.builtin "object.__setattr__"))) (mk_Shelf : PySem.W.makesIn K AShelf = true) (kc_Shelf : PySem.W.keepIn K (.ref AShelf) = true) (nf_Shelf_laid : PySem.W.findIn K (.ref AShelf) "laid" = some none)
    (a0 : PySem.W.nsIn K mainGlobals "just_so" = some (some (.ref f0))) (l0 : K.lookup f0 = some ⟨oc0, od0, .func (PySem.W.fnOf "just_so" "just_so" (defArgs s_just_so) (defBody s_just_so) (defScope s_just_so) .none kV0 dc0 pm0 an0 cd0 ct0), sl0⟩) (c0 : PySem.W.codeIn K cd0 "just_so" = true) (k0 : PySem.W.keepIn K (.ref f0) = true)
    (a1 : PySem.W.findIn K (.ref ALaid) "__init__" = some (some (.ref f1))) (q1 : PySem.W.isFn K (.ref f1) = true) (l1 : K.lookup f1 = some ⟨oc1, od1, .func (PySem.W.fnOf "__init__" "Laid.__init__" (defArgs s_Laid___init__) (defBody s_Laid___init__) (defScope s_Laid___init__) .none kV1 dc1 pm1 an1 cd1 ct1), sl1⟩) (c1 : PySem.W.codeIn K cd1 "Laid.__init__" = true) (k1 : PySem.W.keepIn K (.ref f1) = true)
    (a2 : PySem.W.findIn K (.ref AShelf) "__init__" = some (some (.ref f2))) (q2 : PySem.W.isFn K (.ref f2) = true) (l2 : K.lookup f2 = some ⟨oc2, od2, .func (PySem.W.fnOf "__init__" "Shelf.__init__" (defArgs s_Shelf___init__) (defBody s_Shelf___init__) (defScope s_Shelf___init__) .none kV2 dc2 pm2 an2 cd2 ct2), sl2⟩) (c2 : PySem.W.codeIn K cd2 "Shelf.__init__" = true) (k2 : PySem.W.keepIn K (.ref f2) = true)
    (a3 : PySem.W.findIn K (.ref AShelf) "lay" = some (some (.ref f3))) (q3 : PySem.W.isFn K (.ref f3) = true) (l3 : K.lookup f3 = some ⟨oc3, od3, .func (PySem.W.fnOf "lay" "Shelf.lay" (defArgs s_Shelf_lay) (defBody s_Shelf_lay) (defScope s_Shelf_lay) .none kV3 dc3 pm3 an3 cd3 ct3), sl3⟩) (c3 : PySem.W.codeIn K cd3 "Shelf.lay" = true) (k3 : PySem.W.keepIn K (.ref f3) = true)
    (a4 : PySem.W.findIn K (.ref AShelf) "lying" = some (some (.ref f4))) (q4 : PySem.W.isFn K (.ref f4) = true) (l4 : K.lookup f4 = some ⟨oc4, od4, .func (PySem.W.fnOf "lying" "Shelf.lying" (defArgs s_Shelf_lying) (defBody s_Shelf_lying) (defScope s_Shelf_lying) .none kV4 dc4 pm4 an4 cd4 ct4), sl4⟩) (c4 : PySem.W.codeIn K cd4 "Shelf.lying" = true) (k4 : PySem.W.keepIn K (.ref f4) = true)
    (a5 : PySem.W.findIn K (.ref AShelf) "has" = some (some (.ref f5))) (q5 : PySem.W.isFn K (.ref f5) = true) (l5 : K.lookup f5 = some ⟨oc5, od5, .func (PySem.W.fnOf "has" "Shelf.has" (defArgs s_Shelf_has) (defBody s_Shelf_has) (defScope s_Shelf_has) .none kV5 dc5 pm5 an5 cd5 ct5), sl5⟩) (c5 : PySem.W.codeIn K cd5 "Shelf.has" = true) (k5 : PySem.W.keepIn K (.ref f5) = true)
    (a6 : PySem.W.findIn K (.ref AShelf) "copy" = some (some (.ref f6))) (q6 : PySem.W.isFn K (.ref f6) = true) (l6 : K.lookup f6 = some ⟨oc6, od6, .func (PySem.W.fnOf "copy" "Shelf.copy" (defArgs s_Shelf_copy) (defBody s_Shelf_copy) (defScope s_Shelf_copy) .none kV6 dc6 pm6 an6 cd6 ct6), sl6⟩) (c6 : PySem.W.codeIn K cd6 "Shelf.copy" = true) (k6 : PySem.W.keepIn K (.ref f6) = true)
    (a7 : PySem.W.nsIn K mainGlobals "_law_cell" = some (some (.ref f7))) (l7 : K.lookup f7 = some ⟨oc7, od7, .func (PySem.W.fnOf "_law_cell" "_law_cell" (defArgs sCell) (defBody sCell) (defScope sCell) .none kV7 dc7 pm7 an7 cd7 ct7), sl7⟩) (c7 : PySem.W.codeIn K cd7 "_law_cell" = true) (k7 : PySem.W.keepIn K (.ref f7) = true)
    (a8 : PySem.W.nsIn K mainGlobals "_law_box" = some (some (.ref f8))) (l8 : K.lookup f8 = some ⟨oc8, od8, .func (PySem.W.fnOf "_law_box" "_law_box" (defArgs sBox) (defBody sBox) (defScope sBox) .none kV8 dc8 pm8 an8 cd8 ct8), sl8⟩) (c8 : PySem.W.codeIn K cd8 "_law_box" = true) (k8 : PySem.W.keepIn K (.ref f8) = true)
    (a9 : PySem.W.nsIn K mainGlobals "_law_take" = some (some (.ref f9))) (l9 : K.lookup f9 = some ⟨oc9, od9, .func (PySem.W.fnOf "_law_take" "_law_take" (defArgs sTake) (defBody sTake) (defScope sTake) .none kV9 dc9 pm9 an9 cd9 ct9), sl9⟩) (c9 : PySem.W.codeIn K cd9 "_law_take" = true) (k9 : PySem.W.keepIn K (.ref f9) = true)
    (a10 : PySem.W.nsIn K mainGlobals "_law_text" = some (some (.ref f10))) (l10 : K.lookup f10 = some ⟨oc10, od10, .func (PySem.W.fnOf "_law_text" "_law_text" (defArgs sText) (defBody sText) (defScope sText) .none kV10 dc10 pm10 an10 cd10 ct10), sl10⟩) (c10 : PySem.W.codeIn K cd10 "_law_text" = true) (k10 : PySem.W.keepIn K (.ref f10) = true)
    (a11 : PySem.W.nsIn K mainGlobals "_law_thing" = some (some (.ref f11))) (l11 : K.lookup f11 = some ⟨oc11, od11, .func (PySem.W.fnOf "_law_thing" "_law_thing" (defArgs s_lthing) (defBody s_lthing) (defScope s_lthing) .none kV11 dc11 pm11 an11 cd11 ct11), sl11⟩) (c11 : PySem.W.codeIn K cd11 "_law_thing" = true) (k11 : PySem.W.keepIn K (.ref f11) = true)
    (a12 : PySem.W.nsIn K mainGlobals "_law_other" = some (some (.ref f12))) (l12 : K.lookup f12 = some ⟨oc12, od12, .func (PySem.W.fnOf "_law_other" "_law_other" (defArgs s_lother) (defBody s_lother) (defScope s_lother) .none kV12 dc12 pm12 an12 cd12 ct12), sl12⟩) (c12 : PySem.W.codeIn K cd12 "_law_other" = true) (k12 : PySem.W.keepIn K (.ref f12) = true)
    (a13 : PySem.W.nsIn K mainGlobals "_law_alike" = some (some (.ref f13))) (l13 : K.lookup f13 = some ⟨oc13, od13, .func (PySem.W.fnOf "_law_alike" "_law_alike" (defArgs s_lalike) (defBody s_lalike) (defScope s_lalike) .none kV13 dc13 pm13 an13 cd13 ct13), sl13⟩) (c13 : PySem.W.codeIn K cd13 "_law_alike" = true) (k13 : PySem.W.keepIn K (.ref f13) = true)
    (a14 : PySem.W.nsIn K mainGlobals "_law_laid" = some (some (.ref f14))) (l14 : K.lookup f14 = some ⟨oc14, od14, .func (PySem.W.fnOf "_law_laid" "_law_laid" (defArgs s_llaid) (defBody s_llaid) (defScope s_llaid) .none kV14 dc14 pm14 an14 cd14 ct14), sl14⟩) (c14 : PySem.W.codeIn K cd14 "_law_laid" = true) (k14 : PySem.W.keepIn K (.ref f14) = true)
    (a15 : PySem.W.nsIn K mainGlobals "_law_tells" = some (some (.ref f15))) (l15 : K.lookup f15 = some ⟨oc15, od15, .func (PySem.W.fnOf "_law_tells" "_law_tells" (defArgs s_ltells) (defBody s_ltells) (defScope s_ltells) .none kV15 dc15 pm15 an15 cd15 ct15), sl15⟩) (c15 : PySem.W.codeIn K cd15 "_law_tells" = true) (k15 : PySem.W.keepIn K (.ref f15) = true)
    (a16 : PySem.W.nsIn K mainGlobals "_law_lies" = some (some (.ref f16))) (l16 : K.lookup f16 = some ⟨oc16, od16, .func (PySem.W.fnOf "_law_lies" "_law_lies" (defArgs s_llies) (defBody s_llies) (defScope s_llies) .none kV16 dc16 pm16 an16 cd16 ct16), sl16⟩) (c16 : PySem.W.codeIn K cd16 "_law_lies" = true) (k16 : PySem.W.keepIn K (.ref f16) = true)
    (a17 : PySem.W.nsIn K mainGlobals "_law_right" = some (some (.ref f17))) (l17 : K.lookup f17 = some ⟨oc17, od17, .func (PySem.W.fnOf "_law_right" "_law_right" (defArgs s_lright) (defBody s_lright) (defScope s_lright) .none kV17 dc17 pm17 an17 cd17 ct17), sl17⟩) (c17 : PySem.W.codeIn K cd17 "_law_right" = true) (k17 : PySem.W.keepIn K (.ref f17) = true)
    (a18 : PySem.W.nsIn K mainGlobals "_law_laid_often" = some (some (.ref f18))) (l18 : K.lookup f18 = some ⟨oc18, od18, .func (PySem.W.fnOf "_law_laid_often" "_law_laid_often" (defArgs s_llaid_often) (defBody s_llaid_often) (defScope s_llaid_often) .none kV18 dc18 pm18 an18 cd18 ct18), sl18⟩) (c18 : PySem.W.codeIn K cd18 "_law_laid_often" = true) (k18 : PySem.W.keepIn K (.ref f18) = true)
    (a19 : PySem.W.nsIn K mainGlobals "_law_asked" = some (some (.ref f19))) (l19 : K.lookup f19 = some ⟨oc19, od19, .func (PySem.W.fnOf "_law_asked" "_law_asked" (defArgs s_lasked) (defBody s_lasked) (defScope s_lasked) .none kV19 dc19 pm19 an19 cd19 ct19), sl19⟩) (c19 : PySem.W.codeIn K cd19 "_law_asked" = true) (k19 : PySem.W.keepIn K (.ref f19) = true)
    (a20 : PySem.W.nsIn K mainGlobals "law" = some (some (.ref f20))) (l20 : K.lookup f20 = some ⟨oc20, od20, .func (PySem.W.fnOf "law" "law" (defArgs sLaw) (defBody sLaw) (defScope sLaw) .none kV20 dc20 pm20 an20 cd20 ct20), sl20⟩) (c20 : PySem.W.codeIn K cd20 "law" = true) (k20 : PySem.W.keepIn K (.ref f20) = true)
    (z0 : PySem.W.nsIn K mainGlobals "repr" = some none)
    (z1 : PySem.W.nsIn K mainGlobals "any" = some none)
    (z2 : PySem.W.nsIn K mainGlobals "list" = some none)
    (z3 : PySem.W.nsIn K mainGlobals "len" = some none)
    (z4 : PySem.W.nsIn K mainGlobals "range" = some none)
    (z5 : PySem.W.nsIn K mainGlobals "tuple" = some none)
    (z6 : PySem.W.nsIn K mainGlobals "bool" = some none)
    (z7 : PySem.W.nsIn K mainGlobals "int" = some none)
    (z8 : PySem.W.nsIn K mainGlobals "isinstance" = some none)
    (z9 : PySem.W.nsIn K mainGlobals "str" = some none)
    (z10 : PySem.W.nsIn K mainGlobals "all" = some none)
    (z11 : PySem.W.nsIn K mainGlobals "zip" = some none)
    (z12 : PySem.W.nsIn K mainGlobals "min" = some none)
    : ∃ fd : FuncData, (∀ (s : Shared) (v : Value), BindsTo s fd ⟨[v], []⟩ [("_law_script", v)]) ∧ ∀ base : Heap, K.In base → base.Ns mainGlobals mg → FnOk l.prog w K mg base CX0 90 fa fd ["_law_script"] (spLaw K) := by
  have e := hfa.symm.trans (PySem.W.mg_of X G a20)
  cases e
  have F0 := fun_mk (st := s_just_so) l0 c0 k0
  have b0 := F0.binds (ps := ["one", "other"]) fun _ _ _ _ _ _ us hl => by obtain ⟨_, _, rfl⟩ := us_2 hl; rfl
  have n0 := PySem.W.mg_of X G a0
  have F1 := fun_mk (st := s_Laid___init__) l1 c1 k1
  have b1 := F1.binds (ps := ["self", "who", "paper"]) fun _ _ _ _ _ _ us hl => by obtain ⟨_, _, _, rfl⟩ := us_3 hl; rfl
  have F2 := fun_mk (st := s_Shelf___init__) l2 c2 k2
  have b2 := F2.binds (ps := ["self"]) fun _ _ _ _ _ _ us hl => by obtain ⟨_, rfl⟩ := us_1 hl; rfl
  have F3 := fun_mk (st := s_Shelf_lay) l3 c3 k3
  have b3 := F3.binds (ps := ["self", "who", "paper"]) fun _ _ _ _ _ _ us hl => by obtain ⟨_, _, _, rfl⟩ := us_3 hl; rfl
  have F4 := fun_mk (st := s_Shelf_lying) l4 c4 k4
  have b4 := F4.binds (ps := ["self"]) fun _ _ _ _ _ _ us hl => by obtain ⟨_, rfl⟩ := us_1 hl; rfl
  have F5 := fun_mk (st := s_Shelf_has) l5 c5 k5
  have b5 := F5.binds (ps := ["self", "paper"]) fun _ _ _ _ _ _ us hl => by obtain ⟨_, _, rfl⟩ := us_2 hl; rfl
  have F6 := fun_mk (st := s_Shelf_copy) l6 c6 k6
  have b6 := F6.binds (ps := ["self"]) fun _ _ _ _ _ _ us hl => by obtain ⟨_, rfl⟩ := us_1 hl; rfl
  have F7 := fun_mk (st := sCell) l7 c7 k7
  have b7 := F7.binds (ps := ["_law_script", "_law_k"]) fun _ _ _ _ _ _ us hl => by obtain ⟨_, _, rfl⟩ := us_2 hl; rfl
  have n7 := PySem.W.mg_of X G a7
  have F8 := fun_mk (st := sBox) l8 c8 k8
  have b8 := F8.binds (ps := ["_law_script", "_law_k"]) fun _ _ _ _ _ _ us hl => by obtain ⟨_, _, rfl⟩ := us_2 hl; rfl
  have n8 := PySem.W.mg_of X G a8
  have F9 := fun_mk (st := sTake) l9 c9 k9
  have b9 := F9.binds (ps := ["_law_box_here", "_law_wide"]) fun _ _ _ _ _ _ us hl => by obtain ⟨_, _, rfl⟩ := us_2 hl; rfl
  have n9 := PySem.W.mg_of X G a9
  have F10 := fun_mk (st := sText) l10 c10 k10
  have b10 := F10.binds (ps := ["_law_box_here", "_law_most"]) fun _ _ _ _ _ _ us hl => by obtain ⟨_, _, rfl⟩ := us_2 hl; rfl
  have n10 := PySem.W.mg_of X G a10
  have F11 := fun_mk (st := s_lthing) l11 c11 k11
  have b11 := F11.binds (ps := ["_law_box_here", "_law_deep"]) fun _ _ _ _ _ _ us hl => by obtain ⟨_, _, rfl⟩ := us_2 hl; rfl
  have n11 := PySem.W.mg_of X G a11
  have F12 := fun_mk (st := s_lother) l12 c12 k12
  have b12 := F12.binds (ps := ["_law_box_here", "_law_thing_here"]) fun _ _ _ _ _ _ us hl => by obtain ⟨_, _, rfl⟩ := us_2 hl; rfl
  have n12 := PySem.W.mg_of X G a12
  have F13 := fun_mk (st := s_lalike) l13 c13 k13
  have b13 := F13.binds (ps := ["_law_one", "_law_other_here"]) fun _ _ _ _ _ _ us hl => by obtain ⟨_, _, rfl⟩ := us_2 hl; rfl
  have n13 := PySem.W.mg_of X G a13
  have F14 := fun_mk (st := s_llaid) l14 c14 k14
  have b14 := F14.binds (ps := ["_law_box_here"]) fun _ _ _ _ _ _ us hl => by obtain ⟨_, rfl⟩ := us_1 hl; rfl
  have n14 := PySem.W.mg_of X G a14
  have F15 := fun_mk (st := s_ltells) l15 c15 k15
  have b15 := F15.binds (ps := ["_law_found", "_law_due"]) fun _ _ _ _ _ _ us hl => by obtain ⟨_, _, rfl⟩ := us_2 hl; rfl
  have n15 := PySem.W.mg_of X G a15
  have F16 := fun_mk (st := s_llies) l16 c16 k16
  have b16 := F16.binds (ps := ["_law_rows", "_law_thing_here"]) fun _ _ _ _ _ _ us hl => by obtain ⟨_, _, rfl⟩ := us_2 hl; rfl
  have n16 := PySem.W.mg_of X G a16
  have F17 := fun_mk (st := s_lright) l17 c17 k17
  have b17 := F17.binds (ps := ["_law_shelf", "_law_rows"]) fun _ _ _ _ _ _ us hl => by obtain ⟨_, _, rfl⟩ := us_2 hl; rfl
  have n17 := PySem.W.mg_of X G a17
  have F18 := fun_mk (st := s_llaid_often) l18 c18 k18
  have b18 := F18.binds (ps := ["_law_box_here", "_law_shelf", "_law_rows"]) fun _ _ _ _ _ _ us hl => by obtain ⟨_, _, _, rfl⟩ := us_3 hl; rfl
  have n18 := PySem.W.mg_of X G a18
  have F19 := fun_mk (st := s_lasked) l19 c19 k19
  have b19 := F19.binds (ps := ["_law_script", "_law_shelf", "_law_rows"]) fun _ _ _ _ _ _ us hl => by obtain ⟨_, _, _, rfl⟩ := us_3 hl; rfl
  have n19 := PySem.W.mg_of X G a19
  have F20 := fun_mk (st := sLaw) l20 c20 k20
  have cl_Laid : Cls K ALaid := ⟨pg_Laid, hd_Laid, po_Laid, sa_Laid⟩
  have cl_Shelf : Cls K AShelf := ⟨pg_Shelf, hd_Shelf, po_Shelf, sa_Shelf⟩
  have m_repr := PySem.W.mg_none_of X G z0
  have m_any := PySem.W.mg_none_of X G z1
  have m_list := PySem.W.mg_none_of X G z2
  have m_len := PySem.W.mg_none_of X G z3
  have m_range := PySem.W.mg_none_of X G z4
  have m_tuple := PySem.W.mg_none_of X G z5
  have m_bool := PySem.W.mg_none_of X G z6
  have m_int := PySem.W.mg_none_of X G z7
  have m_isinstance := PySem.W.mg_none_of X G z8
  have m_str := PySem.W.mg_none_of X G z9
  have m_all := PySem.W.mg_none_of X G z10
  have m_zip := PySem.W.mg_none_of X G z11
  have m_min := PySem.W.mg_none_of X G z12
  refine ⟨PySem.W.fnOf "law" "law" (defArgs sLaw) (defBody sLaw) (defScope sLaw) .none kV20 dc20 pm20 an20 cd20 ct20, fun s v => .of_eq rfl, fun base _ _ => ?_⟩
  have h_just_so : Have l.prog w K mg base "just_so" 1 ["one", "other"] (spJust) := ⟨_, _, (ok_just_so F0 m_repr : FnOk l.prog w K mg base CX0 (0 + 1) _ _ _ _), b0, k0, n0⟩
  have h_Laid___init__ : HaveC l.prog w K mg base ALaid "Laid" 2 ["self", "who", "paper"] (spLaidI ALaid) := ⟨_, _, 1, rfl, (ok_Laid___init__ F1 ⟨cl_Laid, nf_Laid_row, nf_Laid_right, cl_Shelf, nf_Shelf_laid⟩ : FnOk l.prog w K mg base CX0 (0 + 1) _ _ _ _), b1, ⟨mk_Laid, a1, q1, kc_Laid⟩, PySem.W.mg_of X G aC_Laid⟩
  have h_Shelf___init__ : HaveC l.prog w K mg base AShelf "Shelf" 2 ["self"] (spShelfI AShelf) := ⟨_, _, 1, rfl, (ok_Shelf___init__ F2 ⟨cl_Laid, nf_Laid_row, nf_Laid_right, cl_Shelf, nf_Shelf_laid⟩ : FnOk l.prog w K mg base CX0 (0 + 1) _ _ _ _), b2, ⟨mk_Shelf, a2, q2, kc_Shelf⟩, PySem.W.mg_of X G aC_Shelf⟩
  have h_Shelf_lay : HaveM l.prog w K mg base AShelf "lay" 3 ["self", "who", "paper"] (spLay ALaid AShelf) := ⟨_, _, (ok_Shelf_lay F3 (h_Laid___init__.mono (by omega)) ⟨cl_Laid, nf_Laid_row, nf_Laid_right, cl_Shelf, nf_Shelf_laid⟩ : FnOk l.prog w K mg base CX0 (2 + 1) _ _ _ _), b3, ⟨a3, q3, k3⟩, cl_Shelf⟩
  have h_Shelf_lying : HaveM l.prog w K mg base AShelf "lying" 1 ["self"] (spLying ALaid AShelf) := ⟨_, _, (ok_Shelf_lying F4 ⟨cl_Laid, nf_Laid_row, nf_Laid_right, cl_Shelf, nf_Shelf_laid⟩ : FnOk l.prog w K mg base CX0 (0 + 1) _ _ _ _), b4, ⟨a4, q4, k4⟩, cl_Shelf⟩
  have h_Shelf_has : HaveM l.prog w K mg base AShelf "has" 2 ["self", "paper"] (spHas ALaid AShelf) := ⟨_, _, (ok_Shelf_has F5 (h_just_so.mono (by omega)) m_any ⟨cl_Laid, nf_Laid_row, nf_Laid_right, cl_Shelf, nf_Shelf_laid⟩ : FnOk l.prog w K mg base CX0 (1 + 1) _ _ _ _), b5, ⟨a5, q5, k5⟩, cl_Shelf⟩
  have h_Shelf_copy : HaveM l.prog w K mg base AShelf "copy" 3 ["self"] (spCopy ALaid AShelf) := ⟨_, _, (ok_Shelf_copy F6 (h_Shelf___init__.mono (by omega)) m_list ⟨cl_Laid, nf_Laid_row, nf_Laid_right, cl_Shelf, nf_Shelf_laid⟩ : FnOk l.prog w K mg base CX0 (2 + 1) _ _ _ _), b6, ⟨a6, q6, k6⟩, cl_Shelf⟩
  have h_lcell : Have l.prog w K mg base "_law_cell" 1 ["_law_script", "_law_k"] (spCell K) := ⟨_, _, (ok_cell F7 m_len : FnOk l.prog w K mg base CX0 (0 + 1) _ _ _ _), b7, k7, n7⟩
  have h_lbox : Have l.prog w K mg base "_law_box" 2 ["_law_script", "_law_k"] (spBox K) := ⟨_, _, (ok_box F8 (h_lcell.mono (by omega)) : FnOk l.prog w K mg base CX0 (1 + 1) _ _ _ _), b8, k8, n8⟩
  have h_ltake : Have l.prog w K mg base "_law_take" 1 ["_law_box_here", "_law_wide"] (spTake) := ⟨_, _, (ok_take F9  : FnOk l.prog w K mg base CX0 (0 + 1) _ _ _ _), b9, k9, n9⟩
  have h_ltext : Have l.prog w K mg base "_law_text" 2 ["_law_box_here", "_law_most"] (spText) := ⟨_, _, (ok_text F10 (h_ltake.mono (by omega)) m_len m_range : FnOk l.prog w K mg base CX0 (1 + 1) _ _ _ _), b10, k10, n10⟩
  have h_lthing : ∀ n : Nat, Have l.prog w K mg base "_law_thing" (n + 3) ["_law_box_here", "_law_deep"] (spThing n) := fun n => by
    induction n with
    | zero => exact ⟨_, _, none_ok (fun vs H Q E h => by obtain ⟨b, d, _, h0, h1, _⟩ := h; omega) _, b11, k11, n11⟩
    | succ n ih => exact ⟨_, _, ok_lthing F11 (h_ltake.mono (by omega)) ih (h_ltext.mono (by omega)) m_range m_tuple, b11, k11, n11⟩
  have h_lother : ∀ n : Nat, Have l.prog w K mg base "_law_other" (n + 2) ["_law_box_here", "_law_thing_here"] (spOther n) := fun n => by
    induction n with
    | zero => exact ⟨_, _, none_ok (fun vs H Q E h => by obtain ⟨b, v, d, _, _, _, h1, _⟩ := h; omega) _, b12, k12, n12⟩
    | succ n ih => exact ⟨_, _, ok_lother F12 ih (h_ltake.mono (by omega)) m_bool m_int m_isinstance m_len m_str m_tuple, b12, k12, n12⟩
  have h_lalike : ∀ n : Nat, Have l.prog w K mg base "_law_alike" (n + 1) ["_law_one", "_law_other_here"] (spAlike n) := fun n => by
    induction n with
    | zero => exact ⟨_, _, none_ok (fun vs H Q E h => by obtain ⟨u, v, a, b, _, _, _, h1, _⟩ := h; omega) _, b13, k13, n13⟩
    | succ n ih => exact ⟨_, _, ok_lalike F13 ih m_all m_bool m_int m_isinstance m_len m_str m_tuple m_zip, b13, k13, n13⟩
  have h_llaid : Have l.prog w K mg base "_law_laid" 8 ["_law_box_here"] (spLaid) := ⟨_, _, (ok_llaid F14 (h_ltext.mono (by omega)) (h_ltake.mono (by omega)) ((h_lthing 4).mono (by omega)) m_range : FnOk l.prog w K mg base CX0 (7 + 1) _ _ _ _), b14, k14, n14⟩
  have h_ltells : Have l.prog w K mg base "_law_tells" 1 ["_law_found", "_law_due"] (spTells) := ⟨_, _, (ok_ltells F15 m_bool m_isinstance : FnOk l.prog w K mg base CX0 (0 + 1) _ _ _ _), b15, k15, n15⟩
  have h_llies : Have l.prog w K mg base "_law_lies" 68 ["_law_rows", "_law_thing_here"] (spLies) := ⟨_, _, (ok_llies F16 ((h_lalike 66).mono (by omega)) m_any : FnOk l.prog w K mg base CX0 (67 + 1) _ _ _ _), b16, k16, n16⟩
  have h_lright : Have l.prog w K mg base "_law_right" 68 ["_law_shelf", "_law_rows"] (spRight ALaid AShelf) := ⟨_, _, (ok_lright F17 ((h_lalike 66).mono (by omega)) (h_Shelf_lying.mono (by omega)) m_isinstance m_list m_tuple : FnOk l.prog w K mg base CX0 (67 + 1) _ _ _ _), b17, k17, n17⟩
  have h_llaid_often : Have l.prog w K mg base "_law_laid_often" 69 ["_law_box_here", "_law_shelf", "_law_rows"] (spOften ALaid AShelf) := ⟨_, _, (ok_llaid_often F18 (h_ltells.mono (by omega)) (h_llies.mono (by omega)) (h_Shelf_has.mono (by omega)) (h_Shelf_lay.mono (by omega)) (h_ltake.mono (by omega)) m_range : FnOk l.prog w K mg base CX0 (68 + 1) _ _ _ _), b18, k18, n18⟩
  have h_lasked : Have l.prog w K mg base "_law_asked" 69 ["_law_script", "_law_shelf", "_law_rows"] (spAsked K ALaid AShelf) := ⟨_, _, (ok_lasked F19 (h_ltells.mono (by omega)) (h_llies.mono (by omega)) (h_Shelf_has.mono (by omega)) ((h_lother 64).mono (by omega)) (h_lbox.mono (by omega)) m_len m_min m_range : FnOk l.prog w K mg base CX0 (68 + 1) _ _ _ _), b19, k19, n19⟩
  exact (ok_law F20 (h_lright.mono (by omega)) (h_lasked.mono (by omega)) (h_llaid_often.mono (by omega)) (h_ltake.mono (by omega)) (h_Shelf_lay.mono (by omega)) (h_llaid.mono (by omega)) (h_ltext.mono (by omega)) (h_lbox.mono (by omega)) (h_Shelf_copy.mono (by omega)) (h_Shelf___init__.mono (by omega)) m_len m_list m_range : FnOk l.prog w K mg base CX0 (89 + 1) _ _ _ _)
theorem walk_all {l : PySem.W.OpenLaw} {q : Program} {loose : List Str} {XP : (Str → Option Value) → Heap → Prop} {YP : World → Heap → Prop} {d : DefRec} {K : Params → PySem.W.Frag} (hn : l.most = some 63) (hdf : d.params.defaults = [])
    (hY : ∀ (w : World) (h : Heap), YP w h → (K w.params).In h)
    (F : ∀ (w : World) (mg : Str → Option Value) (fa : Addr) (h : Heap), (K w.params).In h → h.Ns mainGlobals mg → mg d.name = some (.ref fa) →
      ∃ fd : FuncData, (∀ (s : Shared) (u : Value), BindsTo s fd ⟨[u], []⟩ [("_law_script", u)]) ∧ ∀ base : Heap, (K w.params).In base → base.Ns mainGlobals mg → FnOk l.prog w (K w.params) mg base CX0 90 fa fd ["_law_script"] (spLaw (K w.params))) :
    PySem.W.WalkO q loose XP YP l.row.toRowW d [] (fun f vs => PySem.call f vs) :=
  L2.walk_of (n := 63) (k := 90) (x := "_law_script") (CX := fun _ => CX0) (sp := fun w => spLaw (K w.params)) hn (by decide) hdf ⟨rfl, by decide, by decide, rfl⟩ hY F (fun _ _ a ns hl _ hS => ⟨a, ns, rfl, hS, hl, fun _ => rfl⟩) fun _ _ _ _ _ z => z
end D
open PySem PySem.W PyProof.Rows
set_option maxRecDepth 100000 in
set_option maxHeartbeats 0 in
theorem PySem.Challenge.cw_leastforge_k34_shelves_holds : PySem.Challenge.rw_leastforge_k34_shelves.Holds := by
  w_on; o_law; k_head; (case hw => w_witness2)
  k_fill
  refine D.walk_all (l := PySem.Challenge.rw_leastforge_k34_shelves) rfl rfl (fun w h Y => PySem.W.kIn_of Y) ?F
  case F =>
    intro w mg fa h KX G hmg
    refine' D.all_mk KX G hmg ?aC_Laid ?pg_Laid ?hd_Laid ?po_Laid ?sa_Laid ?mk_Laid ?kc_Laid ?nf_Laid_row ?nf_Laid_right ?aC_Shelf ?pg_Shelf ?hd_Shelf ?po_Shelf ?sa_Shelf ?mk_Shelf ?kc_Shelf ?nf_Shelf_laid ?a0 ?l0 ?c0 ?k0 ?a1 ?q1 ?l1 ?c1 ?k1 ?a2 ?q2 ?l2 ?c2 ?k2 ?a3 ?q3 ?l3 ?c3 ?k3 ?a4 ?q4 ?l4 ?c4 ?k4 ?a5 ?q5 ?l5 ?c5 ?k5 ?a6 ?q6 ?l6 ?c6 ?k6 ?a7 ?l7 ?c7 ?k7 ?a8 ?l8 ?c8 ?k8 ?a9 ?l9 ?c9 ?k9 ?a10 ?l10 ?c10 ?k10 ?a11 ?l11 ?c11 ?k11 ?a12 ?l12 ?c12 ?k12 ?a13 ?l13 ?c13 ?k13 ?a14 ?l14 ?c14 ?k14 ?a15 ?l15 ?c15 ?k15 ?a16 ?l16 ?c16 ?k16 ?a17 ?l17 ?c17 ?k17 ?a18 ?l18 ?c18 ?k18 ?a19 ?l19 ?c19 ?k19 ?a20 ?l20 ?c20 ?k20 ?z0 ?z1 ?z2 ?z3 ?z4 ?z5 ?z6 ?z7 ?z8 ?z9 ?z10 ?z11 ?z12
    (case aC_Laid => k_is)
    (case pg_Laid => k_is)
    (case hd_Laid => k_is)
    (case po_Laid => k_is)
    (case sa_Laid => k_is)
    (case mk_Laid => k_is)
    (case kc_Laid => k_is)
    (case nf_Laid_row => k_is)
    (case nf_Laid_right => k_is)
    (case aC_Shelf => k_is)
    (case pg_Shelf => k_is)
    (case hd_Shelf => k_is)
    (case po_Shelf => k_is)
    (case sa_Shelf => k_is)
    (case mk_Shelf => k_is)
    (case kc_Shelf => k_is)
    (case nf_Shelf_laid => k_is)
    (case a0 => k_is)
    (case l0 => k_is)
    (case c0 => k_is)
    (case k0 => k_is)
    (case a1 => k_is)
    (case q1 => k_is)
    (case l1 => k_is)
    (case c1 => k_is)
    (case k1 => k_is)
    (case a2 => k_is)
    (case q2 => k_is)
    (case l2 => k_is)
    (case c2 => k_is)
    (case k2 => k_is)
    (case a3 => k_is)
    (case q3 => k_is)
    (case l3 => k_is)
    (case c3 => k_is)
    (case k3 => k_is)
    (case a4 => k_is)
    (case q4 => k_is)
    (case l4 => k_is)
    (case c4 => k_is)
    (case k4 => k_is)
    (case a5 => k_is)
    (case q5 => k_is)
    (case l5 => k_is)
    (case c5 => k_is)
    (case k5 => k_is)
    (case a6 => k_is)
    (case q6 => k_is)
    (case l6 => k_is)
    (case c6 => k_is)
    (case k6 => k_is)
    (case a7 => k_is)
    (case l7 => k_is)
    (case c7 => k_is)
    (case k7 => k_is)
    (case a8 => k_is)
    (case l8 => k_is)
    (case c8 => k_is)
    (case k8 => k_is)
    (case a9 => k_is)
    (case l9 => k_is)
    (case c9 => k_is)
    (case k9 => k_is)
    (case a10 => k_is)
    (case l10 => k_is)
    (case c10 => k_is)
    (case k10 => k_is)
    (case a11 => k_is)
    (case l11 => k_is)
    (case c11 => k_is)
    (case k11 => k_is)
    (case a12 => k_is)
    (case l12 => k_is)
    (case c12 => k_is)
    (case k12 => k_is)
    (case a13 => k_is)
    (case l13 => k_is)
    (case c13 => k_is)
    (case k13 => k_is)
    (case a14 => k_is)
    (case l14 => k_is)
    (case c14 => k_is)
    (case k14 => k_is)
    (case a15 => k_is)
    (case l15 => k_is)
    (case c15 => k_is)
    (case k15 => k_is)
    (case a16 => k_is)
    (case l16 => k_is)
    (case c16 => k_is)
    (case k16 => k_is)
    (case a17 => k_is)
    (case l17 => k_is)
    (case c17 => k_is)
    (case k17 => k_is)
    (case a18 => k_is)
    (case l18 => k_is)
    (case c18 => k_is)
    (case k18 => k_is)
    (case a19 => k_is)
    (case l19 => k_is)
    (case c19 => k_is)
    (case k19 => k_is)
    (case a20 => k_is)
    (case l20 => k_is)
    (case c20 => k_is)
    (case k20 => k_is)
    (case z0 => k_is)
    (case z1 => k_is)
    (case z2 => k_is)
    (case z3 => k_is)
    (case z4 => k_is)
    (case z5 => k_is)
    (case z6 => k_is)
    (case z7 => k_is)
    (case z8 => k_is)
    (case z9 => k_is)
    (case z10 => k_is)
    (case z11 => k_is)
    (case z12 => k_is)

