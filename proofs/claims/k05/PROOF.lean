import PyProof.Rows.All
import Wide.All
import OpenK.AllK
import Wide.FinOn
import Lean
import PyProof.EqAt
import PyProof.EqKinds
import PyProof.TupleCall
import KE.KTryMore
import PyProof.StationsW
import PyProof.NsDelKeeps
import PyProof.RulesAs
import PyProof.Rows.StrMul
import PySem.Challenge.RW_leastforge_k05_texts_that_write_none
set_option Elab.async false
set_option linter.all false
set_option maxRecDepth 100000
/-! THE HAND LAYER, for ints, bools, texts, own classes, DICTS (int and text keys), calls, loops. Paste it whole ahead of your own text; what your proof does not reach may be deleted. -/
namespace L2
open PySem PySem.Spec PyProof.Rows

/-- a key: an int or a str -/
abbrev Key := Sum Int Str
def keyIs : Key → Value → Bool
  | .inl k, v => Value.isInt k v
  | .inr x, v => Value.isStrOf x v
def keyH (w : World) : Key → Int
  | .inl k => hashInt k
  | .inr x => hashStr w x
theorem keyIs_shape : ∀ {k : Key} {v : Value}, keyIs k v = true → (∃ i t, k = Sum.inl i ∧ v = Value.int i t) ∨ (∃ x t, k = Sum.inr x ∧ v = Value.str x t)
  | .inl i, v, h => by
    obtain ⟨t, e⟩ := Value.isInt_shape (k := i) (v := v) h
    exact .inl ⟨i, t, rfl, e⟩
  | .inr x, v, h => by
    obtain ⟨t, e⟩ := Value.isStrOf_shape (x := x) (v := v) h
    exact .inr ⟨x, t, rfl, e⟩
theorem key_ll (a b : Int) : decide ((Sum.inl a : Key) = Sum.inl b) = (a == b) := by
  by_cases e : a = b
  · subst e; simp
  · have h : ¬ (Sum.inl a : Key) = Sum.inl b := fun q => e (Sum.inl.inj q)
    rw [decide_eq_false h]
    exact (beq_eq_false_iff_ne.mpr e).symm
theorem key_rr (a b : Str) : decide ((Sum.inr a : Key) = Sum.inr b) = decide (a = b) := by
  by_cases e : a = b
  · subst e; simp
  · have h : ¬ (Sum.inr a : Key) = Sum.inr b := fun q => e (Sum.inr.inj q)
    rw [decide_eq_false h, decide_eq_false e]
theorem key_lr (a : Int) (b : Str) : decide ((Sum.inl a : Key) = Sum.inr b) = false := decide_eq_false (fun q => nomatch q)
theorem key_rl (a : Str) (b : Int) : decide ((Sum.inr a : Key) = Sum.inl b) = false := decide_eq_false (fun q => nomatch q)

def mixKind (prog : Program) (w : World) : PySem.KeyKind prog w Key where
  is := keyIs
  hash := keyH w
  inj := fun v a b ha hb => by
    rcases keyIs_shape ha with ⟨i, t, rfl, rfl⟩ | ⟨x, t, rfl, rfl⟩
    · rcases keyIs_shape hb with ⟨j, u, rfl, e⟩ | ⟨y, u, rfl, e⟩
      · injection e with e1 _; rw [e1]
      · exact nomatch e
    · rcases keyIs_shape hb with ⟨j, u, rfl, e⟩ | ⟨y, u, rfl, e⟩
      · exact nomatch e
      · injection e with e1 _; rw [e1]
  byValue := fun k v h => by
    rcases keyIs_shape h with ⟨i, t, rfl, rfl⟩ | ⟨x, t, rfl, rfl⟩ <;> rfl
  pyHash := fun hv h => by
    rcases keyIs_shape hv with ⟨i, t, rfl, rfl⟩ | ⟨x, t, rfl, rfl⟩
    · exact wpAny_pyHash_int h
    · exact wpAny_pyHash_str h
  eqBool := fun hu hv h => by
    rcases keyIs_shape hu with ⟨i, t, rfl, rfl⟩ | ⟨x, t, rfl, rfl⟩
    · rcases keyIs_shape hv with ⟨j, u, rfl, rfl⟩ | ⟨y, u, rfl, rfl⟩
      · rw [key_ll] at h; exact wpAny_eqBool_int h
      · rw [key_lr] at h; exact SeqAt.EqAt.int_str i t y u _ _ _ _ h
    · rcases keyIs_shape hv with ⟨j, u, rfl, rfl⟩ | ⟨y, u, rfl, rfl⟩
      · rw [key_rl] at h; exact SeqAt.EqAt.str_int x t j u _ _ _ _ h
      · rw [key_rr] at h; exact wpAny_eqBool_str h
  «strs» := fun k x t v h => by
    rcases keyIs_shape h with ⟨i, u, rfl, e⟩ | ⟨y, u, rfl, e⟩
    · exact nomatch e
    · injection e with e1 _
      subst e1
      cases v <;> rfl

end L2

namespace L2
open PySem PySem.Spec PyProof.Rows

/-- a value, without the heap -/
inductive V where
  | non | bl (b : Bool) | int (i : Int) | str (x : Str) | byt (b : Array UInt8) | flt (b : UInt64) | ref (a : Addr) | ty (n : String)
  deriving DecidableEq

def RelV : V → Value → Prop
  | .non, u => u = Value.none
  | .bl b, u => u = Value.bool b
  | .int i, u => ∃ t, u = Value.int i t
  | .str x, u => ∃ t, u = Value.str x t
  | .byt b, u => ∃ t, u = Value.bytes b t
  | .flt b, u => ∃ t, u = Value.float b t
  | .ref a, u => u = Value.ref a
  | .ty n, u => u = Value.type n

abbrev Vals : List V → List Value → Prop := Paired RelV
theorem Vals.length {xs : List V} {us : List Value} (r : Vals xs us) : xs.length = us.length := Paired.length r
theorem Vals.get : ∀ {xs : List V} {us : List Value} {i : Nat} {x : V}, Vals xs us → xs[i]? = some x → ∃ u, us[i]? = some u ∧ RelV x u
  | _, _, _, _, .nil, e => by simp at e
  | _, _, 0, _, .cons r _, e => by simp at e; subst e; exact ⟨_, rfl, r⟩
  | _, _, i + 1, x, .cons _ t, e => by
    obtain ⟨u, h1, h2⟩ := Vals.get (i := i) (x := x) t (by simpa using e)
    exact ⟨u, by simpa using h1, h2⟩
theorem Vals.set {x : V} {u : Value} (r : RelV x u) : ∀ {xs : List V} {us : List Value} (i : Nat), Vals xs us → Vals (xs.set i x) (us.set i u)
  | _, _, _, .nil => .nil
  | _, _, 0, .cons _ t => .cons r t
  | _, _, i + 1, .cons q t => .cons q (Vals.set r i t)
theorem Vals.append : ∀ {xs ys : List V} {us ws : List Value}, Vals xs us → Vals ys ws → Vals (xs ++ ys) (us ++ ws)
  | _, _, _, _, .nil, s => s
  | _, _, _, _, .cons r t, s => .cons r (Vals.append t s)
theorem Vals.take : ∀ {xs : List V} {us : List Value} (n : Nat), Vals xs us → Vals (xs.take n) (us.take n)
  | _, _, 0, _ => .nil
  | _, _, _ + 1, .nil => .nil
  | _, _, n + 1, .cons r t => .cons r (Vals.take n t)
theorem Vals.drop : ∀ {xs : List V} {us : List Value} (n : Nat), Vals xs us → Vals (xs.drop n) (us.drop n)
  | _, _, 0, r => r
  | _, _, _ + 1, .nil => .nil
  | _, _, n + 1, .cons _ t => Vals.drop n t
def RelO : Option V → Option Value → Prop
  | some v, some u => RelV v u
  | none, none => True
  | _, _ => False
def KV {κ : Type} : List (κ × V) → List (κ × Value) → Prop := Paired fun (p : κ × V) (q : κ × Value) => p.1 = q.1 ∧ RelV p.2 q.2

/-- a key of a dict (00_mix): an int or a text -/
def kV : Key → V
  | .inl i => .int i
  | .inr x => .str x

/-- what stands at a tracked address -/
inductive HO where
  /-- a list -/
  | lst (xs : List V)
  /-- a tuple (never changes) -/
  | tup (xs : List V)
  /-- a dict whose keys are ints and texts; one whose keys are tuples of ints and texts (the empty one is both) -/
  | dK (kvs : List (Key × V)) | dT (kvs : List (List Key × V))
  /-- a set of ints: its members, its size -/
  | set (S : Int → Bool) (n : Nat)
  /-- an instance of the class at C, its dict at dx, its attributes -/
  | ins (C dx : Addr) (fs : List (Str × V))
  /-- the dict of the instance at x -/
  | own (x : Addr)
  /-- the dict of an exception -/
  | xd (fs : List (Str × V))
  /-- a bound method, f of x -/
  | met (f x : Addr)
  /-- a range object lo, lo + 1, .. below hi -/
  | rng (lo hi : Int)
  /-- a thing that is known to the object (the script; a dict while a loop walks it): read, never written while it is so -/
  | frz (o : Obj) (u : HO)
  /-- a code object's table -/
  | tbl (ps : Array Value)
  /-- any other thing, by what is true of its one object (a def of one's own: SetO a S n := HO.ext fun h => ..) -/
  | ext (φ : Heap → Prop)

abbrev Hp := Addr → Option HO
def upd (H : Hp) (a : Addr) (o : HO) : Hp := fun b => if b = a then some o else H b
theorem upd_same {H : Hp} {a : Addr} {o : HO} : upd H a o a = some o := by unfold upd; rw [if_pos rfl]
theorem upd_ne {H : Hp} {a b : Addr} {o : HO} (h : b ≠ a) : upd H a o b = H b := by unfold upd; rw [if_neg h]
/-- two objects of different content stand apart -/
theorem ne_of {H : Hp} {a b : Addr} {o u : HO} (h : H a = some o) (h' : H b = some u) (d : o ≠ u) : a ≠ b := by
  intro e; subst e; rw [h] at h'; exact d (Option.some.inj h')
theorem ne_of_none {H : Hp} {a b : Addr} {o : HO} (h : H a = some o) (h' : H b = none) : a ≠ b := by
  intro e; subst e; rw [h] at h'; cases h'

section
variable (P : Program) (w : World)
def ObjOk (H : Hp) (h : Heap) (a : Addr) : HO → Prop
  | .lst xs => xs.length ≤ sizeLine ∧ ∃ (its : List Value) (n : Nat), Vals xs its ∧ h.get? a = some { cls := .type "list", data := .seq its.toArray n }
  | .tup xs => xs.length ≤ sizeLine ∧ ∃ its : List Value, Vals xs its ∧ IsTup h a its.toArray
  | .dK kvs => kvs.length ≤ sizeLine ∧ (a == sysModules) = false ∧ ∃ vs, KV kvs vs ∧ h.DictOf (mixKind P w) a vs
  | .dT kvs => kvs.length ≤ sizeLine ∧ (a == sysModules) = false ∧ ∃ xs : List (List Key × Addr × Value),
      Paired (fun (p : List Key × V) (q : List Key × Addr × Value) => p.1 = q.1 ∧ H q.2.1 = some (.tup (p.1.map kV)) ∧ RelV p.2 q.2.2) kvs xs ∧
      ∃ o es ep, h.get? a = some o ∧ o.ExactDict ∧ o.data = .dict es ep ∧ es.toList = xs.map (entryOfKey (tupleKind (mixKind P w))) ∧ (xs.map (·.1)).Nodup
  | .set S n => h.SetOf (intKind P w) a S n
  | .ins C dx fs => H dx = some (.own a) ∧ fs.length ≤ 1000 ∧ dx ≠ a ∧ h.get? a = some (PySem.W.instObj C dx) ∧
      ∃ mA, h.Ns1 dx mA ∧ (∀ f, RelO (fs.lookup f) (mA f)) ∧ PySem.Within mA (fs.map (·.1))
  | .own _ => ∃ o, h.get? a = some o
  | .xd fs => ∃ mA, h.Ns1 a mA ∧ ∀ f, RelO (fs.lookup f) (mA f)
  | .rng lo hi => ∃ t u v, h.get? a = some { cls := .type "range", data := .fields #[.int lo t, .int hi u, .int 1 v] }
  | .frz o u => h.get? a = some o ∧ ObjOk H h a u
  | .tbl ps => h.get? a = some { cls := .none, data := .fields ps }
  | .met f x => h.get? a = some (PySem.W.methodObj (.ref f) (.ref x))
  | .ext φ => φ h ∧ (∃ o, h.get? a = some o) ∧ ∀ h1 h2 : Heap, φ h1 → (∀ o, h1.get? a = some o → h2.get? a = some o) → φ h2
/-- the abstract heap is held -/
def HOk (H : Hp) (h : Heap) : Prop := ∀ a o, H a = some o → ObjOk P w H h a o
end

section
variable {P : Program} {w : World} {H H' : Hp} {h h' : Heap} {a : Addr} {o : HO}
theorem ObjOk.lt (x : ObjOk P w H h a o) : a < h.objs.size := by
  cases o with
  | lst xs => obtain ⟨_, _, _, _, e⟩ := x; exact Heap.lt_size e
  | tup xs => obtain ⟨_, _, _, p⟩ := x; exact p.lt
  | dK kvs => obtain ⟨_, _, _, _, o, _, _, e, _⟩ := x; exact Heap.lt_size e
  | dT kvs => obtain ⟨_, _, _, _, o, _, _, e, _⟩ := x; exact Heap.lt_size e
  | set S n => obtain ⟨o, _, _, _, e, _⟩ := x; exact Heap.lt_size e
  | ins C dx fs => obtain ⟨_, _, _, e, _⟩ := x; exact Heap.lt_size e
  | own y => obtain ⟨_, e⟩ := x; exact Heap.lt_size e
  | xd fs => obtain ⟨_, ⟨_, _, _, e, _⟩, _⟩ := x; exact Heap.lt_size e
  | rng lo hi => obtain ⟨_, _, _, e⟩ := x; exact Heap.lt_size e
  | frz ob u => obtain ⟨e, _⟩ := x; exact Heap.lt_size e
  | tbl ps => exact Heap.lt_size (show h.get? a = some _ from x)
  | met f y => exact Heap.lt_size (show h.get? a = some _ from x)
  | ext φ => obtain ⟨_, ⟨_, e⟩, _⟩ := x; exact Heap.lt_size e
theorem Paired.mapP {α β : Type} {F G : α → β → Prop} : ∀ {l₁ : List α} {l₂ : List β}, Paired F l₁ l₂ → (∀ a b, F a b → G a b) → Paired G l₁ l₂
  | _, _, .nil, _ => .nil
  | _, _, .cons r t, f => .cons (f _ _ r) (Paired.mapP t f)
/-- what an object's description leans on: its own object, its own dict, the tuples -/
theorem ObjOk.stay (x : ObjOk P w H h a o) (k : ∀ b u, (b = a ∨ H b = some (.own a)) → h.get? b = some u → h'.get? b = some u)
    (ho : ∀ b, H b = some (.own a) → H' b = some (.own a)) (ht : ∀ b xs, H b = some (.tup xs) → H' b = some (.tup xs)) : ObjOk P w H' h' a o := by
  induction o with
  | lst xs => obtain ⟨z, its, n, r, e⟩ := x; exact ⟨z, its, n, r, k _ _ (.inl rfl) e⟩
  | tup xs => obtain ⟨z, its, r, ob, e, c⟩ := x; exact ⟨z, its, r, ob, k _ _ (.inl rfl) e, c⟩
  | dK kvs => obtain ⟨z, y, vs, r, ob, es, ep, e, c⟩ := x; exact ⟨z, y, vs, r, ob, es, ep, k _ _ (.inl rfl) e, c⟩
  | dT kvs =>
    obtain ⟨z, y, xs, r, ob, es, ep, e, c⟩ := x
    exact ⟨z, y, xs, Paired.mapP r fun p q z => ⟨z.1, ht _ _ z.2.1, z.2.2⟩, ob, es, ep, k _ _ (.inl rfl) e, c⟩
  | set S n => obtain ⟨ob, es, ep, t, e, c⟩ := x; exact ⟨ob, es, ep, t, k _ _ (.inl rfl) e, c⟩
  | ins C dx fs =>
    obtain ⟨d, z, ne, e, mA, ⟨od, es, ep, e2, c⟩, r⟩ := x
    exact ⟨ho _ d, z, ne, k _ _ (.inl rfl) e, mA, ⟨od, es, ep, k _ _ (.inr d) e2, c⟩, r⟩
  | own y => obtain ⟨ob, e⟩ := x; exact ⟨ob, k _ _ (.inl rfl) e⟩
  | xd fs => obtain ⟨mA, ⟨od, es, ep, e, c⟩, r⟩ := x; exact ⟨mA, ⟨od, es, ep, k _ _ (.inl rfl) e, c⟩, r⟩
  | rng lo hi => obtain ⟨t, u, v, e⟩ := x; exact ⟨t, u, v, k _ _ (.inl rfl) e⟩
  | frz ob u ih => obtain ⟨e, q⟩ := x; exact ⟨k _ _ (.inl rfl) e, ih q⟩
  | tbl ps =>
    have e : h.get? a = some { cls := .none, data := .fields ps } := x
    show h'.get? a = some { cls := .none, data := .fields ps }
    exact k a _ (.inl rfl) e
  | met f y =>
    have e : h.get? a = some (PySem.W.methodObj (.ref f) (.ref y)) := x
    show h'.get? a = some (PySem.W.methodObj (.ref f) (.ref y))
    exact k a _ (.inl rfl) e
  | ext φ => obtain ⟨p, ⟨o, e⟩, st⟩ := x; exact ⟨st _ _ p fun o q => k _ _ (.inl rfl) q, ⟨o, k _ _ (.inl rfl) e⟩, st⟩
theorem HOk.lt (x : HOk P w H h) (e : H a = some o) : a < h.objs.size := (x a o e).lt
theorem HOk.fresh (x : HOk P w H h) (e : h.objs.size ≤ a) : H a = none := by
  cases q : H a with
  | none => rfl
  | some u => exact absurd (Nat.lt_of_lt_of_le (x.lt q) e) (Nat.lt_irrefl _)
/-- every object of the heap is kept -/
theorem HOk.kept (x : HOk P w H h) (k : ∀ b u, h.get? b = some u → h'.get? b = some u) : HOk P w H h' := fun a o e =>
  (x a o e).stay (fun b u _ q => k b u q) (fun _ q => q) fun _ _ q => q
/-- a new object is laid and tracked -/
theorem HOk.laid (x : HOk P w H h) (k : ∀ b u, h.get? b = some u → h'.get? b = some u) (hp : h.objs.size ≤ a) (new : ObjOk P w (upd H a o) h' a o) : HOk P w (upd H a o) h' := fun b u e => by
  have hn := x.fresh hp
  by_cases hb : b = a
  · subst hb; rw [upd_same] at e; cases e; exact new
  · rw [upd_ne hb] at e
    exact (x b u e).stay (fun c v _ q => k c v q) (fun c q => by rw [upd_ne (ne_of_none q hn)]; exact q) fun c xs q => by rw [upd_ne (ne_of_none q hn)]; exact q
end

/-- what may be read as u: it is u, or a known u -/
def Rd (H : Hp) (a : Addr) (u : HO) : Prop := H a = some u ∨ ∃ o, H a = some (.frz o u)
theorem Rd.ok {P : Program} {w : World} {H : Hp} {h : Heap} {a : Addr} {u : HO} (r : Rd H a u) (x : HOk P w H h) : ObjOk P w H h a u := by
  rcases r with r | ⟨o, r⟩
  · exact x a u r
  · obtain ⟨_, q⟩ := x a _ r
    exact q
/-- what may be written -/
def Mut : Option HO → Prop
  | some (.lst _) => True
  | some (.dK _) => True
  | some (.dT _) => True
  | some (.set _ _) => True
  | some (.ins _ _ _) => True
  | some (.ext _) => True
  | _ => False
section
variable {P : Program} {w : World} {H : Hp} {h h' : Heap} {x e : Addr} {o' : HO}
/-- the object at e is changed: x itself, or the dict of the instance x -/
theorem HOk.write (ok : HOk P w H h) (mu : Mut (H x)) (he : e = x ∨ H e = some (.own x)) (k : ∀ b u, b ≠ e → h.get? b = some u → h'.get? b = some u) (heo : ∃ u, h'.get? e = some u)
    (new : ObjOk P w (upd H x o') h' x o') : HOk P w (upd H x o') h' := fun b u q => by
  have nown : ∀ c y, H c = some (.own y) → c ≠ x := fun c y r z => by subst z; rw [r] at mu; exact mu
  have ntup : ∀ c xs, H c = some (.tup xs) → c ≠ x := fun c xs r z => by subst z; rw [r] at mu; exact mu
  by_cases hb : b = x
  · subst hb; rw [upd_same] at q; cases q; exact new
  · rw [upd_ne hb] at q
    by_cases hbe : b = e
    · have q' : H b = some (.own x) := by
        rcases he with z | z
        · exact absurd (hbe.trans z) hb
        · rw [hbe]; exact z
      rw [q] at q'; cases q'
      obtain ⟨v, hv⟩ := heo
      exact ⟨v, by rw [hbe]; exact hv⟩
    · refine (ok b u q).stay (fun c v hc r => k c v ?_ r) (fun c r => by rw [upd_ne (nown c b r)]; exact r) fun c xs r => by rw [upd_ne (ntup c xs r)]; exact r
      rcases hc with rfl | hc
      · exact hbe
      · rintro rfl
        rcases he with z | z
        · exact nown c b hc z
        · rw [hc] at z; cases z; exact hb rfl
end

/-! ### kept unless tracked; of the frames at fs (the callers') the slots may change (an exception that passes writes there); of the records at ex (iterators) nothing is said -/
structure Un (fs ex : List Addr) (H H' : Hp) (h h' : Heap) : Prop where
  keep : ∀ b o, h.get? b = some o → H b = none → b ∉ fs → b ∉ ex → h'.get? b = some o
  slot : ∀ b o, h.get? b = some o → H b = none → b ∈ fs → b ∉ ex → ∃ sl, h'.get? b = some { o with slots := sl }
  free : ∀ b o, h.get? b = some o → H b = none → b ∉ ex → H' b = none
  there : ∀ b o, h.get? b = some o → b ∉ ex → ∃ o', h'.get? b = some o'
  tups : ∀ b xs, H b = some (.tup xs) → H' b = some (.tup xs)
  frzs : ∀ b o u, H b = some (.frz o u) → H' b = some (.frz o u)
  tbls : ∀ b ps, H b = some (.tbl ps) → ∃ more, H' b = some (.tbl (ps ++ more))
section
variable {fs fs' ex ex' : List Addr} {H H1 H2 : Hp} {h h1 h2 h' : Heap} {a x e : Addr} {o : HO}
theorem Un.any (u : Un fs ex H H1 h h1) {b : Addr} {ob : Obj} (q : h.get? b = some ob) (n : H b = none) (hx : b ∉ ex) : ∃ sl, h1.get? b = some { ob with slots := sl } := by
  by_cases hb : b ∈ fs
  · exact u.slot b ob q n hb hx
  · exact ⟨ob.slots, u.keep b ob q n hb hx⟩
theorem Un.kept (k : ∀ b u, h.get? b = some u → h'.get? b = some u) : Un fs ex H H h h' :=
  ⟨fun b ob q _ _ _ => k b ob q, fun b ob q _ _ _ => ⟨ob.slots, k b ob q⟩, fun _ _ _ n _ => n, fun b ob q _ => ⟨ob, k b ob q⟩, fun _ _ q => q, fun _ _ _ q => q, fun _ ps q => ⟨#[], by rw [q]; simp⟩⟩
theorem Un.refl : Un fs ex H H h h := Un.kept fun _ _ q => q
theorem Un.laid (k : ∀ b u, h.get? b = some u → h'.get? b = some u) (hp : h.objs.size ≤ a) (hn : H a = none) : Un fs ex H (upd H a o) h h' where
  keep := fun b u q _ _ _ => k b u q
  slot := fun b u q _ _ _ => ⟨u.slots, k b u q⟩
  free := fun b u q n _ => by rw [upd_ne (Nat.ne_of_lt (Nat.lt_of_lt_of_le (Heap.lt_size q) hp))]; exact n
  there := fun b u q _ => ⟨u, k b u q⟩
  tups := fun b xs q => by rw [upd_ne (ne_of_none q hn)]; exact q
  frzs := fun b u xs q => by rw [upd_ne (ne_of_none q hn)]; exact q
  tbls := fun b ps q => ⟨#[], by rw [upd_ne (ne_of_none q hn), q]; simp⟩
theorem Un.write (mu : Mut (H x)) (he : e = x ∨ H e = some (.own x)) (k : ∀ b u, b ≠ e → h.get? b = some u → h'.get? b = some u) (heo : ∃ u, h'.get? e = some u) : Un fs ex H (upd H x o) h h' := by
  have hx : ∀ b, H b = none → b ≠ x := fun b n z => by subst z; rw [n] at mu; exact mu
  have hb : ∀ b, H b = none → b ≠ e := fun b n z => by
    subst z
    rcases he with r | r
    · exact hx b n r
    · rw [n] at r; cases r
  have hm : ∀ b u, H b = some u → ¬ Mut (some u) → b ≠ x := fun b u q nm z => by subst z; rw [q] at mu; exact nm mu
  refine ⟨fun b u q n _ _ => k b u (hb b n) q, fun b u q n _ _ => ⟨u.slots, k b u (hb b n) q⟩, fun b u q n _ => by rw [upd_ne (hx b n)]; exact n, fun b u q _ => ?_,
    fun b xs q => by rw [upd_ne (hm b _ q fun z => z)]; exact q, fun b u xs q => by rw [upd_ne (hm b _ q fun z => z)]; exact q, fun b ps q => ⟨#[], by rw [upd_ne (hm b _ q fun z => z), q]; simp⟩⟩
  by_cases hbe : b = e
  · subst hbe; exact heo
  · exact ⟨u, k b u hbe q⟩
end

/-! ### the heap without what is tracked -/
def trk (h : Heap) (H : Hp) : List Addr := (List.range h.objs.size).filter fun a => (H a).isSome
def hidT (h : Heap) (H : Hp) : Heap := PySem.W.hideAll h (trk h H)
theorem hidT_size (h : Heap) (H : Hp) : (hidT h H).objs.size = h.objs.size := PySem.W.hideAll_size _ _
theorem hidT_get {h : Heap} {H : Hp} {b : Addr} {o : Obj} (e : h.get? b = some o) (n : H b = none) : (hidT h H).get? b = some o :=
  PySem.W.hideAll_get _ e fun hm => by
    have q : (H b).isSome = true := (List.mem_filter.mp hm).2
    rw [n] at q; simp at q
theorem of_hidT {h : Heap} {H : Hp} {b : Addr} {o : Obj} (e : (hidT h H).get? b = some o) : h.get? b = some o ∧ H b = none := by
  have e' : h.get? b = some o := PySem.W.of_hideAll (trk h H) e
  refine ⟨e', ?_⟩
  cases q : H b with
  | none => rfl
  | some x =>
    have hm : b ∈ trk h H := List.mem_filter.mpr ⟨List.mem_range.mpr (Heap.lt_size e'), by simp [q]⟩
    have z : (hidT h H).get? b = none := PySem.W.hideAll_none (trk h H) hm
    rw [z] at e; cases e

/-! ### OpenK's ledger, filled with every new object but one -/
def allNews (g h : Heap) (L : Addr) : List (Addr × Obj) := (List.range h.objs.size).filterMap fun a => if a = L ∨ (g.get? a).isSome = true then none else (h.get? a).map fun o => (a, o)
def rest (g h : Heap) (L d : Addr) : List (Addr × Obj) := (allNews g h L).filter fun p => decide (p.1 ≠ d)
end L2

namespace L2
open PySem PySem.Spec PyProof.Rows

/-- the module's facts, over the base: the heap at the law's entry without what is tracked there -/
structure Mod (K : PySem.W.Frag) (mg : Str → Option Value) (base : Heap) : Prop where
  kin : K.In base
  glob : base.Ns mainGlobals mg
  blt : ∃ mb, base.Ns builtinsNs mb ∧ ∀ x : Str, x ≠ "__name__" → mb x = bootBuiltins x
  nolimit : base.NoLimit

/-- the context: a def's body (or a comprehension's block) running. base: fixed through the whole law; s₀, H₀: the entry; outer: the frames whose slots others may change (a def's callers); stack: all frames that run;
   ex: iterators that were made ahead of the entry and are walked here (a comprehension's); fn: the names whose cells were made at the entry (a def: all; a comprehension's block: its own); calm: not within an except suite; pn: pins that every state bears; xe: what is wanted of an exception that leaves the code -/
structure Cx where
  prog : Program
  w : World
  K : PySem.W.Frag
  mg : Str → Option Value
  base : Heap
  A : Around
  N : List Str
  s₀ : Shared
  H₀ : Hp
  env : Env
  outer : List Env
  stack : List Env
  ex : List Addr
  fn : Str → Bool
  calm : Bool
  pn : List (Addr × Obj)
  xe : Value → Shared → Prop
/-- the callers' frames -/
def frs (l : List Env) : List Addr := l.filterMap (·.frame)
abbrev Cx.fs (X : Cx) : List Addr := frs X.outer

def Vis (sc : Scope) (x : Str) : Prop := sc.names.lookup x = some .local ∨ sc.names.lookup x = some .cell ∨ sc.names.lookup x = some .free
def Loc (sc : Scope) (x : Str) : Prop := sc.names.lookup x = some .local ∨ sc.names.lookup x = some .cell
def Look (env : Env) (h : Heap) (m : Str → Option Value) (x : Str) (u : Value) : Prop :=
  (env.kindOf x = some .local ∧ m x = some u) ∨ ((env.kindOf x = some .cell ∨ env.kindOf x = some .free) ∧ ∃ c, env.cells.lookup x = some c ∧ h.IsCell c (some u))

structure Cx.Ok (X : Cx) : Prop where
  mod : Mod X.K X.mg X.base
  kind : X.env.scope.kind = .function
  glob : X.env.globals = mainGlobals
  blt : X.env.builtins = builtinsNs
  above : X.s₀.heap.objs.size ≤ X.env.locals
  inj : ∀ x y c, X.env.cells.lookup x = some c → X.env.cells.lookup y = some c → x = y
  has : ∀ x, (X.env.kindOf x = some .cell ∨ X.env.kindOf x = some .free) → ∃ c, X.env.cells.lookup x = some c
  cab : ∀ x c, X.fn x = true → X.env.cells.lookup x = some c → X.s₀.heap.objs.size ≤ c
  hd : X.calm = true → X.A.handled = none
  frames : X.A.frames = some X.stack
  stk : X.stack = X.outer ∨ (X.stack = X.env :: X.outer ∧ X.env.frame = some X.env.locals)
  exf : ∀ b ∈ X.ex, b ≠ X.env.locals ∧ ∀ x c, X.env.cells.lookup x = some c → c ≠ b
  bs : ∀ b o, X.base.get? b = some o → X.s₀.heap.get? b = some o ∧ X.H₀ b = none
  bsz : X.base.objs.size ≤ X.s₀.heap.objs.size
  noex : ∀ b o, X.base.get? b = some o → b ∉ X.ex
  exfs : ∀ b ∈ X.ex, b ∉ X.fs
  funs : X.s₀.heap.FunFrames X.base X.outer
  frf : ∀ b ∈ X.fs, X.H₀ b = none

structure Inv (X : Cx) (pins : List (Addr × Obj)) (σ : List (Option V)) (H : Hp) (s : Shared) : Prop where
  ok : X.Ok
  os : s.os = X.s₀.os
  bare : AllBare s.gens
  base : Un X.fs X.ex X.H₀ H X.s₀.heap s.heap
  loc : ∃ m, s.heap.Ns X.env.locals m ∧ ∀ (i : Nat) (x : Str) (v : V), X.N[i]? = some x → σ[i]? = some (some v) → Vis X.env.scope x → ∃ u, RelV v u ∧ Look X.env s.heap m x u
  cell : ∀ x c, X.env.cells.lookup x = some c → ∃ v, s.heap.IsCell c v
  free : H X.env.locals = none
  freeC : ∀ x c, X.env.cells.lookup x = some c → H c = none
  pin : ∀ p ∈ X.pn ++ pins, s.heap.get? p.1 = some p.2 ∧ H p.1 = none ∧ p.1 ≠ X.env.locals ∧ p.1 ∉ X.fs ∧ ∀ v, p.2.data ≠ .cell v
  hok : HOk X.prog X.w H s.heap
  len : σ.length = X.N.length

section
variable {X : Cx} {pins : List (Addr × Obj)} {σ : List (Option V)} {H H' : Hp} {s : Shared} {h' : Heap}

theorem Cx.Ok.nofr (ok : X.Ok) {b : Addr} {o : Obj} (e : X.base.get? b = some o) : b ∉ X.fs := fun hb => by
  have := (ok.funs.mem hb).1
  rw [e] at this; cases this
theorem Inv.bs (I : Inv X pins σ H s) : ∀ b o, X.base.get? b = some o → s.heap.get? b = some o ∧ H b = none := fun b o e =>
  ⟨I.base.keep b o (I.ok.bs b o e).1 (I.ok.bs b o e).2 (I.ok.nofr e) (I.ok.noex b o e), I.base.free b o (I.ok.bs b o e).1 (I.ok.bs b o e).2 (I.ok.noex b o e)⟩
theorem Inv.bk (I : Inv X pins σ H s) : ∀ b o, X.base.get? b = some o → s.heap.get? b = some o := fun b o e => (I.bs b o e).1
theorem Inv.mod (I : Inv X pins σ H s) : Mod X.K X.mg X.base := I.ok.mod
theorem Inv.kIn (I : Inv X pins σ H s) : X.K.In s.heap := I.ok.mod.kin.keeps I.bk
theorem Inv.lt (I : Inv X pins σ H s) : X.env.locals < s.heap.objs.size := let ⟨_, hn, _⟩ := I.loc; hn.lt
theorem Inv.sz (I : Inv X pins σ H s) : X.s₀.heap.objs.size ≤ s.heap.objs.size := Nat.le_trans I.ok.above (Nat.le_of_lt I.lt)
theorem Inv.nofs (I : Inv X pins σ H s) {a : Addr} (h : s.heap.objs.size ≤ a) : a ∉ X.fs := fun hb => by
  obtain ⟨_, o, ho, _⟩ := I.ok.funs.mem hb
  exact absurd (Nat.lt_of_lt_of_le (Heap.lt_size ho) (Nat.le_trans I.sz h)) (Nat.lt_irrefl _)
theorem Inv.cne (I : Inv X pins σ H s) : ∀ x c, X.env.cells.lookup x = some c → c ≠ X.env.locals := fun x c e z => by
  obtain ⟨v, o, ho, hd⟩ := I.cell x c e
  obtain ⟨m, ⟨o', es, ep, ho', hd', _⟩, _⟩ := I.loc
  rw [z, ho'] at ho; cases ho; rw [hd'] at hd; cases hd
theorem Inv.funs (I : Inv X pins σ H s) : s.heap.FunFrames X.base X.outer := by
  have all : ∀ (l : List Env), (∀ b ∈ frs l, b ∈ X.fs) → X.s₀.heap.FunFrames X.base l → s.heap.FunFrames X.base l := by
    intro l
    induction l with
    | nil => intro _ _; trivial
    | cons env r ih =>
      intro hs hl
      obtain ⟨hk, ⟨L, o, hf, hn, ho, hd⟩, hr⟩ := hl
      have hL : L ∈ X.fs := hs L (by unfold frs; rw [List.filterMap_cons, hf]; exact List.mem_cons_self)
      obtain ⟨sl, e⟩ := I.base.slot L o ho (I.ok.frf L hL) hL fun z => I.ok.exfs L z hL
      exact ⟨hk, ⟨L, _, hf, hn, e, hd⟩, ih (fun b hb => hs b (by unfold frs; rw [List.filterMap_cons, hf]; exact List.mem_cons_of_mem _ hb)) hr⟩
  exact all X.outer (fun _ hb => hb) I.ok.funs

/-- the frames that run, for a call -/
theorem Inv.stack (I : Inv X pins σ H s) : s.heap.FunFrames X.base X.stack := by
  rcases I.ok.stk with e | ⟨e, hf⟩
  · rw [e]; exact I.funs
  · rw [e]
    obtain ⟨m, hn, _⟩ := I.loc
    refine .cons (by rw [I.ok.kind]; decide) hf hn ?_ I.funs
    exact Heap.get?_none_of_le (Nat.le_trans I.ok.bsz I.ok.above)
theorem Inv.stkSub (I : Inv X pins σ H s) : ∀ b ∈ frs X.stack, b ∈ X.env.locals :: X.fs := fun b hb => by
  rcases I.ok.stk with e | ⟨e, hf⟩
  · rw [e] at hb; exact List.mem_cons_of_mem _ hb
  · rw [e] at hb
    unfold frs at hb
    rw [List.filterMap_cons, hf] at hb
    exact hb
theorem Inv.stkFree (I : Inv X pins σ H s) : ∀ b ∈ frs X.stack, H b = none := fun b hb => by
  rcases List.mem_cons.mp (I.stkSub b hb) with e | hb
  · rw [e]; exact I.free
  · obtain ⟨_, o, ho, _⟩ := I.ok.funs.mem hb
    exact I.base.free b o ho (I.ok.frf b hb) fun z => I.ok.exfs b z hb

/-- THE STEP: the untracked objects but the frame and the records at ch are kept (the callers' frames up to slots), the frame's map is kept, the new abstract heap is held -/
theorem Inv.step {g' : Array GenState} {t' : Nat} {d' : Drawn} {ch : List Addr} (I : Inv X pins σ H s)
    (hch : ∀ b ∈ ch, (b ∈ X.ex ∨ X.s₀.heap.objs.size ≤ b) ∧ b ≠ X.env.locals ∧ (∀ x c, X.env.cells.lookup x = some c → c ≠ b) ∧ ∀ p ∈ X.pn ++ pins, p.1 ≠ b)
    (keep : ∀ b o, b ≠ X.env.locals → b ∉ X.fs → b ∉ ch → s.heap.get? b = some o → H b = none → h'.get? b = some o)
    (slot : ∀ b o, b ≠ X.env.locals → b ∈ X.fs → b ∉ ch → s.heap.get? b = some o → H b = none → ∃ sl, h'.get? b = some { o with slots := sl }) (free : ∀ b o, b ∉ ch → s.heap.get? b = some o → H b = none → H' b = none)
    (there : ∀ b o, b ∉ ch → s.heap.get? b = some o → ∃ o', h'.get? b = some o')
    (tups : ∀ b xs, H b = some (.tup xs) → H' b = some (.tup xs)) (frzs : ∀ b o u, H b = some (.frz o u) → H' b = some (.frz o u)) (tbls : ∀ b ps, H b = some (.tbl ps) → ∃ more, H' b = some (.tbl (ps ++ more)))
    (ns : ∀ m, s.heap.Ns X.env.locals m → h'.Ns X.env.locals m) (hok : HOk X.prog X.w H' h') (hg : AllBare g') :
    Inv X pins σ H' { s with heap := h', gens := g', drawn := d', toks := t' } := by
  have neL : ∀ b o, X.s₀.heap.get? b = some o → b ≠ X.env.locals := fun b o e => Nat.ne_of_lt (Nat.lt_of_lt_of_le (Heap.lt_size e) I.ok.above)
  have neC : ∀ b o, X.s₀.heap.get? b = some o → b ∉ X.ex → b ∉ ch := fun b o e hx hb => by
    rcases (hch b hb).1 with z | z
    · exact hx z
    · exact absurd (Nat.lt_of_lt_of_le (Heap.lt_size e) z) (Nat.lt_irrefl _)
  have cellK : ∀ x c, X.env.cells.lookup x = some c → ∀ v, s.heap.IsCell c v → h'.IsCell c v := fun x c e v ⟨o, ho, hd⟩ => by
    have nch : c ∉ ch := fun z => (hch c z).2.2.1 x c e rfl
    by_cases hc : c ∈ X.fs
    · obtain ⟨sl, q⟩ := slot c o (I.cne x c e) hc nch ho (I.freeC x c e)
      exact ⟨_, q, hd⟩
    · exact ⟨o, keep c o (I.cne x c e) hc nch ho (I.freeC x c e), hd⟩
  refine ⟨I.ok, I.os, hg, ⟨fun b o e n hb hx => ?_, fun b o e n hb hx => ?_, fun b o e n hx => ?_, fun b o e hx => ?_, fun b xs e => tups b xs (I.base.tups b xs e), fun b o xs e => frzs b o xs (I.base.frzs b o xs e), fun b ps e => ?_⟩, ?_, fun x c e => ?_, ?_, fun x c e => ?_, fun p hp => ?_, hok, I.len⟩
  · exact keep b o (neL b o e) hb (neC b o e hx) (I.base.keep b o e n hb hx) (I.base.free b o e n hx)
  · obtain ⟨sl, e1⟩ := I.base.slot b o e n hb hx
    obtain ⟨sl', e2⟩ := slot b _ (neL b o e) hb (neC b o e hx) e1 (I.base.free b o e n hx)
    exact ⟨sl', e2⟩
  · obtain ⟨o', e1⟩ := I.base.there b o e hx
    exact free b o' (neC b o e hx) e1 (I.base.free b o e n hx)
  · obtain ⟨o', e1⟩ := I.base.there b o e hx
    exact there b o' (neC b o e hx) e1
  · obtain ⟨m1, e1⟩ := I.base.tbls b ps e
    obtain ⟨m2, e2⟩ := tbls b _ e1
    exact ⟨m1 ++ m2, by rw [e2, Array.append_assoc]⟩
  · obtain ⟨m, hn, hl⟩ := I.loc
    refine ⟨m, ns m hn, fun i x v e1 e2 e3 => ?_⟩
    obtain ⟨u, r, l⟩ := hl i x v e1 e2 e3
    refine ⟨u, r, ?_⟩
    rcases l with l | ⟨k, c, e, z⟩
    · exact .inl l
    · exact .inr ⟨k, c, e, cellK x c e _ z⟩
  · obtain ⟨v, z⟩ := I.cell x c e
    exact ⟨v, cellK x c e v z⟩
  · obtain ⟨m, ⟨o, _, _, ho, _⟩, _⟩ := I.loc
    exact free _ o (fun z => (hch _ z).2.1 rfl) ho I.free
  · obtain ⟨v, o, ho, hd⟩ := I.cell x c e
    exact free c o (fun z => (hch c z).2.2.1 x c e rfl) ho (I.freeC x c e)
  · obtain ⟨e, n, ne, nf, d⟩ := I.pin p hp
    have nch : p.1 ∉ ch := fun z => (hch p.1 z).2.2.2 p hp rfl
    exact ⟨keep p.1 p.2 ne nf nch e n, free p.1 p.2 nch e n, ne, nf, d⟩
/-- .. where the frame's own object is kept too -/
theorem Inv.un {t' : Nat} (I : Inv X pins σ H s) (u : Un X.fs [] H H' s.heap h') (hok : HOk X.prog X.w H' h') : Inv X pins σ H' { s with heap := h', toks := t' } := by
  obtain ⟨m, ⟨o, es, ep, ho, r⟩, _⟩ := id I.loc
  obtain ⟨sl, hL⟩ := u.any ho I.free (by simp)
  exact I.step (g' := s.gens) (d' := s.drawn) (ch := []) (fun _ z => nomatch z) (fun b o _ hb _ e n => u.keep b o e n hb (by simp)) (fun b o _ hb _ e n => u.slot b o e n hb (by simp)) (fun b o _ e n => u.free b o e n (by simp)) (fun b o _ e => u.there b o e (by simp)) u.tups u.frzs u.tbls (fun m' hm => by
    obtain ⟨o', es', ep', ho', r'⟩ := hm
    rw [ho] at ho'; cases ho'
    exact ⟨_, es', ep', hL, r'⟩) hok I.bare
/-- behind a call (or a comprehension's block): the slots of this frame may have changed too, the records at ch may have turned -/
theorem Inv.call {g' : Array GenState} {t' : Nat} {d' : Drawn} {ch : List Addr} (I : Inv X pins σ H s) (u : Un (frs X.stack) ch H H' s.heap h') (hok : HOk X.prog X.w H' h') (hg : AllBare g')
    (hch : ∀ b ∈ ch, (b ∈ X.ex ∨ X.s₀.heap.objs.size ≤ b) ∧ b ≠ X.env.locals ∧ (∀ x c, X.env.cells.lookup x = some c → c ≠ b) ∧ ∀ p ∈ X.pn ++ pins, p.1 ≠ b) :
    Inv X pins σ H' { s with heap := h', gens := g', drawn := d', toks := t' } := by
  obtain ⟨m, ⟨o, es, ep, ho, r⟩, _⟩ := id I.loc
  obtain ⟨sl, hL⟩ := u.any ho I.free fun z => (hch _ z).2.1 rfl
  exact I.step (ch := ch) hch (fun b o hL hb hc e n => u.keep b o e n (fun z => (List.mem_cons.mp (I.stkSub b z)).elim hL hb) hc) (fun b o _ _ hc e n => u.any e n hc) (fun b o hc e n => u.free b o e n hc) (fun b o hc e => u.there b o e hc) u.tups u.frzs u.tbls (fun m' hm => by
    obtain ⟨o', es', ep', ho', r'⟩ := hm
    rw [ho] at ho'; cases ho'
    exact ⟨_, es', ep', hL, r'⟩) hok hg
/-- an untracked record of ours (an iterator) has turned -/
theorem Inv.turned {t' : Nat} {it : Addr} (I : Inv X pins σ H s) (k : ∀ b o, b ≠ it → s.heap.get? b = some o → h'.get? b = some o) (hn : H it = none) (hL : it ≠ X.env.locals)
    (h1 : it ∈ X.ex ∨ X.s₀.heap.objs.size ≤ it) (h2 : ∀ x c, X.env.cells.lookup x = some c → c ≠ it) (h3 : ∀ p ∈ X.pn ++ pins, p.1 ≠ it) : Inv X pins σ H { s with heap := h', toks := t' } := by
  have nit : ∀ b u, H b = some u → b ≠ it := fun b u e z => by rw [z, hn] at e; cases e
  refine I.step (g' := s.gens) (d' := s.drawn) (ch := [it]) (fun b hb => ?_) (fun b o _ _ hc e _ => k b o (fun z => hc (by simp [z])) e) (fun b o _ _ hc e _ => ⟨o.slots, k b o (fun z => hc (by simp [z])) e⟩) (fun _ _ _ _ n => n)
    (fun b o hc e => ⟨o, k b o (fun z => hc (by simp [z])) e⟩) (fun _ _ e => e) (fun _ _ _ e => e) (fun b ps e => ⟨#[], by rw [e]; simp⟩) (fun m hm => ?_) (fun b u e => ?_) I.bare
  · have e : b = it := by simpa using hb
    subst e
    exact ⟨h1, hL, h2, h3⟩
  · obtain ⟨o, es, ep, ho, r⟩ := hm
    exact ⟨o, es, ep, k _ o (Ne.symm hL) ho, r⟩
  · refine (I.hok b u e).stay (fun c v hc q => k c v ?_ q) (fun _ q => q) fun _ _ q => q
    rcases hc with z | z
    · rw [z]; exact nit b u e
    · exact nit c _ z
theorem Inv.tok (I : Inv X pins σ H s) (t : Nat) : Inv X pins σ H { s with toks := t } := I.un (h' := s.heap) (t' := t) Un.refl I.hok
/-- all objects kept -/
theorem Inv.kept {t' : Nat} (I : Inv X pins σ H s) (k : ∀ b u, s.heap.get? b = some u → h'.get? b = some u) : Inv X pins σ H { s with heap := h', toks := t' } := I.un (Un.kept k) (I.hok.kept k)
/-- a new object laid and tracked -/
theorem Inv.laid {a : Addr} {o : HO} {t' : Nat} (I : Inv X pins σ H s) (k : ∀ b u, s.heap.get? b = some u → h'.get? b = some u) (hp : s.heap.objs.size ≤ a) (new : ObjOk X.prog X.w (upd H a o) h' a o) :
    Inv X pins σ (upd H a o) { s with heap := h', toks := t' } := I.un (Un.laid k hp (I.hok.fresh hp)) (I.hok.laid k hp new)
/-- an object written -/
theorem Inv.write {x e : Addr} {o : HO} {t' : Nat} (I : Inv X pins σ H s) (mu : Mut (H x)) (he : e = x ∨ H e = some (.own x)) (k : ∀ b u, b ≠ e → s.heap.get? b = some u → h'.get? b = some u) (heo : ∃ u, h'.get? e = some u)
    (new : ObjOk X.prog X.w (upd H x o) h' x o) : Inv X pins σ (upd H x o) { s with heap := h', toks := t' } := I.un (Un.write mu he k heo) (I.hok.write mu he k heo new)
/-- forgetting slots, pins -/
theorem Inv.weak {σ' : List (Option V)} (I : Inv X pins σ H s) (hl : σ'.length = σ.length) (w : ∀ (i : Nat) v, σ'[i]? = some (some v) → σ[i]? = some (some v)) : Inv X pins σ' H s :=
  ⟨I.ok, I.os, I.bare, I.base, let ⟨m, hn, hl'⟩ := I.loc; ⟨m, hn, fun i x v e1 e2 e3 => hl' i x v e1 (w i v e2) e3⟩, I.cell, I.free, I.freeC, I.pin, I.hok, hl.trans I.len⟩
theorem Inv.pins_of {pins' : List (Addr × Obj)} (I : Inv X pins σ H s) (h : ∀ p ∈ pins', s.heap.get? p.1 = some p.2 ∧ H p.1 = none ∧ p.1 ≠ X.env.locals ∧ p.1 ∉ X.fs ∧ ∀ v, p.2.data ≠ .cell v) : Inv X pins' σ H s :=
  ⟨I.ok, I.os, I.bare, I.base, I.loc, I.cell, I.free, I.freeC, fun p hp => (List.mem_append.mp hp).elim (fun z => I.pin p (List.mem_append_left _ z)) (h p), I.hok, I.len⟩

theorem nodup_ix {N : List Str} (hN : N.Nodup) {i j : Nat} {x : Str} (a : N[i]? = some x) (b : N[j]? = some x) : i = j := by
  obtain ⟨h1, e1⟩ := List.getElem?_eq_some_iff.mp a
  obtain ⟨h2, e2⟩ := List.getElem?_eq_some_iff.mp b
  exact (List.getElem_inj hN).mp (e1.trans e2.symm)

/-- a name is stored; what changed -/
theorem store_ok2 {M : Model} {A : Around} {E : Value → Shared → Prop} {i : Nat} {x : Str} {v : V} {u : Value} {Q : Unit → Shared → Prop} (I : Inv X pins σ H s) (hN : X.N.Nodup) (hi : X.N[i]? = some x) (hx : Loc X.env.scope x) (r : RelV v u)
    (h : ∀ s', Inv X pins (σ.set i (some v)) H s' → (∃ a, Heap.SameBut a s.heap s'.heap ∧ (a = X.env.locals ∨ X.env.cells.lookup x = some a)) → Q () s') (hf : X.fn x = true ∨ X.env.scope.names.lookup x = some .local := by first | exact .inl rfl | exact .inr rfl | assumption) : wpAny M A (storeName X.env x u) Q E s := by
  obtain ⟨m, hn, hl⟩ := id I.loc
  have hcls : (X.env.scope.kind == .class || (X.env.scope.kind == .module && X.env.locals != X.env.globals)) = false := by rw [I.ok.kind]; rfl
  have hiσ : i < σ.length := by rw [I.len]; exact (List.getElem?_eq_some_iff.mp hi).1
  have cne := I.cne
  have tracked : ∀ {a : Addr} {h' : Heap}, (∃ o, s.heap.get? a = some o ∧ H a = none) → Heap.SameBut a s.heap h' → HOk X.prog X.w H h' := fun {a h'} ha hs b ob e => by
    obtain ⟨_, _, hfree⟩ := ha
    refine (I.hok b ob e).stay (fun c w' hc q => (hs.2 c ?_).trans q) (fun _ q => q) fun _ _ q => q
    rintro rfl
    rcases hc with rfl | hc
    · rw [hfree] at e; cases e
    · rw [hfree] at hc; cases hc
  rcases hx with hk | hk
  · refine wpAny_storeName_local hk hn (fun h' hn' hs => ?_) hcls
    obtain ⟨oL, _, _, hoL, _⟩ := id hn
    refine h _ ⟨I.ok, I.os, I.bare, ⟨fun b o e n hb hx => ?_, fun b o e n hb hx => ?_, I.base.free, fun b o e hx => ?_, I.base.tups, I.base.frzs, I.base.tbls⟩, ⟨_, hn', fun j y v' e1 e2 e3 => ?_⟩, fun y c e => ?_, I.free, I.freeC, fun p hp => ?_, tracked ⟨oL, hoL, I.free⟩ hs, by simpa using I.len⟩ ⟨_, hs, .inl rfl⟩
    · exact (hs.2 b (Nat.ne_of_lt (Nat.lt_of_lt_of_le (Heap.lt_size e) I.ok.above))).trans (I.base.keep b o e n hb hx)
    · obtain ⟨sl, e1⟩ := I.base.slot b o e n hb hx
      exact ⟨sl, (hs.2 b (Nat.ne_of_lt (Nat.lt_of_lt_of_le (Heap.lt_size e) I.ok.above))).trans e1⟩
    · obtain ⟨o', e1⟩ := I.base.there b o e hx
      exact ⟨o', (hs.2 b (Nat.ne_of_lt (Nat.lt_of_lt_of_le (Heap.lt_size e) I.ok.above))).trans e1⟩
    · by_cases hj : j = i
      · subst hj
        rw [hi] at e1; cases e1
        rw [List.getElem?_set_self hiσ] at e2
        cases e2
        exact ⟨u, r, .inl ⟨hk, by simp⟩⟩
      · rw [List.getElem?_set_ne (Ne.symm hj)] at e2
        obtain ⟨u', r', q⟩ := hl j y v' e1 e2 e3
        refine ⟨u', r', ?_⟩
        rcases q with ⟨k, e⟩ | ⟨k, c, e, z⟩
        · refine .inl ⟨k, ?_⟩
          have : y ≠ x := fun e => hj (nodup_ix hN e1 (e ▸ hi))
          simp [this, e]
        · exact .inr ⟨k, c, e, z.sameBut hs (cne y c e)⟩
    · obtain ⟨w', z⟩ := I.cell y c e
      exact ⟨w', z.sameBut hs (cne y c e)⟩
    · obtain ⟨e, n, ne, nf, d⟩ := I.pin p hp
      exact ⟨(hs.2 p.1 ne).trans e, n, ne, nf, d⟩
  · have hfn : X.fn x = true := by
      rcases hf with z | z
      · exact z
      · rw [z] at hk; cases hk
    obtain ⟨c, hc⟩ := I.ok.has x (.inl hk)
    obtain ⟨w', z⟩ := I.cell x c hc
    refine wpAny_storeName_cell I.ok.kind hk hc z (fun h' hc' hs => ?_)
    obtain ⟨oc, hoc, hocd⟩ := id z
    refine h { s with heap := h' } ⟨I.ok, I.os, I.bare, ⟨fun b o e n hb hx => ?_, fun b o e n hb hx => ?_, I.base.free, fun b o e hx => ?_, I.base.tups, I.base.frzs, I.base.tbls⟩, ⟨m, hn.sameBut hs (Ne.symm (cne x c hc)), fun j y v' e1 e2 e3 => ?_⟩, fun y c' e => ?_, I.free, I.freeC, fun p hp => ?_, tracked ⟨oc, hoc, I.freeC x c hc⟩ hs, by simpa using I.len⟩ ⟨c, hs, .inr hc⟩
    · exact (hs.2 b (Nat.ne_of_lt (Nat.lt_of_lt_of_le (Heap.lt_size e) (I.ok.cab x c hfn hc)))).trans (I.base.keep b o e n hb hx)
    · obtain ⟨sl, e1⟩ := I.base.slot b o e n hb hx
      exact ⟨sl, (hs.2 b (Nat.ne_of_lt (Nat.lt_of_lt_of_le (Heap.lt_size e) (I.ok.cab x c hfn hc)))).trans e1⟩
    · obtain ⟨o', e1⟩ := I.base.there b o e hx
      exact ⟨o', (hs.2 b (Nat.ne_of_lt (Nat.lt_of_lt_of_le (Heap.lt_size e) (I.ok.cab x c hfn hc)))).trans e1⟩
    · by_cases hj : j = i
      · subst hj
        rw [hi] at e1; cases e1
        rw [List.getElem?_set_self hiσ] at e2
        cases e2
        exact ⟨u, r, .inr ⟨.inl hk, c, hc, hc'⟩⟩
      · rw [List.getElem?_set_ne (Ne.symm hj)] at e2
        obtain ⟨u', r', q⟩ := hl j y v' e1 e2 e3
        refine ⟨u', r', ?_⟩
        rcases q with q | ⟨k, c', e, z'⟩
        · exact .inl q
        · refine .inr ⟨k, c', e, z'.sameBut hs ?_⟩
          rintro rfl
          exact hj (nodup_ix hN e1 (I.ok.inj _ _ _ e hc ▸ hi))
    · by_cases hcc : c' = c
      · subst hcc; exact ⟨_, hc'⟩
      · obtain ⟨w2, z2⟩ := I.cell y c' e
        exact ⟨w2, z2.sameBut hs hcc⟩
    · obtain ⟨e, n, ne, nf, d⟩ := I.pin p hp
      refine ⟨(hs.2 p.1 ?_).trans e, n, ne, nf, d⟩
      intro q
      rw [q, hoc] at e
      have q' : oc = p.2 := Option.some.inj e
      exact d w' (by rw [← q']; exact hocd)
theorem store_ok {M : Model} {A : Around} {E : Value → Shared → Prop} {i : Nat} {x : Str} {v : V} {u : Value} {Q : Unit → Shared → Prop} (I : Inv X pins σ H s) (hN : X.N.Nodup) (hi : X.N[i]? = some x) (hx : Loc X.env.scope x) (r : RelV v u)
    (h : ∀ s', Inv X pins (σ.set i (some v)) H s' → Q () s') (hf : X.fn x = true ∨ X.env.scope.names.lookup x = some .local := by first | exact .inl rfl | exact .inr rfl | assumption) : wpAny M A (storeName X.env x u) Q E s :=
  store_ok2 I hN hi hx r (fun s' I' _ => h s' I') hf
/-- behind a call or a block, the state as it is -/
theorem Inv.call' {s' : Shared} {ch : List Addr} (I : Inv X pins σ H s) (ho : s'.os = s.os) (u : Un (frs X.stack) ch H H' s.heap s'.heap) (hok : HOk X.prog X.w H' s'.heap) (hg : AllBare s'.gens)
    (hch : ∀ b ∈ ch, (b ∈ X.ex ∨ X.s₀.heap.objs.size ≤ b) ∧ b ≠ X.env.locals ∧ (∀ x c, X.env.cells.lookup x = some c → c ≠ b) ∧ ∀ p ∈ X.pn ++ pins, p.1 ≠ b) : Inv X pins σ H' s' := by
  obtain ⟨h', g', d', t', o'⟩ := s'
  have e : o' = s.os := ho
  subst e
  exact I.call (g' := g') (t' := t') (d' := d') u hok hg hch
end

/-! ### the judgements -/
/-- an exception: its class, its own dict's address (where it has one), the abstract heap behind it -/
abbrev XK := Value → Option Addr → Hp → Prop
abbrev St := List (Option V)
abbrev VK := V → Hp → Prop
/-- an expression's reading; a test's; an argument list's -/
abbrev TE := St → Hp → VK → Prop
abbrev TT := St → Hp → (Bool → Hp → Prop) → Prop
abbrev TA := St → Hp → (List V → Hp → Prop) → Prop
/-- what is wanted behind a statement -/
structure Ends where
  nx : St → Hp → Prop
  rt : VK
  bk : St → Hp → Prop := fun _ _ => False
  ct : St → Hp → Prop := fun _ _ => False
abbrev TS := Ends → St → Hp → Prop

def EP (X : Cx) (pins : List (Addr × Obj)) (σ : St) (Q : VK) (u : Value) (s' : Shared) : Prop := ∃ v H', Inv X pins σ H' s' ∧ RelV v u ∧ Q v H'
def TP (X : Cx) (pins : List (Addr × Obj)) (σ : St) (Q : Bool → Hp → Prop) (b : Bool) (s' : Shared) : Prop := ∃ H', Inv X pins σ H' s' ∧ Q b H'
def AP (X : Cx) (pins : List (Addr × Obj)) (σ : St) (Q : List V → Hp → Prop) (us : List Value) (s' : Shared) : Prop := ∃ vs H', Inv X pins σ H' s' ∧ Vals vs us ∧ Q vs H'
def SP (X : Cx) (pins : List (Addr × Obj)) (D : Ends) (f : Flow) (s' : Shared) : Prop :=
  match f with
  | .next => ∃ σ' H', Inv X pins σ' H' s' ∧ D.nx σ' H'
  | .brk => ∃ σ' H', Inv X pins σ' H' s' ∧ D.bk σ' H'
  | .cont => ∃ σ' H', Inv X pins σ' H' s' ∧ D.ct σ' H'
  | .ret u => ∃ v σ' H', Inv X pins σ' H' s' ∧ RelV v u ∧ D.rt v H'

def PE (X : Cx) (e : Expr) (t : TE) : Prop :=
  ∀ (pins : List (Addr × Obj)) (s : Shared) (σ : St) (H : Hp) (Q : VK), Inv X pins σ H s → t σ H Q → wpAny (model X.prog X.w) X.A (eval e X.env) (EP X pins σ Q) X.xe s
def PT (X : Cx) (e : Expr) (t : TT) : Prop :=
  ∀ (pins : List (Addr × Obj)) (s : Shared) (σ : St) (H : Hp) (Q : Bool → Hp → Prop), Inv X pins σ H s → t σ H Q → wpAny (model X.prog X.w) X.A (isTrue e X.env (eval e X.env)) (TP X pins σ Q) X.xe s
/-- a test whatever its 'whole' is (and, or) -/
def PW (X : Cx) (e : Expr) (t : TT) : Prop :=
  ∀ (whole : Sem Value) (pins : List (Addr × Obj)) (s : Shared) (σ : St) (H : Hp) (Q : Bool → Hp → Prop), Inv X pins σ H s → t σ H Q → wpAny (model X.prog X.w) X.A (isTrue e X.env whole) (TP X pins σ Q) X.xe s
theorem PW.pt {X : Cx} {e : Expr} {t : TT} (h : PW X e t) : PT X e t := h _
/-- an argument list (no star), from the left -/
def PA (X : Cx) (es : List Expr) (t : TA) : Prop :=
  ∀ (pos : Pos) (pins : List (Addr × Obj)) (s : Shared) (σ : St) (H : Hp) (Q : List V → Hp → Prop), Inv X pins σ H s → t σ H Q → wpAny (model X.prog X.w) X.A (spliced (backTo pos (starEach es X.env))) (AP X pins σ Q) X.xe s
def PS (X : Cx) (st : Stmt) (t : TS) : Prop :=
  ∀ (pins : List (Addr × Obj)) (s : Shared) (σ : St) (H : Hp) (D : Ends), Inv X pins σ H s → t D σ H → wpAny (model X.prog X.w) X.A (exec st X.env) (SP X pins D) X.xe s
def PSs (X : Cx) (st : List Stmt) (t : TS) : Prop :=
  ∀ (pins : List (Addr × Obj)) (s : Shared) (σ : St) (H : Hp) (D : Ends), Inv X pins σ H s → t D σ H → wpAny (model X.prog X.w) X.A (execs st X.env) (SP X pins D) X.xe s
/-- weaken the end -/
theorem thn {α : Type} {t : Sem α} {Q Q' : α → Shared → Prop} {M : Model} {A : Around} {E : Value → Shared → Prop} {s : Shared} (h : wpAny M A t Q E s) (hQ : ∀ a s, Q a s → Q' a s) : wpAny M A t Q' E s := wpAny_mono h hQ fun _ _ x => x
end L2

namespace L2
open PySem PySem.Spec PyProof.Rows
section
variable {X : Cx}

/-! ### names and constants -/
def tVar (i : Nat) : TE := fun σ H Q => ∃ v, σ[i]? = some (some v) ∧ Q v H
def tC (v : V) : TE := fun _ H Q => Q v H
theorem pe_var {i : Nat} {x : Str} {pos : Pos} (hN : X.N[i]? = some x) (hv : Vis X.env.scope x) (hd : (x == ("__debug__" : Str)) = false := by decide) (hcd : (x == ("__classdict__" : Str)) = false := by decide) : PE X (.Name x pos) (tVar i) := by
  intro pins s σ H Q I h
  obtain ⟨v, e, h⟩ := h
  obtain ⟨m, hn, hl⟩ := I.loc
  obtain ⟨u, r, l⟩ := hl i x v hN e hv
  have fin : EP X pins σ Q u s := ⟨v, H, I, r, h⟩
  rcases l with ⟨hk, hm⟩ | ⟨hk, c, hc, hcell⟩
  · exact wpAny_Name (wpAny_loadName_local I.ok.kind hk hn hm fin) hd
  · rcases hk with hk | hk
    · exact wpAny_Name (wpAny_loadName_cell I.ok.kind hk hc hcell fin) hd
    · exact wpAny_Name (wpAny_loadName_free I.ok.kind hk hc hcell fin hcd) hd
theorem pe_int {i j pos} : PE X (.Constant (.int i) j pos) (tC (.int i)) := fun _ _ _ H _ I h => wpAny_Constant_int ⟨.int i, H, I.tok _, ⟨_, rfl⟩, h⟩
theorem pe_bl {b j pos} : PE X (.Constant (.bool b) j pos) (tC (.bl b)) := fun _ _ _ H _ I h => Constant_bool ⟨.bl b, H, I, rfl, h⟩
theorem pe_non {j pos} : PE X (.Constant .none j pos) (tC .non) := fun _ _ _ H _ I h => Constant_none ⟨.non, H, I, rfl, h⟩
theorem pe_str {x j pos} : PE X (.Constant (.str x) j pos) (tC (.str x)) := fun _ _ _ H _ I h => Calls.Constant_str ⟨.str x, H, I.tok _, ⟨_, rfl⟩, h⟩

/-- a global name of the def -/
def Gl (X : Cx) (x : Str) : Prop := X.env.kindOf x = some .globalImplicit
theorem ld_glob {E : Value → Shared → Prop} {pins : List (Addr × Obj)} {s : Shared} {σ : St} {H : Hp} {x : Str} {u : Value} {pos : Pos} {Q : Value → Shared → Prop} (I : Inv X pins σ H s) (hg : Gl X x) (hm : X.mg x = some u) (h : Q u s)
    (hd : (x == ("__debug__" : Str)) = false := by decide) : wpAny (model X.prog X.w) X.A (eval (.Name x pos) X.env) Q E s :=
  Calls.Name_function_global I.ok.kind hg (Calls.loadGlobal_global (by rw [I.ok.glob]; exact I.mod.glob.keeps I.bk) hm h) hd
theorem ld_blt {E : Value → Shared → Prop} {pins : List (Addr × Obj)} {s : Shared} {σ : St} {H : Hp} {x : Str} {u : Value} {pos : Pos} {Q : Value → Shared → Prop} (I : Inv X pins σ H s) (hg : Gl X x) (hm : X.mg x = none) (hv : bootBuiltins x = some u) (h : Q u s)
    (hn : x ≠ "__name__" := by decide) (hd : (x == ("__debug__" : Str)) = false := by decide) : wpAny (model X.prog X.w) X.A (eval (.Name x pos) X.env) Q E s := by
  obtain ⟨mb, h1, h2⟩ := I.mod.blt
  exact Calls.Name_function_global I.ok.kind hg (Calls.loadGlobal_builtin (by rw [I.ok.glob]; exact I.mod.glob.keeps I.bk) hm (by rw [I.ok.blt]; exact h1.keeps I.bk) ((h2 x hn).trans hv) h) hd
/-- a module's constant, a class, a function, as a value -/
theorem pe_glob {x : Str} {v : V} {u : Value} {pos : Pos} (hg : Gl X x) (hm : X.mg x = some u) (r : RelV v u) (hd : (x == ("__debug__" : Str)) = false := by decide) : PE X (.Name x pos) (tC v) :=
  fun _ _ _ H _ I h => ld_glob I hg hm ⟨v, H, I, r, h⟩ hd
theorem pe_bltn {x : Str} {v : V} {u : Value} {pos : Pos} (hg : Gl X x) (hm : X.mg x = none) (hv : bootBuiltins x = some u) (r : RelV v u) (hn : x ≠ "__name__" := by decide) (hd : (x == ("__debug__" : Str)) = false := by decide) : PE X (.Name x pos) (tC v) :=
  fun _ _ _ H _ I h => ld_blt I hg hm hv ⟨v, H, I, r, h⟩ hn hd

/-! ### arithmetic -/
/-- two ints -/
def t2I (ta tb : TE) (k : Int → Int → Hp → Prop) : St → Hp → Prop := fun σ H => ta σ H fun x H1 => tb σ H1 fun y H2 => ∃ i j, x = .int i ∧ y = .int j ∧ k i j H2
def tAdd (ta tb : TE) : TE := fun σ H Q => t2I ta tb (fun i j H2 => Q (.int (i + j)) H2) σ H
def tSub (ta tb : TE) : TE := fun σ H Q => t2I ta tb (fun i j H2 => Q (.int (i - j)) H2) σ H
/-- the left factor below 2^64 -/
def tMul (ta tb : TE) : TE := fun σ H Q => t2I ta tb (fun i j H2 => (-(2 ^ 64) < i ∧ i < 2 ^ 64) ∧ Q (.int (i * j)) H2) σ H
variable {a b : Expr} {ta tb : TE} {pos : Pos}
/-! ### comparisons -/
def PC (X : Cx) (op : CmpOp) (a b : Expr) (t : TE) : Prop :=
  ∀ (pins : List (Addr × Obj)) (s : Shared) (σ : St) (H : Hp) (Q : VK), Inv X pins σ H s → t σ H Q →
    wpAny (model X.prog X.w) X.A (eval a X.env) (fun v s₁ => wpAny (model X.prog X.w) X.A (eval b X.env) (fun u s₂ => wpAny (model X.prog X.w) X.A (compareOp op v u) (EP X pins σ Q) X.xe s₂) X.xe s₁) X.xe s
theorem nobehind (b : Expr) {op : CmpOp} (h : op ≠ .In) (h2 : op ≠ .NotIn) : behindInMarks op b = false := by
  have e1 : (op == CmpOp.In) = false := by cases op <;> first | rfl | exact absurd rfl h
  have e2 : (op == CmpOp.NotIn) = false := by cases op <;> first | rfl | exact absurd rfl h2
  cases b <;> simp [behindInMarks, e1, e2]
def tCmp (p : Int → Int → Bool) (ta tb : TE) : TE := fun σ H Q => t2I ta tb (fun i j H2 => Q (.bl (p i j)) H2) σ H
abbrev tLt : TE → TE → TE := tCmp fun i j => decide (i < j)
abbrev tLe : TE → TE → TE := tCmp fun i j => decide (i ≤ j)
abbrev tGt : TE → TE → TE := tCmp fun i j => decide (j < i)
abbrev tGe : TE → TE → TE := tCmp fun i j => decide (j ≤ i)
abbrev tEqI : TE → TE → TE := tCmp fun i j => decide (i = j)
abbrev tNeI : TE → TE → TE := tCmp fun i j => !decide (i = j)
/-- is None -/
def tIsN (ta : TE) : TE := fun σ H Q => ta σ H fun x H1 => Q (.bl (decide (x = .non))) H1
def tNotN (ta : TE) : TE := fun σ H Q => ta σ H fun x H1 => Q (.bl (!decide (x = .non))) H1
theorem RelV.none_iff {x : V} {v : Value} (r : RelV x v) : (v == Value.none) = decide (x = .non) := by
  cases x with
  | non => cases r; rfl
  | bl _ => cases r; rfl
  | int _ => obtain ⟨t, rfl⟩ := r; rfl
  | str _ => obtain ⟨t, rfl⟩ := r; rfl
  | byt _ => obtain ⟨t, rfl⟩ := r; rfl
  | flt _ => obtain ⟨t, rfl⟩ := r; rfl
  | ref _ => cases r; rfl
  | ty _ => cases r; rfl
theorem pc_isN {j pos'} (ha : PE X a ta) : PC X .Is a (.Constant .none j pos') (tIsN ta) := by
  intro pins s σ H Q I h
  refine thn (ha pins s σ H _ I h) fun v s1 ⟨x, H1, I1, r1, q1⟩ => ?_
  exact Constant_none (is_none_gen ⟨.bl _, H1, I1, by rw [r1.none_iff]; rfl, q1⟩)
theorem pc_notN {j pos'} (ha : PE X a ta) : PC X .IsNot a (.Constant .none j pos') (tNotN ta) := by
  intro pins s σ H Q I h
  refine thn (ha pins s σ H _ I h) fun v s1 ⟨x, H1, I1, r1, q1⟩ => ?_
  exact Constant_none (isnot_none_gen ⟨.bl _, H1, I1, by rw [r1.none_iff]; rfl, q1⟩)
/-- a comparison as a value, as a test -/
def tB (t : TE) : TT := fun σ H Q => t σ H fun x H1 => ∃ c, x = .bl c ∧ Q c H1
theorem pt_cmp {op : CmpOp} {t : TE} (h : PC X op a b t) (h1 : behindInMarks op b = false := by first | exact nobehind _ (by decide) (by decide) | rfl) : PT X (.Compare a [op] [b] pos) (tB t) := by
  intro pins s σ H Q I hw
  refine wpAny_isTrue_Compare1 (thn (h pins s σ H _ I hw) fun v s1 h1 => thn h1 fun u s2 h2 => thn h2 fun c s3 ⟨x, H1, I1, r1, q1⟩ => ?_) h1
  obtain ⟨d, rfl, q⟩ := q1
  cases r1
  exact wpAny_truthy_bool ⟨H1, I1, q⟩
/-- an expression whose value is a bool, as a test -/
theorem pt_val {e : Expr} {t : TE} (h : PE X e t) (he : ∀ whole, isTrue e X.env whole = (do let v ← whole; standAt e.pos; holding [v] (truthy v)) := by intro _; rfl) : PT X e (tB t) := by
  intro pins s σ H Q I hw
  refine isTrue_plain (thn (h pins s σ H _ I hw) fun v s1 ⟨x, H1, I1, r1, q1⟩ => ?_) (he _)
  obtain ⟨d, rfl, q⟩ := q1
  cases r1
  exact wpAny_truthy_bool ⟨H1, I1, q⟩

/-! ### and, or, not -/
variable {tA tB' : TT} {rest : List Expr}
def tAnd (t u : TT) : TT := fun σ H Q => t σ H fun c H1 => if c = true then u σ H1 Q else Q false H1
def tOr (t u : TT) : TT := fun σ H Q => t σ H fun c H1 => if c = true then Q true H1 else u σ H1 Q
def tNot (t : TT) : TT := fun σ H Q => t σ H fun c H1 => Q (!c) H1
theorem pw_and1 (ha : PT X a tA) : PW X (.BoolOp .And [a] pos) tA := by
  intro wh pins s σ H Q I h
  refine isTrue_and (thn (ha pins s σ H Q I h) fun c s1 e => ?_)
  cases c with
  | true => exact isTrue_and_nil e
  | false => exact e
theorem pw_or1 (ha : PT X a tA) : PW X (.BoolOp .Or [a] pos) tA := by
  intro wh pins s σ H Q I h
  refine isTrue_or (thn (ha pins s σ H Q I h) fun c s1 e => ?_)
  cases c with
  | false => exact isTrue_or_nil e
  | true => exact e
theorem pw_and (ha : PT X a tA) (hb : PW X (.BoolOp .And (b :: rest) pos) tB') : PW X (.BoolOp .And (a :: b :: rest) pos) (tAnd tA tB') := by
  intro wh pins s σ H Q I h
  refine isTrue_and (thn (ha pins s σ H _ I h) fun c s1 ⟨H1, I1, q1⟩ => ?_)
  cases c with
  | true => exact hb wh pins s1 σ H1 Q I1 q1
  | false => exact ⟨H1, I1, q1⟩
theorem pw_or (ha : PT X a tA) (hb : PW X (.BoolOp .Or (b :: rest) pos) tB') : PW X (.BoolOp .Or (a :: b :: rest) pos) (tOr tA tB') := by
  intro wh pins s σ H Q I h
  refine isTrue_or (thn (ha pins s σ H _ I h) fun c s1 ⟨H1, I1, q1⟩ => ?_)
  cases c with
  | true => exact ⟨H1, I1, q1⟩
  | false => exact hb wh pins s1 σ H1 Q I1 q1
theorem pt_not (ha : PT X a tA) : PT X (.UnaryOp .Not a pos) (tNot tA) := by
  intro pins s σ H Q I h
  exact isTrue_not (ha pins s σ H (fun c H1 => Q (!c) H1) I h)
/-- .. as values (bools) -/
def tAndV (ta tb : TE) : TE := fun σ H Q => ta σ H fun x H1 => ∃ c, x = .bl c ∧ if c = true then tb σ H1 Q else Q (.bl false) H1
def tOrV (ta tb : TE) : TE := fun σ H Q => ta σ H fun x H1 => ∃ c, x = .bl c ∧ if c = true then Q (.bl true) H1 else tb σ H1 Q
def tNotV (ta : TE) : TE := fun σ H Q => ta σ H fun x H1 => ∃ c, x = .bl c ∧ Q (.bl (!c)) H1
theorem pe_one {op} {t : TE} (h : PE X a t) : PE X (.BoolOp op [a] pos) t := fun pins s σ H Q I hw => BoolOp_one (h pins s σ H Q I hw)
theorem pe_and (ha : PE X a ta) (hb : PE X (.BoolOp .And (b :: rest) pos) tb) : PE X (.BoolOp .And (a :: b :: rest) pos) (tAndV ta tb) := by
  intro pins s σ H Q I h
  refine BoolOp_and (thn (ha pins s σ H _ I h) fun v s1 ⟨x, H1, I1, r1, q1⟩ => ?_)
  obtain ⟨c, rfl, q1⟩ := q1
  cases r1
  refine wpAny_truthy_bool ?_
  cases c with
  | true => exact hb pins s1 σ H1 Q I1 q1
  | false => exact ⟨.bl false, H1, I1, rfl, q1⟩
theorem pe_not (ha : PE X a ta) : PE X (.UnaryOp .Not a pos) (tNotV ta) := by
  intro pins s σ H Q I h
  refine UnaryOp_ (thn (ha pins s σ H _ I h) fun v s1 ⟨x, H1, I1, r1, q1⟩ => ?_)
  obtain ⟨c, rfl, q1⟩ := q1
  cases r1
  exact not_of (wpAny_truthy_bool ⟨.bl (!c), H1, I1, rfl, q1⟩)
/-- a if t else b -/
def tIf (t : TT) (ta tb : TE) : TE := fun σ H Q => t σ H fun c H1 => if c = true then ta σ H1 Q else tb σ H1 Q
theorem pe_ifExp {c : Expr} (hc : PT X c tA) (ha : PE X a ta) (hb : PE X b tb) : PE X (.IfExp c a b pos) (tIf tA ta tb) := by
  intro pins s σ H Q I h
  refine wpAny_IfExp (thn (hc pins s σ H _ I h) fun d s1 ⟨H1, I1, q1⟩ => ?_)
  cases d with
  | true => exact ha pins s1 σ H1 Q I1 q1
  | false => exact hb pins s1 σ H1 Q I1 q1
end
end L2

namespace L2
open PySem PySem.Spec PyProof.Rows

/-! ### a list, a tuple that is read: tracked, frozen, or an object of the module -/
def SqL (K : PySem.W.Frag) (H : Hp) (a : Addr) (xs : List V) : Prop :=
  Rd H a (.lst xs) ∨
    ∃ (o : Obj) (its : Array Value) (n : Nat), K.lookup a = some o ∧ o.cls = .type "list" ∧ o.dict = none ∧ o.data = .seq its n ∧ its.size ≤ sizeLine ∧ Vals xs its.toList
def SqT (K : PySem.W.Frag) (H : Hp) (a : Addr) (xs : List V) : Prop :=
  Rd H a (.tup xs) ∨
    ∃ (o : Obj) (its : Array Value) (n : Nat), K.lookup a = some o ∧ o.cls = .type "tuple" ∧ o.data = .seq its n ∧ its.size ≤ sizeLine ∧ Vals xs its.toList
def absV : Value → Option V
  | .none => some .non
  | .bool b => some (.bl b)
  | .int i _ => some (.int i)
  | .str x _ => some (.str x)
  | .bytes b _ => some (.byt b)
  | .float b _ => some (.flt b)
  | .ref a => some (.ref a)
  | .type n => some (.ty n)
  | _ => none
theorem RelV.abs {x : V} {u : Value} (r : RelV x u) : absV u = some x := by
  cases x with
  | non => cases r; rfl
  | bl _ => cases r; rfl
  | int _ => obtain ⟨t, rfl⟩ := r; rfl
  | str _ => obtain ⟨t, rfl⟩ := r; rfl
  | byt _ => obtain ⟨t, rfl⟩ := r; rfl
  | flt _ => obtain ⟨t, rfl⟩ := r; rfl
  | ref _ => cases r; rfl
  | ty _ => cases r; rfl
theorem RelV.inj {x y : V} {u : Value} (r : RelV x u) (q : RelV y u) : x = y := Option.some.inj (r.abs.symm.trans q.abs)
theorem Vals.inj : ∀ {xs ys : List V} {us : List Value}, Vals xs us → Vals ys us → xs = ys
  | _, _, _, .nil, .nil => rfl
  | _, _, _, .cons r t, .cons r' t' => by rw [r.inj r', Vals.inj t t']
section
variable {X : Cx} {pins : List (Addr × Obj)} {σ : St} {H : Hp} {s : Shared} {a : Addr} {xs ys : List V}
theorem SqL.of {K : PySem.W.Frag} (h : H a = some (.lst xs)) : SqL K H a xs := .inl (.inl h)
theorem SqT.of {K : PySem.W.Frag} (h : H a = some (.tup xs)) : SqT K H a xs := .inl (.inl h)
theorem Inv.list (I : Inv X pins σ H s) (h : SqL X.K H a xs) : ∃ its : List Value, Vals xs its ∧ PlainL s.heap a its.toArray ∧ xs.length ≤ sizeLine := by
  rcases h with h | ⟨o, its, n, hk, hc, hd, hs, hz, r⟩
  · obtain ⟨z, its, n, r, e⟩ := h.ok I.hok
    exact ⟨its, r, ⟨_, n, e, rfl, rfl, rfl⟩, z⟩
  · refine ⟨its.toList, r, ⟨o, n, I.kIn a o hk, hc, hd, by simpa using hs⟩, ?_⟩
    have e := r.length
    simp only [Array.length_toList] at e
    omega
theorem Inv.tuple (I : Inv X pins σ H s) (h : SqT X.K H a xs) : ∃ its : List Value, Vals xs its ∧ IsTup s.heap a its.toArray ∧ xs.length ≤ sizeLine := by
  rcases h with h | ⟨o, its, n, hk, hc, hs, hz, r⟩
  · obtain ⟨z, its, r, p⟩ := h.ok I.hok
    exact ⟨its, r, p, z⟩
  · refine ⟨its.toList, r, ⟨o, I.kIn a o hk, hc, n, by simpa using hs⟩, ?_⟩
    have e := r.length
    simp only [Array.length_toList] at e
    omega
theorem Inv.list_inj (I : Inv X pins σ H s) (h : SqL X.K H a xs) (h' : SqL X.K H a ys) : xs = ys := by
  obtain ⟨its, r, ⟨o, n, e, _, _, d⟩, _⟩ := I.list h
  obtain ⟨its', r', ⟨o', n', e', _, _, d'⟩, _⟩ := I.list h'
  rw [e] at e'; cases e'
  rw [d] at d'
  injection d' with d1 _
  have : its = its' := by simpa using congrArg Array.toList d1
  subst this
  exact r.inj r'
theorem Inv.tuple_inj (I : Inv X pins σ H s) (h : SqT X.K H a xs) (h' : SqT X.K H a ys) : xs = ys := by
  obtain ⟨its, r, ⟨o, e, _, n, d⟩, _⟩ := I.tuple h
  obtain ⟨its', r', ⟨o', e', _, n', d'⟩, _⟩ := I.tuple h'
  rw [e] at e'; cases e'
  rw [d] at d'
  injection d' with d1 _
  have : its = its' := by simpa using congrArg Array.toList d1
  subst this
  exact r.inj r'
end

/-! ### another wish about exceptions -/
abbrev Cx.wish (X : Cx) (E : Value → Shared → Prop) : Cx := { X with xe := E }
/-- no exception leaves -/
abbrev Cx.nox (X : Cx) : Cx := X.wish fun _ _ => False
theorem Cx.Ok.wish {X : Cx} (ok : X.Ok) (E : Value → Shared → Prop) : (X.wish E).Ok :=
  ⟨ok.mod, ok.kind, ok.glob, ok.blt, ok.above, ok.inj, ok.has, ok.cab, ok.hd, ok.frames, ok.stk, ok.exf, ok.bs, ok.bsz, ok.noex, ok.exfs, ok.funs, ok.frf⟩
theorem Cx.Ok.unwish {X : Cx} {E : Value → Shared → Prop} (ok : (X.wish E).Ok) : X.Ok :=
  ⟨ok.mod, ok.kind, ok.glob, ok.blt, ok.above, ok.inj, ok.has, ok.cab, ok.hd, ok.frames, ok.stk, ok.exf, ok.bs, ok.bsz, ok.noex, ok.exfs, ok.funs, ok.frf⟩
section
variable {X : Cx} {pins : List (Addr × Obj)} {σ : St} {H : Hp} {s : Shared} {E : Value → Shared → Prop}
theorem Inv.wish (I : Inv X pins σ H s) (E : Value → Shared → Prop) : Inv (X.wish E) pins σ H s := ⟨I.ok.wish E, I.os, I.bare, I.base, I.loc, I.cell, I.free, I.freeC, I.pin, I.hok, I.len⟩
theorem Inv.unwish (I : Inv (X.wish E) pins σ H s) : Inv X pins σ H s := ⟨I.ok.unwish, I.os, I.bare, I.base, I.loc, I.cell, I.free, I.freeC, I.pin, I.hok, I.len⟩
theorem SP.unwish {D : Ends} {f : Flow} {s' : Shared} (h : SP (X.wish E) pins D f s') : SP X pins D f s' := by
  cases f with
  | next => obtain ⟨σ', H', I, q⟩ := h; exact ⟨σ', H', I.unwish, q⟩
  | brk => obtain ⟨σ', H', I, q⟩ := h; exact ⟨σ', H', I.unwish, q⟩
  | cont => obtain ⟨σ', H', I, q⟩ := h; exact ⟨σ', H', I.unwish, q⟩
  | ret u => obtain ⟨v, σ', H', I, r, q⟩ := h; exact ⟨v, σ', H', I.unwish, r, q⟩
theorem PSs.nox {st : List Stmt} {t : TS} (h : PSs X.nox st t) : PSs X st t := fun pins s σ H D I hw =>
  wpAny_mono (h pins s σ H D (I.wish _) hw) (fun _ _ q => q.unwish) fun _ _ z => False.elim z
end

/-! ### blocks and small statements -/
section
variable {X : Cx} {st : Stmt} {rest : List Stmt} {t u : TS} {e : Expr} {te : TE} {pos : Pos}
def tNext : TS := fun D σ H => D.nx σ H
def tSeq (t u : TS) : TS := fun D σ H => t { D with nx := u D } σ H
theorem pss_nil : PSs X [] tNext := fun _ _ σ H _ I h => wpAny_execs_nil ⟨σ, H, I, h⟩
theorem pss_cons (h1 : PS X st t) (h2 : PSs X rest u) : PSs X (st :: rest) (tSeq t u) := by
  intro pins s σ H D I h
  refine wpAny_execs_cons (thn (h1 pins s σ H { D with nx := u D } I h) fun f s1 q => ?_)
  cases f with
  | next =>
    obtain ⟨σ', H', I', q⟩ := q
    exact h2 pins s1 σ' H' D I' q
  | ret v => exact q
  | brk => exact q
  | cont => exact q
theorem pss_one (h1 : PS X st t) : PSs X [st] t := by
  intro pins s σ H D I h
  refine wpAny_execs_cons (thn (h1 pins s σ H D I h) fun f s1 q => ?_)
  cases f with
  | next => exact wpAny_execs_nil q
  | ret v => exact q
  | brk => exact q
  | cont => exact q
def tBreak : TS := fun D σ H => D.bk σ H
def tCont : TS := fun D σ H => D.ct σ H
/-- in a def's body nothing is shown -/
theorem Inv.quiet {pins : List (Addr × Obj)} {σ : St} {H : Hp} {s : Shared} (I : Inv X pins σ H s) : interactive X.env = false := by simp [interactive, I.ok.kind]
/-- an expression whose value is dropped -/
def tDrop (te : TE) : TS := fun D σ H => te σ H fun _ H1 => D.nx σ H1
theorem ps_expr (he : PE X e te) (hs : swapsWith e none pos.line X.env = pure false := by rfl) : PS X (.Expr e pos) (tDrop te) := by
  intro pins s σ H D I h
  exact wpAny_Expr_any (thn (he pins s σ H _ I h) fun v s1 ⟨x, H1, I1, r1, q1⟩ => ⟨σ, H1, I1, q1⟩) I.quiet hs
def tRet (te : TE) : TS := fun D σ H => te σ H D.rt
theorem ps_ret (he : PE X e te) : PS X (.Return (some e) pos) (tRet te) := by
  intro pins s σ H D I h
  exact wpAny_Return_some (thn (he pins s σ H _ I h) fun v s1 ⟨x, H1, I1, r1, q1⟩ => ⟨x, σ, H1, I1, r1, q1⟩)
def tRetN : TS := fun D _ H => D.rt .non H
def tIfS (c : TT) (t u : TS) : TS := fun D σ H => c σ H fun b H1 => if b = true then t D σ H1 else u D σ H1
theorem ps_if {c : Expr} {a b : List Stmt} {tc : TT} (hc : PT X c tc) (ha : PSs X a t) (hb : PSs X b u) : PS X (.If c a b pos) (tIfS tc t u) := by
  intro pins s σ H D I h
  refine wpAny_If (thn (hc pins s σ H _ I h) fun d s1 ⟨H1, I1, q1⟩ => ?_)
  cases d with
  | true => exact ha pins s1 σ H1 D I1 q1
  | false => exact hb pins s1 σ H1 D I1 q1
/-- code that the proof never comes to -/
def tNever : TS := fun _ _ _ => False
end

/-! ### targets -/
abbrev TG := V → St → Hp → (St → Hp → Prop) → Prop
abbrev TGs := List V → St → Hp → (St → Hp → Prop) → Prop
def PG (X : Cx) (target : Expr) (t : TG) : Prop :=
  ∀ (pins : List (Addr × Obj)) (s : Shared) (σ : St) (H : Hp) (v : V) (u : Value) (Q : St → Hp → Prop), Inv X pins σ H s → RelV v u → t v σ H Q →
    wpAny (model X.prog X.w) X.A (assign target X.env u) (fun _ s' => ∃ σ' H', Inv X pins σ' H' s' ∧ Q σ' H') X.xe s
/-- several targets, one after another -/
def PGs (X : Cx) (ts : List Expr) (t : TGs) : Prop :=
  ∀ (pins : List (Addr × Obj)) (s : Shared) (σ : St) (H : Hp) (vs : List V) (us : List Value) (Q : St → Hp → Prop), Inv X pins σ H s → Vals vs us → t vs σ H Q →
    wpAny (model X.prog X.w) X.A (assignInOrder ((assignEach ts X.env).map (·.2)) us) (fun _ s' => ∃ σ' H', Inv X pins σ' H' s' ∧ Q σ' H') X.xe s
/-- o[i] = v, by values -/
abbrev TSet := V → V → V → Hp → (Hp → Prop) → Prop
def PSet (X : Cx) (t : TSet) : Prop :=
  ∀ (pins : List (Addr × Obj)) (s : Shared) (σ : St) (H : Hp) (o i v : V) (ov iv u : Value) (Q : Hp → Prop), Inv X pins σ H s → RelV o ov → RelV i iv → RelV v u → t o i v H Q →
    wpAny (model X.prog X.w) X.A (setItem ov iv u) (fun _ s' => ∃ H', Inv X pins σ H' s' ∧ Q H') X.xe s
/-- a op= b, by values -/
abbrev TIp := V → V → Hp → VK → Prop
def PIp (X : Cx) (op : Operator) (t : TIp) : Prop :=
  ∀ (pins : List (Addr × Obj)) (s : Shared) (σ : St) (H : Hp) (x y : V) (v u : Value) (Q : VK), Inv X pins σ H s → RelV x v → RelV y u → t x y H Q →
    wpAny (model X.prog X.w) X.A (inplaceOp op v u) (EP X pins σ Q) X.xe s
section
variable {X : Cx} {pos : Pos}
def gName (i : Nat) : TG := fun v σ H Q => Q (σ.set i (some v)) H
theorem pg_name {i : Nat} {x : Str} (hN : X.N.Nodup) (hi : X.N[i]? = some x) (hx : Loc X.env.scope x) (hf : X.fn x = true ∨ X.env.scope.names.lookup x = some .local := by first | exact .inl rfl | exact .inr rfl | assumption) : PG X (.Name x pos) (gName i) := by
  intro pins s σ H v u Q I r h
  exact wpAny_assign_Name (store_ok I hN hi hx r (fun s' I' => ⟨_, H, I', h⟩) hf)
def gNil : TGs := fun vs σ H Q => vs = [] ∧ Q σ H
def gCons (t : TG) (u : TGs) : TGs := fun vs σ H Q => ∃ v r, vs = v :: r ∧ t v σ H fun σ' H' => u r σ' H' Q
/-- (a, b, ..) = a tuple of that length -/
def gTup (K : PySem.W.Frag) (n : Nat) (t : TGs) : TG := fun v σ H Q => ∃ a xs, v = .ref a ∧ SqT K H a xs ∧ xs.length = n ∧ t xs σ H Q
/-- o[i] = .. -/
def gSub (to ti : TE) (t : TSet) : TG := fun v σ H Q => to σ H fun o H1 => ti σ H1 fun i H2 => t o i v H2 fun H3 => Q σ H3
theorem pg_sub {o i : Expr} {to ti : TE} {t : TSet} (ho : PE X o to) (hi : PE X i ti) (hs : PSet X t)
    (ha : ∀ v, assign (.Subscript o i pos) X.env v = (do
      let ov ← holding [v] (eval o X.env)
      let iv ← holding [v, ov] (eval i X.env)
      standAt pos
      holding [v, ov, iv] (setItem ov iv v)
      release [v, ov, iv] []) := by intro _; rfl) : PG X (.Subscript o i pos) (gSub to ti t) := by
  intro pins s σ H v u Q I r h
  rw [ha]
  refine wpAny_bind (wpAny_holding (thn (ho pins s σ H _ I h) fun ov s1 ⟨x, H1, I1, r1, q1⟩ => ?_))
  refine wpAny_bind (wpAny_holding (thn (hi pins s1 σ H1 _ I1 q1) fun iv s2 ⟨y, H2, I2, r2, q2⟩ => ?_))
  refine wpAny_bind (wpAny_standAt (wpAny_bind (wpAny_holding (thn (hs pins s2 σ H2 x y v ov iv u _ I2 r1 r2 r q2) fun _ s3 ⟨H3, I3, q3⟩ => ?_))))
  exact wpAny_release ⟨σ, H3, I3, q3⟩
/-- target = value -/
def tAsg (te : TE) (g : TG) : TS := fun D σ H => te σ H fun x H1 => g x σ H1 D.nx
theorem ps_asg {tg e : Expr} {te : TE} {g : TG} (he : PE X e te) (hg : PG X tg g) (hs : swapsWithSole [tg] e pos.line X.env = pure false := by rfl) (hw : swappedStores [tg] e X.env = pure none := by rfl)
    (h1 : (assignEach [tg] X.env).map (·.2) = [assign tg X.env] := by rfl) : PS X (.Assign [tg] e pos) (tAsg te g) := by
  intro pins s σ H D I h
  refine wpAny_Assign_stores (thn (he pins s σ H _ I h) fun v s1 ⟨x, H1, I1, r1, q1⟩ => ?_) hs hw
  rw [h1]
  exact thn (hg pins s1 σ H1 x v _ I1 r1 q1) fun _ s2 q => q
/-- name = value -/
theorem ps_set {i : Nat} {x : Str} {e : Expr} {te : TE} {pos' : Pos} (hN : X.N.Nodup) (hi : X.N[i]? = some x) (hx : Loc X.env.scope x) (he : PE X e te) (hs : swapsWith e (some (.Name x pos')) pos.line X.env = pure false := by rfl) (hf : X.fn x = true ∨ X.env.scope.names.lookup x = some .local := by first | exact .inl rfl | exact .inr rfl | assumption) :
    PS X (.Assign [.Name x pos'] e pos) (tAsg te (gName i)) := by
  intro pins s σ H D I h
  refine wpAny_Assign_Name (thn (he pins s σ H _ I h) fun v s1 ⟨y, H1, I1, r1, q1⟩ => ?_) hs
  exact store_ok I1 hN hi hx r1 (fun s2 I2 => ⟨_, H1, I2, q1⟩) hf
/-- a, b = x, y with plain local names: stored from the right; the pair itself is not tracked (the opening rows as in PyProof/Rows/TupAssign.lean:23) -/
def tPar (i j : Nat) (ta : TA) : TS := fun D σ H => ta σ H fun vs H1 => ∃ v w, vs = [v, w] ∧ D.nx ((σ.set i (some v)).set j (some w)) H1
/-- name op= e -/
def tAug (i : Nat) (te : TE) (ti : TIp) : TS := fun D σ H => ∃ x, σ[i]? = some (some x) ∧ te σ H fun y H1 => ti x y H1 fun z H2 => D.nx (σ.set i (some z)) H2
theorem ps_aug {i : Nat} {x : Str} {e : Expr} {te : TE} {op : Operator} {ti : TIp} {pos' : Pos} (hN : X.N.Nodup) (hi : X.N[i]? = some x) (hx : Loc X.env.scope x) (he : PE X e te) (ho : PIp X op ti) (hf : X.fn x = true ∨ X.env.scope.names.lookup x = some .local := by first | exact .inl rfl | exact .inr rfl | assumption) :
    PS X (.AugAssign (.Name x pos') op e pos) (tAug i te ti) := by
  intro pins s σ H D I h
  obtain ⟨v, e1, h⟩ := h
  obtain ⟨m, hn, hl⟩ := I.loc
  have vis : Vis X.env.scope x := by rcases hx with k | k; exact .inl k; exact .inr (.inl k)
  obtain ⟨u, r, l⟩ := hl i x v hi e1 vis
  refine wpAny_AugAssign_Name ?_
  have go : wpAny (model X.prog X.w) X.A (eval e X.env) (fun w s₂ => wpAny (model X.prog X.w) X.A (inplaceOp op u w) (fun r s₃ => wpAny (model X.prog X.w) X.A (storeName X.env x r) (fun _ => SP X pins D .next) X.xe s₃) X.xe s₂) X.xe s := by
    refine thn (he pins s σ H _ I h) fun w s1 ⟨y, H1, I1, r1, q1⟩ => ?_
    refine thn (ho pins s1 σ H1 v y u w _ I1 r r1 q1) fun z s2 ⟨zv, H2, I2, r2, q2⟩ => ?_
    exact store_ok I2 hN hi hx r2 (fun s3 I3 => ⟨_, H2, I3, q2⟩) hf
  rcases l with ⟨hk, hm⟩ | ⟨hk, c, hc, hcell⟩
  · exact wpAny_loadName_local I.ok.kind hk hn hm go
  · rcases hk with hk | hk
    · exact wpAny_loadName_cell I.ok.kind hk hc hcell go
    · rcases hx with k | k
      · have : X.env.scope.names.lookup x = some .free := hk
        rw [k] at this; cases this
      · have : X.env.scope.names.lookup x = some .free := hk
        rw [k] at this; cases this
/-- o[i] op= e -/
def tAugS (to ti te : TE) (tget : V → V → Hp → VK → Prop) (tip : TIp) (tset : TSet) : TS := fun D σ H => to σ H fun o H1 => ti σ H1 fun i H2 => tget o i H2 fun x H3 => te σ H3 fun y H4 => tip x y H4 fun z H5 => tset o i z H5 fun H6 => D.nx σ H6
/-- o[i], by values -/
def PGet (X : Cx) (t : V → V → Hp → VK → Prop) : Prop :=
  ∀ (pins : List (Addr × Obj)) (s : Shared) (σ : St) (H : Hp) (o i : V) (ov iv : Value) (Q : VK), Inv X pins σ H s → RelV o ov → RelV i iv → t o i H Q →
    wpAny (model X.prog X.w) X.A (getItem ov iv) (EP X pins σ Q) X.xe s
/-- ints -/
def ipI (f : Int → Int → Int) : TIp := fun x y H Q => ∃ i j, x = .int i ∧ y = .int j ∧ Q (.int (f i j)) H
end

/-! ### while -/
section
variable {X : Cx} {pos : Pos}
/-- the invariant W with its measure -/
def tWhile (c : TT) (tb : TS) : TS := fun D σ H => ∃ W : Nat → St → Hp → Prop, (∃ m, W m σ H) ∧ ∀ m σ H, W m σ H →
  c σ H fun b H1 => if b = true then ∃ N : St → Hp → Prop, (∀ σ' H', N σ' H' → ∃ m', m' < m ∧ W m' σ' H') ∧ tb { D with nx := N, ct := N, bk := D.nx } σ H1 else D.nx σ H1
theorem ps_while {c : Expr} {body : List Stmt} {tc : TT} {tb : TS} (hp : PassesOwn (model X.prog X.w) X.A X.env X.xe) (hc : PT X c tc) (hb : PSs X body tb) : PS X (.While c body [] pos) (tWhile tc tb) := by
  intro pins s σ H D I h
  obtain ⟨W, ⟨m0, w0⟩, turn⟩ := h
  refine wpAny_While (codeAny_whileLoop (fun n s' => ∃ σ' H', Inv X pins σ' H' s' ∧ W n σ' H') ?_ m0 ⟨σ, H, I, w0⟩)
  rintro n s1 ⟨σ1, H1, I1, w1⟩
  refine wpAny_passesOwn hp (thn (hc pins s1 σ1 H1 _ I1 (turn n σ1 H1 w1)) fun b s2 ⟨H2, I2, q2⟩ => ?_)
  cases b with
  | true =>
    obtain ⟨N, hN, q2⟩ := q2
    rw [if_pos rfl]
    refine wpAny_passesOwn hp (thn (hb pins s2 σ1 H2 _ I2 q2) fun f s3 q3 => ?_)
    cases f with
    | next =>
      obtain ⟨σ3, H3, I3, n3⟩ := q3
      obtain ⟨m', hm, w3⟩ := hN σ3 H3 n3
      exact ⟨m', hm, σ3, H3, I3, w3⟩
    | cont =>
      obtain ⟨σ3, H3, I3, n3⟩ := q3
      obtain ⟨m', hm, w3⟩ := hN σ3 H3 n3
      exact ⟨m', hm, σ3, H3, I3, w3⟩
    | brk => exact q3
    | ret v => exact q3
  | false =>
    rw [if_neg Bool.false_ne_true]
    exact wpAny_execs_nil ⟨σ1, H2, I2, q2⟩
end

/-! ### what a loop or a comprehension walks -/
/-- at turn i: it yields x (the heap may grow), or it stops -/
structure It where
  go : Nat → Hp → Prop
  yld : Nat → Hp → V → Hp → Prop
  stop : Nat → Hp → Prop
/-- the iterator's own objects may turn: they are not the frame's, not pinned, younger than the entry (or a comprehension's own) -/
def FpOk (X : Cx) (pins : List (Addr × Obj)) (H : Hp) (b : Addr) : Prop :=
  H b = none ∧ b ≠ X.env.locals ∧ b ∉ X.fs ∧ (b ∈ X.ex ∨ X.s₀.heap.objs.size ≤ b) ∧ (∀ x c, X.env.cells.lookup x = some c → c ≠ b) ∧ ∀ p ∈ X.pn ++ pins, p.1 ≠ b
theorem Inv.fpOk {X : Cx} {pins : List (Addr × Obj)} {σ : St} {H H' : Hp} {s : Shared} {b : Addr} (I : Inv X pins σ H s) (hb : s.heap.objs.size ≤ b) (hn : H' b = none) : FpOk X pins H' b := by
  refine ⟨hn, Nat.ne_of_gt (Nat.lt_of_lt_of_le I.lt hb), I.nofs hb, .inr (Nat.le_trans I.sz hb), fun x c e z => ?_, fun p hp z => ?_⟩
  · obtain ⟨v, q⟩ := I.cell x c e
    exact absurd (Nat.lt_of_lt_of_le q.lt (by rw [z]; exact hb)) (Nat.lt_irrefl _)
  · exact absurd (Nat.lt_of_lt_of_le (Heap.lt_size (I.pin p hp).1) (by rw [z]; exact hb)) (Nat.lt_irrefl _)
structure Turn (P : Program) (w : World) (K : PySem.W.Frag) (tg : Expr) (J : It) (fp : List Addr) (it : Addr) (tn : Nat → Heap → Prop) : Prop where
  mem : it ∈ fp
  obj : ∀ i h, tn i h → ∀ b ∈ fp, ∃ o, h.get? b = some o ∧ ∀ v, o.data ≠ .cell v
  keep : ∀ i h h', tn i h → (∀ b ∈ fp, ∀ o, h.get? b = some o → h'.get? b = some o) → tn i h'
  item : ∀ (X : Cx), X.prog = P → X.w = w → X.K = K → X.calm = true → ∀ (i : Nat) (pins : List (Addr × Obj)) (s : Shared) (σ : St) (H : Hp) (E : Value → Shared → Prop), Inv X pins σ H s → (∀ b ∈ fp, FpOk X pins H b) → tn i s.heap → J.go i H →
    wpAny (model P w) X.A (pyNext (.ref it)) (fun r s1 => ∃ u, r = some u ∧
      wpAny (model P w) X.A (letOwnedTupleGo tg (.ref it) u) (fun _ s2 => ∃ x H', Inv X pins σ H' s2 ∧ RelV x u ∧ J.yld i H x H' ∧ tn (i + 1) s2.heap ∧ ∀ b ∈ fp, H' b = none) E s1) E s
  done : ∀ (X : Cx), X.prog = P → X.w = w → X.K = K → X.calm = true → ∀ (i : Nat) (pins : List (Addr × Obj)) (s : Shared) (σ : St) (H : Hp) (E : Value → Shared → Prop), Inv X pins σ H s → (∀ b ∈ fp, FpOk X pins H b) → tn i s.heap → J.stop i H →
    wpAny (model P w) X.A (pyNext (.ref it)) (fun r s1 => r = none ∧ Inv X pins σ H s1) E s
  self : ∀ (A : Around) (i : Nat) (s : Shared) (Q : Value → Shared → Prop) (E : Value → Shared → Prop), tn i s.heap → Q (.ref it) s → wpAny (model P w) A (pyIter (.ref it)) Q E s
abbrev TI := St → Hp → (It → Hp → Prop) → Prop
/-- an iterator has come -/
def PIE (X : Cx) (pins : List (Addr × Obj)) (σ : St) (tg : Expr) (R : It → Hp → Prop) (itv : Value) (s2 : Shared) : Prop :=
  ∃ (it : Addr) (fp : List Addr) (tn : Nat → Heap → Prop) (J : It) (H' : Hp), itv = .ref it ∧ Inv X pins σ H' s2 ∧ Turn X.prog X.w X.K tg J fp it tn ∧ tn 0 s2.heap ∧ (∀ b ∈ fp, FpOk X pins H' b) ∧ R J H'
def PI (X : Cx) (tg iter : Expr) (wi : TI) : Prop :=
  ∀ (pins : List (Addr × Obj)) (s : Shared) (σ : St) (H : Hp) (R : It → Hp → Prop), Inv X pins σ H s → wi σ H R →
    wpAny (model X.prog X.w) X.A (eval iter X.env) (fun v s1 => wpAny (model X.prog X.w) X.A (pyIter v) (PIE X pins σ tg R) X.xe s1) X.xe s

/-- the step ahead of the store is nothing for an iterator that keeps no tuple -/
theorem go_of {M : Model} {A : Around} {E : Value → Shared → Prop} {s : Shared} {tg : Expr} {it : Addr} {u : Value} {o : Obj} {n : String} {vs : Array Value} {Q : Unit → Shared → Prop} (ho : s.heap.get? it = some o) (hc : o.cls = .type n) (hd : o.data = .fields vs)
    (hn : ["enumerate", "zip", "dict_itemiterator", "dict_reverseitemiterator", "odict_iterator", "itertools.zip_longest", "itertools.pairwise"].contains n = false) (hQ : Q () s) : wpAny M A (letOwnedTupleGo tg (.ref it) u) Q E s := by
  unfold letOwnedTupleGo
  cases tg <;> first
    | exact wpAny_pure hQ
    | (cases u <;> first
        | exact wpAny_pure hQ
        | (refine wpAny_bind (wpAny_load ho ?_)
           rw [hc, hd]
           show wpAny M A (if (["enumerate", "zip", "dict_itemiterator", "dict_reverseitemiterator", "odict_iterator", "itertools.zip_longest", "itertools.pairwise"].contains n && vs[0]? == some (rawInt _)) = true then _ else _) Q E s
           rw [if_neg (by intro h; rw [hn, Bool.false_and] at h; cases h)]
           exact wpAny_pure hQ))

/-- the list at a, as it stands at each turn (a loop may append to it) -/
def Itl (K : PySem.W.Frag) (a : Addr) : It :=
  ⟨fun i H => ∃ xs x, SqL K H a xs ∧ xs[i]? = some x, fun i H x H' => H' = H ∧ ∀ xs, SqL K H a xs → xs[i]? = some x, fun i H => ∃ xs, SqL K H a xs ∧ xs.length ≤ i⟩
def Itt (K : PySem.W.Frag) (a : Addr) : It :=
  ⟨fun i H => ∃ xs x, SqT K H a xs ∧ xs[i]? = some x, fun i H x H' => H' = H ∧ ∀ xs, SqT K H a xs → xs[i]? = some x, fun i H => ∃ xs, SqT K H a xs ∧ xs.length ≤ i⟩
/-- lo, lo + 1, .. (n of them) -/
def Itr (lo : Int) (n : Nat) : It := ⟨fun i _ => i < n, fun i H x H' => H' = H ∧ x = .int (lo + i), fun i _ => n ≤ i⟩
theorem turn_list {P : Program} {w : World} {K : PySem.W.Frag} {tg : Expr} (a it : Addr) : Turn P w K tg (Itl K a) [it] it (fun i h => h.IsListIter it a i) where
  mem := by simp
  obj := fun i h st b hb => by
    have e : b = it := by simpa using hb
    subst e
    obtain ⟨o, e, c, d⟩ := st
    exact ⟨o, e, fun v z => by rw [d] at z; cases z⟩
  keep := fun i h h' st k => st.at fun o e => k it (by simp) o e
  item := by
    intro X hP hw hK hc i pins s σ H E I hf st hg
    subst hP hw hK
    obtain ⟨xs, x, hq, hx⟩ := hg
    obtain ⟨its, rv, p, hz⟩ := I.list hq
    obtain ⟨u, hu, ru⟩ := rv.get hx
    obtain ⟨f0, f1, f2, f3, f4, f5⟩ := hf it (by simp)
    refine wpAny_pyNext_list_item st p.isList (x := u) (by simpa using hu) fun h' st' sb => ?_
    have I1 : Inv X pins σ H { s with heap := h' } := I.turned (t' := s.toks) (fun b o hb e => (sb.2 b hb).trans e) f0 f1 f3 f4 f5
    obtain ⟨o, e, c, d⟩ := id st'
    exact ⟨u, rfl, go_of (s := { s with heap := h' }) e c d (by decide) ⟨x, H, I1, ru, ⟨rfl, fun ys hy => by rw [I.list_inj hy hq]; exact hx⟩, st', fun b hb => (hf b hb).1⟩⟩
  done := by
    intro X hP hw hK hc i pins s σ H E I hf st hg
    subst hP hw hK
    obtain ⟨xs, hq, hx⟩ := hg
    obtain ⟨its, rv, p, hz⟩ := I.list hq
    obtain ⟨f0, f1, f2, f3, f4, f5⟩ := hf it (by simp)
    have hl := rv.length
    exact wpAny_pyNext_list_end (I.ok.hd hc) st p.isList (by simp; omega) fun h' eb => ⟨rfl, I.turned (t' := s.toks) (fun b o hb e => eb b o hb e) f0 f1 f3 f4 f5⟩
  self := fun _ _ _ _ _ st h => wpAny_pyIter_listiter st h
theorem turn_tuple {P : Program} {w : World} {K : PySem.W.Frag} {tg : Expr} (a it : Addr) : Turn P w K tg (Itt K a) [it] it (fun i h => h.IsTupleIter it a i) where
  mem := by simp
  obj := fun i h st b hb => by
    have e : b = it := by simpa using hb
    subst e
    obtain ⟨o, e, c, d⟩ := st
    exact ⟨o, e, fun v z => by rw [d] at z; cases z⟩
  keep := fun i h h' st k => st.at fun o e => k it (by simp) o e
  item := by
    intro X hP hw hK hc i pins s σ H E I hf st hg
    subst hP hw hK
    obtain ⟨xs, x, hq, hx⟩ := hg
    obtain ⟨its, rv, p, hz⟩ := I.tuple hq
    obtain ⟨u, hu, ru⟩ := rv.get hx
    obtain ⟨f0, f1, f2, f3, f4, f5⟩ := hf it (by simp)
    refine wpAny_pyNext_tuple_item st (show s.heap.IsTuple a its.toArray from p) (x := u) (by simpa using hu) fun h' st' sb => ?_
    have I1 : Inv X pins σ H { s with heap := h' } := I.turned (t' := s.toks) (fun b o hb e => (sb.2 b hb).trans e) f0 f1 f3 f4 f5
    obtain ⟨o, e, c, d⟩ := id st'
    exact ⟨u, rfl, go_of (s := { s with heap := h' }) e c d (by decide) ⟨x, H, I1, ru, ⟨rfl, fun ys hy => by rw [I.tuple_inj hy hq]; exact hx⟩, st', fun b hb => (hf b hb).1⟩⟩
  done := by
    intro X hP hw hK hc i pins s σ H E I hf st hg
    subst hP hw hK
    obtain ⟨xs, hq, hx⟩ := hg
    obtain ⟨its, rv, p, hz⟩ := I.tuple hq
    obtain ⟨f0, f1, f2, f3, f4, f5⟩ := hf it (by simp)
    have hl := rv.length
    exact wpAny_pyNext_tuple_end (I.ok.hd hc) st (show s.heap.IsTuple a its.toArray from p) (by simp; omega) fun h' eb => ⟨rfl, I.turned (t' := s.toks) (fun b o hb e => eb b o hb e) f0 f1 f3 f4 f5⟩
  self := fun _ _ _ _ _ st h => wpAny_pyIter_tupleiter st h
theorem turn_range {P : Program} {w : World} {K : PySem.W.Frag} {tg : Expr} (it : Addr) (lo : Int) (n : Nat) : Turn P w K tg (Itr lo n) [it] it (fun i h => IsRangeIter h it (lo + (i : Nat) * 1) ((n : Int) - (i : Nat)) 1) where
  mem := by simp
  obj := fun i h st b hb => by
    have e : b = it := by simpa using hb
    subst e
    exact ⟨_, st, fun v z => by
      have z' : Data.fields _ = Data.cell v := z
      cases z'⟩
  keep := fun i h h' st k => k it (by simp) _ st
  item := by
    intro X hP hw hK hc i pins s σ H E I hf st hg
    subst hP hw hK
    obtain ⟨f0, f1, f2, f3, f4, f5⟩ := hf it (by simp)
    have W := Walks.range (prog := X.prog) (w := X.w) (I.ok.hd hc) it lo 1 n
    refine W.item i s _ _ hg st fun v h' tk hv st' kk => ?_
    obtain ⟨t, rfl⟩ := hv
    have I1 : Inv X pins σ H { s with heap := h', toks := tk } := I.turned (fun b o hb e => kk b o (by simpa using hb) e) f0 f1 f3 f4 f5
    refine ⟨_, rfl, go_of (s := { s with heap := h', toks := tk }) (n := "range_iterator") st' rfl rfl (by decide) ⟨.int (lo + i), H, I1, ⟨t, ?_⟩, ⟨rfl, rfl⟩, st', fun b hb => (hf b hb).1⟩⟩
    rw [Int.mul_one]
  done := by
    intro X hP hw hK hc i pins s σ H E I hf st hg
    subst hP hw hK
    obtain ⟨f0, f1, f2, f3, f4, f5⟩ := hf it (by simp)
    exact wpAny_pyNext_range_end (I.ok.hd hc) st (by have : n ≤ i := hg; omega) fun h' eb => ⟨rfl, I.turned (t' := s.toks) (fun b o hb e => eb b o hb e) f0 f1 f3 f4 f5⟩
  self := fun _ _ _ _ _ st h => wpAny_pyIter_rangeiter st h
end L2

namespace L2
open PySem PySem.Spec PyProof.Rows
section
variable {X : Cx} {tg : Expr}
def iList (K : PySem.W.Frag) (tl : TE) : TI := fun σ H R => tl σ H fun x H1 => ∃ a, x = .ref a ∧ (∃ xs, SqL K H1 a xs) ∧ R (Itl K a) H1
def iTup (K : PySem.W.Frag) (tl : TE) : TI := fun σ H R => tl σ H fun x H1 => ∃ a, x = .ref a ∧ (∃ xs, SqT K H1 a xs) ∧ R (Itt K a) H1
theorem pi_list {l : Expr} {tl : TE} (hl : PE X l tl) : PI X tg l (iList X.K tl) := by
  intro pins s σ H R I h
  refine thn (hl pins s σ H _ I h) fun v s1 ⟨x, H1, I1, r1, q1⟩ => ?_
  obtain ⟨a, e, ⟨xs, hq⟩, q⟩ := q1
  subst e
  cases r1
  obtain ⟨its, rv, p, hz⟩ := I1.list hq
  refine wpAny_pyIter_list p.isList ?_
  refine ⟨s1.heap.objs.size, [s1.heap.objs.size], _, _, H1, rfl, I1.kept (t' := s1.toks) fun b o e => Heap.get?_push_of_some _ e, turn_list a _, ⟨_, Heap.get?_push_size _ rfl, rfl, rfl⟩, fun b hb => ?_, q⟩
  have e : b = s1.heap.objs.size := by simpa using hb
  subst e
  exact I1.fpOk (Nat.le_refl _) (I1.hok.fresh (Nat.le_refl _))
theorem pi_tup {l : Expr} {tl : TE} (hl : PE X l tl) : PI X tg l (iTup X.K tl) := by
  intro pins s σ H R I h
  refine thn (hl pins s σ H _ I h) fun v s1 ⟨x, H1, I1, r1, q1⟩ => ?_
  obtain ⟨a, e, ⟨xs, hq⟩, q⟩ := q1
  subst e
  cases r1
  obtain ⟨its, rv, p, hz⟩ := I1.tuple hq
  refine wpAny_pyIter_tuple (show s1.heap.IsTuple a its.toArray from p) ?_
  refine ⟨s1.heap.objs.size, [s1.heap.objs.size], _, _, H1, rfl, I1.kept (t' := s1.toks) fun b o e => Heap.get?_push_of_some _ e, turn_tuple a _, ⟨_, Heap.get?_push_size _ rfl, rfl, rfl⟩, fun b hb => ?_, q⟩
  have e : b = s1.heap.objs.size := by simpa using hb
  subst e
  exact I1.fpOk (Nat.le_refl _) (I1.hok.fresh (Nat.le_refl _))
/-- a range object just made, walked -/
theorem range_it {pins : List (Addr × Obj)} {σ : St} {H : Hp} {s : Shared} {R : It → Hp → Prop} {E : Value → Shared → Prop} {lo hi : Int} {t u v : Tok} {tk : Nat} (I : Inv X pins σ H s) (h1 : -(2 ^ 62) ≤ lo) (h2 : lo < 2 ^ 62) (h3 : -(2 ^ 62) ≤ hi) (h4 : hi < 2 ^ 62)
    (q : R (Itr lo (hi - lo).toNat) H) : wpAny (model X.prog X.w) X.A (pyIter (.ref s.heap.objs.size)) (PIE X pins σ tg R) E { s with heap := s.heap.push { cls := .type "range", data := .fields #[.int lo t, .int hi u, .int 1 v] }, toks := tk } := by
  refine wpAny_pyIter_range (IsRange.new ..) (small_one h1 h2 h3 h4) ?_
  have I1 : Inv X pins σ H { s with heap := s.heap.push { cls := .type "range", data := .fields #[.int lo t, .int hi u, .int 1 v] }, toks := tk } := I.kept fun b o e => Heap.get?_push_of_some _ e
  refine ⟨(s.heap.push { cls := .type "range", data := .fields #[.int lo t, .int hi u, .int 1 v] }).objs.size, [(s.heap.push { cls := .type "range", data := .fields #[.int lo t, .int hi u, .int 1 v] }).objs.size], _, _, H, rfl,
    I1.kept (t' := tk) fun b o e => Heap.get?_push_of_some _ e, turn_range _ lo (hi - lo).toNat, ?_, fun b hb => ?_, q⟩
  · have e1 : lo + ((0 : Nat) : Int) * 1 = lo := by simp
    have e2 : (((hi - lo).toNat : Nat) : Int) - ((0 : Nat) : Int) = Builtin.Range.rangeSize lo hi 1 := by rw [rangeSize_one]; split <;> omega
    show IsRangeIter _ _ (lo + ((0 : Nat) : Int) * 1) ((((hi - lo).toNat : Nat) : Int) - ((0 : Nat) : Int)) 1
    rw [e1, e2]
    exact Heap.get?_push_size _ rfl
  · have e : b = (s.heap.push { cls := .type "range", data := .fields #[.int lo t, .int hi u, .int 1 v] }).objs.size := by simpa using hb
    subst e
    exact I1.fpOk (Nat.le_refl _) (I1.hok.fresh (Nat.le_refl _))
def iRng1 (ta : TA) : TI := fun σ H R => ta σ H fun vs H1 => ∃ j : Int, vs = [.int j] ∧ -(2 ^ 62) ≤ j ∧ j < 2 ^ 62 ∧ R (Itr 0 j.toNat) H1
def iRng2 (ta : TA) : TI := fun σ H R => ta σ H fun vs H1 => ∃ i j : Int, vs = [.int i, .int j] ∧ (-(2 ^ 62) ≤ i ∧ i < 2 ^ 62 ∧ -(2 ^ 62) ≤ j ∧ j < 2 ^ 62) ∧ R (Itr i (j - i).toNat) H1
theorem pi_range1 {a : Expr} {ta : TA} {p pos : Pos} (hg : Gl X "range") (hm : X.mg "range" = none) (ha : PA X [a] ta) (hs : starEach [a] X.env = [(false, eval a X.env)] := by rfl) : PI X tg (.Call (.Name "range" p) [a] [] pos) (iRng1 ta) := by
  intro pins s σ H R I h
  refine Call_ (ld_blt I hg hm boot_range (PyProof.Rows.callWith_type1 (thn (ha pos pins s σ H _ I h) fun us s1 ⟨vs, H1, I1, r1, q1⟩ => ?_) hs rfl))
  obtain ⟨j, e, q1, q2, q⟩ := q1
  subst e
  cases r1 with
  | cons r rr =>
    cases rr
    obtain ⟨t, rfl⟩ := r
    exact call_range_1 (range_it I1 (by omega) (by omega) q1 q2 (by simpa using q))
theorem pi_range2 {a b : Expr} {ta : TA} {p pos : Pos} (hg : Gl X "range") (hm : X.mg "range" = none) (ha : PA X [a, b] ta) (hs : starEach [a, b] X.env = [(false, eval a X.env), (false, eval b X.env)] := by rfl) (hs2 : starEach [b] X.env = [(false, eval b X.env)] := by rfl) :
    PI X tg (.Call (.Name "range" p) [a, b] [] pos) (iRng2 ta) := by
  intro pins s σ H R I h
  refine Call_ (ld_blt I hg hm boot_range (PyProof.Rows.callWith_type1 (thn (ha pos pins s σ H _ I h) fun us s1 ⟨vs, H1, I1, r1, q1⟩ => ?_) (by rw [hs, hs2]) (by rw [hs2]; rfl)))
  obtain ⟨i, j, e, ⟨q1, q2, q3, q4⟩, q⟩ := q1
  subst e
  cases r1 with
  | cons r rr =>
    cases rr with
    | cons r' rr =>
      cases rr
      obtain ⟨t, rfl⟩ := r
      obtain ⟨t', rfl⟩ := r'
      exact call_range_2 (range_it I1 q1 q2 q3 q4 q)

/-! ### for -/
/-- W: the invariant by the turn and a measure; N: what the body is to reach -/
def tFor (wi : TI) (g : TG) (tb : TS) : TS := fun D σ H => wi σ H fun J H1 => ∃ W : Nat → Nat → St → Hp → Prop, (∃ m, W 0 m σ H1) ∧ ∀ i m σ H, W i m σ H →
  (J.stop i H ∧ D.nx σ H) ∨ (J.go i H ∧ ∃ N : St → Hp → Prop, (∀ σ' H', N σ' H' → ∃ m', m' < m ∧ W (i + 1) m' σ' H') ∧ ∀ x H', J.yld i H x H' → g x σ H' fun σ2 H2 => tb { D with nx := N, ct := N, bk := D.nx } σ2 H2)
/-- the records at fp as they stand -/
def pinsAt (fp : List Addr) (h : Heap) : List (Addr × Obj) := fp.filterMap fun b => (h.get? b).map fun o => (b, o)
theorem mem_pinsAt {fp : List Addr} {h : Heap} {b : Addr} {o : Obj} (hb : b ∈ fp) (e : h.get? b = some o) : (b, o) ∈ pinsAt fp h := List.mem_filterMap.mpr ⟨b, hb, by rw [e]; rfl⟩
theorem of_pinsAt {fp : List Addr} {h : Heap} {p : Addr × Obj} (hp : p ∈ pinsAt fp h) : p.1 ∈ fp ∧ h.get? p.1 = some p.2 := by
  obtain ⟨b, hb, e⟩ := List.mem_filterMap.mp hp
  cases q : h.get? b with
  | none => rw [q] at e; cases e
  | some o =>
    rw [q] at e
    have e' : (b, o) = p := Option.some.inj e
    subst e'
    exact ⟨hb, q⟩
theorem Inv.pinned {pins : List (Addr × Obj)} {σ : St} {H : Hp} {s : Shared} {fp : List Addr} (I : Inv X pins σ H s) (hf : ∀ b ∈ fp, FpOk X pins H b) (ho : ∀ b ∈ fp, ∃ o, s.heap.get? b = some o ∧ ∀ v, o.data ≠ .cell v) : Inv X (pins ++ pinsAt fp s.heap) σ H s :=
  I.pins_of fun p hp => (List.mem_append.mp hp).elim (fun z => I.pin p (List.mem_append_right _ z)) fun z => by
    obtain ⟨hb, e⟩ := of_pinsAt z
    obtain ⟨f0, f1, f2, _⟩ := hf p.1 hb
    obtain ⟨o, e', d⟩ := ho p.1 hb
    rw [e] at e'; cases e'
    exact ⟨e, f0, f1, f2, d⟩
theorem Inv.unpinned {pins pl : List (Addr × Obj)} {σ : St} {H : Hp} {s : Shared} (I : Inv X (pins ++ pl) σ H s) : Inv X pins σ H s := I.pins_of fun p hp => I.pin p (List.mem_append_right _ (List.mem_append_left _ hp))
theorem ps_for {iter : Expr} {body : List Stmt} {wi : TI} {g : TG} {tb : TS} {pos : Pos} (hp : PassesOwn (model X.prog X.w) X.A X.env X.xe) (hc : X.calm = true) (hi : PI X tg iter wi) (hg : PG X tg g) (hb : PSs X body tb)
    (hs : ∀ x, foldedSetIterable iter X.env x = pure x := by intro _; rfl) : PS X (.For tg iter body [] pos) (tFor wi g tb) := by
  intro pins s σ H D I h
  refine wpAny_For (thn (hi pins s σ H _ I h) fun v s1 h1 => thn h1 fun itv s2 h2 => ?_) hs
  obtain ⟨it, fp, tn, J, H2, e, I2, T, st2, f2, W, ⟨m0, w0⟩, turn⟩ := h2
  subst e
  -- what stays true of the iterator's objects through the loop
  have stat : ∀ {H' : Hp}, (∀ b ∈ fp, H' b = none) → ∀ b ∈ fp, FpOk X pins H' b := fun hn b hb => ⟨hn b hb, (f2 b hb).2⟩
  refine codeAny_forLoop_any (fun n s' => ∃ i σ' H', Inv X pins σ' H' s' ∧ tn i s'.heap ∧ (∀ b ∈ fp, H' b = none) ∧ W i n σ' H') ?_ m0 ⟨0, σ, H2, I2, st2, fun b hb => (f2 b hb).1, w0⟩
  rintro n s3 ⟨i, σ3, H3, I3, st3, fr3, w3⟩
  rcases turn i n σ3 H3 w3 with ⟨stop, qn⟩ | ⟨go, N, hN, step⟩
  · refine wpAny_passesOwn hp (thn (T.done X rfl rfl rfl hc i pins s3 σ3 H3 X.xe I3 (stat fr3) st3 stop) fun r s4 ⟨hr, I4⟩ => ?_)
    subst hr
    exact wpAny_execs_nil ⟨σ3, H3, I4, qn⟩
  · refine wpAny_passesOwn hp (thn (T.item X rfl rfl rfl hc i pins s3 σ3 H3 X.xe I3 (stat fr3) st3 go) fun r s4 ⟨u, hr, h4⟩ => ?_)
    subst hr
    refine wpAny_passesOwn hp (thn h4 fun _ s5 ⟨x, H5, I5, r5, y5, st5, fr5⟩ => ?_)
    have I5' := I5.pinned (stat fr5) (T.obj _ _ st5)
    refine wpAny_passesOwn hp (thn (hg _ s5 σ3 H5 x u _ I5' r5 (step x H5 y5)) fun _ s6 ⟨σ6, H6, I6, q6⟩ => ?_)
    refine wpAny_passesOwn hp (thn (hb _ s6 σ6 H6 _ I6 q6) fun f s7 q7 => ?_)
    have again : ∀ {σ7 : St} {H7 : Hp}, Inv X (pins ++ pinsAt fp s5.heap) σ7 H7 s7 → N σ7 H7 → ∃ m, m < n ∧ ∃ i σ' H', Inv X pins σ' H' s7 ∧ tn i s7.heap ∧ (∀ b ∈ fp, H' b = none) ∧ W i m σ' H' := fun {σ7 H7} I7 n7 => by
      obtain ⟨m', hm, w7⟩ := hN σ7 H7 n7
      refine ⟨m', hm, i + 1, σ7, H7, I7.unpinned, T.keep _ _ _ st5 fun b hb o e => (I7.pin (b, o) (List.mem_append_right _ (List.mem_append_right _ (mem_pinsAt hb e)))).1, fun b hb => ?_, w7⟩
      obtain ⟨o, e, d⟩ := T.obj _ _ st5 b hb
      exact (I7.pin (b, o) (List.mem_append_right _ (List.mem_append_right _ (mem_pinsAt hb e)))).2.1
    cases f with
    | next => obtain ⟨σ7, H7, I7, n7⟩ := q7; exact again I7 n7
    | cont => obtain ⟨σ7, H7, I7, n7⟩ := q7; exact again I7 n7
    | brk => obtain ⟨σ7, H7, I7, q7⟩ := q7; exact ⟨σ7, H7, I7.unpinned, q7⟩
    | ret v => obtain ⟨x7, σ7, H7, I7, r7, q7⟩ := q7; exact ⟨x7, σ7, H7, I7.unpinned, r7, q7⟩
end

/-! ### the forms one uses -/
/-- over a list that the body leaves as it is -/
theorem for_list {K : PySem.W.Frag} {a : Addr} {xs : List V} {g : TG} {tb : TS} {D : Ends} {σ : St} {H : Hp} (Pv : Nat → St → Hp → Prop) (h0 : Pv 0 σ H) (hl : ∀ i σ H, i ≤ xs.length → Pv i σ H → SqL K H a xs)
    (hs : ∀ i x σ H, xs[i]? = some x → Pv i σ H → g x σ H fun σ2 H2 => tb { D with nx := Pv (i + 1), ct := Pv (i + 1), bk := D.nx } σ2 H2) (hd : ∀ σ H, Pv xs.length σ H → D.nx σ H) :
    ∃ W : Nat → Nat → St → Hp → Prop, (∃ m, W 0 m σ H) ∧ ∀ i m σ H, W i m σ H →
      ((Itl K a).stop i H ∧ D.nx σ H) ∨ ((Itl K a).go i H ∧ ∃ N : St → Hp → Prop, (∀ σ' H', N σ' H' → ∃ m', m' < m ∧ W (i + 1) m' σ' H') ∧ ∀ x H', (Itl K a).yld i H x H' → g x σ H' fun σ2 H2 => tb { D with nx := N, ct := N, bk := D.nx } σ2 H2) := by
  refine ⟨fun i m σ H => m = xs.length - i ∧ i ≤ xs.length ∧ Pv i σ H, ⟨xs.length, by simp, Nat.zero_le _, h0⟩, ?_⟩
  rintro i m σ H ⟨rfl, hi, p⟩
  have q := hl i σ H hi p
  by_cases hlt : i < xs.length
  · refine .inr ⟨⟨xs, xs[i], q, by simp [hlt]⟩, Pv (i + 1), fun σ' H' p' => ⟨xs.length - (i + 1), by omega, rfl, hlt, p'⟩, fun x H' y => ?_⟩
    obtain ⟨e, y⟩ := y
    subst e
    exact hs i x σ _ (y xs q) p
  · have e : i = xs.length := by omega
    subst e
    exact .inl ⟨⟨xs, q, Nat.le_refl _⟩, hd σ H p⟩
theorem for_range {lo : Int} {n : Nat} {g : TG} {tb : TS} {D : Ends} {σ : St} {H : Hp} (Pv : Nat → St → Hp → Prop) (h0 : Pv 0 σ H)
    (hs : ∀ i σ H, i < n → Pv i σ H → g (.int (lo + i)) σ H fun σ2 H2 => tb { D with nx := Pv (i + 1), ct := Pv (i + 1), bk := D.nx } σ2 H2) (hd : ∀ σ H, Pv n σ H → D.nx σ H) :
    ∃ W : Nat → Nat → St → Hp → Prop, (∃ m, W 0 m σ H) ∧ ∀ i m σ H, W i m σ H →
      ((Itr lo n).stop i H ∧ D.nx σ H) ∨ ((Itr lo n).go i H ∧ ∃ N : St → Hp → Prop, (∀ σ' H', N σ' H' → ∃ m', m' < m ∧ W (i + 1) m' σ' H') ∧ ∀ x H', (Itr lo n).yld i H x H' → g x σ H' fun σ2 H2 => tb { D with nx := N, ct := N, bk := D.nx } σ2 H2) := by
  refine ⟨fun i m σ H => m = n - i ∧ i ≤ n ∧ Pv i σ H, ⟨n, by simp, Nat.zero_le _, h0⟩, ?_⟩
  rintro i m σ H ⟨rfl, hi, p⟩
  by_cases hlt : i < n
  · refine .inr ⟨hlt, Pv (i + 1), fun σ' H' p' => ⟨n - (i + 1), by omega, rfl, hlt, p'⟩, fun x H' y => ?_⟩
    obtain ⟨e, y⟩ := y
    subst e y
    exact hs i σ _ hlt p
  · have e : i = n := by omega
    subst e
    exact .inl ⟨Nat.le_refl _, hd σ H p⟩
end L2

namespace L2
open PySem PySem.Spec PyProof.Rows

abbrev R2 := V → V → Hp → VK → Prop
/-- a two-place operation on values: f is binaryOp op, inplaceOp op or compareOp op -/
def OpR (X : Cx) (f : Value → Value → Sem Value) (r : R2) : Prop :=
  ∀ (pins : List (Addr × Obj)) (s : Shared) (σ : St) (H : Hp) (x y : V) (v u : Value) (Q : VK), Inv X pins σ H s → RelV x v → RelV y u → r x y H Q →
    wpAny (model X.prog X.w) X.A (f v u) (EP X pins σ Q) X.xe s
/-- a one-place operation -/
def UnR (X : Cx) (f : Value → Sem Value) (r : V → Hp → VK → Prop) : Prop :=
  ∀ (pins : List (Addr × Obj)) (s : Shared) (σ : St) (H : Hp) (x : V) (v : Value) (Q : VK), Inv X pins σ H s → RelV x v → r x H Q →
    wpAny (model X.prog X.w) X.A (f v) (EP X pins σ Q) X.xe s
/-- a call of a value that is known (a builtin, a type) with values -/
def CallR (X : Cx) (f : Value) (r : List V → Hp → VK → Prop) : Prop :=
  ∀ (pins : List (Addr × Obj)) (s : Shared) (σ : St) (H : Hp) (xs : List V) (us : List Value) (Q : VK), Inv X pins σ H s → Vals xs us → r xs H Q →
    wpAny (model X.prog X.w) X.A (call f us) (EP X pins σ Q) X.xe s
/-- a value's truth -/
def TruR (X : Cx) (r : V → Hp → (Bool → Hp → Prop) → Prop) : Prop :=
  ∀ (pins : List (Addr × Obj)) (s : Shared) (σ : St) (H : Hp) (x : V) (v : Value) (Q : Bool → Hp → Prop), Inv X pins σ H s → RelV x v → r x H Q →
    wpAny (model X.prog X.w) X.A (truthy v) (TP X pins σ Q) X.xe s

def tOp (r : R2) (ta tb : TE) : TE := fun σ H Q => ta σ H fun x H1 => tb σ H1 fun y H2 => r x y H2 Q
def tUn (r : V → Hp → VK → Prop) (ta : TE) : TE := fun σ H Q => ta σ H fun x H1 => r x H1 Q
/-- ints in, under C, and a value out -/
def rI (C : Int → Int → Prop) (g : Int → Int → V) : R2 := fun x y H Q => ∃ i j, x = .int i ∧ y = .int j ∧ C i j ∧ Q (g i j) H
def rI0 (g : Int → Int → V) : R2 := fun x y H Q => ∃ i j, x = .int i ∧ y = .int j ∧ Q (g i j) H
def rU (g : Int → V) : V → Hp → VK → Prop := fun x H Q => ∃ i, x = .int i ∧ Q (g i) H

section
variable {X : Cx} {a b c : Expr} {ta tb tc : TE} {pos : Pos}

theorem binT (ha : PE X a ta) (hb : PE X b tb) {pins : List (Addr × Obj)} {s : Shared} {σ : St} {H : Hp} {R : V → V → Hp → Prop} (I : Inv X pins σ H s)
    (h : ta σ H fun x H1 => tb σ H1 fun y H2 => R x y H2) {Q : Value → Shared → Prop} {f : Value → Value → Sem Value}
    (hf : ∀ v u s2 x y H2, Inv X pins σ H2 s2 → RelV x v → RelV y u → R x y H2 → wpAny (model X.prog X.w) X.A (f v u) Q X.xe s2) :
    wpAny (model X.prog X.w) X.A (eval a X.env) (fun v s₁ => wpAny (model X.prog X.w) X.A (eval b X.env) (fun u s₂ => wpAny (model X.prog X.w) X.A (f v u) Q X.xe s₂) X.xe s₁) X.xe s := by
  refine thn (ha pins s σ H _ I h) fun v s1 ⟨x, H1, I1, r1, q1⟩ => ?_
  refine thn (hb pins s1 σ H1 _ I1 q1) fun u s2 ⟨y, H2, I2, r2, q2⟩ => ?_
  exact hf v u s2 x y H2 I2 r1 r2 q2

theorem pe_op {op : Operator} {r : R2} (ho : OpR X (binaryOp op) r) (ha : PE X a ta) (hb : PE X b tb) : PE X (.BinOp a op b pos) (tOp r ta tb) := by
  intro pins s σ H Q I h
  exact wpAny_BinOp (binT ha hb I h fun v u s2 x y H2 I2 rx ry q => ho pins s2 σ H2 x y v u Q I2 rx ry q)
theorem pe_un {op : UnaryOp} {r : V → Hp → VK → Prop} (ho : UnR X (unaryOp op) r) (ha : PE X a ta) : PE X (.UnaryOp op a pos) (tUn r ta) := by
  intro pins s σ H Q I h
  exact UnaryOp_ (thn (ha pins s σ H _ I h) fun v s1 ⟨x, H1, I1, r1, q1⟩ => ho pins s1 σ H1 x v Q I1 r1 q1)
/-! ### ints -/
theorem opI {f : Value → Value → Sem Value} {C : Int → Int → Prop} {g : Int → Int → Int}
    (rule : ∀ (i j : Int) (t u : Tok) (s : Shared) (Q : Value → Shared → Prop) (E : Value → Shared → Prop), C i j → Q (.int (g i j) s.toks) { s with toks := s.toks + 1 } → wpAny (model X.prog X.w) X.A (f (.int i t) (.int j u)) Q E s) :
    OpR X f (rI C fun i j => .int (g i j)) := by
  intro pins s σ H x y v u Q I rx ry h
  obtain ⟨i, j, rfl, rfl, hc, q⟩ := h
  obtain ⟨t, rfl⟩ := rx
  obtain ⟨t', rfl⟩ := ry
  exact rule i j t t' s _ _ hc ⟨.int (g i j), H, I.tok _, ⟨_, rfl⟩, q⟩
theorem opI0 {f : Value → Value → Sem Value} {g : Int → Int → Int}
    (rule : ∀ (i j : Int) (t u : Tok) (s : Shared) (Q : Value → Shared → Prop) (E : Value → Shared → Prop), Q (.int (g i j) s.toks) { s with toks := s.toks + 1 } → wpAny (model X.prog X.w) X.A (f (.int i t) (.int j u)) Q E s) :
    OpR X f (rI0 fun i j => .int (g i j)) := by
  intro pins s σ H x y v u Q I rx ry h
  obtain ⟨i, j, rfl, rfl, q⟩ := h
  obtain ⟨t, rfl⟩ := rx
  obtain ⟨t', rfl⟩ := ry
  exact rule i j t t' s _ _ ⟨.int (g i j), H, I.tok _, ⟨_, rfl⟩, q⟩
theorem opB0 {f : Value → Value → Sem Value} {g : Int → Int → Bool}
    (rule : ∀ (i j : Int) (t u : Tok) (s : Shared) (Q : Value → Shared → Prop) (E : Value → Shared → Prop), Q (.bool (g i j)) s → wpAny (model X.prog X.w) X.A (f (.int i t) (.int j u)) Q E s) :
    OpR X f (rI0 fun i j => .bl (g i j)) := by
  intro pins s σ H x y v u Q I rx ry h
  obtain ⟨i, j, rfl, rfl, q⟩ := h
  obtain ⟨t, rfl⟩ := rx
  obtain ⟨t', rfl⟩ := ry
  exact rule i j t t' s _ _ ⟨.bl (g i j), H, I, rfl, q⟩

def CDiv (i j : Int) : Prop := 0 < j ∧ j < 1073741824
def CDivN (i j : Int) : Prop := j ≠ 0 ∧ j.natAbs < 1073741824
def CPow (i j : Int) : Prop := 0 ≤ j ∧ j ≤ 1000000 ∧ i.natAbs < 2 ^ 64
def CMul (i j : Int) : Prop := (-(2 ^ 64) < i ∧ i < 2 ^ 64) ∨ (-(2 ^ 64) < j ∧ j < 2 ^ 64)
theorem CMul.ok {i j : Int} (h : CMul i j) : IntMulOk i j := by
  rcases h with ⟨h1, h2⟩ | ⟨h1, h2⟩
  · exact .of_left (intBits_le_64 h1 h2)
  · exact .of_right (intBits_le_64 h1 h2)
theorem op_add : OpR X (binaryOp .Add) (rI0 fun i j => .int (i + j)) := opI0 fun _ _ _ _ _ _ _ q => add_int q
theorem op_sub : OpR X (binaryOp .Sub) (rI0 fun i j => .int (i - j)) := opI0 fun _ _ _ _ _ _ _ q => sub_int q
theorem op_mul : OpR X (binaryOp .Mult) (rI CMul fun i j => .int (i * j)) := opI fun _ _ _ _ _ _ _ hc q => mul_int q hc.ok
/-- % by a positive divisor of any size -/
theorem op_mod : OpR X (binaryOp .Mod) (rI (fun _ j => 0 < j) fun i j => .int (i % j)) := opI fun i j _ _ _ _ _ hc q => by
  have h1 : (0 : Int) < j := hc
  exact mod_int' (by omega) (by rw [Int.fmod_eq_emod_of_nonneg i (by omega)]; exact q)
theorem op_pow : OpR X (binaryOp .Pow) (rI CPow fun i j => .int (i ^ j.toNat)) := opI fun _ _ _ _ _ _ _ hc q => pow_int_small hc.1 hc.2.1 hc.2.2 q
theorem iop_add : OpR X (inplaceOp .Add) (rI0 fun i j => .int (i + j)) := opI0 fun _ _ _ _ _ _ _ q => iadd_int q
theorem unI {f : Value → Sem Value} {g : Int → Int}
    (rule : ∀ (i : Int) (t : Tok) (s : Shared) (Q : Value → Shared → Prop) (E : Value → Shared → Prop), Q (.int (g i) s.toks) { s with toks := s.toks + 1 } → wpAny (model X.prog X.w) X.A (f (.int i t)) Q E s) :
    UnR X f (rU fun i => .int (g i)) := by
  intro pins s σ H x v Q I rx h
  obtain ⟨i, rfl, q⟩ := h
  obtain ⟨t, rfl⟩ := rx
  exact rule i t s _ _ ⟨.int (g i), H, I.tok _, ⟨_, rfl⟩, q⟩
theorem un_neg : UnR X (unaryOp .USub) (rU fun i => .int (-i)) := unI fun _ _ _ _ _ q => neg_int q
/-! ### bools among ints: n += (a < b) -/
end

/-! ### comparisons -/
/-- the scalars that == tells apart as data does -/
def scal : V → V → Bool
  | .non, .non => true | .non, .int _ => true | .int _, .non => true | .non, .bl _ => true | .bl _, .non => true | .non, .str _ => true | .str _, .non => true
  | .int _, .int _ => true | .bl _, .bl _ => true | .str _, .str _ => true | .byt _, .byt _ => true
  | .int _, .str _ => true | .str _, .int _ => true | .bl _, .str _ => true | .str _, .bl _ => true
  | _, _ => false
def rEq : R2 := fun x y H Q => scal x y = true ∧ Q (.bl (decide (x = y))) H
def rNe : R2 := fun x y H Q => scal x y = true ∧ Q (.bl (!decide (x = y))) H

theorem dec_int {i j : Int} : decide (V.int i = V.int j) = (i == j) := by
  rw [Bool.eq_iff_iff]
  simp
theorem dec_bl {i j : Bool} : decide (V.bl i = V.bl j) = (i == j) := by
  rw [Bool.eq_iff_iff]
  simp
theorem dec_str {i j : Str} : decide (V.str i = V.str j) = (i == j) := by
  rw [Bool.eq_iff_iff]
  simp
theorem dec_byt {i j : Array UInt8} : decide (V.byt i = V.byt j) = (i.toList == j.toList) := by
  rw [Bool.eq_iff_iff]
  cases i
  cases j
  simp

section
variable {X : Cx} {a b c : Expr} {ta tb tc : TE} {pos : Pos}
theorem fin_bl {pins : List (Addr × Obj)} {σ : St} {H : Hp} {s : Shared} {Q : VK} {k k' : Bool} (I : Inv X pins σ H s) (q : Q (.bl k) H) (e : k = k') : EP X pins σ Q (.bool k') s := by
  subst e
  exact ⟨.bl k, H, I, rfl, q⟩
theorem op_eq : OpR X (compareOp .Eq) rEq := by
  intro pins s σ H x y v u Q I rx ry h
  obtain ⟨hs, q⟩ := h
  cases x with
  | non =>
    cases rx
    cases y with
    | non => cases ry; exact PySem.EqNone.eq_none_none (fin_bl I q (by simp))
    | bl j => cases ry; exact PySem.EqNone.eq_none_bool (fin_bl I q (by simp))
    | int j => obtain ⟨t', rfl⟩ := ry; exact PySem.EqNone.eq_none_int (fin_bl I q (by simp))
    | str j => obtain ⟨t', rfl⟩ := ry; exact PySem.EqNone.eq_none_str (fin_bl I q (by simp))
    | _ => exact absurd (show false = true from hs) Bool.false_ne_true
  | bl i =>
    cases rx
    cases y with
    | non => cases ry; exact PySem.EqNone.eq_bool_none (fin_bl I q (by simp))
    | bl j => cases ry; exact eq_bool (fin_bl I q dec_bl)
    | str j => obtain ⟨t', rfl⟩ := ry; exact PySem.EqMixed.eq_bool_str (fin_bl I q (by simp))
    | _ => exact absurd (show false = true from hs) Bool.false_ne_true
  | int i =>
    obtain ⟨t, rfl⟩ := rx
    cases y with
    | non => cases ry; exact PySem.EqNone.eq_int_none (fin_bl I q (by simp))
    | int j => obtain ⟨t', rfl⟩ := ry; exact eq_int (fin_bl I q dec_int)
    | str j => obtain ⟨t', rfl⟩ := ry; exact PySem.EqMixed.eq_int_str (fin_bl I q (by simp))
    | _ => exact absurd (show false = true from hs) Bool.false_ne_true
  | str i =>
    obtain ⟨t, rfl⟩ := rx
    cases y with
    | non => cases ry; exact PySem.EqNone.eq_str_none (fin_bl I q (by simp))
    | bl j => cases ry; exact PySem.EqMixed.eq_str_bool (fin_bl I q (by simp))
    | int j => obtain ⟨t', rfl⟩ := ry; exact PySem.EqMixed.eq_str_int (fin_bl I q (by simp))
    | str j => obtain ⟨t', rfl⟩ := ry; exact eq_str (fin_bl I q dec_str)
    | _ => exact absurd (show false = true from hs) Bool.false_ne_true
  | byt i =>
    obtain ⟨t, rfl⟩ := rx
    cases y with
    | byt j => obtain ⟨t', rfl⟩ := ry; exact PySem.W.eq_bytes (fin_bl I q dec_byt)
    | _ => exact absurd (show false = true from hs) Bool.false_ne_true
  | _ => cases y <;> exact absurd (show false = true from hs) Bool.false_ne_true
theorem op_ne : OpR X (compareOp .NotEq) rNe := by
  intro pins s σ H x y v u Q I rx ry h
  obtain ⟨hs, q⟩ := h
  cases x with
  | non =>
    cases rx
    cases y with
    | non => cases ry; exact PySem.EqNone.ne_none_none (fin_bl I q (by simp))
    | bl j => cases ry; exact PySem.EqNone.ne_none_bool (fin_bl I q (by simp))
    | int j => obtain ⟨t', rfl⟩ := ry; exact PySem.EqNone.ne_none_int (fin_bl I q (by simp))
    | str j => obtain ⟨t', rfl⟩ := ry; exact PySem.EqNone.ne_none_str (fin_bl I q (by simp))
    | _ => exact absurd (show false = true from hs) Bool.false_ne_true
  | bl i =>
    cases rx
    cases y with
    | non => cases ry; exact PySem.EqNone.ne_bool_none (fin_bl I q (by simp))
    | bl j => cases ry; exact ne_bool (fin_bl I q (congrArg not dec_bl))
    | str j => obtain ⟨t', rfl⟩ := ry; exact PySem.EqMixed.ne_bool_str (fin_bl I q (by simp))
    | _ => exact absurd (show false = true from hs) Bool.false_ne_true
  | int i =>
    obtain ⟨t, rfl⟩ := rx
    cases y with
    | non => cases ry; exact PySem.EqNone.ne_int_none (fin_bl I q (by simp))
    | int j => obtain ⟨t', rfl⟩ := ry; exact ne_int (fin_bl I q (congrArg not dec_int))
    | str j => obtain ⟨t', rfl⟩ := ry; exact PySem.EqMixed.ne_int_str (fin_bl I q (by simp))
    | _ => exact absurd (show false = true from hs) Bool.false_ne_true
  | str i =>
    obtain ⟨t, rfl⟩ := rx
    cases y with
    | non => cases ry; exact PySem.EqNone.ne_str_none (fin_bl I q (by simp))
    | bl j => cases ry; exact PySem.EqMixed.ne_str_bool (fin_bl I q (by simp))
    | int j => obtain ⟨t', rfl⟩ := ry; exact PySem.EqMixed.ne_str_int (fin_bl I q (by simp))
    | str j => obtain ⟨t', rfl⟩ := ry; exact ne_str (fin_bl I q (congrArg not dec_str))
    | _ => exact absurd (show false = true from hs) Bool.false_ne_true
  | byt i =>
    obtain ⟨t, rfl⟩ := rx
    cases y with
    | byt j => obtain ⟨t', rfl⟩ := ry; exact PySem.W.ne_bytes (fin_bl I q (congrArg not dec_byt))
    | _ => exact absurd (show false = true from hs) Bool.false_ne_true
  | _ => cases y <;> exact absurd (show false = true from hs) Bool.false_ne_true

theorem op_lt : OpR X (compareOp .Lt) (rI0 fun i j => .bl (decide (i < j))) := opB0 fun _ _ _ _ _ _ _ q => lt_int q
theorem op_le : OpR X (compareOp .LtE) (rI0 fun i j => .bl (decide (i ≤ j))) := opB0 fun _ _ _ _ _ _ _ q => le_int q
theorem op_gt : OpR X (compareOp .Gt) (rI0 fun i j => .bl (decide (j < i))) := opB0 fun _ _ _ _ _ _ _ q => gt_int q
/-- the one string within the other -/
theorem op_in_str : OpR X (compareOp .In) (fun x y H Q => ∃ i j, x = .str i ∧ y = .str j ∧ Q (.bl (!(Builtin.Str.occurrences j i 0 j.length 1).isEmpty)) H) := by
  intro pins s σ H x y v u Q I rx ry h
  obtain ⟨i, j, rfl, rfl, q⟩ := h
  obtain ⟨t, rfl⟩ := rx
  obtain ⟨t', rfl⟩ := ry
  exact in_str (fin_bl I q rfl)

theorem op_notin_str : OpR X (compareOp .NotIn) (fun x y H Q => ∃ i j, x = .str i ∧ y = .str j ∧ Q (.bl (!(!(Builtin.Str.occurrences j i 0 j.length 1).isEmpty))) H) := by
  intro pins s σ H x y v u Q I rx ry h
  obtain ⟨i, j, rfl, rfl, q⟩ := h
  obtain ⟨t, rfl⟩ := rx
  obtain ⟨t', rfl⟩ := ry
  exact notIn_str (fin_bl I q rfl)
/-- is, is not of two objects that are tracked lists or instances -/
def isObj : HO → Bool
  | .lst _ => true
  | .ins _ _ _ => true
  | _ => false
theorem nomark (b : Expr) {op : CmpOp} (h : op ≠ .In := by decide) (h2 : op ≠ .NotIn := by decide) : behindInMarks op b = false := by
  have e1 : (op == CmpOp.In) = false := by cases op <;> first | rfl | exact absurd rfl h
  have e2 : (op == CmpOp.NotIn) = false := by cases op <;> first | rfl | exact absurd rfl h2
  cases b <;> simp [behindInMarks, e1, e2]
/-- a comparison as a value; hm: nomark b, or (for in, not in) by with_unfolding_all rfl -/
theorem pe_cmpR {op : CmpOp} {r : R2} (ho : OpR X (compareOp op) r) (ha : PE X a ta) (hb : PE X b tb) (hm : behindInMarks op b = false) : PE X (.Compare a [op] [b] pos) (tOp r ta tb) := by
  intro pins s σ H Q I h
  exact wpAny_Compare1 (binT ha hb I h fun v u s2 x y H2 I2 rx ry q => ho pins s2 σ H2 x y v u Q I2 rx ry q) hm
/-- a reading of a value as a test -/
def tTest (t : TE) : TT := fun σ H Q => t σ H fun x H' => ∃ k, x = .bl k ∧ Q k H'
theorem pt_cmpR {op : CmpOp} {r : R2} (ho : OpR X (compareOp op) r) (ha : PE X a ta) (hb : PE X b tb) (hm : behindInMarks op b = false) : PT X (.Compare a [op] [b] pos) (tTest (tOp r ta tb)) := by
  intro pins s σ H Q I h
  refine wpAny_isTrue_Compare1 (thn (ha pins s σ H _ I h) fun v s1 ⟨x, H1, I1, r1, q1⟩ => thn (hb pins s1 σ H1 _ I1 q1) fun u s2 ⟨y, H2, I2, r2, q2⟩ =>
    thn (ho pins s2 σ H2 x y v u _ I2 r1 r2 q2) fun c s3 ⟨z, H3, I3, r3, k, e, q3⟩ => ?_) hm
  subst e
  cases r3
  exact wpAny_truthy_bool ⟨H3, I3, q3⟩
/-- a op1 b op2 c -/
def tChain (r r' : R2) (ta tb tc : TE) : TE := fun σ H Q => ta σ H fun x H1 => tb σ H1 fun y H2 => r x y H2 fun z H3 => ∃ k, z = .bl k ∧
  (if k = true then tc σ H3 fun w' H4 => r' y w' H4 Q else Q (.bl false) H3)
theorem pe_chain {op op' : CmpOp} {r r' : R2} (ho : OpR X (compareOp op) r) (ho' : OpR X (compareOp op') r') (ha : PE X a ta) (hb : PE X b tb) (hc : PE X c tc)
    (hm : lastMarks [op, op'] [b, c] = false := by with_unfolding_all rfl) : PE X (.Compare a [op, op'] [b, c] pos) (tChain r r' ta tb tc) := by
  intro pins s σ H Q I h
  refine Compare_chain (thn (ha pins s σ H _ I h) fun v s1 ⟨x, H1, I1, r1, q1⟩ => chain_link (thn (hb pins s1 σ H1 _ I1 q1) fun u s2 ⟨y, H2, I2, r2, q2⟩ =>
    thn (ho pins s2 σ H2 x y v u _ I2 r1 r2 q2) fun d s3 ⟨z, H3, I3, r3, k, e, q3⟩ => ?_)) hm
  subst e
  cases r3
  refine wpAny_truthy_bool ?_
  cases k with
  | false => exact ite_ff ⟨.bl false, H3, I3, rfl, q3⟩
  | true => exact ite_tt (chain_last (thn (hc pins s3 σ H3 _ I3 q3) fun w' s4 ⟨z', H4, I4, r4, q4⟩ => ho' pins s4 σ H4 y z' u w' Q I4 r2 r4 q4))
/-! ### truth -/
/-- a value's truth by the abstract heap -/
def TruV (K : PySem.W.Frag) (x : V) (H : Hp) (k : Bool) : Prop :=
  match x with
  | .non => k = false
  | .bl b => k = b
  | .int i => k = (i != 0)
  | .str y => y.length ≤ sizeLine ∧ k = ((y.length : Int) != 0)
  | .byt y => y.size ≤ sizeLine ∧ k = ((y.size : Int) != 0)
  | .ref p => (∃ xs, SqL K H p xs ∧ k = !xs.isEmpty) ∨ (∃ xs, SqT K H p xs ∧ k = !xs.isEmpty) ∨ ∃ kvs, H p = some (.dK kvs) ∧ k = !kvs.isEmpty
  | _ => False
theorem line63 : (sizeLine : Nat) < 2 ^ 63 := by rw [sizeLine_eq]; decide
/-! ### strs and bytes -/
theorem op_add_str : OpR X (binaryOp .Add) (fun x y H Q => ∃ i j, x = .str i ∧ y = .str j ∧ i.length + j.length ≤ sizeLine ∧ Q (.str (i ++ j)) H) := by
  intro pins s σ H x y v u Q I rx ry h
  obtain ⟨i, j, rfl, rfl, hz, q⟩ := h
  obtain ⟨t, rfl⟩ := rx
  obtain ⟨t', rfl⟩ := ry
  exact add_str (fun t' tk => ⟨.str (i ++ j), H, I.tok _, ⟨_, rfl⟩, q⟩) hz
def PlainIxT (b : Expr) : Prop := ∀ o i, subscripted b false o i = operate [o, i] (getItem o i)
/-! ### scalar builtins, by CallR -/
theorem vals1 {x : V} {us : List Value} (r : Vals [x] us) : ∃ u, us = [u] ∧ RelV x u := by
  cases r with
  | cons r1 r2 => cases r2; exact ⟨_, rfl, r1⟩
theorem vals2 {x y : V} {us : List Value} (r : Vals [x, y] us) : ∃ u w', us = [u, w'] ∧ RelV x u ∧ RelV y w' := by
  cases r with
  | cons r1 r2 =>
    cases r2 with
    | cons r3 r4 => cases r4; exact ⟨_, _, rfl, r1, r3⟩
theorem call_abs : CallR X (.builtin "abs") (fun xs H Q => ∃ i, xs = [.int i] ∧ Q (.int (if i < 0 then -i else i)) H) := by
  intro pins s σ H xs us Q I r h
  obtain ⟨i, rfl, q⟩ := h
  obtain ⟨u, rfl, t, rfl⟩ := vals1 r
  exact call_abs_int fun u tk => ⟨.int (if i < 0 then -i else i), H, I.tok _, ⟨_, rfl⟩, q⟩
theorem call_min2 (hc : X.calm = true) : CallR X (.builtin "min") (fun xs H Q => ∃ i j, xs = [.int i, .int j] ∧ Q (.int (if j < i then j else i)) H) := by
  intro pins s σ H xs us Q I r h
  obtain ⟨i, j, rfl, q⟩ := h
  obtain ⟨u, w', rfl, ⟨t, rfl⟩, ⟨t', rfl⟩⟩ := vals2 r
  refine min_two_ints (I.ok.hd hc) fun h' tk k => ⟨_, H, I.kept k, ?_, q⟩
  by_cases hj : j < i
  · rw [if_pos hj, if_pos hj]; exact ⟨_, rfl⟩
  · rw [if_neg hj, if_neg hj]; exact ⟨_, rfl⟩
theorem call_int1 : CallR X (.type "int") (fun xs H Q => (∃ i, xs = [.int i] ∧ Q (.int i) H) ∨ ∃ k, xs = [.bl k] ∧ Q (.int (if k then 1 else 0)) H) := by
  intro pins s σ H xs us Q I r h
  rcases h with ⟨i, rfl, q⟩ | ⟨k, rfl, q⟩
  · obtain ⟨u, rfl, t, rfl⟩ := vals1 r
    exact call_int_int ⟨.int i, H, I, ⟨_, rfl⟩, q⟩
  · obtain ⟨u, rfl, r1⟩ := vals1 r
    cases r1
    exact call_int_bool ⟨.int (if k then 1 else 0), H, I.tok _, ⟨_, rfl⟩, q⟩
theorem call_str_int : CallR X (.type "str") (fun xs H Q => ∃ i, xs = [.int i] ∧ i.natAbs.log2 < 1920 ∧ Q (.str (toString i)) H) := by
  intro pins s σ H xs us Q I r h
  obtain ⟨i, rfl, hz, q⟩ := h
  obtain ⟨u, rfl, t, rfl⟩ := vals1 r
  exact PySem.P.str_of_int hz ⟨.str _, H, I.tok _, ⟨_, rfl⟩, q⟩
theorem call_ord : CallR X (.builtin "ord") (fun xs H Q => ∃ x, xs = [.str x] ∧ x.length = 1 ∧ Q (.int (x.cps.getD 0 0 : Nat)) H) := by
  intro pins s σ H xs us Q I r h
  obtain ⟨x, rfl, hz, q⟩ := h
  obtain ⟨u, rfl, t, rfl⟩ := vals1 r
  exact ord_of_one hz ⟨.int _, H, I.tok _, ⟨_, rfl⟩, q⟩
/-- len of a str, a bytes, a list, a tuple -/
def LenV (K : PySem.W.Frag) (x : V) (H : Hp) (n : Nat) : Prop :=
  match x with
  | .str y => y.length ≤ sizeLine ∧ n = y.length
  | .byt y => y.size ≤ sizeLine ∧ n = y.size
  | .ref p => (∃ xs, SqL K H p xs ∧ n = xs.length) ∨ ∃ xs, SqT K H p xs ∧ n = xs.length
  | _ => False
theorem call_len : CallR X (.builtin "len") (fun xs H Q => ∃ x n, xs = [x] ∧ LenV X.K x H n ∧ Q (.int n) H) := by
  intro pins s σ H xs us Q I r h
  obtain ⟨x, n, rfl, e, q⟩ := h
  obtain ⟨u, rfl, rx⟩ := vals1 r
  have hl := line63
  have hs : sizeLine = 16777216 := sizeLine_eq
  cases x with
  | str y =>
    obtain ⟨t, rfl⟩ := rx
    obtain ⟨hy, e'⟩ : y.length ≤ sizeLine ∧ n = y.length := e
    subst e'
    exact len_str (by omega) ⟨.int _, H, I.tok _, ⟨_, rfl⟩, q⟩
  | byt y =>
    obtain ⟨t, rfl⟩ := rx
    obtain ⟨hy, e'⟩ : y.size ≤ sizeLine ∧ n = y.size := e
    subst e'
    exact PySem.W.len_bytes (by omega) ⟨.int _, H, I.tok _, ⟨_, rfl⟩, q⟩
  | ref p =>
    cases rx
    have e' : (∃ xs, SqL X.K H p xs ∧ n = xs.length) ∨ ∃ xs, SqT X.K H p xs ∧ n = xs.length := e
    rcases e' with ⟨xs, hx, e'⟩ | ⟨xs, hx, e'⟩
    · subst e'
      obtain ⟨its, r', pl, hz⟩ := I.list hx
      have hlen := r'.length
      exact Calls.call_len_list pl.isList (by simp only [List.size_toArray]; omega) ⟨.int xs.length, H, I.tok _, ⟨_, by simp only [List.size_toArray]; rw [hlen]⟩, q⟩
    · subst e'
      obtain ⟨its, r', pl, hz⟩ := I.tuple hx
      have hlen := r'.length
      exact len_tuple pl (by simp only [List.size_toArray]; omega) ⟨.int xs.length, H, I.tok _, ⟨_, by simp only [List.size_toArray]; rw [hlen]⟩, q⟩
  | _ => exact (show False from e).elim
end
end L2

namespace L2
open PySem PySem.Spec PyProof.Rows

/-! ### an instance, its attributes a map -/
structure ObjM (h : Heap) (x dx C : Addr) (mA : Str → Option Value) : Prop where
  obj : h.get? x = some (PySem.W.instObj C dx)
  ns : h.Ns1 dx mA
  ne : dx ≠ x

theorem lookIn_ns {h : Heap} {dx : Addr} {mA : Str → Option Value} (n : h.Ns1 dx mA) : ∃ od, h.get? dx = some od ∧ ∀ name, PySem.W.lookIn name od = some (mA name) := by
  obtain ⟨o, es, ep, ho, hd, hk, _, hm⟩ := n
  refine ⟨o, ho, fun name => ?_⟩
  have e := hm name
  unfold nsFind findBy at e
  rw [← Array.find?_toList] at e
  unfold PySem.W.lookIn
  rw [hd]
  dsimp only
  split
  · rename_i y q
    rw [q] at e
    exact congrArg some e
  · rename_i q
    rw [q] at e
    have a : es.toList.any (·.refKey) = false := by
      rw [List.any_eq_false]
      intro y hy
      obtain ⟨z, t, hkey⟩ := hk y (Array.mem_toList_iff.mp hy)
      simp [DictEntry.refKey, hkey]
    have a' : ¬ es.toList.any (·.refKey) = true := by rw [a]; exact Bool.false_ne_true
    rw [if_neg a']
    exact congrArg some e

theorem ObjM.look {h : Heap} {x dx C : Addr} {mA : Str → Option Value} (I : ObjM h x dx C mA) : ∃ od, PySem.W.InstAt h x (PySem.W.instObj C dx) C (some od) ∧ ∀ name, PySem.W.lookIn name od = some (mA name) :=
  let ⟨od, ho, hl⟩ := lookIn_ns I.ns
  ⟨od, ⟨I.obj, rfl, rfl, ho⟩, hl⟩

section
variable {prog : Program} {w : World} {A : Around} {E : Value → Shared → Prop} {s : Shared} {K : PySem.W.Frag} {x dx C f : Addr} {mA : Str → Option Value} {name : Str} {v : Value}

end

/-! ### the attributes as a list of pairs -/
def putF (f : Str) (v : V) : List (Str × V) → List (Str × V)
  | [] => [(f, v)]
  | (g, x) :: r => if g = f then (g, v) :: r else (g, x) :: putF f v r
section
variable {P : Program} {w : World} {H H' : Hp} {h h' : Heap} {a C dx : Addr} {fs fs' : List (Str × V)}
theorem ins_get (hok : HOk P w H h) (e : H a = some (.ins C dx fs)) : ∃ mA, ObjM h a dx C mA ∧ (∀ f, RelO (fs.lookup f) (mA f)) ∧ PySem.Within mA (fs.map (·.1)) ∧ fs.length ≤ 1000 ∧ H dx = some (.own a) := by
  obtain ⟨d, z, ne, ob, mA, n, r, q⟩ := (show ObjOk P w H h a (.ins C dx fs) from hok a _ e)
  exact ⟨mA, ⟨ob, n, ne⟩, r, q, z, d⟩
end

/-! ### what of the text a class must have -/
structure Cls (K : PySem.W.Frag) (C : Addr) : Prop where
  pg : PySem.W.plainGet K C Str.empty = true
  hd : PySem.W.hasDictIn K C = true
  po : PySem.W.plainOver K C = true
  sa : PySem.W.findIn K (.ref C) "__setattr__" = some (some (.builtin "object.__setattr__"))
theorem Cls.get {K : PySem.W.Frag} {C : Addr} (c : Cls K C) (f : Str) : PySem.W.plainGet K C f = true := c.pg
/-- no class of it has the name -/
def NoAttr (K : PySem.W.Frag) (C : Addr) (f : Str) : Prop := PySem.W.findIn K (.ref C) f = some none
/-- a constant of the class -/
structure Con (K : PySem.W.Frag) (C : Addr) (f : Str) (v : V) (u : Value) : Prop where
  at_ : PySem.W.findIn K (.ref C) f = some (some u)
  rel : RelV v u
  get : PySem.W.specialIn K u "__get__" = some none
  cp : PySem.W.copiedNames.contains f = false
/-- a method: a plain def of the class or of one above it -/
structure Meth (K : PySem.W.Frag) (C : Addr) (m : Str) (f : Addr) : Prop where
  at_ : PySem.W.findIn K (.ref C) m = some (some (.ref f))
  fn : PySem.W.isFn K (.ref f) = true
  kp : PySem.W.keepIn K (.ref f) = true

section
variable {X : Cx} {pins : List (Addr × Obj)} {σ : St} {H : Hp} {s : Shared} {a C dx : Addr} {fs : List (Str × V)} {f : Str} {v : V} {A : Around} {E : Value → Shared → Prop}

end

/-! ### readings and rules -/
/-- e.f, an attribute of the instance -/
def tFld (K : PySem.W.Frag) (ta : TE) (f : Str) : TE := fun σ H Q => ta σ H fun x H1 => ∃ a C dx fs v, x = .ref a ∧ H1 a = some (.ins C dx fs) ∧ Cls K C ∧ NoAttr K C f ∧ fs.lookup f = some v ∧ Q v H1
/-- e.f, a constant of the class -/
def tCon (K : PySem.W.Frag) (ta : TE) (f : Str) : TE := fun σ H Q => ta σ H fun x H1 => ∃ a C dx fs v u, x = .ref a ∧ H1 a = some (.ins C dx fs) ∧ Cls K C ∧ Con K C f v u ∧ fs.lookup f = none ∧ Q v H1
/-- e.f = value -/
def sFld (K : PySem.W.Frag) (ta tv : TE) (f : Str) : TS := fun D σ H => tv σ H fun y H1 => ta σ H1 fun x H2 => ∃ a C dx fs, x = .ref a ∧ H2 a = some (.ins C dx fs) ∧ Cls K C ∧ NoAttr K C f ∧ fs.length < 1000 ∧
  D.nx σ (upd H2 a (.ins C dx (putF f y fs)))
/-- an augmented operator on two values -/
def InOp (X : Cx) (op : Operator) (rd : V → V → Hp → VK → Prop) : Prop :=
  ∀ (pins : List (Addr × Obj)) (s : Shared) (σ : St) (H : Hp) (x y : V) (u v : Value) (Q : VK), Inv X pins σ H s → RelV x u → RelV y v → rd x y H Q → wpAny (model X.prog X.w) X.A (inplaceOp op u v) (EP X pins σ Q) X.xe s
/-- e.f op= value -/
def sFldAug (K : PySem.W.Frag) (ta tv : TE) (rd : V → V → Hp → VK → Prop) (f : Str) : TS := fun D σ H => ta σ H fun x H1 => ∃ a C dx fs v, x = .ref a ∧ H1 a = some (.ins C dx fs) ∧ Cls K C ∧ NoAttr K C f ∧ fs.lookup f = some v ∧
  tv σ H1 fun y H2 => rd v y H2 fun z H3 => ∃ dx' fs', H3 a = some (.ins C dx' fs') ∧ fs'.length < 1000 ∧ D.nx σ (upd H3 a (.ins C dx' (putF f z fs')))

section
variable {X : Cx} {o e value : Expr} {f : Str} {pos pos' tpos : Pos} {ta tv : TE}
def rAdd : V → V → Hp → VK → Prop := fun x y H Q => ∃ i j, x = .int i ∧ y = .int j ∧ Q (.int (i + j)) H
def rSub : V → V → Hp → VK → Prop := fun x y H Q => ∃ i j, x = .int i ∧ y = .int j ∧ Q (.int (i - j)) H
end

/-! ### isinstance -/
section
variable {X : Cx} {pins : List (Addr × Obj)} {σ : St} {H : Hp} {s : Shared} {A : Around} {E : Value → Shared → Prop} {Q : Value → Shared → Prop} {c : Value} {b : Bool}
/-- the type of a value, as the fragment's deciders take it; for an instance its class -/
inductive TyOf (K : PySem.W.Frag) (H : Hp) : V → Value → Prop where
  | non : TyOf K H .non (.type "NoneType")
  | bl (x : Bool) : TyOf K H (.bl x) (.type "bool")
  | int (i : Int) : TyOf K H (.int i) (.type "int")
  | str (x : Str) : TyOf K H (.str x) (.type "str")
  | flt (x : UInt64) : TyOf K H (.flt x) (.type "float")
  | lst {a : Addr} {xs : List V} (e : H a = some (.lst xs)) : TyOf K H (.ref a) (.type "list")
  | frz {a : Addr} {o : Obj} {xs : List V} (e : H a = some (.frz o (.lst xs))) : TyOf K H (.ref a) (.type "list")
  | tup {a : Addr} {xs : List V} (e : H a = some (.tup xs)) : TyOf K H (.ref a) (.type "tuple")
  | dK {a : Addr} {kvs : List (Key × V)} (e : H a = some (.dK kvs)) : TyOf K H (.ref a) (.type "dict")
  | dT {a : Addr} {kvs : List (List Key × V)} (e : H a = some (.dT kvs)) : TyOf K H (.ref a) (.type "dict")
  | ins {a C dx : Addr} {fs : List (Str × V)} (e : H a = some (.ins C dx fs)) (cl : Cls K C) (ha : PySem.W.findIn K (.ref C) "__class__" = some (some (.builtin "object.__class__")))
      (hn : PySem.W.specialIn K (.builtin "object.__class__") "__get__" = some (some (.builtin "getset_descriptor.__get__"))) (htk : PySem.W.takesIn K (.builtin "object.__class__") = some true)
      (hm : PySem.W.mroIn K C (.type "object") = some true) : TyOf K H (.ref a) (.ref C)
/-- isinstance(x, c) for one class c, a built-in or an own one: kitOne's answer -/
theorem isinst_ok {x : V} {u t : Value} (I : Inv X pins σ H s) (rx : RelV x u) (ty : TyOf X.K H x t) (e : PySem.W.kitOne X.K t c = some b) (h : ∀ tk, Q (.bool b) { s with toks := tk }) :
    wpAny (model X.prog X.w) A (call (.builtin "isinstance") [u, c]) Q E s := by
  cases ty with
  | non => cases (show u = Value.none from rx); exact PySem.W.kia_one PySem.W.kitx_none I.kIn True.intro e (fun z => nomatch z) h
  | bl y => cases (show u = Value.bool y from rx); exact PySem.W.kia_one PySem.W.kitx_bool I.kIn True.intro e (fun z => nomatch z) h
  | int i => obtain ⟨t, q⟩ := (show ∃ t, u = Value.int i t from rx); cases q; exact PySem.W.kia_one PySem.W.kitx_int I.kIn True.intro e (fun z => nomatch z) h
  | str y => obtain ⟨t, q⟩ := (show ∃ t, u = Value.str y t from rx); cases q; exact PySem.W.kia_one PySem.W.kitx_str I.kIn True.intro e (fun z => nomatch z) h
  | flt y => obtain ⟨t, q⟩ := (show ∃ t, u = Value.float y t from rx); cases q; exact PySem.W.kia_one PySem.W.kitx_float I.kIn True.intro e (fun z => nomatch z) h
  | @lst a xs ea =>
    cases (show u = Value.ref a from rx)
    obtain ⟨_, _, n, _, h1⟩ := (show ObjOk X.prog X.w H s.heap a (.lst xs) from I.hok a _ ea)
    exact PySem.W.kia_one PySem.W.kitx_list I.kIn ⟨_, h1, rfl⟩ e (fun z => nomatch z) h
  | @frz a ob xs ea =>
    cases (show u = Value.ref a from rx)
    obtain ⟨_, _, _, n, _, h1⟩ := (show ObjOk X.prog X.w H s.heap a (.frz ob (.lst xs)) from I.hok a _ ea)
    exact PySem.W.kia_one PySem.W.kitx_list I.kIn ⟨_, h1, rfl⟩ e (fun z => nomatch z) h
  | @tup a xs ea =>
    cases (show u = Value.ref a from rx)
    obtain ⟨_, _, _, p⟩ := (show ObjOk X.prog X.w H s.heap a (.tup xs) from I.hok a _ ea)
    obtain ⟨o, h1, h2, _⟩ := p
    exact PySem.W.kia_one PySem.W.kitx_tuple I.kIn ⟨o, h1, h2⟩ e (fun z => nomatch z) h
  | @dK a kvs ea =>
    cases (show u = Value.ref a from rx)
    obtain ⟨_, _, vs, _, p⟩ := (show ObjOk X.prog X.w H s.heap a (.dK kvs) from I.hok a _ ea)
    obtain ⟨o, es, ep, h1, h2, _⟩ := p
    exact PySem.W.kia_one PySem.W.kitx_dict I.kIn ⟨o, h1, h2.1⟩ e (fun z => nomatch z) h
  | @dT a kvs ea =>
    cases (show u = Value.ref a from rx)
    obtain ⟨_, _, xs, _, o, es, ep, h1, h2, _⟩ := (show ObjOk X.prog X.w H s.heap a (.dT kvs) from I.hok a _ ea)
    exact PySem.W.kia_one PySem.W.kitx_dict I.kIn ⟨o, h1, h2.1⟩ e (fun z => nomatch z) h
  | @ins a C dx fs ea cl ha hn htk hm =>
    cases (show u = Value.ref a from rx)
    obtain ⟨mA, O, _⟩ := ins_get I.hok ea
    obtain ⟨od, J, _⟩ := O.look
    exact PySem.W.kia_one (PySem.W.kitx_own (cl.get _) cl.hd ha hn htk hm) I.kIn J e (fun z => nomatch z) h
end
end L2

namespace L2
open PySem PySem.Spec PyProof.Rows

/-! ### room -/
structure Room (k : Nat) (A : Around) : Prop where
  hd : A.handled = none
  dp : A.depth + 3 * k + 5 < recursionLimit
  un : A.units + 16 * k + 200 < cLine
theorem Room.mono {j k : Nat} {A : Around} (r : Room k A) (h : j ≤ k) : Room j A := ⟨r.hd, by have := r.dp; omega, by have := r.un; omega⟩
theorem Room.deeper {k : Nat} {A : Around} (r : Room (k + 1) A) (env : Env) : Room k (A.deeper env) :=
  ⟨r.hd, by have := r.dp; show A.depth + 1 + 3 * k + 5 < _; omega, by have := r.un; show A.units + 3 + 16 * k + 200 < _; omega⟩
theorem Room.depth {k : Nat} {A : Around} (r : Room k A) : A.depth < recursionLimit := by have := r.dp; omega
/-! ### argument lists and displays -/
def tNil : TA := fun _ H Q => Q [] H
def tCons (ta : TE) (tr : TA) : TA := fun σ H Q => ta σ H fun x H1 => tr σ H1 fun xs H2 => Q (x :: xs) H2
section
variable {X : Cx} {e : Expr} {es : List Expr} {te : TE} {t : TA} {pos : Pos}
theorem pa_nil : PA X [] tNil := fun _ _ _ _ H Q I h => Calls.spliced_nil ⟨[], H, I, .nil, h⟩
theorem pa_cons (ha : PE X e te) (hr : PA X es t) (hs : starEach (e :: es) X.env = (false, eval e X.env) :: starEach es X.env := by rfl) : PA X (e :: es) (tCons te t) := by
  intro pos pins s σ H Q I h
  rw [hs]
  show wpAny _ _ (spliced ((false, eval e X.env) :: backTo pos (starEach es X.env))) _ _ s
  refine Calls.spliced_cons (thn (ha pins s σ H _ I h) fun u s1 ⟨x, H1, I1, r1, q1⟩ => ?_)
  exact thn (hr pos pins s1 σ H1 _ I1 q1) fun us s2 ⟨xs, H2, I2, r2, q2⟩ => ⟨x :: xs, H2, I2, .cons r1 r2, q2⟩

/-- a tuple, a list of written items -/
def tTup (t : TA) : TE := fun σ H Q => t σ H fun xs H1 => xs.length ≤ sizeLine ∧ ∀ p, H1 p = none → Q (.ref p) (upd H1 p (.tup xs))
def tLst (t : TA) : TE := fun σ H Q => t σ H fun xs H1 => xs.length ≤ sizeLine ∧ ∀ p, H1 p = none → Q (.ref p) (upd H1 p (.lst xs))
theorem pe_tup {x1} (h : PA X es t) : PE X (.Tuple es x1 pos) (tTup t) := by
  intro pins s σ H Q I hq
  refine wpAny_Tuple_spliced (thn (h pos pins s σ H _ I hq) fun us s1 ⟨xs, H1, I1, r, z, q⟩ => ⟨by rw [← r.length]; exact z, ?_⟩)
  have hf : H1 s1.heap.objs.size = none := I1.hok.fresh (Nat.le_refl _)
  refine ⟨.ref s1.heap.objs.size, upd H1 s1.heap.objs.size (.tup xs), I1.laid (t' := s1.toks) (fun b u e => Heap.get?_push_of_some _ e) (Nat.le_refl _) ?_, rfl, q _ hf⟩
  exact ⟨z, us, r, ⟨_, Heap.get?_push_size _ rfl, rfl, _, rfl⟩⟩
theorem pe_lst (h : PA X es t) : PE X (.List es pos) (tLst t) := by
  intro pins s σ H Q I hq
  refine wpAny_List_spliced (thn (h pos pins s σ H _ I hq) fun us s1 ⟨xs, H1, I1, r, z, q⟩ => ⟨by rw [← r.length]; exact z, ?_⟩)
  have hf : H1 s1.heap.objs.size = none := I1.hok.fresh (Nat.le_refl _)
  refine ⟨.ref s1.heap.objs.size, upd H1 s1.heap.objs.size (.lst xs), I1.laid (t' := s1.toks) (fun b u e => Heap.get?_push_of_some _ e) (Nat.le_refl _) ?_, rfl, q _ hf⟩
  exact ⟨z, us, 0, r, Heap.get?_push_size _ rfl⟩
end

/-! ### what a def promises -/
/-- a def's promise: the bound arguments in the parameters' order, the heap, the wanted end, the wanted exception -/
abbrev Sp := List V → Hp → VK → XK → Prop
/-- how an exception lies behind a call (file 08 gives it): the callers' frames, abstract heap and state ahead of the call, the wish, the exception, the state -/
abbrev CXT := List Env → Hp → Shared → XK → Value → Shared → Prop

/-- the state at a call -/
structure Env0 (P : Program) (w : World) (K : PySem.W.Frag) (mg : Str → Option Value) (base : Heap) (A : Around) (outer : List Env) (s : Shared) (H : Hp) : Prop where
  frames : A.frames = some outer
  mod : Mod K mg base
  bs : ∀ b o, base.get? b = some o → s.heap.get? b = some o ∧ H b = none
  bsz : base.objs.size ≤ s.heap.objs.size
  funs : s.heap.FunFrames base outer
  frf : ∀ b ∈ frs outer, H b = none
  hok : HOk P w H s.heap
  bare : AllBare s.gens
/-- a call's end -/
def CE (outer : List Env) (P : Program) (w : World) (H : Hp) (s : Shared) (Q : VK) (u : Value) (s' : Shared) : Prop :=
  ∃ v H', s'.os = s.os ∧ AllBare s'.gens ∧ Un (frs outer) [] H H' s.heap s'.heap ∧ HOk P w H' s'.heap ∧ RelV v u ∧ Q v H'
def CR (CX : CXT) (outer : List Env) (P : Program) (w : World) (H : Hp) (s : Shared) (Q : VK) (E : XK) (r : Result) (s' : Shared) : Prop :=
  match r with
  | .ok (.ret u) => CE outer P w H s Q u s'
  | .ok _ => False
  | .error e => CX outer H s E e s'
structure FnOk (P : Program) (w : World) (K : PySem.W.Frag) (mg : Str → Option Value) (base : Heap) (CX : CXT) (k : Nat) (f : Addr) (fd : FuncData) (ps : List Str) (sp : Sp) : Prop where
  len : ∀ vs H Q E, sp vs H Q E → vs.length = ps.length
  run : ∀ (A : Around) (outer : List Env) (s : Shared) (H : Hp) (args : Args) (us : List Value) (vs : List V) (Q : VK) (E : XK), Room k A → Env0 P w K mg base A outer s H → BindsTo s fd args (ps.zip us) → Vals vs us → sp vs H Q E →
    codeAny (model P w) A (.call (.ref f) args) (CR CX outer P w H s Q E) s
theorem FnOk.mono {P : Program} {w : World} {K : PySem.W.Frag} {mg : Str → Option Value} {base : Heap} {CX : CXT} {j k : Nat} {f : Addr} {fd : FuncData} {ps : List Str} {sp : Sp} (F : FnOk P w K mg base CX j f fd ps sp) (h : j ≤ k) :
    FnOk P w K mg base CX k f fd ps sp := ⟨F.len, fun A outer s H args us vs Q E hr => F.run A outer s H args us vs Q E (hr.mono h)⟩
section
variable {X : Cx} {pins : List (Addr × Obj)} {σ : St} {H : Hp} {s s' : Shared}
/-- from a body: what a callee wants -/
theorem Inv.env0 (I : Inv X pins σ H s) : Env0 X.prog X.w X.K X.mg X.base X.A X.stack s H :=
  ⟨I.ok.frames, I.ok.mod, I.bs, Nat.le_trans I.ok.bsz I.sz, I.stack, I.stkFree, I.hok, I.bare⟩
/-- behind a call -/
theorem Inv.after {Q : VK} {u : Value} (I : Inv X pins σ H s) (h : CE X.stack X.prog X.w H s Q u s') : EP X pins σ Q u s' := by
  obtain ⟨v, H', os, bare, un, hok, r, q⟩ := h
  obtain ⟨hh, g, d, t, os'⟩ := s'
  obtain rfl : os' = s.os := os
  exact ⟨v, H', I.call (h' := hh) (g' := g) (d' := d) (t' := t) (ch := []) un hok bare (fun b z => absurd z (by simp)), r, q⟩
end

/-! ### calls -/
/-- f(..): the written arguments, then the defaults dvs; E: what is wanted of an exception -/
def tCall (sp : Sp) (dvs : List V) (E : XK) (t : TA) : TE := fun σ H Q => t σ H fun vs H1 => sp (vs ++ dvs) H1 Q E
/-- o.m(..) of an instance of the class at C -/
def tMeth (C : Addr) (m : Str) (sp : Sp) (dvs : List V) (E : XK) (ta : TE) (t : TA) : TE := fun σ H Q => ta σ H fun x H1 => ∃ a dx fs, x = .ref a ∧ H1 a = some (.ins C dx fs) ∧ fs.lookup m = none ∧
  t σ H1 fun vs H2 => sp (x :: (vs ++ dvs)) H2 Q E
/-- C(..): a new instance and its dict, then __init__ -/
def tMake (C : Addr) (sp : Sp) (dvs : List V) (E : XK) (t : TA) : TE := fun σ H Q => t σ H fun vs H1 => ∀ x dx, H1 x = none → H1 dx = none → dx ≠ x →
  sp (.ref x :: (vs ++ dvs)) (upd (upd H1 dx (.own x)) x (.ins C dx [])) (fun v H2 => v = .non ∧ Q (.ref x) H2) E

/-- how the parameters are bound: us the positional arguments, kw the keywords' values by name, ds the defaults that fill up -/
def Binds (K : PySem.W.Frag) (fd : FuncData) (ps : List Str) (ds : List Value) : Prop :=
  ∀ (s : Shared) (us : List Value), K.In s.heap → (us ++ ds).length = ps.length → BindsTo s fd ⟨us, []⟩ (ps.zip (us ++ ds))
/-- every parameter is given -/
theorem Binds.all {K : PySem.W.Frag} {fd : FuncData} {ps : List Str} (h : ∀ us : List Value, us.length = ps.length → bindArgs fd ⟨us, []⟩ = pure (ps.zip us)) : Binds K fd ps [] := fun s us _ hl => by
  rw [List.append_nil] at hl ⊢
  exact .of_eq (h us hl)

/-- an exception of a callee reaches what this body wants of exceptions -/
def Passes (CX : CXT) (X : Cx) (E : XK) : Prop := ∀ (pins : List (Addr × Obj)) (σ : St) (H : Hp) (s : Shared) (e : Value) (s' : Shared), Inv X pins σ H s → CX X.stack H s E e s' → X.xe e s'

section
variable {X : Cx} {CX : CXT} {k : Nat} {f C : Addr} {fd : FuncData} {ps : List Str} {sp : Sp} {dvs : List V} {ds : List Value} {E : XK} {x m : Str} {p pos apos : Pos} {e o : Expr} {es : List Expr} {ta : TE} {t : TA}

/-- the callee runs -/
theorem run_fn {pins : List (Addr × Obj)} {σ : St} {H : Hp} {s : Shared} {Q : VK} {us : List Value} {vs : List V} (F : FnOk X.prog X.w X.K X.mg X.base CX k f fd ps sp) (hr : Room k X.A) (hb : Binds X.K fd ps ds) (hd : Vals dvs ds) (hx : Passes CX X E)
    (I : Inv X pins σ H s) (r : Vals vs us) (h : sp (vs ++ dvs) H Q E) : wpAny (model X.prog X.w) X.A (call (.ref f) us) (EP X pins σ Q) X.xe s := by
  have r2 : Vals (vs ++ dvs) (us ++ ds) := r.append hd
  have hl : (us ++ ds).length = ps.length := by rw [← r2.length]; exact F.len _ _ _ _ h
  refine wpAny_call (codeAny_mono (F.run X.A X.stack s H ⟨us, []⟩ (us ++ ds) (vs ++ dvs) Q E hr I.env0 (hb s us I.kIn hl) r2 h) fun r s' hq => ?_)
  cases r with
  | error e => exact hx pins σ H s e s' I hq
  | ok fl =>
    cases fl with
    | ret u => exact I.after hq
    | next => exact False.elim hq
    | brk => exact False.elim hq
    | cont => exact False.elim hq

theorem pe_call (F : FnOk X.prog X.w X.K X.mg X.base CX k f fd ps sp) (hr : Room k X.A) (hg : Gl X x) (hm : X.mg x = some (.ref f)) (hk : PySem.W.keepIn X.K (.ref f) = true) (hb : Binds X.K fd ps ds) (hd : Vals dvs ds) (hx : Passes CX X E)
    (ha : PA X (e :: es) t) (hdb : (x == ("__debug__" : Str)) = false := by decide) (he : starEach (e :: es) X.env = (false, eval e X.env) :: starEach es X.env := by rfl) (hpl : (backTo pos (starEach es X.env)).any (·.1) = false := by rfl) :
    PE X (.Call (.Name x p) (e :: es) [] pos) (tCall sp dvs E t) := by
  intro pins s σ H Q I h
  refine wpAny_Call_Name_kw (ld_glob I hg hm ?_ hdb)
  refine PySem.W.callWith_K (h₀ := X.base) I.ok.mod.kin hk (thn (ha pos pins s σ H _ I h) fun us s1 ⟨vs, H1, I1, r, q⟩ => ⟨I1.kIn, ?_⟩) he hpl
  exact run_fn F hr hb hd hx I1 r q
/-- what a class must have to be made -/
structure Mk (K : PySem.W.Frag) (C f : Addr) : Prop where
  makes : PySem.W.makesIn K C = true
  init : PySem.W.findIn K (.ref C) "__init__" = some (some (.ref f))
  fn : PySem.W.isFn K (.ref f) = true
  kp : PySem.W.keepIn K (.ref C) = true

end

/-! ### keywords -/
/-- the values of the keywords, from the left -/
def PK (X : Cx) (kws : List Keyword) (t : TA) : Prop :=
  ∀ (pos : Pos) (pins : List (Addr × Obj)) (s : Shared) (σ : St) (H : Hp) (Q : List V → Hp → Prop), Inv X pins σ H s → t σ H Q → wpAny (model X.prog X.w) X.A (evalAll ((backToKw pos (keywordEach kws X.env)).map (·.2))) (AP X pins σ Q) X.xe s
section
variable {X : Cx} {CX : CXT} {k : Nat} {f C : Addr} {fd : FuncData} {ps ks : List Str} {sp : Sp} {E : XK} {x m : Str} {p pos apos kpos : Pos} {e o : Expr} {es : List Expr} {kws : List Keyword} {te ta : TE} {t tk : TA} {nm : Option Str}
/-- how a call with keywords binds: g puts the positional values us and the keywords' values ws (names ks) in the parameters' order, defaults among them -/
structure KBinds (K : PySem.W.Frag) (fd : FuncData) (ps ks : List Str) (g : List Value → List Value → List Value) (gV : List V → List V → List V) : Prop where
  to : ∀ (s : Shared) (us ws : List Value), K.In s.heap → (g us ws).length = ps.length → BindsTo s fd ⟨us, ks.zip ws⟩ (ps.zip (g us ws))
  rel : ∀ {vs : List V} {us : List Value} {zs : List V} {ws : List Value}, Vals vs us → Vals zs ws → Vals (gV vs zs) (g us ws)
def tCallK (sp : Sp) (gV : List V → List V → List V) (E : XK) (t tk : TA) : TE := fun σ H Q => t σ H fun vs H1 => tk σ H1 fun zs H2 => sp (gV vs zs) H2 Q E
variable {g : List Value → List Value → List Value} {gV : List V → List V → List V}
end

/-! ### a def's body keeps its promise -/
/-- names: the parameters first -/
structure FnScope (N P : List Str) (sc : Scope) : Prop where
  kind : sc.kind = .function
  co : sc.isCoroutine = false
  gen : sc.isGenerator = false
  nd : N.Nodup
  pre : N.take P.length = P
  par : ∀ x ∈ P, sc.names.lookup x = some .local ∨ sc.names.lookup x = some .cell
  nofree : ∀ y ∈ sc.names, y.2 ≠ .free

theorem bindL_out {kindOf : Str → Option NameKind} {x : Str} : ∀ {binds : List (Str × Value)} {m : Str → Option Value}, (∀ v, (x, v) ∉ binds) → bindL kindOf binds m x = m x
  | [], _, _ => rfl
  | (n, v) :: r, m, h => by
    unfold bindL
    rw [bindL_out fun w hw => h w (List.mem_cons_of_mem _ hw)]
    split
    · have : x ≠ n := by rintro rfl; exact h v List.mem_cons_self
      simp [this]
    · rfl
theorem bindC_out {kindOf : Str → Option NameKind} {x : Str} : ∀ {binds : List (Str × Value)} {m : Str → Option Value}, (∀ v, (x, v) ∉ binds) → bindC kindOf binds m x = m x
  | [], _, _ => rfl
  | (n, v) :: r, m, h => by
    unfold bindC
    rw [bindC_out fun w hw => h w (List.mem_cons_of_mem _ hw)]
    split
    · rfl
    · have : x ≠ n := by rintro rfl; exact h v List.mem_cons_self
      simp [this]
theorem bindL_get {kindOf : Str → Option NameKind} {x : Str} {v : Value} : ∀ {P : List Str} {vs : List Value} {i : Nat} {m : Str → Option Value}, P.Nodup → P[i]? = some x → vs[i]? = some v → kindOf x = some .local →
    bindL kindOf (P.zip vs) m x = some v
  | [], _, _, _, _, h, _, _ => by simp at h
  | _ :: _, [], _, _, _, _, h, _ => by simp at h
  | p :: P, w :: vs, 0, m, nd, h1, h2, hk => by
    simp at h1 h2; subst h1; subst h2
    show bindL kindOf ((p, w) :: P.zip vs) m p = _
    unfold bindL
    rw [bindL_out fun v hv => (List.nodup_cons.mp nd).1 (List.of_mem_zip hv).1, if_pos hk]
    simp
  | p :: P, w :: vs, i + 1, m, nd, h1, h2, hk => by
    show bindL kindOf ((p, w) :: P.zip vs) m x = _
    unfold bindL
    exact bindL_get (i := i) (List.nodup_cons.mp nd).2 (by simpa using h1) (by simpa using h2) hk
theorem bindC_get {kindOf : Str → Option NameKind} {x : Str} {v : Value} : ∀ {P : List Str} {vs : List Value} {i : Nat} {m : Str → Option Value}, P.Nodup → P[i]? = some x → vs[i]? = some v → kindOf x ≠ some .local →
    bindC kindOf (P.zip vs) m x = some v
  | [], _, _, _, _, h, _, _ => by simp at h
  | _ :: _, [], _, _, _, _, h, _ => by simp at h
  | p :: P, w :: vs, 0, m, nd, h1, h2, hk => by
    simp at h1 h2; subst h1; subst h2
    show bindC kindOf ((p, w) :: P.zip vs) m p = _
    unfold bindC
    rw [bindC_out fun v hv => (List.nodup_cons.mp nd).1 (List.of_mem_zip hv).1, if_neg hk]
    simp
  | p :: P, w :: vs, i + 1, m, nd, h1, h2, hk => by
    show bindC kindOf ((p, w) :: P.zip vs) m x = _
    unfold bindC
    exact bindC_get (i := i) (List.nodup_cons.mp nd).2 (by simpa using h1) (by simpa using h2) hk

/-- the names' values at the entry -/
def start (N : List Str) (vs : List V) : St := vs.map some ++ List.replicate (N.length - vs.length) none

/-- the context of a def's body, at its entry; an exception leaves the frame, then lies as CX says -/
def cxOf (CX : CXT) (P : Program) (w : World) (K : PySem.W.Frag) (mg : Str → Option Value) (base : Heap) (N : List Str) (qual : Str) (scope : Scope) (f : Addr) (cd : Value) (A : Around) (outer : List Env) (s : Shared) (H : Hp) (E : XK) : Cx where
  prog := P
  w := w
  K := K
  mg := mg
  base := base
  A := A.deeper (envOfC qual scope s.heap.objs.size f cd)
  N := N
  s₀ := s
  H₀ := H
  env := envOfC qual scope s.heap.objs.size f cd
  outer := outer
  stack := envOfC qual scope s.heap.objs.size f cd :: outer
  ex := []
  calm := true
  fn := fun _ => true
  pn := []
  xe := fun e s' => wpAny (model P w) (A.deeper (envOfC qual scope s.heap.objs.size f cd)) (leaving (envOfC qual scope s.heap.objs.size f cd) e) (fun _ s'' => CX outer H s E e s'') (fun e' s'' => CX outer H s E e' s'') s'

theorem cell_has {sc : Scope} {n : Nat} {x : Str} (h : sc.names.lookup x = some .cell) : ∃ c, (cellsFrom n sc.names []).lookup x = some c := by
  have q := PySem.W.cellsFrom_some sc.names n [] (.inl h)
  exact Option.isSome_iff_exists.mp q

theorem inv_start {CX : CXT} {P : Program} {w : World} {K : PySem.W.Frag} {mg : Str → Option Value} {base : Heap} {N ps : List Str} {qual : Str} {scope : Scope} {f : Addr} {cd : Value} {A : Around} {outer : List Env} {s s1 : Shared} {H : Hp} {E : XK} {us : List Value} {vs : List V}
    (S : FnScope N ps scope) (hd : A.handled = none) (e0 : Env0 P w K mg base A outer s H) (hl : vs.length = ps.length) (r : Vals vs us)
    (x : InCallC s s.heap.objs.size (bindL (envOfC qual scope s.heap.objs.size f cd).kindOf (ps.zip us) fun _ => none) (cellsFrom (s.heap.objs.size + 1) scope.names []) (bindC (envOfC qual scope s.heap.objs.size f cd).kindOf (ps.zip us) fun _ => none) s1) :
    Inv (cxOf CX P w K mg base N qual scope f cd A outer s H E) [] (start N vs) H s1 := by
  have hpl : ps.length ≤ N.length := by have := congrArg List.length S.pre; rw [List.length_take] at this; omega
  obtain ⟨h1, tk, rfl, hk⟩ := x.done
  have noA : ∀ b : Addr, b ∉ (cxOf CX P w K mg base N qual scope f cd A outer s H E).ex := fun b z => absurd (show b ∈ ([] : List Addr) from z) (by simp)
  refine ⟨⟨e0.mod, S.kind, rfl, rfl, Nat.le_refl _, fun y z c h1 h2 => ?_, fun y hy => ?_, fun y c _ h => ?_, fun _ => hd, Around.frames_deeper e0.frames, .inr ⟨rfl, rfl⟩, fun b z => absurd z (noA b), e0.bs, e0.bsz, fun b _ _ => noA b, fun b z => absurd z (noA b), e0.funs, e0.frf⟩,
    rfl, e0.bare, Un.kept hk, ⟨_, x.toInCall.ns, fun i y v h1 h2 h3 => ?_⟩, fun y c h => ⟨_, x.cell y c h⟩, e0.hok.fresh (Nat.le_refl _), fun y c h => ?_, fun p hp => absurd (show p ∈ ([] : List (Addr × Obj)) from hp) (by simp), e0.hok.kept hk, ?_⟩
  · exact name_of_addr x.apart (PySem.mem_of_lookup h1) (PySem.mem_of_lookup h2)
  · have hy : scope.names.lookup y = some .cell ∨ scope.names.lookup y = some .free := hy
    rcases hy with hy | hy
    · exact cell_has hy
    · exact absurd rfl (S.nofree _ (PySem.mem_of_lookup hy))
  · exact Nat.le_of_lt (x.above y c (PySem.mem_of_lookup h))
  · have hi : i < vs.length := by
      unfold start at h2
      by_cases hi : i < vs.length
      · exact hi
      · rw [List.getElem?_append_right (by simpa using hi)] at h2
        rw [List.getElem?_replicate] at h2
        split at h2 <;> cases h2
    have ha : vs[i]? = some v := by
      unfold start at h2
      rw [List.getElem?_append_left (by simpa using hi), List.getElem?_map] at h2
      cases e : vs[i]? with
      | none => rw [e] at h2; cases h2
      | some a => rw [e] at h2; cases h2; rfl
    obtain ⟨u, hu, rv⟩ := r.get ha
    have hp : ps[i]? = some y := by
      rw [← S.pre, List.getElem?_take_of_lt (by omega)]; exact h1
    have ndP : ps.Nodup := by rw [← S.pre]; exact S.nd.sublist (List.take_sublist _ _)
    refine ⟨u, rv, ?_⟩
    rcases S.par y (List.mem_of_getElem? hp) with k | k
    · exact .inl ⟨k, bindL_get ndP hp hu k⟩
    · obtain ⟨c, e⟩ := cell_has (n := s.heap.objs.size + 1) k
      refine .inr ⟨.inl k, c, e, ?_⟩
      have q := x.cell y c e
      rw [bindC_get ndP hp hu (by show scope.names.lookup y ≠ _; rw [k]; decide)] at q
      exact q
  · exact e0.hok.fresh (Nat.le_of_lt (x.above y c (PySem.mem_of_lookup h)))
  · unfold start
    show _ = N.length
    rw [List.length_append, List.length_map, List.length_replicate]
    omega

/-- THE RULE: a def (or a method) of the text, by its body. The body's reading t is chosen for each entry; it is run at the parameters' values -/
theorem fn_of {CX : CXT} {P : Program} {w : World} {K : PySem.W.Frag} {mg : Str → Option Value} {base : Heap} {k : Nat} {f : Addr} {name qual : Str} {params : Arguments} {body : List Stmt} {scope : Scope} {dV kV doc pm cdv ct oc : Value} {an od : Option Addr}
    {osl : Array (Option Value)} {N ps : List Str} {sp : Sp} (lk : K.lookup f = some ⟨oc, od, .func (PySem.W.fnOf name qual params body scope dV kV doc pm an cdv ct), osl⟩) (hcd : PySem.W.codeIn K cdv qual = true) (S : FnScope N ps scope)
    (len : ∀ vs H Q E, sp vs H Q E → vs.length = ps.length)
    (hbody : ∀ (A : Around) (outer : List Env) (s : Shared) (H : Hp) (vs : List V) (Q : VK) (E : XK), Room k (A.deeper (envOfC qual scope s.heap.objs.size f cdv)) → sp vs H Q E →
      ∃ t, PSs (cxOf CX P w K mg base N qual scope f cdv A outer s H E) body t ∧ t { nx := fun _ H' => Q .non H', rt := Q } (start N vs) H) :
    FnOk P w K mg base CX (k + 1) f (PySem.W.fnOf name qual params body scope dV kV doc pm an cdv ct) ps sp := by
  refine ⟨len, fun A outer s H args us vs Q E hr e0 hb r hsp => ?_⟩
  have hl := len _ _ _ _ hsp
  have KX : K.In s.heap := e0.mod.kin.keeps fun b o e => (e0.bs b o e).1
  have lim : s.heap.NoLimit := e0.mod.nolimit.keeps fun b o e => (e0.bs b o e).1
  have hkind : ∀ y ∈ ps.zip us, scope.names.lookup y.1 = some .local ∨ (scope.names.lookup y.1 = some .cell ∧ ((cellsFrom (s.heap.objs.size + 1) scope.names []).lookup y.1).isSome = true) := fun ⟨n, v⟩ hy => by
    rcases S.par n (List.of_mem_zip hy).1 with q | q
    · exact .inl q
    · exact .inr ⟨q, PySem.W.cellsFrom_some _ _ _ (.inl q)⟩
  refine codeAny_call_function hr.depth (KX _ _ lk) rfl S.co S.gen rfl (PySem.W.codeRec_of KX hcd) (hb _ _ _ _ ?_)
  refine wpAny_newFunctionEnv_cells S.kind hkind fun env he s1 x => ?_
  subst he
  refine ⟨lim.keeps x.toInCall.keep, codeAny_func ?_⟩
  obtain ⟨t, ht, hq⟩ := hbody A outer s H vs Q E (hr.deeper _) hsp
  have I : Inv (cxOf CX P w K mg base N qual scope f cdv A outer s H E) [] (start N vs) H s1 := inv_start S hr.hd e0 hl r x
  refine wpAny_mono (ht [] s1 (start N vs) H _ I hq) (fun fl s' hs => ?_) fun e s' hs => hs
  have fin : ∀ {σ' : St} {H' : Hp} {v : V} {u : Value}, Inv (cxOf CX P w K mg base N qual scope f cdv A outer s H E) [] σ' H' s' → RelV v u → Q v H' → CE outer P w H s Q u s' :=
    fun {σ' H' v u} J rv q => ⟨v, H', J.os, J.bare, J.base, J.hok, rv, q⟩
  cases fl with
  | ret u =>
    obtain ⟨v, σ', H', J, rv, q⟩ := hs
    exact fin J rv q
  | next =>
    obtain ⟨σ', H', J, q⟩ := hs
    exact fin (v := V.non) (u := Value.none) J rfl q
  | brk =>
    obtain ⟨_, _, _, q⟩ := hs
    exact False.elim q
  | cont =>
    obtain ⟨_, _, _, q⟩ := hs
    exact False.elim q
end L2

namespace L2
open PySem PySem.Spec PyProof.Rows
section
variable {X : Cx} {x : Str} {p pos : Pos} {e : Expr} {es : List Expr} {t : TA} {id T : String} {r : List V → Hp → VK → Prop}

def tCB (r : List V → Hp → VK → Prop) (t : TA) : TE := fun σ H Q => t σ H fun vs H1 => r vs H1 Q
/-- f(e, ..), f a built-in function -/
theorem pe_callB (hc : CallR X (.builtin id) r) (hg : Gl X x) (hm : X.mg x = none) (hv : bootBuiltins x = some (.builtin id)) (ha : PA X (e :: es) t) (hn : x ≠ "__name__" := by decide) (hdb : (x == ("__debug__" : Str)) = false := by decide)
    (he : starEach (e :: es) X.env = (false, eval e X.env) :: starEach es X.env := by rfl) (hpl : (backTo pos (starEach es X.env)).any (·.1) = false := by rfl) : PE X (.Call (.Name x p) (e :: es) [] pos) (tCB r t) := by
  intro pins s σ H Q I h
  refine wpAny_Call_Name_kw (ld_blt I hg hm hv ?_ hn hdb)
  exact PyProof.Rows.callWith_builtin1 (thn (ha pos pins s σ H _ I h) fun us s1 ⟨vs, H1, I1, r1, q1⟩ => hc pins s1 σ H1 vs us Q I1 r1 q1) he hpl
/-- T(e, ..), T a built-in type -/
theorem pe_callTy (hc : CallR X (.type T) r) (hg : Gl X x) (hm : X.mg x = none) (hv : bootBuiltins x = some (.type T)) (ha : PA X (e :: es) t) (hn : x ≠ "__name__" := by decide) (hdb : (x == ("__debug__" : Str)) = false := by decide)
    (he : starEach (e :: es) X.env = (false, eval e X.env) :: starEach es X.env := by rfl) (hpl : (backTo pos (starEach es X.env)).any (·.1) = false := by rfl) : PE X (.Call (.Name x p) (e :: es) [] pos) (tCB r t) := by
  intro pins s σ H Q I h
  refine wpAny_Call_Name_kw (ld_blt I hg hm hv ?_ hn hdb)
  exact PyProof.Rows.callWith_type1 (thn (ha pos pins s σ H _ I h) fun us s1 ⟨vs, H1, I1, r1, q1⟩ => hc pins s1 σ H1 vs us Q I1 r1 q1) he hpl
end
end L2

namespace L2
open PySem PySem.Spec PyProof.Rows

/-! ### lists of pairs as tables -/
section
variable {κ : Type} [DecidableEq κ]
def valV (kvs : List (κ × V)) (k : κ) : Option V := (kvs.find? fun kv => decide (kv.1 = k)).map (·.2)
/-- in its place, or at the end -/
def putK (kvs : List (κ × V)) (k : κ) (v : V) : List (κ × V) :=
  if (kvs.any fun kv => decide (kv.1 = k)) = true then kvs.map (fun kv => if kv.1 = k then (kv.1, v) else kv) else kvs ++ [(k, v)]
def dropK (kvs : List (κ × V)) (k : κ) : List (κ × V) := kvs.filter fun kv => decide (kv.1 ≠ k)

end


/-! ### a tracked dict, its keys ints and texts or tuples of these -/
/-- raw entries of a dict with tuple keys -/
abbrev KT (H : Hp) : List (List Key × V) → List (List Key × Addr × Value) → Prop := Paired fun p q => p.1 = q.1 ∧ H q.2.1 = some (.tup (p.1.map kV)) ∧ RelV p.2 q.2.2
section
variable {P : Program} {w : World} {H : Hp} {h : Heap} {a : Addr}
end

/-- what the dict at a holds at the key y -/
def DGet (H : Hp) (a : Addr) (y : V) (r : Option V) : Prop :=
  (∃ kvs k, Rd H a (.dK kvs) ∧ y = kV k ∧ r = valV kvs k) ∨ ∃ kvs k b, Rd H a (.dT kvs) ∧ y = .ref b ∧ H b = some (.tup (k.map kV)) ∧ r = valV kvs k
/-- the heap behind a[y] = v -/
def DPut (H : Hp) (a : Addr) (y v : V) (H' : Hp) : Prop :=
  (∃ kvs k, H a = some (.dK kvs) ∧ y = kV k ∧ kvs.length < sizeLine ∧ H' = upd H a (.dK (putK kvs k v))) ∨
  ∃ kvs k b, H a = some (.dT kvs) ∧ y = .ref b ∧ H b = some (.tup (k.map kV)) ∧ kvs.length < sizeLine ∧ H' = upd H a (.dT (putK kvs k v))
section
variable {X : Cx} {pins : List (Addr × Obj)} {σ : St} {H : Hp} {s : Shared} {a : Addr} {y v : V} {u r : Value} {o : Option V} {A : Around} {E : Value → Shared → Prop}

end

section
variable {X : Cx} {pins : List (Addr × Obj)} {σ : St} {H : Hp} {s : Shared} {a : Addr} {kvs : List (Key × V)} {k : Key} {u : Value} {A : Around} {E : Value → Shared → Prop}
end


/-! ### readings and rules -/
/-- the element of a subscription, not a slice -/
def NoSl (i : Expr) : Prop := ∀ ov iv, subscripted i false ov iv = operate [ov, iv] (getItem ov iv)
/-- d[y] -/
def tDGet (td ty : TE) : TE := fun σ H Q => td σ H fun x H1 => ty σ H1 fun y H2 => ∃ a v, x = .ref a ∧ DGet H2 a y (some v) ∧ Q v H2
/-- y in d, y not in d -/
def tDIn (ty td : TE) : TE := fun σ H Q => ty σ H fun y H1 => td σ H1 fun x H2 => ∃ a o, x = .ref a ∧ DGet H2 a y o ∧ Q (.bl o.isSome) H2
def tDNotIn (ty td : TE) : TE := fun σ H Q => ty σ H fun y H1 => td σ H1 fun x H2 => ∃ a o, x = .ref a ∧ DGet H2 a y o ∧ Q (.bl (!o.isSome)) H2
/-- d[y] = v -/
def sDPut (td ty tv : TE) : TS := fun D σ H => tv σ H fun v H1 => td σ H1 fun x H2 => ty σ H2 fun y H3 => ∃ a H4, x = .ref a ∧ DPut H3 a y v H4 ∧ D.nx σ H4
/-- d[y] op= v -/
def sDAug (td ty tv : TE) (rd : V → V → Hp → VK → Prop) : TS := fun D σ H => td σ H fun x H1 => ty σ H1 fun y H2 => ∃ a v, x = .ref a ∧ DGet H2 a y (some v) ∧
  tv σ H2 fun y2 H3 => rd v y2 H3 fun z H4 => ∃ H5, DPut H4 a y z H5 ∧ D.nx σ H5
/-- del d[y] -/
def sDDel (td ty : TE) : TS := fun D σ H => td σ H fun x H1 => ty σ H1 fun y H2 => ∃ a kvs k, x = .ref a ∧ H2 a = some (.dK kvs) ∧ y = kV k ∧ (valV kvs k).isSome = true ∧ D.nx σ (upd H2 a (.dK (dropK kvs k)))

section
variable {X : Cx} {o i e value : Expr} {pos pos' tpos : Pos} {td ty tv : TE}
end


/-! ### displays -/
/-- {}, to be a dict of the kind that is wanted -/
def tDNewK : TE := fun _ H Q => ∀ p, H p = none → Q (.ref p) (upd H p (.dK []))
def tDNewT : TE := fun _ H Q => ∀ p, H p = none → Q (.ref p) (upd H p (.dT []))
section
variable {X : Cx} {pos : Pos}
end

/-- the pairs of a display, from the left -/
def tPairs : List (TE × TE) → St → Hp → (List (V × V) → Hp → Prop) → Prop
  | [], _, H, Q => Q [] H
  | (tk, tv) :: r, σ, H, Q => tk σ H fun x H1 => tv σ H1 fun y H2 => tPairs r σ H2 fun ps H3 => Q ((x, y) :: ps) H3
abbrev VV : List (V × V) → List (Value × Value) → Prop := Paired fun p q => RelV p.1 q.1 ∧ RelV p.2 q.2
def PPs (X : Cx) (pos : Pos) (keys : List (Option Expr)) (values : List Expr) (trs : List (TE × TE)) : Prop :=
  ∀ (pins : List (Addr × Obj)) (s : Shared) (σ : St) (H : Hp) (Q : List (V × V) → Hp → Prop), Inv X pins σ H s → tPairs trs σ H Q →
    wpAny (model X.prog X.w) X.A (evalPairs (pairTrees keys values X.env pos)) (fun vs s' => ∃ ps H', Inv X pins σ H' s' ∧ VV ps vs ∧ Q ps H') X.xe s
def mergeK (kvs more : List (Key × V)) : List (Key × V) := more.foldl (fun acc kv => putK acc kv.1 kv.2) kvs
/-- {k: v, ..} with keys ints and texts; the new dict stands empty while the pairs are made -/
def tDisp (trs : List (TE × TE)) : TE := fun σ H Q => ∀ p, H p = none → tPairs trs σ (upd H p (.dK [])) fun ps H2 => H2 p = some (.dK []) ∧ ∃ kvs : List (Key × V), ps = kvs.map (fun kv => (kV kv.1, kv.2)) ∧ kvs.length ≤ 15 ∧ Q (.ref p) (upd H2 p (.dK (mergeK [] kvs)))
/-! ### methods -/
/-- a method call o.m(e) of a built-in, with one argument: what must be seen of the text -/
structure M1 (X : Cx) (o : Expr) (m : Str) (apos : Pos) (e : Expr) (cpos : Pos) : Prop where
  base : attributeBase o m X.env (eval o X.env) = eval o X.env
  few : ((backTo cpos (starEach [e] X.env)).all (fun x => !x.1) && (backToKw cpos (keywordEach [] X.env)).all (fun x => x.1.isSome)
    && decide (([e] : List Expr).length + ([] : List Keyword).length + (if ([] : List Keyword).isEmpty then 0 else 1) < 30)) = true
  line : (apos.endLine == cpos.line) = true
  trees : backTo cpos (starEach [e] X.env) = [(false, eval e X.env)]
structure M2 (X : Cx) (o : Expr) (m : Str) (apos : Pos) (e f : Expr) (cpos : Pos) : Prop where
  base : attributeBase o m X.env (eval o X.env) = eval o X.env
  few : ((backTo cpos (starEach [e, f] X.env)).all (fun x => !x.1) && (backToKw cpos (keywordEach [] X.env)).all (fun x => x.1.isSome)
    && decide (([e, f] : List Expr).length + ([] : List Keyword).length + (if ([] : List Keyword).isEmpty then 0 else 1) < 30)) = true
  line : (apos.endLine == cpos.line) = true
  trees : backTo cpos (starEach [e, f] X.env) = [(false, eval e X.env), (false, eval f X.env)]

/-- a is a dict, whatever its keys -/
def IsD (H : Hp) (a : Addr) : Prop := (∃ kvs, Rd H a (.dK kvs)) ∨ ∃ kvs, Rd H a (.dT kvs)
section
variable {X : Cx} {pins : List (Addr × Obj)} {σ : St} {H : Hp} {s : Shared} {a : Addr} {y d : V} {u r : Value} {o : Option V} {A : Around} {E : Value → Shared → Prop}
end

def tDGet1 (td ty : TE) : TE := fun σ H Q => td σ H fun x H1 => ∃ a, x = .ref a ∧ IsD H1 a ∧ ty σ H1 fun y H2 => ∃ o, DGet H2 a y o ∧ Q (o.getD .non) H2
def tDGet2 (td ty tx : TE) : TE := fun σ H Q => td σ H fun x H1 => ∃ a, x = .ref a ∧ IsD H1 a ∧ ty σ H1 fun y H2 => tx σ H2 fun z H3 => ∃ o, DGet H3 a y o ∧ Q (o.getD z) H3
/-- d.pop(k): there; d.pop(k, x): there or not -/
def tDPop1 (td ty : TE) : TE := fun σ H Q => td σ H fun x H1 => ∃ a, x = .ref a ∧ IsD H1 a ∧ ty σ H1 fun y H2 => ∃ kvs k v, H2 a = some (.dK kvs) ∧ y = kV k ∧ valV kvs k = some v ∧ Q v (upd H2 a (.dK (dropK kvs k)))
def tDPop2 (td ty tx : TE) : TE := fun σ H Q => td σ H fun x H1 => ∃ a, x = .ref a ∧ IsD H1 a ∧ ty σ H1 fun y H2 => tx σ H2 fun z H3 => ∃ kvs k, H3 a = some (.dK kvs) ∧ y = kV k ∧
  (∀ v, valV kvs k = some v → Q v (upd H3 a (.dK (dropK kvs k)))) ∧ (valV kvs k = none → Q z H3)
section
variable {X : Cx} {o e f : Expr} {apos cpos : Pos} {td ty tx : TE}
end

/-! ### dict(d): a copy -/
section
variable {X : Cx} {pins : List (Addr × Obj)} {σ : St} {H : Hp} {s : Shared} {a : Addr} {kvs : List (Key × V)} {A : Around} {E : Value → Shared → Prop}
end


section
variable {X : Cx} {pins : List (Addr × Obj)} {σ : St} {H : Hp} {s : Shared} {a : Addr} {y : V} {u : Value} {A : Around} {E : Value → Shared → Prop}
end
end L2

namespace HT
open PySem PyProof.Rows

/-- t < u of tuples of ints -/
def lexLt : List Int → List Int → Bool
  | [], [] => false
  | [], _ :: _ => true
  | _ :: _, [] => false
  | x :: xs, y :: ys => if x = y then lexLt xs ys else decide (x < y)
section
open PySem.SeqAt
open PySem.AutoSeq1 (wpAny_loadPart')
open PySem.MeetsSeq PySem.MeetsSeq2 PySem.MeetsSeq3

end

section
variable {prog : Program} {w : World} {A : Around} {E : Value → Shared → Prop} {s : Shared}

/-! ### t[a:b], not the whole -/
/-- a slice's bound as a place among n (d where it is left out) -/
def sIx (n d : Nat) : Option Int → Nat
  | none => d
  | some v => if v < 0 then (v + (n : Int)).toNat else min v.toNat n
end
end HT

namespace L2
open PySem PySem.Spec PyProof.Rows

/-! ### the parts of a slice -/
abbrev TO := St → Hp → (Option Int → Hp → Prop) → Prop
/-- a slice's part (left out, or an int) -/
def PO (X : Cx) (e : Option Expr) (t : TO) : Prop :=
  ∀ (pins : List (Addr × Obj)) (s : Shared) (σ : St) (H : Hp) (Q : Option Int → Hp → Prop), Inv X pins σ H s → t σ H Q →
    wpAny (model X.prog X.w) X.A (evalPart e X.env) (fun u s' => ∃ o H', Inv X pins σ H' s' ∧ IsPart u o ∧ Q o H') X.xe s
def tNoPart : TO := fun _ H Q => Q none H
def tPart (t : TE) : TO := fun σ H Q => t σ H fun x H1 => ∃ i, x = .int i ∧ Q (some i) H1

section
variable {X : Cx} {e : Expr} {te : TE} {lo hi : Option Expr} {tl th : TO} {pos p2 : Pos}

theorem po_none : PO X none tNoPart := by
  intro pins s σ H Q I h
  rw [evalPart_none]
  exact wpAny_pure ⟨none, H, I, .none, h⟩
theorem po_some (h : PE X e te) : PO X (some e) (tPart te) := by
  intro pins s σ H Q I hw
  rw [evalPart_some]
  refine thn (h pins s σ H _ I hw) fun u s1 ⟨x, H1, I1, r1, q1⟩ => ?_
  obtain ⟨i, rfl, q⟩ := q1
  obtain ⟨t, rfl⟩ := r1
  exact ⟨some i, H1, I1, .int i t, q⟩

/-- what a slice of a value is, by values: the slice object stands at sl -/
def SlR (X : Cx) (r : V → Option Int → Option Int → Hp → VK → Prop) : Prop :=
  ∀ (pins : List (Addr × Obj)) (s : Shared) (σ : St) (H : Hp) (x : V) (v vl vu : Value) (lo hi : Option Int) (sl : Addr) (Q : VK), Inv X pins σ H s → RelV x v → s.heap.IsSliceOf sl vl vu .none → IsPart vl lo → IsPart vu hi → r x lo hi H Q →
    ∃ T id, typeLookup (.type T) "__getitem__" = pure (some (.builtin id)) ∧ s.TypeIs v T ∧ wpAny (model X.prog X.w) X.A (getItem v (.ref sl)) (EP X pins σ Q) X.xe s
def tSl (r : V → Option Int → Option Int → Hp → VK → Prop) (te : TE) (tl th : TO) : TE := fun σ H Q => te σ H fun x H1 => tl σ H1 fun l H2 => th σ H2 fun u H3 => r x l u H3 Q
/-- a[lo:hi], any a -/
theorem pe_slice {r : V → Option Int → Option Int → Hp → VK → Prop} (hr : SlR X r) (he : PE X e te) (hl : PO X lo tl) (hu : PO X hi th) : PE X (.Subscript e (.Slice lo hi none p2) pos) (tSl r te tl th) := by
  intro pins s σ H Q I h
  refine Subscript_ (thn (he pins s σ H _ I h) fun v s1 ⟨x, H1, I1, r1, q1⟩ => ?_)
  refine wpAny_Slice (thn (hl pins s1 σ H1 _ I1 q1) fun vl s2 ⟨l, H2, I2, pl, q2⟩ => thn (hu pins s2 σ H2 _ I2 q2) fun vu s3 ⟨u, H3, I3, pu, q3⟩ => ?_)
  rw [evalPart_none]
  refine wpAny_pure ?_
  have I4 : Inv X pins σ H3 { s3 with heap := s3.heap.push { cls := .type "slice", data := .fields #[vl, vu, .none] } } := I3.kept (t' := s3.toks) fun b ob q => Heap.get?_push_of_some _ q
  obtain ⟨T, id, hT, ht, hg⟩ := hr pins { s3 with heap := s3.heap.push { cls := .type "slice", data := .fields #[vl, vu, .none] } } σ H3 x v vl vu l u s3.heap.objs.size Q I4 r1 (Heap.IsSliceOf.new ..) pl pu q3
  show wpAny (model X.prog X.w) X.A (subscriptTail e (.Slice lo hi none p2) v (.ref s3.heap.objs.size)) (EP X pins σ Q) X.xe { s3 with heap := s3.heap.push { cls := .type "slice", data := .fields #[vl, vu, .none] } }
  exact tail_any (ops := [.ref s3.heap.objs.size, v]) ht hT hg (by with_unfolding_all rfl)

/-- the items of xs[lo:hi] -/
def cutV (xs : List V) (lo hi : Option Int) : List V := (xs.drop (HT.sIx xs.length 0 lo)).take (HT.sIx xs.length xs.length hi - HT.sIx xs.length 0 lo)
theorem cutV_length (xs : List V) (lo hi : Option Int) : (cutV xs lo hi).length ≤ xs.length := by
  unfold cutV
  rw [List.length_take, List.length_drop]
  omega
/-- t[lo:hi], not the whole of it (the whole would be t itself) -/
def rSlT (K : PySem.W.Frag) : V → Option Int → Option Int → Hp → VK → Prop := fun x lo hi H Q => ∃ a xs, x = .ref a ∧ SqT K H a xs ∧
  ¬ (HT.sIx xs.length 0 lo = 0 ∧ HT.sIx xs.length xs.length hi = xs.length) ∧ ∀ p, H p = none → Q (.ref p) (upd H p (.tup (cutV xs lo hi)))
/-! ### t < u, t + u -/
def rLtT (K : PySem.W.Frag) : R2 := fun x y H Q => ∃ a b ns ms, x = .ref a ∧ y = .ref b ∧ SqT K H a (ns.map V.int) ∧ SqT K H b (ms.map V.int) ∧ Q (.bl (HT.lexLt ns ms)) H
/-- t + u, t not empty: u empty gives t itself -/
def rCatT (K : PySem.W.Frag) : R2 := fun x y H Q => ∃ a b xs ys, x = .ref a ∧ y = .ref b ∧ SqT K H a xs ∧ SqT K H b ys ∧ xs ≠ [] ∧ xs.length + ys.length ≤ sizeLine ∧
  (ys = [] → Q (.ref a) H) ∧ (ys ≠ [] → ∀ p, H p = none → Q (.ref p) (upd H p (.tup (xs ++ ys))))
end
end L2

namespace L2
open PySem PySem.Spec PyProof.Rows

/-! ### places -/
/-- the place that an index of any sign means -/
def ixN (n : Nat) (i : Int) : Option Nat := if 0 ≤ i then (if i < n then some i.toNat else none) else if -(n : Int) ≤ i then some (i + n).toNat else none
def atI {α : Type} (xs : List α) (i : Int) : Option α := (ixN xs.length i).bind fun j => xs[j]?
theorem ixN_seq {n : Nat} {i : Int} {j : Nat} (h : ixN n i = some j) : seqIndex? i n = some j ∧ j < n ∧ -(n : Int) ≤ i ∧ i < n := by
  unfold ixN at h
  by_cases h0 : 0 ≤ i
  · rw [if_pos h0] at h
    by_cases h1 : i < n
    · rw [if_pos h1] at h
      have e : i.toNat = j := Option.some.inj h
      exact ⟨by rw [seqIndex_of h0 h1, e], by omega, by omega, h1⟩
    · rw [if_neg h1] at h; cases h
  · rw [if_neg h0] at h
    by_cases h1 : -(n : Int) ≤ i
    · rw [if_pos h1] at h
      have e : (i + n).toNat = j := Option.some.inj h
      exact ⟨by rw [seqIndex_neg (by omega) h1, e], by omega, h1, by omega⟩
    · rw [if_neg h1] at h; cases h
theorem atI_get {α : Type} {xs : List α} {i : Int} {v : α} (h : atI xs i = some v) : ∃ j, seqIndex? i xs.length = some j ∧ xs[j]? = some v ∧ j < xs.length ∧ -(xs.length : Int) ≤ i ∧ i < xs.length := by
  unfold atI at h
  cases e : ixN xs.length i with
  | none => rw [e] at h; cases h
  | some j =>
    rw [e] at h
    obtain ⟨h1, h2, h3, h4⟩ := ixN_seq e
    exact ⟨j, h1, h, h2, h3, h4⟩
theorem atI_nat {α : Type} {xs : List α} {j : Nat} {v : α} (h : xs[j]? = some v) : atI xs (j : Int) = some v := by
  have hj : j < xs.length := (List.getElem?_eq_some_iff.mp h).1
  have e : ixN xs.length (j : Int) = some j := by
    unfold ixN
    rw [if_pos (by omega), if_pos (by omega)]; simp
  unfold atI; rw [e]; exact h
theorem atI_last {α : Type} (xs : List α) (v : α) : atI (xs ++ [v]) (-1) = some v := by
  have hl : (xs ++ [v]).length = xs.length + 1 := by simp
  have e : ixN (xs ++ [v]).length (-1) = some xs.length := by
    unfold ixN
    rw [hl, if_neg (by decide), if_pos (by omega)]
    congr 1
    omega
  unfold atI
  rw [e]
  show (xs ++ [v])[xs.length]? = some v
  simp

/-! ### what may be subscripted -/
/-- what stands as an index of a plain subscript -/
def PlainIx (b : Expr) : Prop := ∀ o i, subscripted b false o i = operate [o, i] (getItem o i)
/-- a subscript by values -/
def IxR (X : Cx) (r : R2) : Prop :=
  ∀ (value slice : Expr) (pins : List (Addr × Obj)) (s : Shared) (σ : St) (H : Hp) (x y : V) (v u : Value) (Q : VK), Inv X pins σ H s → RelV x v → RelV y u → r x y H Q →
    subscripted slice false v u = operate [v, u] (getItem v u) → wpAny (model X.prog X.w) X.A (subscriptTail value slice v u) (EP X pins σ Q) X.xe s
/-- a call of a builtin's method by values: the receiver, the arguments -/
def MtR (X : Cx) (id : String) (r : V → List V → Hp → VK → Prop) : Prop :=
  ∀ (pins : List (Addr × Obj)) (s : Shared) (σ : St) (H : Hp) (x : V) (xs : List V) (v : Value) (us : List Value) (Q : VK), Inv X pins σ H s → RelV x v → Vals xs us → r x xs H Q →
    wpAny (model X.prog X.w) X.A (call (.builtin id) (v :: us)) (EP X pins σ Q) X.xe s
section
variable {X : Cx} {a b : Expr} {ta tb : TE} {pos : Pos}
/-- a[b] -/
theorem pe_ix {r : R2} (hr : IxR X r) (ha : PE X a ta) (hb : PE X b tb) (hs : PlainIx b) : PE X (.Subscript a b pos) (tOp r ta tb) := by
  intro pins s σ H Q I h
  exact Subscript_ (binT ha hb I h fun v u s2 x y H2 I2 rx ry q => hr a b pins s2 σ H2 x y v u Q I2 rx ry q (hs _ _))

def rIxL (K : PySem.W.Frag) : R2 := fun x y H Q => ∃ p xs i v, x = .ref p ∧ y = .int i ∧ SqL K H p xs ∧ atI xs i = some v ∧ Q v H
def rIxT (K : PySem.W.Frag) : R2 := fun x y H Q => ∃ p xs i v, x = .ref p ∧ y = .int i ∧ SqT K H p xs ∧ atI xs i = some v ∧ Q v H
def rIxS : R2 := fun x y H Q => ∃ z i c, x = .str z ∧ y = .int i ∧ z.length ≤ sizeLine ∧ atI z.cps.toList i = some c ∧ Q (.str ⟨#[c]⟩) H
theorem ix_list : IxR X (rIxL X.K) := by
  intro value slice pins s σ H x y v u Q I rx ry h hs
  obtain ⟨p, xs, i, z, rfl, rfl, hq, he, q⟩ := h
  cases rx
  obtain ⟨t, rfl⟩ := ry
  obtain ⟨its, r, pl, hz⟩ := I.list hq
  obtain ⟨j, h1, h2, h3, h4, h5⟩ := atI_get he
  obtain ⟨w, ew, rw'⟩ := r.get h2
  have hl := r.length
  have hn := line63
  have fin : EP X pins σ Q w s := ⟨z, H, I, rw', q⟩
  by_cases h0 : 0 ≤ i
  · have hj : i.toNat = j := by
      rw [seqIndex_of h0 h5] at h1
      exact Option.some.inj h1
    exact item_listR pl.isList h0 (by omega) (by rw [hj]; simpa using ew) fin hs
  · have hj : (i + (its.toArray.size : Int)).toNat = j := by
      rw [seqIndex_neg (by omega) h4] at h1
      rw [List.size_toArray, ← hl]
      exact Option.some.inj h1
    exact subscriptTail_builtinR (x := w) pl.isList.typeIs slot_list_getitem.lookup
      (wpAny_getItem_list_neg (Q := fun r s' => r = w ∧ EP X pins σ Q r s') pl.isList (by omega) (by rw [List.size_toArray] <;> omega) (by omega) (by rw [hj]; simpa using ew) ⟨rfl, fin⟩) hs
theorem ix_tup : IxR X (rIxT X.K) := by
  intro value slice pins s σ H x y v u Q I rx ry h hs
  obtain ⟨p, xs, i, z, rfl, rfl, hq, he, q⟩ := h
  cases rx
  obtain ⟨t, rfl⟩ := ry
  obtain ⟨its, r, pl, hz⟩ := I.tuple hq
  obtain ⟨j, h1, h2, h3, h4, h5⟩ := atI_get he
  obtain ⟨w, ew, rw'⟩ := r.get h2
  have hl := r.length
  have hn := line63
  have fin : EP X pins σ Q w s := ⟨z, H, I, rw', q⟩
  exact subscriptTail_builtinR (x := w) pl.typeIs slot_tuple_getitem.lookup
    (getItem_tuple (j := j) (Q := fun r s' => r = w ∧ EP X pins σ Q r s') pl (by omega) (by omega) (by rw [List.size_toArray, ← hl]; exact h1) (by simpa using ew) ⟨rfl, fin⟩) hs
theorem ix_str : IxR X rIxS := by
  intro value slice pins s σ H x y v u Q I rx ry h hs
  obtain ⟨z, i, c, rfl, rfl, hz, he, q⟩ := h
  obtain ⟨t, rfl⟩ := rx
  obtain ⟨t', rfl⟩ := ry
  obtain ⟨j, h1, h2, h3, h4, h5⟩ := atI_get he
  have hl : z.cps.toList.length = z.length := by simp [Str.length]
  rw [hl] at h1 h4 h5
  have hn := line63
  exact tail_any (typeIs_str s z t) slot_str_getitem.lookup (getItem_str (c := c) (by
    have e1 : decide (i < -(2 ^ 63 : Int)) = false := decide_eq_false (by omega)
    have e2 : decide (i ≥ 2 ^ 63) = false := decide_eq_false (by omega)
    rw [e1, e2, Bool.or_false]) (by rw [h1]; simpa using h2) ⟨.str ⟨#[c]⟩, H, I.tok _, ⟨_, rfl⟩, q⟩) hs
/-- list, tuple or str -/
def rIx (K : PySem.W.Frag) : R2 := fun x y H Q => rIxL K x y H Q ∨ rIxT K x y H Q ∨ rIxS x y H Q
/-! ### xs[i] = v, any sign -/
/-- the list's object behind a store -/
theorem mapSeq_set (its : List Value) (n j : Nat) (u : Value) : Obj.mapSeq (·.setIfInBounds j u) { cls := .type "list", data := .seq its.toArray n } = { cls := .type "list", data := .seq (its.set j u).toArray n } := by
  simp [Obj.mapSeq]
theorem Inv.lst {pins : List (Addr × Obj)} {σ : St} {H : Hp} {s : Shared} {p : Addr} {xs : List V} (I : Inv X pins σ H s) (h : H p = some (.lst xs)) :
    ∃ (its : List Value) (n : Nat), Vals xs its ∧ s.heap.get? p = some { cls := .type "list", data := .seq its.toArray n } ∧ xs.length ≤ sizeLine := by
  obtain ⟨z, its, n, r, e⟩ := I.hok p _ h
  exact ⟨its, n, r, e, z⟩
/-- the list at p is written by an update of its object -/
theorem Inv.lstUpd {pins : List (Addr × Obj)} {σ : St} {H : Hp} {s : Shared} {p : Addr} {xs ys : List V} {its its' : List Value} {n n' : Nat} {f : Obj → Obj} (I : Inv X pins σ H s) (h : H p = some (.lst xs))
    (ho : s.heap.get? p = some { cls := .type "list", data := .seq its.toArray n }) (hf : f { cls := .type "list", data := .seq its.toArray n } = { cls := .type "list", data := .seq its'.toArray n' }) (r : Vals ys its') (hz : ys.length ≤ sizeLine) (t : Nat) :
    Inv X pins σ (upd H p (.lst ys)) { s with heap := s.heap.update p f, toks := t } := by
  have e : (s.heap.update p f).get? p = some { cls := .type "list", data := .seq its'.toArray n' } := by
    rw [Heap.get?_update_self f ho (by rw [hf] <;> rfl), hf]
  refine I.write (x := p) (e := p) (by rw [h]; trivial) (.inl rfl) (fun b u hb q => (Heap.get?_update_other _ _ (Ne.symm hb)).trans q) ⟨_, e⟩ ?_
  exact ⟨hz, its', n', r, e⟩
def rSetL : V → V → V → Hp → (Hp → Prop) → Prop := fun o i v H Q => ∃ p xs k j, o = .ref p ∧ i = .int k ∧ H p = some (.lst xs) ∧ ixN xs.length k = some j ∧ Q (upd H p (.lst (xs.set j v)))
theorem set_list : PSet X rSetL := by
  intro pins s σ H o i v ov iv u Q I ro ri rv h
  obtain ⟨p, xs, k, j, rfl, rfl, hp, hj, q⟩ := h
  cases ro
  obtain ⟨t, rfl⟩ := ri
  obtain ⟨its, n, r, ho, hz⟩ := I.lst hp
  obtain ⟨h1, h2, h3, h4⟩ := ixN_seq hj
  have hl := r.length
  have hn := line63
  have I' : Inv X pins σ (upd H p (.lst (xs.set j v))) { s with heap := s.heap.update p (Obj.mapSeq (·.setIfInBounds j u)) } :=
    I.lstUpd hp ho (mapSeq_set its n j u) (r.set rv j) (by rw [List.length_set]; exact hz) s.toks
  by_cases h0 : 0 ≤ k
  · have hk : k.toNat = j := by
      rw [seqIndex_of h0 h4] at h1
      exact Option.some.inj h1
    exact PySem.W.ki_setAt ho h0 (by omega) (by rw [List.size_toArray, ← hl]; exact h4) (by rw [hk]; exact ⟨_, I', q⟩)
  · have hk : (k + (its.toArray.size : Int)).toNat = j := by
      rw [seqIndex_neg (by omega) h3] at h1
      rw [List.size_toArray, ← hl]
      exact Option.some.inj h1
    exact PySem.W.ki_setBack ho (by omega) (by rw [List.size_toArray, ← hl]; exact h3) (by omega) (by rw [hk]; exact ⟨_, I', q⟩)

/-! ### slices -/
theorem slice_bounds (lo hi : Option Int) (n : Nat) : (sliceBounds lo hi none n).1 = ((HT.sIx n 0 lo : Nat) : Int) ∧ (sliceBounds lo hi none n).2.1 = ((HT.sIx n n hi : Nat) : Int) ∧ (sliceBounds lo hi none n).2.2 = 1 := by
  refine ⟨?_, ?_, rfl⟩
  · cases lo with
    | none => simp [sliceBounds, HT.sIx]
    | some i =>
      simp only [sliceBounds, HT.sIx, Option.getD_none, show (1 : Int) > 0 by decide, if_true]
      by_cases h : i < 0
      · simp only [h, if_true] <;> omega
      · simp only [h, if_false] <;> omega
  · cases hi with
    | none => simp [sliceBounds, HT.sIx]
    | some i =>
      simp only [sliceBounds, HT.sIx, Option.getD_none, show (1 : Int) > 0 by decide, if_true]
      by_cases h : i < 0
      · simp only [h, if_true] <;> omega
      · simp only [h, if_false] <;> omega
theorem slicePick_cut (its : List Value) (lo hi : Option Int) : slicePick its.toArray lo hi none = ((its.drop (HT.sIx its.length 0 lo)).take (HT.sIx its.length its.length hi - HT.sIx its.length 0 lo)).toArray := by
  obtain ⟨h1, h2, h3⟩ := slice_bounds lo hi its.toArray.size
  unfold slicePick
  rw [h1, h2, h3]
  simp only [sliceRange_one, pick_run, List.size_toArray] <;> rfl
/-- xs[lo:hi] of a list: a new list -/
def rSlL (K : PySem.W.Frag) : V → Option Int → Option Int → Hp → VK → Prop := fun x lo hi H Q => ∃ a xs, x = .ref a ∧ SqL K H a xs ∧ ∀ p, H p = none → Q (.ref p) (upd H p (.lst (cutV xs lo hi)))
theorem sl_list : SlR X (rSlL X.K) := by
  intro pins s σ H x v vl vu lo hi sl Q I rx hs pl pu h
  obtain ⟨a, xs, rfl, hx, q⟩ := h
  cases rx
  obtain ⟨its, r, ht, hz⟩ := I.list hx
  have hlen := r.length
  refine ⟨"list", _, slot_list_getitem.lookup, ht.isList.typeIs, ?_⟩
  refine wpAny_getItem_list_slice ht.isList hs pl pu .none (by simp) ?_ (by rw [List.size_toArray] <;> omega)
  rw [slicePick_cut, ← hlen]
  refine ⟨.ref s.heap.objs.size, _, I.laid (t' := s.toks) (o := .lst (cutV xs lo hi)) (fun b ob q => Heap.get?_push_of_some _ q) (Nat.le_refl _) ?_, rfl, q _ (I.hok.fresh (Nat.le_refl _))⟩
  exact ⟨Nat.le_trans (cutV_length xs lo hi) hz, _, 0, (r.drop (HT.sIx xs.length 0 lo)).take (HT.sIx xs.length xs.length hi - HT.sIx xs.length 0 lo), Heap.get?_push_size _ rfl⟩

/-! ### in, not in: flat items -/
def flatV : V → Bool
  | .non => true
  | .bl _ => true
  | .int _ => true
  | .str _ => true
  | _ => false
/-- == of flat values -/
def eqV : V → V → Bool
  | .non, .non => true
  | .bl a, .bl b => a == b
  | .bl a, .int b => (if a then 1 else 0) == b
  | .int a, .bl b => a == (if b then 1 else 0)
  | .int a, .int b => a == b
  | .str a, .str b => a == b
  | _, _ => false
theorem eqAt_V {A : Around} {s : Shared} {y x : V} {u v : Value} (ry : RelV y u) (rx : RelV x v) (fy : flatV y = true) (fx : flatV x = true) : SeqAt.EqAt A s u v (eqV y x) := by
  cases y with
  | non =>
    cases ry
    cases x with
    | non => cases rx; exact SeqAt.EqAt.same _
    | bl b => cases rx; exact SeqAt.EqAt.none_bool b
    | int b => obtain ⟨t, rfl⟩ := rx; exact SeqAt.EqAt.none_int b t
    | str b => obtain ⟨t, rfl⟩ := rx; exact SeqAt.EqAt.none_str b t
    | _ => exact absurd (show false = true from fx) Bool.false_ne_true
  | bl a =>
    cases ry
    cases x with
    | non => cases rx; exact SeqAt.EqAt.bool_none a
    | bl b => cases rx; exact SeqAt.EqAt.bool_bool a b
    | int b => obtain ⟨t, rfl⟩ := rx; exact SeqAt.EqAt.bool_int a b t
    | str b => obtain ⟨t, rfl⟩ := rx; exact SeqAt.EqAt.bool_str a b t
    | _ => exact absurd (show false = true from fx) Bool.false_ne_true
  | int a =>
    obtain ⟨t', rfl⟩ := ry
    cases x with
    | non => cases rx; exact SeqAt.EqAt.int_none a t'
    | bl b => cases rx; exact SeqAt.EqAt.int_bool a t' b
    | int b => obtain ⟨t, rfl⟩ := rx; exact SeqAt.EqAt.int_int a t' b t
    | str b => obtain ⟨t, rfl⟩ := rx; exact SeqAt.EqAt.int_str a t' b t
    | _ => exact absurd (show false = true from fx) Bool.false_ne_true
  | str a =>
    obtain ⟨t', rfl⟩ := ry
    cases x with
    | non => cases rx; exact SeqAt.EqAt.str_none a t'
    | bl b => cases rx; exact SeqAt.EqAt.str_bool a t' b
    | int b => obtain ⟨t, rfl⟩ := rx; exact SeqAt.EqAt.str_int a t' b t
    | str b => obtain ⟨t, rfl⟩ := rx; exact SeqAt.EqAt.str_str a t' b t
    | _ => exact absurd (show false = true from fx) Bool.false_ne_true
  | _ => exact absurd (show false = true from fy) Bool.false_ne_true
/-- the items' answers, read off the values (a value's own answer does not lean on its token) -/
def eqU (x : V) (u : Value) : Bool := match u with
  | .none => eqV .non x
  | .bool b => eqV (.bl b) x
  | .int i _ => eqV (.int i) x
  | .str z _ => eqV (.str z) x
  | _ => false
theorem eqU_of {x y : V} {u : Value} (r : RelV y u) (f : flatV y = true) : eqU x u = eqV y x := by
  cases y with
  | non => cases r; rfl
  | bl b => cases r; rfl
  | int i => obtain ⟨t, rfl⟩ := r; rfl
  | str z => obtain ⟨t, rfl⟩ := r; rfl
  | _ => exact absurd (show false = true from f) Bool.false_ne_true
theorem any_eqU {x : V} : ∀ {xs : List V} {us : List Value}, Vals xs us → xs.all flatV = true → us.any (eqU x) = xs.any fun y => eqV y x
  | _, _, .nil, _ => rfl
  | y :: xs, u :: us, .cons r t, f => by
    rw [List.all_cons, Bool.and_eq_true] at f
    rw [List.any_cons, List.any_cons, eqU_of r f.1, any_eqU t f.2]
theorem mem_eqAt {A : Around} {s : Shared} {x : V} {v : Value} (rx : RelV x v) (fx : flatV x = true) : ∀ {xs : List V} {us : List Value}, Vals xs us → xs.all flatV = true → ∀ u ∈ us, SeqAt.EqAt A s u v (eqU x u)
  | _, _, .nil, _ => fun u hu => by cases hu
  | y :: xs, u :: us, .cons r t, f => fun u' hu => by
    rw [List.all_cons, Bool.and_eq_true] at f
    rcases List.mem_cons.mp hu with rfl | hu
    · rw [eqU_of r f.1]; exact eqAt_V r rx f.1 fx
    · exact mem_eqAt rx fx t f.2 u' hu
def inV (x : V) (xs : List V) : Bool := xs.any fun y => eqV y x
/-- x in a list or tuple of flat items -/
def rIn (K : PySem.W.Frag) (neg : Bool) : R2 := fun x y H Q => ∃ p xs, y = .ref p ∧ (SqL K H p xs ∨ SqT K H p xs) ∧ flatV x = true ∧ xs.all flatV = true ∧ Q (.bl (if neg then !inV x xs else inV x xs)) H
theorem op_in_seq : OpR X (compareOp .In) (rIn X.K false) := by
  intro pins s σ H x y v u Q I rx ry h
  obtain ⟨p, xs, rfl, hq, fx, fs, q⟩ := h
  cases ry
  rcases hq with hq | hq
  · obtain ⟨its, r, pl, hz⟩ := I.list hq
    refine SeqAt.in_listAt (eqU x) pl.isList (fun w hw => mem_eqAt rx fx r fs w (by simpa using hw)) ⟨.bl _, H, I, rfl, ?_⟩
    rw [show its.toArray.any (eqU x) = its.any (eqU x) by simp, any_eqU r fs]
    exact q
  · obtain ⟨its, r, pl, hz⟩ := I.tuple hq
    refine SeqAt.in_tupleAt (eqU x) pl (fun w hw => mem_eqAt rx fx r fs w (by simpa using hw)) ⟨.bl _, H, I, rfl, ?_⟩
    rw [show its.toArray.any (eqU x) = its.any (eqU x) by simp, any_eqU r fs]
    exact q
/-! ### len, list(x), tuple(x) of any list or tuple that is read -/
theorem call_tuple_of : CallR X (.type "tuple") (fun xs H Q => ∃ p ys, xs = [.ref p] ∧ ((SqL X.K H p ys ∧ ∀ l, H l = none → Q (.ref l) (upd H l (.tup ys))) ∨ (SqT X.K H p ys ∧ Q (.ref p) H))) := by
  intro pins s σ H xs us Q I r h
  obtain ⟨p, ys, rfl, h⟩ := h
  obtain ⟨u, rfl, rx⟩ := vals1 r
  cases rx
  rcases h with ⟨hq, q⟩ | ⟨hq, q⟩
  · obtain ⟨its, r', pl, hz⟩ := I.list hq
    have hlen := r'.length
    refine call_tuple_list pl.isList (fun h' kp => ?_) (by simp only [List.size_toArray] <;> omega)
    have I1 : Inv X pins σ H { s with heap := h' } := I.kept (t' := s.toks) kp
    have I2 : Inv X pins σ (upd H h'.objs.size (.tup ys)) { s with heap := h'.push { cls := .type "tuple", data := .seq its.toArray } } :=
      I1.laid (t' := s.toks) (fun b o e => Heap.get?_push_of_some _ e) (Nat.le_refl _) (show ObjOk X.prog X.w _ _ _ (.tup ys) from ⟨hz, its, r', IsTup.new _ _⟩)
    exact ⟨.ref h'.objs.size, _, I2, rfl, q _ (I1.hok.fresh (Nat.le_refl _))⟩
  · obtain ⟨its, r', pl, hz⟩ := I.tuple hq
    exact call_tuple_same pl ⟨.ref p, H, I, rfl, q⟩

/-! ### the call of a builtin's method: o.m(..) -/
/-- the value is of that builtin type -/
def tyV (K : PySem.W.Frag) (T : String) (x : V) (H : Hp) : Prop := match x with
  | .str _ => T = "str"
  | .int _ => T = "int"
  | .ref p => (T = "list" ∧ ∃ xs, SqL K H p xs) ∨ (T = "tuple" ∧ ∃ o, K.lookup p = some o ∧ o.cls = .type "tuple" ∧ o.dict = none) ∨
      (T = "dict" ∧ ((∃ kvs, H p = some (.dK kvs)) ∨ ∃ kvs, H p = some (.dT kvs))) ∨ (T = "set" ∧ ∃ S n, H p = some (.set S n))
  | _ => False
theorem tyV_is {pins : List (Addr × Obj)} {σ : St} {H : Hp} {s : Shared} {T : String} {x : V} {v : Value} (I : Inv X pins σ H s) (r : RelV x v) (ty : tyV X.K T x H) :
    s.TypeIs v T ∧ ∀ a, v = .ref a → ∃ ob, s.heap.get? a = some ob ∧ ob.dict = none := by
  cases x with
  | str z =>
    obtain ⟨t, rfl⟩ := r
    cases (show T = "str" from ty)
    exact ⟨typeIs_str s z t, fun _ e => nomatch e⟩
  | int i =>
    obtain ⟨t, rfl⟩ := r
    cases (show T = "int" from ty)
    exact ⟨typeIs_int s i t, fun _ e => nomatch e⟩
  | ref p =>
    cases r
    rcases ty with ⟨rfl, xs, hq⟩ | ⟨rfl, o, hk, hc, hd⟩ | ⟨rfl, hk⟩ | ⟨rfl, S, n, hk⟩
    · obtain ⟨its, _, pl, _⟩ := I.list hq
      refine ⟨pl.isList.typeIs, fun a e => ?_⟩
      cases e
      obtain ⟨o, n, e, c, hd, _⟩ := pl
      exact ⟨o, e, hd⟩
    · refine ⟨⟨o, I.kIn p o hk, hc⟩, fun a e => ?_⟩
      cases e
      exact ⟨o, I.kIn _ o hk, hd⟩
    · have z : ∃ o, s.heap.get? p = some o ∧ o.ExactDict := by
        rcases hk with ⟨kvs, hk⟩ | ⟨kvs, hk⟩
        · obtain ⟨_, _, _, _, o, _, _, e, ex, _⟩ := I.hok p _ hk
          exact ⟨o, e, ex⟩
        · obtain ⟨_, _, _, _, o, _, _, e, ex, _⟩ := I.hok p _ hk
          exact ⟨o, e, ex⟩
      obtain ⟨o, e, ex⟩ := z
      refine ⟨⟨o, e, ex.1⟩, fun a e2 => ?_⟩
      cases e2
      exact ⟨o, e, ex.2.1⟩
    · obtain ⟨o, _, _, _, e, ex, _⟩ := I.hok p _ hk
      refine ⟨⟨o, e, ex.1⟩, fun a e2 => ?_⟩
      cases e2
      exact ⟨o, e, ex.2.1⟩
  | _ => exact False.elim ty
def tBM0 (K : PySem.W.Frag) (T : String) (r : V → List V → Hp → VK → Prop) (to : TE) : TE := fun σ H Q => to σ H fun x H1 => tyV K T x H1 ∧ r x [] H1 Q
def tBM (K : PySem.W.Frag) (T : String) (r : V → List V → Hp → VK → Prop) (to : TE) (t : TA) : TE := fun σ H Q => to σ H fun x H1 => tyV K T x H1 ∧ t σ H1 fun xs H2 => r x xs H2 Q
variable {o e : Expr} {es : List Expr} {to : TE} {t : TA} {name : Str} {apos cpos : Pos} {T id : String} {r : V → List V → Hp → VK → Prop}
theorem pe_bm0 (pa : PlainAttrs T) (slot : Slot T name id) (hty : typeOf (.builtin id) = pure (.type "method_descriptor")) (hm : MtR X id r) (ho : PE X o to)
    (hbase : attributeBase o name X.env (eval o X.env) = eval o X.env := by rfl) (hline : (apos.endLine == cpos.line) = true := by rfl) : PE X (.Call (.Attribute o name apos) [] [] cpos) (tBM0 X.K T r to) := by
  intro pins s σ H Q I h
  refine wpAny_Call_method0_late hbase hline (thn (ho pins s σ H _ I h) fun v s1 ⟨x, H1, I1, r1, ty, q1⟩ => ?_)
  obtain ⟨h1, h2⟩ := tyV_is I1 r1 ty
  exact ⟨T, id, pa, slot, hty, h1, h2, Calls.callWith_builtin rfl (PySem.evalArgs_none (hm pins s1 σ H1 x [] v [] Q I1 r1 .nil q1))⟩
theorem pe_bm (pa : PlainAttrs T) (slot : Slot T name id) (hty : typeOf (.builtin id) = pure (.type "method_descriptor")) (hm : MtR X id r) (ho : PE X o to) (ha : PA X (e :: es) t)
    (hbase : attributeBase o name X.env (eval o X.env) = eval o X.env := by rfl)
    (hfew : ((backTo cpos (starEach (e :: es) X.env)).all (fun x => !x.1) && (backToKw cpos (keywordEach [] X.env)).all (fun x => x.1.isSome)
      && decide ((e :: es).length + ([] : List Keyword).length + (if ([] : List Keyword).isEmpty then 0 else 1) < 30)) = true := by rfl)
    (hline : (apos.endLine == cpos.line) = true := by rfl) (hs : starEach (e :: es) X.env = (false, eval e X.env) :: starEach es X.env := by rfl) (hplain : (backTo cpos (starEach es X.env)).any (·.1) = false := by rfl) :
    PE X (.Call (.Attribute o name apos) (e :: es) [] cpos) (tBM X.K T r to t) := by
  intro pins s σ H Q I h
  refine wpAny_Call_method_late hbase hfew hline rfl (thn (ho pins s σ H _ I h) fun v s1 ⟨x, H1, I1, r1, ty, q1⟩ => ?_)
  obtain ⟨h1, h2⟩ := tyV_is I1 r1 ty
  refine ⟨T, id, pa, slot, hty, h1, h2, ?_⟩
  have hA := ha cpos pins s1 σ H1 _ I1 q1
  rw [hs] at hA ⊢
  refine Calls.callWith_builtin (by show (false || (backTo cpos (starEach es X.env)).any (·.1)) = false; rw [hplain] <;> rfl) (Calls.evalArgs_plain ?_)
  exact thn hA fun us s2 ⟨vs, H2, I2, r2, q2⟩ => hm pins s2 σ H2 x vs v us Q I2 r1 r2 q2
/- xs.append(e), list.index on a module's tuple .. are MtR facts of 06m -/
end
end L2

namespace L2
open PySem PySem.Spec PyProof.Rows

def MtM (X : Cx) (id : String) (r : V → List V → Hp → VK → Prop) : Prop :=
  ∀ (pins : List (Addr × Obj)) (s : Shared) (σ : St) (H : Hp) (x : V) (xs : List V) (v : Value) (us : List Value) (Q : VK), Inv X pins σ H s → RelV x v → Vals xs us → r x xs H Q →
    wpAny (model X.prog X.w) X.A (call (.builtin id) (v :: us)) (EP X pins σ Q) X.xe s

/-! ### lists of values -/
theorem Vals.one : ∀ {x : V} {us : List Value}, Vals [x] us → ∃ u, us = [u] ∧ RelV x u
  | _, _, .cons r .nil => ⟨_, rfl, r⟩
theorem Vals.zero : ∀ {us : List Value}, Vals [] us → us = []
  | _, .nil => rfl
theorem Vals.dropLast {xs : List V} {us : List Value} (h : Vals xs us) : Vals xs.dropLast us.dropLast := by
  induction h with
  | nil => exact .nil
  | cons r t ih =>
    cases t with
    | nil => exact .nil
    | cons q t' => exact .cons r ih
theorem erase_last {α : Type} (l : List α) : l.eraseIdx (l.length - 1) = l.dropLast := by
  induction l with
  | nil => rfl
  | cons a r ih =>
    cases r with
    | nil => rfl
    | cons b r =>
      have e : (a :: b :: r).length - 1 = ((b :: r).length - 1) + 1 := by
        have h1 : (a :: b :: r).length = r.length + 2 := rfl
        have h2 : (b :: r).length = r.length + 1 := rfl
        omega
      rw [e, List.eraseIdx_cons_succ, ih]
      all_goals rfl
section
variable {X : Cx} {pins : List (Addr × Obj)} {σ : St} {H : Hp} {s : Shared} {l b : Addr} {xs ys zs : List V}

/-! ### the two steps: a tracked list is rewritten, a new list is laid -/
theorem Inv.lset {its its' : List Value} {n : Nat} {f : Array Value → Array Value} {t' : Nat} (I : Inv X pins σ H s) (hH : H l = some (.lst xs))
    (e : s.heap.get? l = some { cls := .type "list", data := .seq its.toArray n }) (hf : f its.toArray = its'.toArray) (hv : Vals ys its') (hz : ys.length ≤ sizeLine) :
    Inv X pins σ (upd H l (.lst ys)) { s with heap := s.heap.update l (Obj.mapSeq f), toks := t' } := by
  have q := PySem.IsL.update e f
  rw [hf] at q
  refine I.write (x := l) (e := l) (by rw [hH]; exact trivial) (.inl rfl) (fun b' u hb hu => (Heap.get?_update_other s.heap (Obj.mapSeq f) (Ne.symm hb)).trans hu) ⟨_, q⟩ ?_
  exact ⟨hz, its', _, hv, q⟩
theorem Inv.lnew {its : List Value} {t' : Nat} (I : Inv X pins σ H s) (hv : Vals ys its) (hz : ys.length ≤ sizeLine) :
    Inv X pins σ (upd H s.heap.objs.size (.lst ys)) { s with heap := s.heap.push { cls := .type "list", data := .seq its.toArray }, toks := t' } :=
  I.laid (fun _ _ q => Heap.get?_push_of_some _ q) (Nat.le_refl _) ⟨hz, its, 0, hv, Heap.get?_push_size _ rfl⟩
theorem Inv.fresh (I : Inv X pins σ H s) : H s.heap.objs.size = none := I.hok.fresh (Nat.le_refl _)
theorem Inv.lstM (I : Inv X pins σ H s) (hH : H l = some (.lst xs)) : xs.length ≤ sizeLine ∧ ∃ (its : List Value) (n : Nat), Vals xs its ∧ xs.length = its.length ∧ s.heap.get? l = some { cls := .type "list", data := .seq its.toArray n } := by
  obtain ⟨z, its, n, r, e⟩ := I.hok l _ hH
  exact ⟨z, its, n, r, r.length, e⟩

theorem notLongL {n : Nat} (h : n ≤ sizeLine) : Builtin.List.listTooLong n = false := by
  unfold Builtin.List.listTooLong
  exact decide_eq_false (by omega)
end

section
variable {X : Cx}

/-! ### methods -/
def rAppend : V → List V → Hp → VK → Prop := fun x vs H Q => ∃ l xs y, x = .ref l ∧ vs = [y] ∧ H l = some (.lst xs) ∧ xs.length < sizeLine ∧ Q .non (upd H l (.lst (xs ++ [y])))
theorem mt_append : MtM X "list.append" rAppend := by
  intro pins s σ H x vs v us Q I rx rv h
  obtain ⟨l, xs, y, rfl, rfl, hH, hz, q⟩ := h
  cases rx
  obtain ⟨u, rfl, ru⟩ := rv.one
  obtain ⟨z, its, n, r, hl, e⟩ := I.lstM hH
  refine call_meets F.slot_list_append ⟨_, e, rfl⟩ F.entry_list_append (F.args_list_append_2 _ _) (PySem.list_append l its.toArray n u (by rw [List.size_toArray]; omega)) ⟨e, ?_⟩
  refine ⟨.non, _, I.lset (its' := its ++ [u]) hH e (by simp) (r.append (.cons ru .nil)) ?_, rfl, q⟩
  rw [List.length_append, List.length_singleton]
  omega

def rExtend : V → List V → Hp → VK → Prop := fun x vs H Q => ∃ l b xs zs, x = .ref l ∧ vs = [.ref b] ∧ H l = some (.lst xs) ∧ H b = some (.lst zs) ∧ xs.length + zs.length ≤ sizeLine ∧ Q .non (upd H l (.lst (xs ++ zs)))
theorem mt_extend : MtM X "list.extend" rExtend := by
  intro pins s σ H x vs v us Q I rx rv h
  obtain ⟨l, b, xs, zs, rfl, rfl, hH, hB, hz, q⟩ := h
  cases rx
  obtain ⟨u, rfl, ru⟩ := rv.one
  cases ru
  obtain ⟨z, its, n, r, hl, e⟩ := I.lstM hH
  obtain ⟨z2, its2, n2, r2, hl2, e2⟩ := I.lstM hB
  have hsz : its.toArray.size + its2.toArray.size ≤ sizeLine := by rw [List.size_toArray, List.size_toArray]; omega
  have hlong : ¬ (!its.toArray.isEmpty && Builtin.List.listTooLong (its.toArray.size + its2.toArray.size)) = true := by
    rw [notLongL hsz, Bool.and_false]
    exact Bool.false_ne_true
  refine call_meets F.slot_list_extend ⟨_, e, rfl⟩ F.entry_list_extend (F.args_list_extend_2 _ _)
    (AutoSeq1.list_extend_list_list_0 l its.toArray n b its2.toArray n2 hlong (by rw [List.size_toArray]; omega) (by omega)) ⟨e, e2, ?_⟩
  refine ⟨.non, _, I.lset (its' := its ++ its2) hH e (by simp) (r.append r2) ?_, rfl, q⟩
  rw [List.length_append]
  omega

def rPop : V → List V → Hp → VK → Prop := fun x vs H Q => ∃ l xs y, x = .ref l ∧ vs = [] ∧ H l = some (.lst xs) ∧ xs[xs.length - 1]? = some y ∧ Q y (upd H l (.lst xs.dropLast))
theorem mt_pop : MtM X "list.pop" rPop := by
  intro pins s σ H x vs v us Q I rx rv h
  obtain ⟨l, xs, y, rfl, rfl, hH, hy, q⟩ := h
  cases rx
  have hus := rv.zero
  subst hus
  obtain ⟨z, its, n, r, hl, e⟩ := I.lstM hH
  obtain ⟨u, hu, ru⟩ := r.get hy
  have hy' : its.toArray[its.toArray.size - 1]? = some u := by
    show its.toArray[its.length - 1]? = some u
    rw [← Array.getElem?_toList, ← hl]
    exact hu
  refine call_meets F.slot_list_pop ⟨_, e, rfl⟩ F.entry_list_pop (F.args_list_pop_1 _) (MeetsSeq.list_pop_last l its.toArray n u hy' (by rw [List.size_toArray]; omega)) ⟨e, ?_⟩
  refine ⟨y, _, I.lset (its' := its.dropLast) hH e ?_ r.dropLast ?_, ru, q⟩
  · show its.toArray.eraseIdxIfInBounds (its.toArray.size - 1) = its.dropLast.toArray
    rw [List.size_toArray, List.eraseIdxIfInBounds_toArray, erase_last]
  · rw [List.length_dropLast]
    omega

def rPopAt : V → List V → Hp → VK → Prop := fun x vs H Q => ∃ l xs i k y, x = .ref l ∧ vs = [.int i] ∧ H l = some (.lst xs) ∧ -(2 ^ 63) ≤ i ∧ i < 2 ^ 63 ∧ seqIndex? i xs.length = some k ∧ xs[k]? = some y ∧ Q y (upd H l (.lst (xs.eraseIdx k)))
def rReverse : V → List V → Hp → VK → Prop := fun x vs H Q => ∃ l xs, x = .ref l ∧ vs = [] ∧ H l = some (.lst xs) ∧ Q .non (upd H l (.lst xs.reverse))
def rClear : V → List V → Hp → VK → Prop := fun x vs H Q => ∃ l xs, x = .ref l ∧ vs = [] ∧ H l = some (.lst xs) ∧ Q .non (upd H l (.lst []))
/-! ### list + list, list += list, list * int -/
def rCat : R2 := fun x y H Q => ∃ l b xs zs, x = .ref l ∧ y = .ref b ∧ H l = some (.lst xs) ∧ H b = some (.lst zs) ∧ xs.length + zs.length ≤ sizeLine ∧ ∀ p, H p = none → Q (.ref p) (upd H p (.lst (xs ++ zs)))
theorem op_cat : OpR X (binaryOp .Add) rCat := by
  intro pins s σ H x y v u Q I rx ry h
  obtain ⟨l, b, xs, zs, rfl, rfl, hH, hB, hz, q⟩ := h
  cases rx
  cases ry
  obtain ⟨z, its, n, r, hl, e⟩ := I.lstM hH
  obtain ⟨z2, its2, n2, r2, hl2, e2⟩ := I.lstM hB
  refine PySem.P.add_list e e2 ?_ (by rw [List.size_toArray, List.size_toArray]; omega)
  have ea : its.toArray ++ its2.toArray = (its ++ its2).toArray := by simp
  rw [ea]
  exact ⟨.ref _, _, I.lnew (t' := s.toks) (r.append r2) (by rw [List.length_append]; omega), rfl, q _ I.fresh⟩
/-- a list times an int (a negative one is nothing) -/
def rRep : R2 := fun x y H Q => ∃ l k xs, x = .ref l ∧ y = .int k ∧ H l = some (.lst xs) ∧ -(2 ^ 63) ≤ k ∧ k < 2 ^ 63 ∧ xs.length * k.toNat ≤ sizeLine ∧
  ∀ p, H p = none → Q (.ref p) (upd H p (.lst (List.replicate k.toNat xs).flatten))
/-! ### del xs[i] -/
end

/-! ### xs[a:b] = ys -/
section
variable {prog : Program} {w : World} {A : Around} {E : Value → Shared → Prop} {s : Shared}
set_option maxRecDepth 100000 in
end

section
variable {X : Cx}
end
end L2

namespace Att
open PySem PySem.W PySem.Calls PyProof.Rows

/-! ### the script -/
theorem ints_of_wellAll {P : Params} {h : Heap} : ∀ (ns : List Int) (vs : List Value), WellAll P h vs (ns.map WData.int) → IntsAre vs ns := by
  intro ns
  induction ns with
  | nil =>
    intro vs w
    rw [List.map_nil] at w
    cases w
    exact .nil
  | cons n ns ih =>
    intro vs w
    rw [List.map_cons] at w
    cases w with
    | cons a b =>
      cases a
      exact .cons _ _ (ih _ b)

theorem script_of {l : OpenLaw} {n : Nat} (hn : l.most = some n) {P : Params} {h : Heap} {args : List WData} {vals : List Value}
    (hpre : l.row.toRowW.claim.pre args = true) (hwl : WellAll P h vals args) :
    ∃ a vs ns, vals = [Value.ref a] ∧ args = [WData.list (ns.map WData.int)] ∧ h.get? a = some { cls := .type "list", data := .seq vs.toArray } ∧ IntsAre vs ns ∧ ns.length ≤ n := by
  have hsh : WShape.hasAll [] args [.list .int] = true := (pre_splitW hpre).1
  have hc : l.pre.holds [] { args := args } = true := (pre_splitW hpre).2
  obtain ⟨d, r, rfl, h1, h2⟩ := hasAllW_cons hsh
  obtain rfl := hasAllW_nil h2
  obtain ⟨xs, rfl, h3⟩ := hasW_list h1
  obtain ⟨ns, rfl⟩ := items_int h3
  have hlen : ns.length ≤ n := by
    unfold OpenLaw.pre at hc
    have h4 : (WTm.not (.lt (.lit (.int (n : Int))) (.len (.arg 0)))).holds [] { args := [.list (ns.map .int)] } = true := by
      have h4 := (holds_andW hc).1
      rw [hn] at h4
      exact h4
    have h5 := condW_of h4 (w_not (w_lt w_lit (w_len_list (w_arg rfl))))
    rw [List.length_map] at h5
    refine Nat.le_of_not_lt fun q => ?_
    have q' : (n : Int) < ((ns.length : Nat) : Int) := by omega
    first
      | (rw [decide_eq_true q'] at h5; exact absurd h5 (by decide))
      | (simp at h5; omega)
  cases hwl with
  | cons w1 w2 =>
    cases w2
    cases w1 with
    | list ho hall => exact ⟨_, _, ns, rfl, rfl, ho, ints_of_wellAll ns _ hall, hlen⟩

theorem post_true (l : OpenLaw) (args : List WData) : l.row.toRowW.claim.post args (.bool true) args = true :=
  postW_of (r := l.row.toRowW) (X := (true == true))
    (show WShape.has [] (.bool true) .bool = true by first | rfl | decide | simp [WShape.has, WShape.arms, WShape.armsAll])
    (show (WTm.eq .res (.lit (.bool true))).value [] { args := args, res := some (.bool true), after := args } = some (.bool (true == true)) from w_eq_bool (w_res rfl) w_lit) rfl

/-! ### the attachment: holds_open's last premise (the goal 'hc' behind k_head) from a wpAny of the law's body -/
/-- the same from a codeAny of the CALL (for a layer whose function contracts speak of calls) -/
theorem attach_call {l : OpenLaw} {n : Nat} {q : Program} {loose : List Str} {XP : (Str → Option Value) → Heap → Prop} {YP : World → Heap → Prop} {d : DefRec}
    (hn : l.most = some n) (hdf : d.params.defaults = [])
    (call : ∀ (w : World) (s₀ s₁ : Shared) (mg mb : Str → Option Value) (fa : Addr) (o : Obj) (pm cd doc : Value) (a : Addr) (vs : List Value) (ns : List Int),
      Ground q loose [] XP w s₀ mg mb s₁.heap → YP w s₁.heap →
      s₁.heap.get? fa = some o → o.data = .func (docDef d.name d.params d.body d.scope pm cd doc) → s₁.heap.CodeRec cd d.name → mg d.name = some (.ref fa) →
      s₁.heap.get? a = some { cls := .type "list", data := .seq vs.toArray } → IntsAre vs ns → ns.length ≤ n → s₁.gens = #[] →
      codeAny (model l.prog w) callerA (.call (.ref fa) ⟨[.ref a], []⟩) (fun r s' => r = .ok (.ret (.bool true)) ∧ OldK s₁.heap s'.heap ∧ s'.os = s₁.os ∧ AllBare s'.gens) s₁) :
    WalkO q loose XP YP l.row.toRowW d [] (fun f vs => PySem.call f vs) := by
  intro w s₀ s₁ mg mb G Y fa o pm cd doc dV kV ho hd hcd hD hmg hg args vals as hpre hlay hrd hwl hlo
  obtain rfl : dV = .none := Dflts.none hD hdf
  obtain rfl : kV = .none := Dflts.noKw hD
  obtain ⟨a, vs, ns, rfl, rfl, hobj, hints, hlen⟩ := script_of hn hpre hwl
  refine enter_call (codeAny_mono (call w s₀ s₁ mg mb fa o pm cd doc a vs ns G Y ho (fd_plain hd) hcd hmg hobj hints hlen hg) fun r s' hq => ?_)
  obtain ⟨rfl, h2, h3, h4⟩ := hq
  exact ⟨.inl ⟨.bool true, .bool true, [], rfl, fun _ => rfl, .bool true, post_true l _, fun _ => ⟨List.Pairwise.nil, fun _ hm => (nomatch hm)⟩⟩, h2, h3, h4⟩

/-! ### rules over ANY heap (no ledger) from facts about the written part K: the library's own take a ledger (News) for what they write -/
section
variable {prog : Program} {w : World} {A : Around} {E : Value → Shared → Prop} {s : Shared} {K : Frag}

/-! the whole heap as the ledger: makes every rule that writes through a ledger a rule over any heap -/
def noObjs (h : Heap) : Heap := { h with objs := #[] }
def ledger (h : Heap) (L d : Addr) : List (Addr × Obj) := (List.range h.objs.size).filterMap fun a => if a = L ∨ a = d then none else (h.get? a).map fun o => (a, o)
end
end Att

namespace L2
open PySem PySem.Spec PyProof.Rows

theorem vals_ints : ∀ {vs : List Value} {ns : List Int}, IntsAre vs ns → Vals (ns.map V.int) vs
  | _, _, .nil => .nil
  | _, _, .cons n t h => .cons ⟨t, rfl⟩ (vals_ints h)

/-- nothing is tracked but the script, known to the object (or it is an object of the module) -/
def Only (H : Hp) : Prop := ∀ b, H b = none ∨ ∃ o xs, H b = some (.frz o (.lst xs))

/-- THE HEAD: the law's promise, at the heap behind the top. F, the promise of the law's def, may use that base is part of the heap (so K.In base, base.Ns mainGlobals mg stand in Mod) -/
theorem law_call {P : Program} {w : World} {K : PySem.W.Frag} {mg mb : Str → Option Value} {CX : CXT} {k : Nat} {fa a : Addr} {fd : FuncData} {x : Str} {sp : Sp} {s₁ : Shared} {vs : List Value} {ns : List Int}
    (KX : K.In s₁.heap) (hns : s₁.heap.Ns mainGlobals mg) (hb : s₁.heap.Ns builtinsNs mb) (hbb : ∀ x : Str, x ≠ "__name__" → mb x = bootBuiltins x) (hlim : s₁.heap.NoLimit) (hg : s₁.gens = #[])
    (ha : s₁.heap.get? a = some { cls := .type "list", data := .seq vs.toArray }) (hi : IntsAre vs ns) (hl : ns.length ≤ sizeLine) (hr : Room k callerA)
    (F : ∀ base : Heap, K.In base → base.Ns mainGlobals mg → FnOk P w K mg base CX k fa fd [x] sp) (hbind : ∀ (s : Shared) (u : Value), BindsTo s fd ⟨[u], []⟩ [(x, u)])
    (hsp : ∀ H : Hp, Only H → SqL K H a (ns.map V.int) → sp [.ref a] H (fun v _ => v = .bl true) fun _ _ _ => False)
    (hCX : ∀ H e s', CX [] H s₁ (fun _ _ _ => False) e s' → False) :
    codeAny (model P w) callerA (.call (.ref fa) ⟨[.ref a], []⟩) (fun r s' => r = .ok (.ret (.bool true)) ∧ OldK s₁.heap s'.heap ∧ s'.os = s₁.os ∧ AllBare s'.gens) s₁ := by
  have rv := vals_ints hi
  have lenV := hi.length
  -- from an abstract heap in which nothing but the script may be tracked
  have core : ∀ H : Hp, Only H → SqL K H a (ns.map V.int) → HOk P w H s₁.heap → (∀ b, H b ≠ none → b = a) → (H a ≠ none → K.lookup a = none) →
      codeAny (model P w) callerA (.call (.ref fa) ⟨[.ref a], []⟩) (fun r s' => r = .ok (.ret (.bool true)) ∧ OldK s₁.heap s'.heap ∧ s'.os = s₁.os ∧ AllBare s'.gens) s₁ := by
    intro H hO hS hok hA hK
    have base_of : ∀ {b : Addr} {o : Obj}, s₁.heap.get? b = some o → H b = none → (hidT s₁.heap H).get? b = some o := fun e n => hidT_get e n
    have noA : ∀ {b : Addr} {o : Obj} {es : Array DictEntry} {ep : Nat}, s₁.heap.get? b = some o → o.data = .dict es ep → H b = none := fun {b o es ep} e d => by
      cases q : H b with
      | none => rfl
      | some u =>
        have e' : b = a := hA b (by rw [q]; simp)
        subst e'
        rw [ha] at e; cases e
        have d' : Data.seq vs.toArray _ = Data.dict es ep := d
        cases d'
    have nsK : ∀ {b : Addr} {m : Str → Option Value}, s₁.heap.Ns b m → (hidT s₁.heap H).Ns b m := fun {b m} ⟨o, es, ep, e, d, r⟩ => ⟨o, es, ep, base_of e (noA e d), d, r⟩
    have hKb : K.In (hidT s₁.heap H) := fun b o e => base_of (KX b o e) (by
      cases q : H b with
      | none => rfl
      | some u =>
        have e' : b = a := hA b (by rw [q]; simp)
        subst e'
        rw [hK (by rw [q]; simp)] at e; cases e)
    have hM : Mod K mg (hidT s₁.heap H) := ⟨hKb, nsK hns, ⟨mb, nsK hb, hbb⟩, let ⟨mc, h1, h2⟩ := hlim; ⟨mc, nsK h1, h2⟩⟩
    have e0 : Env0 P w K mg (hidT s₁.heap H) callerA [] s₁ H := ⟨rfl, hM, fun b o e => of_hidT e, Nat.le_of_eq (hidT_size _ _), trivial, fun b hb => absurd (show b ∈ ([] : List Addr) from hb) (by simp), hok, .of_eq hg⟩
    refine codeAny_mono ((F _ hKb (nsK hns)).run callerA [] s₁ H ⟨[.ref a], []⟩ [.ref a] [.ref a] _ _ hr e0 (hbind s₁ (.ref a)) (.cons rfl .nil) (hsp H hO hS)) fun r s' h => ?_
    cases r with
    | error e => exact (hCX H e s' h).elim
    | ok fl =>
      cases fl with
      | next => exact False.elim h
      | brk => exact False.elim h
      | cont => exact False.elim h
      | ret u =>
        obtain ⟨v, H', os, bare, un, hok', r', q⟩ := h
        have q' : v = .bl true := q
        subst q'
        obtain rfl : u = Value.bool true := r'
        refine ⟨rfl, OldK.of_keep fun b o e => ?_, os, bare⟩
        cases q : H b with
        | none => exact un.keep b o e q (by intro z; exact absurd (show b ∈ ([] : List Addr) from z) (by simp)) (by simp)
        | some u =>
          rcases hO b with z | ⟨ob, xs, z⟩
          · rw [q] at z; cases z
          · have z2 := un.frzs b ob _ z
            obtain ⟨e1, _⟩ := hok b _ z
            obtain ⟨e2, _⟩ := hok' b _ z2
            rw [e] at e1; cases e1
            exact e2
  cases hk : K.lookup a with
  | some o =>
    -- the script is one of the module's own objects
    have e := KX a o hk
    rw [ha] at e
    cases e
    refine core (fun _ => none) (fun _ => .inl rfl) (.inr ⟨_, vs.toArray, _, hk, rfl, rfl, rfl, by rw [List.size_toArray, lenV]; exact hl, by simpa using rv⟩) (fun b u z => by have z' : (none : Option HO) = some u := z; cases z') (fun b z => absurd rfl z) fun z => absurd rfl z
  | none =>
    refine core (fun b => if b = a then some (.frz { cls := .type "list", data := .seq vs.toArray } (.lst (ns.map V.int))) else none) (fun b => ?_) (.inl (.inr ⟨{ cls := .type "list", data := .seq vs.toArray }, if_pos rfl⟩)) (fun b u z => ?_) (fun b z => ?_) fun _ => hk
    · by_cases hb : b = a
      · exact .inr ⟨_, _, if_pos hb⟩
      · exact .inl (if_neg hb)
    · by_cases hb : b = a
      · have z' := (if_pos hb).symm.trans z
        cases z'
        subst hb
        exact ⟨ha, by rw [List.length_map]; exact hl, vs, _, rv, ha⟩
      · have z' := (if_neg hb).symm.trans z
        cases z'
    · by_cases hb : b = a
      · exact hb
      · exact absurd (if_neg hb) z
end L2

namespace L2
open PySem PySem.Spec PyProof.Rows

abbrev KOf {K : PySem.W.Frag} {h : Heap} (_ : K.In h) : PySem.W.Frag := K

/-- the goal that k_head leaves (case hc), from the law's promise. F gives the function object fd (K's own) once, then the promise over every base -/
theorem walk_of {l : PySem.W.OpenLaw} {n k : Nat} {q : Program} {loose : List Str} {XP : (Str → Option Value) → Heap → Prop} {YP : World → Heap → Prop} {d : DefRec} {K : Params → PySem.W.Frag} {CX : World → CXT} {sp : World → Sp} {x : Str}
    (hn : l.most = some n) (hn2 : n ≤ sizeLine) (hdf : d.params.defaults = []) (hr : Room k callerA)
    (hY : ∀ (w : World) (h : Heap), YP w h → (K w.params).In h)
    (F : ∀ (w : World) (mg : Str → Option Value) (fa : Addr) (h : Heap), (K w.params).In h → h.Ns mainGlobals mg → mg d.name = some (.ref fa) →
      ∃ fd : FuncData, (∀ (s : Shared) (u : Value), BindsTo s fd ⟨[u], []⟩ [(x, u)]) ∧
        ∀ base : Heap, (K w.params).In base → base.Ns mainGlobals mg → FnOk l.prog w (K w.params) mg base (CX w) k fa fd [x] (sp w))
    (hsp : ∀ (w : World) (H : Hp) (a : Addr) (ns : List Int), ns.length ≤ n → Only H → SqL (K w.params) H a (ns.map V.int) → sp w [.ref a] H (fun v _ => v = .bl true) fun _ _ _ => False)
    (hCX : ∀ (w : World) (H : Hp) (s : Shared) (e : Value) (s' : Shared), CX w [] H s (fun _ _ _ => False) e s' → False) :
    PySem.W.WalkO q loose XP YP l.row.toRowW d [] (fun f vs => PySem.call f vs) := by
  refine Att.attach_call hn hdf fun w s₀ s₁ mg mb fa o pm cd doc a vs ns G Y ho hd hcd hmg hobj hints hlen hg => ?_
  have KX := hY w _ Y
  obtain ⟨fd, hb, hF⟩ := F w mg fa _ KX G.T.g hmg
  exact law_call KX G.T.g G.T.b G.T.builtins G.T.nolimit hg hobj hints (Nat.le_trans hlen hn2) hr hF hb (fun H hO hS => hsp w H a ns hlen hO hS) fun H e s' => hCX w H s₁ e s'
end L2

/- THE LAST THEOREM (shape; LID, My.* are yours):
   My.Adr: a structure of the addresses that your layer names (classes, functions); My.Txt K t: a structure (Prop) of the equations over K;
   My.txt_mk : {K} {implicit addresses ..} (e1 : nsIn K mainGlobals "law" = some (some (.ref f))) (e2 : K.lookup f = some ⟨oc, od, .func (fnOf "law" "law" params body scope dV kV doc pm an cdv ct), sl⟩) (e3 : codeIn K cdv "law" = true) .. : ∃ t, My.Txt K t

set_option maxRecDepth 100000 in
set_option maxHeartbeats 0 in
theorem PySem.Challenge.cw_LID_holds : PySem.Challenge.rw_LID.Holds := by
  w_on; o_law; k_head; (case hw => w_witness2)
  k_fill
  refine L2.walk_of (l := PySem.Challenge.rw_LID) (n := 63) (k := 40) (x := "script") (CX := fun w => ..) (sp := fun _ => My.sp_law) rfl (by decide) rfl ⟨rfl, by decide, by decide⟩ (fun w h Y => PySem.W.kIn_of Y) ?F ?S ?C
  case F =>
    intro w mg fa h KX G hmg
    have T : ∃ t, My.Txt (L2.KOf KX) t := by
      dsimp only [L2.KOf]                          -- K must stand as «<heap const> w.params» for k_is
      refine' My.txt_mk ?e1 ?e2 ?e3 ..
      (case e1 => PySem.W.k_is)                    -- in the order: a name -> its address -> its object -> its parts
      (case e2 => PySem.W.k_is)
      ..
    obtain ⟨t, T⟩ := T
    have e0 := hmg.symm.trans (PySem.W.mg_of KX G T.law)
    cases e0                                       -- fa is the law's own address
    exact ⟨_, fun s u => .of_eq rfl, fun base kb nb => My.law_fn T kb nb⟩     -- if «.of_eq rfl» comes too early: refine' ⟨_, ?b, fun base kb nb => My.law_fn T kb nb⟩; exact fun s u => .of_eq rfl
  case S => exact fun w H a ns hl hO hS => ..
  case C => exact ..
(the tactic k_is has no namespace: write k_is) -/

/-! SHORT WORDS over the layer: a def of the text, its body, what a loop and a test want. -/
namespace L2
open PySem PySem.Spec PyProof.Rows

/-! ### the text by places -/
/-- the j-th statement of a class's body -/
def inClass (s : Stmt) (j : Nat) : Stmt := match s with
  | .ClassDef _ _ _ body _ _ _ _ _ _ _ => body.getD j (.Pass ⟨0, 0, 0, 0⟩)
  | _ => .Pass ⟨0, 0, 0, 0⟩
def defArgs (s : Stmt) : Arguments := match s with
  | .FunctionDef _ a _ _ _ _ _ _ _ _ => a
  | _ => { posonlyargs := [], args := [], vararg := none, kwonlyargs := [], kw_defaults := [], kwarg := none, defaults := [] }
def defBody (s : Stmt) : List Stmt := match s with
  | .FunctionDef _ _ b _ _ _ _ _ _ _ => b
  | _ => []
def defScope (s : Stmt) : Scope := match s with
  | .FunctionDef _ _ _ _ _ _ sc _ _ _ => sc
  | _ => { kind := .function, names := [], isGenerator := false, isCoroutine := false }

/-! ### no exception leaves a def -/
abbrev CX0 : CXT := fun _ _ _ _ _ _ => False
abbrev E0 : XK := fun _ _ _ => False
theorem pass0 {X : Cx} : Passes CX0 X E0 := fun _ _ _ _ _ _ _ h => h.elim

/-! ### a def (or method) of the text as it stands behind the top -/
structure Fun (K : PySem.W.Frag) (x qual : Str) (st : Stmt) (f : Addr) (fd : FuncData) : Prop where
  ex : ∃ (oc : Value) (od : Option Addr) (kV doc pm : Value) (an : Option Addr) (cdv ct : Value) (osl : Array (Option Value)),
    fd = PySem.W.fnOf x qual (defArgs st) (defBody st) (defScope st) .none kV doc pm an cdv ct ∧ K.lookup f = some ⟨oc, od, .func fd, osl⟩ ∧ PySem.W.codeIn K cdv qual = true
  kp : PySem.W.keepIn K (.ref f) = true
section
variable {P : Program} {w : World} {K : PySem.W.Frag} {mg : Str → Option Value} {base : Heap}
/-- THE RULE for a def: its body as a term of rules, and the reading of that term -/
theorem Fun.ok {x qual : Str} {st : Stmt} {f : Addr} {fd : FuncData} {N ps : List Str} {k : Nat} {sp : Sp} (F : Fun K x qual st f fd) (S : FnScope N ps (defScope st)) (len : ∀ vs H Q E, sp vs H Q E → vs.length = ps.length)
    (hbody : ∀ (cdv : Value) (A : Around) (outer : List Env) (s : Shared) (H : Hp) (vs : List V) (Q : VK) (E : XK), Room k (A.deeper (envOfC qual (defScope st) s.heap.objs.size f cdv)) → sp vs H Q E →
      ∃ t, PSs (cxOf CX0 P w K mg base N qual (defScope st) f cdv A outer s H E).nox (defBody st) t ∧ t { nx := fun _ H' => Q .non H', rt := Q } (start N vs) H) : FnOk P w K mg base CX0 (k + 1) f fd ps sp := by
  obtain ⟨oc, od, kV, doc, pm, an, cdv, ct, osl, rfl, lk, hcd⟩ := F.ex
  refine fn_of lk hcd S len fun A outer s H vs Q E hr hsp => ?_
  obtain ⟨t, h, q⟩ := hbody cdv A outer s H vs Q E hr hsp
  exact ⟨t, h.nox, q⟩
/-- how its arguments bind (no defaults): h is «fun _ _ _ _ _ _ us hl => match us, hl with | [_, _], _ => rfl», one _ a parameter -/
theorem Fun.binds {x qual : Str} {st : Stmt} {f : Addr} {fd : FuncData} {ps : List Str} (F : Fun K x qual st f fd)
    (h : ∀ (kV doc pm : Value) (an : Option Addr) (cdv ct : Value) (us : List Value), us.length = ps.length → bindArgs (PySem.W.fnOf x qual (defArgs st) (defBody st) (defScope st) .none kV doc pm an cdv ct) ⟨us, []⟩ = pure (ps.zip us)) : Binds K fd ps [] := by
  obtain ⟨oc, od, kV, doc, pm, an, cdv, ct, osl, rfl, lk, hcd⟩ := F.ex
  exact .all (h kV doc pm an cdv ct)
theorem fun_mk {x qual : Str} {st : Stmt} {f : Addr} {oc : Value} {od an : Option Addr} {osl : Array (Option Value)} {kV doc pm cdv ct : Value} (l : K.lookup f = some ⟨oc, od, .func (PySem.W.fnOf x qual (defArgs st) (defBody st) (defScope st) .none kV doc pm an cdv ct), osl⟩)
    (c : PySem.W.codeIn K cdv qual = true) (k : PySem.W.keepIn K (.ref f) = true) : Fun K x qual st f (PySem.W.fnOf x qual (defArgs st) (defBody st) (defScope st) .none kV doc pm an cdv ct) := ⟨⟨oc, od, kV, doc, pm, an, cdv, ct, osl, rfl, l, c⟩, k⟩
end
/-! ### expressions in short: the name that stands in the i-th slot -/
section
variable {X : Cx}
theorem pv (i : Nat) {x : Str} {pos : Pos} (hN : X.N[i]? = some x := by rfl) (hv : Vis X.env.scope x := by first | exact Or.inl rfl | exact Or.inr (Or.inl rfl) | exact Or.inr (Or.inr rfl)) (hd : (x == ("__debug__" : Str)) = false := by decide)
    (hcd : (x == ("__classdict__" : Str)) = false := by decide) : PE X (.Name x pos) (tVar i) := pe_var hN hv hd hcd
end

/-! ### tests -/
theorem iteF {A B : Prop} (h : B) : if false = true then A else B := by
  rw [if_neg Bool.false_ne_true]
  exact h
theorem iteT {A B : Prop} (h : A) : if true = true then A else B := by
  rw [if_pos rfl]
  exact h
theorem ite2 {c A B : Prop} [Decidable c] (h1 : c → A) (h2 : ¬ c → B) : if c then A else B := by
  by_cases h : c
  · rw [if_pos h]
    exact h1 h
  · rw [if_neg h]
    exact h2 h
/-! ### heaps -/
/-- all that was tracked is as it was -/
def Same (H H' : Hp) : Prop := ∀ b o, H b = some o → H' b = some o
theorem Same.refl (H : Hp) : Same H H := fun _ _ h => h
theorem Same.trans {H H1 H2 : Hp} (a : Same H H1) (b : Same H1 H2) : Same H H2 := fun c o h => b c o (a c o h)
theorem Same.seq {K : PySem.W.Frag} {H H' : Hp} {a : Addr} {xs : List V} (e : Same H H') (h : SqL K H a xs) : SqL K H' a xs := by
  rcases h with (h | ⟨o, h⟩) | h
  · exact .inl (.inl (e _ _ h))
  · exact .inl (.inr ⟨o, e _ _ h⟩)
  · exact .inr h

/-! ### a dict's pairs: keys that differ -/
section
variable {κ : Type} [DecidableEq κ]
end
end L2

set_option Elab.async false
set_option linter.all false
set_option maxRecDepth 100000
set_option maxHeartbeats 4000000
namespace L2
open PySem PySem.Spec PyProof.Rows

/-- an object that stood untracked is tracked -/
theorem HOk.track {P : Program} {w : World} {H : Hp} {h : Heap} {a : Addr} {o : HO} (x : HOk P w H h) (hn : H a = none) (new : ObjOk P w (upd H a o) h a o) : HOk P w (upd H a o) h := fun b u e => by
  by_cases hb : b = a
  · subst hb; rw [upd_same] at e; cases e; exact new
  · rw [upd_ne hb] at e
    exact (x b u e).stay (fun c v _ q => q) (fun c q => by rw [upd_ne (ne_of_none q hn)]; exact q) fun c xs q => by rw [upd_ne (ne_of_none q hn)]; exact q
/-- an untracked object is changed -/
theorem HOk.other {P : Program} {w : World} {H : Hp} {h h' : Heap} {a : Addr} (x : HOk P w H h) (hn : H a = none) (hs : Heap.SameBut a h h') : HOk P w H h' := fun b u e =>
  (x b u e).stay (fun c v hc q => (hs.2 c (by
    rintro rfl
    rcases hc with rfl | hc
    · rw [hn] at e; cases e
    · rw [hn] at hc; cases hc)).trans q) (fun _ q => q) fun _ _ q => q

section
variable {prog : Program} {w : World} {A : Around} {R : Result → Shared → Prop} {s : Shared}
theorem comp_loop {elt target iter : Expr} {ifs : List Expr} {scope : Scope} {pos : Pos} {it acc : Value} {env : Env} (I : Nat → Shared → Prop)
    (turn : ∀ n s, I n s → wpAny (model prog w) A (pyNext it) (fun r s₁ => match r with
      | none => R (.ok .next) s₁
      | some v => wpAny (model prog w) A (letOwnedTupleGo target it v) (fun _ s₀ => wpAny (model prog w) A (assign target env v) (fun _ s₂ =>
          wpAny (model prog w) A (forIn ifs true fun c r => if r = true then do let ok ← isTrue c env (eval c env); pure (ForInStep.yield ok) else pure (ForInStep.yield r)) (fun ok s₃ =>
            if ok = true then wpAny (model prog w) A (eval elt env) (fun x s₄ =>
              wpAny (model prog w) A (call (.builtin "list.append") [acc, x]) (fun _ s₅ => ∃ m, m < n ∧ I m s₅) (notedBy (model prog w) A env fun e s' => R (.error e) s') s₄) (notedBy (model prog w) A env fun e s' => R (.error e) s') s₃
            else ∃ m, m < n ∧ I m s₃) (notedBy (model prog w) A env fun e s' => R (.error e) s') s₂) (notedBy (model prog w) A env fun e s' => R (.error e) s') s₀) (notedBy (model prog w) A env fun e s' => R (.error e) s') s₁) (notedBy (model prog w) A env fun e s' => R (.error e) s') s)
    (n : Nat) (h : I n s) : codeAny (model prog w) A (.compLoop (.ListComp elt [⟨target, iter, ifs, 0⟩] scope pos) 0 it acc env) R s := by
  refine codeAny_loop rfl I (fun n s hI => ?_) n h
  show wpAny _ A ((compTurn (.ListComp elt [⟨target, iter, ifs, 0⟩] scope pos) 0 it acc env).onRaise (fun x => do noteFrame x env; theTreesLotGoes x)) _ _ s
  refine wpAny_noted ?_
  rw [compTurn_list]
  refine wpAny_bind (wpAny_standAt (wpAny_bind (wpAny_mono (turn n s hI) (fun r s₁ h₁ => ?_) fun _ _ h' => h')))
  cases r with
  | none => exact wpAny_pure h₁
  | some v =>
    refine wpAny_bind (wpAny_mono h₁ (fun _ s₀ h₀ => ?_) fun _ _ h' => h')
    refine wpAny_bind (wpAny_mono h₀ (fun _ s₂ h₂ => wpAny_bind (wpAny_mono h₂ (fun ok s₃ h₃ => ?_) fun _ _ h' => h')) fun _ _ h' => h')
    cases ok with
    | false => exact wpAny_pure ⟨rfl, h₃⟩
    | true =>
      exact wpAny_bind (wpAny_bind (wpAny_mono h₃ (fun x s₄ h₄ => wpAny_bind (wpAny_mono h₄ (fun _ s₅ h₅ => wpAny_pure (wpAny_pure ⟨rfl, h₅⟩)) fun _ _ h' => h')) fun _ _ h' => h'))
end

/-! ### a comprehension's block -/
def cxComp (X : Cx) (scope : Scope) (cl : List (Str × Addr)) (NY : List Str) (C : Addr) (s : Shared) (H : Hp) (fp : List Addr) : Cx where
  prog := X.prog
  w := X.w
  K := X.K
  mg := X.mg
  base := X.base
  A := X.A
  N := NY
  s₀ := s
  H₀ := H
  env := compEnvC scope cl C X.env
  outer := X.stack
  stack := X.stack
  ex := fp
  fn := fun _ => false
  calm := true
  pn := []
  xe := notedBy (model X.prog X.w) X.A (compEnvC scope cl C X.env) fun e s' => compPost (model X.prog X.w) X.A X.xe none (fun _ _ => False) .none C (.error e) s'
def ClOk : List (Str × Addr) → List (Str × Addr) → Prop
  | [], _ => True
  | p :: r, cells => cells.lookup p.1 = some p.2 ∧ ClOk r cells
theorem ClOk.mem : ∀ {cl cells : List (Str × Addr)}, ClOk cl cells → ∀ {x : Str} {c : Addr}, cl.lookup x = some c → cells.lookup x = some c
  | [], _, _, _, _, e => by simp at e
  | (y, d) :: r, cells, h, x, c, e => by
    rw [List.lookup_cons] at e
    split at e
    · rename_i q
      have q' : x = y := by simpa using q
      subst q'
      cases e
      exact h.1
    · exact ClOk.mem h.2 e
def FrOk (X : Cx) (scope : Scope) (cl : List (Str × Addr)) : List Nat → List Str → Prop
  | [], [] => True
  | i :: r, y :: ys => (X.N[i]? = some y ∧ scope.names.lookup y = some .free ∧ Vis X.env.scope y ∧ X.env.kindOf y ≠ some .local ∧ ∃ c, cl.lookup y = some c) ∧ FrOk X scope cl r ys
  | _, _ => False
def PIfs (X : Cx) (ifs : List Expr) (t : TT) : Prop :=
  ∀ (pins : List (Addr × Obj)) (s : Shared) (σ : St) (H : Hp) (Q : Bool → Hp → Prop), Inv X pins σ H s → t σ H Q →
    wpAny (model X.prog X.w) X.A (forIn ifs true fun c r => if r = true then do let ok ← isTrue c X.env (eval c X.env); pure (ForInStep.yield ok) else pure (ForInStep.yield r)) (TP X pins σ Q) X.xe s
theorem pifs_nil {X : Cx} : PIfs X [] (fun _ H Q => Q true H) := fun _ _ _ H _ I h => wpAny_tests_nil ⟨H, I, h⟩
theorem pifs_one {X : Cx} {c : Expr} {t : TT} (h : PT X c t) : PIfs X [c] t := fun pins s σ H Q I q => wpAny_tests_one (h pins s σ H Q I q)
/-- the names' values in the block: the walked one, those of the frame that it reads -/
def frees (fr : List Nat) (σ : St) : St := fr.map fun k => (σ[k]?).join
def tLComp (fr : List Nat) (wi : TI) (tt : TT) (te : TE) : TE := fun σ H Q => wi σ H fun J H1 => ∃ W : Nat → Nat → List V → Hp → Prop, (∃ m, W 0 m [] H1) ∧ ∀ i m vs H, W i m vs H → vs.length ≤ sizeLine ∧
  ((J.stop i H ∧ ∀ D, H D = none → Q (.ref D) (upd H D (.lst vs))) ∨
   (J.go i H ∧ ∀ v H', J.yld i H v H' → tt (some v :: frees fr σ) H' fun b H2 => if b = true then te (some v :: frees fr σ) H2 fun y H3 => ∃ m', m' < m ∧ W (i + 1) m' (vs ++ [y]) H3 else ∃ m', m' < m ∧ W (i + 1) m' vs H2))

def relF (env : Env) (p : Str × NameKind) : Str × NameKind := if (p.2 == NameKind.free && env.scope.kind == .function && env.kindOf p.1 == some .cell) = true then (p.1, NameKind.cell) else (p.1, p.2)
theorem relF_fst (env : Env) (p : Str × NameKind) : (relF env p).1 = p.1 := by unfold relF; split <;> rfl
theorem lookup_relF {env : Env} : ∀ {names : List (Str × NameKind)} {x : Str}, (names.map (relF env)).lookup x = (names.lookup x).map fun k => (relF env (x, k)).2
  | [], _ => rfl
  | (n, k) :: r, x => by
    have ih := @lookup_relF env r x
    rw [List.map_cons]
    have e : relF env (n, k) = (n, (relF env (n, k)).2) := Prod.ext (relF_fst env (n, k)) rfl
    rw [e]
    cases hx : x == n with
    | true =>
      have q' : x = n := by simpa using hx
      subst q'
      simp only [List.lookup_cons, hx, Option.map_some]
    | false => simp only [List.lookup_cons, hx]; exact ih
theorem lookup_relabel_free {env : Env} {names : List (Str × NameKind)} {x : Str} (h : names.lookup x = some .free) :
    (names.map (relF env)).lookup x = some .cell ∨ (names.map (relF env)).lookup x = some .free := by
  rw [lookup_relF, h, Option.map_some]
  unfold relF
  split
  · exact .inl rfl
  · exact .inr rfl
theorem lookup_relabel_inv {env : Env} {names : List (Str × NameKind)} {x : Str} (hn : ∀ y ∈ names, y.2 ≠ .cell) (h : (names.map (relF env)).lookup x = some .cell ∨ (names.map (relF env)).lookup x = some .free) : (x, NameKind.free) ∈ names := by
  rw [lookup_relF] at h
  cases q : names.lookup x with
  | none => rw [q] at h; simp at h
  | some k =>
    rw [q] at h
    have hm := PySem.mem_of_lookup q
    have hk : k = .free := by
      unfold relF at h
      simp only [Option.map_some, Option.some.injEq] at h
      split at h
      · rename_i c
        simp only [Bool.and_eq_true] at c
        simpa using c.1.1
      · rcases h with h | h
        · exact absurd h (hn _ hm)
        · exact h
    rw [← hk]
    exact hm

theorem frees_get {X : Cx} {scope : Scope} {cl : List (Str × Addr)} {σ : St} : ∀ {fr : List Nat} {ys : List Str}, FrOk X scope cl fr ys → ∀ (j : Nat) (y : Str) (v : V), ys[j]? = some y → (frees fr σ)[j]? = some (some v) →
    ∃ i : Nat, X.N[i]? = some y ∧ σ[i]? = some (some v) ∧ scope.names.lookup y = some .free ∧ Vis X.env.scope y ∧ X.env.kindOf y ≠ some .local ∧ ∃ c, cl.lookup y = some c
  | [], [], _, j, y, v, e, _ => by simp at e
  | [], _ :: _, h, _, _, _, _, _ => h.elim
  | _ :: _, [], h, _, _, _, _, _ => h.elim
  | i :: r, z :: ys, h, 0, y, v, e1, e2 => by
    have e1' : z = y := by simpa using e1
    subst e1'
    have e2' : (σ[i]?).join = some v := by simpa [frees] using e2
    have : σ[i]? = some (some v) := by
      cases q : σ[i]? with
      | none => rw [q] at e2'; cases e2'
      | some o => rw [q] at e2'; cases o with
        | none => cases e2'
        | some u => cases e2'; rfl
    exact ⟨i, h.1.1, this, h.1.2.1, h.1.2.2.1, h.1.2.2.2.1, h.1.2.2.2.2⟩
  | i :: r, z :: ys, h, j + 1, y, v, e1, e2 => frees_get (fr := r) (ys := ys) h.2 j y v (by simpa using e1) (by simpa [frees] using e2)
theorem frees_len {X : Cx} {scope : Scope} {cl : List (Str × Addr)} {σ : St} : ∀ {fr : List Nat} {ys : List Str}, FrOk X scope cl fr ys → (frees fr σ).length = ys.length
  | [], [], _ => rfl
  | [], _ :: _, h => h.elim
  | _ :: _, [], h => h.elim
  | i :: r, z :: ys, h => by
    have := frees_len (σ := σ) (fr := r) (ys := ys) h.2
    simp only [frees, List.map_cons, List.length_cons, List.length_map] at *
    omega

theorem pe_lcomp {X : Cx} {elt iter : Expr} {x : Str} {px pos : Pos} {ifs : List Expr} {scope : Scope} {cl : List (Str × Addr)} (fr : List Nat) (ys : List Str) {wi : TI} {tt : TT} {te : TE}
    (hc : X.calm = true) (hclos : closureFor scope X.env = pure cl) (hcell : ∀ y ∈ scope.names, y.2 ≠ .cell) (hkind : scope.kind = .function) (hnames : ∀ y ∈ scope.names, y.2 = .local → scope.names.lookup y.1 = some .local)
    (hx : scope.names.lookup x = some .local) (hnd : (x :: ys).Nodup) (hcl : ClOk cl X.env.cells) (hall : (scope.names.all fun y => y.2 != .free || (cl.lookup y.1).isSome) = true) (hfr : FrOk X scope cl fr ys)
    (hi : PI X (.Name x px) iter wi)
    (hY : ∀ C s H fp, PIfs (cxComp X scope cl (x :: ys) C s H fp) ifs tt ∧ PE (cxComp X scope cl (x :: ys) C s H fp) elt te)
    (hs : ∀ v, foldedSetIterable iter X.env v = pure v := by intro _; rfl) :
    PE X (.ListComp elt [⟨.Name x px, iter, ifs, 0⟩] scope pos) (tLComp fr wi tt te) := by
  intro pins s σ H Q I h
  rw [eval_ListComp]
  refine wpAny_comprehension_free (use := none) rfl hs hclos hkind hnames (wpAny_mono (hi pins s σ H _ I h) (fun v s1 h1 => wpAny_mono h1 (fun itv s2 h2 => ?_) fun _ _ e => e) fun _ _ e => e)
  obtain ⟨it, fp, tn, J, H2, rfl, I2, T, st2, f2, W, ⟨m0, w0⟩, turn⟩ := h2
  refine wpAny_newObj_type (wpAny_newFunctionEnv hcell (by intro y hy; simp at hy) (fun h₁ hns₁ hsb₁ => ?_) hkind)
  dsimp only at hns₁ hsb₁ ⊢
  generalize hP2 : s2.heap.push { cls := .type "list", dict := none, data := .seq ([] : List Value).toArray } = P2 at hns₁ hsb₁ ⊢
  have hC : P2.objs.size = s2.heap.objs.size + 1 := by rw [← hP2, Heap.size_push]
  have hDC : s2.heap.objs.size ≠ P2.objs.size := by rw [hC]; exact Nat.ne_of_lt (Nat.lt_succ_self _)
  have hCle : s2.heap.objs.size ≤ P2.objs.size := by rw [hC]; exact Nat.le_succ _
  have below : ∀ b, b < s2.heap.objs.size → b ≠ P2.objs.size ∧ b ≠ s2.heap.objs.size := fun b hb => ⟨by rw [hC]; exact Nat.ne_of_lt (Nat.lt_succ_of_lt hb), Nat.ne_of_lt hb⟩
  have old : ∀ b o, s2.heap.get? b = some o → h₁.get? b = some o := fun b o e => hsb₁.extBut b o (below b (Heap.lt_size e)).1 (Heap.get?_push_of_some _ (hP2 ▸ Heap.get?_push_of_some _ e))
  have hacc : h₁.get? s2.heap.objs.size = some { cls := .type "list", data := .seq ([] : List Value).toArray } := hsb₁.extBut _ _ hDC (Heap.get?_push_of_some _ (hP2 ▸ Heap.get?_push_size _ rfl))
  have fpl : ∀ b ∈ fp, b < s2.heap.objs.size := fun b hb => by
    obtain ⟨o, e, _⟩ := T.obj _ _ st2 b hb
    exact Heap.lt_size e
  have tlt : ∀ b o, H2 b = some o → b < s2.heap.objs.size := fun b o e => I2.hok.lt e
  generalize hCg : P2.objs.size = C at hns₁ hsb₁ hDC hCle below ⊢
  generalize hDg : s2.heap.objs.size = D at hDC below hacc fpl tlt ⊢
  have hDle : D ≤ C := by rw [← hDg]; exact hCle
  have cls : ∀ y c, cl.lookup y = some c → X.env.cells.lookup y = some c := fun y c e => hcl.mem e
  have clt : ∀ y c, cl.lookup y = some c → c < D := fun y c e => by
    obtain ⟨v, q⟩ := I2.cell y c (cls y c e)
    rw [← hDg]; exact q.lt
  have sub : ∀ b ∈ frs X.stack, b < D := fun b hb => by
    rcases List.mem_cons.mp (I2.stkSub b hb) with e | hb
    · rw [e, ← hDg]; exact I2.lt
    · obtain ⟨_, o, ho, _⟩ := I2.ok.funs.mem hb
      rw [← hDg]; exact Nat.lt_of_lt_of_le (Heap.lt_size ho) I2.sz
  obtain ⟨YI, YE⟩ := hY C s2 H2 fp
  have Yok : (cxComp X scope cl (x :: ys) C s2 H2 fp).Ok := by
    refine ⟨I2.ok.mod, hkind, I2.ok.glob, I2.ok.blt, hCle, ?_, ?_, ?_, fun _ => I2.ok.hd hc, I2.ok.frames, .inl rfl, ?_, I2.bs, Nat.le_trans I2.ok.bsz I2.sz, ?_, ?_, I2.stack, I2.stkFree⟩
    · exact fun y z c e1 e2 => I2.ok.inj y z c (cls y c e1) (cls z c e2)
    · intro y hy
      have hm := lookup_relabel_inv (env := X.env) (names := scope.names) (x := y) hcell hy
      have q := List.all_eq_true.mp hall _ hm
      show ∃ c, cl.lookup y = some c
      exact Option.isSome_iff_exists.mp (by simpa using q)
    · intro y c hf _
      exact absurd hf (by show ¬ false = true; decide)
    · intro b hb
      refine ⟨(below b (fpl b hb)).1, fun y c e z => ?_⟩
      exact (f2 b hb).2.2.2.2.1 y c (cls y c e) z
    · intro b o e hb
      have hb : b ∈ fp := hb
      rcases (f2 b hb).2.2.2.1 with z | z
      · exact I2.ok.noex b o e z
      · exact absurd (Nat.lt_of_lt_of_le (Heap.lt_size e) (Nat.le_trans I2.ok.bsz z)) (Nat.lt_irrefl _)
    · intro b hb hf
      have hb : b ∈ fp := hb
      rcases List.mem_cons.mp (I2.stkSub b hf) with e | hf
      · exact (f2 b hb).2.1 e
      · exact (f2 b hb).2.2.1 hf
  -- the block's state at a turn's start
  have hvis : Loc (cxComp X scope cl (x :: ys) C s2 H2 fp).env.scope x := .inl (lookup_relabel_local hx)
  have start : ∀ tk, Inv (cxComp X scope cl (x :: ys) C s2 H2 fp) [] (none :: frees fr σ) H2 { s2 with heap := h₁, toks := tk } := fun tk => by
    refine ⟨Yok, rfl, I2.bare, Un.kept old, ⟨_, hns₁, fun i y v e1 e2 e3 => ?_⟩, fun y c e => ?_, ?_, fun y c e => ?_, fun p hp => absurd (show p ∈ ([] : List (Addr × Obj)) from hp) (by simp), I2.hok.kept old, ?_⟩
    · cases i with
      | zero => simp at e2
      | succ j =>
        obtain ⟨i', n1, n2, n3, n4, n5, c, n6⟩ := frees_get hfr j y v (by simpa [cxComp] using e1) (by simpa using e2)
        obtain ⟨m, hn, hl⟩ := I2.loc
        obtain ⟨u, r, l⟩ := hl i' y v n1 n2 n4
        refine ⟨u, r, .inr ⟨lookup_relabel_free n3, c, n6, ?_⟩⟩
        rcases l with ⟨k, _⟩ | ⟨k, c', e, z⟩
        · exact absurd k n5
        · rw [cls y c n6] at e
          cases e
          obtain ⟨o, ho, hd⟩ := z
          exact ⟨o, old _ _ ho, hd⟩
    · obtain ⟨v, o, ho, hd⟩ := I2.cell y c (cls y c e)
      exact ⟨v, o, old _ _ ho, hd⟩
    · show H2 C = none
      cases q : H2 C with
      | none => rfl
      | some o => exact absurd (tlt C o q) (Nat.not_lt.mpr hDle)
    · exact I2.freeC y c (cls y c e)
    · show (none :: frees fr σ).length = (x :: ys).length
      rw [List.length_cons, List.length_cons, frees_len hfr]
  have fpY : ∀ {pl : List (Addr × Obj)} {H' : Hp}, (∀ b ∈ fp, H' b = none) → (∀ p ∈ pl, p.1 = D) → ∀ b ∈ fp, FpOk (cxComp X scope cl (x :: ys) C s2 H2 fp) pl H' b := fun {pl H'} hn hpl b hb => by
    refine ⟨hn b hb, (below b (fpl b hb)).1, Yok.exfs b hb, .inl hb, fun y c e z => (f2 b hb).2.2.2.2.1 y c (cls y c e) z, fun p hp => ?_⟩
    have hp : p ∈ [] ++ pl := hp
    rw [List.nil_append] at hp
    rw [hpl p hp]
    exact (below b (fpl b hb)).2.symm
  have loop : ∀ s₃ : Shared, (∃ tk, s₃ = { s2 with heap := h₁, toks := tk }) →
      codeAny (model X.prog X.w) X.A (.compLoop (.ListComp elt [⟨.Name x px, iter, ifs, 0⟩] scope pos) 0 (.ref it) (.ref D) (compEnvC scope cl C X.env))
        (compPost (model X.prog X.w) X.A X.xe none (EP X pins σ Q) (.ref D) C) s₃ := by
    rintro s₃ ⟨tk, rfl⟩
    refine comp_loop
      (fun k s' => ∃ i vs ws nn H', Inv (cxComp X scope cl (x :: ys) C s2 H2 fp) [] (none :: frees fr σ) H' s' ∧ tn i s'.heap ∧ (∀ b ∈ fp, H' b = none) ∧ H' D = none ∧
        s'.heap.get? D = some { cls := .type "list", data := .seq (ws : List Value).toArray nn } ∧ Vals vs ws ∧ W i k vs H') ?_ m0
      ⟨0, [], [], 0, H2, start tk, T.keep _ _ _ st2 fun b _ o e => old b o e, fun b hb => (f2 b hb).1, ?_, hacc, .nil, w0⟩
    · rintro n s3 ⟨i, vs, ws, nn, H3, I3, st3, fr3, hD3, ho3, rv3, w3⟩
      have I3' : Inv (cxComp X scope cl (x :: ys) C s2 H2 fp) [(D, { cls := .type "list", data := .seq ws.toArray nn })] (none :: frees fr σ) H3 s3 := I3.pins_of fun p hp => by
        have e : p = (D, { cls := .type "list", data := .seq ws.toArray nn }) := by simpa using hp
        subst e
        refine ⟨ho3, hD3, hDC, fun z => absurd (sub D z) (Nat.lt_irrefl _), fun v z => ?_⟩
        have z' : Data.seq ws.toArray nn = Data.cell v := z
        cases z'
      have fp3 := fpY (pl := [(D, { cls := .type "list", data := .seq ws.toArray nn })]) fr3 (fun p hp => by rw [List.mem_singleton.mp hp])
      obtain ⟨hsz, alt⟩ := turn i n vs H3 w3
      rcases alt with ⟨stop, fin⟩ | ⟨go, step⟩
      · refine thn (T.done (cxComp X scope cl (x :: ys) C s2 H2 fp) rfl rfl rfl rfl i _ s3 _ H3 _ I3' fp3 st3 stop) fun r s4 ⟨hr, I4⟩ => ?_
        subst hr
        have pD := I4.pin (D, { cls := .type "list", data := .seq ws.toArray nn }) (by show _ ∈ [] ++ _; simp)
        obtain ⟨m4, hn4, _⟩ := I4.loc
        refine ⟨m4, hn4, fun h' hs' => ?_⟩
        have hC4 : H3 C = none := I4.free
        have hok' : HOk X.prog X.w (upd H3 D (.lst vs)) h' := by
          refine HOk.track (I4.hok.other hC4 hs') hD3 ⟨hsz, ws, nn, rv3, (hs'.2 D hDC).trans pD.1⟩
        have b4 := I4.base
        have un : Un (frs X.stack) fp H2 (upd H3 D (.lst vs)) s2.heap h' := by
          have lt : ∀ b o, s2.heap.get? b = some o → b < D := fun b o e => by rw [← hDg]; exact Heap.lt_size e
          refine ⟨fun b o e n hb hx => (hs'.2 b (below b (lt b o e)).1).trans (b4.keep b o e n hb hx), fun b o e n hb hx => ?_, fun b o e n hx => ?_, fun b o e hx => ?_, fun b zs e => ?_, fun b o u e => ?_, fun b ps e => ?_⟩
          · obtain ⟨sl, q⟩ := b4.slot b o e n hb hx
            exact ⟨sl, (hs'.2 b (below b (lt b o e)).1).trans q⟩
          · rw [upd_ne (below b (lt b o e)).2]; exact b4.free b o e n hx
          · obtain ⟨o', q⟩ := b4.there b o e hx
            exact ⟨o', (hs'.2 b (below b (lt b o e)).1).trans q⟩
          · rw [upd_ne (below b (tlt b _ e)).2]; exact b4.tups b zs e
          · rw [upd_ne (below b (tlt b _ e)).2]; exact b4.frzs b o u e
          · rw [upd_ne (below b (tlt b _ e)).2]; exact b4.tbls b ps e
        refine ⟨.ref D, upd H3 D (.lst vs), ?_, rfl, fin D hD3⟩
        exact I2.call' (s' := { s4 with heap := h' }) (ch := fp) I4.os un hok' I4.bare fun b hb => ⟨(f2 b hb).2.2.2.1, (f2 b hb).2.1, (f2 b hb).2.2.2.2.1, (f2 b hb).2.2.2.2.2⟩
      · refine thn (T.item (cxComp X scope cl (x :: ys) C s2 H2 fp) rfl rfl rfl rfl i _ s3 _ H3 _ I3' fp3 st3 go) fun r s4 ⟨u, hr, h4⟩ => ?_
        subst hr
        refine thn h4 fun _ s5 ⟨v, H5, I5, r5, y5, st5, fr5⟩ => ?_
        have fp5 := fpY (pl := [(D, { cls := .type "list", data := .seq ws.toArray nn })]) fr5 (fun p hp => by rw [List.mem_singleton.mp hp])
        have I5' := I5.pinned fp5 (T.obj _ _ st5)
        refine thn (pg_name (X := cxComp X scope cl (x :: ys) C s2 H2 fp) (i := 0) (pos := px) hnd rfl hvis (.inr (lookup_relabel_local hx)) _ s5 _ H5 v u (fun σ' H' => σ' = some v :: frees fr σ ∧ H' = H5) I5' r5 ⟨rfl, rfl⟩) fun _ s6 ⟨σ6, H6, I6, e6, e6'⟩ => ?_
        subst e6 e6'
        refine thn (YI _ s6 _ _ _ I6 (step v H6 y5)) fun b s7 ⟨H7, I7, q7⟩ => ?_
        -- what is kept through the turn
        have back : ∀ {H8 : Hp} {s8 : Shared}, Inv (cxComp X scope cl (x :: ys) C s2 H2 fp) ([(D, { cls := .type "list", data := .seq ws.toArray nn })] ++ pinsAt fp s5.heap) (some v :: frees fr σ) H8 s8 →
            s8.heap.get? D = some { cls := .type "list", data := .seq ws.toArray nn } ∧ H8 D = none ∧ (∀ b ∈ fp, H8 b = none) ∧ (∀ b ∈ fp, ∀ o, s5.heap.get? b = some o → s8.heap.get? b = some o) := fun {H8 s8} I8 => by
          have pD := I8.pin (D, { cls := .type "list", data := .seq ws.toArray nn }) (by show _ ∈ [] ++ _; simp)
          refine ⟨pD.1, pD.2.1, fun b hb => ?_, fun b hb o e => ?_⟩
          · obtain ⟨o, e, d⟩ := T.obj _ _ st5 b hb
            exact (I8.pin (b, o) (List.mem_append_right _ (List.mem_append_right _ (mem_pinsAt hb e)))).2.1
          · exact (I8.pin (b, o) (List.mem_append_right _ (List.mem_append_right _ (mem_pinsAt hb e)))).1
        have weak : ∀ {H8 : Hp} {s8 : Shared}, Inv (cxComp X scope cl (x :: ys) C s2 H2 fp) [] (some v :: frees fr σ) H8 s8 → Inv (cxComp X scope cl (x :: ys) C s2 H2 fp) [] (none :: frees fr σ) H8 s8 := fun {H8 s8} I8 =>
          I8.weak rfl fun i v' e => by
            cases i with
            | zero => simp at e
            | succ j => simpa using e
        have nopin : ∀ {H8 : Hp} {s8 : Shared} {pl : List (Addr × Obj)}, Inv (cxComp X scope cl (x :: ys) C s2 H2 fp) pl (some v :: frees fr σ) H8 s8 → Inv (cxComp X scope cl (x :: ys) C s2 H2 fp) [] (some v :: frees fr σ) H8 s8 := fun {H8 s8 pl} I8 =>
          I8.pins_of fun p hp => absurd hp (by simp)
        cases b with
        | false =>
          rw [if_neg Bool.false_ne_true] at q7 ⊢
          obtain ⟨m', hm, w7⟩ := q7
          obtain ⟨k1, k2, k3, k4⟩ := back I7
          exact ⟨m', hm, i + 1, vs, ws, nn, H7, weak (nopin I7), T.keep _ _ _ st5 k4, k3, k2, k1, rv3, w7⟩
        | true =>
          rw [if_pos rfl] at q7 ⊢
          refine thn (YE _ s7 _ _ _ I7 q7) fun u8 s8 ⟨y8, H8, I8, r8, m', hm, w8⟩ => ?_
          obtain ⟨k1, k2, k3, k4⟩ := back I8
          refine append_at (hsz := by rw [List.size_toArray, ← rv3.length]; exact hsz) k1 fun h9 hs9 ho9 => ?_
          have I9 : Inv (cxComp X scope cl (x :: ys) C s2 H2 fp) [] (some v :: frees fr σ) H8 { s8 with heap := h9 } :=
            (nopin I8).turned (t' := s8.toks) (it := D) (fun b o hb e => (hs9.2 b hb).trans e) k2 hDC (.inr (by rw [← hDg]; exact Nat.le_refl _)) (fun y c e => Nat.ne_of_lt (clt y c e)) fun p hp => absurd (show p ∈ ([] : List (Addr × Obj)) from hp) (by simp)
          refine ⟨m', hm, i + 1, vs ++ [y8], ws ++ [u8], nn + 1, H8, weak I9, ?_, k3, k2, ?_, rv3.append (.cons r8 .nil), w8⟩
          · refine T.keep _ _ _ st5 fun b hb o e => ?_
            exact (hs9.2 b (below b (fpl b hb)).2).trans (k4 b hb o e)
          · rw [ho9, List.push_toArray]
    · cases q : H2 D with
      | none => rfl
      | some o => exact absurd (tlt D o q) (Nat.lt_irrefl _)
  exact codeAny_compStart_list (loop _ ⟨_, rfl⟩) (T.self _ 0 _ _ _ (T.keep _ _ _ st2 fun b _ o e => old b o e) (loop _ ⟨_, rfl⟩))
end L2

set_option Elab.async false
set_option linter.all false
set_option maxRecDepth 100000
set_option maxHeartbeats 4000000
namespace L2
open PySem PySem.Spec PyProof.Rows

/-! ### a def that keeps a promise, by its name -/
def Have (P : Program) (w : World) (K : PySem.W.Frag) (mg : Str → Option Value) (base : Heap) (x : Str) (k : Nat) (ps : List Str) (sp : Sp) : Prop :=
  ∃ (f : Addr) (fd : FuncData), FnOk P w K mg base CX0 k f fd ps sp ∧ Binds K fd ps [] ∧ PySem.W.keepIn K (.ref f) = true ∧ mg x = some (.ref f)
theorem Have.mono {P : Program} {w : World} {K : PySem.W.Frag} {mg : Str → Option Value} {base : Heap} {x : Str} {j k : Nat} {ps : List Str} {sp : Sp} (h : Have P w K mg base x j ps sp) (e : j ≤ k) : Have P w K mg base x k ps sp :=
  let ⟨f, fd, F, r⟩ := h; ⟨f, fd, F.mono e, r⟩
section
variable {X : Cx} {x : Str} {k : Nat} {ps : List Str} {sp : Sp} {e : Expr} {es : List Expr} {t : TA} {p pos : Pos}
theorem pe_fn (G : Have X.prog X.w X.K X.mg X.base x k ps sp) (hr : Room k X.A) (hg : Gl X x) (ha : PA X (e :: es) t) (hdb : (x == ("__debug__" : Str)) = false := by decide)
    (he : starEach (e :: es) X.env = (false, eval e X.env) :: starEach es X.env := by rfl) (hpl : (backTo pos (starEach es X.env)).any (·.1) = false := by rfl) :
    PE X (.Call (.Name x p) (e :: es) [] pos) (tCall sp [] E0 t) := by
  obtain ⟨f, fd, F, b, kp, m⟩ := G
  exact pe_call F hr hg m kp b .nil pass0 ha hdb he hpl
end

section
variable {X : Cx}
/-- // by a positive divisor of some thousand bits -/
def CDivB (i j : Int) : Prop := 0 < j ∧ j.natAbs.log2 < 9000
theorem op_fdivB : OpR X (binaryOp .FloorDiv) (rI CDivB fun i j => .int (i / j)) := opI fun i j _ _ _ _ _ hc q => by
  have h1 : (0 : Int) < j := hc.1
  exact floordiv_int (by omega) (by rw [Int.fdiv_eq_ediv_of_nonneg i (by omega)]; exact q) (.inl (PyProof.noPylong_of_log2 hc.2))

/-! ### isinstance by a built-in class -/
def isiNames : List String := ["NoneType", "bool", "int", "str", "list", "tuple", "dict"]
def isi (A T : String) : Option Bool := if isiNames.contains A && isiNames.contains T then some (A == T || (A == "bool" && T == "int")) else none
theorem isi_mem {A : String} (h : isiNames.contains A = true) : A = "NoneType" ∨ A = "bool" ∨ A = "int" ∨ A = "str" ∨ A = "list" ∨ A = "tuple" ∨ A = "dict" := by
  have : A ∈ isiNames := by simpa using h
  simpa [isiNames] using this
theorem isi_ok {K : PySem.W.Frag} {A T : String} {b : Bool} (h : isi A T = some b) : PySem.W.kitOne K (.type A) (.type T) = some b := by
  unfold isi at h
  split at h
  · rename_i c
    rw [Bool.and_eq_true] at c
    cases h
    rcases isi_mem c.1 with rfl | rfl | rfl | rfl | rfl | rfl | rfl <;> rcases isi_mem c.2 with rfl | rfl | rfl | rfl | rfl | rfl | rfl <;> kernel_rfl
  · cases h
theorem call_isi : CallR X (.builtin "isinstance") (fun xs H Q => ∃ v T A b, xs = [v, .ty T] ∧ TyOf X.K H v (.type A) ∧ isi A T = some b ∧ Q (.bl b) H) := by
  intro pins s σ H xs us Q I r h
  obtain ⟨v, T, A, b, rfl, ty, e, q⟩ := h
  obtain ⟨u, c, rfl, ru, rc⟩ := vals2 r
  cases (show c = Value.type T from rc)
  exact isinst_ok I ru ty (isi_ok e) fun tk => ⟨.bl b, H, I.tok tk, rfl, q⟩

/-! ### sum, all, max of a list -/
theorem truth_bools {A : Around} {P : Program} {w : World} {xs : List Bool} {its : List Value} (r : Vals (xs.map V.bl) its) : TruthOf P w A (fun i v => its.toArray[i]? = some v) (fun i => xs.getD i true) := by
  intro i v s Q E hv h
  have hv' : its[i]? = some v := by simpa using hv
  have hl := r.length
  rw [List.length_map] at hl
  have hi : i < xs.length := by rw [hl]; exact (List.getElem?_eq_some_iff.mp hv').1
  obtain ⟨u, hu, ru⟩ := r.get (i := i) (x := V.bl xs[i]) (by rw [List.getElem?_map, List.getElem?_eq_getElem hi]; rfl)
  rw [hv'] at hu
  cases hu
  cases ru
  refine wpAny_truthy_bool ?_
  have e : xs.getD i true = xs[i] := by rw [List.getD_eq_getElem?_getD, List.getElem?_eq_getElem hi]; rfl
  have h : Q (xs.getD i true) s := h
  rw [e] at h
  exact h
theorem all_range (xs : List Bool) : (List.range xs.length).all (fun i => xs.getD i true) = xs.all id := by
  rw [Bool.eq_iff_iff, List.all_eq_true, List.all_eq_true]
  constructor
  · intro h x hx
    obtain ⟨i, hi, rfl⟩ := List.mem_iff_getElem.mp hx
    have := h i (List.mem_range.mpr hi)
    rw [List.getD_eq_getElem?_getD, List.getElem?_eq_getElem hi] at this
    exact this
  · intro h i hi
    have hi := List.mem_range.mp hi
    rw [List.getD_eq_getElem?_getD, List.getElem?_eq_getElem hi]
    exact h _ (List.getElem_mem hi)
theorem call_all_bools (hc : X.calm = true) : CallR X (.builtin "all") (fun xs H Q => ∃ (p : Addr) (bs : List Bool), xs = [.ref p] ∧ SqL X.K H p (bs.map V.bl) ∧ Q (.bl (bs.all id)) H) := by
  intro pins s σ H xs us Q I r h
  obtain ⟨p, bs, rfl, hq, q⟩ := h
  obtain ⟨u, rfl, rx⟩ := vals1 r
  cases rx
  obtain ⟨its, r', pl, hz⟩ := I.list hq
  have hl := pl.isList
  obtain ⟨o, ho, _⟩ := id hl
  have hlt := Heap.lt_size ho
  refine call_all_walk (wpAny_pyIter_list hl ?_)
  refine ⟨_, _, _, _, _, _, fun i => bs.getD i true, rfl, Walks.list (A := X.A.in1) (I.ok.hd hc) s.heap.objs.size p (Nat.ne_of_lt hlt) its.toArray, ⟨⟨_, Heap.get?_push_size _ rfl, rfl, rfl⟩, hl.push _⟩, truth_bools r', fun h' tk hk => ?_⟩
  have e : (List.range its.toArray.size).all (fun i => bs.getD i true) = bs.all id := by
    have hl2 := r'.length
    rw [List.length_map] at hl2
    rw [List.size_toArray, ← hl2]
    exact all_range bs
  rw [e]
  refine ⟨.bl (bs.all id), H, I.kept (h' := h') (t' := tk) fun b o e => ?_, rfl, q⟩
  exact hk b o (fun hm => absurd (Heap.lt_size e) (by rw [List.mem_singleton.mp hm]; exact Nat.lt_irrefl _)) (Heap.get?_push_of_some _ e)

/-! ### str of a text -/
end

/-! ### max(xs, default=d) -/
def maxL : Int → List Int → Int
  | b, [] => b
  | b, y :: r => maxL (if y > b then y else b) r
def maxD (d : Int) : List Int → Int
  | [] => d
  | x :: r => maxL x r
section
variable {prog : Program} {w : World} {A : Around} {R : Result → Shared → Prop} {I l : Addr} {vs : List Value} {ns : List Int} {d : Value}
end

def tMaxD (d : Int) (K : PySem.W.Frag) (te : TE) : TE := fun σ H Q => te σ H fun x H1 => ∃ (p : Addr) (ns : List Int), x = .ref p ∧ SqL K H1 p (ns.map V.int) ∧ Q (.int (maxD d ns)) H1
end L2

set_option Elab.async false
set_option linter.all false
set_option maxRecDepth 100000
set_option maxHeartbeats 4000000
namespace L2
open PySem PySem.Spec PyProof.Rows
/-! ### the signs of a text, walked -/
def Its (z : Str) : It := ⟨fun i _ => i < z.cps.size, fun i H x H' => H' = H ∧ ∃ c, z.cps[i]? = some c ∧ x = .str ⟨#[c]⟩, fun i _ => i = z.cps.size⟩
theorem turn_str {P : Program} {w : World} {K : PySem.W.Frag} {tg : Expr} {it : Addr} {T : String} {z : Str} {t : Tok}
    (W : ∀ A : Around, A.handled = none → Walks P w A it [it] [it] z.cps.size (SignAt z) (fun i h => h.IsStrIter it T z t i))
    (hT : ["enumerate", "zip", "dict_itemiterator", "dict_reverseitemiterator", "odict_iterator", "itertools.zip_longest", "itertools.pairwise"].contains T = false)
    (self : ∀ (A : Around) (i : Nat) (s : Shared) (Q : Value → Shared → Prop) (E : Value → Shared → Prop), s.heap.IsStrIter it T z t i → Q (.ref it) s → wpAny (model P w) A (pyIter (.ref it)) Q E s) :
    Turn P w K tg (Its z) [it] it (fun i h => h.IsStrIter it T z t i) where
  mem := by simp
  obj := fun i h st b hb => by
    have e : b = it := by simpa using hb
    subst e
    obtain ⟨o, e, c, d⟩ := st
    exact ⟨o, e, fun v z => by rw [d] at z; cases z⟩
  keep := fun i h h' st k => by
    obtain ⟨o, e, c⟩ := st
    exact ⟨o, k it (by simp) o e, c⟩
  item := by
    intro X hP hw hK hc i pins s σ H E I hf st hg
    subst hP hw hK
    obtain ⟨f0, f1, f2, f3, f4, f5⟩ := hf it (by simp)
    refine (W X.A (I.ok.hd hc)).item i s _ _ hg st fun v h' tk hP st' kk => ?_
    obtain ⟨c, u, hcu, rfl⟩ := hP
    have I1 : Inv X pins σ H { s with heap := h', toks := tk } := I.turned (fun b o hb e => kk b o (by simpa using hb) e) f0 f1 f3 f4 f5
    obtain ⟨o, e, cc, d⟩ := id st'
    exact ⟨_, rfl, go_of (s := { s with heap := h', toks := tk }) e cc d hT ⟨.str ⟨#[c]⟩, H, I1, ⟨u, rfl⟩, ⟨rfl, c, hcu, rfl⟩, st', fun b hb => (hf b hb).1⟩⟩
  done := by
    intro X hP hw hK hc i pins s σ H E I hf st hg
    subst hP hw hK
    obtain ⟨f0, f1, f2, f3, f4, f5⟩ := hf it (by simp)
    have hg : i = z.cps.size := hg
    subst hg
    exact (W X.A (I.ok.hd hc)).done s _ _ st fun h' tk kk => ⟨rfl, I.turned (fun b o hb e => kk b o (by simpa using hb) e) f0 f1 f3 f4 f5⟩
  self := fun A i s Q E st h => self A i s Q E st h
def iStr (te : TE) : TI := fun σ H R => te σ H fun x H1 => ∃ z, x = .str z ∧ R (Its z) H1
theorem pi_str {X : Cx} {tg e : Expr} {te : TE} (he : PE X e te) : PI X tg e (iStr te) := by
  intro pins s σ H R I h
  refine thn (he pins s σ H _ I h) fun v s1 ⟨x, H1, I1, r1, q1⟩ => ?_
  obtain ⟨z, rfl, q⟩ := q1
  obtain ⟨t, rfl⟩ := r1
  have fin : ∀ (T : String), (∀ A : Around, A.handled = none → Walks X.prog X.w A s1.heap.objs.size [s1.heap.objs.size] [s1.heap.objs.size] z.cps.size (SignAt z) (fun i h => h.IsStrIter s1.heap.objs.size T z t i)) →
      ["enumerate", "zip", "dict_itemiterator", "dict_reverseitemiterator", "odict_iterator", "itertools.zip_longest", "itertools.pairwise"].contains T = false →
      (∀ (A : Around) (i : Nat) (s : Shared) (Q : Value → Shared → Prop) (E : Value → Shared → Prop), s.heap.IsStrIter s1.heap.objs.size T z t i → Q (.ref s1.heap.objs.size) s → wpAny (model X.prog X.w) A (pyIter (.ref s1.heap.objs.size)) Q E s) →
      PIE X pins σ tg R (.ref s1.heap.objs.size) { s1 with heap := s1.heap.push { cls := .type T, data := .fields #[.str z t, .int 0 0] } } := fun T W hT self => by
    refine ⟨s1.heap.objs.size, [s1.heap.objs.size], _, _, H1, rfl, I1.kept (t' := s1.toks) fun b o e => Heap.get?_push_of_some _ e, turn_str W hT self, ⟨_, Heap.get?_push_size _ rfl, rfl, rfl⟩, fun b hb => ?_, q⟩
    have e : b = s1.heap.objs.size := by simpa using hb
    subst e
    exact I1.fpOk (Nat.le_refl _) (I1.hok.fresh (Nat.le_refl _))
  cases ha : z.cps.all (· < 128)
  · exact wpAny_pyIter_wide ha (fin "str_iterator" (fun A hA => Walks.strWide hA _ z t) (by decide) fun A i s Q E st h => wpAny_pyIter_striter_wide st h)
  · exact wpAny_pyIter_ascii ha (fin "str_ascii_iterator" (fun A hA => Walks.strAscii hA _ z t) (by decide) fun A i s Q E st h => wpAny_pyIter_striter_ascii st h)
theorem op_le_str {X : Cx} : OpR X (compareOp .LtE) (fun x y H Q => ∃ i j : Str, x = .str i ∧ y = .str j ∧ Q (.bl (!decide (j.cps.toList < i.cps.toList))) H) := by
  intro pins s σ H x y v u Q I rx ry h
  obtain ⟨i, j, rfl, rfl, q⟩ := h
  obtain ⟨t, rfl⟩ := rx
  obtain ⟨t', rfl⟩ := ry
  exact PySem.P.le_str ⟨.bl _, H, I, rfl, q⟩
/-- a module's int -/
theorem pe_globI {X : Cx} {x : Str} {i : Int} {pos : Pos} (hg : Gl X x) (hm : ∃ t, X.mg x = some (.int i t)) (hd : (x == ("__debug__" : Str)) = false := by decide) : PE X (.Name x pos) (tC (.int i)) := by
  obtain ⟨t, hm⟩ := hm
  exact pe_glob hg hm ⟨t, rfl⟩ hd
/-- x += y on ints -/
theorem ip_of {X : Cx} {op : Operator} {r : R2} (h : OpR X (inplaceOp op) r) : PIp X op r := fun pins s σ H x y v u Q I rx ry q => h pins s σ H x y v u Q I rx ry q
theorem pe_ty {X : Cx} {x : Str} {T : String} {pos : Pos} (hg : Gl X x) (hm : X.mg x = none) (hv : bootBuiltins x = some (.type T)) (hn : x ≠ "__name__" := by decide) (hd : (x == ("__debug__" : Str)) = false := by decide) : PE X (.Name x pos) (tC (.ty T)) := pe_bltn hg hm hv rfl hn hd
theorem Same.new {H : Hp} {p : Addr} {o : HO} (h : H p = none) : Same H (upd H p o) := fun b u q => by rw [upd_ne (ne_of_none q h)]; exact q
theorem Same.seqT {K : PySem.W.Frag} {H H' : Hp} {a : Addr} {xs : List V} (e : Same H H') (h : SqT K H a xs) : SqT K H' a xs := by
  rcases h with (h | ⟨o, h⟩) | h
  · exact .inl (.inl (e _ _ h))
  · exact .inl (.inr ⟨o, e _ _ h⟩)
  · exact .inr h
theorem take_snoc {α : Type} {xs : List α} {i : Nat} {x : α} (h : xs[i]? = some x) : xs.take (i + 1) = xs.take i ++ [x] := by
  rw [List.take_add_one, h]; rfl
/-- a comprehension without tests over a text -/
theorem rd_mapS {fr : List Nat} {j : Nat} {te : TE} {σ : St} {H : Hp} {Q : VK} {z : Str} (outs : List V) (hσ : σ[j]? = some (some (.str z))) (hl : outs.length = z.cps.size) (hz : z.cps.size ≤ sizeLine)
    (step : ∀ (i c : Nat) (y : V) (H1 : Hp) (R : VK), z.cps[i]? = some c → outs[i]? = some y → Same H H1 → (∀ H2, Same H1 H2 → R y H2) → te (some (.str ⟨#[c]⟩) :: frees fr σ) H1 R)
    (fin : ∀ (H1 : Hp) (D : Addr), Same H H1 → H1 D = none → Q (.ref D) (upd H1 D (.lst outs))) : tLComp fr (iStr (tVar j)) (fun _ H Q => Q true H) te σ H Q := by
  refine ⟨_, hσ, z, rfl, fun i m us H1 => i ≤ z.cps.size ∧ m = z.cps.size - i ∧ us = outs.take i ∧ Same H H1, ⟨_, Nat.zero_le _, rfl, by simp, Same.refl _⟩, fun i m us H1 hW => ?_⟩
  obtain ⟨hi, hm, hu, sm⟩ := hW
  refine ⟨by rw [hu, List.length_take]; omega, ?_⟩
  by_cases hlt : i < z.cps.size
  · refine .inr ⟨hlt, fun v H' hy => ?_⟩
    obtain ⟨rfl, c, hc, rfl⟩ := hy
    have hy : outs[i]? = some outs[i] := List.getElem?_eq_getElem (by omega)
    refine iteT ?_
    refine step i c outs[i] H' _ hc hy sm fun H2 s2 => ⟨z.cps.size - (i + 1), by omega, by omega, rfl, ?_, sm.trans s2⟩
    rw [hu, take_snoc hy]
  · have e : i = z.cps.size := by omega
    refine .inl ⟨e, fun D hD => ?_⟩
    have e2 : us = outs := by rw [hu, List.take_of_length_le (by omega)]
    rw [e2]
    exact fin H1 D sm hD
theorem rd_mapT {K : PySem.W.Frag} {fr : List Nat} {j : Nat} {te : TE} {σ : St} {H : Hp} {Q : VK} {a : Addr} {vs : List V} (outs : List V) (hσ : σ[j]? = some (some (.ref a))) (hS : SqT K H a vs) (hl : outs.length = vs.length) (hz : vs.length ≤ sizeLine)
    (step : ∀ (i : Nat) (v y : V) (H1 : Hp) (R : VK), vs[i]? = some v → outs[i]? = some y → Same H H1 → (∀ H2, Same H1 H2 → R y H2) → te (some v :: frees fr σ) H1 R)
    (fin : ∀ (H1 : Hp) (D : Addr), Same H H1 → H1 D = none → Q (.ref D) (upd H1 D (.lst outs))) : tLComp fr (iTup K (tVar j)) (fun _ H Q => Q true H) te σ H Q := by
  refine ⟨_, hσ, a, rfl, ⟨vs, hS⟩, fun i m us H1 => i ≤ vs.length ∧ m = vs.length - i ∧ us = outs.take i ∧ Same H H1, ⟨_, Nat.zero_le _, rfl, by simp, Same.refl _⟩, fun i m us H1 hW => ?_⟩
  obtain ⟨hi, hm, hu, sm⟩ := hW
  refine ⟨by rw [hu, List.length_take]; omega, ?_⟩
  by_cases hlt : i < vs.length
  · refine .inr ⟨⟨vs, vs[i], sm.seqT hS, List.getElem?_eq_getElem hlt⟩, fun v H' hy => ?_⟩
    obtain ⟨rfl, hv⟩ := hy
    have hv := hv vs (sm.seqT hS)
    have hy : outs[i]? = some outs[i] := List.getElem?_eq_getElem (by omega)
    refine iteT ?_
    refine step i v outs[i] H' _ hv hy sm fun H2 s2 => ⟨vs.length - (i + 1), by omega, by omega, rfl, ?_, sm.trans s2⟩
    rw [hu, take_snoc hy]
  · have e : i = vs.length := by omega
    refine .inl ⟨⟨vs, sm.seqT hS, by omega⟩, fun D hD => ?_⟩
    have e2 : us = outs := by rw [hu, List.take_of_length_le (by omega)]
    rw [e2]
    exact fin H1 D sm hD
theorem isi_tt : isi "tuple" "tuple" = some true := by decide +kernel
theorem isi_it : isi "int" "tuple" = some false := by decide +kernel
theorem isi_st : isi "str" "tuple" = some false := by decide +kernel
theorem isi_bt : isi "bool" "tuple" = some false := by decide +kernel
theorem isi_nt : isi "NoneType" "tuple" = some false := by decide +kernel
theorem isi_lt : isi "list" "tuple" = some false := by decide +kernel
theorem isi_dt : isi "dict" "tuple" = some false := by decide +kernel
theorem isi_ts : isi "tuple" "str" = some false := by decide +kernel
theorem isi_is : isi "int" "str" = some false := by decide +kernel
theorem isi_ss : isi "str" "str" = some true := by decide +kernel
theorem isi_bs : isi "bool" "str" = some false := by decide +kernel
theorem isi_ns : isi "NoneType" "str" = some false := by decide +kernel
theorem isi_ls : isi "list" "str" = some false := by decide +kernel
theorem isi_ds : isi "dict" "str" = some false := by decide +kernel
theorem isi_ti : isi "tuple" "int" = some false := by decide +kernel
theorem isi_ii : isi "int" "int" = some true := by decide +kernel
theorem isi_si : isi "str" "int" = some false := by decide +kernel
theorem isi_bi : isi "bool" "int" = some true := by decide +kernel
theorem isi_ni : isi "NoneType" "int" = some false := by decide +kernel
theorem isi_li : isi "list" "int" = some false := by decide +kernel
theorem isi_di : isi "dict" "int" = some false := by decide +kernel
theorem isi_ib : isi "int" "bool" = some false := by decide +kernel
theorem isi_bb : isi "bool" "bool" = some true := by decide +kernel
theorem boot_tupleT : bootBuiltins (Str.ofString "tuple") = some (.type "tuple") := by kernel_rfl
theorem boot_strT : bootBuiltins (Str.ofString "str") = some (.type "str") := by kernel_rfl
theorem boot_intT : bootBuiltins (Str.ofString "int") = some (.type "int") := by kernel_rfl
theorem boot_boolT : bootBuiltins (Str.ofString "bool") = some (.type "bool") := by kernel_rfl
theorem boot_isi : bootBuiltins (Str.ofString "isinstance") = some (.builtin "isinstance") := by kernel_rfl
theorem boot_ordB : bootBuiltins (Str.ofString "ord") = some (.builtin "ord") := by kernel_rfl
theorem boot_absB : bootBuiltins (Str.ofString "abs") = some (.builtin "abs") := by kernel_rfl
theorem boot_allB : bootBuiltins (Str.ofString "all") = some (.builtin "all") := by kernel_rfl
end L2

set_option Elab.async false
set_option linter.all false
set_option maxRecDepth 100000
namespace D
open PySem L2
def top (i : Nat) : Stmt := PySem.Challenge.pw_leastforge_k05_texts_that_write_none.main.body.getD i (.Pass ⟨0, 0, 0, 0⟩)
abbrev s_word_end : Stmt := top 13
abbrev s_text_end : Stmt := top 14
abbrev s_pieces_of : Stmt := top 15
abbrev s_trees_of : Stmt := top 16
abbrev s_only_tree : Stmt := top 17
abbrev s_is_number : Stmt := top 24
abbrev s_is_sign : Stmt := top 25
abbrev s_fits_alone : Stmt := top 26
abbrev sSizeA : Stmt := top 27
abbrev s_is_worth : Stmt := top 28
abbrev s_show_worth : Stmt := top 32
abbrev s_writes_number : Stmt := top 33
abbrev s_number_of : Stmt := top 34
abbrev s_worth_of_tree : Stmt := top 35
abbrev s_read_worth : Stmt := top 36
abbrev sCell : Stmt := top 38
abbrev sBox : Stmt := top 39
abbrev sTake : Stmt := top 40
abbrev sText : Stmt := top 41
abbrev sNumber : Stmt := top 42
abbrev sWorth : Stmt := top 43
abbrev s_lalike : Stmt := top 44
abbrev s_lbad : Stmt := top 45
abbrev s_lspoilt : Stmt := top 46
abbrev s_lparted : Stmt := top 47
abbrev s_lfigures : Stmt := top 48
abbrev s_ldue : Stmt := top 49
abbrev s_lread : Stmt := top 50
abbrev sLaw : Stmt := top 51
end D

set_option Elab.async false
set_option linter.all false
set_option maxRecDepth 100000
set_option maxHeartbeats 4000000
namespace L2
open PySem PySem.Spec PyProof.Rows
theorem seqI {t u : TS} {D : Ends} {σ : St} {H : Hp} (Pv : St → Hp → Prop) (h2 : ∀ σ' H', Pv σ' H' → u D σ' H') (h1 : (∀ σ' H', Pv σ' H' → u D σ' H') → t { D with nx := u D } σ H) : tSeq t u D σ H := h1 h2
theorem pos (n : Nat) : (0 : Int) < (((n + 1 : Nat) : Int)) := by omega
end L2
namespace D
open PySem L2
/-! ### promises -/
def IsBox (H : Hp) (b : Addr) : Prop := ∃ a f m : Int, H b = some (.lst [.int a, .int f, .int m])
structure Step (b : Addr) (H H' : Hp) : Prop where
  box : IsBox H' b
  keep : ∀ c o, c ≠ b → H c = some o → H' c = some o
theorem Step.refl {b : Addr} {H : Hp} (h : IsBox H b) : Step b H H := ⟨h, fun _ _ _ e => e⟩
theorem Step.trans {b : Addr} {H H1 H2 : Hp} (x : Step b H H1) (y : Step b H1 H2) : Step b H H2 := ⟨y.box, fun c o hc e => y.keep c o hc (x.keep c o hc e)⟩
theorem Step.new {b p : Addr} {H : Hp} {o : HO} (h : IsBox H b) (hp : H p = none) : Step b H (upd H p o) := by
  obtain ⟨a, f, m, e⟩ := h
  exact ⟨⟨a, f, m, by rw [upd_ne (ne_of_none e hp)]; exact e⟩, fun c u _ e => by rw [upd_ne (ne_of_none e hp)]; exact e⟩
theorem Step.put {b : Addr} {H : Hp} (a f m : Int) : Step b H (upd H b (.lst [.int a, .int f, .int m])) := ⟨⟨a, f, m, upd_same⟩, fun c o hc e => by rw [upd_ne hc]; exact e⟩
theorem Step.keepN {b : Addr} {H H' : Hp} (x : Step b H H') {c : Addr} {o : HO} (hb : IsBox H b) (e : H c = some o) (ho : ∀ a f m : Int, o ≠ .lst [.int a, .int f, .int m]) : H' c = some o := by
  obtain ⟨a, f, m, e'⟩ := hb
  exact x.keep c o (ne_of e e' (ho a f m)) e
def spCell (K : PySem.W.Frag) : Sp := fun vs H Q _ => ∃ (a : Addr) (ns : List Int) (k : Int), vs = [.ref a, .int k] ∧ SqL K H a (ns.map V.int) ∧ 0 ≤ k ∧ ∀ i : Int, Q (.int i) H
def spBox (K : PySem.W.Frag) : Sp := fun vs H Q _ => ∃ (a : Addr) (ns : List Int) (k : Int), vs = [.ref a, .int k] ∧ SqL K H a (ns.map V.int) ∧ 0 ≤ k ∧ ∀ (x f m : Int) (p : Addr), H p = none → Q (.ref p) (upd H p (.lst [.int x, .int f, .int m]))
def spTake : Sp := fun vs H Q _ => ∃ (b : Addr) (n : Int), vs = [.ref b, .int n] ∧ IsBox H b ∧ 0 < n ∧ n < 10 ^ 61 ∧ ∀ (r : Int) (H' : Hp), 0 ≤ r → r < n → Step b H H' → Q (.int r) H'
def Signs (x : Str) : Prop := ∀ c ∈ x.cps.toList, 32 ≤ c ∧ c ≤ 126 ∧ c ≠ 34 ∧ c ≠ 37
def spText : Sp := fun vs H Q _ => ∃ (b : Addr) (n : Int), vs = [.ref b, .int n] ∧ IsBox H b ∧ 0 ≤ n ∧ n < 10000 ∧ ∀ (x : Str) (H' : Hp), (x.length : Int) ≤ n → Signs x → Step b H H' → Q (.str x) H'
def spNumber : Sp := fun vs H Q _ => ∃ b : Addr, vs = [.ref b] ∧ IsBox H b ∧ ∀ (i : Int) (H' : Hp), -(10 ^ 60) < i → i < 10 ^ 60 → Step b H H' → Q (.int i) H'
section
variable {P : Program} {w : World} {K : PySem.W.Frag} {mg : Str → Option Value} {base : Heap} {f : Addr} {fd : FuncData} {k : Nat}
theorem scCell : FnScope ["_law_script", "_law_k"] ["_law_script", "_law_k"] (defScope sCell) := ⟨rfl, rfl, rfl, by decide +kernel, rfl, by decide +kernel, by decide +kernel⟩
theorem ok_cell (F : Fun K "_law_cell" "_law_cell" sCell f fd) (m_len : mg "len" = none) : FnOk P w K mg base CX0 (k + 1) f fd ["_law_script", "_law_k"] (spCell K) := by
  refine F.ok scCell (fun vs H Q E h => ?_) (fun cdv A outer s H vs Q E hr h => ?_)
  · obtain ⟨a, ns, k, rfl, _⟩ := h
    rfl
  obtain ⟨a, ns, j, rfl, hS, h0, q⟩ := h
  refine ⟨_, (pss_cons (ps_if (pt_cmpR op_lt (pv 1) (pe_callB call_len rfl m_len PySem.boot_len (pa_cons (pv 0) pa_nil)) (nomark _)) (pss_one (ps_ret (pe_ix ix_list (pv 0) (pv 1) (fun _ _ => rfl)))) pss_nil)
    (pss_one (ps_ret (pe_op op_add (pe_op op_mul pe_int (pv 1)) pe_int)))), ?_⟩
  refine ⟨_, rfl, _, rfl, _, _, rfl, .inl ⟨_, hS, rfl⟩, _, _, rfl, rfl, _, rfl, ?_⟩
  refine ite2 (fun c => ?_) (fun c => ?_)
  · have c' : j < (((ns.map V.int).length : Nat) : Int) := of_decide_eq_true c
    rw [List.length_map] at c'
    have hj : j.toNat < ns.length := by omega
    have ej : j = ((j.toNat : Nat) : Int) := by omega
    have at1 : atI (ns.map V.int) ((j.toNat : Nat) : Int) = some (.int ns[j.toNat]) := atI_nat (by rw [List.getElem?_map, List.getElem?_eq_getElem hj]; rfl)
    rw [← ej] at at1
    exact ⟨_, rfl, _, rfl, a, _, j, .int ns[j.toNat], rfl, rfl, hS, at1, q _⟩
  · exact ⟨_, rfl, _, _, rfl, rfl, .inl ⟨by decide, by decide⟩, _, _, rfl, rfl, q _⟩
theorem scBox : FnScope ["_law_script", "_law_k", "_law_cell_here", "_law_number_here", "_law_mixed"] ["_law_script", "_law_k"] (defScope sBox) := ⟨rfl, rfl, rfl, by decide +kernel, rfl, by decide +kernel, by decide +kernel⟩
theorem ok_box (F : Fun K "_law_box" "_law_box" sBox f fd) (G_lcell : Have P w K mg base "_law_cell" k ["_law_script", "_law_k"] (spCell K)) : FnOk P w K mg base CX0 (k + 1) f fd ["_law_script", "_law_k"] (spBox K) := by
  refine F.ok scBox (fun vs H Q E h => ?_) (fun cdv A outer s H vs Q E hr h => ?_)
  · obtain ⟨a, ns, k, rfl, _⟩ := h
    rfl
  obtain ⟨a, ns, j, rfl, hS, h0, q⟩ := h
  refine ⟨_, (pss_cons (ps_set (i := 2) scBox.nd rfl (Or.inl rfl) (pe_fn G_lcell hr rfl (pa_cons (pv 0) (pa_cons (pv 1) pa_nil))))
    (pss_cons (ps_set (i := 3) scBox.nd rfl (Or.inl rfl) (pe_op op_mod (pe_op op_mul (pe_op op_add (pe_op op_mod (pv 2) pe_int) pe_int) pe_int) pe_int))
    (pss_cons (ps_set (i := 4) scBox.nd rfl (Or.inl rfl) (pe_op op_mod (pe_op op_add (pe_op op_mul (pv 3) (pe_op op_add (pe_op op_mod (pv 3) pe_int) pe_int)) (pe_op op_mul pe_int (pv 1))) pe_int))
    (pss_cons (ps_if (pt_cmpR op_eq (pe_op op_mod (pe_fn G_lcell hr rfl (pa_cons (pv 0) (pa_cons pe_int pa_nil))) pe_int) pe_int (nomark _)) (pss_one (ps_ret (pe_lst (pa_cons (pv 2) (pa_cons pe_int (pa_cons (pv 4) pa_nil)))))) pss_nil)
    (pss_one (ps_ret (pe_lst (pa_cons (pv 4) (pa_cons pe_int (pa_cons pe_int pa_nil)))))))))), ?_⟩
  refine ⟨_, rfl, _, rfl, a, ns, j, rfl, hS, h0, fun c => ?_⟩
  refine ⟨_, rfl, _, _, rfl, rfl, pos _, _, _, rfl, rfl, _, _, rfl, rfl, .inr ⟨by decide, by decide⟩, _, _, rfl, rfl, pos _, ?_⟩
  have b1 : 0 ≤ (c % 2147483629 + 11) * 69621 % 2147483629 := Int.emod_nonneg _ (by decide)
  have b2 : (c % 2147483629 + 11) * 69621 % 2147483629 < 2147483629 := Int.emod_lt_of_pos _ (by decide)
  refine ⟨_, rfl, _, rfl, _, _, rfl, rfl, pos _, _, _, rfl, rfl, _, _, rfl, rfl, .inl ⟨by omega, by omega⟩, _, rfl, _, _, rfl, rfl, .inl ⟨by decide, by decide⟩, _, _, rfl, rfl, _, _, rfl, rfl, pos _, ?_⟩
  refine ⟨_, rfl, a, ns, 0, rfl, hS, Int.le_refl 0, fun c0 => ?_⟩
  refine ⟨_, _, rfl, rfl, pos _, rfl, _, rfl, ?_⟩
  refine ite2 (fun e => ?_) (fun e => ?_)
  · exact ⟨_, rfl, _, rfl, (by show 3 ≤ sizeLine; decide), fun p hp => q _ _ _ p hp⟩
  · exact ⟨_, rfl, (by show 3 ≤ sizeLine; decide), fun p hp => q _ _ _ p hp⟩
theorem scTake : FnScope ["_law_box_here", "_law_wide", "_law_found"] ["_law_box_here", "_law_wide"] (defScope sTake) := ⟨rfl, rfl, rfl, by decide +kernel, rfl, by decide +kernel, by decide +kernel⟩
theorem log_lt {n : Int} (h0 : 0 < n) (h : n < 10 ^ 61) : n.natAbs.log2 < 9000 := by
  have h1 : n.natAbs < 2 ^ 210 := by
    have : (10 : Int) ^ 61 ≤ 2 ^ 210 := by decide
    omega
  have := (Nat.log2_lt (by omega)).mpr h1
  omega
theorem ok_take (F : Fun K "_law_take" "_law_take" sTake f fd) : FnOk P w K mg base CX0 (k + 1) f fd ["_law_box_here", "_law_wide"] spTake := by
  refine F.ok scTake (fun vs H Q E h => ?_) (fun cdv A outer s H vs Q E hr h => ?_)
  · obtain ⟨b, n, rfl, _⟩ := h
    rfl
  obtain ⟨b, n, rfl, ⟨a0, f0, m, hb⟩, hn, hn2, q⟩ := h
  refine ⟨_, (pss_cons (ps_if (pw_and (pt_cmpR op_eq (pe_ix ix_list (pv 0) pe_int (fun _ _ => rfl)) pe_int (nomark _)) (pw_and1 (pt_cmpR op_in_seq (pe_ix ix_list (pv 0) pe_int (fun _ _ => rfl)) (pe_tup (pa_cons pe_int (pa_cons (pe_un un_neg pe_int) pa_nil))) (by rfl)))).pt (pss_cons (ps_asg (pe_ix ix_list (pv 0) pe_int (fun _ _ => rfl)) (pg_sub (pv 0) pe_int set_list))
    (pss_one (ps_asg pe_int (pg_sub (pv 0) pe_int set_list)))) pss_nil)
    (pss_cons (ps_if (pt_cmpR op_eq (pe_ix ix_list (pv 0) pe_int (fun _ _ => rfl)) pe_int (nomark _)) (pss_cons (ps_set (i := 2) scTake.nd rfl (Or.inl rfl) (pe_op op_mod (pe_ix ix_list (pv 0) pe_int (fun _ _ => rfl)) (pv 1)))
    (pss_cons (ps_asg (pe_op op_fdivB (pe_ix ix_list (pv 0) pe_int (fun _ _ => rfl)) (pv 1)) (pg_sub (pv 0) pe_int set_list))
    (pss_one (ps_ret (pv 2))))) pss_nil)
    (pss_cons (ps_asg (pe_op op_mod (pe_op op_add (pe_op op_mul (pe_ix ix_list (pv 0) pe_int (fun _ _ => rfl)) pe_int) pe_int) pe_int) (pg_sub (pv 0) pe_int set_list))
    (pss_cons (ps_set (i := 2) scTake.nd rfl (Or.inl rfl) (pe_op op_mod (pe_op op_mul (pe_ix ix_list (pv 0) pe_int (fun _ _ => rfl)) (pe_op op_add (pe_op op_mod (pe_ix ix_list (pv 0) pe_int (fun _ _ => rfl)) pe_int) pe_int)) pe_int))
    (pss_cons (ps_if (pt_cmpR op_gt (pv 1) (pe_op op_pow pe_int pe_int) (nomark _)) (pss_one (ps_set (i := 2) scTake.nd rfl (Or.inl rfl) (pe_op op_add (pe_op op_pow (pv 2) pe_int) (pv 2)))) pss_nil)
    (pss_one (ps_ret (pe_op op_mod (pv 2) (pv 1))))))))), ?_⟩
  refine seqI (fun σ' H' => σ' = [some (.ref b), some (.int n), none] ∧ Step b H H') (fun σ' H1 h1 => ?_) (fun rest => ?_)
  · obtain ⟨rfl, st1⟩ := h1
    obtain ⟨a, f, m, hb1⟩ := st1.box
    refine ⟨_, rfl, b, _, 1, .int f, rfl, rfl, SqL.of hb1, rfl, rfl, _, rfl, ?_⟩
    refine ite2 (fun e => ?_) (fun e => ?_)
    · refine ⟨_, rfl, b, _, 0, .int a, rfl, rfl, SqL.of hb1, rfl, _, rfl, _, _, rfl, rfl, hn, ?_⟩
      refine ⟨_, rfl, b, _, 0, .int a, rfl, rfl, SqL.of hb1, rfl, _, rfl, _, _, rfl, rfl, ⟨hn, log_lt hn hn2⟩, _, rfl, b, _, 0, 0, rfl, rfl, hb1, rfl, ?_⟩
      exact ⟨_, rfl, q _ _ (Int.emod_nonneg _ (by omega)) (Int.emod_lt_of_pos _ hn) (st1.trans (Step.put _ _ _))⟩
    · refine ⟨_, rfl, b, _, 0, .int a, rfl, rfl, SqL.of hb1, rfl, _, _, rfl, rfl, .inr ⟨by decide, by decide⟩, _, _, rfl, rfl, _, _, rfl, rfl, pos _, _, rfl, b, _, 0, 0, rfl, rfl, hb1, rfl, ?_⟩
      refine ⟨_, rfl, b, _, 0, _, rfl, rfl, SqL.of upd_same, rfl, _, rfl, b, _, 0, _, rfl, rfl, SqL.of upd_same, rfl, _, _, rfl, rfl, pos _, _, _, rfl, rfl, _, _, rfl, rfl, .inr ⟨?_, ?_⟩, _, _, rfl, rfl, pos _, ?_⟩
      · have := Int.emod_nonneg ((a * 69621 + 104729) % 2147483587) (show (16807 : Int) ≠ 0 by decide)
        omega
      · have := Int.emod_lt_of_pos ((a * 69621 + 104729) % 2147483587) (show (0 : Int) < 16807 by decide)
        omega
      dsimp only [gName]
      refine seqI (t := tIfS _ _ _) (fun σ' H' => ∃ x : Int, σ' = [some (.ref b), some (.int n), some (.int x)] ∧ Step b H H') (fun σ' H1 h1 => ?_) (fun rest => ?_)
      · obtain ⟨x, rfl, st2⟩ := h1
        exact ⟨_, rfl, _, rfl, _, _, rfl, rfl, hn, q _ _ (Int.emod_nonneg _ (by omega)) (Int.emod_lt_of_pos _ hn) st2⟩
      · refine ⟨_, rfl, _, _, rfl, rfl, ⟨by decide, by decide, by decide⟩, _, _, rfl, rfl, _, rfl, ?_⟩
        refine ite2 (fun e => ?_) (fun e => ?_)
        · refine ⟨_, rfl, _, _, rfl, rfl, ⟨by decide, by decide, ?_⟩, _, rfl, _, _, rfl, rfl, rest _ _ ⟨_, rfl, st1.trans (Step.put _ _ _)⟩⟩
          have l1 := Int.emod_nonneg ((a * 69621 + 104729) % 2147483587 * ((a * 69621 + 104729) % 2147483587 % 16807 + 1)) (show (2147483579 : Int) ≠ 0 by decide)
          have l2 := Int.emod_lt_of_pos ((a * 69621 + 104729) % 2147483587 * ((a * 69621 + 104729) % 2147483587 % 16807 + 1)) (show (0 : Int) < 2147483579 by decide)
          omega
        · exact rest _ _ ⟨_, rfl, st1.trans (Step.put _ _ _)⟩
  · refine ⟨_, rfl, b, _, 1, .int f0, rfl, rfl, SqL.of hb, rfl, rfl, _, rfl, ?_⟩
    refine ite2 (fun e => ?_) (fun e => ?_)
    · refine ⟨_, rfl, b, _, 0, .int a0, rfl, rfl, SqL.of hb, rfl, _, rfl, (by show 2 ≤ sizeLine; decide), fun t ht => ?_⟩
      have hb2 : upd H t (.tup [.int 0, .int (-1)]) b = some (.lst [.int a0, .int f0, .int m]) := by rw [upd_ne (ne_of_none hb ht)]; exact hb
      refine ⟨t, _, rfl, .inr (SqT.of upd_same), rfl, rfl, _, rfl, ?_⟩
      refine ite2 (fun e => ?_) (fun e => ?_)
      · refine ⟨_, rfl, b, _, 2, .int m, rfl, rfl, SqL.of hb2, rfl, _, rfl, b, _, 0, 0, rfl, rfl, hb2, rfl, ?_⟩
        refine ⟨_, rfl, b, _, 1, 1, rfl, rfl, upd_same, rfl, ?_⟩
        exact rest _ _ ⟨rfl, ((Step.new ⟨_, _, _, hb⟩ ht).trans (Step.put _ _ _)).trans (Step.put _ _ _)⟩
      · exact rest _ _ ⟨rfl, Step.new ⟨_, _, _, hb⟩ ht⟩
    · refine iteF ?_
      exact rest _ _ ⟨rfl, Step.refl ⟨_, _, _, hb⟩⟩
end
end D

set_option Elab.async false
set_option linter.all false
set_option maxRecDepth 100000
set_option maxHeartbeats 4000000
namespace D
open PySem L2
/-! ### worths -/
inductive W where
  | num (i : Int)
  | txt (x : Str)
  | lst (ws : List W)
mutual
def W.size : W → Int
  | .num _ => 1
  | .txt x => 1 + (x.length : Int)
  | .lst ws => 1 + sizes ws
def sizes : List W → Int
  | [] => 0
  | w :: r => w.size + sizes r
end
mutual
def W.depth : W → Nat
  | .num _ => 0
  | .txt _ => 0
  | .lst ws => 1 + depths ws
def depths : List W → Nat
  | [] => 0
  | w :: r => max w.depth (depths r)
end
mutual
def W.Ok : W → Prop
  | .num i => -(10 ^ 60) < i ∧ i < 10 ^ 60
  | .txt x => x.length ≤ 400 ∧ Signs x
  | .lst ws => ws.length ≤ 60 ∧ Oks ws
def Oks : List W → Prop
  | [] => True
  | w :: r => w.Ok ∧ Oks r
end
theorem sizes_snoc (ws : List W) (w : W) : sizes (ws ++ [w]) = sizes ws + w.size := by
  induction ws with
  | nil => simp [sizes]
  | cons x r ih => simp only [List.cons_append, sizes, ih]; omega
theorem depths_snoc (ws : List W) (w : W) : depths (ws ++ [w]) = max (depths ws) w.depth := by
  induction ws with
  | nil => simp [depths]
  | cons x r ih => simp only [List.cons_append, depths, ih]; omega
theorem Oks_snoc (ws : List W) (w : W) : Oks (ws ++ [w]) ↔ Oks ws ∧ w.Ok := by
  induction ws with
  | nil => simp [Oks]
  | cons x r ih => simp only [List.cons_append, Oks, ih, and_assoc]
theorem Oks_mem {ws : List W} (h : Oks ws) : ∀ w ∈ ws, w.Ok := by
  induction ws with
  | nil => intro w hw; cases hw
  | cons x r ih =>
    intro w hw
    rcases List.mem_cons.mp hw with rfl | hw
    · exact h.1
    · exact ih h.2 w hw
theorem depths_mem {ws : List W} : ∀ w ∈ ws, w.depth ≤ depths ws := by
  induction ws with
  | nil => intro w hw; cases hw
  | cons x r ih =>
    intro w hw
    simp only [depths]
    rcases List.mem_cons.mp hw with rfl | hw
    · omega
    · have := ih w hw
      omega
/-- v stands for w -/
inductive RW (H : Hp) : V → W → Prop where
  | num (i : Int) : RW H (.int i) (.num i)
  | txt (x : Str) : RW H (.str x) (.txt x)
  | lst {a : Addr} {vs : List V} {ws : List W} : H a = some (.tup vs) → vs.length = ws.length → (∀ (i : Nat) (v : V) (w : W), vs[i]? = some v → ws[i]? = some w → RW H v w) → RW H (.ref a) (.lst ws)
structure RWs (H : Hp) (vs : List V) (ws : List W) : Prop where
  len : vs.length = ws.length
  at' : ∀ (i : Nat) (v : V) (w : W), vs[i]? = some v → ws[i]? = some w → RW H v w
def Tups (H H' : Hp) : Prop := ∀ a vs, H a = some (.tup vs) → H' a = some (.tup vs)
theorem RW.mono {H H' : Hp} (t : Tups H H') {v : V} {w : W} (h : RW H v w) : RW H' v w := by
  induction h with
  | num i => exact .num i
  | txt x => exact .txt x
  | lst e l _ ih => exact .lst (t _ _ e) l ih
theorem RWs.mono {H H' : Hp} (t : Tups H H') {vs : List V} {ws : List W} (h : RWs H vs ws) : RWs H' vs ws := ⟨h.len, fun i v w a b => (h.at' i v w a b).mono t⟩
theorem RWs.snoc {H : Hp} {vs : List V} {ws : List W} {v : V} {w : W} (h : RWs H vs ws) (x : RW H v w) : RWs H (vs ++ [v]) (ws ++ [w]) := by
  refine ⟨by rw [List.length_append, List.length_append, h.len]; rfl, fun i v' w' a b => ?_⟩
  by_cases hi : i < vs.length
  · rw [List.getElem?_append_left hi] at a
    rw [List.getElem?_append_left (h.len ▸ hi)] at b
    exact h.at' i v' w' a b
  · rw [List.getElem?_append_right (by omega)] at a
    rw [List.getElem?_append_right (by have := h.len; omega)] at b
    have hi0 : i - vs.length = 0 := by
      have := (List.getElem?_eq_some_iff.mp a).1
      simp at this
      omega
    have hi1 : i - ws.length = 0 := by have := h.len; omega
    rw [hi0] at a
    rw [hi1] at b
    have e1 : v = v' := by simpa using a
    have e2 : w = w' := by simpa using b
    rw [← e1, ← e2]
    exact x
theorem Step.tups {b : Addr} {H H' : Hp} (x : Step b H H') (hb : IsBox H b) : Tups H H' := fun a vs e => x.keepN hb e (fun _ _ _ z => nomatch z)
theorem tups_new {H : Hp} {p : Addr} {o : HO} (h : H p = none) : Tups H (upd H p o) := fun a vs e => by rw [upd_ne (ne_of_none e h)]; exact e
theorem tups_put {H : Hp} {p : Addr} {xs : List V} {o : HO} (h : H p = some (.lst xs)) : Tups H (upd H p o) := fun a vs e => by rw [upd_ne (ne_of e h (fun z => nomatch z))]; exact e
/-! ### texts and numbers drawn -/
def signsA : Str := Str.ofString " !#$&'()*+,-./0123456789:;<=>?@ABCDEFGHIJKLMNOPQRSTUVWXYZ"
def signsB : Str := Str.ofString "[\\]^_`abcdefghijklmnopqrstuvwxyz{|}~"
theorem signs_len : (signsA ++ signsB).length = 93 := by decide +kernel
theorem signs_all : ∀ c ∈ (signsA ++ signsB).cps.toList, 32 ≤ c ∧ c ≤ 126 ∧ c ≠ 34 ∧ c ≠ 37 := by decide +kernel
theorem str_len (x : Str) : x.cps.toList.length = x.length := by simp [Str.length]
theorem str_app (x y : Str) : (x ++ y).cps.toList = x.cps.toList ++ y.cps.toList := by
  show (x.cps ++ y.cps).toList = _
  simp
theorem str_app_len (x y : Str) : (x ++ y).length = x.length + y.length := by
  rw [← str_len, str_app, List.length_append, str_len, str_len]
mutual
theorem size_pos : ∀ w : W, 1 ≤ w.size
  | .num _ => by simp [W.size]
  | .txt x => by simp only [W.size]; omega
  | .lst ws => by have := sizes_nn ws; simp only [W.size]; omega
theorem sizes_nn : ∀ ws : List W, 0 ≤ sizes ws
  | [] => by simp [sizes]
  | w :: r => by have h1 := size_pos w; have h2 := sizes_nn r; simp only [sizes]; omega
end
section
variable {P : Program} {w : World} {K : PySem.W.Frag} {mg : Str → Option Value} {base : Heap} {f : Addr} {fd : FuncData} {k : Nat}
theorem scText : FnScope ["_law_box_here", "_law_most", "_law_signs", "_law_found", "_law_k"] ["_law_box_here", "_law_most"] (defScope sText) := ⟨rfl, rfl, rfl, by decide +kernel, rfl, by decide +kernel, by decide +kernel⟩
theorem small {n : Nat} (h : n ≤ 1000000) : n ≤ sizeLine := Nat.le_trans h (by decide)
theorem ok_text (F : Fun K "_law_text" "_law_text" sText f fd) (G_ltake : Have P w K mg base "_law_take" k ["_law_box_here", "_law_wide"] spTake) (m_len : mg "len" = none) (m_range : mg "range" = none) :
    FnOk P w K mg base CX0 (k + 1) f fd ["_law_box_here", "_law_most"] spText := by
  refine F.ok scText (fun vs H Q E h => ?_) (fun cdv A outer s H vs Q E hr h => ?_)
  · obtain ⟨b, n, rfl, _⟩ := h
    rfl
  obtain ⟨b, n, rfl, hb, hn, hn2, q⟩ := h
  refine ⟨_, (pss_cons (ps_set (i := 2) scText.nd rfl (Or.inl rfl) pe_str)
    (pss_cons (ps_set (i := 2) scText.nd rfl (Or.inl rfl) (pe_op op_add_str (pv 2) pe_str))
    (pss_cons (ps_set (i := 3) scText.nd rfl (Or.inl rfl) pe_str)
    (pss_cons (ps_for PassesOwn.never rfl (pi_range1 rfl m_range (pa_cons (pe_fn G_ltake hr rfl (pa_cons (pv 0) (pa_cons (pe_op op_add (pv 1) pe_int) pa_nil))) pa_nil)) (pg_name (i := 4) scText.nd rfl (Or.inl rfl)) (pss_one (ps_set (i := 3) scText.nd rfl (Or.inl rfl) (pe_op op_add_str (pv 3) (pe_ix ix_str (pv 2) (pe_fn G_ltake hr rfl (pa_cons (pv 0) (pa_cons (pe_callB call_len rfl m_len PySem.boot_len (pa_cons (pv 2) pa_nil)) pa_nil))) (fun _ _ => rfl))))))
    (pss_one (ps_ret (pv 3))))))), ?_⟩
  refine ⟨_, rfl, signsA, signsB, rfl, rfl, small (by decide +kernel), ?_⟩
  refine ⟨_, rfl, _, rfl, _, _, rfl, rfl, b, n + 1, rfl, hb, by omega, by omega, fun r H1 h0 h1 st => ?_⟩
  refine ⟨r, rfl, by omega, by omega, for_range (n := r.toNat) (fun i σ' H' => ∃ (x : Str) (o : Option V), σ' = [some (.ref b), some (.int n), some (.str (signsA ++ signsB)), some (.str x), o] ∧ x.length = i ∧ Signs x ∧ Step b H H')
    ⟨Str.ofString "", none, rfl, rfl, ?_, st⟩ (fun i σ' H' hi h => ?_) (fun σ' H' h => ?_)⟩
  · intro c hc
    have e0 : (Str.ofString "").cps.toList = [] := by decide +kernel
    rw [e0] at hc
    cases hc
  · obtain ⟨x, o, rfl, hx, sx, st1⟩ := h
    refine ⟨_, rfl, _, rfl, _, rfl, _, rfl, _, _, rfl, ⟨small (by rw [signs_len]; decide), rfl⟩, b, _, rfl, st1.box, by rw [signs_len]; decide, by rw [signs_len]; decide, fun r2 H2 r0 r1 st2 => ?_⟩
    rw [signs_len] at r1
    have hr2 : r2.toNat < (signsA ++ signsB).cps.toList.length := by rw [str_len, signs_len]; omega
    have er2 : r2 = ((r2.toNat : Nat) : Int) := by omega
    have a1 : atI (signsA ++ signsB).cps.toList ((r2.toNat : Nat) : Int) = some (signsA ++ signsB).cps.toList[r2.toNat] := atI_nat (List.getElem?_eq_getElem hr2)
    rw [← er2] at a1
    refine ⟨_, r2, _, rfl, rfl, small (by rw [signs_len]; decide), a1, x, _, rfl, rfl, small ?_, ?_⟩
    · have : (Str.mk #[(signsA ++ signsB).cps.toList[r2.toNat]]).length = 1 := rfl
      rw [this]
      omega
    · refine ⟨_, _, rfl, ?_, ?_, st1.trans st2⟩
      · rw [str_app_len, hx]
        rfl
      · intro c hc
        rw [str_app] at hc
        rcases List.mem_append.mp hc with hc | hc
        · exact sx c hc
        · have : c = (signsA ++ signsB).cps.toList[r2.toNat] := by simpa using hc
          rw [this]
          exact signs_all _ (List.getElem_mem _)
  · obtain ⟨x, o, rfl, hx, sx, st1⟩ := h
    exact ⟨_, rfl, q x H' (by omega) sx st1⟩
theorem scNumber : FnScope ["_law_box_here", "_law_kind"] ["_law_box_here"] (defScope sNumber) := ⟨rfl, rfl, rfl, by decide +kernel, rfl, by decide +kernel, by decide +kernel⟩
theorem ok_number (F : Fun K "_law_number" "_law_number" sNumber f fd) (G_ltake : Have P w K mg base "_law_take" k ["_law_box_here", "_law_wide"] spTake) :
    FnOk P w K mg base CX0 (k + 1) f fd ["_law_box_here"] spNumber := by
  refine F.ok scNumber (fun vs H Q E h => ?_) (fun cdv A outer s H vs Q E hr h => ?_)
  · obtain ⟨b, rfl, _⟩ := h
    rfl
  obtain ⟨b, rfl, hb, q⟩ := h
  refine ⟨_, (pss_cons (ps_set (i := 1) scNumber.nd rfl (Or.inl rfl) (pe_fn G_ltake hr rfl (pa_cons (pv 0) (pa_cons pe_int pa_nil))))
    (pss_cons (ps_if (pt_cmpR op_eq (pv 1) pe_int (nomark _)) (pss_one (ps_ret (pe_op op_add (pe_op op_sub (pe_fn G_ltake hr rfl (pa_cons (pv 0) (pa_cons (pe_op op_sub (pe_op op_mul pe_int (pe_op op_pow pe_int pe_int)) pe_int) pa_nil))) (pe_op op_pow pe_int pe_int)) pe_int))) pss_nil)
    (pss_cons (ps_if (pt_cmpR op_eq (pv 1) pe_int (nomark _)) (pss_one (ps_ret (pe_ix ix_list (pe_lst (pa_cons (pe_op op_sub (pe_op op_pow pe_int pe_int) pe_int) (pa_cons (pe_op op_sub pe_int (pe_op op_pow pe_int pe_int)) (pa_cons pe_int (pa_cons (pe_un un_neg pe_int) pa_nil))))) (pe_fn G_ltake hr rfl (pa_cons (pv 0) (pa_cons pe_int pa_nil))) (fun _ _ => rfl)))) pss_nil)
    (pss_one (ps_ret (pe_op op_sub (pe_fn G_ltake hr rfl (pa_cons (pv 0) (pa_cons pe_int pa_nil))) pe_int)))))), ?_⟩
  refine ⟨_, rfl, b, 4, rfl, hb, by decide, by decide, fun r H1 h0 h1 st => ?_⟩
  refine ⟨_, rfl, rfl, _, rfl, ?_⟩
  refine ite2 (fun e => ?_) (fun e => ?_)
  · refine ⟨_, rfl, _, _, rfl, rfl, ⟨by decide, by decide, by decide⟩, _, _, rfl, rfl, .inl ⟨by decide, by decide⟩, _, _, rfl, rfl, b, _, rfl, st.box, by decide, by decide, fun r2 H2 r0 r1 st2 => ?_⟩
    refine ⟨_, _, rfl, rfl, ⟨by decide, by decide, by decide⟩, _, _, rfl, rfl, _, _, rfl, rfl, q _ _ ?_ ?_ (st.trans st2)⟩
    · have : (10 : Int) ^ (60 : Int).toNat = 10 ^ 60 := rfl
      omega
    · have : (10 : Int) ^ (60 : Int).toNat = 10 ^ 60 := rfl
      have r1 : r2 < 2 * 10 ^ 60 - 1 := r1
      omega
  · refine ⟨_, rfl, rfl, _, rfl, ?_⟩
    refine ite2 (fun e => ?_) (fun e => ?_)
    · refine ⟨_, _, rfl, rfl, ⟨by decide, by decide, by decide⟩, _, _, rfl, rfl, _, _, rfl, rfl, ⟨by decide, by decide, by decide⟩, _, _, rfl, rfl, _, rfl, (by show 4 ≤ sizeLine; decide), fun p hp => ?_⟩
      have st1 := st.trans (Step.new (o := .lst [.int (10 ^ 60 - 1), .int (1 - 10 ^ 60), .int 0, .int (-1)]) st.box hp)
      refine ⟨_, rfl, b, 4, rfl, st1.box, by decide, by decide, fun r2 H2 r0 r1 st2 => ?_⟩
      have hp2 : H2 p = some (.lst [.int (10 ^ 60 - 1), .int (1 - 10 ^ 60), .int 0, .int (-1)]) := by
        obtain ⟨a', f', m', e'⟩ := st.box
        exact st2.keep p _ (ne_of_none e' hp).symm upd_same
      have hcases : r2 = 0 ∨ r2 = 1 ∨ r2 = 2 ∨ r2 = 3 := by omega
      rcases hcases with rfl | rfl | rfl | rfl
      · exact ⟨p, _, 0, _, rfl, rfl, SqL.of hp2, rfl, q _ _ (by decide) (by decide) (st1.trans st2)⟩
      · exact ⟨p, _, 1, _, rfl, rfl, SqL.of hp2, rfl, q _ _ (by decide) (by decide) (st1.trans st2)⟩
      · exact ⟨p, _, 2, _, rfl, rfl, SqL.of hp2, rfl, q _ _ (by decide) (by decide) (st1.trans st2)⟩
      · exact ⟨p, _, 3, _, rfl, rfl, SqL.of hp2, rfl, q _ _ (by decide) (by decide) (st1.trans st2)⟩
    · refine ⟨_, rfl, b, 12, rfl, st.box, by decide, by decide, fun r2 H2 r0 r1 st2 => ?_⟩
      exact ⟨_, _, rfl, rfl, q _ _ (by have : (3 : Int) < 10 ^ 60 := (by decide); omega) (by have : (12 : Int) < 10 ^ 60 := (by decide); omega) (st.trans st2)⟩
/-! ### a worth drawn -/
def spWorth (n : Nat) : Sp := fun vs H Q _ => ∃ (b : Addr) (room deep : Int), vs = [.ref b, .int room, .int deep] ∧ IsBox H b ∧ 1 ≤ room ∧ room < 1000 ∧ 0 ≤ deep ∧ deep < n ∧
  ∀ (v : V) (x : W) (H' : Hp), RW H' v x → x.Ok → (x.depth : Int) ≤ deep → x.size ≤ 16 * room → Step b H H' → Q v H'
theorem scWorth : FnScope ["_law_box_here", "_law_room", "_law_deep", "_law_kind", "_law_wide", "_law_left", "_law_found", "_law_k", "_law_share"] ["_law_box_here", "_law_room", "_law_deep"] (defScope sWorth) := ⟨rfl, rfl, rfl, by decide +kernel, rfl, by decide +kernel, by decide +kernel⟩
theorem ok_worth {n : Nat} (F : Fun K "_law_worth" "_law_worth" sWorth f fd) (G_ltake : Have P w K mg base "_law_take" k ["_law_box_here", "_law_wide"] spTake) (G_ltext : Have P w K mg base "_law_text" k ["_law_box_here", "_law_most"] spText)
    (G_lnumber : Have P w K mg base "_law_number" k ["_law_box_here"] spNumber) (G_lworth : Have P w K mg base "_law_worth" k ["_law_box_here", "_law_room", "_law_deep"] (spWorth n))
    (m_min : mg "min" = none) (m_range : mg "range" = none) (m_tuple : mg "tuple" = none) : FnOk P w K mg base CX0 (k + 1) f fd ["_law_box_here", "_law_room", "_law_deep"] (spWorth (n + 1)) := by
  refine F.ok scWorth (fun vs H Q E h => ?_) (fun cdv A outer s H vs Q E hr h => ?_)
  · obtain ⟨b, room, deep, rfl, _⟩ := h
    rfl
  obtain ⟨b, room, deep, rfl, hb, hr1, hr2, hd0, hd1, q⟩ := h
  refine ⟨_, (pss_cons (ps_set (i := 3) scWorth.nd rfl (Or.inl rfl) (pe_fn G_ltake hr rfl (pa_cons (pv 0) (pa_cons pe_int pa_nil))))
    (pss_cons (ps_if (pw_or (pt_cmpR op_eq (pv 3) pe_int (nomark _)) (pw_or1 (pw_and (pt_cmpR op_eq (pv 3) pe_int (nomark _)) (pw_and1 (pt_cmpR op_lt (pv 2) pe_int (nomark _)))).pt)).pt (pss_one (ps_ret (pe_fn G_lnumber hr rfl (pa_cons (pv 0) pa_nil)))) pss_nil)
    (pss_cons (ps_if (pt_cmpR op_eq (pv 3) pe_int (nomark _)) (pss_one (ps_ret (pe_fn G_ltext hr rfl (pa_cons (pv 0) (pa_cons pe_int pa_nil))))) pss_nil)
    (pss_cons (ps_set (i := 4) scWorth.nd rfl (Or.inl rfl) (pe_fn G_ltake hr rfl (pa_cons (pv 0) (pa_cons (pe_callB (call_min2 rfl) rfl m_min PyProof.Rows.boot_min (pa_cons (pv 1) (pa_cons pe_int pa_nil))) pa_nil))))
    (pss_cons (ps_set (i := 5) scWorth.nd rfl (Or.inl rfl) (pe_op op_sub (pv 1) pe_int))
    (pss_cons (ps_set (i := 6) scWorth.nd rfl (Or.inl rfl) (pe_lst pa_nil))
    (pss_cons (ps_for PassesOwn.never rfl (pi_range1 rfl m_range (pa_cons (pv 4) pa_nil)) (pg_name (i := 7) scWorth.nd rfl (Or.inl rfl)) (pss_cons (ps_set (i := 8) scWorth.nd rfl (Or.inl rfl) (pe_op op_add pe_int (pe_fn G_ltake hr rfl (pa_cons (pv 0) (pa_cons (pe_op op_sub (pv 5) (pe_op op_sub (pe_op op_sub (pv 4) pe_int) (pv 7))) pa_nil)))))
    (pss_cons (ps_expr (pe_bm PySem.F.plainAttrs_list PySem.F.slot_list_append PySem.F.type_list_append mt_append (pv 6) (pa_cons (pe_fn G_lworth hr rfl (pa_cons (pv 0) (pa_cons (pv 8) (pa_cons (pe_op op_sub (pv 2) pe_int) pa_nil)))) pa_nil)))
    (pss_one (ps_set (i := 5) scWorth.nd rfl (Or.inl rfl) (pe_op op_sub (pv 5) (pv 8)))))))
    (pss_one (ps_ret (pe_callTy call_tuple_of rfl m_tuple boot_tupleT (pa_cons (pv 6) pa_nil))))))))))), ?_⟩
  refine ⟨_, rfl, b, 3, rfl, hb, by decide, by decide, fun kd H1 k0 k1 st => ?_⟩
  dsimp only [gName]
  refine seqI (t := tIfS _ _ _) (fun σ' H' => σ' = [some (.ref b), some (.int room), some (.int deep), some (.int kd), none, none, none, none, none] ∧ Step b H H' ∧ (kd = 1 ∨ (kd = 2 ∧ 1 ≤ deep))) (fun σ' H2 h2 => ?_) (fun rest => ?_)
  · obtain ⟨rfl, st2, hk⟩ := h2
    refine ⟨_, rfl, rfl, _, rfl, ?_⟩
    refine ite2 (fun e => ?_) (fun e => ?_)
    · refine ⟨_, rfl, b, 15, rfl, st2.box, by decide, by decide, fun x H3 hx sx st3 => ?_⟩
      refine q _ _ _ (.txt x) ⟨by omega, sx⟩ (by show ((0 : Nat) : Int) ≤ deep; omega) ?_ (st2.trans st3)
      show 1 + (x.length : Int) ≤ 16 * room
      omega
    · have e' : ¬ V.int kd = V.int 1 := of_decide_eq_false (Bool.eq_false_iff.mpr e)
      have hk2 : kd = 2 ∧ 1 ≤ deep := by
        rcases hk with hk | hk
        · exact absurd (by rw [hk]) e'
        · exact hk
      refine ⟨_, rfl, _, rfl, room, 61, rfl, b, _, rfl, st2.box, ?_, ?_, fun wide H3 w0 w1 st3 => ?_⟩
      · split <;> omega
      · split <;> omega
      have w2 : wide < room ∧ wide < 61 := by
        revert w1
        split <;> intro w1 <;> omega
      refine ⟨_, rfl, _, _, rfl, rfl, (by show 0 ≤ sizeLine; decide), fun l hl => ?_⟩
      have st4 := (st2.trans st3).trans (Step.new (o := .lst []) st3.box hl)
      have lb : l ≠ b := by
        obtain ⟨a', f', m', e'⟩ := st3.box
        exact (ne_of_none e' hl).symm
      have hlH : H l = none := by
        cases e : H l with
        | none => rfl
        | some o =>
          have := (st2.trans st3).keep l o lb e
          rw [hl] at this
          cases this
      refine ⟨_, rfl, wide, rfl, by omega, by omega, for_range (n := wide.toNat) (fun i σ' H' => ∃ (left : Int) (vs : List V) (ws : List W) (o1 o2 : Option V),
          σ' = [some (.ref b), some (.int room), some (.int deep), some (.int kd), some (.int wide), some (.int left), some (.ref l), o1, o2] ∧ H' l = some (.lst vs) ∧ RWs H' vs ws ∧ ws.length = i ∧ Oks ws ∧ (depths ws : Int) ≤ deep - 1 ∧
          sizes ws ≤ 16 * (room - 1 - left) ∧ wide - i ≤ left ∧ Step b H H')
        ⟨room - 1, [], [], none, none, rfl, upd_same, ⟨rfl, fun i v w e => by simp at e⟩, rfl, trivial, by show ((0 : Nat) : Int) ≤ deep - 1; omega, by simp [sizes], by omega, st4⟩ (fun i σ' H' hi h => ?_) (fun σ' H' h => ?_)⟩
      · obtain ⟨left, vs, ws, o1, o2, rfl, hl', hrw, hlen, hok, hdp, hsz, hleft, st5⟩ := h
        have nn := sizes_nn ws
        refine ⟨_, rfl, _, rfl, _, rfl, _, _, rfl, rfl, _, rfl, _, _, rfl, rfl, _, _, rfl, rfl, b, _, rfl, st5.box, ?_, ?_, fun r H5 r0 r1 st6 => ?_⟩
        · omega
        · have : (2000 : Int) < 10 ^ 61 := by decide
          omega
        have hl5 : H5 l = some (.lst vs) := st6.keep l _ lb hl'
        refine ⟨_, _, rfl, rfl, _, rfl, .inl ⟨rfl, _, SqL.of hl5⟩, _, rfl, _, rfl, _, rfl, _, _, rfl, rfl, b, _, _, rfl, st6.box, ?_, ?_, ?_, ?_, fun v x H6 rx okx dx sx st7 => ?_⟩
        · omega
        · omega
        · omega
        · omega
        have hl6 : H6 l = some (.lst vs) := st7.keep l _ lb hl5
        have hlv : vs.length ≤ 61 := by have := hrw.len; omega
        refine ⟨l, vs, v, rfl, rfl, hl6, Nat.lt_of_le_of_lt hlv (by decide), ?_⟩
        refine ⟨_, rfl, _, rfl, _, _, rfl, rfl, ?_⟩
        have t6 : Tups H' H6 := fun a us e => (st7.tups st6.box) a us ((st6.tups st5.box) a us e)
        have t7 := tups_put (o := .lst (vs ++ [v])) hl6
        refine ⟨_, vs ++ [v], ws ++ [x], _, _, rfl, upd_same, ((hrw.mono t6).mono t7).snoc (rx.mono t7), ?_, (Oks_snoc _ _).mpr ⟨hok, okx⟩, ?_, ?_, ?_, ?_⟩
        · rw [List.length_append, hlen]; rfl
        · rw [depths_snoc]; omega
        · rw [sizes_snoc]; omega
        · omega
        · refine ⟨?_, fun c o hc e => ?_⟩
          · obtain ⟨a', f', m', e'⟩ := st7.box
            exact ⟨a', f', m', by rw [upd_ne lb.symm]; exact e'⟩
          · rw [upd_ne (ne_of_none e hlH)]
            exact (st5.trans (st6.trans st7)).keep c o hc e
      · obtain ⟨left, vs, ws, o1, o2, rfl, hl', hrw, hlen, hok, hdp, hsz, hleft, st5⟩ := h
        refine ⟨_, rfl, l, vs, rfl, .inl ⟨SqL.of hl', fun t ht => ?_⟩⟩
        have t6 := tups_new (o := .tup vs) ht
        refine q _ (.lst ws) _ (.lst upd_same hrw.len fun i v x a b => (hrw.at' i v x a b).mono t6) ⟨by omega, hok⟩ ?_ ?_ (st5.trans (Step.new st5.box ht))
        · show ((1 + depths ws : Nat) : Int) ≤ deep
          omega
        · show 1 + sizes ws ≤ 16 * room
          omega
  · refine ⟨_, rfl, rfl, _, rfl, ?_⟩
    have fin : ∀ H2, Step b H H2 → spNumber [.ref b] H2 Q E0 := fun H2 st2 => ⟨b, rfl, st2.box, fun i H3 i0 i1 st3 => q _ (.num i) _ (.num i) ⟨i0, i1⟩ (by show ((0 : Nat) : Int) ≤ deep; omega) (by show (1 : Int) ≤ 16 * room; omega) (st2.trans st3)⟩
    refine ite2 (fun e => ?_) (fun e => ?_)
    · refine iteT ?_
      exact ⟨_, rfl, fin H1 st⟩
    · have e' : ¬ V.int kd = V.int 0 := of_decide_eq_false (Bool.eq_false_iff.mpr e)
      have kne : kd ≠ 0 := fun z => e' (by rw [z])
      refine ⟨_, rfl, rfl, _, rfl, ?_⟩
      refine ite2 (fun e2 => ?_) (fun e2 => ?_)
      · have e2' : V.int kd = V.int 2 := of_decide_eq_true e2
        have kd2 : kd = 2 := by injection e2'
        refine ⟨_, rfl, _, _, rfl, rfl, _, rfl, ?_⟩
        refine ite2 (fun e3 => ?_) (fun e3 => ?_)
        · exact ⟨_, rfl, fin H1 st⟩
        · have e3' : ¬ deep < 1 := of_decide_eq_false (Bool.eq_false_iff.mpr e3)
          exact rest _ _ ⟨rfl, st, .inr ⟨kd2, by omega⟩⟩
      · have e2' : ¬ V.int kd = V.int 2 := of_decide_eq_false (Bool.eq_false_iff.mpr e2)
        have kne2 : kd ≠ 2 := fun z => e2' (by rw [z])
        refine iteF ?_
        exact rest _ _ ⟨rfl, st, .inl (by omega)⟩
end
end D

set_option Elab.async false
set_option linter.all false
set_option maxRecDepth 100000
set_option maxHeartbeats 4000000
namespace D
open PySem L2
/-! ### things -/
inductive T where
  | non
  | bl (b : Bool)
  | num (i : Int)
  | txt (x : Str)
  | tup (ts : List T)
  | lst
  | dic
mutual
def T.size : T → Int
  | .txt x => 1 + (x.length : Int)
  | .tup ts => 1 + tsizes ts
  | _ => 1
def tsizes : List T → Int
  | [] => 0
  | t :: r => t.size + tsizes r
end
mutual
def T.nodes : T → Nat
  | .tup ts => 1 + tnodes ts
  | _ => 1
def tnodes : List T → Nat
  | [] => 0
  | t :: r => t.nodes + tnodes r
end
def signB (c : Nat) : Bool := decide (32 ≤ c) && (decide (c ≤ 126) && (decide (c ≠ 34) && decide (c ≠ 37)))
def okSigns (x : Str) : Bool := x.cps.toList.all signB
def aloneB (lv : Int) : T → Bool
  | .num i => decide (-(10 ^ 60) < i ∧ i < 10 ^ 60)
  | .txt x => decide (x.length ≤ 400) && okSigns x
  | .tup ts => decide (ts.length ≤ 60) && decide (0 < lv)
  | _ => false
mutual
def fitsB : T → Int → Bool
  | .tup ts, lv => decide (ts.length ≤ 60) && decide (0 < lv) && fitsA ts (lv - 1)
  | .num i, _ => decide (-(10 ^ 60) < i ∧ i < 10 ^ 60)
  | .txt x, _ => decide (x.length ≤ 400) && okSigns x
  | .non, _ => false
  | .bl _, _ => false
  | .lst, _ => false
  | .dic, _ => false
def fitsA : List T → Int → Bool
  | [], _ => true
  | t :: r, lv => fitsB t lv && fitsA r lv
end
def isWorthB (t : T) : Bool := fitsB t 12 && decide (t.size ≤ 1000)
mutual
def T.Sm : T → Prop
  | .txt x => x.length ≤ 100000
  | .tup ts => ts.length ≤ 100000 ∧ Sms ts
  | _ => True
def Sms : List T → Prop
  | [] => True
  | t :: r => t.Sm ∧ Sms r
end
mutual
theorem tsize_pos : ∀ t : T, 1 ≤ t.size
  | .non => by simp [T.size]
  | .bl _ => by simp [T.size]
  | .num _ => by simp [T.size]
  | .lst => by simp [T.size]
  | .dic => by simp [T.size]
  | .txt x => by simp only [T.size]; omega
  | .tup ts => by have := tsizes_nn ts; simp only [T.size]; omega
theorem tsizes_nn : ∀ ts : List T, 0 ≤ tsizes ts
  | [] => by simp [tsizes]
  | t :: r => by have h1 := tsize_pos t; have h2 := tsizes_nn r; simp only [tsizes]; omega
end
theorem Sms_mem {ts : List T} (h : Sms ts) : ∀ t ∈ ts, t.Sm := by
  induction ts with
  | nil => intro t ht; cases ht
  | cons x r ih =>
    intro t ht
    rcases List.mem_cons.mp ht with rfl | ht
    · exact h.1
    · exact ih h.2 t ht
inductive RT (H : Hp) : V → T → Prop where
  | non : RT H .non .non
  | bl (b : Bool) : RT H (.bl b) (.bl b)
  | num (i : Int) : RT H (.int i) (.num i)
  | txt (x : Str) : RT H (.str x) (.txt x)
  | tup {a : Addr} {vs : List V} {ts : List T} : H a = some (.tup vs) → vs.length = ts.length → (∀ (i : Nat) (v : V) (t : T), vs[i]? = some v → ts[i]? = some t → RT H v t) → RT H (.ref a) (.tup ts)
  | lst {a : Addr} {vs : List V} : H a = some (.lst vs) → RT H (.ref a) .lst
  | dic {a : Addr} {kvs : List (Key × V)} : H a = some (.dK kvs) → RT H (.ref a) .dic
theorem RT.mono {H H' : Hp} (s : Same H H') {v : V} {t : T} (h : RT H v t) : RT H' v t := by
  induction h with
  | non => exact .non
  | bl b => exact .bl b
  | num i => exact .num i
  | txt x => exact .txt x
  | tup e l _ ih => exact .tup (s _ _ e) l ih
  | lst e => exact .lst (s _ _ e)
  | dic e => exact .dic (s _ _ e)
/-! ### promises -/
def isNumB : T → Bool
  | .num _ => true
  | _ => false
def spIsNum : Sp := fun vs H Q _ => ∃ (v : V) (t : T), vs = [v] ∧ RT H v t ∧ Q (.bl (isNumB t)) H
def spIsSign : Sp := fun vs H Q _ => ∃ c : Nat, vs = [.str ⟨#[c]⟩] ∧ Q (.bl (signB c)) H
def spFits : Sp := fun vs H Q _ => ∃ (v : V) (t : T) (lv : Int), vs = [v, .int lv] ∧ RT H v t ∧ t.Sm ∧ ∀ H', Same H H' → Q (.bl (aloneB lv t)) H'
def aloneSz : T → Int
  | .txt x => 1 + (x.length : Int)
  | _ => 1
def spSizeT : Sp := fun vs H Q _ => ∃ (v : V) (t : T), vs = [v] ∧ RT H v t ∧ t.Sm ∧ Q (.int (aloneSz t)) H
def spIsWorth : Sp := fun vs H Q _ => ∃ (v : V) (t : T), vs = [v] ∧ RT H v t ∧ t.Sm ∧ ∀ H', Same H H' → Q (.bl (isWorthB t)) H'
theorem lt_one (a b : Nat) : decide (([a] : List Nat) < [b]) = decide (a < b) := by
  rw [Bool.eq_iff_iff, decide_eq_true_iff, decide_eq_true_iff]
  constructor
  · intro h
    rcases List.cons_lt_cons_iff.mp h with h | ⟨_, h⟩
    · exact h
    · exact absurd h (List.not_lt_nil _)
  · exact fun h => List.cons_lt_cons_iff.mpr (.inl h)
section
variable {P : Program} {w : World} {K : PySem.W.Frag} {mg : Str → Option Value} {base : Heap} {f : Addr} {fd : FuncData} {k : Nat}
theorem sc_isnum : FnScope ["thing"] ["thing"] (defScope s_is_number) := ⟨rfl, rfl, rfl, by decide +kernel, rfl, by decide +kernel, by decide +kernel⟩
theorem ok_isnum (F : Fun K "is_number" "is_number" s_is_number f fd) (m_isi : mg "isinstance" = none) (m_int : mg "int" = none) (m_bool : mg "bool" = none) : FnOk P w K mg base CX0 (k + 1) f fd ["thing"] spIsNum := by
  refine F.ok sc_isnum (fun vs H Q E h => ?_) (fun cdv A outer s H vs Q E hr h => ?_)
  · obtain ⟨v, t, rfl, _⟩ := h
    rfl
  obtain ⟨v, t, rfl, rt, q⟩ := h
  refine ⟨_, (pss_one (ps_ret (pe_and (pe_callB call_isi rfl m_isi boot_isi (pa_cons (pv 0) (pa_cons (pe_ty rfl m_int boot_intT) pa_nil))) (pe_one (pe_not (pe_callB call_isi rfl m_isi boot_isi (pa_cons (pv 0) (pa_cons (pe_ty rfl m_bool boot_boolT) pa_nil)))))))), ?_⟩
  cases rt with
  | non => exact ⟨_, rfl, _, _, _, _, rfl, .non, isi_ni, _, rfl, iteF q⟩
  | bl b => exact ⟨_, rfl, _, _, _, _, rfl, .bl b, isi_bi, _, rfl, iteT ⟨_, rfl, _, _, _, _, rfl, .bl b, isi_bb, _, rfl, q⟩⟩
  | num i => exact ⟨_, rfl, _, _, _, _, rfl, .int i, isi_ii, _, rfl, iteT ⟨_, rfl, _, _, _, _, rfl, .int i, isi_ib, _, rfl, q⟩⟩
  | txt x => exact ⟨_, rfl, _, _, _, _, rfl, .str x, isi_si, _, rfl, iteF q⟩
  | tup e _ _ => exact ⟨_, rfl, _, _, _, _, rfl, .tup e, isi_ti, _, rfl, iteF q⟩
  | lst e => exact ⟨_, rfl, _, _, _, _, rfl, .lst e, isi_li, _, rfl, iteF q⟩
  | dic e => exact ⟨_, rfl, _, _, _, _, rfl, .dK e, isi_di, _, rfl, iteF q⟩
theorem sc_issign : FnScope ["sign"] ["sign"] (defScope s_is_sign) := ⟨rfl, rfl, rfl, by decide +kernel, rfl, by decide +kernel, by decide +kernel⟩
theorem str_one_ne (c d : Nat) : (!decide (V.str ⟨#[c]⟩ = V.str ⟨#[d]⟩)) = decide (c ≠ d) := by
  rw [Bool.eq_iff_iff]
  simp
theorem ok_issign (F : Fun K "is_sign" "is_sign" s_is_sign f fd) (m_ord : mg "ord" = none) (m_PERCENT : ∃ t, mg "PERCENT" = some (.int 37 t)) : FnOk P w K mg base CX0 (k + 1) f fd ["sign"] spIsSign := by
  refine F.ok sc_issign (fun vs H Q E h => ?_) (fun cdv A outer s H vs Q E hr h => ?_)
  · obtain ⟨c, rfl, _⟩ := h
    rfl
  obtain ⟨c, rfl, q⟩ := h
  refine ⟨_, (pss_one (ps_ret (pe_and (pe_chain op_le_str op_le_str pe_str (pv 0) pe_str) (pe_and (pe_cmpR op_ne (pv 0) pe_str (nomark _)) (pe_one (pe_cmpR op_ne (pe_callB (call_ord) rfl m_ord boot_ordB (pa_cons (pv 0) pa_nil)) (pe_globI rfl m_PERCENT) (nomark _))))))), ?_⟩
  have e32 : (Str.ofString " ").cps.toList = [32] := by decide +kernel
  have e126 : (Str.ofString "~").cps.toList = [126] := by decide +kernel
  have e34 : Str.ofString "\"" = ⟨#[34]⟩ := by decide +kernel
  have l1 : (!decide ((Str.mk #[c]).cps.toList < (Str.ofString " ").cps.toList)) = decide (32 ≤ c) := by rw [e32]; show (!decide (([c] : List Nat) < [32])) = _; rw [lt_one, Bool.eq_iff_iff]; simp
  have l2 : (!decide ((Str.ofString "~").cps.toList < (Str.mk #[c]).cps.toList)) = decide (c ≤ 126) := by rw [e126]; show (!decide (([126] : List Nat) < [c])) = _; rw [lt_one, Bool.eq_iff_iff]; simp
  have l3 : (!decide (V.str ⟨#[c]⟩ = V.str (Str.ofString "\""))) = decide (c ≠ 34) := by rw [e34]; exact str_one_ne c 34
  have l4 : (!decide (V.int ((((Str.mk #[c]).cps.getD 0 0 : Nat)) : Int) = V.int 37)) = decide (c ≠ 37) := by
    show (!decide (V.int (c : Int) = V.int 37)) = decide (c ≠ 37)
    rw [Bool.eq_iff_iff]
    simp
    omega
  refine ⟨_, rfl, _, _, rfl, rfl, _, rfl, ?_⟩
  have fin : ∀ b : Bool, signB c = b → Q (.bl b) H := fun b e => by rw [← e]; exact q
  refine ite2 (fun e => ?_) (fun e => ?_)
  · have e1 : decide (32 ≤ c) = true := by rw [← l1]; exact e
    refine ⟨_, _, rfl, rfl, _, rfl, ?_⟩
    refine ite2 (fun e => ?_) (fun e => ?_)
    · have e2 : decide (c ≤ 126) = true := by rw [← l2]; exact e
      refine ⟨_, rfl, rfl, _, rfl, ?_⟩
      refine ite2 (fun e => ?_) (fun e => ?_)
      · have e3 : decide (c ≠ 34) = true := by rw [← l3]; exact e
        refine ⟨_, rfl, _, rfl, rfl, rfl, fin _ ?_⟩
        rw [l4]
        unfold signB
        rw [e1, e2, e3]
        rfl
      · have e3 : decide (c ≠ 34) = false := by rw [← l3]; exact Bool.eq_false_iff.mpr e
        refine fin _ ?_
        unfold signB
        rw [e1, e2, e3]
        rfl
    · have e2 : decide (c ≤ 126) = false := by rw [← l2]; exact Bool.eq_false_iff.mpr e
      refine fin _ ?_
      unfold signB
      rw [e1, e2]
      rfl
  · have e1 : decide (32 ≤ c) = false := by rw [← l1]; exact Bool.eq_false_iff.mpr e
    refine ⟨_, rfl, iteF (fin _ ?_)⟩
    unfold signB
    rw [e1]
    rfl
theorem sc_fits : FnScope ["thing", "levels"] ["thing", "levels"] (defScope s_fits_alone) := ⟨rfl, rfl, rfl, by decide +kernel, rfl, by decide +kernel, by decide +kernel⟩
theorem all_map {α : Type} (p : α → Bool) (l : List α) : (l.map p).all id = l.all p := by rw [List.all_map]; rfl
theorem ok_fits (F : Fun K "fits_alone" "fits_alone" s_fits_alone f fd) (G_is_number : Have P w K mg base "is_number" k ["thing"] spIsNum) (G_is_sign : Have P w K mg base "is_sign" k ["sign"] spIsSign)
    (m_isi : mg "isinstance" = none) (m_str : mg "str" = none) (m_tuple : mg "tuple" = none) (m_len : mg "len" = none) (m_all : mg "all" = none) (m_abs : mg "abs" = none) (m_MOST_SIGNS : ∃ t, mg "MOST_SIGNS" = some (.int 400 t)) (m_MOST_ITEMS : ∃ t, mg "MOST_ITEMS" = some (.int 60 t)) :
    FnOk P w K mg base CX0 (k + 1) f fd ["thing", "levels"] spFits := by
  refine F.ok sc_fits (fun vs H Q E h => ?_) (fun cdv A outer s H vs Q E hr h => ?_)
  · obtain ⟨v, t, lv, rfl, _⟩ := h
    rfl
  obtain ⟨v, t, lv, rfl, rt, sm, q⟩ := h
  refine ⟨_, (pss_cons (ps_if (pt_val (pe_fn G_is_number hr rfl (pa_cons (pv 0) pa_nil))) (pss_one (ps_ret (pe_cmpR op_lt (pe_callB (call_abs) rfl m_abs boot_absB (pa_cons (pv 0) pa_nil)) (pe_op op_pow pe_int pe_int) (nomark _)))) pss_nil)
    (pss_cons (ps_if (pt_val (pe_callB call_isi rfl m_isi boot_isi (pa_cons (pv 0) (pa_cons (pe_ty rfl m_str boot_strT) pa_nil)))) (pss_one (ps_ret (pe_and (pe_cmpR op_le (pe_callB call_len rfl m_len PySem.boot_len (pa_cons (pv 0) pa_nil)) (pe_globI rfl m_MOST_SIGNS) (nomark _)) (pe_one (pe_callB (call_all_bools rfl) rfl m_all boot_allB (pa_cons (pe_lcomp [] [] rfl rfl (by decide +kernel) rfl (by decide +kernel) rfl (by decide +kernel) trivial rfl trivial (pi_str (pv 0)) (fun C s H fp => ⟨pifs_nil, (pe_fn G_is_sign hr rfl (pa_cons (pv 0) pa_nil))⟩)) pa_nil)))))) pss_nil)
    (pss_one (ps_ret (pe_and (pe_callB call_isi rfl m_isi boot_isi (pa_cons (pv 0) (pa_cons (pe_ty rfl m_tuple boot_tupleT) pa_nil))) (pe_and (pe_cmpR op_le (pe_callB call_len rfl m_len PySem.boot_len (pa_cons (pv 0) pa_nil)) (pe_globI rfl m_MOST_ITEMS) (nomark _)) (pe_one (pe_cmpR op_gt (pv 1) pe_int (nomark _))))))))), ?_⟩
  have q0 : ∀ b : Bool, aloneB lv t = b → Q (.bl b) H := fun b e => by rw [← e]; exact q H (Same.refl H)
  refine ⟨_, rfl, v, t, rfl, rt, _, rfl, ?_⟩
  cases rt with
  | non => exact iteF ⟨_, rfl, _, _, _, _, rfl, .non, isi_ns, _, rfl, iteF ⟨_, rfl, _, _, _, _, rfl, .non, isi_nt, _, rfl, iteF (q0 _ rfl)⟩⟩
  | bl b => exact iteF ⟨_, rfl, _, _, _, _, rfl, .bl b, isi_bs, _, rfl, iteF ⟨_, rfl, _, _, _, _, rfl, .bl b, isi_bt, _, rfl, iteF (q0 _ rfl)⟩⟩
  | lst e => exact iteF ⟨_, rfl, _, _, _, _, rfl, .lst e, isi_ls, _, rfl, iteF ⟨_, rfl, _, _, _, _, rfl, .lst e, isi_lt, _, rfl, iteF (q0 _ rfl)⟩⟩
  | dic e => exact iteF ⟨_, rfl, _, _, _, _, rfl, .dK e, isi_ds, _, rfl, iteF ⟨_, rfl, _, _, _, _, rfl, .dK e, isi_dt, _, rfl, iteF (q0 _ rfl)⟩⟩
  | num i =>
    refine iteT ⟨_, rfl, i, rfl, _, _, rfl, rfl, ⟨by decide, by decide, by decide⟩, _, _, rfl, rfl, q0 _ ?_⟩
    show decide (-(10 ^ 60) < i ∧ i < 10 ^ 60) = decide ((if i < 0 then -i else i) < 10 ^ (60 : Int).toNat)
    have e : (10 : Int) ^ (60 : Int).toNat = 10 ^ 60 := rfl
    rw [e, Bool.eq_iff_iff, decide_eq_true_iff, decide_eq_true_iff]
    constructor
    · intro h
      split <;> omega
    · split <;> intro h <;> omega
  | txt x =>
    refine iteF ⟨_, rfl, _, _, _, _, rfl, .str x, isi_ss, _, rfl, iteT ?_⟩
    have hx : x.length ≤ 100000 := sm
    refine ⟨_, rfl, _, _, rfl, ⟨small (by omega), rfl⟩, _, _, rfl, rfl, _, rfl, ?_⟩
    refine ite2 (fun e => ?_) (fun e => ?_)
    · have e1 : (x.length : Int) ≤ 400 := of_decide_eq_true e
      dsimp only [tRet, tOp, tC, tCB, tCons, tNil]
      have hsz : x.cps.size = x.length := rfl
      refine rd_mapS (x.cps.toList.map fun c => V.bl (signB c)) (by rfl) (by rw [List.length_map]; simp) (by rw [hsz]; exact small (by omega)) (fun i c y H1 R hc hy s1 hR => ?_) (fun H1 D s1 hD => ?_)
      · have hc' : x.cps.toList[i]? = some c := by simpa using hc
        rw [List.getElem?_map, hc'] at hy
        cases hy
        exact ⟨_, rfl, c, rfl, hR _ (Same.refl _)⟩
      · refine ⟨D, x.cps.toList.map signB, rfl, SqL.of ?_, ?_⟩
        · rw [upd_same, List.map_map]; rfl
        · have := q _ (s1.trans (Same.new (o := .lst (x.cps.toList.map fun c => V.bl (signB c))) hD))
          rw [all_map]
          have e3 : aloneB lv (.txt x) = x.cps.toList.all signB := by
            show (decide (x.length ≤ 400) && okSigns x) = _
            rw [decide_eq_true (by omega)]
            rfl
          rw [← e3]
          exact this
    · have e1 : ¬ (x.length : Int) ≤ 400 := of_decide_eq_false (Bool.eq_false_iff.mpr e)
      refine q0 _ ?_
      show (decide (x.length ≤ 400) && okSigns x) = _
      rw [decide_eq_false (by omega)]
      rfl
  | @tup a vs ts e l _ =>
    refine iteF ⟨_, rfl, _, _, _, _, rfl, .tup e, isi_ts, _, rfl, iteF ?_⟩
    refine ⟨_, rfl, _, _, _, _, rfl, .tup e, isi_tt, _, rfl, iteT ?_⟩
    refine ⟨_, rfl, _, _, rfl, .inr ⟨_, SqT.of e, rfl⟩, _, _, rfl, rfl, _, rfl, ?_⟩
    refine ite2 (fun c => ?_) (fun c => ?_)
    · have c1 : (vs.length : Int) ≤ 60 := of_decide_eq_true c
      refine ⟨_, rfl, _, _, rfl, rfl, q0 _ ?_⟩
      show (decide (ts.length ≤ 60) && decide (0 < lv)) = _
      rw [decide_eq_true (by omega), Bool.true_and]
    · have c1 : ¬ (vs.length : Int) ≤ 60 := of_decide_eq_false (Bool.eq_false_iff.mpr c)
      refine q0 _ ?_
      show (decide (ts.length ≤ 60) && decide (0 < lv)) = _
      rw [decide_eq_false (by omega), Bool.false_and]
theorem sc_sizeT : FnScope ["worth"] ["worth"] (defScope sSizeA) := ⟨rfl, rfl, rfl, by decide +kernel, rfl, by decide +kernel, by decide +kernel⟩
theorem ok_sizeT (F : Fun K "size_alone" "size_alone" sSizeA f fd) (m_isi : mg "isinstance" = none) (m_str : mg "str" = none) (m_len : mg "len" = none) : FnOk P w K mg base CX0 (k + 1) f fd ["worth"] spSizeT := by
  refine F.ok sc_sizeT (fun vs H Q E h => ?_) (fun cdv A outer s H vs Q E hr h => ?_)
  · obtain ⟨v, x, rfl, _⟩ := h
    rfl
  obtain ⟨v, t, rfl, rt, sm, q⟩ := h
  refine ⟨_, pss_one (ps_ret (pe_ifExp (pt_val (pe_callB call_isi rfl m_isi boot_isi (pa_cons (pv 0) (pa_cons (pe_ty rfl m_str boot_strT) pa_nil)))) (pe_op op_add pe_int (pe_callB call_len rfl m_len PySem.boot_len (pa_cons (pv 0) pa_nil))) pe_int)), ?_⟩
  cases rt with
  | non => exact ⟨_, rfl, _, _, _, _, rfl, .non, isi_ns, _, rfl, iteF q⟩
  | bl b => exact ⟨_, rfl, _, _, _, _, rfl, .bl b, isi_bs, _, rfl, iteF q⟩
  | num i => exact ⟨_, rfl, _, _, _, _, rfl, .int i, isi_is, _, rfl, iteF q⟩
  | lst e => exact ⟨_, rfl, _, _, _, _, rfl, .lst e, isi_ls, _, rfl, iteF q⟩
  | dic e => exact ⟨_, rfl, _, _, _, _, rfl, .dK e, isi_ds, _, rfl, iteF q⟩
  | tup e _ _ => exact ⟨_, rfl, _, _, _, _, rfl, .tup e, isi_ts, _, rfl, iteF q⟩
  | txt x =>
    have hx : x.length ≤ 100000 := sm
    refine ⟨_, rfl, _, _, _, _, rfl, .str x, isi_ss, _, rfl, iteT ?_⟩
    exact ⟨_, rfl, _, _, rfl, ⟨small (by omega), rfl⟩, _, _, rfl, rfl, q⟩
end
end D

set_option Elab.async false
set_option linter.all false
set_option maxRecDepth 100000
set_option maxHeartbeats 4000000
namespace D
open PySem L2
/-! ### the stack of is_worth -/
structure StR (H0 H : Hp) (vs : List V) (ps : List (T × Int)) : Prop where
  len : vs.length = ps.length
  at' : ∀ (i : Nat) (v : V) (p : T × Int), vs[i]? = some v → ps[i]? = some p → ∃ (a : Addr) (u : V), v = .ref a ∧ H a = some (.tup [u, .int p.2]) ∧ RT H0 u p.1
theorem StR.mono {H0 H H' : Hp} (s : Tups H H') {vs : List V} {ps : List (T × Int)} (h : StR H0 H vs ps) : StR H0 H' vs ps :=
  ⟨h.len, fun i v p e1 e2 => let ⟨a, u, x, y, z⟩ := h.at' i v p e1 e2; ⟨a, u, x, s _ _ y, z⟩⟩
theorem StR.nil {H0 H : Hp} : StR H0 H [] [] := ⟨rfl, fun i v p e => by simp at e⟩
theorem StR.app {H0 H : Hp} {vs us : List V} {ps qs : List (T × Int)} (h : StR H0 H vs ps) (g : StR H0 H us qs) : StR H0 H (vs ++ us) (ps ++ qs) := by
  refine ⟨by rw [List.length_append, List.length_append, h.len, g.len], fun i v p e1 e2 => ?_⟩
  by_cases hi : i < vs.length
  · rw [List.getElem?_append_left hi] at e1
    rw [List.getElem?_append_left (h.len ▸ hi)] at e2
    exact h.at' i v p e1 e2
  · rw [List.getElem?_append_right (by omega)] at e1
    rw [List.getElem?_append_right (by have := h.len; omega)] at e2
    rw [h.len] at e1
    exact g.at' _ v p e1 e2
theorem StR.one {H0 H : Hp} {a : Addr} {u : V} {p : T × Int} (e : H a = some (.tup [u, .int p.2])) (r : RT H0 u p.1) : StR H0 H [.ref a] [p] := by
  refine ⟨rfl, fun i v' p' e1 e2 => ?_⟩
  cases i with
  | zero =>
    have q1 : V.ref a = v' := by simpa using e1
    have q2 : p = p' := by simpa using e2
    subst q1 q2
    exact ⟨a, u, rfl, e, r⟩
  | succ j => simp at e1
theorem StR.front {H0 H : Hp} {vs : List V} {ps : List (T × Int)} {v : V} {p : T × Int} (h : StR H0 H (vs ++ [v]) (ps ++ [p])) : StR H0 H vs ps ∧ ∃ (a : Addr) (u : V), v = .ref a ∧ H a = some (.tup [u, .int p.2]) ∧ RT H0 u p.1 := by
  have l := h.len
  rw [List.length_append, List.length_append] at l
  have l' : vs.length = ps.length := by simpa using l
  refine ⟨⟨l', fun i v' p' e1 e2 => ?_⟩, ?_⟩
  · have h1 := (List.getElem?_eq_some_iff.mp e1).1
    exact h.at' i v' p' (by rw [List.getElem?_append_left h1]; exact e1) (by rw [List.getElem?_append_left (l' ▸ h1)]; exact e2)
  · exact h.at' vs.length v p (by rw [List.getElem?_append_right (Nat.le_refl _)]; simp) (by rw [l', List.getElem?_append_right (Nat.le_refl _)]; simp)
theorem same_tupsD {H H' : Hp} (s : Same H H') : Tups H H' := fun a vs e => s a _ e
theorem same_putD {H H1 : Hp} {l : Addr} {o : HO} (s : Same H H1) (hl : H l = none) : Same H (upd H1 l o) := fun c u e => by rw [upd_ne (ne_of_none e hl)]; exact s c u e
def szs : List (T × Int) → Int
  | [] => 0
  | p :: r => p.1.size + szs r
def nds : List (T × Int) → Nat
  | [] => 0
  | p :: r => p.1.nodes + nds r
def fts : List (T × Int) → Bool
  | [] => true
  | p :: r => fitsB p.1 p.2 && fts r
theorem szs_app (a b : List (T × Int)) : szs (a ++ b) = szs a + szs b := by
  induction a with
  | nil => simp [szs]
  | cons p r ih => simp only [List.cons_append, szs, ih]; omega
theorem nds_app (a b : List (T × Int)) : nds (a ++ b) = nds a + nds b := by
  induction a with
  | nil => simp [nds]
  | cons p r ih => simp only [List.cons_append, nds, ih]; omega
theorem fts_app (a b : List (T × Int)) : fts (a ++ b) = (fts a && fts b) := by
  induction a with
  | nil => simp [fts]
  | cons p r ih => simp only [List.cons_append, fts, ih, Bool.and_assoc]
theorem szs_nn : ∀ ps : List (T × Int), 0 ≤ szs ps
  | [] => by simp [szs]
  | p :: r => by have h1 := tsize_pos p.1; have h2 := szs_nn r; simp only [szs]; omega
theorem szs_map (ts : List T) (lv : Int) : szs (ts.map fun t => (t, lv)) = tsizes ts := by
  induction ts with
  | nil => rfl
  | cons t r ih => simp only [List.map_cons, szs, tsizes, ih]
theorem nds_map (ts : List T) (lv : Int) : nds (ts.map fun t => (t, lv)) = tnodes ts := by
  induction ts with
  | nil => rfl
  | cons t r ih => simp only [List.map_cons, nds, tnodes, ih]
theorem fts_map (ts : List T) (lv : Int) : fts (ts.map fun t => (t, lv)) = fitsA ts lv := by
  induction ts with
  | nil => rfl
  | cons t r ih => simp only [List.map_cons, fts, fitsA, ih]
def valB (ps : List (T × Int)) (whole : Int) : Bool := fts ps && decide (whole + szs ps ≤ 1000)
theorem alone_fits {t : T} {lv : Int} (h : aloneB lv t = false) : fitsB t lv = false := by
  cases t with
  | tup ts =>
    have h : (decide (ts.length ≤ 60) && decide (0 < lv)) = false := h
    simp only [fitsB, h, Bool.false_and]
  | num i => exact h
  | txt x => exact h
  | non => rfl
  | bl b => rfl
  | lst => rfl
  | dic => rfl
theorem alone_leaf {t : T} {lv : Int} (h : aloneB lv t = true) (hn : ∀ ts, t ≠ .tup ts) : fitsB t lv = true ∧ t.size = aloneSz t := by
  cases t with
  | tup ts => exact absurd rfl (hn ts)
  | num i => exact ⟨h, rfl⟩
  | txt x => exact ⟨h, rfl⟩
  | non => cases h
  | bl b => cases h
  | lst => cases h
  | dic => cases h
theorem aloneSz_le (t : T) : aloneSz t ≤ t.size ∧ 1 ≤ aloneSz t := by
  cases t with
  | tup ts => have := tsizes_nn ts; simp only [aloneSz, T.size]; omega
  | txt x => simp only [aloneSz, T.size]; omega
  | _ => simp [aloneSz, T.size]
section
variable {P : Program} {w : World} {K : PySem.W.Frag} {mg : Str → Option Value} {base : Heap} {f : Addr} {fd : FuncData} {k : Nat}
theorem sc_isworth : FnScope ["thing", "waiting", "whole", "pair", "item", "levels"] ["thing"] (defScope s_is_worth) := ⟨rfl, rfl, rfl, by decide +kernel, rfl, by decide +kernel, by decide +kernel⟩
theorem ok_isworth (F : Fun K "is_worth" "is_worth" s_is_worth f fd) (G_fits_alone : Have P w K mg base "fits_alone" k ["thing", "levels"] spFits) (G_size_alone : Have P w K mg base "size_alone" k ["worth"] spSizeT)
    (m_isi : mg "isinstance" = none) (m_tuple : mg "tuple" = none) (m_len : mg "len" = none) (m_MOST_DEPTH : ∃ t, mg "MOST_DEPTH" = some (.int 12 t)) (m_MOST_SIZE : ∃ t, mg "MOST_SIZE" = some (.int 1000 t)) :
    FnOk P w K mg base CX0 (k + 1) f fd ["thing"] spIsWorth := by
  refine F.ok sc_isworth (fun vs H Q E h => ?_) (fun cdv A outer s H vs Q E hr h => ?_)
  · obtain ⟨v, t, rfl, _⟩ := h
    rfl
  obtain ⟨v, t, rfl, rt, sm, q⟩ := h
  refine ⟨_, (pss_cons (ps_set (i := 1) sc_isworth.nd rfl (Or.inl rfl) (pe_lst (pa_cons (pe_tup (pa_cons (pv 0) (pa_cons (pe_globI rfl m_MOST_DEPTH) pa_nil))) pa_nil)))
    (pss_cons (ps_set (i := 2) sc_isworth.nd rfl (Or.inl rfl) pe_int)
    (pss_cons (ps_while PassesOwn.never (pt_cmpR op_gt (pe_callB call_len rfl m_len PySem.boot_len (pa_cons (pv 1) pa_nil)) pe_int (nomark _)) (pss_cons (ps_set (i := 3) sc_isworth.nd rfl (Or.inl rfl) (pe_bm0 PySem.F.plainAttrs_list PySem.F.slot_list_pop PySem.F.type_list_pop mt_pop (pv 1)))
    (pss_cons (ps_set (i := 4) sc_isworth.nd rfl (Or.inl rfl) (pe_ix ix_tup (pv 3) pe_int (fun _ _ => rfl)))
    (pss_cons (ps_set (i := 5) sc_isworth.nd rfl (Or.inr rfl) (pe_ix ix_tup (pv 3) pe_int (fun _ _ => rfl)))
    (pss_cons (ps_if (pt_not (pt_val (pe_fn G_fits_alone hr rfl (pa_cons (pv 4) (pa_cons (pv 5) pa_nil))))) (pss_one (ps_ret pe_bl)) pss_nil)
    (pss_cons (ps_aug (i := 2) sc_isworth.nd rfl (Or.inl rfl) (pe_fn G_size_alone hr rfl (pa_cons (pv 4) pa_nil)) (ip_of iop_add))
    (pss_cons (ps_if (pt_cmpR op_gt (pv 2) (pe_globI rfl m_MOST_SIZE) (nomark _)) (pss_one (ps_ret pe_bl)) pss_nil)
    (pss_one (ps_if (pt_val (pe_callB call_isi rfl m_isi boot_isi (pa_cons (pv 4) (pa_cons (pe_ty rfl m_tuple boot_tupleT) pa_nil)))) (pss_one (ps_expr (pe_bm PySem.F.plainAttrs_list PySem.F.slot_list_extend PySem.F.type_list_extend mt_extend (pv 1) (pa_cons (pe_lcomp [5] ["levels"] rfl rfl (by decide +kernel) rfl (by decide +kernel) rfl (by decide +kernel) ⟨rfl, trivial⟩ rfl ⟨⟨rfl, rfl, Or.inr (Or.inl rfl), (by show (some NameKind.cell : Option NameKind) ≠ some .local; decide), ⟨_, rfl⟩⟩, trivial⟩ (pi_tup (pv 4)) (fun C s H fp => ⟨pifs_nil, (pe_tup (pa_cons (pv 0) (pa_cons (pe_op op_sub (pv 1) pe_int) pa_nil)))⟩)) pa_nil)))) pss_nil)))))))))
    (pss_one (ps_ret pe_bl))))), ?_⟩
  refine ⟨_, rfl, (by show 2 ≤ sizeLine; decide), fun a ha => ?_⟩
  refine ⟨(by show 1 ≤ sizeLine; decide), fun l hl => ?_⟩
  have s1 : Same H (upd (upd H a (.tup [v, .int 12])) l (.lst [.ref a])) := (Same.new ha).trans (Same.new hl)
  have hlH : H l = none := by
    cases e : H l with
    | none => rfl
    | some o => have := Same.new (o := .tup [v, .int 12]) ha l o e; rw [hl] at this; cases this
  have ea : upd (upd H a (.tup [v, .int 12])) l (.lst [.ref a]) a = some (.tup [v, .int 12]) := by rw [upd_ne (ne_of_none upd_same hl)]; exact upd_same
  have st0 : StR H (upd (upd H a (.tup [v, .int 12])) l (.lst [.ref a])) [.ref a] [(t, 12)] := StR.one (p := (t, 12)) ea rt
  refine ⟨fun m σ' H' => ∃ (vs : List V) (ps : List (T × Int)) (whole : Int) (o3 o4 o5 : Option V), σ' = [some v, some (.ref l), some (.int whole), o3, o4, o5] ∧ H' l = some (.lst vs) ∧ StR H H' vs ps ∧ m = nds ps ∧ 0 ≤ whole ∧ whole ≤ 1000 ∧
      (vs.length : Int) ≤ 60 * whole + 1 ∧ (∀ p ∈ ps, p.1.Sm) ∧ valB ps whole = isWorthB t ∧ Same H H',
    ⟨_, [.ref a], [(t, 12)], 0, none, none, none, rfl, upd_same, st0, rfl, Int.le_refl _, by decide, by simp, fun p hp => by rw [List.mem_singleton.mp hp]; exact sm, ?_, s1⟩, fun m σ' H' hW => ?_⟩
  · unfold valB isWorthB
    simp only [fts, szs, Bool.and_true]
    congr 2
    rw [eq_iff_iff]
    constructor <;> intro h <;> omega
  obtain ⟨vs, ps, whole, o3, o4, o5, rfl, hlv, hst, hm, hw0, hw1, hvl, hsm, hval, sH⟩ := hW
  refine ⟨_, rfl, _, _, rfl, .inl ⟨_, SqL.of hlv, rfl⟩, _, _, rfl, rfl, _, rfl, ?_⟩
  refine ite2 (fun c => ?_) (fun c => ?_)
  · have c1 : (0 : Int) < vs.length := of_decide_eq_true c
    refine ⟨_, fun _ _ h => h, ?_⟩
    rcases List.eq_nil_or_concat vs with rfl | ⟨vs', vl, e⟩
    · simp at c1
    rw [List.concat_eq_append] at e
    subst e
    rcases List.eq_nil_or_concat ps with rfl | ⟨ps', p, e⟩
    · have := hst.len; simp at this
    rw [List.concat_eq_append] at e
    subst e
    obtain ⟨hst', ap, u, rfl, hap, rtu⟩ := hst.front
    have ed : (vs' ++ [V.ref ap]).dropLast = vs' := List.dropLast_concat
    have smp : p.1.Sm := hsm p (by simp)
    refine ⟨_, rfl, .inl ⟨rfl, _, SqL.of hlv⟩, l, _, .ref ap, rfl, rfl, hlv, by simp, ?_⟩
    rw [ed]
    have sH1 : Same H (upd H' l (.lst vs')) := same_putD sH hlH
    have hap1 : upd H' l (.lst vs') ap = some (.tup [u, .int p.2]) := tups_put hlv _ _ hap
    refine ⟨_, rfl, ap, _, 0, u, rfl, rfl, SqT.of hap1, rfl, ?_⟩
    refine ⟨_, rfl, ap, _, 1, .int p.2, rfl, rfl, SqT.of hap1, rfl, ?_⟩
    refine ⟨_, rfl, _, rfl, u, p.1, p.2, rfl, rtu.mono sH1, smp, fun H2 s2 => ⟨_, rfl, ?_⟩⟩
    have vb : valB (ps' ++ [p]) whole = ((fts ps' && fitsB p.1 p.2) && decide (whole + (szs ps' + p.1.size) ≤ 1000)) := by
      unfold valB
      rw [fts_app, szs_app]
      simp only [fts, szs, Bool.and_true]
      congr 2
      rw [eq_iff_iff]
      constructor <;> intro h <;> omega
    have hsn := szs_nn ps'
    have hal := aloneSz_le p.1
    have sH2 := sH1.trans s2
    cases hal1 : aloneB p.2 p.1 with
    | false =>
      refine iteT ?_
      have : isWorthB t = false := by
        rw [← hval, vb, alone_fits hal1]
        simp
      have fin := q _ sH2
      rw [this] at fin
      exact fin
    | true =>
      refine iteF ?_
      refine ⟨_, rfl, _, rfl, u, p.1, rfl, rtu.mono sH2, smp, _, _, rfl, rfl, ?_⟩
      refine ⟨_, rfl, _, _, rfl, rfl, _, rfl, ?_⟩
      refine ite2 (fun c2 => ?_) (fun c2 => ?_)
      · have c3 : (1000 : Int) < whole + aloneSz p.1 := of_decide_eq_true c2
        have : isWorthB t = false := by
          rw [← hval, vb, decide_eq_false (by omega)]
          simp
        have fin := q _ sH2
        rw [this] at fin
        exact fin
      · have c3 : ¬ (1000 : Int) < whole + aloneSz p.1 := of_decide_eq_false (Bool.eq_false_iff.mpr c2)
        have hl2 : H2 l = some (.lst vs') := s2 _ _ upd_same
        have hst2 : StR H H2 vs' ps' := (hst'.mono (tups_put hlv)).mono (same_tupsD s2)
        have hvl' : ((vs'.length : Nat) : Int) + 1 ≤ 60 * whole + 1 := by
          rw [List.length_append] at hvl
          have : ([V.ref ap] : List V).length = 1 := rfl
          omega
        have hnd : nds (ps' ++ [p]) = nds ps' + p.1.nodes := by rw [nds_app]; simp [nds]
        have hsm' : ∀ p' ∈ ps', p'.1.Sm := fun p' hp' => hsm p' (List.mem_append_left _ hp')
        have leaf : ∀ (t' : T), p.1 = t' → (∀ ts, t' ≠ .tup ts) → p.1.nodes = 1 → ∃ m', m' < m ∧ ∃ (vs : List V) (ps : List (T × Int)) (whole' : Int) (o3 o4 o5 : Option V), [some v, some (.ref l), some (.int (whole + aloneSz p.1)), some (.ref ap), some u, some (.int p.2)] = [some v, some (.ref l), some (.int whole'), o3, o4, o5] ∧ H2 l = some (.lst vs) ∧ StR H H2 vs ps ∧ m' = nds ps ∧ 0 ≤ whole' ∧ whole' ≤ 1000 ∧
            (vs.length : Int) ≤ 60 * whole' + 1 ∧ (∀ p ∈ ps, p.1.Sm) ∧ valB ps whole' = isWorthB t ∧ Same H H2 := fun t' e hn hnode => by
          obtain ⟨hf, hz⟩ := alone_leaf hal1 (by rw [e]; exact hn)
          refine ⟨nds ps', by omega, vs', ps', whole + aloneSz p.1, _, _, _, rfl, hl2, hst2, rfl, by omega, by omega, by omega, hsm', ?_, sH2⟩
          rw [← hval, vb, hf, hz]
          unfold valB
          rw [Bool.and_true]
          congr 2
          rw [eq_iff_iff]
          constructor <;> intro h <;> omega
        obtain ⟨tt, lv⟩ := p
        have rt2 : RT H2 u tt := rtu.mono sH2
        cases rt2 with
        | non => exact ⟨_, rfl, _, _, _, _, rfl, .non, isi_nt, _, rfl, iteF (leaf _ rfl (fun _ z => nomatch z) rfl)⟩
        | bl b => exact ⟨_, rfl, _, _, _, _, rfl, .bl b, isi_bt, _, rfl, iteF (leaf _ rfl (fun _ z => nomatch z) rfl)⟩
        | num i => exact ⟨_, rfl, _, _, _, _, rfl, .int i, isi_it, _, rfl, iteF (leaf _ rfl (fun _ z => nomatch z) rfl)⟩
        | txt x => exact ⟨_, rfl, _, _, _, _, rfl, .str x, isi_st, _, rfl, iteF (leaf _ rfl (fun _ z => nomatch z) rfl)⟩
        | lst e => exact ⟨_, rfl, _, _, _, _, rfl, .lst e, isi_lt, _, rfl, iteF (leaf _ rfl (fun _ z => nomatch z) rfl)⟩
        | dic e => exact ⟨_, rfl, _, _, _, _, rfl, .dK e, isi_dt, _, rfl, iteF (leaf _ rfl (fun _ z => nomatch z) rfl)⟩
        | @tup a2 us ts e2 l2 at2 =>
          refine ⟨_, rfl, _, _, _, _, rfl, .tup e2, isi_tt, _, rfl, iteT ?_⟩
          have ha60 : ts.length ≤ 60 := by
            have h : (decide (ts.length ≤ 60) && decide (0 < lv)) = true := hal1
            rw [Bool.and_eq_true] at h
            exact of_decide_eq_true h.1
          have hlv0 : 0 < lv := by
            have h : (decide (ts.length ≤ 60) && decide (0 < lv)) = true := hal1
            rw [Bool.and_eq_true] at h
            exact of_decide_eq_true h.2
          refine ⟨_, rfl, .inl ⟨rfl, _, SqL.of hl2⟩, ?_⟩
          -- the items of the tuple, as things of H
          have at0 : ∀ (i : Nat) (x : V) (t' : T), us[i]? = some x → ts[i]? = some t' → RT H x t' := by
            cases rtu with
            | @tup a3 us3 ts3 e3 l3 at3 =>
              have : us3 = us := by
                have h1 := sH2 _ _ e3
                rw [e2] at h1
                cases h1
                rfl
              subst this
              exact at3
          dsimp only [tCons, tNil]
          refine ⟨_, rfl, a2, rfl, ⟨us, SqT.of e2⟩, fun i m2 xs H3 => i ≤ us.length ∧ m2 = us.length - i ∧ StR H H3 xs ((ts.take i).map fun t' => (t', lv - 1)) ∧ Same H2 H3, ⟨_, Nat.zero_le _, rfl, by simpa using StR.nil, Same.refl _⟩, fun i m2 xs H3 hW => ?_⟩
          obtain ⟨hi, hm2, hxs, s3⟩ := hW
          have hxl : xs.length ≤ 60 := by
            have := hxs.len
            rw [List.length_map, List.length_take] at this
            omega
          refine ⟨small (by omega), ?_⟩
          have e3 := s3 _ _ e2
          by_cases hlt : i < us.length
          · refine .inr ⟨⟨us, us[i], SqT.of e3, List.getElem?_eq_getElem hlt⟩, fun y H4 hy => ?_⟩
            obtain ⟨rfl, hy⟩ := hy
            have hy := hy us (SqT.of e3)
            have hti : ts[i]? = some ts[i] := List.getElem?_eq_getElem (by omega)
            refine iteT ?_
            refine ⟨_, rfl, _, rfl, _, _, rfl, rfl, (by show 2 ≤ sizeLine; decide), fun a5 ha5 => ?_⟩
            have s5 := Same.new (o := .tup [y, .int (lv - 1)]) ha5
            refine ⟨us.length - (i + 1), by omega, by omega, rfl, ?_, s3.trans s5⟩
            rw [take_snoc hti, List.map_append]
            exact (hxs.mono (same_tupsD s5)).app (StR.one (p := (ts[i], lv - 1)) upd_same (at0 i y ts[i] hy hti))
          · have ei : i = us.length := by omega
            refine .inl ⟨⟨us, SqT.of e3, by omega⟩, fun D hD => ?_⟩
            have et : ts.take i = ts := List.take_of_length_le (by omega)
            rw [et] at hxs
            have hl3 := s3 _ _ hl2
            have hl4 : upd H3 D (.lst xs) l = some (.lst vs') := by rw [upd_ne (ne_of_none hl3 hD)]; exact hl3
            refine ⟨l, D, vs', xs, rfl, rfl, hl4, upd_same, ?_, ?_⟩
            · have h60 : vs'.length ≤ 60001 := by omega
              exact small (by omega)
            · have s4 := Same.new (o := .lst xs) hD
              have t5 := tups_put (o := .lst (vs' ++ xs)) hl4
              refine ⟨nds ps' + tnodes ts, ?_, vs' ++ xs, ps' ++ ts.map (fun t' => (t', lv - 1)), whole + 1, _, _, _, rfl, upd_same, ?_, ?_, by omega, ?_, ?_, ?_, ?_, ?_⟩
              · have : (T.tup ts).nodes = 1 + tnodes ts := rfl
                have h9 : nds (ps' ++ [(T.tup ts, lv)]) = nds ps' + (T.tup ts).nodes := hnd
                omega
              · exact ((((hst2.mono (same_tupsD s3)).mono (same_tupsD s4)).mono t5)).app ((hxs.mono (same_tupsD s4)).mono t5)
              · rw [nds_app, nds_map]
              · have : aloneSz (T.tup ts) = 1 := rfl
                have c4 : ¬ (1000 : Int) < whole + aloneSz (T.tup ts) := c3
                omega
              · rw [List.length_append]
                omega
              · intro p' hp'
                rcases List.mem_append.mp hp' with hp' | hp'
                · exact hsm' p' hp'
                · obtain ⟨t', ht', rfl⟩ := List.mem_map.mp hp'
                  exact Sms_mem (show Sms ts from (show ts.length ≤ 100000 ∧ Sms ts from smp).2) t' ht'
              · rw [← hval, vb]
                unfold valB
                rw [fts_app, fts_map, szs_app, szs_map]
                have f1 : fitsB (T.tup ts) lv = fitsA ts (lv - 1) := by
                  show (decide (ts.length ≤ 60) && decide (0 < lv) && fitsA ts (lv - 1)) = _
                  rw [decide_eq_true ha60, decide_eq_true hlv0]
                  rfl
                have f2 : (T.tup ts).size = 1 + tsizes ts := rfl
                show _ = ((fts ps' && fitsB (T.tup ts) lv) && decide (whole + (szs ps' + (T.tup ts).size) ≤ 1000))
                rw [f1, f2]
                congr 2
                rw [eq_iff_iff]
                constructor <;> intro h <;> omega
              · exact same_putD ((sH2.trans s3).trans s4) hlH
  · have c1 : ¬ (0 : Int) < vs.length := of_decide_eq_false (Bool.eq_false_iff.mpr c)
    have hv0 : vs = [] := List.length_eq_zero_iff.mp (by omega)
    have hp0 : ps = [] := List.length_eq_zero_iff.mp (by rw [← hst.len, hv0]; rfl)
    have : isWorthB t = true := by
      rw [← hval, hp0]
      unfold valB
      simp only [fts, szs, Bool.true_and]
      exact decide_eq_true (by omega)
    have fin := q _ sH
    rw [this] at fin
    exact fin
end
end D

set_option Elab.async false
set_option linter.all false
set_option maxRecDepth 100000
set_option maxHeartbeats 4000000
namespace L2
open PySem PySem.Spec PyProof.Rows PySem.Builtin
section
variable {prog : Program} {w : World} {A : Around} {E : Value → Shared → Prop} {s : Shared}
end
/-- t * k, t of one item or more, k above 1 -/
def rRepT (K : PySem.W.Frag) : R2 := fun x y H Q => ∃ (a : Addr) (k : Int) (xs : List V), x = .ref a ∧ y = .int k ∧ SqT K H a xs ∧ xs ≠ [] ∧ 1 < k ∧ k < 1000000 ∧ xs.length * k.toNat ≤ 1000000 ∧ ∀ p, H p = none → Q (.ref p) (upd H p (.tup (List.replicate k.toNat xs).flatten))
end L2

set_option Elab.async false
set_option linter.all false
set_option maxRecDepth 100000
set_option maxHeartbeats 4000000
namespace L2
open PySem PySem.Spec PyProof.Rows
theorem strsAre_of {ys : List Str} : ∀ {us : List Value}, Vals (ys.map V.str) us → StrsAre us ys := by
  induction ys with
  | nil => intro us r; rw [List.map_nil] at r; cases r; exact .nil
  | cons n ns ih =>
    intro us r
    rw [List.map_cons] at r
    cases r with
    | cons r1 r2 =>
      obtain ⟨t, e⟩ := r1
      subst e
      exact .cons n t (ih r2)
theorem mt_join {X : Cx} : MtR X "str.join" (fun x xs H Q => ∃ (sep : Str) (p : Addr) (ys : List Str), x = .str sep ∧ xs = [.ref p] ∧ SqL X.K H p (ys.map V.str) ∧ (ys.map (·.length)).sum + ys.length * sep.length ≤ 16777216 ∧ Q (.str (Txt.join sep ys)) H) := by
  intro pins s σ H x xs v us Q I rx rv h
  obtain ⟨sep, p, ys, rfl, rfl, hq, hz, q⟩ := h
  obtain ⟨t, rfl⟩ := rx
  obtain ⟨u, rfl, ru⟩ := vals1 rv
  cases ru
  obtain ⟨its, r, pl, _⟩ := I.list hq
  exact PyProof.Rows.join_list pl.isList (by simpa using strsAre_of r) hz fun t' k => ⟨.str _, H, I.tok k, ⟨t', rfl⟩, q⟩
/-- a comprehension without tests over range(n) -/
theorem rd_mapR {fr : List Nat} {ta : TA} {te : TE} {σ : St} {H : Hp} {Q : VK} (outs : List V) (hσ : ∀ R : List V → Hp → Prop, R [.int outs.length] H → ta σ H R) (hz : outs.length ≤ 1000000)
    (step : ∀ (i : Nat) (y : V) (H1 : Hp) (R : VK), outs[i]? = some y → Same H H1 → (∀ H2, Same H1 H2 → R y H2) → te (some (.int (0 + (i : Int))) :: frees fr σ) H1 R)
    (fin : ∀ (H1 : Hp) (D : Addr), Same H H1 → H1 D = none → Q (.ref D) (upd H1 D (.lst outs))) : tLComp fr (iRng1 ta) (fun _ H Q => Q true H) te σ H Q := by
  have hz2 : outs.length ≤ sizeLine := Nat.le_trans hz (by decide)
  refine hσ _ ⟨outs.length, rfl, by omega, by omega, fun i m us H1 => i ≤ outs.length ∧ m = outs.length - i ∧ us = outs.take i ∧ Same H H1, ⟨_, Nat.zero_le _, rfl, by simp, Same.refl _⟩, fun i m us H1 hW => ?_⟩
  obtain ⟨hi, hm, hu, sm⟩ := hW
  refine ⟨by rw [hu, List.length_take]; omega, ?_⟩
  by_cases hlt : i < outs.length
  · refine .inr ⟨(by show i < (outs.length : Int).toNat; omega), fun v H' hy => ?_⟩
    obtain ⟨rfl, rfl⟩ := hy
    have hy : outs[i]? = some outs[i] := List.getElem?_eq_getElem hlt
    refine iteT ?_
    refine step i outs[i] H' _ hy sm fun H2 s2 => ⟨outs.length - (i + 1), by omega, by omega, rfl, ?_, sm.trans s2⟩
    rw [hu, take_snoc hy]
  · refine .inl ⟨(by show (outs.length : Int).toNat ≤ i; omega), fun D hD => ?_⟩
    have e2 : us = outs := by rw [hu, List.take_of_length_le (by omega)]
    rw [e2]
    exact fin H1 D sm hD
end L2
namespace D
open PySem L2
/-! ### worths that are equal -/
mutual
def eqW : W → W → Bool
  | .num i, .num j => i == j
  | .txt x, .txt y => x == y
  | .lst ws, .lst zs => eqWs ws zs
  | .num _, .txt _ => false
  | .num _, .lst _ => false
  | .txt _, .num _ => false
  | .txt _, .lst _ => false
  | .lst _, .num _ => false
  | .lst _, .txt _ => false
def eqWs : List W → List W → Bool
  | [], [] => true
  | w :: r, z :: s => eqW w z && eqWs r s
  | [], _ :: _ => false
  | _ :: _, [] => false
end
mutual
theorem eqW_refl : ∀ w : W, eqW w w = true
  | .num i => by simp [eqW]
  | .txt x => by simp [eqW]
  | .lst ws => eqWs_refl ws
theorem eqWs_refl : ∀ ws : List W, eqWs ws ws = true
  | [] => rfl
  | w :: r => by simp only [eqWs, eqW_refl w, eqWs_refl r, Bool.and_self]
end
mutual
theorem eqW_symm : ∀ w z : W, eqW w z = eqW z w
  | .num i, .num j => by simp only [eqW]; exact BEq.comm
  | .txt x, .txt y => by simp only [eqW]; exact BEq.comm
  | .lst ws, .lst zs => by simp only [eqW]; exact eqWs_symm ws zs
  | .num _, .txt _ => rfl
  | .num _, .lst _ => rfl
  | .txt _, .num _ => rfl
  | .txt _, .lst _ => rfl
  | .lst _, .num _ => rfl
  | .lst _, .txt _ => rfl
theorem eqWs_symm : ∀ ws zs : List W, eqWs ws zs = eqWs zs ws
  | [], [] => rfl
  | w :: r, z :: s => by simp only [eqWs, eqW_symm w z, eqWs_symm r s]
  | [], _ :: _ => rfl
  | _ :: _, [] => rfl
end
end D

set_option Elab.async false
set_option linter.all false
set_option maxRecDepth 100000
set_option maxHeartbeats 4000000
namespace L2
open PySem PySem.Spec PyProof.Rows
/-- isinstance, of a tuple that the module holds too -/
def rIsiS (K : PySem.W.Frag) (xs : List V) (H : Hp) (Q : VK) : Prop := ∃ v T A b, xs = [v, .ty T] ∧ (TyOf K H v (.type A) ∨ (A = "tuple" ∧ ∃ a ys, v = .ref a ∧ SqT K H a ys)) ∧ isi A T = some b ∧ Q (.bl b) H
end L2

set_option Elab.async false
set_option linter.all false
set_option maxRecDepth 100000
set_option maxHeartbeats 4000000
namespace D
open PySem L2
/-! ### things of this law: worths, perhaps too great -/
mutual
def W.Th : W → Prop
  | .num _ => True
  | .txt x => x.length ≤ 100000 ∧ Signs x
  | .lst ws => ws.length ≤ 1000 ∧ Ths ws
def Ths : List W → Prop
  | [] => True
  | w :: r => w.Th ∧ Ths r
end
mutual
theorem th_of : ∀ w : W, w.Ok → w.Th
  | .num _, _ => trivial
  | .txt _, h => ⟨Nat.le_trans h.1 (by decide), h.2⟩
  | .lst ws, h => ⟨Nat.le_trans h.1 (by decide), ths_of ws h.2⟩
theorem ths_of : ∀ ws : List W, Oks ws → Ths ws
  | [], _ => trivial
  | w :: r, h => ⟨th_of w h.1, ths_of r h.2⟩
end
mutual
def fitsW : W → Bool
  | .num i => decide (-(10 ^ 60) < i ∧ i < 10 ^ 60)
  | .txt x => decide (x.length ≤ 400)
  | .lst ws => decide (ws.length ≤ 60) && fitsWs ws
def fitsWs : List W → Bool
  | [] => true
  | w :: r => fitsW w && fitsWs r
end
mutual
def W.toT : W → T
  | .num i => .num i
  | .txt x => .txt x
  | .lst ws => .tup (toTs ws)
def toTs : List W → List T
  | [] => []
  | w :: r => w.toT :: toTs r
end
theorem toTs_map : ∀ ws : List W, toTs ws = ws.map W.toT
  | [] => rfl
  | w :: r => by simp only [toTs, List.map_cons, toTs_map r]
theorem toTs_len (ws : List W) : (toTs ws).length = ws.length := by rw [toTs_map, List.length_map]
mutual
theorem size_toT : ∀ w : W, w.toT.size = w.size
  | .num _ => rfl
  | .txt _ => rfl
  | .lst ws => by simp only [W.toT, T.size, W.size, sizes_toT ws]
theorem sizes_toT : ∀ ws : List W, tsizes (toTs ws) = sizes ws
  | [] => rfl
  | w :: r => by simp only [toTs, tsizes, sizes, size_toT w, sizes_toT r]
end
mutual
theorem sm_toT : ∀ w : W, w.Th → w.toT.Sm
  | .num _, _ => trivial
  | .txt _, h => h.1
  | .lst ws, h => ⟨by rw [toTs_len]; exact Nat.le_trans h.1 (by decide), sms_toT ws h.2⟩
theorem sms_toT : ∀ ws : List W, Ths ws → Sms (toTs ws)
  | [], _ => trivial
  | w :: r, h => ⟨sm_toT w h.1, sms_toT r h.2⟩
end
theorem okSigns_of {x : Str} (h : Signs x) : okSigns x = true := by
  unfold okSigns
  rw [List.all_eq_true]
  intro c hc
  have := h c hc
  simp [signB, this]
mutual
theorem fits_toT : ∀ (w : W) (lv : Nat), w.Th → fitsB w.toT (lv : Int) = (fitsW w && decide (w.depth ≤ lv))
  | .num i, lv, _ => by
    show decide (-(10 ^ 60) < i ∧ i < 10 ^ 60) = (decide (-(10 ^ 60) < i ∧ i < 10 ^ 60) && decide (0 ≤ lv))
    rw [decide_eq_true (Nat.zero_le lv), Bool.and_true]
  | .txt x, lv, h => by
    show (decide (x.length ≤ 400) && okSigns x) = (decide (x.length ≤ 400) && decide (0 ≤ lv))
    rw [okSigns_of h.2, decide_eq_true (Nat.zero_le lv)]
  | .lst ws, lv, h => by
    show (decide ((toTs ws).length ≤ 60) && decide (0 < (lv : Int)) && fitsA (toTs ws) ((lv : Int) - 1)) = ((decide (ws.length ≤ 60) && fitsWs ws) && decide (1 + depths ws ≤ lv))
    rw [toTs_len]
    cases lv with
    | zero =>
      rw [decide_eq_false (show ¬ (0 : Int) < ((0 : Nat) : Int) by omega), decide_eq_false (show ¬ 1 + depths ws ≤ 0 by omega)]
      simp
    | succ n =>
      have e : ((n + 1 : Nat) : Int) - 1 = (n : Int) := by omega
      rw [decide_eq_true (show (0 : Int) < ((n + 1 : Nat) : Int) by omega), e, fits_toTs ws n h.2, Bool.and_true, ← Bool.and_assoc]
      congr 2
      rw [eq_iff_iff]
      constructor <;> intro h <;> omega
theorem fits_toTs : ∀ (ws : List W) (lv : Nat), Ths ws → fitsA (toTs ws) (lv : Int) = (fitsWs ws && decide (depths ws ≤ lv))
  | [], lv, _ => by
    show true = (true && decide (0 ≤ lv))
    rw [decide_eq_true (Nat.zero_le lv)]
    rfl
  | w :: r, lv, h => by
    show (fitsB w.toT lv && fitsA (toTs r) lv) = ((fitsW w && fitsWs r) && decide (max w.depth (depths r) ≤ lv))
    rw [fits_toT w lv h.1, fits_toTs r lv h.2]
    have e : decide (max w.depth (depths r) ≤ lv) = (decide (w.depth ≤ lv) && decide (depths r ≤ lv)) := by
      rw [Bool.eq_iff_iff, Bool.and_eq_true, decide_eq_true_iff, decide_eq_true_iff, decide_eq_true_iff]
      omega
    rw [e]
    cases fitsW w <;> cases fitsWs r <;> cases decide (w.depth ≤ lv) <;> cases decide (depths r ≤ lv) <;> rfl
end
def goodW (x : W) : Bool := fitsW x && (decide (x.size ≤ 1000) && decide ((x.depth : Int) ≤ 12))
theorem isWorth_toT {x : W} (h : x.Th) : isWorthB x.toT = goodW x := by
  unfold isWorthB goodW
  have := fits_toT x 12 h
  rw [show (12 : Int) = ((12 : Nat) : Int) from rfl, this, size_toT]
  have e : decide ((x.depth : Int) ≤ ((12 : Nat) : Int)) = decide (x.depth ≤ 12) := by
    rw [Bool.eq_iff_iff, decide_eq_true_iff, decide_eq_true_iff]
    omega
  rw [e]
  cases fitsW x <;> cases decide (x.depth ≤ 12) <;> cases decide (x.size ≤ 1000) <;> rfl
theorem RW.toRT {H : Hp} {v : V} {x : W} (h : RW H v x) : RT H v x.toT := by
  induction h with
  | num i => exact .num i
  | txt x => exact .txt x
  | @lst a vs ws e l _ ih =>
    refine .tup e (by rw [toTs_len]; exact l) fun i v t hv ht => ?_
    rw [toTs_map, List.getElem?_map] at ht
    obtain ⟨w, hw, rfl⟩ := Option.map_eq_some_iff.mp ht
    exact ih i v w hv hw
/-- v stands for w, where the module's own tuples count too -/
inductive RS (K : PySem.W.Frag) (H : Hp) : V → W → Prop where
  | num (i : Int) : RS K H (.int i) (.num i)
  | txt (x : Str) : RS K H (.str x) (.txt x)
  | lst {a : Addr} {vs : List V} {ws : List W} : SqT K H a vs → vs.length = ws.length → (∀ (i : Nat) (v : V) (w : W), vs[i]? = some v → ws[i]? = some w → RS K H v w) → RS K H (.ref a) (.lst ws)
theorem same_tups {H H' : Hp} (s : Same H H') : Tups H H' := fun a vs e => s a _ e
def greatW : W := .lst [.txt "wrong", .txt "great", .txt ""]
def madeW (x : W) : W := if goodW x = true then .lst [.txt "made", x] else greatW
/-! ### promises -/
def spLSize (n : Nat) : Sp := fun vs H Q _ => ∃ (v : V) (x : W), vs = [v] ∧ RW H v x ∧ x.Th ∧ x.depth < n ∧ ∀ H', Same H H' → Q (.int x.size) H'
def spLDepth (n : Nat) : Sp := fun vs H Q _ => ∃ (v : V) (x : W), vs = [v] ∧ RW H v x ∧ x.Th ∧ x.depth < n ∧ ∀ H', Same H H' → Q (.int x.depth) H'
def spLFits (n : Nat) : Sp := fun vs H Q _ => ∃ (v : V) (x : W), vs = [v] ∧ RW H v x ∧ x.Th ∧ x.depth < n ∧ ∀ H', Same H H' → Q (.bl (fitsW x)) H'
/-- a worth, where a pair's second item is tracked -/
def RM (K : PySem.W.Frag) (H : Hp) (v : V) (w : W) : Prop := RS K H v w ∧ ∀ m x, w = .lst [m, x] → ∃ a u, v = .ref a ∧ SqT K H a [.str "made", u] ∧ RW H u x
def spMade (K : PySem.W.Frag) (n : Nat) : Sp := fun vs H Q _ => ∃ (v : V) (x : W), vs = [v] ∧ RW H v x ∧ x.Th ∧ x.depth < n ∧ ∀ (u : V) (H' : Hp), Same H H' → RM K H' u (madeW x) → Q u H'
def spLSame (K : PySem.W.Frag) (n : Nat) : Sp := fun vs H Q _ => ∃ (u v : V) (x : W), vs = [u, v] ∧ RS K H u x ∧ RS K H v x ∧ x.Th ∧ x.depth < n ∧ ∀ H', Same H H' → Q (.bl true) H'
end D

set_option Elab.async false
set_option linter.all false
set_option maxRecDepth 100000
set_option maxHeartbeats 4000000
namespace D
open PySem L2
section
variable {P : Program} {w : World} {K : PySem.W.Frag} {mg : Str → Option Value} {base : Heap} {f : Addr} {fd : FuncData} {k : Nat}
end
end D

set_option Elab.async false
set_option linter.all false
set_option maxRecDepth 100000
set_option maxHeartbeats 4000000
namespace L2
open PySem PySem.Spec PyProof.Rows
section
variable {prog : Program} {w : World} {A : Around} {E : Value → Shared → Prop} {s : Shared}
open HT in
end
end L2
namespace D
open PySem L2
end D

set_option Elab.async false
set_option linter.all false
set_option maxRecDepth 100000
set_option maxHeartbeats 4000000
namespace L2
open PySem PySem.Spec PyProof.Rows
structure QSs (X : Cx) (st : List Stmt) (t : TS) : Prop where
  un : PSs X st t
structure QIfs (X : Cx) (ifs : List Expr) (t : TT) : Prop where
  un : PIfs X ifs t
structure QPs (X : Cx) (pos : Pos) (keys : List (Option Expr)) (values : List Expr) (trs : List (TE × TE)) : Prop where
  un : PPs X pos keys values trs
structure QGs (X : Cx) (ts : List Expr) (t : TGs) : Prop where
  un : PGs X ts t
structure QE (X : Cx) (e : Expr) (t : TE) : Prop where
  un : PE X e t
structure QT (X : Cx) (e : Expr) (t : TT) : Prop where
  un : PT X e t
structure QW (X : Cx) (e : Expr) (t : TT) : Prop where
  un : PW X e t
structure QA (X : Cx) (es : List Expr) (t : TA) : Prop where
  un : PA X es t
structure QS (X : Cx) (st : Stmt) (t : TS) : Prop where
  un : PS X st t
structure QI (X : Cx) (tg iter : Expr) (wi : TI) : Prop where
  un : PI X tg iter wi
structure QG (X : Cx) (tg : Expr) (t : TG) : Prop where
  un : PG X tg t
structure QO (X : Cx) (e : Option Expr) (t : TO) : Prop where
  un : PO X e t
structure QC (X : Cx) (op : CmpOp) (a b : Expr) (t : TE) : Prop where
  un : PC X op a b t
theorem Fun.okQ {P : Program} {w : World} {K : PySem.W.Frag} {mg : Str → Option Value} {base : Heap} {x qual : Str} {st : Stmt} {f : Addr} {fd : FuncData} {N ps : List Str} {k : Nat} {sp : Sp} (F : Fun K x qual st f fd) (sc : FnScope N ps (defScope st)) (h1 : ∀ (vs : List V) (H : Hp) (Q : VK) (E : XK), sp vs H Q E → vs.length = ps.length)
    (h2 : ∀ (cdv : Value) (A : Around) (outer : List Env) (s : Shared) (H : Hp) (vs : List V) (Q : VK) (E : XK), Room k (A.deeper (PyProof.Rows.envOfC qual (defScope st) s.heap.objs.size f cdv)) → sp vs H Q E →
      ∃ t : TS, QSs (cxOf CX0 P w K mg base N qual (defScope st) f cdv A outer s H E).nox (defBody st) t ∧ t { nx := fun _ H' => Q V.non H', rt := Q } (L2.start N vs) H) : FnOk P w K mg base CX0 (k + 1) f fd ps sp :=
  F.ok sc h1 fun cdv A outer s H vs Q E hr h => let ⟨t, a, b⟩ := h2 cdv A outer s H vs Q E hr h; ⟨t, a.un, b⟩
theorem pe_globS {X : Cx} {x : Str} {z : Str} {pos : Pos} (hg : Gl X x) (hm : ∃ t, X.mg x = some (.str z t)) (hd : (x == ("__debug__" : Str)) = false := by decide) : PE X (.Name x pos) (tC (.str z)) := by
  obtain ⟨t, hm⟩ := hm
  exact pe_glob hg hm ⟨t, rfl⟩ hd
end L2
namespace D
open PySem L2
theorem pss_nil {X : Cx}  : QSs X [] tNext := ⟨L2.pss_nil ⟩
theorem pss_cons {X : Cx} {st : Stmt} {rest : List Stmt} {t u : TS} (h0 : QS X st t) (h1 : QSs X rest u) : QSs X (st :: rest) (tSeq t u) := ⟨L2.pss_cons h0.un h1.un⟩
theorem pss_one {X : Cx} {st : Stmt} {t : TS} (h0 : QS X st t) : QSs X [st] t := ⟨L2.pss_one h0.un⟩
theorem ps_ret {X : Cx} {e : Expr} {te : TE} {pos : Pos} (h0 : QE X e te) : QS X (Stmt.Return (some e) pos) (tRet te) := ⟨L2.ps_ret h0.un⟩
theorem ps_if {X : Cx} {t u : TS} {pos : Pos} {c : Expr} {a b : List Stmt} {tc : TT} (h0 : QT X c tc) (h1 : QSs X a t) (h2 : QSs X b u) : QS X (Stmt.If c a b pos) (tIfS tc t u) := ⟨L2.ps_if h0.un h1.un h2.un⟩
theorem ps_set {X : Cx} {pos : Pos} {i : Nat} {x : Str} {e : Expr} {te : TE} {pos' : Pos} (h0 : X.N.Nodup) (h1 : X.N[i]? = some x) (h2 : L2.Loc X.env.scope x) (h3 : QE X e te) (h4 : autoParam (swapsWith e (some (Expr.Name x pos')) pos.line X.env = pure false) L2.ps_set._auto_1) (h5 : autoParam (X.fn x = true ∨ List.lookup x X.env.scope.names = some NameKind.local) L2.ps_set._auto_2) : QS X (Stmt.Assign [Expr.Name x pos'] e pos) (tAsg te (gName i)) := ⟨L2.ps_set h0 h1 h2 h3.un h4 h5⟩
theorem ps_asg {X : Cx} {pos : Pos} {tg e : Expr} {te : TE} {g : TG} (h0 : QE X e te) (h1 : QG X tg g) (h2 : autoParam (swapsWithSole [tg] e pos.line X.env = pure false) L2.ps_asg._auto_1) (h3 : autoParam (swappedStores [tg] e X.env = pure none) L2.ps_asg._auto_2) (h4 : autoParam (List.map (fun (x : Bool × (Value → Sem Unit)) => x.snd) (assignEach [tg] X.env) = [assign tg X.env]) L2.ps_asg._auto_3) : QS X (Stmt.Assign [tg] e pos) (tAsg te g) := ⟨L2.ps_asg h0.un h1.un h2 h3 h4⟩
theorem ps_expr {X : Cx} {e : Expr} {te : TE} {pos : Pos} (h0 : QE X e te) (h1 : autoParam (swapsWith e none pos.line X.env = pure false) L2.ps_expr._auto_1) : QS X (Stmt.Expr e pos) (tDrop te) := ⟨L2.ps_expr h0.un h1⟩
theorem ps_for {X : Cx} {tg iter : Expr} {body : List Stmt} {wi : TI} {g : TG} {tb : TS} {pos : Pos} (h0 : PassesOwn (model X.prog X.w) X.A X.env X.xe) (h1 : X.calm = true) (h2 : QI X tg iter wi) (h3 : QG X tg g) (h4 : QSs X body tb) (h5 : autoParam (∀ (x : Value), foldedSetIterable iter X.env x = pure x) L2.ps_for._auto_1) : QS X (Stmt.For tg iter body [] pos) (tFor wi g tb) := ⟨L2.ps_for h0 h1 h2.un h3.un h4.un h5⟩
theorem ps_while {X : Cx} {pos : Pos} {c : Expr} {body : List Stmt} {tc : TT} {tb : TS} (h0 : PassesOwn (model X.prog X.w) X.A X.env X.xe) (h1 : QT X c tc) (h2 : QSs X body tb) : QS X (Stmt.While c body [] pos) (tWhile tc tb) := ⟨L2.ps_while h0 h1.un h2.un⟩
theorem ps_aug {X : Cx} {pos : Pos} {i : Nat} {x : Str} {e : Expr} {te : TE} {op : Operator} {ti : TIp} {pos' : Pos} (h0 : X.N.Nodup) (h1 : X.N[i]? = some x) (h2 : L2.Loc X.env.scope x) (h3 : QE X e te) (h4 : PIp X op ti) (h5 : autoParam (X.fn x = true ∨ List.lookup x X.env.scope.names = some NameKind.local) L2.ps_aug._auto_1) : QS X (Stmt.AugAssign (Expr.Name x pos') op e pos) (tAug i te ti) := ⟨L2.ps_aug h0 h1 h2 h3.un h4 h5⟩
theorem pe_int {X : Cx} {i : Int} {j : Nat} {pos : Pos}  : QE X (Expr.Constant (Const.int i) j pos) (tC (V.int i)) := ⟨L2.pe_int ⟩
theorem pe_str {X : Cx} {x : Str} {j : Nat} {pos : Pos}  : QE X (Expr.Constant (Const.str x) j pos) (tC (V.str x)) := ⟨L2.pe_str ⟩
theorem pe_bl {X : Cx} {b : Bool} {j : Nat} {pos : Pos}  : QE X (Expr.Constant (Const.bool b) j pos) (tC (V.bl b)) := ⟨L2.pe_bl ⟩
theorem pe_non {X : Cx} {j : Nat} {pos : Pos}  : QE X (Expr.Constant Const.none j pos) (tC V.non) := ⟨L2.pe_non ⟩
theorem pv {X : Cx} (i : Nat) {x : Str} {pos : Pos} (h0 : autoParam (X.N[i]? = some x) L2.pv._auto_1) (h1 : autoParam (Vis X.env.scope x) L2.pv._auto_2) (h2 : autoParam ((x == Str.ofString "__debug__") = false) L2.pv._auto_3) (h3 : autoParam ((x == Str.ofString "__classdict__") = false) L2.pv._auto_4) : QE X (Expr.Name x pos) (tVar i) := ⟨L2.pv i h0 h1 h2 h3⟩
theorem pe_glob {X : Cx} {x : Str} {v : V} {u : Value} {pos : Pos} (h0 : Gl X x) (h1 : X.mg x = some u) (h2 : RelV v u) (h3 : autoParam ((x == Str.ofString "__debug__") = false) L2.pe_glob._auto_1) : QE X (Expr.Name x pos) (tC v) := ⟨L2.pe_glob h0 h1 h2 h3⟩
theorem pe_globI {X : Cx} {x : Str} {i : Int} {pos : Pos} (h0 : Gl X x) (h1 : (∃ (t : Tok), X.mg x = some (Value.int i t))) (h2 : autoParam ((x == Str.ofString "__debug__") = false) L2.pe_globI._auto_1) : QE X (Expr.Name x pos) (tC (V.int i)) := ⟨L2.pe_globI h0 h1 h2⟩
theorem pe_ty {X : Cx} {x : Str} {T : String} {pos : Pos} (h0 : Gl X x) (h1 : X.mg x = none) (h2 : bootBuiltins x = some (Value.type T)) (h3 : autoParam (x ≠ Str.ofString "__name__") L2.pe_ty._auto_1) (h4 : autoParam ((x == Str.ofString "__debug__") = false) L2.pe_ty._auto_2) : QE X (Expr.Name x pos) (tC (V.ty T)) := ⟨L2.pe_ty h0 h1 h2 h3 h4⟩
theorem pe_op {X : Cx} {a b : Expr} {ta tb : TE} {pos : Pos} {op : Operator} {r : R2} (h0 : OpR X (binaryOp op) r) (h1 : QE X a ta) (h2 : QE X b tb) : QE X (a.BinOp op b pos) (tOp r ta tb) := ⟨L2.pe_op h0 h1.un h2.un⟩
theorem pe_un {X : Cx} {a : Expr} {ta : TE} {pos : Pos} {op : UnaryOp} {r : V → Hp → VK → Prop} (h0 : UnR X (unaryOp op) r) (h1 : QE X a ta) : QE X (Expr.UnaryOp op a pos) (tUn r ta) := ⟨L2.pe_un h0 h1.un⟩
theorem pe_cmpR {X : Cx} {a b : Expr} {ta tb : TE} {pos : Pos} {op : CmpOp} {r : R2} (h0 : OpR X (compareOp op) r) (h1 : QE X a ta) (h2 : QE X b tb) (h3 : behindInMarks op b = false) : QE X (a.Compare [op] [b] pos) (tOp r ta tb) := ⟨L2.pe_cmpR h0 h1.un h2.un h3⟩
theorem pt_cmpR {X : Cx} {a b : Expr} {ta tb : TE} {pos : Pos} {op : CmpOp} {r : R2} (h0 : OpR X (compareOp op) r) (h1 : QE X a ta) (h2 : QE X b tb) (h3 : behindInMarks op b = false) : QT X (a.Compare [op] [b] pos) (tTest (tOp r ta tb)) := ⟨L2.pt_cmpR h0 h1.un h2.un h3⟩
theorem pt_cmp {X : Cx} {a b : Expr} {pos : Pos} {op : CmpOp} {t : TE} (h0 : QC X op a b t) (h1 : autoParam (behindInMarks op b = false) L2.pt_cmp._auto_1) : QT X (a.Compare [op] [b] pos) (tB t) := ⟨L2.pt_cmp h0.un h1⟩
theorem pe_and {X : Cx} {a b : Expr} {ta tb : TE} {pos : Pos} {rest : List Expr} (h0 : QE X a ta) (h1 : QE X (Expr.BoolOp BoolOp.And (b :: rest) pos) tb) : QE X (Expr.BoolOp BoolOp.And (a :: b :: rest) pos) (tAndV ta tb) := ⟨L2.pe_and h0.un h1.un⟩
theorem pe_one {X : Cx} {a : Expr} {pos : Pos} {op : BoolOp} {t : TE} (h0 : QE X a t) : QE X (Expr.BoolOp op [a] pos) t := ⟨L2.pe_one h0.un⟩
theorem pe_not {X : Cx} {a : Expr} {ta : TE} {pos : Pos} (h0 : QE X a ta) : QE X (Expr.UnaryOp UnaryOp.Not a pos) (tNotV ta) := ⟨L2.pe_not h0.un⟩
theorem pe_ifExp {X : Cx} {a b : Expr} {ta tb : TE} {pos : Pos} {tA : TT} {c : Expr} (h0 : QT X c tA) (h1 : QE X a ta) (h2 : QE X b tb) : QE X (c.IfExp a b pos) (tIf tA ta tb) := ⟨L2.pe_ifExp h0.un h1.un h2.un⟩
theorem pt_val {X : Cx} {e : Expr} {t : TE} (h : QE X e t) (he : ∀ whole, isTrue e X.env whole = (do let v ← whole; standAt e.pos; holding [v] (truthy v)) := by intro _; rfl) : QT X e (tB t) := ⟨L2.pt_val h.un he⟩
theorem pt_not {X : Cx} {a : Expr} {pos : Pos} {tA : TT} (h0 : QT X a tA) : QT X (Expr.UnaryOp UnaryOp.Not a pos) (tNot tA) := ⟨L2.pt_not h0.un⟩
theorem pw_and {X : Cx} {a b : Expr} {pos : Pos} {tA tB' : TT} {rest : List Expr} (h0 : QT X a tA) (h1 : QW X (Expr.BoolOp BoolOp.And (b :: rest) pos) tB') : QW X (Expr.BoolOp BoolOp.And (a :: b :: rest) pos) (tAnd tA tB') := ⟨L2.pw_and h0.un h1.un⟩
theorem pw_and1 {X : Cx} {a : Expr} {pos : Pos} {tA : TT} (h0 : QT X a tA) : QW X (Expr.BoolOp BoolOp.And [a] pos) tA := ⟨L2.pw_and1 h0.un⟩
theorem pw_or {X : Cx} {a b : Expr} {pos : Pos} {tA tB' : TT} {rest : List Expr} (h0 : QT X a tA) (h1 : QW X (Expr.BoolOp BoolOp.Or (b :: rest) pos) tB') : QW X (Expr.BoolOp BoolOp.Or (a :: b :: rest) pos) (tOr tA tB') := ⟨L2.pw_or h0.un h1.un⟩
theorem pw_or1 {X : Cx} {a : Expr} {pos : Pos} {tA : TT} (h0 : QT X a tA) : QW X (Expr.BoolOp BoolOp.Or [a] pos) tA := ⟨L2.pw_or1 h0.un⟩
theorem PW.pt {X : Cx} {e : Expr} {t : TT} (h0 : QW X e t) : QT X e t := ⟨L2.PW.pt h0.un⟩
theorem pe_fn {X : Cx} {x : Str} {k : Nat} {ps : List Str} {sp : Sp} {e : Expr} {es : List Expr} {t : TA} {p pos : Pos} (h0 : Have X.prog X.w X.K X.mg X.base x k ps sp) (h1 : Room k X.A) (h2 : Gl X x) (h3 : QA X (e :: es) t) (h4 : autoParam ((x == Str.ofString "__debug__") = false) L2.pe_fn._auto_1) (h5 : autoParam (starEach (e :: es) X.env = (false, eval e X.env) :: starEach es X.env) L2.pe_fn._auto_2) (h6 : autoParam (((backTo pos (starEach es X.env)).any fun (x : Bool × Sem Value) => x.fst) = false) L2.pe_fn._auto_3) : QE X ((Expr.Name x p).Call (e :: es) [] pos) (tCall sp [] E0 t) := ⟨L2.pe_fn h0 h1 h2 h3.un h4 h5 h6⟩
theorem pe_callB {X : Cx} {x : Str} {p pos : Pos} {e : Expr} {es : List Expr} {t : TA} {id : String} {r : List V → Hp → VK → Prop} (h0 : CallR X (Value.builtin id) r) (h1 : Gl X x) (h2 : X.mg x = none) (h3 : bootBuiltins x = some (Value.builtin id)) (h4 : QA X (e :: es) t) (h5 : autoParam (x ≠ Str.ofString "__name__") L2.pe_callB._auto_1) (h6 : autoParam ((x == Str.ofString "__debug__") = false) L2.pe_callB._auto_2) (h7 : autoParam (starEach (e :: es) X.env = (false, eval e X.env) :: starEach es X.env) L2.pe_callB._auto_3) (h8 : autoParam (((backTo pos (starEach es X.env)).any fun (x : Bool × Sem Value) => x.fst) = false) L2.pe_callB._auto_4) : QE X ((Expr.Name x p).Call (e :: es) [] pos) (tCB r t) := ⟨L2.pe_callB h0 h1 h2 h3 h4.un h5 h6 h7 h8⟩
theorem pe_callTy {X : Cx} {x : Str} {p pos : Pos} {e : Expr} {es : List Expr} {t : TA} {T : String} {r : List V → Hp → VK → Prop} (h0 : CallR X (Value.type T) r) (h1 : Gl X x) (h2 : X.mg x = none) (h3 : bootBuiltins x = some (Value.type T)) (h4 : QA X (e :: es) t) (h5 : autoParam (x ≠ Str.ofString "__name__") L2.pe_callTy._auto_1) (h6 : autoParam ((x == Str.ofString "__debug__") = false) L2.pe_callTy._auto_2) (h7 : autoParam (starEach (e :: es) X.env = (false, eval e X.env) :: starEach es X.env) L2.pe_callTy._auto_3) (h8 : autoParam (((backTo pos (starEach es X.env)).any fun (x : Bool × Sem Value) => x.fst) = false) L2.pe_callTy._auto_4) : QE X ((Expr.Name x p).Call (e :: es) [] pos) (tCB r t) := ⟨L2.pe_callTy h0 h1 h2 h3 h4.un h5 h6 h7 h8⟩
theorem pe_bm {X : Cx} {o e : Expr} {es : List Expr} {to : TE} {t : TA} {name : Str} {apos cpos : Pos} {T id : String} {r : V → List V → Hp → VK → Prop} (pa : PlainAttrs T) (slot : Slot T name id) (hty : typeOf (.builtin id) = pure (.type "method_descriptor")) (hm : MtR X id r) (ho : QE X o to) (ha : QA X (e :: es) t)
    (hbase : attributeBase o name X.env (eval o X.env) = eval o X.env := by rfl)
    (hfew : ((backTo cpos (starEach (e :: es) X.env)).all (fun x => !x.1) && (backToKw cpos (keywordEach [] X.env)).all (fun x => x.1.isSome)
      && decide ((e :: es).length + ([] : List Keyword).length + (if ([] : List Keyword).isEmpty then 0 else 1) < 30)) = true := by rfl)
    (hline : (apos.endLine == cpos.line) = true := by rfl) (hs : starEach (e :: es) X.env = (false, eval e X.env) :: starEach es X.env := by rfl) (hplain : (backTo cpos (starEach es X.env)).any (·.1) = false := by rfl) :
    QE X (.Call (.Attribute o name apos) (e :: es) [] cpos) (tBM X.K T r to t) := ⟨L2.pe_bm pa slot hty hm ho.un ha.un hbase hfew hline hs hplain⟩
theorem pe_bm0 {X : Cx} {o : Expr} {to : TE} {name : Str} {apos cpos : Pos} {T id : String} {r : V → List V → Hp → VK → Prop} (h0 : PlainAttrs T) (h1 : Slot T name id) (h2 : typeOf (Value.builtin id) = pure (Value.type "method_descriptor")) (h3 : MtR X id r) (h4 : QE X o to) (h5 : autoParam (attributeBase o name X.env (eval o X.env) = eval o X.env) L2.pe_bm0._auto_1) (h6 : autoParam ((apos.endLine == cpos.line) = true) L2.pe_bm0._auto_2) : QE X ((o.Attribute name apos).Call [] [] cpos) (tBM0 X.K T r to) := ⟨L2.pe_bm0 h0 h1 h2 h3 h4.un h5 h6⟩
theorem pe_ix {X : Cx} {a b : Expr} {ta tb : TE} {pos : Pos} {r : R2} (h0 : IxR X r) (h1 : QE X a ta) (h2 : QE X b tb) (h3 : PlainIx b) : QE X (a.Subscript b pos) (tOp r ta tb) := ⟨L2.pe_ix h0 h1.un h2.un h3⟩
theorem pe_slice {X : Cx} {e : Expr} {te : TE} {lo hi : Option Expr} {tl th : TO} {pos p2 : Pos} {r : V → Option Int → Option Int → Hp → VK → Prop} (h0 : SlR X r) (h1 : QE X e te) (h2 : QO X lo tl) (h3 : QO X hi th) : QE X (e.Subscript (Expr.Slice lo hi none p2) pos) (tSl r te tl th) := ⟨L2.pe_slice h0 h1.un h2.un h3.un⟩
theorem po_none {X : Cx}  : QO X none tNoPart := ⟨L2.po_none ⟩
theorem po_some {X : Cx} {e : Expr} {te : TE} (h0 : QE X e te) : QO X (some e) (tPart te) := ⟨L2.po_some h0.un⟩
theorem pe_lst {X : Cx} {es : List Expr} {t : TA} {pos : Pos} (h0 : QA X es t) : QE X (Expr.List es pos) (tLst t) := ⟨L2.pe_lst h0.un⟩
theorem pe_tup {X : Cx} {es : List Expr} {t : TA} {pos : Pos} {x1 : Nat} (h0 : QA X es t) : QE X (Expr.Tuple es x1 pos) (tTup t) := ⟨L2.pe_tup h0.un⟩
theorem pa_nil {X : Cx}  : QA X [] tNil := ⟨L2.pa_nil ⟩
theorem pa_cons {X : Cx} {e : Expr} {es : List Expr} {te : TE} {t : TA} (h0 : QE X e te) (h1 : QA X es t) (h2 : autoParam (starEach (e :: es) X.env = (false, eval e X.env) :: starEach es X.env) L2.pa_cons._auto_1) : QA X (e :: es) (tCons te t) := ⟨L2.pa_cons h0.un h1.un h2⟩
theorem pc_isN {X : Cx} {a : Expr} {ta : TE} {j : Nat} {pos' : Pos} (h0 : QE X a ta) : QC X CmpOp.Is a (Expr.Constant Const.none j pos') (tIsN ta) := ⟨L2.pc_isN h0.un⟩
theorem pc_notN {X : Cx} {a : Expr} {ta : TE} {j : Nat} {pos' : Pos} (h0 : QE X a ta) : QC X CmpOp.IsNot a (Expr.Constant Const.none j pos') (tNotN ta) := ⟨L2.pc_notN h0.un⟩
theorem pe_lcomp {X : Cx} {elt iter : Expr} {x : Str} {px pos : Pos} {ifs : List Expr} {scope : Scope} {cl : List (Str × Addr)} (fr : List Nat) (ys : List Str) {wi : TI} {tt : TT} {te : TE} (h0 : X.calm = true) (h1 : closureFor scope X.env = pure cl) (h2 : (∀ (y : Str × NameKind), y ∈ scope.names → y.snd ≠ NameKind.cell)) (h3 : scope.kind = ScopeKind.function) (h4 : (∀ (y : Str × NameKind), y ∈ scope.names → y.snd = NameKind.local → List.lookup y.fst scope.names = some NameKind.local)) (h5 : List.lookup x scope.names = some NameKind.local) (h6 : (x :: ys).Nodup) (h7 : ClOk cl X.env.cells) (h8 : (scope.names.all fun (y : Str × NameKind) => y.snd != NameKind.free || (List.lookup y.fst cl).isSome) = true) (h9 : FrOk X scope cl fr ys) (h10 : QI X (Expr.Name x px) iter wi) (h11 : (∀ (C : Addr) (s : Shared) (H : Hp) (fp : List Addr), QIfs (cxComp X scope cl (x :: ys) C s H fp) ifs tt ∧ QE (cxComp X scope cl (x :: ys) C s H fp) elt te)) (h12 : autoParam (∀ (v : Value), foldedSetIterable iter X.env v = pure v) L2.pe_lcomp._auto_1) : QE X (elt.ListComp [{ target := Expr.Name x px, iter := iter, ifs := ifs, is_async := 0 }] scope pos) (tLComp fr wi tt te) := ⟨L2.pe_lcomp fr ys h0 h1 h2 h3 h4 h5 h6 h7 h8 h9 h10.un (fun C s H fp => ⟨(h11 C s H fp).1.un, (h11 C s H fp).2.un⟩) h12⟩
theorem pifs_nil {X : Cx}  : QIfs X [] fun (x : St) (H : Hp) (Q : Bool → Hp → Prop) => Q true H := ⟨L2.pifs_nil ⟩
theorem pifs_one {X : Cx} {c : Expr} {t : TT} (h0 : QT X c t) : QIfs X [c] t := ⟨L2.pifs_one h0.un⟩
theorem pi_list {X : Cx} {tg l : Expr} {tl : TE} (h0 : QE X l tl) : QI X tg l (iList X.K tl) := ⟨L2.pi_list h0.un⟩
theorem pi_tup {X : Cx} {tg l : Expr} {tl : TE} (h0 : QE X l tl) : QI X tg l (iTup X.K tl) := ⟨L2.pi_tup h0.un⟩
theorem pi_str {X : Cx} {tg e : Expr} {te : TE} (h0 : QE X e te) : QI X tg e (iStr te) := ⟨L2.pi_str h0.un⟩
theorem pi_range1 {X : Cx} {tg a : Expr} {ta : TA} {p pos : Pos} (h0 : Gl X (Str.ofString "range")) (h1 : X.mg (Str.ofString "range") = none) (h2 : QA X [a] ta) (h3 : autoParam (starEach [a] X.env = [(false, eval a X.env)]) L2.pi_range1._auto_1) : QI X tg ((Expr.Name (Str.ofString "range") p).Call [a] [] pos) (iRng1 ta) := ⟨L2.pi_range1 h0 h1 h2.un h3⟩
theorem pi_range2 {X : Cx} {tg a b : Expr} {ta : TA} {p pos : Pos} (h0 : Gl X (Str.ofString "range")) (h1 : X.mg (Str.ofString "range") = none) (h2 : QA X [a, b] ta) (h3 : autoParam (starEach [a, b] X.env = [(false, eval a X.env), (false, eval b X.env)]) L2.pi_range2._auto_1) (h4 : autoParam (starEach [b] X.env = [(false, eval b X.env)]) L2.pi_range2._auto_2) : QI X tg ((Expr.Name (Str.ofString "range") p).Call [a, b] [] pos) (iRng2 ta) := ⟨L2.pi_range2 h0 h1 h2.un h3 h4⟩
theorem pg_name {X : Cx} {pos : Pos} {i : Nat} {x : Str} (h0 : X.N.Nodup) (h1 : X.N[i]? = some x) (h2 : L2.Loc X.env.scope x) (h3 : autoParam (X.fn x = true ∨ List.lookup x X.env.scope.names = some NameKind.local) L2.pg_name._auto_1) : QG X (Expr.Name x pos) (gName i) := ⟨L2.pg_name h0 h1 h2 h3⟩
theorem pg_sub {X : Cx} {pos : Pos} {o i : Expr} {to ti : TE} {t : TSet} (ho : QE X o to) (hi : QE X i ti) (hs : PSet X t)
    (ha : ∀ v, assign (.Subscript o i pos) X.env v = (do
      let ov ← holding [v] (eval o X.env)
      let iv ← holding [v, ov] (eval i X.env)
      standAt pos
      holding [v, ov, iv] (setItem ov iv v)
      release [v, ov, iv] []) := by intro _; rfl) : QG X (.Subscript o i pos) (gSub to ti t) := ⟨L2.pg_sub ho.un hi.un hs ha⟩
theorem pe_globS {X : Cx} {x : Str} {z : Str} {pos : Pos} (hg : Gl X x) (hm : ∃ t, X.mg x = some (.str z t)) (hd : (x == ("__debug__" : Str)) = false := by decide) : QE X (.Name x pos) (tC (.str z)) := ⟨L2.pe_globS hg hm hd⟩
end D

set_option Elab.async false
set_option linter.all false
set_option maxRecDepth 100000
set_option maxHeartbeats 4000000
namespace L2
open PySem PySem.Spec PyProof.Rows
/-! ### a module's dict of texts -/
def MD (P : Program) (w : World) (K : PySem.W.Frag) (g : Addr) (kvs : List (Key × V)) : Prop :=
  ∃ (o : Obj) (vs : List (Key × Value)), K.lookup g = some o ∧ PySem.Obj.IsDictOf (mixKind P w) o vs ∧ KV kvs vs ∧ (g == sysModules) = false
/-! ### a call of a value that is a def -/
def HaveF (P : Program) (w : World) (K : PySem.W.Frag) (mg : Str → Option Value) (base : Heap) (f : Addr) (k : Nat) (ps : List Str) (sp : Sp) : Prop := ∃ fd : FuncData, FnOk P w K mg base CX0 k f fd ps sp ∧ Binds K fd ps [] ∧ PySem.W.keepIn K (.ref f) = true
def tCallF (P : Program) (w : World) (K : PySem.W.Frag) (mg : Str → Option Value) (base : Heap) (k : Nat) (tf : TE) (t : TA) : TE := fun σ H Q => tf σ H fun x H1 => ∃ (f : Addr) (ps : List Str) (sp : Sp), x = .ref f ∧ HaveF P w K mg base f k ps sp ∧ t σ H1 fun vs H2 => sp vs H2 Q E0
end L2
namespace D
open PySem L2
end D

set_option Elab.async false
set_option linter.all false
set_option maxRecDepth 100000
set_option maxHeartbeats 4000000
namespace L2
open PySem PySem.Spec PyProof.Rows PySem.Builtin PySem.Builtin.Str
def CDivNB (i j : Int) : Prop := j ≠ 0 ∧ j.natAbs.log2 < 9000
/-- two texts, or two tuples, one behind the other -/
def rJoin (K : PySem.W.Frag) : R2 := fun x y H Q => (∃ i j, x = .str i ∧ y = .str j ∧ i.length + j.length ≤ sizeLine ∧ Q (.str (i ++ j)) H) ∨ rCatT K x y H Q ∨
  ∃ (a b : Addr) (ys : List V), x = .ref a ∧ y = .ref b ∧ SqT K H a [] ∧ SqT K H b ys ∧ Q (.ref b) H
/-- a cut of a text, just so -/
theorem sl_strX {X : Cx} : SlR X (fun x lo hi H Q => ∃ z : Str, x = .str z ∧ z.length ≤ 1000000 ∧ Q (.str (Txt.slice z lo hi)) H) := by
  intro pins s σ H x v vl vu lo hi sl Q I rx hs pl pu h
  obtain ⟨z, rfl, hz, q⟩ := h
  obtain ⟨t, rfl⟩ := rx
  refine ⟨"str", _, PySem.F.slot_str_getitem.lookup, typeIs_str _ _ _, ?_⟩
  have hz' : z.length ≤ sizeLine := Nat.le_trans hz (by decide)
  have fin : ∀ (l u : Option (Int × Tok)), partValue l = vl → partValue u = vu → Q (.str (Txt.slice z (l.map (·.1)) (u.map (·.1)))) H → wpAny (model X.prog X.w) X.A (getItem (.str z t) (.ref sl)) (EP X pins σ Q) X.xe s := fun l u e1 e2 q => by
    obtain ⟨o, ho, hc, hd⟩ := hs
    refine wpAny_getItem_str_slice (l := l) (u := u) (st := none) ⟨o, ho, hc, by rw [hd, e1, e2]; rfl⟩ rfl (post_val_or_str ⟨Nat.le_trans (Txt.slice_le z _ _) hz', fun t' k => ?_⟩)
    exact ⟨.str _, H, I.tok k, ⟨t', rfl⟩, q⟩
  cases pl with
  | none => cases pu with
    | none => exact fin none none rfl rfl q
    | int j tj => exact fin none (some (j, tj)) rfl rfl q
  | int i ti => cases pu with
    | none => exact fin (some (i, ti)) none rfl rfl q
    | int j tj => exact fin (some (i, ti)) (some (j, tj)) rfl rfl q
end L2

set_option Elab.async false
set_option linter.all false
set_option maxRecDepth 100000
set_option maxHeartbeats 4000000
namespace L2
open PySem PySem.Spec PyProof.Rows
end L2
namespace D
open PySem L2
end D

set_option Elab.async false
set_option linter.all false
set_option maxRecDepth 100000
set_option maxHeartbeats 4000000
namespace L2
open PySem PySem.Spec PyProof.Rows
/-- a comprehension whose target is of any kind, nothing of the frame read in it -/
def tLCompT (n : Nat) (wi : TI) (g : TG) (tt : TT) (te : TE) : TE := fun σ H Q => wi σ H fun J H1 => ∃ W : Nat → Nat → List V → Hp → Prop, (∃ m, W 0 m [] H1) ∧ ∀ i m vs H, W i m vs H → vs.length ≤ sizeLine ∧
  ((J.stop i H ∧ ∀ D, H D = none → Q (.ref D) (upd H D (.lst vs))) ∨
   (J.go i H ∧ ∀ v H', J.yld i H v H' → g v (List.replicate n none) H' fun σ2 H2 => tt σ2 H2 fun b H3 => if b = true then te σ2 H3 fun y H4 => ∃ m', m' < m ∧ W (i + 1) m' (vs ++ [y]) H4 else ∃ m', m' < m ∧ W (i + 1) m' vs H3))
end L2
namespace D
open PySem L2
end D

set_option Elab.async false
set_option linter.all false
set_option maxRecDepth 100000
set_option maxHeartbeats 4000000
namespace L2
open PySem PySem.Spec PyProof.Rows
/-- a module's text -/
theorem mt_find3 {X : Cx} : MtR X "str.find" (fun x xs H Q => ∃ (z y : Str) (i : Int), x = .str z ∧ xs = [.str y, .int i] ∧ Q (.int (Txt.find3 z y i)) H) := by
  intro pins s σ H x xs v us Q I rx rv h
  obtain ⟨z, y, i, rfl, rfl, q⟩ := h
  obtain ⟨t, rfl⟩ := rx
  obtain ⟨u, u2, rfl, ⟨tu, rfl⟩, ⟨tv, rfl⟩⟩ := vals2 rv
  exact SC.find3 ⟨.int _, H, I.tok _, ⟨_, rfl⟩, q⟩
theorem mt_starts {X : Cx} : MtR X "str.startswith" (fun x xs H Q => ∃ (z y : Str), x = .str z ∧ xs = [.str y] ∧ Q (.bl (Txt.startswith z y)) H) := by
  intro pins s σ H x xs v us Q I rx rv h
  obtain ⟨z, y, rfl, rfl, q⟩ := h
  obtain ⟨t, rfl⟩ := rx
  obtain ⟨u, rfl, tu, rfl⟩ := vals1 rv
  exact SC.startswith ⟨.bl _, H, I, rfl, q⟩
theorem call_int_text {X : Cx} : CallR X (.type "int") (fun xs H Q => ∃ (x : Str) (n : Int), xs = [.str x] ∧ PySem.intText? x = some n ∧ x.length ≤ 640 ∧ Q (.int n) H) := by
  intro pins s σ H xs us Q I r h
  obtain ⟨x, n, rfl, hn, hl, q⟩ := h
  obtain ⟨u, rfl, t, rfl⟩ := vals1 r
  exact PySem.W.KIN.call_text hn hl ⟨.int n, H, I.tok _, ⟨_, rfl⟩, q⟩
/-- a comprehension without tests over a tuple that an expression gives, by a word of what is made so far -/
theorem rd_mapTP {K : PySem.W.Frag} {fr : List Nat} {tl te : TE} {σ : St} {H : Hp} {Q : VK} {a : Addr} {vs : List V} (Pv : Nat → List V → Hp → Prop) (hσ : ∀ R : VK, R (.ref a) H → tl σ H R) (hS : SqT K H a vs) (hz : vs.length ≤ sizeLine) (h0 : Pv 0 [] H) (hlen : ∀ i us H1, Pv i us H1 → us.length = i)
    (step : ∀ (i : Nat) (v : V) (us : List V) (H1 : Hp) (R : VK), vs[i]? = some v → Pv i us H1 → Same H H1 → (∀ y H2, Same H1 H2 → Pv (i + 1) (us ++ [y]) H2 → R y H2) → te (some v :: frees fr σ) H1 R)
    (fin : ∀ (us : List V) (H1 : Hp) (D : Addr), Pv vs.length us H1 → Same H H1 → H1 D = none → Q (.ref D) (upd H1 D (.lst us))) : tLComp fr (iTup K tl) (fun _ H Q => Q true H) te σ H Q := by
  refine hσ _ ⟨a, rfl, ⟨vs, hS⟩, fun i m us H1 => i ≤ vs.length ∧ m = vs.length - i ∧ Pv i us H1 ∧ Same H H1, ⟨_, Nat.zero_le _, rfl, h0, Same.refl _⟩, fun i m us H1 hW => ?_⟩
  obtain ⟨hi, hm, hu, sm⟩ := hW
  refine ⟨by rw [hlen _ _ _ hu]; omega, ?_⟩
  by_cases hlt : i < vs.length
  · refine .inr ⟨⟨vs, vs[i], sm.seqT hS, List.getElem?_eq_getElem hlt⟩, fun v H' hy => ?_⟩
    obtain ⟨rfl, hv⟩ := hy
    have hv := hv vs (sm.seqT hS)
    refine iteT ?_
    exact step i v us H' _ hv hu sm fun y H2 s2 p2 => ⟨vs.length - (i + 1), by omega, by omega, rfl, p2, sm.trans s2⟩
  · have e : i = vs.length := by omega
    subst e
    exact .inl ⟨⟨vs, sm.seqT hS, by omega⟩, fun D hD => fin us H1 D hu sm hD⟩
end L2
namespace D
open PySem L2
theorem slice_ss {z : Str} {a b : Nat} (h1 : a ≤ b) (h2 : b ≤ z.length) : (Txt.slice z (some (a : Int)) (some (b : Int))).cps.toList = (z.cps.toList.drop a).take (b - a) := by
  have e := PyProof.Rows.slice_closes (x := z) (i := (a : Int)) (j := (b : Int)) ⟨by omega, by omega, by rw [str_len]; omega⟩
  have e2 := eq_of_beq e
  rw [e2]
  simp
  try (congr 1; omega)
theorem slice_sn {z : Str} {a : Nat} (h1 : a ≤ z.length) : (Txt.slice z (some (a : Int)) none).cps.toList = z.cps.toList.drop a := by
  rw [PyProof.Rows.slice_from_eq (x := z) (i := (a : Int)) (b := (z.length : Int)) (by omega) (by omega) rfl]
  simp
  rw [List.take_of_length_le]
  rw [List.length_drop, str_len]
  omega
theorem getD_at {z : Str} {i c : Nat} (h : z.cps.toList[i]? = some c) : z.cps.getD i 0 = c := by
  have : z.cps[i]? = some c := by simpa using h
  simp [Array.getD_eq_getD_getElem?, this]
/-- where the next quote is -/
theorem find_quote {z : Str} {pre q r : List Nat} (hz : z.cps.toList = pre ++ 34 :: (q ++ 34 :: r)) (hq : ∀ c ∈ q, c ≠ 34) : Txt.find3 z ⟨#[34]⟩ (((pre.length : Nat) : Int) + 1) = ((pre.length + 1 + q.length : Nat) : Int) := by
  have hl : z.length = pre.length + 1 + q.length + 1 + r.length := by
    rw [← str_len, hz]; simp; omega
  have hf : fromIndex z.length (((pre.length : Nat) : Int) + 1) = pre.length + 1 := by
    unfold fromIndex
    rw [if_neg (by omega)]
    omega
  have atq : z.cps.toList[pre.length + 1 + q.length]? = some 34 := by
    rw [hz, List.getElem?_append_right (by omega)]
    rw [show pre.length + 1 + q.length - pre.length = (q.length) + 1 by omega, List.getElem?_cons_succ, List.getElem?_append_right (by omega)]
    simp
  have atv : ∀ v, pre.length + 1 ≤ v → v < pre.length + 1 + q.length → z.cps.getD v 0 ≠ 34 := fun v h1 h2 => by
    have hv : v - pre.length - 1 < q.length := by omega
    obtain ⟨u, hu⟩ : ∃ u, u = v - pre.length - 1 := ⟨_, rfl⟩
    have hv2 : u < q.length := by omega
    have e : z.cps.toList[v]? = some (q[u]) := by
      rw [hz, List.getElem?_append_right (by omega)]
      rw [show v - pre.length = u + 1 by omega, List.getElem?_cons_succ, List.getElem?_append_left hv2]
      simp
    rw [getD_at e]
    exact hq _ (List.getElem_mem hv2)
  rcases StrLaws.find3_spec z 34 (((pre.length : Nat) : Int) + 1) with ⟨_, hn⟩ | ⟨k, hk, h1, h2, h3, h4⟩
  · exact absurd (getD_at atq) (hn _ (by omega) (by omega))
  · rw [hk]
    rw [hf] at h1 h4
    have : k = pre.length + 1 + q.length := by
      rcases Nat.lt_trichotomy k (pre.length + 1 + q.length) with h | h | h
      · exact absurd h3 (atv k h1 h)
      · exact h
      · exact absurd (getD_at atq) (h4 _ (by omega) h)
    rw [this]
def wEnds : Str := Str.ofString " \n()\""
def wGaps : Str := Str.ofString " \n"
def wFigs : Str := Str.ofString "0123456789"
def wBr : Str := Str.ofString "()"
theorem wEnds_list : wEnds.cps.toList = [32, 10, 40, 41, 34] := by decide +kernel
theorem wGaps_list : wGaps.cps.toList = [32, 10] := by decide +kernel
theorem wFigs_list : wFigs.cps.toList = [48, 49, 50, 51, 52, 53, 54, 55, 56, 57] := by decide +kernel
theorem wBr_list : wBr.cps.toList = [40, 41] := by decide +kernel
theorem in_one (z : Str) (c : Nat) : (!(Builtin.Str.occurrences z ⟨#[c]⟩ 0 z.length 1).isEmpty) = decide (c ∈ z.cps.toList) := StrLaws.found_one z c
end D

set_option Elab.async false
set_option linter.all false
set_option maxRecDepth 100000
set_option maxHeartbeats 4000000
namespace D
open PySem L2
/-! ### the figures of a number -/
def digs (m : Nat) : List Nat := (Nat.toDigits 10 m).map Char.toNat
theorem digit_nat : ∀ d : Nat, d < 10 → (Nat.digitChar d).toNat = 48 + d := by decide
theorem digs_lt {m : Nat} (h : m < 10) : digs m = [48 + m] := by
  unfold digs
  rw [Nat.toDigits_of_lt_base h]
  simp [digit_nat m h]
theorem digs_ge {m : Nat} (h : ¬ m < 10) : digs m = digs (m / 10) ++ [48 + m % 10] := by
  have hm : m % 10 < 10 := Nat.mod_lt m (by decide)
  have t : Nat.toDigits 10 (m / 10) ++ Nat.toDigits 10 (m % 10) = Nat.toDigits 10 (10 * (m / 10) + m % 10) := Nat.toDigits_append_toDigits (by decide) (by omega) hm
  rw [Nat.div_add_mod] at t
  unfold digs
  rw [← t, List.map_append, Nat.toDigits_of_lt_base hm]
  simp [digit_nat _ hm]
theorem digs_all (m : Nat) : ∀ c ∈ digs m, 48 ≤ c ∧ c ≤ 57 := by
  induction m using Nat.strongRecOn with
  | _ m ih =>
    by_cases h : m < 10
    · rw [digs_lt h]; intro c hc; simp at hc; omega
    · rw [digs_ge h]
      intro c hc
      rcases List.mem_append.mp hc with hc | hc
      · exact ih (m / 10) (by omega) c hc
      · simp at hc; omega
theorem digs_ne (m : Nat) : digs m ≠ [] := by
  by_cases h : m < 10
  · rw [digs_lt h]; simp
  · rw [digs_ge h]; simp
theorem digs_head (m : Nat) (h0 : 0 < m) : ∀ c s, digs m = c :: s → c ≠ 48 := by
  induction m using Nat.strongRecOn with
  | _ m ih =>
    intro c s e
    by_cases h : m < 10
    · rw [digs_lt h] at e; simp at e; omega
    · rw [digs_ge h] at e
      cases hd : digs (m / 10) with
      | nil => exact absurd hd (digs_ne _)
      | cons x y =>
        rw [hd] at e
        simp at e
        have := ih (m / 10) (by omega) (by omega) x y hd
        omega
theorem digs_len (k : Nat) : ∀ m : Nat, 0 < k → m < 10 ^ k → (digs m).length ≤ k := by
  induction k with
  | zero => intro m h; omega
  | succ k ih =>
    intro m _ h
    by_cases h1 : m < 10
    · rw [digs_lt h1]; simp
    · rw [digs_ge h1]
      have hk : 0 < k := by
        cases k with
        | zero => simp at h; omega
        | succ k => omega
      have := ih (m / 10) hk (by rw [Nat.pow_succ] at h; omega)
      simp; omega
/-- the signs that write a number -/
def numC (i : Int) : List Nat := if 0 ≤ i then digs i.toNat else 45 :: digs i.natAbs
/-! ### the pieces of a text -/
/-- a sign at which a word ends -/
def isEnd (c : Nat) : Bool := c == 32 || (c == 10 || (c == 40 || (c == 41 || c == 34)))
inductive Pc where
  | op | cl
  | txt (q : List Nat)
  | word (q : List Nat)
def Cut (r : List Nat) : Prop := ∀ c s, r = c :: s → isEnd c = true
/-- these signs write these pieces -/
inductive Spell : List Nat → List Pc → Prop where
  | nil : Spell [] []
  | gap {c : Nat} {r : List Nat} {ps : List Pc} : c = 32 ∨ c = 10 → Spell r ps → Spell (c :: r) ps
  | op {r : List Nat} {ps : List Pc} : Spell r ps → Spell (40 :: r) (.op :: ps)
  | cl {r : List Nat} {ps : List Pc} : Spell r ps → Spell (41 :: r) (.cl :: ps)
  | txt {q r : List Nat} {ps : List Pc} : (∀ c ∈ q, c ≠ 34) → Spell r ps → Spell (34 :: (q ++ 34 :: r)) (.txt q :: ps)
  | word {c : Nat} {q r : List Nat} {ps : List Pc} : isEnd c = false → (∀ d ∈ q, isEnd d = false) → Cut r → Spell r ps → Spell (c :: (q ++ r)) (.word (c :: q) :: ps)
theorem Spell.word' {q r : List Nat} {ps : List Pc} (hne : q ≠ []) (hq : ∀ d ∈ q, isEnd d = false) (hc : Cut r) (h : Spell r ps) : Spell (q ++ r) (.word q :: ps) := by
  cases q with
  | nil => exact absurd rfl hne
  | cons c q => exact .word (hq c List.mem_cons_self) (fun d hd => hq d (List.mem_cons_of_mem _ hd)) hc h
inductive Tr where
  | word (q : List Nat)
  | txt (q : List Nat)
  | lst (ts : List Tr)
/-! the pieces of a worth, its numbers' figures by N -/
mutual
def trW (N : Int → List Nat) : W → Tr
  | .num i => .word (N i)
  | .txt x => .txt x.cps.toList
  | .lst ws => .lst (trWs N ws)
def trWs (N : Int → List Nat) : List W → List Tr
  | [] => []
  | w :: r => trW N w :: trWs N r
end
def run : List Pc → List (List Tr) → Option (List (List Tr))
  | [], st => some st
  | .op :: ps, st => if st.length < 100 then run ps ([] :: st) else none
  | .cl :: ps, st => match st with
    | t :: u :: rest => run ps ((u ++ [.lst t]) :: rest)
    | _ => none
  | .txt q :: ps, st => match st with
    | t :: rest => run ps ((t ++ [.txt q]) :: rest)
    | _ => none
  | .word q :: ps, st => match st with
    | t :: rest => run ps ((t ++ [.word q]) :: rest)
    | _ => none
mutual
def shW (N : Int → List Nat) : W → List Nat
  | .num i => N i
  | .txt x => 34 :: (x.cps.toList ++ [34])
  | .lst ws => 40 :: (shWs N ws ++ [41])
def shWs (N : Int → List Nat) : List W → List Nat
  | [] => []
  | [w] => shW N w
  | w :: v :: r => shW N w ++ 32 :: shWs N (v :: r)
end

theorem cut_blank {r : List Nat} : Cut (32 :: r) := fun c s e => by cases e; rfl
theorem cut_shut {r : List Nat} : Cut (41 :: r) := fun c s e => by cases e; rfl
theorem cut_nil : Cut [] := fun c s e => by cases e
/-! ### a tree as it is shown -/
mutual
def shT : Tr → List Nat
  | .word q => q
  | .txt q => 34 :: (q ++ [34])
  | .lst ts => 40 :: (shTs ts ++ [41])
def shTs : List Tr → List Nat
  | [] => []
  | [t] => shT t
  | t :: u :: r => shT t ++ 32 :: shTs (u :: r)
end
mutual
def pcT : Tr → List Pc
  | .word q => [.word q]
  | .txt q => [.txt q]
  | .lst ts => .op :: (pcTs ts ++ [.cl])
def pcTs : List Tr → List Pc
  | [] => []
  | t :: r => pcT t ++ pcTs r
end
mutual
def Tr.Ok : Tr → Prop
  | .word q => q ≠ [] ∧ ∀ c ∈ q, isEnd c = false
  | .txt q => ∀ c ∈ q, c ≠ 34
  | .lst ts => TrOks ts
def TrOks : List Tr → Prop
  | [] => True
  | t :: r => t.Ok ∧ TrOks r
end
mutual
def Tr.deep : Tr → Nat
  | .word _ => 0
  | .txt _ => 0
  | .lst ts => 1 + deeps ts
def deeps : List Tr → Nat
  | [] => 0
  | t :: r => max t.deep (deeps r)
end
mutual
theorem run_pcT : ∀ (x : Tr) (ps : List Pc) (t : List Tr) (rest : List (List Tr)), rest.length + 1 + x.deep ≤ 100 → run (pcT x ++ ps) (t :: rest) = run ps ((t ++ [x]) :: rest)
  | .word q, ps, t, rest, _ => by rw [pcT]; rfl
  | .txt q, ps, t, rest, _ => by rw [pcT]; rfl
  | .lst ts, ps, t, rest, h => by
    rw [Tr.deep] at h
    rw [pcT, List.cons_append, List.append_assoc]
    have := run_pcTs ts (.cl :: ps) [] (t :: rest) (by rw [List.length_cons]; omega)
    rw [run, if_pos (by rw [List.length_cons]; omega)]
    rw [List.singleton_append, this, run, List.nil_append]
theorem run_pcTs : ∀ (xs : List Tr) (ps : List Pc) (t : List Tr) (rest : List (List Tr)), rest.length + 1 + deeps xs ≤ 100 → run (pcTs xs ++ ps) (t :: rest) = run ps ((t ++ xs) :: rest)
  | [], ps, t, rest, _ => by rw [pcTs, List.nil_append, List.append_nil]
  | x :: r, ps, t, rest, h => by
    rw [deeps] at h
    rw [pcTs, List.append_assoc, run_pcT x _ t rest (by omega), run_pcTs r ps (t ++ [x]) rest (by omega), List.append_assoc]
    rfl
end
theorem run_tree (x : Tr) (h : x.deep ≤ 90) : run (pcT x) [[]] = some [[x]] := by
  have := run_pcT x [] [] [] (by show 0 + 1 + x.deep ≤ 100; omega)
  rw [List.append_nil] at this
  rw [this]
  rfl
mutual
theorem spell_shT : ∀ (x : Tr), x.Ok → ∀ (r : List Nat) (ps : List Pc), Cut r → Spell r ps → Spell (shT x ++ r) (pcT x ++ ps)
  | .word q, ok, r, ps, hc, h => by rw [Tr.Ok] at ok; rw [shT, pcT]; exact Spell.word' ok.1 ok.2 hc h
  | .txt q, ok, r, ps, hc, h => by
    rw [Tr.Ok] at ok
    have := Spell.txt ok h
    simpa [shT, pcT] using this
  | .lst ts, ok, r, ps, hc, h => by
    rw [Tr.Ok] at ok
    have := spell_shTs ts ok (41 :: r) (.cl :: ps) cut_shut (.cl h)
    have h2 := Spell.op this
    simpa [shT, pcT, List.append_assoc] using h2
theorem spell_shTs : ∀ (xs : List Tr), TrOks xs → ∀ (r : List Nat) (ps : List Pc), Cut r → Spell r ps → Spell (shTs xs ++ r) (pcTs xs ++ ps)
  | [], _, r, ps, _, h => by rw [shTs, pcTs]; exact h
  | [x], ok, r, ps, hc, h => by
    rw [TrOks] at ok
    have := spell_shT x ok.1 r ps hc h
    simpa [shTs, pcTs] using this
  | x :: y :: s, ok, r, ps, hc, h => by
    rw [TrOks] at ok
    have h1 := spell_shTs (y :: s) ok.2 r ps hc h
    have h2 : Spell (32 :: (shTs (y :: s) ++ r)) (pcTs (y :: s) ++ ps) := .gap (.inl rfl) h1
    have h3 := spell_shT x ok.1 _ _ cut_blank h2
    rw [pcTs, shTs]
    simpa [List.append_assoc] using h3
end
theorem spell_tree {x : Tr} (ok : x.Ok) : Spell (shT x) (pcT x) := by
  have := spell_shT x ok [] [] cut_nil .nil
  rw [List.append_nil, List.append_nil] at this
  exact this
mutual
theorem shT_W (N : Int → List Nat) : ∀ w : W, shT (trW N w) = shW N w
  | .num i => by rw [trW, shT, shW]
  | .txt x => by rw [trW, shT, shW]
  | .lst ws => by rw [trW, shT, shW, shTs_W N ws]
theorem shTs_W (N : Int → List Nat) : ∀ ws : List W, shTs (trWs N ws) = shWs N ws
  | [] => by rw [trWs, shTs, shWs]
  | [w] => by rw [trWs, trWs, shTs, shWs, shT_W N w]
  | w :: v :: r => by
    have := shTs_W N (v :: r)
    rw [trWs] at this
    rw [trWs, trWs, shTs, shWs, shT_W N w, this]
end
mutual
theorem deep_W (N : Int → List Nat) : ∀ w : W, (trW N w).deep = w.depth
  | .num i => by rw [trW, Tr.deep, W.depth]
  | .txt x => by rw [trW, Tr.deep, W.depth]
  | .lst ws => by rw [trW, Tr.deep, W.depth, deeps_W N ws]
theorem deeps_W (N : Int → List Nat) : ∀ ws : List W, deeps (trWs N ws) = depths ws
  | [] => by rw [trWs, deeps, depths]
  | w :: r => by rw [trWs, deeps, depths, deep_W N w, deeps_W N r]
end
end D

set_option Elab.async false
set_option linter.all false
set_option maxRecDepth 100000
set_option maxHeartbeats 1000000
namespace L2
open PySem PySem.Spec PyProof.Rows

/-! ### a heap without some of its objects -/
def cutH (h : Heap) (S : List Addr) : Heap := ⟨h.objs.mapIdx fun i o => if i ∈ S then { o with data := .freed } else o, h.life⟩
theorem cutH_in {h : Heap} {S : List Addr} {b : Addr} (hb : b ∈ S) : (cutH h S).get? b = none := by
  cases e : (cutH h S).get? b with
  | none => rfl
  | some o =>
    obtain ⟨h1, h2⟩ := Heap.get?_some_iff.mp e
    unfold cutH at h1
    rw [Array.getElem?_mapIdx] at h1
    obtain ⟨o', _, rfl⟩ := Option.map_eq_some_iff.mp h1
    rw [if_pos hb] at h2
    cases h2
theorem cutH_out {h : Heap} {S : List Addr} {b : Addr} (hb : b ∉ S) : (cutH h S).get? b = h.get? b := by
  unfold Heap.get? cutH
  simp only [Array.getElem?_mapIdx]
  cases h.objs[b]? with
  | none => rfl
  | some o => simp only [Option.map_some, if_neg hb]
/-! ### an exception that flies: neither its object nor its traceback is tracked, or was there in h0 -/
def Flies (tr : Bool) (h0 : Heap) (H : Hp) (h : Heap) (e : Addr) (cls : Value) : Prop :=
  h0.get? e = none ∧ H e = none ∧ ∃ oe vs, h.get? e = some oe ∧ (oe.cls = cls ∧ oe.dict = none) ∧ oe.data = .fields vs ∧ 1 < vs.size ∧
    ((tr = false ∧ vs[1]? = some .none) ∨ ∃ T oT ts fl, vs[1]? = some (.ref T) ∧ h0.get? T = none ∧ H T = none ∧ T ≠ e ∧ h.get? T = some oT ∧ oT.data = .fields ts ∧ ts[3]? = some fl)
theorem Flies.earlier {tr : Bool} {h0 h1 : Heap} {H : Hp} {h : Heap} {e : Addr} {cls : Value} (x : Flies tr h0 H h e cls) (k : ∀ b o, h1.get? b = some o → ∃ o', h0.get? b = some o') : Flies tr h1 H h e cls := by
  have no : ∀ b, h0.get? b = none → h1.get? b = none := fun b hb => by
    cases q : h1.get? b with
    | none => rfl
    | some o => obtain ⟨o', e⟩ := k b o q; rw [hb] at e; cases e
  obtain ⟨a, b, oe, vs, c, d, f, g, r⟩ := x
  refine ⟨no _ a, b, oe, vs, c, d, f, g, ?_⟩
  rcases r with r | ⟨T, oT, ts, fl, r1, r2, r3⟩
  · exact .inl r
  · exact .inr ⟨T, oT, ts, fl, r1, no _ r2, r3⟩

/-- what stood ahead of the exception, in h0 -/
structure Old (X : Cx) (pins : List (Addr × Obj)) (h0 : Heap) : Prop where
  ent : ∀ b o, X.s₀.heap.get? b = some o → b ∉ X.ex → ∃ o', h0.get? b = some o'
  loc : ∃ o, h0.get? X.env.locals = some o
  cel : ∀ x c, X.env.cells.lookup x = some c → ∃ o, h0.get? c = some o
  pin : ∀ p ∈ X.pn ++ pins, ∃ o, h0.get? p.1 = some o
theorem Inv.old {X : Cx} {pins : List (Addr × Obj)} {σ : St} {H : Hp} {s : Shared} (I : Inv X pins σ H s) : Old X pins s.heap :=
  ⟨fun b o e hx => I.base.there b o e hx, (let ⟨_, ⟨o, _, _, e, _⟩, _⟩ := I.loc; ⟨o, e⟩), fun x c e => (let ⟨_, o, e, _⟩ := I.cell x c e; ⟨o, e⟩), fun p hp => ⟨_, (I.pin p hp).1⟩⟩
/-! ### the state where the exception's own objects were changed, and the frames' slots -/
section
variable {X : Cx} {pins : List (Addr × Obj)} {σ : St} {H : Hp} {h0 : Heap} {s1 : Shared}
theorem Old.flown (O : Old X pins h0) (J : Inv X pins σ H s1) {S : List Addr} {h' : Heap} (hS : ∀ b ∈ S, h0.get? b = none ∧ H b = none)
    (k : ∀ b o, b ∉ S → b ∉ frs X.stack → s1.heap.get? b = some o → h'.get? b = some o)
    (f : ∀ b o, b ∉ S → s1.heap.get? b = some o → ∃ sl, h'.get? b = some { o with slots := sl }) : Inv X pins σ H { s1 with heap := h' } := by
  have old : ∀ {b : Addr} {o : Obj}, h0.get? b = some o → b ∉ S := fun {b o} e hb => by rw [(hS b hb).1] at e; cases e
  have cellk : ∀ {c : Addr} {v : Option Value}, c ∉ S → s1.heap.IsCell c v → h'.IsCell c v := fun {c v} hc z => by
    obtain ⟨o, ho, hd⟩ := z
    obtain ⟨sl, q⟩ := f c o hc ho
    exact ⟨_, q, hd⟩
  have cold : ∀ x c, X.env.cells.lookup x = some c → c ∉ S := fun x c e => by
    obtain ⟨o, ho⟩ := O.cel x c e
    exact old ho
  refine ⟨J.ok, J.os, J.bare, ?_, ?_, fun x c e => ?_, J.free, J.freeC, fun p hp => ?_, ?_, J.len⟩
  · refine ⟨fun b o e n hb hx => ?_, fun b o e n hb hx => ?_, J.base.free, fun b o e hx => ?_, J.base.tups, J.base.frzs, J.base.tbls⟩
    · obtain ⟨o', q⟩ := O.ent b o e hx
      refine k b o (old q) (fun z => ?_) (J.base.keep b o e n hb hx)
      rcases List.mem_cons.mp (J.stkSub b z) with z | z
      · exact absurd (Nat.lt_of_lt_of_le (Heap.lt_size e) J.ok.above) (by rw [z]; exact Nat.lt_irrefl _)
      · exact hb z
    · obtain ⟨o', q⟩ := O.ent b o e hx
      obtain ⟨sl, q2⟩ := J.base.slot b o e n hb hx
      obtain ⟨sl2, q3⟩ := f b _ (old q) q2
      exact ⟨sl2, q3⟩
    · obtain ⟨o', q⟩ := O.ent b o e hx
      obtain ⟨o2, q2⟩ := J.base.there b o e hx
      obtain ⟨sl2, q3⟩ := f b _ (old q) q2
      exact ⟨_, q3⟩
  · obtain ⟨m, ⟨o, es, ep, ho, r⟩, hl⟩ := J.loc
    obtain ⟨o0, ho0⟩ := O.loc
    obtain ⟨sl, q⟩ := f _ o (old ho0) ho
    refine ⟨m, ⟨_, es, ep, q, r⟩, fun i x v h1 h2 h3 => ?_⟩
    obtain ⟨u, ru, lk⟩ := hl i x v h1 h2 h3
    refine ⟨u, ru, ?_⟩
    rcases lk with lk | ⟨lk, c, hc, z⟩
    · exact .inl lk
    · exact .inr ⟨lk, c, hc, cellk (cold x c hc) z⟩
  · obtain ⟨v, z⟩ := J.cell x c e
    exact ⟨v, cellk (cold x c e) z⟩
  · obtain ⟨h1, h2, h3, h4, h5⟩ := J.pin p hp
    obtain ⟨o0, ho0⟩ := O.pin p hp
    refine ⟨k p.1 p.2 (old ho0) (fun z => ?_) h1, h2, h3, h4, h5⟩
    rcases List.mem_cons.mp (J.stkSub _ z) with z | z
    · exact h3 z
    · exact h4 z
  · intro a o e
    have ne : ∀ b u, H b = some u → b ∉ S ∧ b ∉ frs X.stack := fun b u q => ⟨fun z => (by rw [(hS b z).2] at q; cases q), fun z => (by rw [J.stkFree b z] at q; cases q)⟩
    refine (J.hok a o e).stay (fun b u hb q => ?_) (fun _ q => q) fun _ _ q => q
    rcases hb with rfl | hb
    · exact k _ u (ne _ _ e).1 (ne _ _ e).2 q
    · exact k _ u (ne _ _ hb).1 (ne _ _ hb).2 q
theorem ObjOk.there {P : Program} {w : World} {H : Hp} {h : Heap} {a : Addr} {o : HO} (x : ObjOk P w H h a o) : ∃ ob, h.get? a = some ob := by
  cases o with
  | lst xs => obtain ⟨_, _, _, _, e⟩ := x; exact ⟨_, e⟩
  | tup xs => obtain ⟨_, _, _, ob, e, _⟩ := x; exact ⟨_, e⟩
  | dK kvs => obtain ⟨_, _, _, _, o, _, _, e, _⟩ := x; exact ⟨_, e⟩
  | dT kvs => obtain ⟨_, _, _, _, o, _, _, e, _⟩ := x; exact ⟨_, e⟩
  | set S n => obtain ⟨o, _, _, _, e, _⟩ := x; exact ⟨_, e⟩
  | ins C dx fs => obtain ⟨_, _, _, e, _⟩ := x; exact ⟨_, e⟩
  | own y => exact x
  | xd fs => obtain ⟨_, ⟨_, _, _, e, _⟩, _⟩ := x; exact ⟨_, e⟩
  | rng lo hi => obtain ⟨_, _, _, e⟩ := x; exact ⟨_, e⟩
  | frz ob u => exact ⟨_, x.1⟩
  | tbl ps => exact ⟨_, x⟩
  | met f y => exact ⟨_, x⟩
  | ext φ => exact x.2.1
theorem HOk.noneAt {P : Program} {w : World} {H : Hp} {h : Heap} {a : Addr} (x : HOk P w H h) (e : h.get? a = none) : H a = none := by
  cases q : H a with
  | none => rfl
  | some o => obtain ⟨ob, z⟩ := (x a o q).there; rw [e] at z; cases z
/-- one entry more in the traceback -/
theorem entry_any {M : Model} {E : Value → Shared → Prop} {env : Env} {outer : List Env} {L e : Addr} {oe : Obj} {vs : Array Value} {head : Value} {hn : Bool} {Q : Unit → Shared → Prop}
    (O : Old X pins h0) (J : Inv X pins σ H s1) (k01 : ∀ b o, h0.get? b = some o → ∃ o', s1.heap.get? b = some o') (hst : X.stack = env :: outer) (hf : env.frame = some L)
    (he : s1.heap.get? e = some oe) (hd : oe.data = .fields vs) (hdn : oe.dict = none) (hsz : 1 < vs.size) (e0 : h0.get? e = none) (eH : H e = none)
    (q : ∀ h', Inv X pins σ H { s1 with heap := h' } → Flies true h0 H h' e oe.cls → (∀ b o, s1.heap.get? b = some o → ∃ o', h'.get? b = some o') → Q () { s1 with heap := h' }) :
    wpAny M X.A (do let a ← frameOf env; let pl ← entryPlaceOf L hn; let b ← EntryCells.newEntry head a .none (rawInt L) .none pl; setField (.ref e) 1 b) Q E s1 := by
  have fr := J.ok.frames
  have fs := J.stack
  rw [hst] at fr fs
  have ene : e ∉ frs X.stack := fun hm => by
    rw [hst] at hm
    obtain ⟨_, o, ho, hnf⟩ := fs.mem hm
    rw [he] at ho
    cases ho
    exact hnf vs hd
  refine wpAny_bind (wpAny_frameOf_fun fr fs hf fun g1 hg1 => wpAny_bind (wpAny_entryPlaceOf fun pl hp => ?_))
  unfold EntryCells.newEntry; unfold newFields
  refine wpAny_bind (wpAny_newObj_type ?_ (hp.sizeOk5 _ _ _ _ _))
  have he1 : g1.get? e = some oe := (hg1.2.1 e (by rw [hst] at ene; exact ene)).trans he
  have nTe : g1.objs.size ≠ e := Nat.ne_of_gt (Heap.lt_size he1)
  refine wpAny_setField (Heap.get?_push_of_some _ he1) hd hsz ?_
  dsimp only
  generalize hob : ({ cls := .type "traceback", dict := none, data := .fields ([head, .ref L, .none, rawInt L, .none] ++ (if pl.isEmpty then List.replicate 6 Value.none else pl)).toArray } : Obj) = ob
  have hobd : ob.data = .fields ([head, .ref L, .none, rawInt L, .none] ++ (if pl.isEmpty then List.replicate 6 Value.none else pl)).toArray := by rw [← hob]
  have hobf : ob.isFreed = false := Obj.isFreed_of_fields hobd
  have pk : ∀ b o, b ≠ e → g1.get? b = some o → ((g1.push ob).update e (Obj.mapFields (·.setIfInBounds 1 (Value.ref g1.objs.size)))).get? b = some o := fun b o hb h =>
    (Heap.get?_update_other _ _ (Ne.symm hb)).trans (Heap.get?_push_of_some _ h)
  have pT : ((g1.push ob).update e (Obj.mapFields (·.setIfInBounds 1 (Value.ref g1.objs.size)))).get? g1.objs.size = some ob := (Heap.get?_update_other _ _ (Ne.symm nTe)).trans (Heap.get?_push_size _ hobf)
  have hdm := Obj.data_mapFields hd (·.setIfInBounds 1 (Value.ref g1.objs.size))
  have pe : ((g1.push ob).update e (Obj.mapFields (·.setIfInBounds 1 (Value.ref g1.objs.size)))).get? e = some (oe.mapFields (·.setIfInBounds 1 (Value.ref g1.objs.size))) := Heap.get?_update_self _ (Heap.get?_push_of_some _ he1) (Obj.isFreed_of_fields hdm)
  generalize ((g1.push ob).update e (Obj.mapFields (·.setIfInBounds 1 (Value.ref g1.objs.size)))) = h' at pk pT pe
  have nst : ∀ b, b ∉ frs X.stack → b ∉ (env :: outer).filterMap (·.frame) := fun b hb => by rw [hst] at hb; exact hb
  have kk : ∀ b o, b ∉ [e] → b ∉ frs X.stack → s1.heap.get? b = some o → h'.get? b = some o := fun b o hb hb2 h => pk b o (fun z => hb (by simp [z])) ((hg1.2.1 b (nst b hb2)).trans h)
  have ff : ∀ b o, b ∉ [e] → s1.heap.get? b = some o → ∃ sl, h'.get? b = some { o with slots := sl } := fun b o hb h => by
    obtain ⟨sl, z⟩ := hg1.2.2 b o h
    exact ⟨sl, pk b _ (fun z => hb (by simp [z])) z⟩
  have sT : s1.heap.get? g1.objs.size = none := by
    cases z : s1.heap.get? g1.objs.size with
    | none => rfl
    | some o => have := Heap.lt_size z; rw [hg1.1] at this; exact absurd this (Nat.lt_irrefl _)
  have hcm : (oe.mapFields (·.setIfInBounds 1 (Value.ref g1.objs.size))).cls = oe.cls := Obj.cls_mapFields _ _
  have hdd : (oe.mapFields (·.setIfInBounds 1 (Value.ref g1.objs.size))).dict = none := by
    rw [← hdn]; unfold Obj.mapFields; split <;> rfl
  have h3 : ∃ fl, (([head, .ref L, .none, rawInt L, .none] ++ (if pl.isEmpty then List.replicate 6 Value.none else pl)).toArray)[3]? = some fl := ⟨_, rfl⟩
  obtain ⟨fl, h3⟩ := h3
  refine q h' (O.flown J (S := [e]) (fun b hb => ?_) kk ff) ⟨e0, eH, _, _, pe, ⟨hcm, hdd⟩, hdm, by rw [Array.size_setIfInBounds]; exact hsz, .inr ⟨_, ob, _, fl, Array.getElem?_setIfInBounds_self_of_lt hsz, ?_, J.hok.noneAt sT, nTe, pT, hobd, h3⟩⟩ fun b o h => ?_
  · rw [List.mem_singleton.mp hb]; exact ⟨e0, eH⟩
  · cases z : h0.get? g1.objs.size with
    | none => rfl
    | some o => obtain ⟨o', z2⟩ := k01 _ o z; rw [sT] at z2; cases z2
  · by_cases hb : b ∈ [e]
    · rw [List.mem_singleton.mp hb]; exact ⟨_, pe⟩
    · obtain ⟨sl, z⟩ := ff b o hb h; exact ⟨_, z⟩
/-- the exception is noted in this frame -/
theorem note_any {M : Model} {E : Value → Shared → Prop} {env : Env} {outer : List Env} {L e : Addr} {cls : Value} {tr : Bool} {Q : Unit → Shared → Prop}
    (O : Old X pins h0) (J : Inv X pins σ H s1) (k01 : ∀ b o, h0.get? b = some o → ∃ o', s1.heap.get? b = some o') (hst : X.stack = env :: outer) (hf : env.frame = some L)
    (fl : Flies tr h0 H s1.heap e cls) (q : ∀ h', Inv X pins σ H { s1 with heap := h' } → Flies true h0 H h' e cls → (∀ b o, s1.heap.get? b = some o → ∃ o', h'.get? b = some o') → Q () { s1 with heap := h' }) :
    wpAny M X.A (noteFrame (.ref e) env) Q E s1 := by
  obtain ⟨e0, eH, oe, vs, he, hc, hd, hsz, r⟩ := fl
  unfold noteFrame
  simp only [hf]
  rcases r with ⟨_, h1⟩ | ⟨T, oT, ts, f, h1, T0, TH, Te, hT, hdT, h3⟩
  · refine wpAny_bind (wpAny_field he hd h1 ?_)
    rw [if_neg (by decide)]
    exact entry_any O J k01 hst hf he hd hc.2 hsz e0 eH (by rw [hc.1]; exact q)
  · refine wpAny_bind (wpAny_field he hd h1 ?_)
    rw [if_pos (by simp)]
    refine wpAny_bind (wpAny_field hT hdT h3 (?_))
    by_cases hfl : (f == rawInt L) = true
    · rw [if_pos hfl]
      exact wpAny_pure (q s1.heap J ⟨e0, eH, oe, vs, he, hc, hd, hsz, .inr ⟨T, oT, ts, f, h1, T0, TH, Te, hT, hdT, h3⟩⟩ fun b o z => ⟨o, z⟩)
    · rw [if_neg hfl]
      have hs3 := (Array.getElem?_eq_some_iff.mp h3).1
      refine wpAny_bind (wpAny_setField hT hdT hs3 ?_)
      have he' : (s1.heap.update T (Obj.mapFields (·.setIfInBounds 3 Value.none))).get? e = some oe := (Heap.get?_update_other _ _ Te).trans he
      have kk : ∀ b o, b ∉ [T] → s1.heap.get? b = some o → (s1.heap.update T (Obj.mapFields (·.setIfInBounds 3 Value.none))).get? b = some o := fun b o hb h => (Heap.get?_update_other _ _ (fun z => hb (by simp [z]))).trans h
      have th : ∀ b o, s1.heap.get? b = some o → ∃ o', (s1.heap.update T (Obj.mapFields (·.setIfInBounds 3 Value.none))).get? b = some o' := fun b o h => by
        by_cases hb : b ∈ [T]
        · rw [List.mem_singleton.mp hb]; exact ⟨_, Heap.get?_update_self _ hT (Obj.isFreed_of_fields (Obj.data_mapFields hdT _))⟩
        · exact ⟨o, kk b o hb h⟩
      have J' := O.flown J (S := [T]) (fun b hb => by rw [List.mem_singleton.mp hb]; exact ⟨T0, TH⟩) (fun b o hb _ h => kk b o hb h) fun b o hb h => ⟨o.slots, kk b o hb h⟩
      refine entry_any (s1 := { s1 with heap := s1.heap.update T (Obj.mapFields (·.setIfInBounds 3 Value.none)) }) O J' (fun b o h => ?_) hst hf he' hd hc.2 hsz e0 eH (by rw [hc.1]; exact fun h' a b c => q h' a b fun b o z => (let ⟨o', z'⟩ := th b o z; c b o' z'))
      obtain ⟨o', h'⟩ := k01 b o h
      exact ⟨o', kk b o' (fun z => by rw [List.mem_singleton.mp z, T0] at h; cases h) h'⟩
/-- where it flies is set -/
theorem flight_any {M : Model} {A : Around} {E : Value → Shared → Prop} {x : Option Addr} {e : Addr} {cls : Value} {Q : Unit → Shared → Prop}
    (O : Old X pins h0) (J : Inv X pins σ H s1) (fl : Flies true h0 H s1.heap e cls)
    (q : ∀ h', Inv X pins σ H { s1 with heap := h' } → Flies true h0 H h' e cls → (∀ b o, s1.heap.get? b = some o → ∃ o', h'.get? b = some o') → Q () { s1 with heap := h' }) : wpAny M A (setFlight (.ref e) x) Q E s1 := by
  obtain ⟨e0, eH, oe, vs, he, hc, hd, hsz, r⟩ := fl
  rcases r with ⟨z, _⟩ | ⟨T, oT, ts, f, h1, T0, TH, Te, hT, hdT, h3⟩
  · cases z
  unfold setFlight; refine wpAny_bind (wpAny_field he hd h1 (?_))
  rw [if_pos (by simp)]
  have hs3 := (Array.getElem?_eq_some_iff.mp h3).1
  refine wpAny_setField hT hdT hs3 (q _ ?_ ⟨e0, eH, oe, vs, (Heap.get?_update_other _ _ Te).trans he, hc, hd, hsz, .inr ⟨T, _, _, _, h1, T0, TH, Te, Heap.get?_update_self _ hT (Obj.isFreed_of_fields (Obj.data_mapFields hdT _)), Obj.data_mapFields hdT _, Array.getElem?_setIfInBounds_self_of_lt hs3⟩⟩ fun b o h => ?_)
  rotate_left
  · by_cases hb : b ∈ [T]
    · rw [List.mem_singleton.mp hb]; exact ⟨_, Heap.get?_update_self _ hT (Obj.isFreed_of_fields (Obj.data_mapFields hdT _))⟩
    · exact ⟨o, (Heap.get?_update_other _ _ (fun z => hb (by simp [z]))).trans h⟩
  exact O.flown J (S := [T]) (fun b hb => by rw [List.mem_singleton.mp hb]; exact ⟨T0, TH⟩) (fun b o hb _ h => (Heap.get?_update_other _ _ (fun z => hb (by simp [z]))).trans h) fun b o hb h => ⟨o.slots, (Heap.get?_update_other _ _ (fun z => hb (by simp [z]))).trans h⟩
theorem leave_any {M : Model} {E : Value → Shared → Prop} {env : Env} {outer : List Env} {L e : Addr} {cls : Value} {tr : Bool} {Q : Unit → Shared → Prop}
    (O : Old X pins h0) (J : Inv X pins σ H s1) (k01 : ∀ b o, h0.get? b = some o → ∃ o', s1.heap.get? b = some o') (hst : X.stack = env :: outer) (hf : env.frame = some L)
    (fl : Flies tr h0 H s1.heap e cls) (q : ∀ h', Inv X pins σ H { s1 with heap := h' } → Flies true h0 H h' e cls → (∀ b o, s1.heap.get? b = some o → ∃ o', h'.get? b = some o') → Q () { s1 with heap := h' }) :
    wpAny M X.A (leaving env (.ref e)) Q E s1 := by
  unfold leaving
  exact wpAny_bind (note_any O J k01 hst hf fl fun h' J' fl' t1 => flight_any (s1 := { s1 with heap := h' }) O J' fl' fun h2 J2 f2 t2 => q h2 J2 f2 fun b o z => (let ⟨o', z'⟩ := t1 b o z; t2 b o' z'))
end
end L2

set_option Elab.async false
set_option linter.all false
set_option maxRecDepth 100000
set_option maxHeartbeats 1000000
namespace L2
open PySem PySem.Spec PyProof.Rows

/-- how an own exception lies behind a call -/
def CX1 (P : Program) (w : World) : CXT := fun outer H s E e s' => ∃ (ea C : Addr) (H' : Hp), e = .ref ea ∧ s'.os = s.os ∧ AllBare s'.gens ∧ Un (frs outer) [] H H' s.heap s'.heap ∧ HOk P w H' s'.heap ∧ Flies true s.heap H' s'.heap ea (.ref C) ∧ E (.ref C) none H'
/-- an exception that flies here reaches what is wanted of it -/
def Lets (X : Cx) (E : XK) : Prop := ∀ (pins : List (Addr × Obj)) (h0 : Heap) (σ : St) (H : Hp) (s1 : Shared) (tr : Bool) (ea C : Addr), Old X pins h0 → Inv X pins σ H s1 → (∀ b o, h0.get? b = some o → ∃ o', s1.heap.get? b = some o') →
  Flies tr h0 H s1.heap ea (.ref C) → E (.ref C) none H → X.xe (.ref ea) s1
theorem Lets.passes {X : Cx} {E : XK} (h : Lets X E) : Passes (CX1 X.prog X.w) X E := by
  intro pins σ H s e s' I ⟨ea, C, H', he, ho, hb, un, hok, fl, hE⟩
  subst he
  exact h pins s.heap σ H' s' true ea C I.old (I.call' ho un hok hb (by simp)) (fun b o q => un.there b o q (by simp)) fl hE
section
variable {P : Program} {w : World} {K : PySem.W.Frag} {mg : Str → Option Value} {base : Heap} {N : List Str} {qual : Str} {scope : Scope} {f : Addr} {cd : Value} {A : Around} {outer : List Env} {s : Shared} {H : Hp} {E : XK}
theorem letsF : Lets (cxOf (CX1 P w) P w K mg base N qual scope f cd A outer s H E) E := by
  intro pins h0 σ H1 s1 tr ea C O J k01 fl hE
  refine leave_any O J k01 rfl rfl fl fun h' J' fl' _ => ?_
  exact ⟨ea, C, H1, rfl, J'.os, J'.bare, J'.base, J'.hok, fl'.earlier fun b o q => O.ent b o q (by show b ∉ ([] : List Addr); simp), hE⟩
theorem passF : PassesOwn (model (cxOf (CX1 P w) P w K mg base N qual scope f cd A outer s H E).prog (cxOf (CX1 P w) P w K mg base N qual scope f cd A outer s H E).w) (cxOf (CX1 P w) P w K mg base N qual scope f cd A outer s H E).A (cxOf (CX1 P w) P w K mg base N qual scope f cd A outer s H E).env (cxOf (CX1 P w) P w K mg base N qual scope f cd A outer s H E).xe := PassesOwn.leaving
end
/-- within a comprehension -/
theorem letsC {X : Cx} {E : XK} {scope : Scope} {cl : List (Str × Addr)} {NY : List Str} {C : Addr} {s : Shared} {H : Hp} {fp : List Addr} (hl : Lets X E) (hst : X.stack = X.env :: X.outer) (hf : ∃ L, X.env.frame = some L)
    (hI : ∃ pins σ, Inv X pins σ H s ∧ ∀ b ∈ fp, FpOk X pins H b) : Lets (cxComp X scope cl NY C s H fp) E := by
  intro pins h0 σ H1 s1 tr ea D O J k01 fl hE
  obtain ⟨px, σx, IX, fpx⟩ := hI
  obtain ⟨L, hL⟩ := hf
  show wpAny (model X.prog X.w) X.A (noteFrame (.ref ea) X.env) (fun _ s'' => compPost (model X.prog X.w) X.A X.xe none (fun _ _ => False) .none C (.error (.ref ea)) s'') _ s1
  refine note_any (X := cxComp X scope cl NY C s H fp) O J k01 hst hL fl fun h' J' fl' th => ?_
  obtain ⟨m, hn, _⟩ := J'.loc
  refine ⟨m, hn, fun h2 hs cenv hce => ?_⟩
  have hCab : s.heap.objs.size ≤ C := J.ok.above
  have ltC : ∀ b o, s.heap.get? b = some o → b ≠ C := fun b o e z => absurd (Nat.lt_of_lt_of_le (Heap.lt_size e) hCab) (by rw [z]; exact Nat.lt_irrefl _)
  have HC : H1 C = none := J'.free
  have oc : ∃ o, h0.get? C = some o := O.loc
  have eC : ea ≠ C := fun z => by obtain ⟨o, e⟩ := oc; rw [← z, fl'.1] at e; cases e
  have hok2 : HOk X.prog X.w H1 h2 := J'.hok.other HC hs
  have b4 := J'.base
  have un : Un (frs X.stack) fp H H1 s.heap h2 := by
    refine ⟨fun b o e n hb hx => (hs.2 b (ltC b o e)).trans (b4.keep b o e n hb hx), fun b o e n hb hx => ?_, b4.free, fun b o e hx => ?_, b4.tups, b4.frzs, b4.tbls⟩
    · obtain ⟨sl, q⟩ := b4.slot b o e n hb hx
      exact ⟨sl, (hs.2 b (ltC b o e)).trans q⟩
    · obtain ⟨o', q⟩ := b4.there b o e hx
      exact ⟨o', (hs.2 b (ltC b o e)).trans q⟩
  have K2 : Inv X px σx H1 { s1 with heap := h2 } := IX.call' (s' := { s1 with heap := h2 }) (ch := fp) J'.os un hok2 J'.bare fun b hb => ⟨(fpx b hb).2.2.2.1, (fpx b hb).2.1, (fpx b hb).2.2.2.2.1, (fpx b hb).2.2.2.2.2⟩
  have nofp : ∀ b, b ∈ fp → FpOk X px H b := fpx
  have cut : ∀ b, h0.get? b = none → (cutH h0 [C]).get? b = none := fun b hb => by
    by_cases z : b ∈ [C]
    · exact cutH_in z
    · rw [cutH_out z]; exact hb
  have into : ∀ b o, s.heap.get? b = some o → b ∉ fp → ∃ o', (cutH h0 [C]).get? b = some o' := fun b o e hx => by
    obtain ⟨o', q⟩ := O.ent b o e hx
    exact ⟨o', by rw [cutH_out (fun z => ltC b o e (List.mem_singleton.mp z))]; exact q⟩
  have OX : Old X px (cutH h0 [C]) := by
    refine ⟨fun b o e hx => ?_, ?_, fun x c e => ?_, fun p hp => ?_⟩
    · obtain ⟨o', q⟩ := IX.base.there b o e hx
      refine into b o' q fun z => ?_
      rcases (fpx b z).2.2.2.1 with y | y
      · exact hx y
      · exact absurd (Nat.lt_of_lt_of_le (Heap.lt_size e) y) (Nat.lt_irrefl _)
    · obtain ⟨_, ⟨o, _, _, e, _⟩, _⟩ := IX.loc
      exact into _ o e fun z => (fpx _ z).2.1 rfl
    · obtain ⟨_, o, ho, _⟩ := IX.cell x c e
      exact into c o ho fun z => (fpx c z).2.2.2.2.1 x c e rfl
    · exact into p.1 p.2 (IX.pin p hp).1 fun z => (fpx p.1 z).2.2.2.2.2 p hp rfl
  obtain ⟨e0, eH, oe, vs, he, hc, hd, hsz, r⟩ := fl'
  rcases r with ⟨z, _⟩ | ⟨T, oT, ts, g, h1, T0, TH, Te, hT, hdT, h3⟩
  · cases z
  have TC : T ≠ C := fun z => by obtain ⟨o, e⟩ := oc; rw [← z, T0] at e; cases e
  have f2 : Flies true (cutH h0 [C]) H1 h2 ea (.ref D) := ⟨cut _ e0, eH, oe, vs, (hs.2 ea eC).trans he, hc, hd, hsz, .inr ⟨T, oT, ts, g, h1, cut _ T0, TH, Te, (hs.2 T TC).trans hT, hdT, h3⟩⟩
  unfold PySem.passOn
  refine wpAny_bind (wpAny_field ((hs.2 ea eC).trans he) hd h1 ?_)
  rw [if_neg (by simp)]
  refine wpAny_bind (flight_any (s1 := { s1 with heap := h2 }) OX K2 f2 fun h3 J3 f3 t3 => wpAny_throw ?_)
  refine hl px (cutH h0 [C]) σx H1 _ true ea D OX J3 (fun b o e => ?_) f3 hE
  have hb : b ∉ [C] := fun z => by rw [cutH_in z] at e; cases e
  rw [cutH_out hb] at e
  obtain ⟨o1, e1⟩ := k01 b o e
  obtain ⟨o2, e2⟩ := th b o1 e1
  exact t3 b o2 ((hs.2 b (fun z => hb (by simp [z]))).trans e2)
end L2

set_option Elab.async false
set_option linter.all false
set_option maxRecDepth 100000
set_option maxHeartbeats 4000000
namespace L2
open PySem PySem.Spec PyProof.Rows
theorem pe_lcompX {X : Cx} {elt iter : Expr} {x : Str} {px pos : Pos} {ifs : List Expr} {scope : Scope} {cl : List (Str × Addr)} (fr : List Nat) (ys : List Str) {wi : TI} {tt : TT} {te : TE}
    (hc : X.calm = true) (hclos : closureFor scope X.env = pure cl) (hcell : ∀ y ∈ scope.names, y.2 ≠ .cell) (hkind : scope.kind = .function) (hnames : ∀ y ∈ scope.names, y.2 = .local → scope.names.lookup y.1 = some .local)
    (hx : scope.names.lookup x = some .local) (hnd : (x :: ys).Nodup) (hcl : ClOk cl X.env.cells) (hall : (scope.names.all fun y => y.2 != .free || (cl.lookup y.1).isSome) = true) (hfr : FrOk X scope cl fr ys)
    (hi : PI X (.Name x px) iter wi)
    (hY : ∀ C s H fp, (∃ pins σ, Inv X pins σ H s ∧ ∀ b ∈ fp, FpOk X pins H b) → PIfs (cxComp X scope cl (x :: ys) C s H fp) ifs tt ∧ PE (cxComp X scope cl (x :: ys) C s H fp) elt te)
    (hs : ∀ v, foldedSetIterable iter X.env v = pure v := by intro _; rfl) :
    PE X (.ListComp elt [⟨.Name x px, iter, ifs, 0⟩] scope pos) (tLComp fr wi tt te) := by
  intro pins s σ H Q I h
  rw [eval_ListComp]
  refine wpAny_comprehension_free (use := none) rfl hs hclos hkind hnames (wpAny_mono (hi pins s σ H _ I h) (fun v s1 h1 => wpAny_mono h1 (fun itv s2 h2 => ?_) fun _ _ e => e) fun _ _ e => e)
  obtain ⟨it, fp, tn, J, H2, rfl, I2, T, st2, f2, W, ⟨m0, w0⟩, turn⟩ := h2
  refine wpAny_newObj_type (wpAny_newFunctionEnv hcell (by intro y hy; simp at hy) (fun h₁ hns₁ hsb₁ => ?_) hkind)
  dsimp only at hns₁ hsb₁ ⊢
  generalize hP2 : s2.heap.push { cls := .type "list", dict := none, data := .seq ([] : List Value).toArray } = P2 at hns₁ hsb₁ ⊢
  have hC : P2.objs.size = s2.heap.objs.size + 1 := by rw [← hP2, Heap.size_push]
  have hDC : s2.heap.objs.size ≠ P2.objs.size := by rw [hC]; exact Nat.ne_of_lt (Nat.lt_succ_self _)
  have hCle : s2.heap.objs.size ≤ P2.objs.size := by rw [hC]; exact Nat.le_succ _
  have below : ∀ b, b < s2.heap.objs.size → b ≠ P2.objs.size ∧ b ≠ s2.heap.objs.size := fun b hb => ⟨by rw [hC]; exact Nat.ne_of_lt (Nat.lt_succ_of_lt hb), Nat.ne_of_lt hb⟩
  have old : ∀ b o, s2.heap.get? b = some o → h₁.get? b = some o := fun b o e => hsb₁.extBut b o (below b (Heap.lt_size e)).1 (Heap.get?_push_of_some _ (hP2 ▸ Heap.get?_push_of_some _ e))
  have hacc : h₁.get? s2.heap.objs.size = some { cls := .type "list", data := .seq ([] : List Value).toArray } := hsb₁.extBut _ _ hDC (Heap.get?_push_of_some _ (hP2 ▸ Heap.get?_push_size _ rfl))
  have fpl : ∀ b ∈ fp, b < s2.heap.objs.size := fun b hb => by
    obtain ⟨o, e, _⟩ := T.obj _ _ st2 b hb
    exact Heap.lt_size e
  have tlt : ∀ b o, H2 b = some o → b < s2.heap.objs.size := fun b o e => I2.hok.lt e
  generalize hCg : P2.objs.size = C at hns₁ hsb₁ hDC hCle below ⊢
  generalize hDg : s2.heap.objs.size = D at hDC below hacc fpl tlt ⊢
  have hDle : D ≤ C := by rw [← hDg]; exact hCle
  have cls : ∀ y c, cl.lookup y = some c → X.env.cells.lookup y = some c := fun y c e => hcl.mem e
  have clt : ∀ y c, cl.lookup y = some c → c < D := fun y c e => by
    obtain ⟨v, q⟩ := I2.cell y c (cls y c e)
    rw [← hDg]; exact q.lt
  have sub : ∀ b ∈ frs X.stack, b < D := fun b hb => by
    rcases List.mem_cons.mp (I2.stkSub b hb) with e | hb
    · rw [e, ← hDg]; exact I2.lt
    · obtain ⟨_, o, ho, _⟩ := I2.ok.funs.mem hb
      rw [← hDg]; exact Nat.lt_of_lt_of_le (Heap.lt_size ho) I2.sz
  obtain ⟨YI, YE⟩ := hY C s2 H2 fp ⟨pins, σ, I2, f2⟩
  have Yok : (cxComp X scope cl (x :: ys) C s2 H2 fp).Ok := by
    refine ⟨I2.ok.mod, hkind, I2.ok.glob, I2.ok.blt, hCle, ?_, ?_, ?_, fun _ => I2.ok.hd hc, I2.ok.frames, .inl rfl, ?_, I2.bs, Nat.le_trans I2.ok.bsz I2.sz, ?_, ?_, I2.stack, I2.stkFree⟩
    · exact fun y z c e1 e2 => I2.ok.inj y z c (cls y c e1) (cls z c e2)
    · intro y hy
      have hm := lookup_relabel_inv (env := X.env) (names := scope.names) (x := y) hcell hy
      have q := List.all_eq_true.mp hall _ hm
      show ∃ c, cl.lookup y = some c
      exact Option.isSome_iff_exists.mp (by simpa using q)
    · intro y c hf _
      exact absurd hf (by show ¬ false = true; decide)
    · intro b hb
      refine ⟨(below b (fpl b hb)).1, fun y c e z => ?_⟩
      exact (f2 b hb).2.2.2.2.1 y c (cls y c e) z
    · intro b o e hb
      have hb : b ∈ fp := hb
      rcases (f2 b hb).2.2.2.1 with z | z
      · exact I2.ok.noex b o e z
      · exact absurd (Nat.lt_of_lt_of_le (Heap.lt_size e) (Nat.le_trans I2.ok.bsz z)) (Nat.lt_irrefl _)
    · intro b hb hf
      have hb : b ∈ fp := hb
      rcases List.mem_cons.mp (I2.stkSub b hf) with e | hf
      · exact (f2 b hb).2.1 e
      · exact (f2 b hb).2.2.1 hf
  -- the block's state at a turn's start
  have hvis : Loc (cxComp X scope cl (x :: ys) C s2 H2 fp).env.scope x := .inl (lookup_relabel_local hx)
  have start : ∀ tk, Inv (cxComp X scope cl (x :: ys) C s2 H2 fp) [] (none :: frees fr σ) H2 { s2 with heap := h₁, toks := tk } := fun tk => by
    refine ⟨Yok, rfl, I2.bare, Un.kept old, ⟨_, hns₁, fun i y v e1 e2 e3 => ?_⟩, fun y c e => ?_, ?_, fun y c e => ?_, fun p hp => absurd (show p ∈ ([] : List (Addr × Obj)) from hp) (by simp), I2.hok.kept old, ?_⟩
    · cases i with
      | zero => simp at e2
      | succ j =>
        obtain ⟨i', n1, n2, n3, n4, n5, c, n6⟩ := frees_get hfr j y v (by simpa [cxComp] using e1) (by simpa using e2)
        obtain ⟨m, hn, hl⟩ := I2.loc
        obtain ⟨u, r, l⟩ := hl i' y v n1 n2 n4
        refine ⟨u, r, .inr ⟨lookup_relabel_free n3, c, n6, ?_⟩⟩
        rcases l with ⟨k, _⟩ | ⟨k, c', e, z⟩
        · exact absurd k n5
        · rw [cls y c n6] at e
          cases e
          obtain ⟨o, ho, hd⟩ := z
          exact ⟨o, old _ _ ho, hd⟩
    · obtain ⟨v, o, ho, hd⟩ := I2.cell y c (cls y c e)
      exact ⟨v, o, old _ _ ho, hd⟩
    · show H2 C = none
      cases q : H2 C with
      | none => rfl
      | some o => exact absurd (tlt C o q) (Nat.not_lt.mpr hDle)
    · exact I2.freeC y c (cls y c e)
    · show (none :: frees fr σ).length = (x :: ys).length
      rw [List.length_cons, List.length_cons, frees_len hfr]
  have fpY : ∀ {pl : List (Addr × Obj)} {H' : Hp}, (∀ b ∈ fp, H' b = none) → (∀ p ∈ pl, p.1 = D) → ∀ b ∈ fp, FpOk (cxComp X scope cl (x :: ys) C s2 H2 fp) pl H' b := fun {pl H'} hn hpl b hb => by
    refine ⟨hn b hb, (below b (fpl b hb)).1, Yok.exfs b hb, .inl hb, fun y c e z => (f2 b hb).2.2.2.2.1 y c (cls y c e) z, fun p hp => ?_⟩
    have hp : p ∈ [] ++ pl := hp
    rw [List.nil_append] at hp
    rw [hpl p hp]
    exact (below b (fpl b hb)).2.symm
  have loop : ∀ s₃ : Shared, (∃ tk, s₃ = { s2 with heap := h₁, toks := tk }) →
      codeAny (model X.prog X.w) X.A (.compLoop (.ListComp elt [⟨.Name x px, iter, ifs, 0⟩] scope pos) 0 (.ref it) (.ref D) (compEnvC scope cl C X.env))
        (compPost (model X.prog X.w) X.A X.xe none (EP X pins σ Q) (.ref D) C) s₃ := by
    rintro s₃ ⟨tk, rfl⟩
    refine comp_loop
      (fun k s' => ∃ i vs ws nn H', Inv (cxComp X scope cl (x :: ys) C s2 H2 fp) [] (none :: frees fr σ) H' s' ∧ tn i s'.heap ∧ (∀ b ∈ fp, H' b = none) ∧ H' D = none ∧
        s'.heap.get? D = some { cls := .type "list", data := .seq (ws : List Value).toArray nn } ∧ Vals vs ws ∧ W i k vs H') ?_ m0
      ⟨0, [], [], 0, H2, start tk, T.keep _ _ _ st2 fun b _ o e => old b o e, fun b hb => (f2 b hb).1, ?_, hacc, .nil, w0⟩
    · rintro n s3 ⟨i, vs, ws, nn, H3, I3, st3, fr3, hD3, ho3, rv3, w3⟩
      have I3' : Inv (cxComp X scope cl (x :: ys) C s2 H2 fp) [(D, { cls := .type "list", data := .seq ws.toArray nn })] (none :: frees fr σ) H3 s3 := I3.pins_of fun p hp => by
        have e : p = (D, { cls := .type "list", data := .seq ws.toArray nn }) := by simpa using hp
        subst e
        refine ⟨ho3, hD3, hDC, fun z => absurd (sub D z) (Nat.lt_irrefl _), fun v z => ?_⟩
        have z' : Data.seq ws.toArray nn = Data.cell v := z
        cases z'
      have fp3 := fpY (pl := [(D, { cls := .type "list", data := .seq ws.toArray nn })]) fr3 (fun p hp => by rw [List.mem_singleton.mp hp])
      obtain ⟨hsz, alt⟩ := turn i n vs H3 w3
      rcases alt with ⟨stop, fin⟩ | ⟨go, step⟩
      · refine thn (T.done (cxComp X scope cl (x :: ys) C s2 H2 fp) rfl rfl rfl rfl i _ s3 _ H3 _ I3' fp3 st3 stop) fun r s4 ⟨hr, I4⟩ => ?_
        subst hr
        have pD := I4.pin (D, { cls := .type "list", data := .seq ws.toArray nn }) (by show _ ∈ [] ++ _; simp)
        obtain ⟨m4, hn4, _⟩ := I4.loc
        refine ⟨m4, hn4, fun h' hs' => ?_⟩
        have hC4 : H3 C = none := I4.free
        have hok' : HOk X.prog X.w (upd H3 D (.lst vs)) h' := by
          refine HOk.track (I4.hok.other hC4 hs') hD3 ⟨hsz, ws, nn, rv3, (hs'.2 D hDC).trans pD.1⟩
        have b4 := I4.base
        have un : Un (frs X.stack) fp H2 (upd H3 D (.lst vs)) s2.heap h' := by
          have lt : ∀ b o, s2.heap.get? b = some o → b < D := fun b o e => by rw [← hDg]; exact Heap.lt_size e
          refine ⟨fun b o e n hb hx => (hs'.2 b (below b (lt b o e)).1).trans (b4.keep b o e n hb hx), fun b o e n hb hx => ?_, fun b o e n hx => ?_, fun b o e hx => ?_, fun b zs e => ?_, fun b o u e => ?_, fun b ps e => ?_⟩
          · obtain ⟨sl, q⟩ := b4.slot b o e n hb hx
            exact ⟨sl, (hs'.2 b (below b (lt b o e)).1).trans q⟩
          · rw [upd_ne (below b (lt b o e)).2]; exact b4.free b o e n hx
          · obtain ⟨o', q⟩ := b4.there b o e hx
            exact ⟨o', (hs'.2 b (below b (lt b o e)).1).trans q⟩
          · rw [upd_ne (below b (tlt b _ e)).2]; exact b4.tups b zs e
          · rw [upd_ne (below b (tlt b _ e)).2]; exact b4.frzs b o u e
          · rw [upd_ne (below b (tlt b _ e)).2]; exact b4.tbls b ps e
        refine ⟨.ref D, upd H3 D (.lst vs), ?_, rfl, fin D hD3⟩
        exact I2.call' (s' := { s4 with heap := h' }) (ch := fp) I4.os un hok' I4.bare fun b hb => ⟨(f2 b hb).2.2.2.1, (f2 b hb).2.1, (f2 b hb).2.2.2.2.1, (f2 b hb).2.2.2.2.2⟩
      · refine thn (T.item (cxComp X scope cl (x :: ys) C s2 H2 fp) rfl rfl rfl rfl i _ s3 _ H3 _ I3' fp3 st3 go) fun r s4 ⟨u, hr, h4⟩ => ?_
        subst hr
        refine thn h4 fun _ s5 ⟨v, H5, I5, r5, y5, st5, fr5⟩ => ?_
        have fp5 := fpY (pl := [(D, { cls := .type "list", data := .seq ws.toArray nn })]) fr5 (fun p hp => by rw [List.mem_singleton.mp hp])
        have I5' := I5.pinned fp5 (T.obj _ _ st5)
        refine thn (pg_name (X := cxComp X scope cl (x :: ys) C s2 H2 fp) (i := 0) (pos := px) hnd rfl hvis (.inr (lookup_relabel_local hx)) _ s5 _ H5 v u (fun σ' H' => σ' = some v :: frees fr σ ∧ H' = H5) I5' r5 ⟨rfl, rfl⟩) fun _ s6 ⟨σ6, H6, I6, e6, e6'⟩ => ?_
        subst e6 e6'
        refine thn (YI _ s6 _ _ _ I6 (step v H6 y5)) fun b s7 ⟨H7, I7, q7⟩ => ?_
        -- what is kept through the turn
        have back : ∀ {H8 : Hp} {s8 : Shared}, Inv (cxComp X scope cl (x :: ys) C s2 H2 fp) ([(D, { cls := .type "list", data := .seq ws.toArray nn })] ++ pinsAt fp s5.heap) (some v :: frees fr σ) H8 s8 →
            s8.heap.get? D = some { cls := .type "list", data := .seq ws.toArray nn } ∧ H8 D = none ∧ (∀ b ∈ fp, H8 b = none) ∧ (∀ b ∈ fp, ∀ o, s5.heap.get? b = some o → s8.heap.get? b = some o) := fun {H8 s8} I8 => by
          have pD := I8.pin (D, { cls := .type "list", data := .seq ws.toArray nn }) (by show _ ∈ [] ++ _; simp)
          refine ⟨pD.1, pD.2.1, fun b hb => ?_, fun b hb o e => ?_⟩
          · obtain ⟨o, e, d⟩ := T.obj _ _ st5 b hb
            exact (I8.pin (b, o) (List.mem_append_right _ (List.mem_append_right _ (mem_pinsAt hb e)))).2.1
          · exact (I8.pin (b, o) (List.mem_append_right _ (List.mem_append_right _ (mem_pinsAt hb e)))).1
        have weak : ∀ {H8 : Hp} {s8 : Shared}, Inv (cxComp X scope cl (x :: ys) C s2 H2 fp) [] (some v :: frees fr σ) H8 s8 → Inv (cxComp X scope cl (x :: ys) C s2 H2 fp) [] (none :: frees fr σ) H8 s8 := fun {H8 s8} I8 =>
          I8.weak rfl fun i v' e => by
            cases i with
            | zero => simp at e
            | succ j => simpa using e
        have nopin : ∀ {H8 : Hp} {s8 : Shared} {pl : List (Addr × Obj)}, Inv (cxComp X scope cl (x :: ys) C s2 H2 fp) pl (some v :: frees fr σ) H8 s8 → Inv (cxComp X scope cl (x :: ys) C s2 H2 fp) [] (some v :: frees fr σ) H8 s8 := fun {H8 s8 pl} I8 =>
          I8.pins_of fun p hp => absurd hp (by simp)
        cases b with
        | false =>
          rw [if_neg Bool.false_ne_true] at q7 ⊢
          obtain ⟨m', hm, w7⟩ := q7
          obtain ⟨k1, k2, k3, k4⟩ := back I7
          exact ⟨m', hm, i + 1, vs, ws, nn, H7, weak (nopin I7), T.keep _ _ _ st5 k4, k3, k2, k1, rv3, w7⟩
        | true =>
          rw [if_pos rfl] at q7 ⊢
          refine thn (YE _ s7 _ _ _ I7 q7) fun u8 s8 ⟨y8, H8, I8, r8, m', hm, w8⟩ => ?_
          obtain ⟨k1, k2, k3, k4⟩ := back I8
          refine append_at (hsz := by rw [List.size_toArray, ← rv3.length]; exact hsz) k1 fun h9 hs9 ho9 => ?_
          have I9 : Inv (cxComp X scope cl (x :: ys) C s2 H2 fp) [] (some v :: frees fr σ) H8 { s8 with heap := h9 } :=
            (nopin I8).turned (t' := s8.toks) (it := D) (fun b o hb e => (hs9.2 b hb).trans e) k2 hDC (.inr (by rw [← hDg]; exact Nat.le_refl _)) (fun y c e => Nat.ne_of_lt (clt y c e)) fun p hp => absurd (show p ∈ ([] : List (Addr × Obj)) from hp) (by simp)
          refine ⟨m', hm, i + 1, vs ++ [y8], ws ++ [u8], nn + 1, H8, weak I9, ?_, k3, k2, ?_, rv3.append (.cons r8 .nil), w8⟩
          · refine T.keep _ _ _ st5 fun b hb o e => ?_
            exact (hs9.2 b (below b (fpl b hb)).2).trans (k4 b hb o e)
          · rw [ho9, List.push_toArray]
    · cases q : H2 D with
      | none => rfl
      | some o => exact absurd (tlt D o q) (Nat.lt_irrefl _)
  exact codeAny_compStart_list (loop _ ⟨_, rfl⟩) (T.self _ 0 _ _ _ (T.keep _ _ _ st2 fun b _ o e => old b o e) (loop _ ⟨_, rfl⟩))
end L2

set_option Elab.async false
set_option linter.all false
set_option maxRecDepth 100000
set_option maxHeartbeats 1000000
namespace L2
open PySem PySem.Spec PyProof.Rows

/-! ### a def that may raise, by its name -/
def HaveX (P : Program) (w : World) (K : PySem.W.Frag) (mg : Str → Option Value) (base : Heap) (x : Str) (k : Nat) (ps : List Str) (sp : Sp) : Prop :=
  ∃ (f : Addr) (fd : FuncData), FnOk P w K mg base (CX1 P w) k f fd ps sp ∧ Binds K fd ps [] ∧ PySem.W.keepIn K (.ref f) = true ∧ mg x = some (.ref f)
theorem HaveX.mono {P : Program} {w : World} {K : PySem.W.Frag} {mg : Str → Option Value} {base : Heap} {x : Str} {j k : Nat} {ps : List Str} {sp : Sp} (h : HaveX P w K mg base x j ps sp) (e : j ≤ k) : HaveX P w K mg base x k ps sp :=
  let ⟨f, fd, F, r⟩ := h; ⟨f, fd, F.mono e, r⟩
section
variable {X : Cx} {E : XK} {x : Str} {k : Nat} {ps : List Str} {sp : Sp} {e : Expr} {es : List Expr} {t : TA} {p pos : Pos}
theorem pe_fnX (G : HaveX X.prog X.w X.K X.mg X.base x k ps sp) (hr : Room k X.A) (hl : Lets X E) (hg : Gl X x) (ha : PA X (e :: es) t) (hdb : (x == ("__debug__" : Str)) = false := by decide)
    (he : starEach (e :: es) X.env = (false, eval e X.env) :: starEach es X.env := by rfl) (hpl : (backTo pos (starEach es X.env)).any (·.1) = false := by rfl) :
    PE X (.Call (.Name x p) (e :: es) [] pos) (tCall sp [] E t) := by
  obtain ⟨f, fd, F, b, kp, m⟩ := G
  exact pe_call F hr hg m kp b .nil hl.passes ha hdb he hpl
end
/-- THE RULE for a def that may raise -/
theorem Fun.okX {P : Program} {w : World} {K : PySem.W.Frag} {mg : Str → Option Value} {base : Heap} {x qual : Str} {st : Stmt} {f : Addr} {fd : FuncData} {N ps : List Str} {k : Nat} {sp : Sp} (F : Fun K x qual st f fd) (sc : FnScope N ps (defScope st)) (h1 : ∀ (vs : List V) (H : Hp) (Q : VK) (E : XK), sp vs H Q E → vs.length = ps.length)
    (h2 : ∀ (cdv : Value) (A : Around) (outer : List Env) (s : Shared) (H : Hp) (vs : List V) (Q : VK) (E : XK), Room k (A.deeper (PyProof.Rows.envOfC qual (defScope st) s.heap.objs.size f cdv)) → sp vs H Q E →
      ∃ t : TS, QSs (cxOf (CX1 P w) P w K mg base N qual (defScope st) f cdv A outer s H E) (defBody st) t ∧ t { nx := fun _ H' => Q V.non H', rt := Q } (L2.start N vs) H) : FnOk P w K mg base (CX1 P w) (k + 1) f fd ps sp := by
  obtain ⟨oc, od, kV, doc, pm, an, cdv, ct, osl, rfl, lk, hcd⟩ := F.ex
  refine fn_of lk hcd sc h1 fun A outer s H vs Q E hr hsp => ?_
  obtain ⟨t, h, q⟩ := h2 cdv A outer s H vs Q E hr hsp
  exact ⟨t, h.un, q⟩

/-! ### raise C(..), C an own class of exceptions under ValueError -/
def vErr : List Value := [.type "ValueError", .type "Exception", .type "BaseException", .type "object"]
theorem exc_in {K : PySem.W.Frag} {h : Heap} {C : Addr} {bmB : List Value} {newId : String} (X : K.In h) (q : PySem.W.excIn K C bmB newId = true) :
    ∃ bm N nm q bs hdct sn sub ab col dd k0 k1 k2 k3 k5 mN, h.get? C = some (excClassObj nm q C N bs bm hdct sn sub ab col dd k0 k1 k2 k3 k5 newId) ∧ h.Ns N mN ∧ mN "__init__" = none ∧ OwnTail h bmB bm := by
  unfold PySem.W.excIn at q
  split at q
  case h_2 => cases q
  rename_i dd cd sl ho
  split at q
  case h_2 => cases q
  rename_i C' bm k0 k1 k2 k3 n k5 hm hs
  simp only [Bool.and_eq_true, Bool.not_eq_true', beq_iff_eq] at q
  obtain ⟨⟨⟨⟨⟨rfl, rfl⟩, hdel⟩, ht⟩, hk⟩, hi⟩ := q
  obtain ⟨nm, bs, mr, ns, qn, hd, sn, sub, ab, col, dl⟩ := cd
  dsimp only at hm hdel hk hi
  subst hm hdel
  obtain ⟨l⟩ := sl
  simp only at hs
  subst hs
  exact ⟨bm, ns, nm, qn, bs, hd, sn, sub, ab, col, dd, k0, k1, k2, k3, k5, _, X _ _ ho, .of_isNs (PySem.W.isNs_of_in X hk), PySem.W.nsMap_none_of_in X hk hi, PySem.W.tail_of_in X ht⟩
def tRaise (E : XK) (C : Addr) (t : TA) : TS := fun _ σ H => t σ H fun vs H1 => vs.length ≤ sizeLine ∧ E (.ref C) none H1
theorem ps_raise {X : Cx} {E : XK} {C : Addr} {x : Str} {e : Expr} {es : List Expr} {t : TA} {np cpos pos : Pos} (hl : Lets X E) (hc : X.calm = true) (hk : PySem.W.excIn X.K C vErr "ValueError.__new__" = true) (hm : X.mg x = some (.ref C)) (hg : Gl X x)
    (ha : PA X (e :: es) t) (hd : (x == ("__debug__" : Str)) = false := by decide) (he : starEach (e :: es) X.env = (false, eval e X.env) :: starEach es X.env := by rfl) (hpl : (backTo cpos (starEach es X.env)).any (·.1) = false := by rfl) :
    PS X (.Raise (some (.Call (.Name x np) (e :: es) [] cpos)) none pos) (tRaise E C t) := by
  intro pins s σ H D I h
  obtain ⟨bm, N, nm, qn, bs, hdct, sn, sub, ab, col, dd, k0, k1, k2, k3, k5, mN, hC, hN, hni, T⟩ := exc_in I.mod.kin hk
  refine wpAny_Raise_call_subT (C := C) (nm := nm) (q := qn) (N := N) (bs := bs) (bm := bm) (hdct := hdct) (sn := sn) (sub := sub) (ab := ab) (col := col) (dd := dd) (k0 := k0) (k1 := k1) (k2 := k2) (k3 := k3) (k5 := k5) (mN := mN) PySem.F.excBase_ValueError (T.hasType (by decide +kernel)) (I.ok.hd hc) ?_ hni (ld_glob I hg hm ⟨rfl, ?_⟩ hd)
  · rw [he]
    show (false || (backTo cpos (starEach es X.env)).any (·.1)) = false
    rw [hpl]; rfl
  have hA := ha cpos pins s σ H _ I h
  rw [he] at hA ⊢
  refine Calls.evalArgs_plain (wpAny_mono hA (fun us s2 h2 => ?_) fun _ _ y => y)
  obtain ⟨vs, H2, I2, r2, hz, hE⟩ := h2
  have k2 := I2.bk
  refine ⟨rfl, by show us.length ≤ _; rw [← r2.length]; exact hz, k2 _ _ hC, hN.keeps k2, T.keeps k2, fun h' ea hm => ?_⟩
  obtain ⟨tp, h1, h2, h3⟩ := hm.there
  have J : Inv X pins σ H2 { s2 with heap := h' } := I2.kept (t' := s2.toks) hm.keeps
  exact hl pins s2.heap σ H2 { s2 with heap := h' } false ea C I2.old J (fun b o q => ⟨o, hm.keeps b o q⟩) ⟨hm.new, I2.hok.noneAt hm.new, _, _, h1, ⟨rfl, rfl⟩, rfl, (by show 1 < 6; decide), .inl ⟨rfl, rfl⟩⟩ hE
end L2

set_option Elab.async false
set_option linter.all false
set_option maxRecDepth 100000
set_option maxHeartbeats 1000000
namespace L2
open PySem PySem.Spec PyProof.Rows

/-- an exception that was caught, by its class -/
def excO (a C : Addr) : HO := .ext fun h => ∃ o vs, h.get? a = some o ∧ o.cls = .ref C ∧ o.dict = none ∧ o.data = .fields vs
theorem excO_ok {P : Program} {w : World} {H : Hp} {h : Heap} {a C : Addr} {o : Obj} {vs : Array Value} (e : h.get? a = some o) (c : o.cls = .ref C) (d : o.dict = none) (f : o.data = .fields vs) : ObjOk P w H h a (excO a C) :=
  ⟨⟨o, vs, e, c, d, f⟩, ⟨o, e⟩, fun h1 h2 ⟨o, vs, e, r⟩ k => ⟨o, vs, k o e, r⟩⟩
section
variable {X : Cx} {pins : List (Addr × Obj)} {σ : St} {H : Hp} {h0 : Heap} {s : Shared}
/-- an object that was not there is tracked -/
theorem Inv.tracked {a : Addr} {o : HO} (J : Inv X pins σ H s) (O : Old X pins h0) (a0 : h0.get? a = none) (aH : H a = none) (new : ObjOk X.prog X.w (upd H a o) s.heap a o) : Inv X pins σ (upd H a o) s := by
  have ne : ∀ b u, h0.get? b = some u → b ≠ a := fun b u e z => by rw [z, a0] at e; cases e
  have nH : ∀ b u, H b = some u → b ≠ a := fun b u e z => by rw [z, aH] at e; cases e
  have b4 := J.base
  refine ⟨J.ok, J.os, J.bare, ⟨b4.keep, b4.slot, fun b u e n hx => ?_, b4.there, fun b xs e => ?_, fun b u v e => ?_, fun b ps e => ?_⟩, J.loc, J.cell, ?_, fun x c e => ?_, fun p hp => ?_, J.hok.track aH new, J.len⟩
  · obtain ⟨o', q⟩ := O.ent b u e hx
    rw [upd_ne (ne b o' q)]
    exact b4.free b u e n hx
  · have := b4.tups b xs e
    rw [upd_ne (nH _ _ this)]
    exact this
  · have := b4.frzs b u v e
    rw [upd_ne (nH _ _ this)]
    exact this
  · obtain ⟨more, this⟩ := b4.tbls b ps e
    exact ⟨more, by rw [upd_ne (nH _ _ this)]; exact this⟩
  · obtain ⟨o', q⟩ := O.loc
    rw [upd_ne (ne _ o' q)]
    exact J.free
  · obtain ⟨o', q⟩ := O.cel x c e
    rw [upd_ne (ne _ o' q)]
    exact J.freeC x c e
  · obtain ⟨h1, h2, h3⟩ := J.pin p hp
    obtain ⟨o', q⟩ := O.pin p hp
    exact ⟨h1, by rw [upd_ne (ne _ o' q)]; exact h2, h3⟩
/-- the frame's names are set otherwise -/
theorem Inv.renamed {σ' : St} {h' : Heap} {m' : Str → Option Value} {t' : Nat} (J : Inv X pins σ H s) (hs : Heap.SameBut X.env.locals s.heap h') (hn : h'.Ns X.env.locals m') (hl : σ'.length = σ.length)
    (hw : ∀ (i : Nat) (x : Str) (v : V), X.N[i]? = some x → σ'[i]? = some (some v) → Vis X.env.scope x → ∃ u, RelV v u ∧ Look X.env s.heap m' x u) : Inv X pins σ' H { s with heap := h', toks := t' } := by
  have b4 := J.base
  have ne : ∀ b u, X.s₀.heap.get? b = some u → b ≠ X.env.locals := fun b u e z => absurd (Nat.lt_of_lt_of_le (Heap.lt_size e) J.ok.above) (by rw [z]; exact Nat.lt_irrefl _)
  have ck : ∀ {c : Addr} {v : Option Value} {x : Str}, X.env.cells.lookup x = some c → s.heap.IsCell c v → h'.IsCell c v := fun {c v x} e z => by
    obtain ⟨o, ho, hd⟩ := z
    exact ⟨o, (hs.2 c (J.cne x c e)).trans ho, hd⟩
  refine ⟨J.ok, J.os, J.bare, ⟨fun b u e n hb hx => (hs.2 b (ne b u e)).trans (b4.keep b u e n hb hx), fun b u e n hb hx => ?_, b4.free, fun b u e hx => ?_, b4.tups, b4.frzs, b4.tbls⟩, ⟨m', hn, fun i x v h1 h2 h3 => ?_⟩, fun x c e => ?_, J.free, J.freeC, fun p hp => ?_, J.hok.other J.free hs, hl.trans J.len⟩
  · obtain ⟨sl, q⟩ := b4.slot b u e n hb hx
    exact ⟨sl, (hs.2 b (ne b u e)).trans q⟩
  · obtain ⟨o', q⟩ := b4.there b u e hx
    exact ⟨o', (hs.2 b (ne b u e)).trans q⟩
  · obtain ⟨u, r, lk⟩ := hw i x v h1 h2 h3
    refine ⟨u, r, ?_⟩
    rcases lk with lk | ⟨lk, c, hc, z⟩
    · exact .inl lk
    · exact .inr ⟨lk, c, hc, ck hc z⟩
  · obtain ⟨v, z⟩ := J.cell x c e
    exact ⟨v, ck e z⟩
  · obtain ⟨h1, h2, h3, h4⟩ := J.pin p hp
    exact ⟨(hs.2 _ h3).trans h1, h2, h3, h4⟩
end
/-- another wish, and pins for good -/
abbrev Cx.by (X : Cx) (E : Value → Shared → Prop) (pn : List (Addr × Obj)) : Cx := { X with xe := E, pn := pn }
section
variable {X : Cx} {pins pins' : List (Addr × Obj)} {σ : St} {H : Hp} {s : Shared} {E : Value → Shared → Prop}
theorem Cx.Ok.by (ok : X.Ok) (E : Value → Shared → Prop) (pn : List (Addr × Obj)) : (X.by E pn).Ok :=
  ⟨ok.mod, ok.kind, ok.glob, ok.blt, ok.above, ok.inj, ok.has, ok.cab, ok.hd, ok.frames, ok.stk, ok.exf, ok.bs, ok.bsz, ok.noex, ok.exfs, ok.funs, ok.frf⟩
theorem Cx.Ok.unby {pn : List (Addr × Obj)} (ok : (X.by E pn).Ok) : X.Ok :=
  ⟨ok.mod, ok.kind, ok.glob, ok.blt, ok.above, ok.inj, ok.has, ok.cab, ok.hd, ok.frames, ok.stk, ok.exf, ok.bs, ok.bsz, ok.noex, ok.exfs, ok.funs, ok.frf⟩
theorem Inv.by (I : Inv X pins σ H s) (E : Value → Shared → Prop) : Inv (X.by E (X.pn ++ pins)) [] σ H s :=
  ⟨I.ok.by E _, I.os, I.bare, I.base, I.loc, I.cell, I.free, I.freeC, fun p hp => I.pin p (by simpa using hp), I.hok, I.len⟩
theorem Inv.unby (I : Inv (X.by E (X.pn ++ pins)) pins' σ H s) : Inv X pins σ H s :=
  ⟨I.ok.unby, I.os, I.bare, I.base, I.loc, I.cell, I.free, I.freeC, fun p hp => I.pin p (List.mem_append_left _ hp), I.hok, I.len⟩
theorem SP.unby {D : Ends} {f : Flow} {s' : Shared} (h : SP (X.by E (X.pn ++ pins)) [] D f s') : SP X pins D f s' := by
  cases f with
  | next => obtain ⟨σ', H', I, q⟩ := h; exact ⟨σ', H', I.unby, q⟩
  | brk => obtain ⟨σ', H', I, q⟩ := h; exact ⟨σ', H', I.unby, q⟩
  | cont => obtain ⟨σ', H', I, q⟩ := h; exact ⟨σ', H', I.unby, q⟩
  | ret u => obtain ⟨v, σ', H', I, r, q⟩ := h; exact ⟨v, σ', H', I.unby, r, q⟩
/-- within an except suite -/
abbrev Cx.suite (X : Cx) (e : Value) : Cx := { X with A := X.A.mark (some e), calm := false, xe := fun _ _ => False }
theorem Inv.suite (I : Inv X pins σ H s) (e : Value) : Inv (X.suite e) pins σ H s :=
  ⟨⟨I.ok.mod, I.ok.kind, I.ok.glob, I.ok.blt, I.ok.above, I.ok.inj, I.ok.has, I.ok.cab, (fun z => nomatch z), I.ok.frames, I.ok.stk, I.ok.exf, I.ok.bs, I.ok.bsz, I.ok.noex, I.ok.exfs, I.ok.funs, I.ok.frf⟩, I.os, I.bare, I.base, I.loc, I.cell, I.free, I.freeC, I.pin, I.hok, I.len⟩
theorem Inv.unsuite {e : Value} (I : Inv (X.suite e) pins σ H s) (ok : X.Ok) : Inv X pins σ H s := ⟨ok, I.os, I.bare, I.base, I.loc, I.cell, I.free, I.freeC, I.pin, I.hok, I.len⟩
end
/-- what is wanted of an exception that is caught: its class is one of those; behind it the name i holds it, of the others nothing is known -/
def caughtE (K : PySem.W.Frag) (CF : Addr) (N : List Str) (i : Nat) (D : Ends) : XK := fun c _ H1 => ∃ C, c = .ref C ∧ PySem.W.exmOne K (.ref C) (.ref CF) = some true ∧ ∀ ea, H1 ea = none → D.nx ((List.replicate N.length none).set i (some (.ref ea))) (upd H1 ea (excO ea C))
def tTry (K : PySem.W.Frag) (CF : Addr) (N : List Str) (i : Nat) (tb : XK → TS) : TS := fun D σ H => tb (caughtE K CF N i D) D σ H
theorem ps_try {X : Cx} {body : List Stmt} {tb : XK → TS} {i j : Nat} {y n F : Str} {CF : Addr} {np py pn pa hpos pos : Pos} (hst : X.stack = X.env :: X.outer) (hf : ∃ L, X.env.frame = some L) (hm : X.mg F = some (.ref CF)) (hg : Gl X F)
    (hN : X.N.Nodup) (hi : X.N[i]? = some y) (hy : Loc X.env.scope y) (hj : X.N[j]? = some n) (hn : X.env.kindOf n = some .local) (yn : y ≠ n)
    (hb : ∀ Ex pl E1, Lets (X.by Ex pl) E1 → PSs (X.by Ex pl) body (tb E1)) (hd : (F == ("__debug__" : Str)) = false := by decide) (hdn : (n == ("__debug__" : Str)) = false := by decide) (hcn : (n == ("__classdict__" : Str)) = false := by decide)
    (hs : swapsWith (.Name n pn) (some (.Name y py)) pa.line X.env = pure false := by rfl) (hfy : X.fn y = true ∨ X.env.scope.names.lookup y = some .local := by first | exact .inl rfl | exact .inr rfl | assumption) (hfn : X.fn n = true ∨ X.env.scope.names.lookup n = some .local := by first | exact .inl rfl | exact .inr rfl | assumption) :
    PS X (.Try body [.ExceptHandler (some (.Name F np)) (some n) [.Assign [.Name y py] (.Name n pn) pa] hpos] [] [] pos) (tTry X.K CF X.N i tb) := by
  intro pins s σ H D I h
  obtain ⟨L, hL⟩ := hf
  have lets : Lets (X.by (fun e s₁ => wpAny (model X.prog X.w) X.A (noteFrame e X.env) (fun _ s₂ => wpAny (model X.prog X.w) X.A (setFlight e none) (fun _ s₃ => wpAny (model X.prog X.w) X.A (handleBy e X.env [.ExceptHandler (some (.Name F np)) (some n) [.Assign [.Name y py] (.Name n pn) pa] hpos]) (SP X pins D) X.xe s₃) X.xe s₂) X.xe s₁) (X.pn ++ pins)) (caughtE X.K CF X.N i D) := by
    intro px h0 σ1 H1 s1 tr ea C O J k01 fl hE
    have JX : Inv X pins σ1 H1 s1 := J.unby
    have OX : Old X pins h0 := ⟨O.ent, O.loc, O.cel, fun p hp => O.pin p (List.mem_append_left _ hp)⟩
    clear O J
    refine note_any OX JX k01 hst hL fl fun h2 J2 fl2 _ => ?_
    refine flight_any (s1 := { s1 with heap := h2 }) OX J2 fl2 fun h3 J3 fl3 _ => ?_
    obtain ⟨C', hC, hex, hD⟩ := hE
    cases hC
    refine wpAny_handleBy_cons (codeAny_handlers_test ?_) (by intro z; cases z)
    refine ld_glob (X := X.suite (.ref ea)) (J3.suite _) hg hm ?_ hd
    obtain ⟨e0, eH, oe, vs, he, hc, hdd, hsz, r⟩ := id fl3
    have LT : PySem.W.Looks (model X.prog X.w) h3 (typeOf (.ref ea)) (.ref C) := hc.1 ▸ (PySem.W.Looks.ld he).andThen .now
    refine PySem.W.Looks.here (PySem.W.exm_one (J3.kIn) LT hex) ?_
    show codeAny _ _ _ _ _
    refine codeAny_handlers_suite_as (?_)
    refine flight_any (s1 := { s1 with heap := h3 }) OX J3 fl3 fun h4 J4 fl4 _ => ?_
    obtain ⟨e0, eH, oe, vs, he, hc, hdd, hsz, r⟩ := fl4
    have old : ∀ b u, h0.get? b = some u → b ≠ ea := fun b u e z => by rw [z, e0] at e; cases e
    have P4 : Inv X ((ea, oe) :: pins) σ1 H1 { s1 with heap := h4 } := J4.pins_of fun p hp => by
      rcases List.mem_cons.mp hp with rfl | hp
      · refine ⟨he, eH, fun z => ?_, fun z => ?_, fun v z => ?_⟩
        · obtain ⟨o', q⟩ := OX.loc
          exact old _ o' q z.symm
        · obtain ⟨_, o', q, _⟩ := J4.ok.funs.mem z
          obtain ⟨o2, q2⟩ := OX.ent _ o' q fun z2 => J4.ok.exfs _ z2 z
          exact old _ o2 q2 rfl
        · rw [hdd] at z; cases z
      · exact J4.pin p (List.mem_append_right _ hp)
    have P5 : Inv X ((ea, oe) :: pins) (List.replicate X.N.length none) H1 { s1 with heap := h4 } := P4.weak (by rw [List.length_replicate]; exact P4.len.symm) fun k v e => by
      rw [List.getElem?_replicate] at e
      split at e <;> cases e
    have hjl : j < X.N.length := (List.getElem?_eq_some_iff.mp hj).1
    have hil : i < X.N.length := (List.getElem?_eq_some_iff.mp hi).1
    have hvn : Vis X.env.scope n := .inl hn
    refine store_ok (X := X.suite (.ref ea)) (v := .ref ea) (P5.suite _) hN hj (.inl hn) rfl (fun s5 I5 => ?_) hfn
    have run := pss_one (ps_set (X := X.suite (.ref ea)) hN hi hy (pe_var (X := X.suite (.ref ea)) (pos := pn) hj hvn hdn hcn) hs hfy) ((ea, oe) :: pins) s5 _ H1
      { nx := fun σ' H' => σ' = ((List.replicate X.N.length none).set j (some (.ref ea))).set i (some (.ref ea)) ∧ H' = H1, rt := fun _ _ => False } I5 ⟨.ref ea, by rw [List.getElem?_set_self (by rw [List.length_replicate]; exact hjl)], rfl, rfl⟩
    refine wpAny_mono run (fun f s6 q6 => ?_) (fun _ _ z => z.elim)
    cases f with
    | brk => obtain ⟨_, _, _, z⟩ := q6; exact z.elim
    | cont => obtain ⟨_, _, _, z⟩ := q6; exact z.elim
    | ret u => obtain ⟨_, _, _, _, _, z⟩ := q6; exact z.elim
    | next =>
      obtain ⟨σ6, H6, I6, rfl, rfl⟩ := q6
      have J6 : Inv X ((ea, oe) :: pins) _ H6 s6 := I6.unsuite J4.ok
      obtain ⟨m, hnm, hlk⟩ := J6.loc
      refine wpAny_nameGoes_keeps hn hnm (by rw [J4.ok.kind]; rfl) fun h7 v hn7 hs7 => ?_
      have J7 : Inv X ((ea, oe) :: pins) ((List.replicate X.N.length none).set i (some (.ref ea))) H6 { s6 with heap := h7, toks := s6.toks + 1 } := by
        refine J6.renamed hs7 hn7 (by simp) fun k x v' h1 h2 h3 => ?_
        by_cases hki : k = i
        · subst hki
          rw [hi] at h1
          cases h1
          rw [List.getElem?_set_self (by rw [List.length_replicate]; exact hil)] at h2
          cases h2
          obtain ⟨u, r, lk⟩ := hlk k y (.ref ea) hi (by rw [List.getElem?_set_self (by rw [List.length_set, List.length_replicate]; exact hil)]) h3
          refine ⟨u, r, ?_⟩
          rcases lk with ⟨l1, l2⟩ | lk
          · exact .inl ⟨l1, by show (if y = n then v else m y) = some u; rw [if_neg yn]; exact l2⟩
          · exact .inr lk
        · rw [List.getElem?_set_ne (Ne.symm hki), List.getElem?_replicate] at h2
          split at h2 <;> cases h2
      have pe := (J7.pin (ea, oe) (by simp)).1
      have J8 : Inv X pins ((List.replicate X.N.length none).set i (some (.ref ea))) H6 { s6 with heap := h7, toks := s6.toks + 1 } := J7.pins_of fun p hp => J7.pin p (List.mem_append_right _ (List.mem_cons_of_mem _ hp))
      exact ⟨_, _, J8.tracked OX e0 eH (excO_ok pe hc.1 hc.2 hdd), hD ea eH⟩
  refine wpAny_Try_except (wpAny_mono (hb _ (X.pn ++ pins) (caughtE X.K CF X.N i D) lets [] s σ H D (I.by _) h) (fun f s1 q => ?_) (fun e s1 q => q))
  have q' := SP.unby q
  cases f with
  | next => exact wpAny_execs_nil q'
  | brk => exact q'
  | cont => exact q'
  | ret u => exact q'
end L2

set_option Elab.async false
set_option linter.all false
set_option maxRecDepth 100000
set_option maxHeartbeats 1000000
namespace L2
open PySem PySem.Spec PyProof.Rows

/-! ### isinstance of an exception that was caught -/
structure IsX (K : PySem.W.Frag) (C : Addr) : Prop where
  ga : PySem.W.findIn K (.ref C) "__getattribute__" = some (some (.builtin "BaseException.__getattribute__"))
  gh : PySem.W.findIn K (.ref C) "__getattr__" = some none
  ha : PySem.W.findIn K (.ref C) "__class__" = some (some (.builtin "object.__class__"))
  hn : PySem.W.specialIn K (.builtin "object.__class__") "__get__" = some (some (.builtin "getset_descriptor.__get__"))
  htk : PySem.W.takesIn K (.builtin "object.__class__") = some true
  hm : PySem.W.mroIn K C (.type "object") = some true
  hb : PySem.W.mroIn K C (.type "BaseException") = some true
section
variable {prog : Program} {w : World} {A : Around} {E : Value → Shared → Prop} {K : PySem.W.Frag} {s : Shared} {a C : Addr} {o : Obj}
theorem exc_cls {Q : Option Value → Shared → Prop} (Z : IsX K C) (X : K.In s.heap) (I : PySem.W.InstAt s.heap a o C none) (h : Q (some (.ref C)) { s with toks := s.toks + 1 }) :
    wpAny (model prog w) A (getAttr? (.ref a) "__class__") Q E s := by
  obtain ⟨hh, g, d, t, os⟩ := s
  have T0 := I.type (M := model prog w)
  have L1 := PySem.W.looks_findIn (M := model prog w) X Z.ga
  have L2 := PySem.W.looks_findIn (M := model prog w) X Z.gh
  have L3 := PySem.W.looks_mroIn (M := model prog w) X Z.hb
  have hc : (PySem.W.clsIn K C).isSome = true := by
    obtain ⟨cd, e, _⟩ := Option.bind_eq_some_iff.mp Z.hm
    rw [e]; rfl
  have hf : PySem.W.findObj K C none "__class__" = some (.bind (.builtin "getset_descriptor.__get__") (.builtin "object.__class__")) := by
    obtain ⟨cd, hcd⟩ := Option.isSome_iff_exists.mp hc
    unfold PySem.W.findObj
    rw [hcd, Option.bind_some, Z.ha, Option.bind_some]
    simp [Z.hn, Z.htk]
  have L4 := PySem.W.looks_find (M := model prog w) X I hf
  unfold getAttr?; unfold getAttrBy?; unfold getAttrBy
  refine wpAny_bind (wpAny_mkText (wpAny_bind (wpAny_attempt (wpAny_holding ?_))))
  refine wpAny_bind (T0.at (wpAny_bind (L1.at ?_)))
  show wpAny _ _ (getAttrByItsOwn _ _ _ _ _ _) _ _ _
  unfold getAttrByItsOwn
  refine wpAny_bind (L2.at (wpAny_bind (wpAny_attempt (wpAny_holding ?_))))
  show wpAny _ _ (boundAndCalled _ _ _) _ _ _
  unfold boundAndCalled
  refine wpAny_bind (wpAny_of_eq (PySem.F.excAttr_ValueError.ga.bind (.ref a)) ?_)
  refine wpAny_call (codeAny_call_builtin PySem.F.excAttr_ValueError.ga.plain PySem.F.entry_bexc_ga ?_)
  have hbk : builtinKind "BaseException.__getattribute__" = some .slot := by decide +kernel
  have hsp : splitId "BaseException.__getattribute__" = some ("BaseException", "__getattribute__") := by decide +kernel
  have hao := PySem.F.args_bexc_ga (.ref a) (.str "__class__" t)
  have fin : ∀ (Q' : Fin → Shared → Prop) (E' : Value → Shared → Prop), Q' (.done (.ret (.ref C))) ⟨hh, g, d, t + 1, os⟩ → wpAny (model prog w) (A.in1) (Builtin.«object.__getattribute__» ⟨[.ref a, .str "__class__" t], []⟩) Q' E' ⟨hh, g, d, t + 1, os⟩ := fun Q' E' hq => by
    unfold Builtin.«object.__getattribute__»; refine wpAny_bind (wpAny_pure (?_))
    refine wpAny_bind (wpAny_pure (wpAny_bind (T0.at (wpAny_bind (L4.at ?_)))))
    show wpAny _ _ (holding [_] (call _ [_, _, _]) >>= ret) _ _ _
    refine wpAny_bind (wpAny_holding (wpAny_call (PySem.W.class_get (s := ⟨hh, g, d, t + 1, os⟩) (ox := o) (od := none) X I Z.hm ?_)))
    exact wpAny_pure hq
  simp only [checkBuiltinCall, hbk, hsp]
  show wpAny _ _ (isInstance (.ref a) (Value.type "BaseException") >>= _) _ _ _
  refine wpAny_bind ?_
  unfold isInstance
  refine wpAny_bind (T0.at (L3.at ?_))
  rw [if_neg (by decide)]
  refine wpAny_of_eq hao (fin _ _ ?_)
  show wpAny (model prog w) A (handedOut (.ref C)) _ _ _
  refine wpAny_of_eq (PySem.W.handedOut_of rfl) ?_
  exact wpAny_pure h
theorem kitx_exc (Z : IsX K C) : PySem.W.KitX K (.ref a) (.ref C) (fun h => ∃ o, PySem.W.InstAt h a o C none) where
  ty := fun _ _ _ ⟨_, I⟩ => I.type
  it := fun _ _ X _ => by
    obtain ⟨cd, e, _⟩ := Option.bind_eq_some_iff.mp Z.hm
    unfold PySem.W.clsIn at e
    split at e
    · rename_i c' d' cd' sl' ho
      intro A' Q' E' s' k q
      unfold isType loadHead
      have := k _ _ (X _ _ ho)
      exact wpAny_bind (wpAny_loadPart this (wpAny_pure q))
    · cases e
  ne := fun h tp dd its n sl X ht => by
    obtain ⟨cd, e, _⟩ := Option.bind_eq_some_iff.mp Z.hm
    refine Bool.eq_false_iff.mpr (fun q => ?_)
    have e2 : C = tp := Value.ref.inj (beq_iff_eq.mp q)
    subst e2
    unfold PySem.W.clsIn at e
    split at e
    · rename_i c' d' cd' sl' ho
      cases (X _ _ ho).symm.trans ht
    · cases e
  ca := fun X ⟨_, I⟩ k => exc_cls Z X I k
end
/-- isinstance(x, c) of a caught exception -/
theorem call_isiX {X : Cx} {C : Addr} {c : V} {u : Value} {b : Bool} (Z : IsX X.K C) (rc : ∀ v, RelV c v → v = u) (e : PySem.W.kitOne X.K (.ref C) u = some b) : CallR X (.builtin "isinstance") (fun xs H Q => ∃ a, xs = [.ref a, c] ∧ H a = some (excO a C) ∧ Q (.bl b) H) := by
  intro pins s σ H xs us Q I r h
  obtain ⟨a, rfl, ea, q⟩ := h
  obtain ⟨u1, u2, rfl, r1, r2⟩ := vals2 r
  cases (show u1 = Value.ref a from r1)
  rw [rc _ r2]
  obtain ⟨⟨o, vs, h1, h2, h3, h4⟩, _⟩ := (show ObjOk X.prog X.w H s.heap a (excO a C) from I.hok a _ ea)
  refine PySem.W.kia_one (kitx_exc Z) I.kIn ⟨o, h1, h2, (by unfold PySem.W.notCls; rw [h4]), (by rw [h3]; trivial)⟩ e (fun z => nomatch z) fun tk => ⟨.bl b, H, I.tok tk, rfl, q⟩
end L2

set_option Elab.async false
set_option linter.all false
set_option maxRecDepth 100000
set_option maxHeartbeats 1000000
namespace L2
open PySem PySem.Spec PyProof.Rows
theorem boot_ValueErrorT : bootBuiltins (Str.ofString "ValueError") = some (.type "ValueError") := by kernel_rfl
end L2
namespace D
open PySem L2
section
variable {X : Cx} {E : XK} {x : Str} {k : Nat} {ps : List Str} {sp : Sp} {e : Expr} {es : List Expr} {t : TA} {p pos : Pos}
theorem pe_fnX (G : HaveX X.prog X.w X.K X.mg X.base x k ps sp) (hr : Room k X.A) (hl : Lets X E) (hg : Gl X x) (ha : QA X (e :: es) t) (hdb : (x == ("__debug__" : Str)) = false := by decide)
    (he : starEach (e :: es) X.env = (false, eval e X.env) :: starEach es X.env := by rfl) (hpl : (backTo pos (starEach es X.env)).any (·.1) = false := by rfl) :
    QE X (.Call (.Name x p) (e :: es) [] pos) (tCall sp [] E t) := ⟨L2.pe_fnX G hr hl hg ha.un hdb he hpl⟩
theorem ps_raise {C : Addr} {np cpos : Pos} (hl : Lets X E) (hc : X.calm = true) (hk : PySem.W.excIn X.K C vErr "ValueError.__new__" = true) (hm : X.mg x = some (.ref C)) (hg : Gl X x)
    (ha : QA X (e :: es) t) (hd : (x == ("__debug__" : Str)) = false := by decide) (he : starEach (e :: es) X.env = (false, eval e X.env) :: starEach es X.env := by rfl) (hpl : (backTo cpos (starEach es X.env)).any (·.1) = false := by rfl) :
    QS X (.Raise (some (.Call (.Name x np) (e :: es) [] cpos)) none pos) (tRaise E C t) := ⟨L2.ps_raise hl hc hk hm hg ha.un hd he hpl⟩
theorem ps_try {body : List Stmt} {tb : XK → TS} {i j : Nat} {y n F : Str} {CF : Addr} {np py pn pa hpos : Pos} (hst : X.stack = X.env :: X.outer) (hf : ∃ L, X.env.frame = some L) (hm : X.mg F = some (.ref CF)) (hg : Gl X F)
    (hN : X.N.Nodup) (hi : X.N[i]? = some y) (hy : Loc X.env.scope y) (hj : X.N[j]? = some n) (hn : X.env.kindOf n = some .local) (yn : y ≠ n)
    (hb : ∀ Ex pl E1, Lets (X.by Ex pl) E1 → QSs (X.by Ex pl) body (tb E1)) (hd : (F == ("__debug__" : Str)) = false := by decide) (hdn : (n == ("__debug__" : Str)) = false := by decide) (hcn : (n == ("__classdict__" : Str)) = false := by decide)
    (hs : swapsWith (.Name n pn) (some (.Name y py)) pa.line X.env = pure false := by rfl) (hfy : X.fn y = true ∨ X.env.scope.names.lookup y = some .local := by first | exact .inl rfl | exact .inr rfl | assumption) (hfn : X.fn n = true ∨ X.env.scope.names.lookup n = some .local := by first | exact .inl rfl | exact .inr rfl | assumption) :
    QS X (.Try body [.ExceptHandler (some (.Name F np)) (some n) [.Assign [.Name y py] (.Name n pn) pa] hpos] [] [] pos) (tTry X.K CF X.N i tb) := ⟨L2.ps_try hst hf hm hg hN hi hy hj hn yn (fun Ex pl E1 h => (hb Ex pl E1 h).un) hd hdn hcn hs hfy hfn⟩
end
theorem pe_lcompX {X : Cx} {elt iter : Expr} {x : Str} {px pos : Pos} {ifs : List Expr} {scope : Scope} {cl : List (Str × Addr)} (fr : List Nat) (ys : List Str) {wi : TI} {tt : TT} {te : TE} (h0 : X.calm = true) (h1 : closureFor scope X.env = pure cl) (h2 : (∀ (y : Str × NameKind), y ∈ scope.names → y.snd ≠ NameKind.cell)) (h3 : scope.kind = ScopeKind.function) (h4 : (∀ (y : Str × NameKind), y ∈ scope.names → y.snd = NameKind.local → List.lookup y.fst scope.names = some NameKind.local)) (h5 : List.lookup x scope.names = some NameKind.local) (h6 : (x :: ys).Nodup) (h7 : ClOk cl X.env.cells) (h8 : (scope.names.all fun (y : Str × NameKind) => y.snd != NameKind.free || (List.lookup y.fst cl).isSome) = true) (h9 : FrOk X scope cl fr ys) (h10 : QI X (Expr.Name x px) iter wi)
    (h11 : ∀ (C : Addr) (s : Shared) (H : Hp) (fp : List Addr), (∃ pins σ, Inv X pins σ H s ∧ ∀ b ∈ fp, FpOk X pins H b) → QIfs (cxComp X scope cl (x :: ys) C s H fp) ifs tt ∧ QE (cxComp X scope cl (x :: ys) C s H fp) elt te)
    (hs : ∀ v, foldedSetIterable iter X.env v = pure v := by intro _; rfl) : QE X (.ListComp elt [⟨.Name x px, iter, ifs, 0⟩] scope pos) (tLComp fr wi tt te) :=
  ⟨L2.pe_lcompX fr ys h0 h1 h2 h3 h4 h5 h6 h7 h8 h9 h10.un (fun C s H fp hI => ⟨(h11 C s H fp hI).1.un, (h11 C s H fp hI).2.un⟩) hs⟩
end D

set_option Elab.async false
set_option linter.all false
set_option maxRecDepth 100000
set_option maxHeartbeats 1000000
namespace D
open PySem L2
/-! ### the pieces of any text; none where a quote is without its other one -/
inductive SpellO : List Nat → Option (List Pc) → Prop where
  | nil : SpellO [] (some [])
  | gap {c : Nat} {r : List Nat} {o : Option (List Pc)} : c = 32 ∨ c = 10 → SpellO r o → SpellO (c :: r) o
  | op {r : List Nat} {o : Option (List Pc)} : SpellO r o → SpellO (40 :: r) (o.map (Pc.op :: ·))
  | cl {r : List Nat} {o : Option (List Pc)} : SpellO r o → SpellO (41 :: r) (o.map (Pc.cl :: ·))
  | txt {q r : List Nat} {o : Option (List Pc)} : (∀ c ∈ q, c ≠ 34) → SpellO r o → SpellO (34 :: (q ++ 34 :: r)) (o.map (Pc.txt q :: ·))
  | bad {q : List Nat} : (∀ c ∈ q, c ≠ 34) → SpellO (34 :: q) none
  | word {c : Nat} {q r : List Nat} {o : Option (List Pc)} : isEnd c = false → (∀ d ∈ q, isEnd d = false) → Cut r → SpellO r o → SpellO (c :: (q ++ r)) (o.map (Pc.word (c :: q) :: ·))
theorem quote_split : ∀ l : List Nat, (∀ c ∈ l, c ≠ 34) ∨ ∃ q r, l = q ++ 34 :: r ∧ ∀ c ∈ q, c ≠ 34
  | [] => .inl fun c hc => by simp at hc
  | c :: l => by
    by_cases h : c = 34
    · exact .inr ⟨[], l, by rw [h]; rfl, fun c hc => by simp at hc⟩
    · rcases quote_split l with hl | ⟨q, r, e, hq⟩
      · exact .inl fun d hd => by
          rcases List.mem_cons.mp hd with rfl | hd
          · exact h
          · exact hl d hd
      · exact .inr ⟨c :: q, r, by rw [e]; rfl, fun d hd => by
          rcases List.mem_cons.mp hd with rfl | hd
          · exact h
          · exact hq d hd⟩
theorem word_split : ∀ l : List Nat, ∃ q r, l = q ++ r ∧ (∀ d ∈ q, isEnd d = false) ∧ Cut r
  | [] => ⟨[], [], rfl, fun d hd => by simp at hd, cut_nil⟩
  | c :: l => by
    cases h : isEnd c with
    | true => exact ⟨[], c :: l, rfl, fun d hd => (by simp at hd), fun d s e => by cases e; exact h⟩
    | false =>
      obtain ⟨q, r, e, hq, hr⟩ := word_split l
      exact ⟨c :: q, r, by rw [e]; rfl, fun d hd => (by
        rcases List.mem_cons.mp hd with rfl | hd
        · exact h
        · exact hq d hd), hr⟩
theorem spell_any : ∀ (n : Nat) (t : List Nat), t.length ≤ n → ∃ o, SpellO t o := by
  intro n
  induction n with
  | zero =>
    intro t h
    obtain rfl : t = [] := List.length_eq_zero_iff.mp (by omega)
    exact ⟨_, .nil⟩
  | succ n ih =>
    intro t h
    cases t with
    | nil => exact ⟨_, .nil⟩
    | cons c r =>
      rw [List.length_cons] at h
      by_cases h1 : c = 32 ∨ c = 10
      · obtain ⟨o, ho⟩ := ih r (by omega)
        exact ⟨o, .gap h1 ho⟩
      by_cases h2 : c = 40
      · obtain ⟨o, ho⟩ := ih r (by omega)
        subst h2
        exact ⟨_, .op ho⟩
      by_cases h3 : c = 41
      · obtain ⟨o, ho⟩ := ih r (by omega)
        subst h3
        exact ⟨_, .cl ho⟩
      by_cases h4 : c = 34
      · subst h4
        rcases quote_split r with hq | ⟨q, r', rfl, hq⟩
        · exact ⟨_, .bad hq⟩
        · obtain ⟨o, ho⟩ := ih r' (by rw [List.length_append, List.length_cons] at h; omega)
          exact ⟨_, .txt hq ho⟩
      obtain ⟨q, r', rfl, hq, hc⟩ := word_split r
      obtain ⟨o, ho⟩ := ih r' (by rw [List.length_append] at h; omega)
      refine ⟨_, .word ?_ hq hc ho⟩
      simp only [not_or] at h1
      simp [isEnd, h1, h2, h3, h4]
theorem Spell.o {t : List Nat} {ps : List Pc} (h : Spell t ps) : SpellO t (some ps) := by
  induction h with
  | nil => exact .nil
  | gap h _ ih => exact .gap h ih
  | op _ ih => exact .op ih
  | cl _ ih => exact .cl ih
  | txt h _ ih => exact .txt h ih
  | word h h2 h3 _ ih => exact .word h h2 h3 ih
theorem SpellO.len {r : List Nat} {o : Option (List Pc)} (h : SpellO r o) : ∀ ps, o = some ps → ps.length ≤ r.length := by
  induction h with
  | nil => intro ps e; cases e; simp
  | gap _ _ ih => intro ps e; have := ih ps e; simp; omega
  | op _ ih => intro ps e; obtain ⟨p, rfl, rfl⟩ := Option.map_eq_some_iff.mp e; have := ih p rfl; simp; omega
  | cl _ ih => intro ps e; obtain ⟨p, rfl, rfl⟩ := Option.map_eq_some_iff.mp e; have := ih p rfl; simp; omega
  | txt _ _ ih => intro ps e; obtain ⟨p, rfl, rfl⟩ := Option.map_eq_some_iff.mp e; have := ih p rfl; simp; omega
  | bad _ => intro ps e; cases e
  | word _ _ _ _ ih => intro ps e; obtain ⟨p, rfl, rfl⟩ := Option.map_eq_some_iff.mp e; have := ih p rfl; simp; omega
def spWordEnd : Sp := fun vs H Q _ => ∃ (t : Str) (pre q r : List Nat), vs = [.str t, .int (pre.length : Int)] ∧ t.cps.toList = pre ++ (q ++ r) ∧ (∀ c ∈ q, isEnd c = false) ∧ Cut r ∧ t.length ≤ 100000 ∧ Q (.int ((pre.length + q.length : Nat) : Int)) H
def spTextEnd (AN : Addr) : Sp := fun vs H Q E => ∃ (t : Str) (pre q : List Nat), vs = [.str t, .int (pre.length : Int)] ∧ (∀ c ∈ q, c ≠ 34) ∧ t.length ≤ 100000 ∧
  ((∃ r, t.cps.toList = pre ++ 34 :: (q ++ 34 :: r) ∧ Q (.int ((pre.length + 1 + q.length : Nat) : Int)) H) ∨ (t.cps.toList = pre ++ 34 :: q ∧ E (.ref AN) none H))
theorem find_none {z : Str} {pre q : List Nat} (hz : z.cps.toList = pre ++ 34 :: q) (hq : ∀ c ∈ q, c ≠ 34) : Txt.find3 z ⟨#[34]⟩ (((pre.length : Nat) : Int) + 1) = -1 := by
  have hl : z.length = pre.length + 1 + q.length := by
    rw [← str_len, hz]; simp; omega
  have hf : fromIndex z.length (((pre.length : Nat) : Int) + 1) = pre.length + 1 := by
    unfold fromIndex
    rw [if_neg (by omega)]
    omega
  rcases StrLaws.find3_spec z 34 (((pre.length : Nat) : Int) + 1) with ⟨h, _⟩ | ⟨k, hk, h1, h2, h3, h4⟩
  · exact h
  · rw [hf] at h1
    obtain ⟨u, rfl⟩ : ∃ u, k = pre.length + 1 + u := ⟨k - pre.length - 1, by omega⟩
    have hu : u < q.length := by omega
    have e : z.cps.toList[pre.length + 1 + u]? = some q[u] := by
      rw [hz, List.getElem?_append_right (by omega), show pre.length + 1 + u - pre.length = u + 1 by omega, List.getElem?_cons_succ]
      exact List.getElem?_eq_getElem hu
    rw [getD_at e] at h3
    exact absurd h3 (hq _ (List.getElem_mem hu))
theorem ends_in (c : Nat) : decide (c ∈ wEnds.cps.toList) = isEnd c := by
  rw [wEnds_list, Bool.eq_iff_iff, decide_eq_true_iff]
  simp [isEnd]
theorem gaps_in (c : Nat) : decide (c ∈ wGaps.cps.toList) = decide (c = 32 ∨ c = 10) := by
  rw [wGaps_list, Bool.eq_iff_iff, decide_eq_true_iff, decide_eq_true_iff]
  simp
theorem br_in (c : Nat) : decide (c ∈ wBr.cps.toList) = decide (c = 40 ∨ c = 41) := by
  rw [wBr_list, Bool.eq_iff_iff, decide_eq_true_iff, decide_eq_true_iff]
  simp
theorem quote_eq : Str.ofString "\"" = ⟨#[34]⟩ := by decide +kernel
section
variable {P : Program} {w : World} {K : PySem.W.Frag} {mg : Str → Option Value} {base : Heap} {f : Addr} {fd : FuncData} {k : Nat} {ANoText : Addr}
theorem sc_word_end : FnScope ["text", "start", "end"] ["text", "start"] (defScope s_word_end) := ⟨rfl, rfl, rfl, by decide +kernel, rfl, by decide +kernel, by decide +kernel⟩
theorem ok_word_end (F : Fun K "word_end" "word_end" s_word_end f fd) (m_len : mg "len" = none) (m_WORD_ENDS : ∃ t, mg "WORD_ENDS" = some (.str wEnds t)) : FnOk P w K mg base CX0 (k + 1) f fd ["text", "start"] (spWordEnd) := by
  refine F.okQ sc_word_end (fun vs H Q E h => ?_) (fun cdv A outer s H vs Q E hr h => ?_)
  · obtain ⟨t, pre, q, r, rfl, _⟩ := h
    rfl
  obtain ⟨t, pre, q, r, rfl, ht, hq, hc, hz, qq⟩ := h
  have hl : t.length = pre.length + (q.length + r.length) := by rw [← str_len, ht]; simp
  refine ⟨_, (pss_cons (ps_set (i := 2) sc_word_end.nd rfl (Or.inl rfl) (pv 1))
    (pss_cons (ps_while PassesOwn.never (PW.pt (pw_and (pt_cmpR op_lt (pv 2) (pe_callB call_len rfl m_len PySem.boot_len (pa_cons (pv 0) pa_nil)) (nomark _)) (pw_and1 (pt_cmpR op_notin_str (pe_ix ix_str (pv 0) (pv 2) (fun _ _ => rfl)) (pe_globS rfl m_WORD_ENDS) (by rfl))))) (pss_one (ps_aug (i := 2) sc_word_end.nd rfl (Or.inl rfl) pe_int (ip_of iop_add))))
    (pss_one (ps_ret (pv 2))))), ?_⟩
  refine ⟨_, rfl, ?_⟩
  refine ⟨fun m σ' H' => ∃ j : Nat, j ≤ q.length ∧ σ' = [some (.str t), some (.int (pre.length : Int)), some (.int ((pre.length + j : Nat) : Int))] ∧ H' = H ∧ m = q.length - j,
    ⟨_, 0, Nat.zero_le _, rfl, rfl, rfl⟩, fun m σ' H' hW => ?_⟩
  obtain ⟨j, hj, rfl, rfl, rfl⟩ := hW
  refine ⟨_, rfl, _, rfl, _, _, rfl, ⟨small (by omega), rfl⟩, _, _, rfl, rfl, _, rfl, ?_⟩
  refine ite2 (fun e => ?_) (fun e => ?_)
  · have e1 : ((pre.length + j : Nat) : Int) < ((t.length : Nat) : Int) := of_decide_eq_true e
    have hlt : pre.length + j < t.cps.toList.length := by rw [str_len]; omega
    have hat : atI t.cps.toList ((pre.length + j : Nat) : Int) = some t.cps.toList[pre.length + j] := atI_nat (List.getElem?_eq_getElem hlt)
    refine ⟨_, rfl, _, rfl, t, _, _, rfl, rfl, small (by omega), hat, _, _, rfl, rfl, _, rfl, ?_⟩
    rw [in_one, ends_in]
    by_cases hjq : j < q.length
    · have ec : t.cps.toList[pre.length + j] = q[j] := by
        have : t.cps.toList[pre.length + j]? = some q[j] := by
          rw [ht, List.getElem?_append_right (by omega), show pre.length + j - pre.length = j by omega, List.getElem?_append_left hjq]
          simp
        rw [List.getElem?_eq_getElem hlt] at this
        exact Option.some.inj this
      rw [ec, hq _ (List.getElem_mem hjq)]
      refine iteT ⟨_, fun _ _ h => h, ?_⟩
      refine ⟨_, rfl, _, _, rfl, rfl, q.length - (j + 1), by omega, j + 1, hjq, ?_, rfl, rfl⟩
      simp only [List.set]
      rw [show ((pre.length + j : Nat) : Int) + 1 = ((pre.length + (j + 1) : Nat) : Int) by omega]
    · have hje : j = q.length := by omega
      subst hje
      cases r with
      | nil => simp at hl; omega
      | cons c r =>
        have ec : t.cps.toList[pre.length + q.length] = c := by
          have : t.cps.toList[pre.length + q.length]? = some c := by
            rw [ht, List.getElem?_append_right (by omega), show pre.length + q.length - pre.length = q.length by omega, List.getElem?_append_right (by omega)]
            simp
          rw [List.getElem?_eq_getElem hlt] at this
          exact Option.some.inj this
        rw [ec, hc c r rfl]
        exact iteF ⟨_, rfl, qq⟩
  · have e1 : ¬ ((pre.length + j : Nat) : Int) < ((t.length : Nat) : Int) := fun z => e (decide_eq_true z)
    have hje : j = q.length := by omega
    subst hje
    exact iteF ⟨_, rfl, qq⟩
theorem sc_text_end : FnScope ["text", "start", "end"] ["text", "start"] (defScope s_text_end) := ⟨rfl, rfl, rfl, by decide +kernel, rfl, by decide +kernel, by decide +kernel⟩
theorem ok_text_end (F : Fun K "text_end" "text_end" s_text_end f fd) (x_NoText : PySem.W.excIn K ANoText vErr "ValueError.__new__" = true) (c_NoText : mg "NoText" = some (.ref ANoText)) : FnOk P w K mg base (CX1 P w) (k + 1) f fd ["text", "start"] (spTextEnd ANoText) := by
  refine F.okX sc_text_end (fun vs H Q E h => ?_) (fun cdv A outer s H vs Q E hr h => ?_)
  · obtain ⟨t, pre, q, rfl, _⟩ := h
    rfl
  obtain ⟨t, pre, q, rfl, hq, hz, hh⟩ := h
  refine ⟨_, (pss_cons (ps_set (i := 2) sc_text_end.nd rfl (Or.inl rfl) (pe_bm PySem.F.plainAttrs_str PySem.F.slot_str_find PySem.F.type_str_find mt_find3 (pv 0) (pa_cons pe_str (pa_cons (pe_op op_add (pv 1) pe_int) pa_nil))))
    (pss_cons (ps_if (pt_cmpR op_lt (pv 2) pe_int (nomark _)) (pss_one (ps_raise letsF rfl x_NoText c_NoText rfl (pa_cons pe_str pa_nil))) pss_nil)
    (pss_one (ps_ret (pv 2))))), ?_⟩
  refine ⟨_, rfl, rfl, _, rfl, _, _, rfl, rfl, t, _, _, rfl, rfl, ?_⟩
  rcases hh with ⟨r, ht, qq⟩ | ⟨ht, qq⟩
  · rw [quote_eq, find_quote ht hq]
    refine ⟨_, rfl, _, _, rfl, rfl, _, rfl, ?_⟩
    refine ite2 (fun e => ?_) (fun e => ⟨_, rfl, qq⟩)
    have e1 : ((pre.length + 1 + q.length : Nat) : Int) < 0 := of_decide_eq_true e
    omega
  · rw [quote_eq, find_none ht hq]
    refine ⟨_, rfl, _, _, rfl, rfl, _, rfl, ?_⟩
    exact iteT ⟨(by show 1 ≤ sizeLine; decide), qq⟩
end
/-! ### pieces -/
def pcV : Pc → List V
  | .op => [.str ⟨#[40]⟩, .str ⟨#[40]⟩]
  | .cl => [.str ⟨#[41]⟩, .str ⟨#[41]⟩]
  | .txt q => [.str "text", .str ⟨q.toArray⟩]
  | .word q => [.str "word", .str ⟨q.toArray⟩]
def RPc (H : Hp) (v : V) (p : Pc) : Prop := ∃ a, v = .ref a ∧ H a = some (.tup (pcV p))
structure RPs (H : Hp) (vs : List V) (ps : List Pc) : Prop where
  len : vs.length = ps.length
  at' : ∀ (i : Nat) (v : V) (p : Pc), vs[i]? = some v → ps[i]? = some p → RPc H v p
theorem RPc.mono {H H' : Hp} (t : Tups H H') {v : V} {p : Pc} (h : RPc H v p) : RPc H' v p := by
  obtain ⟨a, e, h⟩ := h
  exact ⟨a, e, t a _ h⟩
theorem RPs.mono {H H' : Hp} (t : Tups H H') {vs : List V} {ps : List Pc} (h : RPs H vs ps) : RPs H' vs ps := ⟨h.len, fun i v p a b => (h.at' i v p a b).mono t⟩
theorem RPs.nil {H : Hp} : RPs H [] [] := ⟨rfl, fun i v p a => by simp at a⟩
theorem RPs.snoc {H : Hp} {vs : List V} {ps : List Pc} {v : V} {p : Pc} (h : RPs H vs ps) (x : RPc H v p) : RPs H (vs ++ [v]) (ps ++ [p]) := by
  refine ⟨by simp [h.len], fun i u q a b => ?_⟩
  by_cases hi : i < vs.length
  · rw [List.getElem?_append_left hi] at a
    rw [List.getElem?_append_left (by rw [← h.len]; exact hi)] at b
    exact h.at' i u q a b
  · rw [List.getElem?_append_right (by omega)] at a
    rw [List.getElem?_append_right (by rw [← h.len]; omega)] at b
    rw [← h.len] at b
    cases hk : i - vs.length with
    | zero =>
      rw [hk] at a b
      have a1 : v = u := by simpa using a
      have b1 : p = q := by simpa using b
      rw [← a1, ← b1]
      exact x
    | succ n => rw [hk] at a; simp at a
def spPieces (AN : Addr) : Sp := fun vs H Q E => ∃ (t : Str) (O : Option (List Pc)), vs = [.str t] ∧ SpellO t.cps.toList O ∧ t.length ≤ 100000 ∧ (∀ ps, O = some ps → ∀ (p : Addr) (us : List V) (H' : Hp), H p = none → Same H H' → H' p = some (.lst us) → RPs H' us ps → Q (.ref p) H') ∧ (O = none → ∀ H', Same H H' → E (.ref AN) none H')
theorem cut_midS {pre q r : List Nat} {t : Str} (ht : t.cps.toList = pre ++ (q ++ r)) : Txt.slice t (some ((pre.length : Nat) : Int)) (some ((pre.length + q.length : Nat) : Int)) = ⟨q.toArray⟩ := by
  have hl : t.length = pre.length + (q.length + r.length) := by rw [← str_len, ht]; simp
  have e := slice_ss (z := t) (a := pre.length) (b := pre.length + q.length) (by omega) (by omega)
  rw [ht] at e
  have e2 : (Txt.slice t (some ((pre.length : Nat) : Int)) (some ((pre.length + q.length : Nat) : Int))).cps.toList = q := by
    rw [e]
    simp
  cases hz : Txt.slice t (some ((pre.length : Nat) : Int)) (some ((pre.length + q.length : Nat) : Int)) with
  | mk cps =>
    rw [hz] at e2
    have : cps = q.toArray := by rw [← e2]
    rw [this]
section
variable {P : Program} {w : World} {K : PySem.W.Frag} {mg : Str → Option Value} {base : Heap} {f : Addr} {fd : FuncData} {k : Nat} {ANoText : Addr}
/-- how far pieces_of has come -/
def PInv (H : Hp) (t : Str) (O : Option (List Pc)) (p : Addr) (m : Nat) (σ : St) (H' : Hp) : Prop := ∃ (pre r : List Nat) (done : List Pc) (rest : Option (List Pc)) (us : List V) (o1 o2 : Option V),
  σ = [some (.str t), some (.ref p), some (.int (pre.length : Int)), o1, o2] ∧ t.cps.toList = pre ++ r ∧ SpellO r rest ∧ (O = rest.map (done ++ ·) ∧ done.length ≤ pre.length) ∧ H' p = some (.lst us) ∧ RPs H' us done ∧ Same H H' ∧ m = r.length
theorem same_put {H H' : Hp} {p : Addr} {o : HO} (hp : H p = none) (s : Same H H') : Same H (upd H' p o) := fun b u e => by
  rw [upd_ne (ne_of_none e hp)]
  exact s b u e
theorem sc_pieces_of : FnScope ["text", "pieces", "place", "sign", "end"] ["text"] (defScope s_pieces_of) := ⟨rfl, rfl, rfl, by decide +kernel, rfl, by decide +kernel, by decide +kernel⟩
theorem ok_pieces_of (F : Fun K "pieces_of" "pieces_of" s_pieces_of f fd) (G_text_end : HaveX P w K mg base "text_end" k ["text", "start"] (spTextEnd ANoText)) (G_word_end : Have P w K mg base "word_end" k ["text", "start"] (spWordEnd)) (m_len : mg "len" = none) (m_BETWEEN : ∃ t, mg "BETWEEN" = some (.str wGaps t)) : FnOk P w K mg base (CX1 P w) (k + 1) f fd ["text"] (spPieces ANoText) := by
  refine F.okX sc_pieces_of (fun vs H Q E h => ?_) (fun cdv A outer s H vs Q E hr h => ?_)
  · obtain ⟨t, O, rfl, _⟩ := h
    rfl
  obtain ⟨t, O, rfl, hs, hz, qq, qe⟩ := h
  refine ⟨_, (pss_cons (ps_set (i := 1) sc_pieces_of.nd rfl (Or.inl rfl) (pe_lst pa_nil))
    (pss_cons (ps_set (i := 2) sc_pieces_of.nd rfl (Or.inl rfl) pe_int)
    (pss_cons (ps_while passF (pt_cmpR op_lt (pv 2) (pe_callB call_len rfl m_len PySem.boot_len (pa_cons (pv 0) pa_nil)) (nomark _)) (pss_cons (ps_set (i := 3) sc_pieces_of.nd rfl (Or.inl rfl) (pe_ix ix_str (pv 0) (pv 2) (fun _ _ => rfl)))
    (pss_one (ps_if (pt_cmpR op_in_str (pv 3) (pe_globS rfl m_BETWEEN) (by rfl)) (pss_one (ps_aug (i := 2) sc_pieces_of.nd rfl (Or.inl rfl) pe_int (ip_of iop_add))) (pss_one (ps_if (pt_cmpR op_in_str (pv 3) pe_str (by rfl)) (pss_cons (ps_expr (pe_bm PySem.F.plainAttrs_list PySem.F.slot_list_append PySem.F.type_list_append mt_append (pv 1) (pa_cons (pe_tup (pa_cons (pv 3) (pa_cons (pv 3) pa_nil))) pa_nil)))
    (pss_one (ps_aug (i := 2) sc_pieces_of.nd rfl (Or.inl rfl) pe_int (ip_of iop_add)))) (pss_one (ps_if (pt_cmpR op_eq (pv 3) pe_str (nomark _)) (pss_cons (ps_set (i := 4) sc_pieces_of.nd rfl (Or.inl rfl) (pe_fnX G_text_end hr letsF rfl (pa_cons (pv 0) (pa_cons (pv 2) pa_nil))))
    (pss_cons (ps_expr (pe_bm PySem.F.plainAttrs_list PySem.F.slot_list_append PySem.F.type_list_append mt_append (pv 1) (pa_cons (pe_tup (pa_cons pe_str (pa_cons (pe_slice sl_strX (pv 0) (po_some (pe_op op_add (pv 2) pe_int)) (po_some (pv 4))) pa_nil))) pa_nil)))
    (pss_one (ps_set (i := 2) sc_pieces_of.nd rfl (Or.inl rfl) (pe_op op_add (pv 4) pe_int))))) (pss_cons (ps_set (i := 4) sc_pieces_of.nd rfl (Or.inl rfl) (pe_fn G_word_end hr rfl (pa_cons (pv 0) (pa_cons (pv 2) pa_nil))))
    (pss_cons (ps_expr (pe_bm PySem.F.plainAttrs_list PySem.F.slot_list_append PySem.F.type_list_append mt_append (pv 1) (pa_cons (pe_tup (pa_cons pe_str (pa_cons (pe_slice sl_strX (pv 0) (po_some (pv 2)) (po_some (pv 4))) pa_nil))) pa_nil)))
    (pss_one (ps_set (i := 2) sc_pieces_of.nd rfl (Or.inl rfl) (pv 4)))))))))))))
    (pss_one (ps_ret (pv 1)))))), ?_⟩
  refine ⟨(by show 0 ≤ sizeLine; decide), fun p hp => ?_⟩
  refine ⟨PInv H t O p, ⟨_, [], _, [], O, [], none, none, rfl, rfl, hs, ⟨by simp, Nat.le_refl _⟩, upd_same, RPs.nil, Same.new hp, rfl⟩, fun m σ' H' hW => ?_⟩
  obtain ⟨pre, r, done, rest, us, o1, o2, rfl, ht, sp, ⟨hps, hdl⟩, hpu, hru, s1, rfl⟩ := hW
  have hl : t.length = pre.length + r.length := by rw [← str_len, ht]; simp
  refine ⟨_, rfl, _, rfl, _, _, rfl, ⟨small (by omega), rfl⟩, _, _, rfl, rfl, _, rfl, ?_⟩
  have hus : us.length < sizeLine := by
    rw [hru.len]
    exact Nat.lt_of_le_of_lt (show done.length ≤ 100000 by omega) (by decide)
  have more : ∀ (a : Addr) (q : Pc) (H2 : Hp), H2 = upd (upd H' a (.tup (pcV q))) p (.lst (us ++ [.ref a])) → H' a = none → RPs H2 (us ++ [.ref a]) (done ++ [q]) ∧ Same H H2 ∧ H2 p = some (.lst (us ++ [.ref a])) := fun a q H2 e ha => by
    subst e
    have ap : p ≠ a := ne_of_none hpu ha
    have t1 : Tups H' (upd H' a (.tup (pcV q))) := tups_new ha
    have e1 : upd H' a (.tup (pcV q)) p = some (.lst us) := by rw [upd_ne ap]; exact hpu
    have t2 : Tups (upd H' a (.tup (pcV q))) (upd (upd H' a (.tup (pcV q))) p (.lst (us ++ [.ref a]))) := tups_put e1
    refine ⟨((hru.mono t1).mono t2).snoc ⟨a, rfl, t2 a _ upd_same⟩, same_put hp (s1.trans (Same.new ha)), upd_same⟩
  refine ite2 (fun e => ?_) (fun e => ?_)
  · have e1 : ((pre.length : Nat) : Int) < ((t.length : Nat) : Int) := of_decide_eq_true e
    refine ⟨_, fun _ _ h => h, ?_⟩
    cases r with
    | nil => simp at hl; omega
    | cons c r =>
    have hat : atI t.cps.toList ((pre.length : Nat) : Int) = some c := atI_nat (by rw [ht, List.getElem?_append_right (by omega)]; simp)
    refine ⟨_, rfl, _, rfl, t, _, c, rfl, rfl, small (by omega), hat, ?_⟩
    have go1 : ∀ (x : Nat), ((pre.length : Nat) : Int) + 1 = (((pre ++ [x]).length : Nat) : Int) := fun x => by simp
    refine ⟨_, rfl, _, _, rfl, rfl, _, rfl, ?_⟩
    rw [in_one, gaps_in]
    cases sp with
    | gap hg sp' =>
      rw [decide_eq_true hg]
      refine iteT ⟨_, rfl, _, _, rfl, rfl, r.length, by simp, pre ++ [c], r, done, rest, us, some (V.str ⟨#[c]⟩), o2, ?_, by simp [ht], sp', ⟨hps, by simp; omega⟩, hpu, hru, s1, rfl⟩
      simp only [List.set]
      rw [go1 c]
    | @op r' rest' sp' =>
      rw [decide_eq_false (by omega)]
      refine iteF ⟨_, rfl, _, _, rfl, rfl, _, rfl, ?_⟩
      rw [show Str.ofString "()" = wBr from rfl, in_one, br_in, decide_eq_true (.inl rfl)]
      refine iteT ⟨_, rfl, .inl ⟨rfl, _, SqL.of hpu⟩, _, rfl, _, rfl, (by show 2 ≤ sizeLine; decide), fun a ha => ?_⟩
      have ap : p ≠ a := ne_of_none hpu ha
      refine ⟨p, us, .ref a, rfl, rfl, by rw [upd_ne ap]; exact hpu, hus, ?_⟩
      obtain ⟨m1, m2, m3⟩ := more a .op _ rfl ha
      refine ⟨_, rfl, _, _, rfl, rfl, r.length, by simp, pre ++ [40], r, done ++ [Pc.op], rest', us ++ [V.ref a], some (V.str ⟨#[40]⟩), o2, ?_, by simp [ht], sp', ⟨by rw [hps, Option.map_map]; congr 1; funext z; simp, by simp; omega⟩, m3, m1, m2, rfl⟩
      simp only [List.set]
      rw [go1 40]
    | @cl r' rest' sp' =>
      rw [decide_eq_false (by omega)]
      refine iteF ⟨_, rfl, _, _, rfl, rfl, _, rfl, ?_⟩
      rw [show Str.ofString "()" = wBr from rfl, in_one, br_in, decide_eq_true (.inr rfl)]
      refine iteT ⟨_, rfl, .inl ⟨rfl, _, SqL.of hpu⟩, _, rfl, _, rfl, (by show 2 ≤ sizeLine; decide), fun a ha => ?_⟩
      have ap : p ≠ a := ne_of_none hpu ha
      refine ⟨p, us, .ref a, rfl, rfl, by rw [upd_ne ap]; exact hpu, hus, ?_⟩
      obtain ⟨m1, m2, m3⟩ := more a .cl _ rfl ha
      refine ⟨_, rfl, _, _, rfl, rfl, r.length, by simp, pre ++ [41], r, done ++ [Pc.cl], rest', us ++ [V.ref a], some (V.str ⟨#[41]⟩), o2, ?_, by simp [ht], sp', ⟨by rw [hps, Option.map_map]; congr 1; funext z; simp, by simp; omega⟩, m3, m1, m2, rfl⟩
      simp only [List.set]
      rw [go1 41]
    | @txt q r' rest' hq sp' =>
      rw [decide_eq_false (by omega)]
      refine iteF ⟨_, rfl, _, _, rfl, rfl, _, rfl, ?_⟩
      rw [show Str.ofString "()" = wBr from rfl, in_one, br_in, decide_eq_false (by omega)]
      refine iteF ⟨_, rfl, rfl, _, rfl, ?_⟩
      rw [quote_eq, decide_eq_true rfl]
      refine iteT ⟨_, rfl, _, rfl, t, pre, q, rfl, hq, hz, .inl ⟨r', ht, ?_⟩⟩
      refine ⟨_, rfl, .inl ⟨rfl, _, SqL.of hpu⟩, _, rfl, _, rfl, _, _, rfl, rfl, _, rfl, _, rfl, _, rfl, t, rfl, by omega, (by show 2 ≤ sizeLine; decide), fun a ha => ?_⟩
      have ec : Txt.slice t (some (((pre.length : Nat) : Int) + 1)) (some ((pre.length + 1 + q.length : Nat) : Int)) = ⟨q.toArray⟩ := by
        have := cut_midS (pre := pre ++ [34]) (q := q) (r := 34 :: r') (t := t) (by rw [ht]; simp)
        rw [← go1 34] at this
        rw [show (pre ++ [(34 : Nat)]).length + q.length = pre.length + 1 + q.length by simp] at this
        exact this
      have ap : p ≠ a := ne_of_none hpu ha
      refine ⟨p, us, .ref a, rfl, rfl, by rw [upd_ne ap]; exact hpu, hus, ?_⟩
      rw [ec]
      obtain ⟨m1, m2, m3⟩ := more a (.txt q) _ rfl ha
      refine ⟨_, rfl, _, _, rfl, rfl, r'.length, by simp; omega, pre ++ (34 :: (q ++ [34])), r', done ++ [Pc.txt q], rest', us ++ [V.ref a], some (V.str ⟨#[34]⟩), some (V.int ((pre.length + 1 + q.length : Nat) : Int)), ?_, by simp [ht], sp', ⟨by rw [hps, Option.map_map]; congr 1; funext z; simp, by simp; omega⟩, m3, m1, m2, rfl⟩
      simp only [List.set]
      rw [show ((pre.length + 1 + q.length : Nat) : Int) + 1 = (((pre ++ (34 :: (q ++ [34]))).length : Nat) : Int) by simp; omega]
    | @bad q hq =>
      rw [decide_eq_false (by omega)]
      refine iteF ⟨_, rfl, _, _, rfl, rfl, _, rfl, ?_⟩
      rw [show Str.ofString "()" = wBr from rfl, in_one, br_in, decide_eq_false (by omega)]
      refine iteF ⟨_, rfl, rfl, _, rfl, ?_⟩
      rw [quote_eq, decide_eq_true rfl]
      exact iteT ⟨_, rfl, _, rfl, t, pre, r, rfl, hq, hz, .inr ⟨ht, qe (by rw [hps]; rfl) _ s1⟩⟩
    | @word _ q r' rest' hc hq cut sp' =>
      have hne : ∀ x, isEnd x = true → c ≠ x := fun x hx z => by rw [z, hx] at hc; cases hc
      rw [decide_eq_false (by intro z; rcases z with z | z <;> exact hne _ rfl z)]
      refine iteF ⟨_, rfl, _, _, rfl, rfl, _, rfl, ?_⟩
      rw [show Str.ofString "()" = wBr from rfl, in_one, br_in, decide_eq_false (by intro z; rcases z with z | z <;> exact hne _ rfl z)]
      refine iteF ⟨_, rfl, rfl, _, rfl, ?_⟩
      rw [quote_eq, decide_eq_false (fun z => hne 34 rfl (by simpa using z))]
      refine iteF ⟨_, rfl, _, rfl, t, pre, c :: q, r', rfl, by rw [ht]; simp, ?_, cut, hz, ?_⟩
      · intro d hd
        rcases List.mem_cons.mp hd with rfl | hd
        · exact hc
        · exact hq d hd
      refine ⟨_, rfl, .inl ⟨rfl, _, SqL.of hpu⟩, _, rfl, _, rfl, _, rfl, _, rfl, _, rfl, t, rfl, by omega, (by show 2 ≤ sizeLine; decide), fun a ha => ?_⟩
      have ec := cut_midS (pre := pre) (q := c :: q) (r := r') (t := t) (by rw [ht]; simp)
      have ap : p ≠ a := ne_of_none hpu ha
      refine ⟨p, us, .ref a, rfl, rfl, by rw [upd_ne ap]; exact hpu, hus, ?_⟩
      rw [ec]
      obtain ⟨m1, m2, m3⟩ := more a (.word (c :: q)) _ rfl ha
      refine ⟨_, rfl, r'.length, by simp; omega, pre ++ (c :: q), r', done ++ [Pc.word (c :: q)], rest', us ++ [V.ref a], some (V.str ⟨#[c]⟩), some (V.int ((pre.length + (c :: q).length : Nat) : Int)), ?_, by simp [ht], sp', ⟨by rw [hps, Option.map_map]; congr 1; funext z; simp, by simp; omega⟩, m3, m1, m2, rfl⟩
      simp only [List.set]
      rw [List.length_append]
  · have e1 : ¬ ((pre.length : Nat) : Int) < ((t.length : Nat) : Int) := fun z => e (decide_eq_true z)
    have hr : r = [] := List.length_eq_zero_iff.mp (by omega)
    subst hr
    cases sp
    exact ⟨_, rfl, qq done (by rw [hps]; simp) p us H' hp s1 hpu hru⟩
end
end D

set_option Elab.async false
set_option linter.all false
set_option maxRecDepth 100000
set_option maxHeartbeats 1000000
namespace D
open PySem L2
/-! ### trees on the heap -/
inductive RTr (H : Hp) : V → Tr → Prop where
  | word {a : Addr} {q : List Nat} : H a = some (.tup [.str "word", .str ⟨q.toArray⟩]) → RTr H (.ref a) (.word q)
  | txt {a : Addr} {q : List Nat} : H a = some (.tup [.str "text", .str ⟨q.toArray⟩]) → RTr H (.ref a) (.txt q)
  | lst {a b : Addr} {vs : List V} {ts : List Tr} : H a = some (.tup [.str "list", .ref b]) → H b = some (.tup vs) → vs.length = ts.length → (∀ (i : Nat) (v : V) (t : Tr), vs[i]? = some v → ts[i]? = some t → RTr H v t) → RTr H (.ref a) (.lst ts)
theorem RTr.mono {H H' : Hp} (t : Tups H H') {v : V} {x : Tr} (h : RTr H v x) : RTr H' v x := by
  induction h with
  | word e => exact .word (t _ _ e)
  | txt e => exact .txt (t _ _ e)
  | lst e e2 l _ ih => exact .lst (t _ _ e) (t _ _ e2) l ih
structure RTrs (H : Hp) (vs : List V) (ts : List Tr) : Prop where
  len : vs.length = ts.length
  at' : ∀ (i : Nat) (v : V) (t : Tr), vs[i]? = some v → ts[i]? = some t → RTr H v t
theorem RTrs.mono {H H' : Hp} (t : Tups H H') {vs : List V} {ts : List Tr} (h : RTrs H vs ts) : RTrs H' vs ts := ⟨h.len, fun i v p a b => (h.at' i v p a b).mono t⟩
theorem RTrs.nil {H : Hp} : RTrs H [] [] := ⟨rfl, fun i v p a => by simp at a⟩
theorem RTrs.snoc {H : Hp} {vs : List V} {ts : List Tr} {v : V} {t : Tr} (h : RTrs H vs ts) (x : RTr H v t) : RTrs H (vs ++ [v]) (ts ++ [t]) := by
  refine ⟨by simp [h.len], fun i u q a b => ?_⟩
  by_cases hi : i < vs.length
  · rw [List.getElem?_append_left hi] at a
    rw [List.getElem?_append_left (by rw [← h.len]; exact hi)] at b
    exact h.at' i u q a b
  · rw [List.getElem?_append_right (by omega)] at a
    rw [List.getElem?_append_right (by rw [← h.len]; omega)] at b
    rw [← h.len] at b
    cases hk : i - vs.length with
    | zero =>
      rw [hk] at a b
      have a1 : v = u := by simpa using a
      have b1 : t = q := by simpa using b
      rw [← a1, ← b1]
      exact x
    | succ n => rw [hk] at a; simp at a
/-- the levels, the last one first: their lists stand apart, all new -/
inductive Lv (H0 H : Hp) : List Addr → List (List Tr) → Prop where
  | nil : Lv H0 H [] []
  | cons {a : Addr} {as : List Addr} {vs : List V} {ts : List Tr} {st : List (List Tr)} : H0 a = none → H a = some (.lst vs) → RTrs H vs ts → a ∉ as → Lv H0 H as st → Lv H0 H (a :: as) (ts :: st)
theorem Lv.len {H0 H : Hp} {as : List Addr} {st : List (List Tr)} (h : Lv H0 H as st) : as.length = st.length := by
  induction h with
  | nil => rfl
  | cons _ _ _ _ _ ih => simp [ih]
/-- where tuples stay, and the lists of the levels -/
theorem Lv.mono {H0 H H' : Hp} {as : List Addr} {st : List (List Tr)} (h : Lv H0 H as st) (t : Tups H H') (k : ∀ a ∈ as, H' a = H a) : Lv H0 H' as st := by
  induction h with
  | nil => exact .nil
  | cons h0 e r n _ ih => exact .cons h0 (by rw [k _ List.mem_cons_self]; exact e) (r.mono t) n (ih fun a ha => k a (List.mem_cons_of_mem _ ha))
theorem Lv.some {H0 H : Hp} {as : List Addr} {st : List (List Tr)} (h : Lv H0 H as st) : ∀ a ∈ as, H0 a = none ∧ ∃ vs, H a = some (.lst vs) := by
  induction h with
  | nil => intro a ha; cases ha
  | cons h0 e _ _ _ ih =>
    intro a ha
    rcases List.mem_cons.mp ha with rfl | ha
    · exact ⟨h0, _, e⟩
    · exact ih a ha
/-- the trees that pieces make; none where they make none -/
def trsO (ps : List Pc) : Option (List Tr) := match run ps [[]] with
  | some [ts] => some ts
  | _ => none
def oneO (ts : List Tr) : Option Tr := match ts with
  | [x] => some x
  | _ => none
def spTrees (AN : Addr) : Sp := fun vs H Q E => ∃ (t : Str) (O : Option (List Pc)), vs = [.str t] ∧ SpellO t.cps.toList O ∧ t.length ≤ 100000 ∧ (∀ ts, O.bind trsO = some ts → ∀ (p : Addr) (us : List V) (H' : Hp), Same H H' → H' p = some (.lst us) → RTrs H' us ts → Q (.ref p) H') ∧ (O.bind trsO = none → ∀ H', Same H H' → E (.ref AN) none H')
def spOnly (AN : Addr) : Sp := fun vs H Q E => ∃ (t : Str) (O : Option (List Pc)), vs = [.str t] ∧ SpellO t.cps.toList O ∧ t.length ≤ 100000 ∧ (∀ x, (O.bind trsO).bind oneO = some x → ∀ (v : V) (H' : Hp), Same H H' → RTr H' v x → Q v H') ∧ ((O.bind trsO).bind oneO = none → ∀ H', Same H H' → E (.ref AN) none H')
/-- how many trees there are in all the levels is bounded by the pieces gone through -/
def wide (st : List (List Tr)) : Nat := (st.map (·.length)).sum
/-- how far trees_of has come: the stack, the pieces to come -/
def TInv (H : Hp) (ps : List Pc) (R : Option (List (List Tr))) (p L : Addr) (t : Str) (us : List V) (i : Nat) (σ : St) (H' : Hp) : Prop := ∃ (as : List Addr) (st : List (List Tr)) (o1 o2 : Option V),
  σ = [some (.str t), some (.ref L), o1, o2] ∧ H L = none ∧ H' L = some (.lst (as.reverse.map V.ref)) ∧ L ∉ as ∧ Lv H H' as st ∧ run (ps.drop i) st = R ∧ st ≠ [] ∧ st.length ≤ 100 ∧ wide st ≤ i ∧ H' p = some (.lst us) ∧ p ∉ as ∧ p ≠ L ∧ RPs H' us ps ∧ Same H H'
theorem drop_at {α : Type} {l : List α} {i : Nat} {x : α} (h : l[i]? = some x) : l.drop i = x :: l.drop (i + 1) := by
  obtain ⟨hi, e⟩ := List.getElem?_eq_some_iff.mp h
  rw [List.drop_eq_getElem_cons hi, e]
theorem str40 : Str.ofString "(" = ⟨#[40]⟩ := by decide +kernel
theorem str41 : Str.ofString ")" = ⟨#[41]⟩ := by decide +kernel
theorem last_ref (as : List Addr) (a : Addr) : atI ((a :: as).reverse.map V.ref) (-1) = some (.ref a) := by
  rw [List.reverse_cons, List.map_append]
  exact atI_last _ _
section
variable {P : Program} {w : World} {K : PySem.W.Frag} {mg : Str → Option Value} {base : Heap} {f : Addr} {fd : FuncData} {k : Nat} {ANoText : Addr}
/-- a tree more in the last level -/
theorem push_top {H0 H' : Hp} {ps : List Pc} {R : Option (List (List Tr))} {p L a : Addr} {t : Str} {us vs : List V} {as : List Addr} {tr : List Tr} {st : List (List Tr)} {v : V} {x : Tr} {i : Nat} {o1 o2 : Option V}
    (hL : H0 L = none) (eL : H' L = some (.lst ((a :: as).reverse.map V.ref))) (nL : L ∉ a :: as) (h0 : H0 a = none) (ea : H' a = some (.lst vs)) (ra : RTrs H' vs tr) (na : a ∉ as) (lv : Lv H0 H' as st)
    (hrun : run (ps.drop (i + 1)) ((tr ++ [x]) :: st) = R) (hst : st.length + 1 ≤ 100) (hw : wide (tr :: st) ≤ i) (ep : H' p = some (.lst us)) (np : p ∉ a :: as) (pL : p ≠ L) (rp : RPs H' us ps) (s1 : Same H0 H') (rx : RTr H' v x) :
    TInv H0 ps R p L t us (i + 1) [some (.str t), some (.ref L), o1, o2] (upd H' a (.lst (vs ++ [v]))) := by
  have tp : Tups H' (upd H' a (.lst (vs ++ [v]))) := tups_put ea
  have ne : ∀ {b : Addr}, b ∉ a :: as → b ≠ a := fun hb z => hb (z ▸ List.mem_cons_self)
  refine ⟨a :: as, (tr ++ [x]) :: st, o1, o2, rfl, hL, by rw [upd_ne (ne nL)]; exact eL, nL, .cons h0 upd_same ((ra.mono tp).snoc (rx.mono tp)) na (lv.mono tp fun b hb => upd_ne fun z => na (z ▸ hb)), hrun, by simp, by simpa using hst, ?_, by rw [upd_ne (ne np)]; exact ep, np, pL, rp.mono tp, same_put h0 s1⟩
  simp only [wide, List.map_cons, List.sum_cons, List.length_append, List.length_singleton] at hw ⊢
  omega
theorem sc_trees_of : FnScope ["text", "levels", "piece", "inner"] ["text"] (defScope s_trees_of) := ⟨rfl, rfl, rfl, by decide +kernel, rfl, by decide +kernel, by decide +kernel⟩
theorem ok_trees_of (F : Fun K "trees_of" "trees_of" s_trees_of f fd) (G_pieces_of : HaveX P w K mg base "pieces_of" k ["text"] (spPieces ANoText)) (m_len : mg "len" = none) (m_tuple : mg "tuple" = none) (m_MOST_BRACKETS : ∃ t, mg "MOST_BRACKETS" = some (.int 100 t)) (x_NoText : PySem.W.excIn K ANoText vErr "ValueError.__new__" = true) (c_NoText : mg "NoText" = some (.ref ANoText)) : FnOk P w K mg base (CX1 P w) (k + 1) f fd ["text"] (spTrees ANoText) := by
  refine F.okX sc_trees_of (fun vs H Q E h => ?_) (fun cdv A outer s H vs Q E hr h => ?_)
  · obtain ⟨t, O, rfl, _⟩ := h
    rfl
  obtain ⟨t, O, rfl, hs, hz, qq, qe⟩ := h
  refine ⟨_, (pss_cons (ps_set (i := 1) sc_trees_of.nd rfl (Or.inl rfl) (pe_lst (pa_cons (pe_lst pa_nil) pa_nil)))
    (pss_cons (ps_for passF rfl (pi_list (pe_fnX G_pieces_of hr letsF rfl (pa_cons (pv 0) pa_nil))) (pg_name (i := 2) sc_trees_of.nd rfl (Or.inl rfl)) (pss_one (ps_if (pt_cmpR op_eq (pe_ix ix_tup (pv 2) pe_int (fun _ _ => rfl)) pe_str (nomark _)) (pss_cons (ps_expr (pe_bm PySem.F.plainAttrs_list PySem.F.slot_list_append PySem.F.type_list_append mt_append (pv 1) (pa_cons (pe_lst pa_nil) pa_nil)))
    (pss_one (ps_if (pt_cmpR op_gt (pe_callB call_len rfl m_len PySem.boot_len (pa_cons (pv 1) pa_nil)) (pe_globI rfl m_MOST_BRACKETS) (nomark _)) (pss_one (ps_raise letsF rfl x_NoText c_NoText rfl (pa_cons pe_str pa_nil))) pss_nil))) (pss_one (ps_if (pt_cmpR op_eq (pe_ix ix_tup (pv 2) pe_int (fun _ _ => rfl)) pe_str (nomark _)) (pss_cons (ps_if (pt_cmpR op_eq (pe_callB call_len rfl m_len PySem.boot_len (pa_cons (pv 1) pa_nil)) pe_int (nomark _)) (pss_one (ps_raise letsF rfl x_NoText c_NoText rfl (pa_cons pe_str pa_nil))) pss_nil)
    (pss_cons (ps_set (i := 3) sc_trees_of.nd rfl (Or.inl rfl) (pe_bm0 PySem.F.plainAttrs_list PySem.F.slot_list_pop PySem.F.type_list_pop mt_pop (pv 1)))
    (pss_one (ps_expr (pe_bm PySem.F.plainAttrs_list PySem.F.slot_list_append PySem.F.type_list_append mt_append (pe_ix ix_list (pv 1) (pe_un un_neg pe_int) (fun _ _ => rfl)) (pa_cons (pe_tup (pa_cons pe_str (pa_cons (pe_callTy call_tuple_of rfl m_tuple boot_tupleT (pa_cons (pv 3) pa_nil)) pa_nil))) pa_nil)))))) (pss_one (ps_expr (pe_bm PySem.F.plainAttrs_list PySem.F.slot_list_append PySem.F.type_list_append mt_append (pe_ix ix_list (pv 1) (pe_un un_neg pe_int) (fun _ _ => rfl)) (pa_cons (pv 2) pa_nil)))))))))
    (pss_cons (ps_if (pt_cmpR op_gt (pe_callB call_len rfl m_len PySem.boot_len (pa_cons (pv 1) pa_nil)) pe_int (nomark _)) (pss_one (ps_raise letsF rfl x_NoText c_NoText rfl (pa_cons pe_str pa_nil))) pss_nil)
    (pss_one (ps_ret (pe_ix ix_list (pv 1) pe_int (fun _ _ => rfl))))))), ?_⟩
  refine ⟨(by show 0 ≤ sizeLine; decide), fun a ha => ⟨(by show 1 ≤ sizeLine; decide), fun L hL => ?_⟩⟩
  have sA := Same.new (o := .lst []) ha
  have sL := Same.new (o := .lst [.ref a]) hL
  refine ⟨_, rfl, t, O, rfl, hs, hz, fun ps hO p us H1 hp s1 ep rp => ?_, fun hO H1 s1 => qe (by rw [hO]; rfl) _ ((sA.trans sL).trans s1)⟩
  have trs : O.bind trsO = trsO ps := by rw [hO]; rfl
  rw [trs] at qq qe
  have hLa : L ≠ a := fun z => by
    rw [z, upd_same] at hL
    cases hL
  have hHL : H L = none := by
    rw [upd_ne hLa] at hL
    exact hL
  have hpL : p ≠ L := fun z => by rw [z, upd_same] at hp; cases hp
  have hpa : p ≠ a := fun z => by rw [z, upd_ne (Ne.symm hLa), upd_same] at hp; cases hp
  have eL1 : H1 L = some (.lst [.ref a]) := s1 _ _ upd_same
  have ea1 : H1 a = some (.lst []) := s1 _ _ (sL _ _ upd_same)
  have sH1 : Same H H1 := (sA.trans sL).trans s1
  have hbig : ps.length ≤ 100000 := by
    have := hs.len ps hO
    rw [str_len] at this
    omega
  refine ⟨p, rfl, ⟨_, SqL.of ep⟩, for_list (xs := us) (TInv H ps (run ps [[]]) p L t us)
    ⟨[a], [[]], none, none, rfl, hHL, eL1, by simp [hLa], .cons ha ea1 RTrs.nil (by simp) .nil, by simp, by simp, by simp, by simp [wide], ep, by simp [hpa], hpL, rp, sH1⟩
    (fun i σ' H' _ h => by obtain ⟨as, st, o1, o2, _, _, _, _, _, _, _, _, _, e, _⟩ := h; exact SqL.of e) (fun i x σ' H' hx h => ?_) (fun σ' H' h => ?_)⟩
  · obtain ⟨as, st, o1, o2, rfl, _, eL, nL, lv, hr2, hst, hst2, hw, ep2, np, _, rp2, s2⟩ := h
    have hi : i < us.length := (List.getElem?_eq_some_iff.mp hx).1
    have hi2 : i < ps.length := by rw [← rp2.len]; exact hi
    have hq : ps[i]? = some ps[i] := List.getElem?_eq_getElem hi2
    obtain ⟨b, rfl, eb⟩ := rp2.at' i x _ hx hq
    rw [drop_at hq] at hr2
    dsimp only [gName]
    have hwl : ∀ {tr : List Tr} {rest : List (List Tr)} {vs : List V}, wide (tr :: rest) ≤ i → vs.length = tr.length → vs.length < sizeLine := fun {tr rest vs} h1 h2 => by
      simp only [wide, List.map_cons, List.sum_cons] at h1
      exact Nat.lt_of_le_of_lt (show vs.length ≤ 100000 by omega) (by decide)
    cases hpc : ps[i] with
    | op =>
      rw [hpc] at eb hr2
      refine ⟨_, rfl, b, _, 0, _, rfl, rfl, SqT.of eb, rfl, rfl, _, rfl, ?_⟩
      rw [str40, decide_eq_true rfl]
      refine iteT ⟨_, rfl, .inl ⟨rfl, _, SqL.of eL⟩, (by show 0 ≤ sizeLine; decide), fun c hc => ?_⟩
      have cL : L ≠ c := ne_of_none eL hc
      have nas : c ∉ as := fun z => by
        obtain ⟨_, vs, e⟩ := lv.some c z
        rw [hc] at e; cases e
      have hHc : H c = none := by
        cases e : H c with
        | none => rfl
        | some o => rw [s2 _ _ e] at hc; cases hc
      have cp : p ≠ c := ne_of_none ep2 hc
      have eL2 : upd H' c (.lst []) L = some (.lst (as.reverse.map V.ref)) := by rw [upd_ne cL]; exact eL
      refine ⟨L, _, .ref c, rfl, rfl, eL2, Nat.lt_of_le_of_lt (show (as.reverse.map V.ref).length ≤ 100000 by simp; have := lv.len; omega) (by decide), ?_⟩
      have t1 : Tups H' (upd H' c (.lst [])) := tups_new hc
      have t2 : Tups (upd H' c (.lst [])) (upd (upd H' c (.lst [])) L (.lst (as.reverse.map V.ref ++ [.ref c]))) := tups_put eL2
      refine ⟨_, rfl, _, _, rfl, .inl ⟨_, SqL.of upd_same, rfl⟩, _, _, rfl, rfl, _, rfl, ?_⟩
      have hlen : ((as.reverse.map V.ref ++ [V.ref c]).length : Nat) = st.length + 1 := by simp [lv.len]
      rw [hlen]
      by_cases hlt : st.length < 100
      rotate_left
      · simp only [run, if_neg hlt] at hr2
        rw [decide_eq_true (by omega)]
        exact iteT ⟨(by show 1 ≤ sizeLine; decide), qe (by unfold trsO; rw [← hr2]) _ (same_put hHL (s2.trans (Same.new hc)))⟩
      simp only [run, if_pos hlt] at hr2
      rw [decide_eq_false (by omega)]
      refine iteF ⟨c :: as, [] :: st, _, _, rfl, hHL, ?_, ?_, .cons hHc ?_ RTrs.nil nas (lv.mono (fun a vs e => t2 a vs (t1 a vs e)) fun z hz => ?_), hr2, by simp, (by simp; omega), ?_, ?_, ?_, hpL, (rp2.mono t1).mono t2, same_put hHL (s2.trans (Same.new hc))⟩
      · rw [upd_same]; simp
      · intro z
        rcases List.mem_cons.mp z with z | z
        · exact cL z
        · exact nL z
      · rw [upd_ne (Ne.symm cL), upd_same]
      · rw [upd_ne (show z ≠ L from fun e => nL (by rw [← e]; exact hz)), upd_ne (show z ≠ c from fun e => nas (by rw [← e]; exact hz))]
      · simp only [wide, List.map_cons, List.sum_cons, List.length_nil] at hw ⊢
        omega
      · rw [upd_ne hpL, upd_ne cp]; exact ep2
      · intro z
        rcases List.mem_cons.mp z with z | z
        · exact cp z
        · exact np z
    | cl =>
      rw [hpc] at eb hr2
      refine ⟨_, rfl, b, _, 0, _, rfl, rfl, SqT.of eb, rfl, rfl, _, rfl, ?_⟩
      rw [str40, decide_eq_false (by intro z; exact absurd (by simpa using z : (⟨#[41]⟩ : Str) = ⟨#[40]⟩) (by decide))]
      refine iteF ⟨_, rfl, b, _, 0, _, rfl, rfl, SqT.of eb, rfl, rfl, _, rfl, ?_⟩
      rw [str41, decide_eq_true rfl]
      cases lv with
      | nil => exact absurd rfl hst
      | @cons a1 as1 vs1 tr1 st1 h0 ea ra na lv1 =>
      cases lv1 with
      | nil =>
        simp only [run] at hr2
        refine iteT ⟨_, rfl, _, _, rfl, .inl ⟨_, SqL.of eL, rfl⟩, rfl, _, rfl, ?_⟩
        rw [show (((([a1] : List Addr).reverse.map V.ref).length : Nat) : Int) = 1 by simp, decide_eq_true rfl]
        exact iteT ⟨(by show 1 ≤ sizeLine; decide), qe (by unfold trsO; rw [← hr2]) _ s2⟩
      | @cons a2 as2 vs2 tr2 st2 h02 ea2 ra2 na2 lv2 =>
      simp only [run] at hr2
      have hlen : (((a1 :: a2 :: as2).reverse.map V.ref).length : Nat) = as2.length + 2 := by simp
      refine iteT ⟨_, rfl, _, _, rfl, .inl ⟨_, SqL.of eL, rfl⟩, rfl, _, rfl, ?_⟩
      rw [hlen, decide_eq_false (fun z => by injection z with z; omega)]
      have e12 : a1 ≠ a2 := fun z => na (z ▸ List.mem_cons_self)
      have nL1 : L ≠ a1 := fun z => nL (z ▸ List.mem_cons_self)
      have nL2 : L ≠ a2 := fun z => nL (z ▸ List.mem_cons_of_mem _ List.mem_cons_self)
      refine iteF ⟨_, rfl, .inl ⟨rfl, _, SqL.of eL⟩, L, _, .ref a1, rfl, rfl, eL, ?_, ?_⟩
      · simp
      have hdl : ((a1 :: a2 :: as2).reverse.map V.ref).dropLast = (a2 :: as2).reverse.map V.ref := by
        rw [List.reverse_cons, List.map_append]
        simp
      rw [hdl]
      have t1 : Tups H' (upd H' L (.lst ((a2 :: as2).reverse.map V.ref))) := tups_put eL
      have ea2' : upd H' L (.lst ((a2 :: as2).reverse.map V.ref)) a2 = some (.lst vs2) := by rw [upd_ne (Ne.symm nL2)]; exact ea2
      have ea1' : upd H' L (.lst ((a2 :: as2).reverse.map V.ref)) a1 = some (.lst vs1) := by rw [upd_ne (Ne.symm nL1)]; exact ea
      refine ⟨_, rfl, _, rfl, L, _, -1, _, rfl, rfl, SqL.of upd_same, last_ref as2 a2, .inl ⟨rfl, _, SqL.of ea2'⟩, _, rfl, a1, vs1, rfl, .inl ⟨SqL.of ea1', fun c hc => ?_⟩⟩
      refine ⟨(by show 2 ≤ sizeLine; decide), fun d hd => ?_⟩
      have s3 := Same.new (o := .tup vs1) hc
      have s4 := Same.new (o := .tup [.str "list", .ref c]) hd
      have s34 := s3.trans s4
      have t34 : Tups H' _ := fun x vs e => s34 _ _ (t1 x vs e)
      have hvs2 : vs2.length < sizeLine := by
        rw [ra2.len]
        simp only [wide, List.map_cons, List.sum_cons] at hw
        exact Nat.lt_of_le_of_lt (show tr2.length ≤ 100000 by omega) (by decide)
      refine ⟨a2, vs2, .ref d, rfl, rfl, s34 _ _ ea2', hvs2, ?_⟩
      have hlv2 : Lv H _ as2 st2 := lv2.mono t34 fun z hz => by
        obtain ⟨_, vz, ez⟩ := lv2.some z hz
        have zL : z ≠ L := fun e => nL (e ▸ List.mem_cons_of_mem _ (List.mem_cons_of_mem _ hz))
        rw [s34 _ _ (show upd H' L (.lst ((a2 :: as2).reverse.map V.ref)) z = some (.lst vz) by rw [upd_ne zL]; exact ez), ez]
      refine push_top hHL (s34 _ _ upd_same) (fun z => nL (List.mem_cons_of_mem _ z)) h02 (s34 _ _ ea2') (ra2.mono t34) na2 hlv2 hr2 ?_ ?_ (s34 _ _ (by rw [upd_ne hpL]; exact ep2)) (fun z => np (List.mem_cons_of_mem _ z)) hpL (rp2.mono t34) ((same_put hHL s2).trans s34) (.lst (b := c) (vs := vs1) upd_same ?_ ?_ ?_)
      · simp at hst2; omega
      · simp only [wide, List.map_cons, List.sum_cons] at hw ⊢
        omega
      · exact s4 _ _ upd_same
      · exact ra.len
      · exact fun j v x e1 e2 => (ra.at' j v x e1 e2).mono t34
    | txt q =>
      rw [hpc] at eb hr2
      refine ⟨_, rfl, b, _, 0, _, rfl, rfl, SqT.of eb, rfl, rfl, _, rfl, ?_⟩
      rw [str40, decide_eq_false (by intro z; exact absurd (by simpa using z : (Str.ofString "text") = ⟨#[40]⟩) (by decide +kernel))]
      refine iteF ⟨_, rfl, b, _, 0, _, rfl, rfl, SqT.of eb, rfl, rfl, _, rfl, ?_⟩
      rw [str41, decide_eq_false (by intro z; exact absurd (by simpa using z : (Str.ofString "text") = ⟨#[41]⟩) (by decide +kernel))]
      cases lv with
      | nil => exact absurd rfl hst
      | @cons a1 as1 vs1 tr1 st1 h0 ea ra na lv1 =>
      simp only [run] at hr2
      refine iteF ⟨_, rfl, _, rfl, L, _, -1, _, rfl, rfl, SqL.of eL, last_ref as1 a1, .inl ⟨rfl, _, SqL.of ea⟩, _, rfl, a1, vs1, .ref b, rfl, rfl, ea, hwl hw ra.len, ?_⟩
      exact push_top hHL eL nL h0 ea ra na lv1 hr2 (by simpa using hst2) hw ep2 np hpL rp2 s2 (.txt eb)
    | word q =>
      rw [hpc] at eb hr2
      refine ⟨_, rfl, b, _, 0, _, rfl, rfl, SqT.of eb, rfl, rfl, _, rfl, ?_⟩
      rw [str40, decide_eq_false (by intro z; exact absurd (by simpa using z : (Str.ofString "word") = ⟨#[40]⟩) (by decide +kernel))]
      refine iteF ⟨_, rfl, b, _, 0, _, rfl, rfl, SqT.of eb, rfl, rfl, _, rfl, ?_⟩
      rw [str41, decide_eq_false (by intro z; exact absurd (by simpa using z : (Str.ofString "word") = ⟨#[41]⟩) (by decide +kernel))]
      cases lv with
      | nil => exact absurd rfl hst
      | @cons a1 as1 vs1 tr1 st1 h0 ea ra na lv1 =>
      simp only [run] at hr2
      refine iteF ⟨_, rfl, _, rfl, L, _, -1, _, rfl, rfl, SqL.of eL, last_ref as1 a1, .inl ⟨rfl, _, SqL.of ea⟩, _, rfl, a1, vs1, .ref b, rfl, rfl, ea, hwl hw ra.len, ?_⟩
      exact push_top hHL eL nL h0 ea ra na lv1 hr2 (by simpa using hst2) hw ep2 np hpL rp2 s2 (.word eb)
  · obtain ⟨as, st, o1, o2, rfl, _, eL, nL, lv, hr2, hst, hst2, hw, ep2, np, _, rp2, s2⟩ := h
    rw [rp2.len, List.drop_length] at hr2
    simp only [run] at hr2
    cases lv with
    | nil => exact absurd rfl hst
    | @cons a1 as1 vs1 tr1 st1 h0 ea ra na lv1 =>
    cases lv1 with
    | nil =>
      refine ⟨_, rfl, _, _, rfl, .inl ⟨_, SqL.of eL, rfl⟩, _, _, rfl, rfl, _, rfl, iteF ?_⟩
      exact ⟨_, rfl, L, _, 0, _, rfl, rfl, SqL.of eL, rfl, qq tr1 (by unfold trsO; rw [← hr2]) a1 vs1 H' s2 ea ra⟩
    | @cons a2 as2 vs2 tr2 st2 h02 ea2 ra2 na2 lv2 =>
      refine ⟨_, rfl, _, _, rfl, .inl ⟨_, SqL.of eL, rfl⟩, _, _, rfl, rfl, _, rfl, ?_⟩
      rw [show (((a1 :: a2 :: as2).reverse.map V.ref).length : Nat) = as2.length + 2 by simp, decide_eq_true (by omega)]
      exact iteT ⟨(by show 1 ≤ sizeLine; decide), qe (by unfold trsO; rw [← hr2]) _ s2⟩
theorem sc_only_tree : FnScope ["text", "trees"] ["text"] (defScope s_only_tree) := ⟨rfl, rfl, rfl, by decide +kernel, rfl, by decide +kernel, by decide +kernel⟩
theorem ok_only_tree (F : Fun K "only_tree" "only_tree" s_only_tree f fd) (G_trees_of : HaveX P w K mg base "trees_of" k ["text"] (spTrees ANoText)) (m_len : mg "len" = none) (x_NoText : PySem.W.excIn K ANoText vErr "ValueError.__new__" = true) (c_NoText : mg "NoText" = some (.ref ANoText)) : FnOk P w K mg base (CX1 P w) (k + 1) f fd ["text"] (spOnly ANoText) := by
  refine F.okX sc_only_tree (fun vs H Q E h => ?_) (fun cdv A outer s H vs Q E hr h => ?_)
  · obtain ⟨t, O, rfl, _⟩ := h
    rfl
  obtain ⟨t, O, rfl, hs, hz, qq, qe⟩ := h
  refine ⟨_, (pss_cons (ps_set (i := 1) sc_only_tree.nd rfl (Or.inl rfl) (pe_fnX G_trees_of hr letsF rfl (pa_cons (pv 0) pa_nil)))
    (pss_cons (ps_if (pt_cmpR op_ne (pe_callB call_len rfl m_len PySem.boot_len (pa_cons (pv 1) pa_nil)) pe_int (nomark _)) (pss_one (ps_raise letsF rfl x_NoText c_NoText rfl (pa_cons pe_str pa_nil))) pss_nil)
    (pss_one (ps_ret (pe_ix ix_list (pv 1) pe_int (fun _ _ => rfl)))))), ?_⟩
  refine ⟨_, rfl, t, O, rfl, hs, hz, fun ts hts p us H1 s1 ep rp => ?_, fun hn H1 s1 => qe (by rw [hn]; rfl) _ s1⟩
  rw [hts] at qq qe
  refine ⟨_, rfl, _, _, rfl, .inl ⟨_, SqL.of ep, rfl⟩, rfl, _, rfl, ?_⟩
  have hl := rp.len
  match us, ts, hl, rp, qq, qe, ep with
  | [v], [x], _, rp, qq, _, ep => exact iteF ⟨_, rfl, p, _, 0, _, rfl, rfl, SqL.of ep, rfl, qq x rfl v H1 s1 (rp.at' 0 v x rfl rfl)⟩
  | [], [], _, _, _, qe, ep => exact iteT ⟨(by show 1 ≤ sizeLine; decide), qe rfl _ s1⟩
  | v :: v2 :: us, x :: x2 :: ts, _, _, _, qe, ep =>
    rw [show (!decide (V.int (((v :: v2 :: us).length : Nat) : Int) = V.int 1)) = true by
      rw [Bool.not_eq_true', decide_eq_false_iff_not]
      intro z
      injection z with z
      simp at z
      omega]
    exact iteT ⟨(by show 1 ≤ sizeLine; decide), qe rfl _ s1⟩
end
end D

set_option Elab.async false
set_option linter.all false
set_option maxRecDepth 100000
set_option maxHeartbeats 4000000
namespace D
open PySem L2
/-! ### numbers as texts -/
theorem numC_str (i : Int) : (Str.ofString (toString i)).cps.toList = numC i := by
  unfold numC
  by_cases h : 0 ≤ i
  · rw [if_pos h]
    obtain ⟨m, rfl⟩ := Int.eq_ofNat_of_zero_le h
    rw [PySem.W.KIN.signs_num]
    rfl
  · rw [if_neg h]
    obtain ⟨m, rfl⟩ : ∃ m : Nat, i = Int.negSucc m := by
      cases i with
      | ofNat m => exact absurd (Int.natCast_nonneg m) h
      | negSucc m => exact ⟨m, rfl⟩
    rw [PyProof.Rows.signs_ofString]
    show ("-" ++ Nat.repr (m + 1)).toList.map Char.toNat = 45 :: digs (m + 1)
    rw [String.toList_append, List.map_append, Nat.toList_repr]
    rfl
theorem numC_all (i : Int) : ∀ c ∈ numC i, c = 45 ∨ (48 ≤ c ∧ c ≤ 57) := by
  unfold numC
  intro c hc
  split at hc
  · exact .inr (digs_all _ c hc)
  · rcases List.mem_cons.mp hc with rfl | hc
    · exact .inl rfl
    · exact .inr (digs_all _ c hc)
theorem numC_ne (i : Int) : numC i ≠ [] := by
  unfold numC
  split
  · exact digs_ne _
  · simp
theorem numC_len {i : Int} (h1 : -(10 ^ 60) < i) (h2 : i < 10 ^ 60) : (numC i).length ≤ 61 := by
  unfold numC
  split
  · have := digs_len 60 i.toNat (by decide) (by omega)
    omega
  · have := digs_len 60 i.natAbs (by decide) (by omega)
    rw [List.length_cons]
    omega
theorem numC_end (i : Int) : ∀ c ∈ numC i, isEnd c = false := fun c hc => by
  have := numC_all i c hc
  simp only [isEnd, Bool.or_eq_false_iff, beq_eq_false_iff_ne]
  omega
theorem digs_val (m : Nat) : NumText.digitsVal (digs m) = m := PySem.W.KIN.val_back m
theorem numC_int {x : Str} {i : Int} (hx : x.cps.toList = numC i) (h1 : -(10 ^ 60) < i) (h2 : i < 10 ^ 60) : intText? x = some i := by
  have hl : x.length ≤ 4300 := by
    rw [← str_len, hx]
    have := numC_len h1 h2
    omega
  by_cases h : 0 ≤ i
  · have e : numC i = digs i.toNat := by unfold numC; rw [if_pos h]
    rw [e] at hx
    have := intText_digits (x := x) (by rw [hx]; exact digs_all _) (by rw [hx]; exact digs_ne _) hl
    rw [hx, digs_val] at this
    rw [this]
    congr 1
    omega
  · have e : numC i = 45 :: digs i.natAbs := by unfold numC; rw [if_neg h]
    rw [e] at hx
    have := intText_neg (x := x) hx (digs_all _) (digs_ne _) hl
    rw [digs_val] at this
    rw [this]
    congr 1
    omega
/-! ### how long a worth's text is -/
mutual
theorem sh_len : ∀ w : W, w.Ok → ((shW numC w).length : Int) + 1 ≤ 64 * w.size
  | .num i, h => by
    have := numC_len h.1 h.2
    show ((numC i).length : Int) + 1 ≤ 64 * 1
    omega
  | .txt x, h => by
    show (((34 :: (x.cps.toList ++ [34])).length : Nat) : Int) + 1 ≤ 64 * (1 + (x.length : Int))
    rw [List.length_cons, List.length_append, str_len]
    simp
    omega
  | .lst ws, h => by
    have := shs_len ws h.2
    show (((40 :: (shWs numC ws ++ [41])).length : Nat) : Int) + 1 ≤ 64 * (1 + sizes ws)
    rw [List.length_cons, List.length_append]
    simp
    omega
theorem shs_len : ∀ ws : List W, Oks ws → ((shWs numC ws).length : Int) ≤ 64 * sizes ws
  | [], _ => by simp [shWs, sizes]
  | [w], h => by
    have := sh_len w h.1
    simp only [shWs, sizes]
    omega
  | w :: v :: r, h => by
    have h1 := sh_len w h.1
    have h2 := shs_len (v :: r) h.2
    show (((shW numC w ++ 32 :: shWs numC (v :: r)).length : Nat) : Int) ≤ 64 * (w.size + sizes (v :: r))
    rw [List.length_append, List.length_cons]
    omega
end
def spShow (n : Nat) : Sp := fun vs H Q _ => ∃ (v : V) (w : W), vs = [v] ∧ RW H v w ∧ w.Ok ∧ w.size ≤ 1000 ∧ w.depth < n ∧ ∀ (x : Str) (H' : Hp), x.cps.toList = shW numC w → Same H H' → Q (.str x) H'
theorem trWs_map : ∀ ws : List W, trWs numC ws = ws.map (trW numC)
  | [] => rfl
  | w :: r => by simp only [trWs, List.map_cons, trWs_map r]
theorem join_trs (ys : List Str) : ∀ ts : List Tr, ys.map (fun y => y.cps.toList) = ts.map shT → (Txt.join (Str.ofString " ") ys).cps.toList = shTs ts := by
  have fold : ∀ (r : List Str) (acc : Array Nat), (r.foldl (fun acc p => acc ++ (Str.ofString " ").cps ++ p.cps) acc).toList = acc.toList ++ (r.map fun y => 32 :: y.cps.toList).flatten := fun r => by
    induction r with
    | nil => intro acc; simp
    | cons c r ih =>
      intro acc
      rw [List.foldl_cons, ih]
      have e0 : (Str.ofString " ").cps.toList = [32] := by decide +kernel
      simp [e0]
  cases ys with
  | nil =>
    intro ts h
    cases ts with
    | nil => rw [shTs]; rfl
    | cons w r => simp at h
  | cons y r =>
    intro ts h
    show (r.foldl (fun acc p => acc ++ (Str.ofString " ").cps ++ p.cps) y.cps).toList = _
    rw [fold]
    have gen : ∀ (r : List Str) (w : Tr) (vs : List Tr), r.map (fun y => y.cps.toList) = vs.map shT → shT w ++ (r.map fun y => 32 :: y.cps.toList).flatten = shTs (w :: vs) := fun r => by
      induction r with
      | nil =>
        intro w vs e
        cases vs with
        | nil => simp [shTs]
        | cons v vs => simp at e
      | cons z r ih =>
        intro w vs e
        cases vs with
        | nil => simp at e
        | cons v vs =>
          have e1 : z.cps.toList = shT v ∧ r.map (fun y => y.cps.toList) = vs.map shT := by simpa using e
          have := ih v vs e1.2
          rw [shTs, ← this, ← e1.1]
          simp
    cases ts with
    | nil => simp at h
    | cons w vs =>
      have e1 : y.cps.toList = shT w ∧ r.map (fun y => y.cps.toList) = vs.map shT := by simpa using h
      rw [e1.1]
      exact gen r w vs e1.2
theorem join_blank (ys : List Str) (ws : List W) (h : ys.map (fun y => y.cps.toList) = ws.map (shW numC)) : (Txt.join (Str.ofString " ") ys).cps.toList = shWs numC ws := by
  rw [← shTs_W]
  refine join_trs ys _ ?_
  rw [h, trWs_map, List.map_map]
  exact List.map_congr_left fun w _ => (shT_W numC w).symm
theorem sizes_mem {ws : List W} : ∀ w ∈ ws, w.size ≤ sizes ws := by
  induction ws with
  | nil => intro w hw; cases hw
  | cons x r ih =>
    intro w hw
    have h1 := size_pos x
    have h2 := sizes_nn r
    simp only [sizes]
    rcases List.mem_cons.mp hw with rfl | hw
    · omega
    · have := ih w hw
      omega
theorem sum_len (ys : List Str) : ∀ ws : List W, Oks ws → ys.map (fun y => y.cps.toList) = ws.map (shW numC) → (((ys.map (·.length)).sum + ys.length : Nat) : Int) ≤ 64 * sizes ws := by
  induction ys with
  | nil =>
    intro ws _ h
    cases ws with
    | nil => simp [sizes]
    | cons w r => simp at h
  | cons y r ih =>
    intro ws ok h
    cases ws with
    | nil => simp at h
    | cons w vs =>
      have e1 : y.cps.toList = shW numC w ∧ r.map (fun y => y.cps.toList) = vs.map (shW numC) := by simpa using h
      have := ih vs ok.2 e1.2
      have h2 := sh_len w ok.1
      rw [← e1.1, str_len] at h2
      simp only [List.map_cons, List.sum_cons, List.length_cons, sizes]
      omega
theorem strOf (x : Str) : x = ⟨x.cps.toList.toArray⟩ := by cases x; simp
section
variable {P : Program} {w : World} {K : PySem.W.Frag} {mg : Str → Option Value} {base : Heap} {f : Addr} {fd : FuncData} {k : Nat}
theorem sc_show_worth : FnScope ["worth"] ["worth"] (defScope s_show_worth) := ⟨rfl, rfl, rfl, by decide +kernel, rfl, by decide +kernel, by decide +kernel⟩
theorem ok_show_worth {n : Nat} (F : Fun K "show_worth" "show_worth" s_show_worth f fd) (G_show_worth : Have P w K mg base "show_worth" k ["worth"] (spShow n)) (m_isi : mg "isinstance" = none) (m_str : mg "str" = none) (m_tuple : mg "tuple" = none) : FnOk P w K mg base CX0 (k + 1) f fd ["worth"] (spShow (n + 1)) := by
  refine F.okQ sc_show_worth (fun vs H Q E h => ?_) (fun cdv A outer s H vs Q E hr h => ?_)
  · obtain ⟨v, x, rfl, _⟩ := h
    rfl
  obtain ⟨v, x, rfl, rx, ok, hsz, hd, q⟩ := h
  refine ⟨_, (pss_cons (ps_if (pt_val (pe_callB call_isi rfl m_isi boot_isi (pa_cons (pv 0) (pa_cons (pe_ty rfl m_tuple boot_tupleT) pa_nil)))) (pss_one (ps_ret (pe_op op_add_str (pe_op op_add_str pe_str (pe_bm PySem.F.plainAttrs_str PySem.F.slot_str_join PySem.F.type_str_join mt_join pe_str (pa_cons (pe_lcomp [] [] rfl rfl (by decide +kernel) rfl (by decide +kernel) rfl (by decide +kernel) trivial rfl trivial (pi_tup (pv 0)) (fun C s H fp => ⟨pifs_nil, (pe_fn G_show_worth hr rfl (pa_cons (pv 0) pa_nil))⟩)) pa_nil))) pe_str))) pss_nil)
    (pss_cons (ps_if (pt_val (pe_callB call_isi rfl m_isi boot_isi (pa_cons (pv 0) (pa_cons (pe_ty rfl m_str boot_strT) pa_nil)))) (pss_one (ps_ret (pe_op op_add_str (pe_op op_add_str pe_str (pv 0)) pe_str))) pss_nil)
    (pss_one (ps_ret (pe_callTy call_str_int rfl m_str boot_strT (pa_cons (pv 0) pa_nil)))))), ?_⟩
  cases rx with
  | num i =>
    refine ⟨_, rfl, _, _, _, _, rfl, .int i, isi_it, _, rfl, iteF ⟨_, rfl, _, _, _, _, rfl, .int i, isi_is, _, rfl, iteF ?_⟩⟩
    have hlog : i.natAbs.log2 < 1920 := by
      by_cases h0 : i.natAbs = 0
      · rw [h0]; decide
      · have h1 := ok.1
        have h2 := ok.2
        have := (Nat.log2_lt h0).mpr (show i.natAbs < 2 ^ 200 by
          have : (10 : Int) ^ 60 < 2 ^ 200 := by decide
          omega)
        omega
    exact ⟨_, rfl, i, rfl, hlog, q _ _ (numC_str i) (Same.refl _)⟩
  | txt x =>
    refine ⟨_, rfl, _, _, _, _, rfl, .str x, isi_st, _, rfl, iteF ⟨_, rfl, _, _, _, _, rfl, .str x, isi_ss, _, rfl, iteT ?_⟩⟩
    have hx : x.length ≤ 400 := ok.1
    have l1 : (Str.ofString "\"").length = 1 := by decide +kernel
    refine ⟨_, rfl, _, _, rfl, rfl, small (by rw [l1]; omega), _, _, rfl, rfl, small (by rw [str_app_len, l1]; omega), q _ _ ?_ (Same.refl _)⟩
    rw [str_app, str_app, quote_eq]
    simp [shW]
  | @lst a vs ws e l at' =>
    refine ⟨_, rfl, _, _, _, _, rfl, .tup e, isi_tt, _, rfl, iteT ?_⟩
    have hl60 : ws.length ≤ 60 := ok.1
    have hsz2 : 1 + sizes ws ≤ 1000 := hsz
    have hd2 : 1 + depths ws < n + 1 := hd
    dsimp only [tRet, tOp, tC, tBM, tCons, tNil]
    refine ⟨rfl, ?_⟩
    refine rd_mapT (ws.map fun w => V.str ⟨(shW numC w).toArray⟩) (by rfl) (SqT.of e) (by rw [List.length_map, l]) (small (by omega)) (fun i v y H1 R hv hy s1 hR => ?_) (fun H1 D s1 hD => ?_)
    · rw [List.getElem?_map] at hy
      obtain ⟨wi, hwi, rfl⟩ := Option.map_eq_some_iff.mp hy
      have hm := List.mem_of_getElem? hwi
      have hdm := depths_mem wi hm
      have hsm := sizes_mem wi hm
      refine ⟨_, rfl, v, wi, rfl, (at' i v wi hv hwi).mono (same_tups s1), Oks_mem ok.2 wi hm, by omega, by omega, fun x H2 hx s2 => ?_⟩
      rw [strOf x, hx]
      exact hR H2 s2
    · have hmap : (ws.map fun w => (⟨(shW numC w).toArray⟩ : Str)).map (fun y => y.cps.toList) = ws.map (shW numC) := by rw [List.map_map]; simp [Function.comp_def]
      have hb := sum_len _ ws ok.2 hmap
      have l1 : (Str.ofString " ").length = 1 := by decide +kernel
      have hj := join_blank _ ws hmap
      have hjl : ((Txt.join (Str.ofString " ") (ws.map fun w => (⟨(shW numC w).toArray⟩ : Str))).length : Int) ≤ 64000 := by
        rw [← str_len, hj]
        have := shs_len ws ok.2
        omega
      have la : (Str.ofString "(").length = 1 := by decide +kernel
      have lb : (Str.ofString ")").length = 1 := by decide +kernel
      refine ⟨Str.ofString " ", D, ws.map fun w => (⟨(shW numC w).toArray⟩ : Str), rfl, rfl, SqL.of ?_, ?_, _, _, rfl, rfl, small (by rw [la]; omega), _, _, rfl, rfl, small (by rw [str_app_len, la, lb]; omega), q _ _ ?_ (s1.trans (Same.new hD))⟩
      · rw [upd_same, List.map_map]; rfl
      · rw [l1, Nat.mul_one]; omega
      · rw [str_app, str_app, hj, str40, str41]
        simp [shW]
end
theorem starts_iff (x : Str) (c : Nat) : Txt.startswith x ⟨#[c]⟩ = decide (x.cps.toList[0]? = some c) := by
  unfold Txt.startswith
  rw [Bool.eq_iff_iff, Bool.and_eq_true, decide_eq_true_iff, decide_eq_true_iff]
  have e := StrLaws.subAt_one x c 0
  constructor
  · intro h
    have := e.mp ⟨by simpa using h.1, h.2⟩
    simpa using this
  · intro h
    have := e.mpr (by simpa using h)
    exact ⟨by simpa using this.1, this.2⟩
theorem minus_eq : Str.ofString "-" = ⟨#[45]⟩ := by decide +kernel
theorem nought_eq : Str.ofString "0" = ⟨#[48]⟩ := by decide +kernel
theorem fig_in (c : Nat) : decide (c ∈ wFigs.cps.toList) = (decide (48 ≤ c) && decide (c ≤ 57)) := by
  rw [wFigs_list, Bool.eq_iff_iff, decide_eq_true_iff, Bool.and_eq_true, decide_eq_true_iff, decide_eq_true_iff]
  simp
  omega
/-! ### the number that any word writes -/
def isFig (c : Nat) : Bool := decide (48 ≤ c) && decide (c ≤ 57)
def figs (q : List Nat) : List Nat := if q[0]? = some 45 then q.drop 1 else q
def numB (q : List Nat) : Bool := decide (figs q ≠ []) && (decide ((figs q).length ≤ 60) && (!(decide ((figs q)[0]? = some 48) && decide (q ≠ [48])) && (figs q).all isFig))
def dval (l : List Nat) : Nat := l.foldl (fun a c => 10 * a + (c - 48)) 0
def valI (q : List Nat) : Int := if q[0]? = some 45 then -(dval (figs q) : Int) else dval (figs q)
theorem dval_snoc (l : List Nat) (c : Nat) : dval (l ++ [c]) = 10 * dval l + (c - 48) := by unfold dval; rw [List.foldl_append]; rfl
theorem snoc_cases (l : List Nat) : l = [] ∨ ∃ r c, l = r ++ [c] := by
  rcases List.eq_nil_or_concat l with h | ⟨r, c, h⟩
  · exact .inl h
  · exact .inr ⟨r, c, by rw [h, List.concat_eq_append]⟩
theorem dval_ok : ∀ (n : Nat) (l : List Nat), l.length = n → l ≠ [] → (∀ c ∈ l, 48 ≤ c ∧ c ≤ 57) → l[0]? ≠ some 48 → 0 < dval l ∧ digs (dval l) = l ∧ dval l < 10 ^ n := by
  intro n
  induction n with
  | zero => intro l h h1; exact absurd (List.length_eq_zero_iff.mp h) h1
  | succ n ih =>
    intro l h h1 h2 h3
    rcases snoc_cases l with rfl | ⟨r, c, rfl⟩
    · exact absurd rfl h1
    have hc := h2 c (by simp)
    rw [List.length_append, List.length_singleton] at h
    rw [dval_snoc]
    cases r with
    | nil =>
      have hc0 : c ≠ 48 := fun z => h3 (by rw [z]; rfl)
      have e : dval [] = 0 := rfl
      rw [e]
      refine ⟨by omega, ?_, ?_⟩
      · rw [digs_lt (by omega)]
        simp
        omega
      · rw [Nat.pow_succ]
        have : 0 < 10 ^ n := Nat.pow_pos (by decide)
        omega
    | cons d r =>
      obtain ⟨i1, i2, i3⟩ := ih (d :: r) (by omega) (by simp) (fun x hx => h2 x (List.mem_append_left _ hx)) (by simpa using h3)
      refine ⟨by omega, ?_, by rw [Nat.pow_succ]; omega⟩
      rw [digs_ge (by omega), show (10 * dval (d :: r) + (c - 48)) / 10 = dval (d :: r) by omega, show 48 + (10 * dval (d :: r) + (c - 48)) % 10 = c by omega, i2]
theorem numB_num {q : List Nat} (h : numB q = true) : q = numC (valI q) ∧ -(10 ^ 60) < valI q ∧ valI q < 10 ^ 60 := by
  unfold numB at h
  simp only [Bool.and_eq_true, decide_eq_true_eq, Bool.not_eq_true', List.all_eq_true, isFig] at h
  obtain ⟨h1, h2, h3, h4⟩ := h
  by_cases z : (figs q)[0]? = some 48
  · have hq : q = [48] := by
      rw [decide_eq_true z, Bool.true_and, decide_eq_false_iff_not, Decidable.not_not] at h3
      exact h3
    subst hq
    exact ⟨by decide +kernel, by decide, by decide⟩
  · obtain ⟨d1, d2, d3⟩ := dval_ok _ (figs q) rfl h1 h4 z
    have d4 : dval (figs q) < 10 ^ 60 := Nat.lt_of_lt_of_le d3 (Nat.pow_le_pow_right (by decide) h2)
    unfold valI numC
    by_cases e : q[0]? = some 45
    · rw [if_pos e, if_neg (by omega), show (-(dval (figs q) : Int)).natAbs = dval (figs q) by omega, d2]
      refine ⟨?_, by omega, by omega⟩
      unfold figs
      rw [if_pos e]
      cases q with
      | nil => cases e
      | cons c r => simp at e; rw [e]; rfl
    · rw [if_neg e, if_pos (by omega), show ((dval (figs q) : Int)).toNat = dval (figs q) by omega, d2]
      refine ⟨?_, by omega, by omega⟩
      unfold figs
      rw [if_neg e]
def spWritesNum : Sp := fun vs H Q _ => ∃ x : Str, vs = [.str x] ∧ x.length ≤ 100000 ∧ ∀ H', Same H H' → Q (.bl (numB x.cps.toList)) H'
def spNumOf (AN : Addr) : Sp := fun vs H Q E => ∃ x : Str, vs = [.str x] ∧ x.length ≤ 100000 ∧ (numB x.cps.toList = true → ∀ H', Same H H' → Q (.int (valI x.cps.toList)) H') ∧ (numB x.cps.toList = false → ∀ H', Same H H' → E (.ref AN) none H')
section
variable {P : Program} {w : World} {K : PySem.W.Frag} {mg : Str → Option Value} {base : Heap} {f : Addr} {fd : FuncData} {k : Nat} {ANoText : Addr}
theorem sc_writes_number : FnScope ["word", "figures"] ["word"] (defScope s_writes_number) := ⟨rfl, rfl, rfl, by decide +kernel, rfl, by decide +kernel, by decide +kernel⟩
theorem ok_writes_number (F : Fun K "writes_number" "writes_number" s_writes_number f fd) (m_all : mg "all" = none) (m_len : mg "len" = none) (m_MOST_FIGURES : ∃ t, mg "MOST_FIGURES" = some (.int 60 t)) (m_FIGURES : ∃ t, mg "FIGURES" = some (.str wFigs t)) : FnOk P w K mg base CX0 (k + 1) f fd ["word"] (spWritesNum) := by
  refine F.okQ sc_writes_number (fun vs H Q E h => ?_) (fun cdv A outer s H vs Q E hr h => ?_)
  · obtain ⟨x, rfl, _⟩ := h
    rfl
  obtain ⟨x, rfl, hxl, q⟩ := h
  refine ⟨_, (pss_cons (ps_set (i := 1) sc_writes_number.nd rfl (Or.inl rfl) (pe_ifExp (pt_val (pe_bm PySem.F.plainAttrs_str PySem.F.slot_str_startswith PySem.F.type_str_startswith mt_starts (pv 0) (pa_cons pe_str pa_nil))) (pe_slice sl_strX (pv 0) (po_some pe_int) po_none) (pv 0)))
    (pss_cons (ps_if (PW.pt (pw_or (pt_cmpR op_eq (pv 1) pe_str (nomark _)) (pw_or1 (pt_cmpR op_gt (pe_callB call_len rfl m_len PySem.boot_len (pa_cons (pv 1) pa_nil)) (pe_globI rfl m_MOST_FIGURES) (nomark _))))) (pss_one (ps_ret pe_bl)) pss_nil)
    (pss_cons (ps_if (PW.pt (pw_and (pt_cmpR op_eq (pe_ix ix_str (pv 1) pe_int (fun _ _ => rfl)) pe_str (nomark _)) (pw_and1 (pt_cmpR op_ne (pv 0) pe_str (nomark _))))) (pss_one (ps_ret pe_bl)) pss_nil)
    (pss_one (ps_ret (pe_callB (call_all_bools rfl) rfl m_all boot_allB (pa_cons (pe_lcomp [] [] rfl rfl (by decide +kernel) rfl (by decide +kernel) rfl (by decide +kernel) trivial rfl trivial (pi_str (pv 1)) (fun C s H fp => ⟨pifs_nil, (pe_cmpR op_in_str (pv 0) (pe_globS rfl m_FIGURES) (by rfl))⟩)) pa_nil))))))), ?_⟩
  refine seqI (fun σ' H' => ∃ y : Str, σ' = [some (.str x), some (.str y)] ∧ H' = H ∧ y.cps.toList = figs x.cps.toList) (fun σ' H' h => ?_) (fun tl => ?_)
  · obtain ⟨y, rfl, rfl, hy⟩ := h
    have hyl : y.length ≤ 100000 := by
      rw [← str_len, hy]
      unfold figs
      split
      · rw [List.length_drop, str_len]; omega
      · rw [str_len]; omega
    unfold numB at q
    rw [← hy] at q
    refine ⟨_, rfl, rfl, _, rfl, ?_⟩
    have no : ∀ b : Bool, b = false → (∀ H2, Same H' H2 → Q (.bl b) H2) → Q (.bl false) H' := fun b e h => by rw [e] at h; exact h _ (Same.refl _)
    by_cases h1 : y.cps.toList = []
    · rw [decide_eq_true (by rw [strOf y, h1]; rfl)]
      exact iteT (iteT (no _ (by rw [h1]; rfl) q))
    rw [decide_eq_false (fun z => h1 (by injection z with z; rw [z]; decide +kernel))]
    rw [decide_eq_true h1, Bool.true_and] at q
    refine iteF ⟨_, rfl, _, _, rfl, ⟨small (by omega), rfl⟩, _, _, rfl, rfl, _, rfl, ?_⟩
    rw [str_len] at q
    by_cases h2 : y.length ≤ 60
    rotate_left
    · rw [decide_eq_true (by omega)]
      exact iteT (no _ (by rw [decide_eq_false h2]; rfl) q)
    rw [decide_eq_false (by omega)]
    rw [decide_eq_true h2, Bool.true_and] at q
    refine iteF ?_
    obtain ⟨c, r, hcr⟩ : ∃ c r, y.cps.toList = c :: r := by
      cases e : y.cps.toList with
      | nil => exact absurd e h1
      | cons c r => exact ⟨c, r, rfl⟩
    have hat : atI y.cps.toList 0 = some c := by rw [hcr]; exact atI_nat (j := 0) rfl
    have h0 : y.cps.toList[0]? = some c := by rw [hcr]; rfl
    rw [h0] at q
    dsimp only [tNext]
    refine seqI (fun σ' H2 => σ' = [some (.str x), some (.str y)] ∧ H2 = H' ∧ ∀ H3, Same H' H3 → Q (.bl (y.cps.toList.all isFig)) H3) (fun σ' H2 h => ?_) (fun tl => ?_)
    · obtain ⟨rfl, rfl, q⟩ := h
      dsimp only [tRet, tCB, tCons, tNil]
      refine rd_mapS (y.cps.toList.map fun c => V.bl (isFig c)) (by rfl) (by rw [List.length_map]; simp) (small (by have : y.cps.size = y.length := rfl; omega)) (fun i c y' H1 R hc' hy' s1 hR => ?_) (fun H1 D s1 hD => ?_)
      · have hc2 : y.cps.toList[i]? = some c := by simpa using hc'
        rw [List.getElem?_map, hc2] at hy'
        cases hy'
        refine ⟨_, rfl, _, _, rfl, rfl, ?_⟩
        rw [in_one, fig_in]
        exact hR _ (Same.refl _)
      · refine ⟨D, y.cps.toList.map isFig, rfl, SqL.of ?_, ?_⟩
        · rw [upd_same, List.map_map]; rfl
        · have e3 : (y.cps.toList.map isFig).all id = y.cps.toList.all isFig := by rw [List.all_map]; rfl
          rw [e3]
          exact q _ (s1.trans (Same.new hD))
    refine ⟨_, rfl, y, 0, c, rfl, rfl, small (by omega), hat, rfl, _, rfl, ?_⟩
    have e48 : decide (V.str ⟨#[c]⟩ = V.str (Str.ofString "0")) = decide (c = 48) := by
      rw [Bool.eq_iff_iff, decide_eq_true_iff, decide_eq_true_iff, nought_eq]
      constructor
      · intro h
        injection h with h
        injection h with h
        simpa using h
      · rintro rfl
        rfl
    have ex48 : decide (V.str x = V.str (Str.ofString "0")) = decide (x.cps.toList = [48]) := by
      rw [Bool.eq_iff_iff, decide_eq_true_iff, decide_eq_true_iff, nought_eq]
      constructor
      · intro h
        injection h with h
        rw [h]
      · intro h
        rw [strOf x, h]
    rw [e48]
    have ec : decide ((some c : Option Nat) = some 48) = decide (c = 48) := by simp
    rw [ec] at q
    by_cases hc : c = 48
    · rw [decide_eq_true hc] at q ⊢
      refine iteT ⟨_, rfl, rfl, _, rfl, ?_⟩
      rw [ex48]
      by_cases hx : x.cps.toList = [48]
      · rw [decide_eq_true hx]
        rw [decide_eq_false (by rw [Decidable.not_not]; exact hx)] at q
        exact iteF (tl _ _ ⟨rfl, rfl, q⟩)
      · rw [decide_eq_false hx]
        exact iteT (no _ (by rw [decide_eq_true hx]; rfl) q)
    · rw [decide_eq_false hc] at q ⊢
      exact iteF (iteF (tl _ _ ⟨rfl, rfl, q⟩))
  · refine ⟨_, rfl, rfl, x, _, rfl, rfl, _, rfl, ?_⟩
    rw [minus_eq, starts_iff]
    by_cases h : x.cps.toList[0]? = some 45
    · rw [decide_eq_true h]
      refine iteT ⟨_, rfl, _, rfl, x, rfl, by omega, tl _ _ ⟨_, rfl, rfl, ?_⟩⟩
      have hl : 1 ≤ x.length := by
        rw [← str_len]
        exact (List.getElem?_eq_some_iff.mp h).1
      have := slice_sn (z := x) (a := 1) hl
      unfold figs
      rw [if_pos h]
      simpa using this
    · rw [decide_eq_false h]
      refine iteF ⟨_, rfl, tl _ _ ⟨x, rfl, rfl, ?_⟩⟩
      unfold figs
      rw [if_neg h]
theorem sc_number_of : FnScope ["word"] ["word"] (defScope s_number_of) := ⟨rfl, rfl, rfl, by decide +kernel, rfl, by decide +kernel, by decide +kernel⟩
theorem ok_number_of (F : Fun K "number_of" "number_of" s_number_of f fd) (G_writes_number : Have P w K mg base "writes_number" k ["word"] (spWritesNum)) (m_int : mg "int" = none) (x_NoText : PySem.W.excIn K ANoText vErr "ValueError.__new__" = true) (c_NoText : mg "NoText" = some (.ref ANoText)) : FnOk P w K mg base (CX1 P w) (k + 1) f fd ["word"] (spNumOf ANoText) := by
  refine F.okX sc_number_of (fun vs H Q E h => ?_) (fun cdv A outer s H vs Q E hr h => ?_)
  · obtain ⟨x, rfl, _⟩ := h
    rfl
  obtain ⟨x, rfl, hxl, q, qe⟩ := h
  refine ⟨_, (pss_cons (ps_if (pt_not (pt_val (pe_fn G_writes_number hr rfl (pa_cons (pv 0) pa_nil)))) (pss_one (ps_raise letsF rfl x_NoText c_NoText rfl (pa_cons pe_str pa_nil))) pss_nil)
    (pss_one (ps_ret (pe_callTy call_int_text rfl m_int boot_intT (pa_cons (pv 0) pa_nil))))), ?_⟩
  refine ⟨_, rfl, x, rfl, hxl, fun H1 s1 => ⟨_, rfl, ?_⟩⟩
  cases hb : numB x.cps.toList with
  | false => exact iteT ⟨(by show 1 ≤ sizeLine; decide), qe hb _ s1⟩
  | true =>
    obtain ⟨h0, h1, h2⟩ := numB_num hb
    exact iteF ⟨_, rfl, x, valI x.cps.toList, rfl, numC_int h0 h1 h2, (by rw [← str_len, h0]; have := numC_len h1 h2; omega), q hb H1 s1⟩
end
end D

set_option Elab.async false
set_option linter.all false
set_option maxRecDepth 100000
set_option maxHeartbeats 1000000
namespace D
open PySem L2
/-! ### the worth that a tree writes -/
mutual
def worO : Tr → Option W
  | .word q => if numB q = true then some (.num (valI q)) else none
  | .txt q => some (.txt ⟨q.toArray⟩)
  | .lst ts => (worOs ts).map .lst
def worOs : List Tr → Option (List W)
  | [] => some []
  | t :: r => (worO t).bind fun w => (worOs r).map (w :: ·)
end
theorem worOs_none : ∀ {ts : List Tr} {t : Tr}, t ∈ ts → worO t = none → worOs ts = none
  | [], _, h, _ => by simp at h
  | x :: r, t, h, e => by
    rw [worOs]
    rcases List.mem_cons.mp h with rfl | h
    · rw [e]; rfl
    · rw [worOs_none h e]
      cases worO x <;> rfl
theorem worOs_snoc : ∀ {ts : List Tr} {t : Tr} {ws : List W} {w : W}, worOs ts = some ws → worO t = some w → worOs (ts ++ [t]) = some (ws ++ [w])
  | [], t, ws, w, h, e => by
    rw [worOs] at h
    cases h
    rw [List.nil_append, worOs, e, worOs]
    rfl
  | x :: r, t, ws, w, h, e => by
    rw [worOs] at h
    obtain ⟨y, hy, h⟩ := Option.bind_eq_some_iff.mp h
    obtain ⟨ys, hys, rfl⟩ := Option.map_eq_some_iff.mp h
    rw [List.cons_append, worOs, hy, worOs_snoc hys e]
    rfl
mutual
def Tr.Sz : Tr → Prop
  | .word q => q.length ≤ 100000
  | .txt q => q.length ≤ 100000
  | .lst ts => ts.length ≤ 100000 ∧ TrSzs ts
def TrSzs : List Tr → Prop
  | [] => True
  | t :: r => t.Sz ∧ TrSzs r
end
theorem TrSzs_mem : ∀ {ts : List Tr}, TrSzs ts → ∀ t ∈ ts, t.Sz
  | [], _, t, h => by simp at h
  | x :: r, g, t, h => by
    rw [TrSzs] at g
    rcases List.mem_cons.mp h with rfl | h
    · exact g.1
    · exact TrSzs_mem g.2 t h
theorem TrSzs_mk : ∀ {ts : List Tr}, (∀ t ∈ ts, t.Sz) → TrSzs ts
  | [], _ => by rw [TrSzs]; trivial
  | x :: r, h => by rw [TrSzs]; exact ⟨h x (by simp), TrSzs_mk fun t ht => h t (List.mem_cons_of_mem _ ht)⟩
theorem worOs_len : ∀ {ts : List Tr} {ws : List W}, worOs ts = some ws → ws.length = ts.length
  | [], ws, h => by rw [worOs] at h; cases h; rfl
  | x :: r, ws, h => by
    rw [worOs] at h
    obtain ⟨y, hy, h⟩ := Option.bind_eq_some_iff.mp h
    obtain ⟨ys, hys, rfl⟩ := Option.map_eq_some_iff.mp h
    rw [List.length_cons, List.length_cons, worOs_len hys]
mutual
theorem wor_sm : ∀ (x : Tr) (w : W), x.Sz → worO x = some w → w.toT.Sm
  | .word q, w, h, e => by
    rw [worO] at e
    split at e
    · cases e; trivial
    · cases e
  | .txt q, w, h, e => by
    rw [worO] at e
    cases e
    rw [Tr.Sz] at h
    show (⟨q.toArray⟩ : Str).length ≤ 100000
    rw [← str_len]
    exact h
  | .lst ts, w, h, e => by
    rw [worO] at e
    obtain ⟨ws, hws, rfl⟩ := Option.map_eq_some_iff.mp e
    rw [Tr.Sz] at h
    exact ⟨by rw [toTs_len, worOs_len hws]; exact h.1, wors_sm ts ws h.2 hws⟩
theorem wors_sm : ∀ (ts : List Tr) (ws : List W), TrSzs ts → worOs ts = some ws → Sms (toTs ws)
  | [], ws, _, e => by rw [worOs] at e; cases e; trivial
  | x :: r, ws, h, e => by
    rw [worOs] at e
    obtain ⟨y, hy, e⟩ := Option.bind_eq_some_iff.mp e
    obtain ⟨ys, hys, rfl⟩ := Option.map_eq_some_iff.mp e
    rw [TrSzs] at h
    exact ⟨wor_sm x y h.1 hy, wors_sm r ys h.2 hys⟩
end
/-! ### how great the trees of a text are -/
def Pc.Sz : Pc → Prop
  | .txt q => q.length ≤ 100000
  | .word q => q.length ≤ 100000
  | _ => True
theorem SpellO.sz {r : List Nat} {o : Option (List Pc)} (h : SpellO r o) : r.length ≤ 100000 → ∀ ps, o = some ps → ∀ p ∈ ps, p.Sz := by
  induction h with
  | nil => intro _ ps e p hp; cases e; simp at hp
  | gap _ _ ih => intro hl; rw [List.length_cons] at hl; exact ih (by omega)
  | op _ ih =>
    intro hl ps e p hp; rw [List.length_cons] at hl
    obtain ⟨l, rfl, rfl⟩ := Option.map_eq_some_iff.mp e
    rcases List.mem_cons.mp hp with rfl | hp
    · trivial
    · exact ih (by omega) l rfl p hp
  | cl _ ih =>
    intro hl ps e p hp; rw [List.length_cons] at hl
    obtain ⟨l, rfl, rfl⟩ := Option.map_eq_some_iff.mp e
    rcases List.mem_cons.mp hp with rfl | hp
    · trivial
    · exact ih (by omega) l rfl p hp
  | txt _ _ ih =>
    intro hl ps e p hp; simp only [List.length_cons, List.length_append] at hl
    obtain ⟨l, rfl, rfl⟩ := Option.map_eq_some_iff.mp e
    rcases List.mem_cons.mp hp with rfl | hp
    · show _ ≤ _; omega
    · exact ih (by omega) l rfl p hp
  | bad _ => intro _ ps e; cases e
  | word _ _ _ _ ih =>
    intro hl ps e p hp; simp only [List.length_cons, List.length_append] at hl
    obtain ⟨l, rfl, rfl⟩ := Option.map_eq_some_iff.mp e
    rcases List.mem_cons.mp hp with rfl | hp
    · show _ ≤ _; rw [List.length_cons]; omega
    · exact ih (by omega) l rfl p hp
def StG : List (List Tr) → Prop
  | [] => True
  | t :: rest => (∀ x ∈ t, x.Sz ∧ x.deep + (rest.length + 1) ≤ 100) ∧ StG rest
theorem deeps_le : ∀ {ts : List Tr} {m : Nat}, (∀ x ∈ ts, x.deep ≤ m) → deeps ts ≤ m
  | [], m, _ => by rw [deeps]; omega
  | x :: r, m, h => by
    have h1 := h x (by simp)
    have h2 := deeps_le (ts := r) fun y hy => h y (List.mem_cons_of_mem _ hy)
    rw [deeps]; omega
theorem deeps_mem : ∀ {ts : List Tr} (x : Tr), x ∈ ts → x.deep ≤ deeps ts
  | [], x, h => by simp at h
  | y :: r, x, h => by
    rw [deeps]
    rcases List.mem_cons.mp h with rfl | h
    · omega
    · have := deeps_mem x h; omega
theorem run_G : ∀ (ps : List Pc) (st st' : List (List Tr)), (∀ p ∈ ps, p.Sz) → StG st → st.length ≤ 100 → wide st + ps.length ≤ 100000 → run ps st = some st' → StG st'
  | [], st, st', _, g, _, _, h => by rw [run] at h; cases h; exact g
  | .op :: ps, st, st', hp, g, hl, hw, h => by
    rw [run] at h
    split at h
    · rename_i hlt
      rw [List.length_cons] at hw
      exact run_G ps ([] :: st) st' (fun p hp' => hp p (List.mem_cons_of_mem _ hp')) ⟨fun x hx => by simp at hx, g⟩ (by rw [List.length_cons]; omega) (by simp only [wide, List.map_cons, List.sum_cons, List.length_nil] at hw ⊢; omega) h
    · cases h
  | .cl :: ps, st, st', hp, g, hl, hw, h => by
    match st with
    | [] => simp [run] at h
    | [t] => simp [run] at h
    | t :: u :: rest =>
      rw [run] at h
      obtain ⟨g1, g2, g3⟩ := g
      simp only [List.length_cons] at hl hw g1
      simp only [wide, List.map_cons, List.sum_cons] at hw
      refine run_G ps ((u ++ [.lst t]) :: rest) st' (fun p hp' => hp p (List.mem_cons_of_mem _ hp')) ⟨fun x hx => ?_, g3⟩ (by rw [List.length_cons]; omega) (by simp only [wide, List.map_cons, List.sum_cons, List.length_append, List.length_singleton] at hw ⊢; omega) h
      rcases List.mem_append.mp hx with hx | hx
      · exact g2 x hx
      · rw [List.mem_singleton.mp hx]
        refine ⟨?_, ?_⟩
        · rw [Tr.Sz]
          exact ⟨by omega, TrSzs_mk fun y hy => (g1 y hy).1⟩
        · rw [Tr.deep]
          have : deeps t ≤ 100 - (rest.length + 1 + 1) := deeps_le fun y hy => by have := (g1 y hy).2; omega
          omega
  | .txt q :: ps, st, st', hp, g, hl, hw, h => by
    match st with
    | [] => simp [run] at h
    | t :: rest =>
      rw [run] at h
      obtain ⟨g1, g3⟩ := g
      simp only [List.length_cons] at hl hw
      refine run_G ps ((t ++ [.txt q]) :: rest) st' (fun p hp' => hp p (List.mem_cons_of_mem _ hp')) ⟨fun x hx => ?_, g3⟩ (by rw [List.length_cons]; omega) (by simp only [wide, List.map_cons, List.sum_cons, List.length_append, List.length_singleton] at hw ⊢; omega) h
      rcases List.mem_append.mp hx with hx | hx
      · exact g1 x hx
      · rw [List.mem_singleton.mp hx, Tr.Sz, Tr.deep]
        exact ⟨hp (.txt q) (by simp), by omega⟩
  | .word q :: ps, st, st', hp, g, hl, hw, h => by
    match st with
    | [] => simp [run] at h
    | t :: rest =>
      rw [run] at h
      obtain ⟨g1, g3⟩ := g
      simp only [List.length_cons] at hl hw
      refine run_G ps ((t ++ [.word q]) :: rest) st' (fun p hp' => hp p (List.mem_cons_of_mem _ hp')) ⟨fun x hx => ?_, g3⟩ (by rw [List.length_cons]; omega) (by simp only [wide, List.map_cons, List.sum_cons, List.length_append, List.length_singleton] at hw ⊢; omega) h
      rcases List.mem_append.mp hx with hx | hx
      · exact g1 x hx
      · rw [List.mem_singleton.mp hx, Tr.Sz, Tr.deep]
        exact ⟨hp (.word q) (by simp), by omega⟩
theorem tree_G {t : List Nat} {O : Option (List Pc)} {x : Tr} (h : SpellO t O) (hl : t.length ≤ 100000) (e : (O.bind trsO).bind oneO = some x) : x.Sz ∧ x.deep < 100 := by
  obtain ⟨ts, h1, h2⟩ := Option.bind_eq_some_iff.mp e
  obtain ⟨ps, rfl, h3⟩ := Option.bind_eq_some_iff.mp h1
  unfold trsO at h3
  split at h3
  · rename_i ts' hr
    cases h3
    have hps := h.len ps rfl
    have := run_G ps [[]] [ts] (h.sz hl ps rfl) ⟨fun x hx => (by simp at hx), trivial⟩ (by simp) (by simp [wide]; omega) hr
    unfold oneO at h2
    split at h2
    · cases h2
      have := this.1 x (by simp)
      exact ⟨this.1, by have := this.2; simp at this; omega⟩
    · cases h2
  · cases h3
def readO (O : Option (List Pc)) : Option W := (((O.bind trsO).bind oneO).bind worO).bind fun w => if isWorthB w.toT = true then some w else none
def spWTree (AN : Addr) (n : Nat) : Sp := fun vs H Q E => ∃ (v : V) (x : Tr), vs = [v] ∧ RTr H v x ∧ x.Sz ∧ x.deep < n ∧ (∀ w, worO x = some w → ∀ (u : V) (H' : Hp), Same H H' → RW H' u w → Q u H') ∧ (worO x = none → ∀ H', Same H H' → E (.ref AN) none H')
def spRead (AN : Addr) : Sp := fun vs H Q E => ∃ (t : Str) (O : Option (List Pc)), vs = [.str t] ∧ SpellO t.cps.toList O ∧ t.length ≤ 100000 ∧ (∀ w, readO O = some w → ∀ (u : V) (H' : Hp), Same H H' → RW H' u w → Q u H') ∧ (readO O = none → ∀ H', Same H H' → E (.ref AN) none H')
theorem dWL : decide (V.str (Str.ofString "word") = V.str (Str.ofString "list")) = false := by decide +kernel
theorem dTL : decide (V.str (Str.ofString "text") = V.str (Str.ofString "list")) = false := by decide +kernel
theorem dWT : decide (V.str (Str.ofString "word") = V.str (Str.ofString "text")) = false := by decide +kernel
section
variable {P : Program} {w : World} {K : PySem.W.Frag} {mg : Str → Option Value} {base : Heap} {f : Addr} {fd : FuncData} {k : Nat} {ANoText : Addr}
theorem sc_worth_of_tree : FnScope ["tree"] ["tree"] (defScope s_worth_of_tree) := ⟨rfl, rfl, rfl, by decide +kernel, rfl, by decide +kernel, by decide +kernel⟩
theorem ok_worth_of_tree {n : Nat} (F : Fun K "worth_of_tree" "worth_of_tree" s_worth_of_tree f fd) (G_number_of : HaveX P w K mg base "number_of" k ["word"] (spNumOf ANoText)) (G_worth_of_tree : HaveX P w K mg base "worth_of_tree" k ["tree"] (spWTree ANoText n)) (m_tuple : mg "tuple" = none) : FnOk P w K mg base (CX1 P w) (k + 1) f fd ["tree"] (spWTree ANoText (n + 1)) := by
  refine F.okX sc_worth_of_tree (fun vs H Q E h => ?_) (fun cdv A outer s H vs Q E hr h => ?_)
  · obtain ⟨v, x, rfl, _⟩ := h
    rfl
  obtain ⟨v, x, rfl, rt, sz, hd, q, qe⟩ := h
  refine ⟨_, (pss_cons (ps_if (pt_cmpR op_eq (pe_ix ix_tup (pv 0) pe_int (fun _ _ => rfl)) pe_str (nomark _)) (pss_one (ps_ret (pe_callTy call_tuple_of rfl m_tuple boot_tupleT (pa_cons (pe_lcompX [] [] rfl rfl (by decide +kernel) rfl (by decide +kernel) rfl (by decide +kernel) trivial rfl trivial (pi_tup (pe_ix ix_tup (pv 0) pe_int (fun _ _ => rfl))) (fun C s H fp hI => ⟨pifs_nil, (pe_fnX G_worth_of_tree hr (letsC letsF rfl ⟨_, rfl⟩ hI) rfl (pa_cons (pv 0) pa_nil))⟩)) pa_nil)))) pss_nil)
    (pss_cons (ps_if (pt_cmpR op_eq (pe_ix ix_tup (pv 0) pe_int (fun _ _ => rfl)) pe_str (nomark _)) (pss_one (ps_ret (pe_ix ix_tup (pv 0) pe_int (fun _ _ => rfl)))) pss_nil)
    (pss_one (ps_ret (pe_fnX G_number_of hr letsF rfl (pa_cons (pe_ix ix_tup (pv 0) pe_int (fun _ _ => rfl)) pa_nil)))))), ?_⟩
  cases rt with
  | @word a z e =>
    rw [Tr.Sz] at sz
    refine ⟨_, rfl, a, _, 0, _, rfl, rfl, SqT.of e, rfl, rfl, _, rfl, ?_⟩
    rw [dWL]
    refine iteF ⟨_, rfl, a, _, 0, _, rfl, rfl, SqT.of e, rfl, rfl, _, rfl, ?_⟩
    rw [dWT]
    rw [worO] at q qe
    refine iteF ⟨_, rfl, a, _, 1, _, rfl, rfl, SqT.of e, rfl, _, rfl, by rw [← str_len]; exact sz, fun hb H1 s1 => q _ (by rw [if_pos hb]) _ _ s1 (.num _), fun hb H1 s1 => qe (by rw [if_neg (by rw [show numB z = false from hb]; decide)]) _ s1⟩
  | @txt a z e =>
    refine ⟨_, rfl, a, _, 0, _, rfl, rfl, SqT.of e, rfl, rfl, _, rfl, ?_⟩
    rw [dTL]
    refine iteF ⟨_, rfl, a, _, 0, _, rfl, rfl, SqT.of e, rfl, rfl, _, rfl, ?_⟩
    rw [decide_eq_true rfl]
    exact iteT ⟨_, rfl, a, _, 1, _, rfl, rfl, SqT.of e, rfl, q _ (by rw [worO]) _ _ (Same.refl _) (.txt _)⟩
  | @lst a b vs ts e e2 l at' =>
    rw [Tr.Sz] at sz
    refine ⟨_, rfl, a, _, 0, _, rfl, rfl, SqT.of e, rfl, rfl, _, rfl, ?_⟩
    rw [decide_eq_true rfl]
    refine iteT ?_
    have hd2 : 1 + deeps ts < n + 1 := by rw [Tr.deep] at hd; omega
    rw [worO] at q qe
    dsimp only [tRet, tCB, tCons, tNil]
    refine rd_mapTP (a := b) (vs := vs) (fun i us H1 => ∃ ws, worOs (ts.take i) = some ws ∧ RWs H1 us ws ∧ i ≤ ts.length) (fun R h => ⟨_, rfl, a, _, 1, _, rfl, rfl, SqT.of e, rfl, h⟩) (SqT.of e2) (small (by omega)) ⟨[], by rw [List.take_zero, worOs], ⟨rfl, fun i v w e => by simp at e⟩, Nat.zero_le _⟩ (fun i us H1 h => by obtain ⟨ws, h1, h2, h3⟩ := h; rw [h2.len, worOs_len h1, List.length_take]; omega) (fun i v us H1 R hv h s1 hR => ?_) (fun us H1 D h s1 hD => ?_)
    · obtain ⟨ws, h1, h2, h3⟩ := h
      have hi : i < ts.length := by rw [← l]; exact (List.getElem?_eq_some_iff.mp hv).1
      have hw : ts[i]? = some ts[i] := List.getElem?_eq_getElem hi
      have hm := List.mem_of_getElem? hw
      have hdm : ts[i].deep ≤ deeps ts := deeps_mem ts[i] hm
      refine ⟨_, rfl, v, ts[i], rfl, (at' i v ts[i] hv hw).mono (same_tups s1), TrSzs_mem sz.2 _ hm, by omega, fun w hwo u H2 s2 ru => hR u H2 s2 ⟨ws ++ [w], ?_, (h2.mono (same_tups s2)).snoc ru, hi⟩, fun hno H2 s2 => qe (by rw [worOs_none hm hno]; rfl) _ (s1.trans s2)⟩
      rw [take_snoc hw]
      exact worOs_snoc h1 hwo
    · obtain ⟨ws, h1, h2, h3⟩ := h
      rw [l, List.take_length] at h1
      refine ⟨D, us, rfl, .inl ⟨SqL.of upd_same, fun t ht => ?_⟩⟩
      have s2 := (Same.new (o := .lst us) hD).trans (Same.new (o := .tup us) ht)
      exact q _ (by rw [h1]; rfl) _ _ (s1.trans s2) (.lst upd_same h2.len fun i v w x y => (h2.at' i v w x y).mono (same_tups s2))
theorem sc_read_worth : FnScope ["text", "worth"] ["text"] (defScope s_read_worth) := ⟨rfl, rfl, rfl, by decide +kernel, rfl, by decide +kernel, by decide +kernel⟩
theorem ok_read_worth (F : Fun K "read_worth" "read_worth" s_read_worth f fd) (G_is_worth : Have P w K mg base "is_worth" k ["thing"] (spIsWorth)) (G_worth_of_tree : HaveX P w K mg base "worth_of_tree" k ["tree"] (spWTree ANoText 102)) (G_only_tree : HaveX P w K mg base "only_tree" k ["text"] (spOnly ANoText)) (x_NoText : PySem.W.excIn K ANoText vErr "ValueError.__new__" = true) (c_NoText : mg "NoText" = some (.ref ANoText)) : FnOk P w K mg base (CX1 P w) (k + 1) f fd ["text"] (spRead ANoText) := by
  refine F.okX sc_read_worth (fun vs H Q E h => ?_) (fun cdv A outer s H vs Q E hr h => ?_)
  · obtain ⟨t, O, rfl, _⟩ := h
    rfl
  obtain ⟨t, O, rfl, hs, hz, q, qe⟩ := h
  refine ⟨_, (pss_cons (ps_set (i := 1) sc_read_worth.nd rfl (Or.inl rfl) (pe_fnX G_worth_of_tree hr letsF rfl (pa_cons (pe_fnX G_only_tree hr letsF rfl (pa_cons (pv 0) pa_nil)) pa_nil)))
    (pss_cons (ps_if (pt_not (pt_val (pe_fn G_is_worth hr rfl (pa_cons (pv 1) pa_nil)))) (pss_one (ps_raise letsF rfl x_NoText c_NoText rfl (pa_cons pe_str pa_nil))) pss_nil)
    (pss_one (ps_ret (pv 1))))), ?_⟩
  refine ⟨_, rfl, t, O, rfl, hs, hz, fun x hx v H1 s1 rt => ?_, fun hn H1 s1 => qe (by unfold readO; rw [hn]; rfl) _ s1⟩
  have hg := tree_G hs (by rw [str_len]; exact hz) hx
  have hr : readO O = (worO x).bind fun w => if isWorthB w.toT = true then some w else none := by unfold readO; rw [hx]; rfl
  rw [hr] at q qe
  refine ⟨v, x, rfl, rt, hg.1, by omega, fun w hw u H2 s2 ru => ?_, fun hn H2 s2 => qe (by rw [hn]; rfl) _ (s1.trans s2)⟩
  rw [hw] at q qe
  refine ⟨_, rfl, u, w.toT, rfl, ru.toRT, wor_sm x w hg.1 hw, fun H3 s3 => ⟨_, rfl, ?_⟩⟩
  have s13 := (s1.trans s2).trans s3
  cases hb : isWorthB w.toT with
  | true => exact iteF ⟨_, rfl, q w (by show (if isWorthB w.toT = true then _ else _) = _; rw [if_pos hb]) u H3 s13 (ru.mono (same_tups s3))⟩
  | false => exact iteT ⟨(by show 1 ≤ sizeLine; decide), qe (by show (if isWorthB w.toT = true then _ else _) = _; rw [if_neg (by rw [hb]; decide)]) _ s13⟩
end
end D

set_option Elab.async false
set_option linter.all false
set_option maxRecDepth 100000
set_option maxHeartbeats 1000000
namespace L2
open PySem PySem.Spec PyProof.Rows
/-- text * k, just so -/
theorem op_repM {X : Cx} : OpR X (binaryOp .Mult) (fun x y H Q => ∃ (z : Str) (k : Int), x = .str z ∧ y = .int k ∧ z.length ≤ 1000 ∧ 1 ≤ k ∧ k < 1000 ∧ Q (.str (PySem.Txt.mul z k)) H) := by
  intro pins s σ H x y v u Q I rx ry h
  obtain ⟨z, k, rfl, rfl, hz, hk1, hk2, q⟩ := h
  obtain ⟨t, rfl⟩ := rx
  obtain ⟨t', rfl⟩ := ry
  have hmul : z.length * k.toNat ≤ 1000000 := Nat.le_trans (Nat.mul_le_mul hz (show k.toNat ≤ 1000 by omega)) (by decide)
  have hok : MulOk z k := by
    refine ⟨?_, fun _ _ => ?_, fun _ _ => ?_⟩
    · have e1 : decide (k < -(2 ^ 63 : Int)) = false := decide_eq_false (by omega)
      have e2 : decide (k ≥ 2 ^ 63) = false := decide_eq_false (by omega)
      rw [e1, e2]; rfl
    · have : (1000000 : Int) ≤ (2 ^ 63 - 1) / k := by
        rw [Int.le_ediv_iff_mul_le (by omega)]
        omega
      omega
    · have hs : (1000000 : Nat) ≤ sizeLine := by decide
      show decide (z.length * k.toNat > sizeLine) = false
      exact decide_eq_false (by omega)
  exact PySem.SB.mul hok fun t' tk => ⟨.str _, H, I.tok tk, ⟨_, rfl⟩, q⟩
end L2
namespace D
open PySem L2
/-! ### expressions that come to a text of a bounded length -/
def YS (te : TE) (σ : St) (n : Nat) : Prop := ∀ (H : Hp) (Q : VK), (∀ z : Str, z.length ≤ n → Q (.str z) H) → te σ H Q
def YSs (ta : TA) (σ : St) (k n : Nat) : Prop := ∀ (H : Hp) (Q : List V → Hp → Prop), (∀ zs : List Str, zs.length = k → (∀ z ∈ zs, z.length ≤ n) → Q (zs.map V.str) H) → ta σ H Q
theorem ys_c {σ : St} {n : Nat} {z : Str} (h : z.length ≤ n) : YS (tC (.str z)) σ n := fun H Q q => q z h
theorem ys_var {σ : St} {n i : Nat} {z : Str} (e : σ[i]? = some (some (.str z))) (h : z.length ≤ n) : YS (tVar i) σ n := fun H Q q => ⟨_, e, q z h⟩
theorem ys_add {σ : St} {n a b : Nat} {x y : TE} (h : YS x σ a) (g : YS y σ b) (e : a + b ≤ n) (hn : n ≤ 1000000) : YS (tOp (fun x y H Q => ∃ i j, x = .str i ∧ y = .str j ∧ i.length + j.length ≤ sizeLine ∧ Q (.str (i ++ j)) H) x y) σ n := fun H Q q =>
  h H _ fun z hz => g H _ fun w hw => ⟨z, w, rfl, rfl, small (by omega), q _ (by rw [str_app_len]; omega)⟩
theorem ys_rep {σ : St} {n : Nat} {z : Str} {k : Int} (h1 : z.length ≤ 1000) (h2 : 1 ≤ k) (h3 : k < 1000) (h4 : z.length * k.toNat ≤ n) : YS (tOp (fun x y H Q => ∃ (z : Str) (k : Int), x = .str z ∧ y = .int k ∧ z.length ≤ 1000 ∧ 1 ≤ k ∧ k < 1000 ∧ Q (.str (PySem.Txt.mul z k)) H) (tC (.str z)) (tC (.int k))) σ n := fun H Q q =>
  ⟨z, k, rfl, rfl, h1, h2, h3, q _ (by
    have e := PyProof.Rows.len_mul z k
    rw [if_neg (by rw [decide_eq_true_iff]; omega)] at e
    obtain ⟨m, rfl⟩ := Int.eq_ofNat_of_zero_le (show 0 ≤ k by omega)
    have : ((z.length * m : Nat) : Int) = (z.length : Int) * (m : Int) := by rw [Int.natCast_mul]
    have h5 : z.length * m ≤ n := h4
    omega)⟩
theorem YS.run {te : TE} {σ : St} {n : Nat} {H : Hp} {Q : VK} (h : YS te σ n) (q : ∀ z : Str, z.length ≤ n → Q (.str z) H) : te σ H Q := h H Q q
theorem YSs.run {ta : TA} {σ : St} {k n : Nat} {H : Hp} {Q : List V → Hp → Prop} (h : YSs ta σ k n) (q : ∀ zs : List Str, zs.length = k → (∀ z ∈ zs, z.length ≤ n) → Q (zs.map V.str) H) : ta σ H Q := h H Q q
theorem Step.ofSame' {b : Addr} {H H' : Hp} (hb : IsBox H b) (s : Same H H') : Step b H H' := by
  obtain ⟨x, y, z, e⟩ := hb
  exact ⟨⟨x, y, z, s _ _ e⟩, fun c o _ e => s _ _ e⟩
theorem IsBox.ne {H : Hp} {b p : Addr} (hb : IsBox H b) (hp : H p = none) : p ≠ b := fun z => by
  obtain ⟨x, y, w, e⟩ := hb
  rw [← z, hp] at e
  cases e
theorem yss_nil {σ : St} {n : Nat} : YSs tNil σ 0 n := fun H Q q => q [] rfl fun z hz => by simp at hz
theorem yss_cons {σ : St} {n k : Nat} {te : TE} {ta : TA} (h : YS te σ n) (g : YSs ta σ k n) : YSs (tCons te ta) σ (k + 1) n := fun H Q q =>
  h H _ fun z hz => g H _ fun zs hl hzs => q (z :: zs) (by rw [List.length_cons, hl]) fun y hy => by
    rcases List.mem_cons.mp hy with rfl | hy
    · exact hz
    · exact hzs y hy
mutual
theorem wok_fits : ∀ (w : W) (lv : Int), fitsB w.toT lv = true → w.Ok ∧ (w.depth : Int) ≤ max lv 0
  | .num i, lv, h => ⟨of_decide_eq_true (p := -(10 ^ 60) < i ∧ i < 10 ^ 60) h, by show ((0 : Nat) : Int) ≤ _; omega⟩
  | .txt x, lv, h => by
    have h : (decide (x.length ≤ 400) && okSigns x) = true := h
    rw [Bool.and_eq_true, decide_eq_true_eq] at h
    refine ⟨⟨h.1, fun c hc => ?_⟩, by show ((0 : Nat) : Int) ≤ _; omega⟩
    have := List.all_eq_true.mp h.2 c hc
    simp only [signB, Bool.and_eq_true, decide_eq_true_eq] at this
    exact ⟨this.1, this.2.1, this.2.2.1, this.2.2.2⟩
  | .lst ws, lv, h => by
    have h : (decide ((toTs ws).length ≤ 60) && decide (0 < lv) && fitsA (toTs ws) (lv - 1)) = true := h
    rw [Bool.and_eq_true, Bool.and_eq_true, decide_eq_true_eq, decide_eq_true_eq, toTs_len] at h
    have := wok_fitss ws (lv - 1) h.2
    refine ⟨⟨h.1.1, this.1⟩, ?_⟩
    show ((1 + depths ws : Nat) : Int) ≤ _
    omega
theorem wok_fitss : ∀ (ws : List W) (lv : Int), fitsA (toTs ws) lv = true → Oks ws ∧ (depths ws : Int) ≤ max lv 0
  | [], lv, _ => ⟨trivial, by show ((0 : Nat) : Int) ≤ _; omega⟩
  | w :: r, lv, h => by
    have h : (fitsB w.toT lv && fitsA (toTs r) lv) = true := h
    rw [Bool.and_eq_true] at h
    have h1 := wok_fits w lv h.1
    have h2 := wok_fitss r lv h.2
    refine ⟨⟨h1.1, h2.1⟩, ?_⟩
    show ((max w.depth (depths r) : Nat) : Int) ≤ _
    omega
end
def spAlike (n : Nat) : Sp := fun vs H Q _ => ∃ (u v : V) (w : W), vs = [u, v] ∧ RW H u w ∧ RW H v w ∧ w.Ok ∧ w.depth < n ∧ ∀ H', Same H H' → Q (.bl true) H'
def spBad : Sp := fun vs H Q _ => ∃ b : Addr, vs = [.ref b] ∧ IsBox H b ∧ ∀ (x : Str) (H' : Hp), x.length ≤ 2000 → Step b H H' → Q (.str x) H'
def spSpoilt : Sp := fun vs H Q _ => ∃ (z : Str) (b : Addr), vs = [.str z, .ref b] ∧ IsBox H b ∧ z.length ≤ 30000 ∧ ∀ (x : Str) (H' : Hp), x.length ≤ 70000 → Step b H H' → Q (.str x) H'
section
variable {P : Program} {w : World} {K : PySem.W.Frag} {mg : Str → Option Value} {base : Heap} {f : Addr} {fd : FuncData} {k : Nat}
theorem sc_lalike : FnScope ["_law_found", "_law_due_here"] ["_law_found", "_law_due_here"] (defScope s_lalike) := ⟨rfl, rfl, rfl, by decide +kernel, rfl, by decide +kernel, by decide +kernel⟩
theorem ok_lalike {n : Nat} (F : Fun K "_law_alike" "_law_alike" s_lalike f fd) (G_lalike : Have P w K mg base "_law_alike" k ["_law_found", "_law_due_here"] (spAlike n)) (m_all : mg "all" = none) (m_bool : mg "bool" = none) (m_int : mg "int" = none) (m_isi : mg "isinstance" = none) (m_len : mg "len" = none) (m_range : mg "range" = none) (m_str : mg "str" = none) (m_tuple : mg "tuple" = none) : FnOk P w K mg base CX0 (k + 1) f fd ["_law_found", "_law_due_here"] (spAlike (n + 1)) := by
  refine F.okQ sc_lalike (fun vs H Q E h => ?_) (fun cdv A outer s H vs Q E hr h => ?_)
  · obtain ⟨u, v, x, rfl, _⟩ := h
    rfl
  obtain ⟨u, v, x, rfl, rx, ry, ok, hd, q⟩ := h
  refine ⟨_, (pss_cons (ps_if (pt_val (pe_callB call_isi rfl m_isi boot_isi (pa_cons (pv 1) (pa_cons (pe_ty rfl m_tuple boot_tupleT) pa_nil)))) (pss_cons (ps_if (PW.pt (pw_or (pt_not (pt_val (pe_callB call_isi rfl m_isi boot_isi (pa_cons (pv 0) (pa_cons (pe_ty rfl m_tuple boot_tupleT) pa_nil))))) (pw_or1 (pt_cmpR op_ne (pe_callB call_len rfl m_len PySem.boot_len (pa_cons (pv 0) pa_nil)) (pe_callB call_len rfl m_len PySem.boot_len (pa_cons (pv 1) pa_nil)) (nomark _))))) (pss_one (ps_ret pe_bl)) pss_nil)
    (pss_one (ps_ret (pe_callB (call_all_bools rfl) rfl m_all boot_allB (pa_cons (pe_lcomp [0, 1] ["_law_found", "_law_due_here"] rfl rfl (by decide +kernel) rfl (by decide +kernel) rfl (by decide +kernel) ⟨rfl, rfl, trivial⟩ rfl ⟨⟨rfl, rfl, Or.inr (Or.inl rfl), (by show (some NameKind.cell : Option NameKind) ≠ some .local; decide), ⟨_, rfl⟩⟩, ⟨rfl, rfl, Or.inr (Or.inl rfl), (by show (some NameKind.cell : Option NameKind) ≠ some .local; decide), ⟨_, rfl⟩⟩, trivial⟩ (pi_range1 rfl m_range (pa_cons (pe_callB call_len rfl m_len PySem.boot_len (pa_cons (pv 1) pa_nil)) pa_nil)) (fun C s H fp => ⟨pifs_nil, (pe_fn G_lalike hr rfl (pa_cons (pe_ix (show IxR _ (rIxT K) from ix_tup) (pv 1) (pv 0) (fun _ _ => rfl)) (pa_cons (pe_ix (show IxR _ (rIxT K) from ix_tup) (pv 2) (pv 0) (fun _ _ => rfl)) pa_nil)))⟩)) pa_nil))))) pss_nil)
    (pss_cons (ps_if (pt_val (pe_callB call_isi rfl m_isi boot_isi (pa_cons (pv 1) (pa_cons (pe_ty rfl m_str boot_strT) pa_nil)))) (pss_one (ps_ret (pe_and (pe_callB call_isi rfl m_isi boot_isi (pa_cons (pv 0) (pa_cons (pe_ty rfl m_str boot_strT) pa_nil))) (pe_one (pe_cmpR op_eq (pv 0) (pv 1) (nomark _)))))) pss_nil)
    (pss_one (ps_ret (pe_and (pe_callB call_isi rfl m_isi boot_isi (pa_cons (pv 0) (pa_cons (pe_ty rfl m_int boot_intT) pa_nil))) (pe_and (pe_not (pe_callB call_isi rfl m_isi boot_isi (pa_cons (pv 0) (pa_cons (pe_ty rfl m_bool boot_boolT) pa_nil)))) (pe_one (pe_cmpR op_eq (pv 0) (pv 1) (nomark _))))))))), ?_⟩
  have q0 : ∀ b : Bool, true = b → Q (.bl b) H := fun b e => by rw [← e]; exact q H (Same.refl H)
  cases ry with
  | num j =>
    cases rx
    refine ⟨_, rfl, _, _, _, _, rfl, .int j, isi_it, _, rfl, iteF ⟨_, rfl, _, _, _, _, rfl, .int j, isi_is, _, rfl, iteF ?_⟩⟩
    refine ⟨_, rfl, _, _, _, _, rfl, .int j, isi_ii, _, rfl, iteT ⟨_, rfl, _, _, _, _, rfl, .int j, isi_ib, _, rfl, _, rfl, iteT ⟨_, rfl, _, rfl, rfl, q0 _ ?_⟩⟩⟩
    exact (decide_eq_true rfl).symm
  | txt z =>
    cases rx
    refine ⟨_, rfl, _, _, _, _, rfl, .str z, isi_st, _, rfl, iteF ⟨_, rfl, _, _, _, _, rfl, .str z, isi_ss, _, rfl, iteT ?_⟩⟩
    refine ⟨_, rfl, _, _, _, _, rfl, .str z, isi_ss, _, rfl, iteT ⟨_, rfl, _, rfl, rfl, q0 _ ?_⟩⟩
    exact (decide_eq_true rfl).symm
  | @lst b us ws e2 l2 at2 =>
    cases rx with
    | @lst a vs _ e l at1 =>
    refine ⟨_, rfl, _, _, _, _, rfl, .tup e2, isi_tt, _, rfl, iteT ?_⟩
    refine ⟨_, rfl, _, _, _, _, rfl, .tup e, isi_tt, _, rfl, iteF ?_⟩
    refine ⟨_, rfl, _, _, rfl, .inr ⟨_, SqT.of e, rfl⟩, _, rfl, _, _, rfl, .inr ⟨_, SqT.of e2, rfl⟩, rfl, _, rfl, ?_⟩
    have hlen : vs.length = us.length := by omega
    rw [hlen]
    refine ite2 (fun c => ?_) (fun c => ?_)
    · have c1 : (!decide (V.int ((us.length : Nat) : Int) = V.int ((us.length : Nat) : Int))) = true := c
      rw [decide_eq_true rfl] at c1
      cases c1
    dsimp only [tNext, tRet, tOp, tC, tCB, tCons, tNil]
    have hl60 : ws.length ≤ 60 := ok.1
    refine rd_mapR (List.replicate us.length (V.bl true)) (fun R hR => ?_) (by rw [List.length_replicate]; omega) (fun i y H1 R hy s1 hR => ?_) (fun H1 D s1 hD => ?_)
    · refine ⟨_, rfl, _, _, rfl, .inr ⟨_, SqT.of e2, rfl⟩, ?_⟩
      rw [List.length_replicate] at hR
      exact hR
    · have hi : i < us.length := by
        have := (List.getElem?_eq_some_iff.mp hy).1
        rw [List.length_replicate] at this
        exact this
      rw [List.getElem?_replicate, if_pos hi] at hy
      cases hy
      have k1 : vs[i]? = some vs[i] := List.getElem?_eq_getElem (by omega)
      have k2 : us[i]? = some us[i] := List.getElem?_eq_getElem (by omega)
      have m2 : ws[i]? = some ws[i] := List.getElem?_eq_getElem (by omega)
      have a1 : atI vs (0 + (i : Int)) = some vs[i] := by rw [Int.zero_add]; exact atI_nat k1
      have a2 : atI us (0 + (i : Int)) = some us[i] := by rw [Int.zero_add]; exact atI_nat k2
      have hm := List.mem_of_getElem? m2
      have hdm := depths_mem ws[i] hm
      have hd' : 1 + depths ws < n + 1 := hd
      refine ⟨_, rfl, _, rfl, a, vs, _, _, rfl, rfl, SqT.of (s1 _ _ e), a1, _, rfl, _, rfl, b, us, _, _, rfl, rfl, SqT.of (s1 _ _ e2), a2, ?_⟩
      exact ⟨vs[i], us[i], ws[i], rfl, (at1 i _ _ k1 m2).mono (same_tups s1), (at2 i _ _ k2 m2).mono (same_tups s1), Oks_mem ok.2 _ hm, by omega, fun H2 s2 => hR H2 s2⟩
    · refine ⟨D, List.replicate us.length true, rfl, SqL.of ?_, ?_⟩
      · rw [upd_same, List.map_replicate]
      · have := q _ (s1.trans (Same.new (o := .lst (List.replicate us.length (V.bl true))) hD))
        have e3 : (List.replicate us.length true).all id = true := by
          rw [List.all_eq_true]
          intro z hz
          rw [(List.mem_replicate.mp hz).2]
          rfl
        rw [e3]
        exact this
theorem sc_lspoilt : FnScope ["_law_text_here", "_law_box_here", "_law_at", "_law_turn"] ["_law_text_here", "_law_box_here"] (defScope s_lspoilt) := ⟨rfl, rfl, rfl, by decide +kernel, rfl, by decide +kernel, by decide +kernel⟩
theorem ok_lspoilt (F : Fun K "_law_spoilt" "_law_spoilt" s_lspoilt f fd) (G_lbad : Have P w K mg base "_law_bad" k ["_law_box_here"] (spBad)) (G_ltake : Have P w K mg base "_law_take" k ["_law_box_here", "_law_wide"] (spTake)) (m_len : mg "len" = none) : FnOk P w K mg base CX0 (k + 1) f fd ["_law_text_here", "_law_box_here"] (spSpoilt) := by
  refine F.okQ sc_lspoilt (fun vs H Q E h => ?_) (fun cdv A outer s H vs Q E hr h => ?_)
  · obtain ⟨z, b, rfl, _⟩ := h
    rfl
  obtain ⟨z, b, rfl, hb, hz, q⟩ := h
  refine ⟨_, (pss_cons (ps_set (i := 2) sc_lspoilt.nd rfl (Or.inl rfl) (pe_fn G_ltake hr rfl (pa_cons (pv 1) (pa_cons (pe_op op_add (pe_callB call_len rfl m_len PySem.boot_len (pa_cons (pv 0) pa_nil)) pe_int) pa_nil))))
    (pss_cons (ps_set (i := 3) sc_lspoilt.nd rfl (Or.inl rfl) (pe_fn G_ltake hr rfl (pa_cons (pv 1) (pa_cons pe_int pa_nil))))
    (pss_cons (ps_if (pt_cmpR op_eq (pv 3) pe_int (nomark _)) (pss_one (ps_ret (pe_op op_add_str (pe_slice sl_strX (pv 0) po_none (po_some (pv 2))) (pe_slice sl_strX (pv 0) (po_some (pe_op op_add (pv 2) pe_int)) po_none)))) pss_nil)
    (pss_cons (ps_if (pt_cmpR op_eq (pv 3) pe_int (nomark _)) (pss_one (ps_ret (pe_op op_add_str (pe_op op_add_str (pe_slice sl_strX (pv 0) po_none (po_some (pv 2))) (pe_fn G_lbad hr rfl (pa_cons (pv 1) pa_nil))) (pe_slice sl_strX (pv 0) (po_some (pv 2)) po_none)))) pss_nil)
    (pss_cons (ps_if (pt_cmpR op_eq (pv 3) pe_int (nomark _)) (pss_one (ps_ret (pe_op op_add_str (pe_op op_add_str (pe_slice sl_strX (pv 0) po_none (po_some (pv 2))) (pe_ix ix_str pe_str (pe_fn G_ltake hr rfl (pa_cons (pv 1) (pa_cons pe_int pa_nil))) (fun _ _ => rfl))) (pe_slice sl_strX (pv 0) (po_some (pv 2)) po_none)))) pss_nil)
    (pss_one (ps_ret (pe_fn G_lbad hr rfl (pa_cons (pv 1) pa_nil))))))))), ?_⟩
  refine ⟨_, rfl, _, rfl, _, _, rfl, ⟨small (by omega), rfl⟩, _, _, rfl, rfl, b, _, rfl, hb, by omega, by omega, fun m H1 m0 m1 st1 => ?_⟩
  dsimp only [gName]
  refine ⟨_, rfl, b, 4, rfl, st1.box, by decide, by decide, fun k H2 k0 k1 st2 => ?_⟩
  dsimp only [gName]
  have stA := st1.trans st2
  have sl : ∀ a b, (Txt.slice z a b).length ≤ 30000 := fun a b => Nat.le_trans (Txt.slice_le z a b) hz
  refine ⟨_, rfl, rfl, _, rfl, ite2 (fun e => ?_) (fun e => ?_)⟩
  · have h1 := sl none (some m)
    have h2 := sl (some (m + 1)) none
    exact ⟨_, rfl, _, rfl, _, rfl, z, rfl, by omega, _, rfl, _, rfl, _, _, rfl, rfl, _, rfl, z, rfl, by omega, _, _, rfl, rfl, small (by omega), q _ _ (by rw [str_app_len]; omega) stA⟩
  have h1 := sl none (some m)
  have h2 := sl (some m) none
  refine ⟨_, rfl, rfl, _, rfl, ite2 (fun e => ?_) (fun e => ?_)⟩
  · refine ⟨_, rfl, _, rfl, _, rfl, z, rfl, by omega, _, rfl, b, rfl, stA.box, fun x H3 hx st3 => ⟨_, _, rfl, rfl, small (by omega), ?_⟩⟩
    exact ⟨_, rfl, _, rfl, _, rfl, z, rfl, by omega, _, _, rfl, rfl, small (by rw [str_app_len]; omega), q _ _ (by rw [str_app_len, str_app_len]; omega) (stA.trans st3)⟩
  refine ⟨_, rfl, rfl, _, rfl, ite2 (fun e => ?_) (fun e => ?_)⟩
  · refine ⟨_, rfl, _, rfl, _, rfl, z, rfl, by omega, _, rfl, b, 7, rfl, stA.box, by decide, by decide, fun j H3 j0 j1 st3 => ?_⟩
    obtain ⟨c, hc⟩ : ∃ c, atI (Str.ofString "()\" \n-\t").cps.toList j = some c := by
      have hl : (Str.ofString "()\" \n-\t").cps.toList.length = 7 := by decide +kernel
      have hj : j.toNat < (Str.ofString "()\" \n-\t").cps.toList.length := by rw [hl]; omega
      have := atI_nat (List.getElem?_eq_getElem hj)
      rw [show ((j.toNat : Nat) : Int) = j by omega] at this
      exact ⟨_, this⟩
    have l1 : (⟨#[c]⟩ : Str).length = 1 := rfl
    refine ⟨_, j, c, rfl, rfl, small (by decide +kernel), hc, _, _, rfl, rfl, small (by rw [l1]; omega), ?_⟩
    exact ⟨_, rfl, _, rfl, _, rfl, z, rfl, by omega, _, _, rfl, rfl, small (by rw [str_app_len, l1]; omega), q _ _ (by rw [str_app_len, str_app_len, l1]; omega) (stA.trans st3)⟩
  exact ⟨_, rfl, b, rfl, stA.box, fun x H3 hx st3 => q x H3 (by omega) (stA.trans st3)⟩
end
end D

set_option Elab.async false
set_option linter.all false
set_option maxRecDepth 100000
set_option maxHeartbeats 1000000
namespace L2
open PySem PySem.Spec PyProof.Rows
/-- a comprehension that keeps some of a list's items -/
theorem rd_filtL {K : PySem.W.Frag} {fr : List Nat} {tl te : TE} {tt : TT} {σ : St} {H : Hp} {Q : VK} {a : Addr} {vs : List V} (f : V → Bool) (hσ : ∀ R : VK, R (.ref a) H → tl σ H R) (hS : SqL K H a vs) (hz : vs.length ≤ sizeLine)
    (ht : ∀ v (R : Bool → Hp → Prop), v ∈ vs → R (f v) H → tt (some v :: frees fr σ) H R) (he : ∀ v (R : VK), v ∈ vs → R v H → te (some v :: frees fr σ) H R)
    (fin : ∀ D : Addr, H D = none → Q (.ref D) (upd H D (.lst (vs.filter f)))) : tLComp fr (iList K tl) tt te σ H Q := by
  refine hσ _ ⟨a, rfl, ⟨vs, hS⟩, fun i m us H1 => i ≤ vs.length ∧ m = vs.length - i ∧ us = (vs.take i).filter f ∧ H1 = H, ⟨_, Nat.zero_le _, rfl, rfl, rfl⟩, fun i m us H1 hW => ?_⟩
  obtain ⟨hi, hm, rfl, rfl⟩ := hW
  refine ⟨Nat.le_trans (List.length_filter_le _ _) (by rw [List.length_take]; omega), ?_⟩
  by_cases hlt : i < vs.length
  · refine .inr ⟨⟨vs, vs[i], hS, List.getElem?_eq_getElem hlt⟩, fun v H' hy => ?_⟩
    obtain ⟨rfl, hv⟩ := hy
    have hv := hv vs hS
    have hmem := List.mem_of_getElem? hv
    refine ht v _ hmem ?_
    cases hf : f v with
    | true => exact iteT (he v _ hmem ⟨vs.length - (i + 1), by omega, by omega, rfl, by rw [take_snoc hv, List.filter_append, List.filter_cons_of_pos hf]; rfl, rfl⟩)
    | false => exact iteF ⟨vs.length - (i + 1), by omega, by omega, rfl, by rw [take_snoc hv, List.filter_append, List.filter_cons_of_neg (by rw [hf]; decide)]; simp, rfl⟩
  · have e : i = vs.length := by omega
    refine .inl ⟨⟨vs, hS, by omega⟩, fun D hD => ?_⟩
    rw [e, List.take_length]
    exact fin D hD
theorem for_str {z : Str} {g : TG} {tb : TS} {D : Ends} {σ : St} {H : Hp} (Pv : Nat → St → Hp → Prop) (h0 : Pv 0 σ H)
    (hs : ∀ i c σ H, z.cps[i]? = some c → Pv i σ H → g (.str ⟨#[c]⟩) σ H fun σ2 H2 => tb { D with nx := Pv (i + 1), ct := Pv (i + 1), bk := D.nx } σ2 H2) (hd : ∀ σ H, Pv z.cps.size σ H → D.nx σ H) :
    ∃ W : Nat → Nat → St → Hp → Prop, (∃ m, W 0 m σ H) ∧ ∀ i m σ H, W i m σ H →
      ((Its z).stop i H ∧ D.nx σ H) ∨ ((Its z).go i H ∧ ∃ N : St → Hp → Prop, (∀ σ' H', N σ' H' → ∃ m', m' < m ∧ W (i + 1) m' σ' H') ∧ ∀ x H', (Its z).yld i H x H' → g x σ H' fun σ2 H2 => tb { D with nx := N, ct := N, bk := D.nx } σ2 H2) := by
  refine ⟨fun i m σ H => m = z.cps.size - i ∧ i ≤ z.cps.size ∧ Pv i σ H, ⟨z.cps.size, by simp, Nat.zero_le _, h0⟩, ?_⟩
  rintro i m σ H ⟨rfl, hi, p⟩
  by_cases hlt : i < z.cps.size
  · refine .inr ⟨hlt, Pv (i + 1), fun σ' H' p' => ⟨z.cps.size - (i + 1), by omega, rfl, hlt, p'⟩, fun x H' y => ?_⟩
    obtain ⟨e, c, hc, rfl⟩ := y
    subst e
    exact hs i c σ _ hc p
  · have e : i = z.cps.size := by omega
    subst e
    exact .inl ⟨rfl, hd σ H p⟩
end L2
namespace D
open PySem L2
/-! ### the pieces, sign by sign; the last one first -/
def tkV (q : List Nat) : V := .str ⟨q.toArray⟩
def tagB (c : Nat) : Bool := c == 40 || (c == 41 || (c == 34 || c == 32))
def openB : List (List Nat) → Bool
  | (d :: _) :: _ => !tagB d
  | _ => false
def ext1 (rs : List (List Nat)) (c : Nat) : List (List Nat) := match rs with
  | l :: r => (l ++ [c]) :: r
  | [] => []
def pst (s : List (List Nat) × Bool) (c : Nat) : List (List Nat) × Bool :=
  if s.2 = true then (ext1 s.1 c, !decide (c = 34))
  else if c = 40 ∨ c = 41 ∨ c = 34 then ([c] :: s.1, decide (c = 34))
  else if c = 32 ∨ c = 10 then ([32] :: s.1, false)
  else if openB s.1 = true then (ext1 s.1 c, false) else ([c] :: s.1, false)
def tokP : Pc → List Nat
  | .op => [40]
  | .cl => [41]
  | .txt q => 34 :: (q ++ [34])
  | .word q => q
def keepT (l : List Nat) : Bool := !decide (l = [32])
def toks (rs : List (List Nat)) : List (List Nat) := rs.reverse.filter keepT
theorem toks_cons (l : List Nat) (rs : List (List Nat)) : toks (l :: rs) = toks rs ++ [l].filter keepT := by unfold toks; rw [List.reverse_cons, List.filter_append]
theorem pst_quoted : ∀ (q l : List Nat) (r : List (List Nat)), (∀ c ∈ q, c ≠ 34) → q.foldl pst (l :: r, true) = ((l ++ q) :: r, true)
  | [], l, r, _ => by simp
  | c :: q, l, r, h => by
    have hc := h c (by simp)
    rw [List.foldl_cons, show pst (l :: r, true) c = ((l ++ [c]) :: r, true) by unfold pst; rw [if_pos rfl, decide_eq_false hc]; rfl, pst_quoted q _ r fun d hd => h d (List.mem_cons_of_mem _ hd)]
    simp
theorem notEnd {c : Nat} (h : isEnd c = false) : ¬ (c = 40 ∨ c = 41 ∨ c = 34) ∧ ¬ (c = 32 ∨ c = 10) := by
  simp only [isEnd, Bool.or_eq_false_iff, beq_eq_false_iff_ne] at h
  omega
theorem notTag {c : Nat} (h : isEnd c = false) : tagB c = false := by
  simp only [isEnd, Bool.or_eq_false_iff, beq_eq_false_iff_ne] at h
  simp only [tagB, Bool.or_eq_false_iff, beq_eq_false_iff_ne]
  omega
theorem pst_word : ∀ (q : List Nat) (d : Nat) (w : List Nat) (r : List (List Nat)), (∀ c ∈ q, isEnd c = false) → tagB d = false → q.foldl pst ((d :: w) :: r, false) = ((d :: (w ++ q)) :: r, false)
  | [], d, w, r, _, _ => by simp
  | c :: q, d, w, r, h, hd => by
    have hc := notEnd (h c (by simp))
    have e : pst ((d :: w) :: r, false) c = ((d :: (w ++ [c])) :: r, false) := by
      unfold pst
      rw [if_neg (by show ¬ false = true; decide), if_neg hc.1, if_neg hc.2, if_pos (by show (!tagB d) = true; rw [hd]; rfl)]
      rfl
    rw [List.foldl_cons, e, pst_word q d _ r (fun x hx => h x (List.mem_cons_of_mem _ hx)) hd]
    simp
theorem parted_ok {t : List Nat} {o : Option (List Pc)} (h : SpellO t o) : ∀ rs : List (List Nat), (openB rs = true → Cut t) → (∀ ps, o = some ps → ∃ rs', t.foldl pst (rs, false) = (rs', false) ∧ toks rs' = toks rs ++ ps.map tokP) ∧ (o = none → ∃ rs', t.foldl pst (rs, false) = (rs', true)) := by
  induction h with
  | nil => exact fun rs _ => ⟨fun ps e => (by cases e; exact ⟨rs, rfl, by simp⟩), fun e => (by cases e)⟩
  | @gap c r o hc _ ih =>
    intro rs _
    have e : pst (rs, false) c = ([32] :: rs, false) := by
      unfold pst
      rw [if_neg (by show ¬ false = true; decide), if_neg (by omega), if_pos hc]
    rw [List.foldl_cons, e]
    obtain ⟨h1, h2⟩ := ih ([32] :: rs) (fun z => by cases z)
    refine ⟨fun ps hp => ?_, h2⟩
    obtain ⟨rs', e1, e2⟩ := h1 ps hp
    exact ⟨rs', e1, by rw [e2, toks_cons]; simp [keepT]⟩
  | @op r o _ ih =>
    intro rs _
    have e : pst (rs, false) 40 = ([40] :: rs, false) := by unfold pst; rw [if_neg (by show ¬ false = true; decide), if_pos (by decide)]; rfl
    rw [List.foldl_cons, e]
    obtain ⟨h1, h2⟩ := ih ([40] :: rs) (fun z => by cases z)
    refine ⟨fun ps hp => ?_, fun hp => h2 (by cases o with | none => rfl | some x => cases hp)⟩
    obtain ⟨p, rfl, rfl⟩ := Option.map_eq_some_iff.mp hp
    obtain ⟨rs', e1, e2⟩ := h1 p rfl
    exact ⟨rs', e1, by rw [e2, toks_cons]; simp [keepT, tokP]⟩
  | @cl r o _ ih =>
    intro rs _
    have e : pst (rs, false) 41 = ([41] :: rs, false) := by unfold pst; rw [if_neg (by show ¬ false = true; decide), if_pos (by decide)]; rfl
    rw [List.foldl_cons, e]
    obtain ⟨h1, h2⟩ := ih ([41] :: rs) (fun z => by cases z)
    refine ⟨fun ps hp => ?_, fun hp => h2 (by cases o with | none => rfl | some x => cases hp)⟩
    obtain ⟨p, rfl, rfl⟩ := Option.map_eq_some_iff.mp hp
    obtain ⟨rs', e1, e2⟩ := h1 p rfl
    exact ⟨rs', e1, by rw [e2, toks_cons]; simp [keepT, tokP]⟩
  | @txt q r o hq _ ih =>
    intro rs _
    have e : pst (rs, false) 34 = ([34] :: rs, true) := by unfold pst; rw [if_neg (by show ¬ false = true; decide), if_pos (by decide)]; rfl
    have e2 : pst (([34] ++ q) :: rs, true) 34 = ((34 :: (q ++ [34])) :: rs, false) := by unfold pst; rw [if_pos rfl]; rfl
    rw [List.foldl_cons, e, List.foldl_append, pst_quoted q [34] rs hq, List.foldl_cons, e2]
    obtain ⟨h1, h2⟩ := ih ((34 :: (q ++ [34])) :: rs) (fun z => by cases z)
    refine ⟨fun ps hp => ?_, fun hp => h2 (by cases o with | none => rfl | some x => cases hp)⟩
    obtain ⟨p, rfl, rfl⟩ := Option.map_eq_some_iff.mp hp
    obtain ⟨rs', e1, e2⟩ := h1 p rfl
    exact ⟨rs', e1, by rw [e2, toks_cons]; simp [keepT, tokP]⟩
  | @bad q hq =>
    intro rs _
    have e : pst (rs, false) 34 = ([34] :: rs, true) := by unfold pst; rw [if_neg (by show ¬ false = true; decide), if_pos (by decide)]; rfl
    rw [List.foldl_cons, e, pst_quoted q [34] rs hq]
    exact ⟨fun ps hp => (by cases hp), fun _ => ⟨_, rfl⟩⟩
  | @word c q r o hc hq hr _ ih =>
    intro rs ho
    have hne := notEnd hc
    have hno : openB rs = false := by
      cases z : openB rs with
      | false => rfl
      | true => have := ho z c _ rfl; rw [hc] at this; cases this
    have e : pst (rs, false) c = ([c] :: rs, false) := by
      unfold pst
      rw [if_neg (by show ¬ false = true; decide), if_neg hne.1, if_neg hne.2, if_neg (by show ¬ openB rs = true; rw [hno]; decide)]
    rw [List.foldl_cons, e, List.foldl_append, pst_word q c [] rs hq (notTag hc)]
    obtain ⟨h1, h2⟩ := ih ((c :: ([] ++ q)) :: rs) (fun _ => hr)
    refine ⟨fun ps hp => ?_, fun hp => h2 (by cases o with | none => rfl | some x => cases hp)⟩
    obtain ⟨p, rfl, rfl⟩ := Option.map_eq_some_iff.mp hp
    obtain ⟨rs', e1, e2⟩ := h1 p rfl
    refine ⟨rs', e1, ?_⟩
    rw [e2, toks_cons]
    have : keepT (c :: ([] ++ q)) = true := by
      unfold keepT
      rw [decide_eq_false (fun z => hne.2 (.inl (by injection z)))]
      rfl
    rw [List.filter_cons_of_pos this]
    simp [tokP]
def spParted : Sp := fun vs H Q _ => ∃ (t : Str) (O : Option (List Pc)), vs = [.str t] ∧ SpellO t.cps.toList O ∧ t.length ≤ 100000 ∧ (O = none → ∀ H', Same H H' → Q .non H') ∧ (∀ ps, O = some ps → ∀ (p : Addr) (H' : Hp), Same H H' → H' p = some (.lst (ps.map fun x => tkV (tokP x))) → Q (.ref p) H')
/-- what the tokens so far are -/
structure PtI (t : Str) (i : Nat) (rs : List (List Nat)) (qd : Bool) : Prop where
  fold : (t.cps.toList.take i).foldl pst ([], false) = (rs, qd)
  ne : ∀ l ∈ rs, l ≠ []
  nz : qd = true → rs ≠ []
  cnt : rs.length ≤ i
  len : ∀ l ∈ rs, l.length ≤ i
theorem PtI.next {t : Str} {i c : Nat} {rs : List (List Nat)} {qd : Bool} (h : PtI t i rs qd) (hc : t.cps.toList[i]? = some c) : PtI t (i + 1) (pst (rs, qd) c).1 (pst (rs, qd) c).2 := by
  have e1 : ∀ l ∈ ext1 rs c, l ≠ [] ∧ l.length ≤ i + 1 := fun l hl => by
    cases rs with
    | nil => simp [ext1] at hl
    | cons x r =>
      rcases List.mem_cons.mp hl with rfl | hl
      · exact ⟨by simp, by have := h.len x (by simp); simp; omega⟩
      · exact ⟨h.ne l (List.mem_cons_of_mem _ hl), by have := h.len l (List.mem_cons_of_mem _ hl); omega⟩
  have e2 : (ext1 rs c).length ≤ i + 1 := by
    have := h.cnt
    cases rs with
    | nil => simp [ext1]
    | cons x r => simp [ext1] at this ⊢; omega
  have e3 : ∀ x, ∀ l ∈ [x] :: rs, l ≠ [] ∧ l.length ≤ i + 1 := fun x l hl => by
    rcases List.mem_cons.mp hl with rfl | hl
    · exact ⟨by simp, by simp⟩
    · exact ⟨h.ne l hl, by have := h.len l hl; omega⟩
  have e4 : ∀ x : List Nat, (x :: rs).length ≤ i + 1 := fun x => by have := h.cnt; simp; omega
  have ef : (t.cps.toList.take (i + 1)).foldl pst ([], false) = pst (rs, qd) c := by rw [take_snoc hc, List.foldl_append, h.fold]; rfl
  refine ⟨ef, ?_, ?_, ?_, ?_⟩ <;> unfold pst
  · intro l hl
    split at hl
    · exact (e1 l hl).1
    · split at hl
      · exact (e3 c l hl).1
      · split at hl
        · exact (e3 32 l hl).1
        · split at hl
          · exact (e1 l hl).1
          · exact (e3 c l hl).1
  · split
    · rename_i hq
      intro _
      have := h.nz hq
      cases rs with
      | nil => exact absurd rfl this
      | cons x r => simp [ext1]
    · split
      · intro _; simp
      · split
        · intro z; cases z
        · split <;> (intro z; cases z)
  · split
    · exact e2
    · split
      · exact e4 _
      · split
        · exact e4 _
        · split
          · exact e2
          · exact e4 _
  · intro l hl
    split at hl
    · exact (e1 l hl).2
    · split at hl
      · exact (e3 c l hl).2
      · split at hl
        · exact (e3 32 l hl).2
        · split at hl
          · exact (e1 l hl).2
          · exact (e3 c l hl).2
end D

set_option Elab.async false
set_option linter.all false
set_option maxRecDepth 100000
set_option maxHeartbeats 1000000
namespace D
open PySem L2
theorem tk_str (q : List Nat) (c : Nat) : (⟨q.toArray⟩ : Str) ++ (⟨#[c]⟩ : Str) = ⟨(q ++ [c]).toArray⟩ := by
  rw [strOf ((⟨q.toArray⟩ : Str) ++ (⟨#[c]⟩ : Str)), str_app]
theorem tk_len (q : List Nat) : (⟨q.toArray⟩ : Str).length = q.length := by rw [← str_len]
theorem ixN_last (n : Nat) : ixN (n + 1) (-1) = some n := by
  unfold ixN
  rw [if_neg (by omega), if_pos (by omega)]
  congr 1
  omega
theorem atI_top (l : List Nat) (rs : List (List Nat)) : atI ((l :: rs).reverse.map tkV) (-1) = some (tkV l) := by
  rw [List.reverse_cons, List.map_append]
  exact atI_last _ _
theorem set_top (l x : List Nat) (rs : List (List Nat)) : ((l :: rs).reverse.map tkV).set rs.length (tkV x) = (x :: rs).reverse.map tkV := by
  rw [List.reverse_cons, List.map_append, List.reverse_cons, List.map_append, List.set_append_right _ _ (by simp)]
  simp
theorem brq_in (c : Nat) : (!(Builtin.Str.occurrences (Str.ofString "()\"") ⟨#[c]⟩ 0 (Str.ofString "()\"").length 1).isEmpty) = decide (c = 40 ∨ c = 41 ∨ c = 34) := by
  rw [in_one, show (Str.ofString "()\"").cps.toList = [40, 41, 34] by decide +kernel, Bool.eq_iff_iff, decide_eq_true_iff, decide_eq_true_iff]
  simp
theorem tags_in (c : Nat) : (!(Builtin.Str.occurrences (Str.ofString "()\" ") ⟨#[c]⟩ 0 (Str.ofString "()\" ").length 1).isEmpty) = tagB c := by
  rw [in_one, show (Str.ofString "()\" ").cps.toList = [40, 41, 34, 32] by decide +kernel, Bool.eq_iff_iff, decide_eq_true_iff]
  simp [tagB]
theorem q_eq (c : Nat) : decide (V.str ⟨#[c]⟩ = V.str (Str.ofString "\"")) = decide (c = 34) := by
  rw [Bool.eq_iff_iff, decide_eq_true_iff, decide_eq_true_iff, quote_eq]
  constructor
  · intro h
    injection h with h
    injection h with h
    simpa using h
  · rintro rfl
    rfl
section
variable {P : Program} {w : World} {K : PySem.W.Frag} {mg : Str → Option Value} {base : Heap} {f : Addr} {fd : FuncData} {k : Nat}
theorem sc_lparted : FnScope ["_law_text_here", "_law_found", "_law_quoted", "_law_sign"] ["_law_text_here"] (defScope s_lparted) := ⟨rfl, rfl, rfl, by decide +kernel, rfl, by decide +kernel, by decide +kernel⟩
theorem ok_lparted (F : Fun K "_law_parted" "_law_parted" s_lparted f fd) (m_len : mg "len" = none) : FnOk P w K mg base CX0 (k + 1) f fd ["_law_text_here"] (spParted) := by
  refine F.okQ sc_lparted (fun vs H Q E h => ?_) (fun cdv A outer s H vs Q E hr h => ?_)
  · obtain ⟨t, O, rfl, _⟩ := h
    rfl
  obtain ⟨t, O, rfl, hs, hz, qn, qs⟩ := h
  refine ⟨_, (pss_cons (ps_set (i := 1) sc_lparted.nd rfl (Or.inl rfl) (pe_lst pa_nil))
    (pss_cons (ps_set (i := 2) sc_lparted.nd rfl (Or.inl rfl) pe_bl)
    (pss_cons (ps_for PassesOwn.never rfl (pi_str (pv 0)) (pg_name (i := 3) sc_lparted.nd rfl (Or.inl rfl)) (pss_one (ps_if (pt_val (pv 2)) (pss_cons (ps_asg (pe_op op_add_str (pe_ix ix_list (pv 1) (pe_un un_neg pe_int) (fun _ _ => rfl)) (pv 3)) (pg_sub (pv 1) (pe_un un_neg pe_int) set_list))
    (pss_one (ps_set (i := 2) sc_lparted.nd rfl (Or.inl rfl) (pe_cmpR op_ne (pv 3) pe_str (nomark _))))) (pss_one (ps_if (pt_cmpR op_in_str (pv 3) pe_str (by rfl)) (pss_cons (ps_expr (pe_bm PySem.F.plainAttrs_list PySem.F.slot_list_append PySem.F.type_list_append mt_append (pv 1) (pa_cons (pv 3) pa_nil)))
    (pss_one (ps_set (i := 2) sc_lparted.nd rfl (Or.inl rfl) (pe_cmpR op_eq (pv 3) pe_str (nomark _))))) (pss_one (ps_if (pt_cmpR op_in_str (pv 3) pe_str (by rfl)) (pss_one (ps_expr (pe_bm PySem.F.plainAttrs_list PySem.F.slot_list_append PySem.F.type_list_append mt_append (pv 1) (pa_cons pe_str pa_nil)))) (pss_one (ps_if (PW.pt (pw_and (pt_cmpR op_gt (pe_callB call_len rfl m_len PySem.boot_len (pa_cons (pv 1) pa_nil)) pe_int (nomark _)) (pw_and1 (pt_cmpR op_notin_str (pe_ix ix_str (pe_ix ix_list (pv 1) (pe_un un_neg pe_int) (fun _ _ => rfl)) pe_int (fun _ _ => rfl)) pe_str (by rfl))))) (pss_one (ps_asg (pe_op op_add_str (pe_ix ix_list (pv 1) (pe_un un_neg pe_int) (fun _ _ => rfl)) (pv 3)) (pg_sub (pv 1) (pe_un un_neg pe_int) set_list))) (pss_one (ps_expr (pe_bm PySem.F.plainAttrs_list PySem.F.slot_list_append PySem.F.type_list_append mt_append (pv 1) (pa_cons (pv 3) pa_nil)))))))))))))
    (pss_cons (ps_if (pt_val (pv 2)) (pss_one (ps_ret pe_non)) pss_nil)
    (pss_one (ps_ret (pe_lcomp [] [] rfl rfl (by decide +kernel) rfl (by decide +kernel) rfl (by decide +kernel) trivial rfl trivial (pi_list (pv 1)) (fun C s H fp => ⟨(pifs_one (pt_cmpR op_ne (pv 0) pe_str (nomark _))), (pv 0)⟩)))))))), ?_⟩
  refine ⟨(by show 0 ≤ sizeLine; decide), fun p hp => ?_⟩
  dsimp only [gName]
  refine seqI (fun σ' H' => σ' = [some (.str t), some (.ref p), some (.bl false), none] ∧ H' = upd H p (.lst [])) (fun σ' H' h => ?_) (fun tl => tl _ _ ⟨rfl, rfl⟩)
  obtain ⟨rfl, rfl⟩ := h
  refine seqI (fun σ' H' => ∃ (rs : List (List Nat)) (qd : Bool) (o3 : Option V), σ' = [some (.str t), some (.ref p), some (.bl qd), o3] ∧ H' p = some (.lst (rs.reverse.map tkV)) ∧ PtI t t.cps.size rs qd ∧ Same H H') (fun σ' H' h => ?_) (fun tl => ?_)
  rotate_left
  · refine ⟨_, rfl, t, rfl, for_str (z := t) (fun i σ' H' => ∃ (rs : List (List Nat)) (qd : Bool) (o3 : Option V), σ' = [some (.str t), some (.ref p), some (.bl qd), o3] ∧ H' p = some (.lst (rs.reverse.map tkV)) ∧ PtI t i rs qd ∧ Same H H') ⟨[], false, none, rfl, upd_same, ⟨by simp, (fun l hl => by simp at hl), (fun z => nomatch z), Nat.le_refl _, (fun l hl => by simp at hl)⟩, Same.new hp⟩ (fun i c σ' H' hc h => ?_) (fun σ' H' h => tl _ _ h)⟩
    obtain ⟨rs, qd, o3, rfl, ep, pt, s1⟩ := h
    have hc2 : t.cps.toList[i]? = some c := by simpa using hc
    have hi : i < t.length := by
      have := (List.getElem?_eq_some_iff.mp hc2).1
      rw [str_len] at this
      exact this
    have nx := pt.next hc2
    have hz1 : (1000000 : Nat) ≤ sizeLine := by decide
    have hrl : (rs.reverse.map tkV).length ≤ 100000 := by rw [List.length_map, List.length_reverse]; have := pt.cnt; omega
    have go : ∀ (rs' : List (List Nat)) (qd' : Bool) (o3 : Option V), pst (rs, qd) c = (rs', qd') → ∃ (rs : List (List Nat)) (qd : Bool) (o3' : Option V), [some (.str t), some (.ref p), some (.bl qd'), o3] = [some (.str t), some (.ref p), some (.bl qd), o3'] ∧ upd H' p (.lst (rs'.reverse.map tkV)) p = some (.lst (rs.reverse.map tkV)) ∧ PtI t (i + 1) rs qd ∧ Same H (upd H' p (.lst (rs'.reverse.map tkV))) := fun rs' qd' o3 e => by
      rw [e] at nx
      exact ⟨rs', qd', o3, rfl, upd_same, nx, same_put hp s1⟩
    dsimp only [gName]
    cases qd with
    | true =>
      cases rs with
      | nil => exact absurd rfl (pt.nz rfl)
      | cons l r =>
      have hll := pt.len l (by simp)
      refine ⟨_, rfl, _, rfl, iteT ⟨_, rfl, _, rfl, p, _, -1, _, rfl, rfl, SqL.of ep, atI_top l r, _, rfl, _, _, rfl, rfl, by rw [tk_len]; show _ + 1 ≤ _; omega, _, rfl, _, rfl, p, _, -1, r.length, rfl, rfl, ep, by rw [List.length_map, List.length_reverse, List.length_cons]; exact ixN_last _, ?_⟩⟩
      rw [tk_str, show V.str ⟨(l ++ [c]).toArray⟩ = tkV (l ++ [c]) from rfl, set_top]
      refine ⟨_, rfl, rfl, ?_⟩
      rw [q_eq]
      exact go _ _ _ (by unfold pst; rw [if_pos rfl]; rfl)
    | false =>
      refine ⟨_, rfl, _, rfl, iteF ⟨_, rfl, _, _, rfl, rfl, _, rfl, ?_⟩⟩
      rw [brq_in]
      by_cases h1 : c = 40 ∨ c = 41 ∨ c = 34
      · rw [decide_eq_true h1]
        refine iteT ⟨_, rfl, .inl ⟨rfl, _, SqL.of ep⟩, _, rfl, p, _, _, rfl, rfl, ep, by omega, ?_⟩
        refine ⟨_, rfl, rfl, ?_⟩
        rw [q_eq, show rs.reverse.map tkV ++ [V.str ⟨#[c]⟩] = ([c] :: rs).reverse.map tkV by rw [List.reverse_cons, List.map_append]; rfl]
        exact go _ _ _ (by unfold pst; rw [if_neg (by show ¬ false = true; decide), if_pos h1])
      rw [decide_eq_false h1]
      refine iteF ⟨_, rfl, _, _, rfl, rfl, _, rfl, ?_⟩
      rw [show Str.ofString " \n" = wGaps from rfl, in_one, gaps_in]
      by_cases h2 : c = 32 ∨ c = 10
      · rw [decide_eq_true h2]
        refine iteT ⟨_, rfl, .inl ⟨rfl, _, SqL.of ep⟩, p, _, _, rfl, rfl, ep, by omega, ?_⟩
        rw [show rs.reverse.map tkV ++ [V.str (Str.ofString " ")] = ([32] :: rs).reverse.map tkV by rw [List.reverse_cons, List.map_append, show Str.ofString " " = ⟨#[32]⟩ by decide +kernel]; rfl]
        exact go _ _ _ (by unfold pst; rw [if_neg (by show ¬ false = true; decide), if_neg h1, if_pos h2])
      rw [decide_eq_false h2]
      refine iteF ⟨_, rfl, _, _, rfl, .inl ⟨_, SqL.of ep, rfl⟩, _, _, rfl, rfl, _, rfl, ?_⟩
      have hp3 : pst (rs, false) c = if openB rs = true then (ext1 rs c, false) else ([c] :: rs, false) := by unfold pst; rw [if_neg (by show ¬ false = true; decide), if_neg h1, if_neg h2]
      have app : openB rs = false → ∀ o3, ∃ (rs_1 : List (List Nat)) (qd : Bool) (o3' : Option V), [some (.str t), some (.ref p), some (.bl false), o3] = [some (.str t), some (.ref p), some (.bl qd), o3'] ∧ upd H' p (.lst (rs.reverse.map tkV ++ [V.str ⟨#[c]⟩])) p = some (.lst (rs_1.reverse.map tkV)) ∧ PtI t (i + 1) rs_1 qd ∧ Same H (upd H' p (.lst (rs.reverse.map tkV ++ [V.str ⟨#[c]⟩]))) := fun ho o3 => by
        rw [show rs.reverse.map tkV ++ [V.str ⟨#[c]⟩] = ([c] :: rs).reverse.map tkV by rw [List.reverse_cons, List.map_append]; rfl]
        exact go _ _ _ (by rw [hp3, if_neg (by rw [ho]; decide)])
      cases rs with
      | nil => exact iteF (iteF ⟨_, rfl, .inl ⟨rfl, _, SqL.of ep⟩, _, rfl, p, _, _, rfl, rfl, ep, by omega, app rfl _⟩)
      | cons l r =>
      cases l with
      | nil => exact absurd rfl (pt.ne [] (by simp))
      | cons d l =>
      have hll := pt.len (d :: l) (by simp)
      rw [decide_eq_true (by rw [List.length_map, List.length_reverse, List.length_cons]; omega)]
      have hat : atI (⟨(d :: l).toArray⟩ : Str).cps.toList 0 = some d := atI_nat (j := 0) rfl
      refine iteT ⟨_, rfl, _, rfl, p, _, -1, _, rfl, rfl, SqL.of ep, atI_top (d :: l) r, ⟨(d :: l).toArray⟩, 0, d, rfl, rfl, small (by rw [tk_len]; omega), hat, _, _, rfl, rfl, _, rfl, ?_⟩
      rw [tags_in]
      cases htg : tagB d with
      | true => exact iteF ⟨_, rfl, .inl ⟨rfl, _, SqL.of ep⟩, _, rfl, p, _, _, rfl, rfl, ep, by omega, app (by show (!tagB d) = false; rw [htg]; rfl) _⟩
      | false =>
        refine iteT ⟨_, rfl, _, rfl, p, _, -1, _, rfl, rfl, SqL.of ep, atI_top (d :: l) r, _, rfl, _, _, rfl, rfl, by rw [tk_len]; show _ + 1 ≤ _; omega, _, rfl, _, rfl, p, _, -1, r.length, rfl, rfl, ep, by rw [List.length_map, List.length_reverse, List.length_cons]; exact ixN_last _, ?_⟩
        rw [tk_str, show V.str ⟨(d :: l ++ [c]).toArray⟩ = tkV (d :: l ++ [c]) from rfl, set_top]
        exact go _ _ _ (by rw [hp3, if_pos (by show (!tagB d) = true; rw [htg]; rfl)]; rfl)
  obtain ⟨rs, qd, o3, rfl, ep, pt, s1⟩ := h
  have hf := pt.fold
  rw [show t.cps.size = t.cps.toList.length by simp, List.take_length] at hf
  obtain ⟨k1, k2⟩ := parted_ok hs [] (fun z => nomatch z)
  cases qd with
  | true =>
    refine ⟨_, rfl, _, rfl, iteT (qn ?_ _ s1)⟩
    cases O with
    | none => rfl
    | some ps => obtain ⟨rs', e, _⟩ := k1 ps rfl; rw [hf] at e; cases e
  | false =>
    refine ⟨_, rfl, _, rfl, iteF ?_⟩
    cases O with
    | none => obtain ⟨rs', e⟩ := k2 rfl; rw [hf] at e; cases e
    | some ps =>
      obtain ⟨rs', e, e2⟩ := k1 ps rfl
      rw [hf] at e
      cases e
      have fk : ∀ l : List Nat, decide (V.str (Str.ofString " ") = tkV l) = decide (l = [32]) := fun l => by
        rw [Bool.eq_iff_iff, decide_eq_true_iff, decide_eq_true_iff, show Str.ofString " " = ⟨#[32]⟩ by decide +kernel]
        constructor
        · intro h
          have := congrArg Array.toList (congrArg Str.cps (V.str.inj h))
          simpa using this.symm
        · rintro rfl
          rfl
      dsimp only [tNext, tRet]
      have hcl : rs.reverse.length ≤ 100000 := by rw [List.length_reverse]; have h1 := pt.cnt; have h2 : t.cps.size = t.length := rfl; omega
      refine rd_filtL (fun v => !decide (v = V.str (Str.ofString " "))) (fun R h => ⟨_, rfl, h⟩) (SqL.of ep) (small (by rw [List.length_map]; omega)) (fun v R hv h => ?_) (fun v R hv h => ⟨_, rfl, h⟩) (fun D hD => ?_)
      · obtain ⟨l, hl, rfl⟩ := List.mem_map.mp hv
        exact ⟨_, rfl, rfl, _, rfl, h⟩
      · refine qs ps rfl D _ (s1.trans (Same.new hD)) ?_
        rw [upd_same, List.filter_map]
        have e3 : ((fun v => !decide (v = V.str (Str.ofString " "))) ∘ tkV) = keepT := by
          funext l
          show (!decide (tkV l = V.str (Str.ofString " "))) = keepT l
          unfold keepT
          rw [← fk l]
          congr 1
          rw [Bool.eq_iff_iff, decide_eq_true_iff, decide_eq_true_iff]
          exact eq_comm
        rw [e3]
        have e4 : rs.reverse.filter keepT = ps.map tokP := by
          have : toks [] = [] := rfl
          rw [this, List.nil_append] at e2
          exact e2
        rw [e4, List.map_map]
        rfl
end
end D

set_option Elab.async false
set_option linter.all false
set_option maxRecDepth 100000
set_option maxHeartbeats 1000000
namespace D
open PySem L2
def spFigs : Sp := fun vs H Q _ => ∃ q : List Nat, vs = [tkV q] ∧ q ≠ [] ∧ q.length ≤ 100000 ∧ (numB q = true → Q (.int (valI q)) H) ∧ (numB q = false → Q .non H)
section
variable {P : Program} {w : World} {K : PySem.W.Frag} {mg : Str → Option Value} {base : Heap} {f : Addr} {fd : FuncData} {k : Nat}
theorem sc_lfigures : FnScope ["_law_word", "_law_figures_here", "_law_sign"] ["_law_word"] (defScope s_lfigures) := ⟨rfl, rfl, rfl, by decide +kernel, rfl, by decide +kernel, by decide +kernel⟩
theorem ok_lfigures (F : Fun K "_law_figures" "_law_figures" s_lfigures f fd) (m_int : mg "int" = none) (m_len : mg "len" = none) : FnOk P w K mg base CX0 (k + 1) f fd ["_law_word"] (spFigs) := by
  refine F.okQ sc_lfigures (fun vs H Q E h => ?_) (fun cdv A outer s H vs Q E hr h => ?_)
  · obtain ⟨q, rfl, _⟩ := h
    rfl
  obtain ⟨q, rfl, hne, hl, qi, qn⟩ := h
  refine ⟨_, (pss_cons (ps_set (i := 1) sc_lfigures.nd rfl (Or.inl rfl) (pe_slice sl_strX (pv 0) (po_some (pe_callTy call_int1 rfl m_int boot_intT (pa_cons (pe_cmpR op_eq (pe_ix ix_str (pv 0) pe_int (fun _ _ => rfl)) pe_str (nomark _)) pa_nil))) po_none))
    (pss_cons (ps_for PassesOwn.never rfl (pi_str (pv 1)) (pg_name (i := 2) sc_lfigures.nd rfl (Or.inl rfl)) (pss_one (ps_if (pt_cmpR op_notin_str (pv 2) pe_str (by rfl)) (pss_one (ps_ret pe_non)) pss_nil)))
    (pss_cons (ps_if (PW.pt (pw_or (pt_cmpR op_eq (pv 1) pe_str (nomark _)) (pw_or (pt_cmpR op_gt (pe_callB call_len rfl m_len PySem.boot_len (pa_cons (pv 1) pa_nil)) pe_int (nomark _)) (pw_or1 (PW.pt (pw_and (pt_cmpR op_eq (pe_ix ix_str (pv 1) pe_int (fun _ _ => rfl)) pe_str (nomark _)) (pw_and1 (pt_cmpR op_ne (pv 0) pe_str (nomark _))))))))) (pss_one (ps_ret pe_non)) pss_nil)
    (pss_one (ps_ret (pe_callTy call_int_text rfl m_int boot_intT (pa_cons (pv 0) pa_nil))))))), ?_⟩
  obtain ⟨c, r, rfl⟩ : ∃ c r, q = c :: r := by
    cases q with
    | nil => exact absurd rfl hne
    | cons c r => exact ⟨c, r, rfl⟩
  have hat : atI (⟨(c :: r).toArray⟩ : Str).cps.toList 0 = some c := atI_nat (j := 0) rfl
  have hls : (⟨(c :: r).toArray⟩ : Str).length ≤ 100000 := by rw [tk_len]; exact hl
  refine seqI (fun σ' H' => ∃ y : Str, σ' = [some (tkV (c :: r)), some (.str y), none] ∧ H' = H ∧ y.cps.toList = figs (c :: r)) (fun σ' H' h => ?_) (fun tl => ?_)
  rotate_left
  · refine ⟨_, rfl, _, rfl, ⟨(c :: r).toArray⟩, 0, c, rfl, rfl, small (by omega), hat, rfl, .inr ⟨_, rfl, _, rfl, ⟨(c :: r).toArray⟩, rfl, by omega, tl _ _ ⟨_, rfl, rfl, ?_⟩⟩⟩
    have e45 : decide (V.str ⟨#[c]⟩ = V.str (Str.ofString "-")) = decide (c = 45) := by
      rw [Bool.eq_iff_iff, decide_eq_true_iff, decide_eq_true_iff, minus_eq]
      constructor
      · intro h
        injection h with h
        injection h with h
        simpa using h
      · rintro rfl
        rfl
    rw [e45]
    unfold figs
    by_cases hc : c = 45
    · rw [decide_eq_true hc, if_pos rfl, if_pos (by rw [hc]; rfl)]
      exact slice_sn (z := ⟨(c :: r).toArray⟩) (a := 1) (by rw [tk_len]; simp)
    · rw [decide_eq_false hc, if_neg (by decide), if_neg (fun z => hc (by simpa using z))]
      have := slice_sn (z := ⟨(c :: r).toArray⟩) (a := 0) (by omega)
      simpa using this
  obtain ⟨y, rfl, rfl, hy⟩ := h
  have hyl : y.length ≤ 100000 := by
    rw [← str_len, hy]
    unfold figs
    split
    · rw [List.length_drop]; omega
    · exact hl
  have hnb : numB (c :: r) = (decide (y.cps.toList ≠ []) && (decide (y.length ≤ 60) && (!(decide (y.cps.toList[0]? = some 48) && decide (c :: r ≠ [48])) && y.cps.toList.all isFig))) := by
    unfold numB
    rw [← hy, str_len]
  refine seqI (fun σ' H2 => ∃ o2, σ' = [some (tkV (c :: r)), some (.str y), o2] ∧ H2 = H' ∧ y.cps.toList.all isFig = true) (fun σ' H2 h => ?_) (fun tl => ?_)
  rotate_left
  · refine ⟨_, rfl, y, rfl, for_str (z := y) (fun i σ' H2 => ∃ o2, σ' = [some (tkV (c :: r)), some (.str y), o2] ∧ H2 = H' ∧ (y.cps.toList.take i).all isFig = true) ⟨none, rfl, rfl, rfl⟩ (fun i d σ' H2 hd h => ?_) (fun σ' H2 h => ?_)⟩
    · obtain ⟨o2, rfl, rfl, ha⟩ := h
      have hd2 : y.cps.toList[i]? = some d := by simpa using hd
      dsimp only [gName]
      refine ⟨_, rfl, _, _, rfl, rfl, _, rfl, ?_⟩
      rw [show Str.ofString "0123456789" = wFigs from rfl, in_one, fig_in]
      cases hf : (decide (48 ≤ d) && decide (d ≤ 57)) with
      | true => exact iteF ⟨_, rfl, rfl, by rw [take_snoc hd2, List.all_append, ha]; show (true && (isFig d && true)) = true; rw [show isFig d = true from hf]; rfl⟩
      | false =>
        refine iteT (qn ?_)
        rw [hnb]
        have : y.cps.toList.all isFig = false := by
          rw [List.all_eq_false]
          exact ⟨d, List.mem_of_getElem? hd2, by rw [show isFig d = false from hf]; decide⟩
        rw [this]
        simp
    · obtain ⟨o2, rfl, rfl, ha⟩ := h
      refine tl _ _ ⟨o2, rfl, rfl, ?_⟩
      rw [show y.cps.size = y.cps.toList.length by simp, List.take_length] at ha
      exact ha
  obtain ⟨o2, rfl, rfl, ha⟩ := h
  rw [ha] at hnb
  have no : numB (c :: r) = false → Q .non H2 := qn
  refine ⟨_, rfl, rfl, _, rfl, ?_⟩
  by_cases h1 : y.cps.toList = []
  · rw [decide_eq_true (by rw [strOf y, h1]; rfl)]
    exact iteT (iteT (no (by rw [hnb, h1]; rfl)))
  rw [decide_eq_false (fun z => h1 (by injection z with z; rw [z]; decide +kernel))]
  rw [decide_eq_true h1, Bool.true_and] at hnb
  refine iteF ⟨_, rfl, _, _, rfl, ⟨small (by omega), rfl⟩, _, _, rfl, rfl, _, rfl, ?_⟩
  by_cases h2 : y.length ≤ 60
  rotate_left
  · rw [decide_eq_true (by omega)]
    exact iteT (iteT (no (by rw [hnb, decide_eq_false h2]; rfl)))
  rw [decide_eq_false (by omega)]
  rw [decide_eq_true h2, Bool.true_and] at hnb
  obtain ⟨d, s', hds⟩ : ∃ d s', y.cps.toList = d :: s' := by
    cases e : y.cps.toList with
    | nil => exact absurd e h1
    | cons d s' => exact ⟨d, s', rfl⟩
  have haty : atI y.cps.toList 0 = some d := by rw [hds]; exact atI_nat (j := 0) rfl
  rw [show y.cps.toList[0]? = some d by rw [hds]; rfl, show decide ((some d : Option Nat) = some 48) = decide (d = 48) by simp, Bool.and_true] at hnb
  have e48 : decide (V.str ⟨#[d]⟩ = V.str (Str.ofString "0")) = decide (d = 48) := by
    rw [Bool.eq_iff_iff, decide_eq_true_iff, decide_eq_true_iff, nought_eq]
    constructor
    · intro h
      injection h with h
      injection h with h
      simpa using h
    · rintro rfl
      rfl
  have ex48 : decide (tkV (c :: r) = V.str (Str.ofString "0")) = decide (c :: r = [48]) := by
    rw [Bool.eq_iff_iff, decide_eq_true_iff, decide_eq_true_iff, nought_eq]
    constructor
    · intro h
      have := congrArg Array.toList (congrArg Str.cps (V.str.inj h))
      simpa using this
    · intro h
      rw [h]
      rfl
  refine iteF ⟨_, rfl, y, 0, d, rfl, rfl, small (by omega), haty, rfl, _, rfl, ?_⟩
  rw [e48]
  by_cases hd : d = 48
  · rw [decide_eq_true hd] at hnb ⊢
    refine iteT ⟨_, rfl, rfl, _, rfl, ?_⟩
    rw [ex48]
    by_cases hx : c :: r = [48]
    · rw [decide_eq_true hx]
      rw [decide_eq_false (by rw [Decidable.not_not]; exact hx)] at hnb
      have hb : numB (c :: r) = true := by rw [hnb]; rfl
      obtain ⟨n0, n1, n2⟩ := numB_num hb
      exact iteF ⟨_, rfl, ⟨(c :: r).toArray⟩, _, rfl, numC_int n0 n1 n2, (by rw [tk_len, n0]; have := numC_len n1 n2; omega), qi hb⟩
    · rw [decide_eq_false hx]
      exact iteT (no (by rw [hnb, decide_eq_true hx]; rfl))
  · rw [decide_eq_false hd] at hnb ⊢
    have hb : numB (c :: r) = true := by rw [hnb]; rfl
    obtain ⟨n0, n1, n2⟩ := numB_num hb
    exact iteF (iteF ⟨_, rfl, ⟨(c :: r).toArray⟩, _, rfl, numC_int n0 n1 n2, (by rw [tk_len, n0]; have := numC_len n1 n2; omega), qi hb⟩)
end
end D

set_option Elab.async false
set_option linter.all false
set_option maxRecDepth 100000
set_option maxHeartbeats 1000000
namespace D
open PySem L2
/-! ### pieces gone through to worths at once -/
def runW : List Pc → List (List W) → Option (List (List W))
  | [], st => some st
  | .op :: ps, st => runW ps ([] :: st)
  | .cl :: ps, t :: u :: rest => runW ps ((u ++ [.lst t]) :: rest)
  | .cl :: _, _ => none
  | .txt q :: ps, t :: rest => runW ps ((t ++ [.txt ⟨q.toArray⟩]) :: rest)
  | .txt _ :: _, [] => none
  | .word q :: ps, t :: rest => if numB q = true then runW ps ((t ++ [.num (valI q)]) :: rest) else none
  | .word _ :: _, [] => none
def stW : List (List Tr) → Option (List (List W))
  | [] => some []
  | t :: r => (worOs t).bind fun w => (stW r).map (w :: ·)
theorem worOs_app : ∀ (u : List Tr) (x : Tr), worOs (u ++ [x]) = (worOs u).bind fun b => (worO x).map fun w => b ++ [w]
  | [], x => by
    rw [List.nil_append, worOs, worOs]
    cases worO x <;> rfl
  | y :: u, x => by
    rw [List.cons_append, worOs, worOs_app u x, worOs]
    cases worO y <;> cases worOs u <;> cases worO x <;> rfl
theorem run_W : ∀ (ps : List Pc) (st st' : List (List Tr)), run ps st = some st' → (stW st).bind (runW ps) = stW st'
  | [], st, st', h => by
    rw [run] at h
    cases h
    cases stW st <;> rfl
  | .op :: ps, st, st', h => by
    rw [run] at h
    split at h
    · rw [← run_W ps ([] :: st) st' h, stW, worOs]
      cases stW st <;> rfl
    · cases h
  | .cl :: ps, st, st', h => by
    match st with
    | [] => simp [run] at h
    | [t] => simp [run] at h
    | t :: u :: rest =>
      rw [run] at h
      rw [← run_W ps _ st' h, stW, stW, stW, worOs_app, worO]
      cases worOs t <;> cases worOs u <;> cases stW rest <;> rfl
  | .txt q :: ps, st, st', h => by
    match st with
    | [] => simp [run] at h
    | t :: rest =>
      rw [run] at h
      rw [← run_W ps _ st' h, stW, stW, worOs_app, worO]
      cases worOs t <;> cases stW rest <;> rfl
  | .word q :: ps, st, st', h => by
    match st with
    | [] => simp [run] at h
    | t :: rest =>
      rw [run] at h
      rw [← run_W ps _ st' h, stW, stW, worOs_app, worO]
      cases worOs t <;> cases stW rest <;> cases hb : numB q <;> simp [runW, hb]
def HiX (L : Nat) : List (List W) → Prop
  | [] => False
  | t :: rest => (∃ x ∈ t, L ≤ x.depth + (rest.length + 1)) ∨ HiX L rest
theorem depth_lst {x : W} {t : List W} (h : x ∈ t) : x.depth + 1 ≤ (W.lst t).depth := by
  have := depths_mem x h
  show _ ≤ 1 + depths t
  omega
theorem hi_W (L : Nat) : ∀ (ps : List Pc) (S S' : List (List W)), runW ps S = some S' → (L ≤ S.length ∨ HiX L S) → L ≤ S'.length ∨ HiX L S'
  | [], S, S', h, hh => by rw [runW] at h; cases h; exact hh
  | .op :: ps, S, S', h, hh => by
    rw [runW] at h
    exact hi_W L ps _ S' h (hh.imp (fun z => by rw [List.length_cons]; omega) (fun z => .inr z))
  | .cl :: ps, S, S', h, hh => by
    match S with
    | [] => simp [runW] at h
    | [t] => simp [runW] at h
    | t :: u :: rest =>
      rw [runW] at h
      refine hi_W L ps _ S' h ?_
      have h1 : 1 ≤ (W.lst t).depth := by show 1 ≤ 1 + depths t; omega
      rcases hh with hh | hh
      · simp only [List.length_cons] at hh
        by_cases z : L ≤ rest.length + 1
        · exact .inl (by rw [List.length_cons]; exact z)
        · exact .inr (.inl ⟨.lst t, by simp, by omega⟩)
      · rcases hh with ⟨x, hx, hl⟩ | ⟨x, hx, hl⟩ | hh
        · have := depth_lst hx
          simp only [List.length_cons] at hl
          exact .inr (.inl ⟨.lst t, by simp, by omega⟩)
        · exact .inr (.inl ⟨x, List.mem_append_left _ hx, hl⟩)
        · exact .inr (.inr hh)
  | .txt q :: ps, S, S', h, hh => by
    match S with
    | [] => simp [runW] at h
    | t :: rest =>
      rw [runW] at h
      refine hi_W L ps _ S' h (hh.imp (fun z => by simpa using z) (fun z => ?_))
      rcases z with ⟨x, hx, hl⟩ | z
      · exact .inl ⟨x, List.mem_append_left _ hx, hl⟩
      · exact .inr z
  | .word q :: ps, S, S', h, hh => by
    match S with
    | [] => simp [runW] at h
    | t :: rest =>
      rw [runW] at h
      split at h
      · refine hi_W L ps _ S' h (hh.imp (fun z => by simpa using z) (fun z => ?_))
        rcases z with ⟨x, hx, hl⟩ | z
        · exact .inl ⟨x, List.mem_append_left _ hx, hl⟩
        · exact .inr z
      · cases h
theorem stW_len : ∀ {st : List (List Tr)} {S : List (List W)}, stW st = some S → S.length = st.length
  | [], S, h => by rw [stW] at h; cases h; rfl
  | t :: r, S, h => by
    rw [stW] at h
    obtain ⟨a, _, h⟩ := Option.bind_eq_some_iff.mp h
    obtain ⟨b, hb, rfl⟩ := Option.map_eq_some_iff.mp h
    rw [List.length_cons, List.length_cons, stW_len hb]
theorem run_no : ∀ (ps : List Pc) (st : List (List Tr)) (S : List (List W)) (w : W), run ps st = none → stW st = some S → runW ps S = some [[w]] → 100 ≤ w.depth
  | [], st, S, w, h, _, _ => by rw [run] at h; cases h
  | .op :: ps, st, S, w, h, hs, hr => by
    rw [run] at h
    rw [runW] at hr
    split at h
    · exact run_no ps ([] :: st) ([] :: S) w h (by rw [stW, worOs, hs]; rfl) hr
    · rename_i hl
      have e := stW_len hs
      rcases hi_W 101 ps _ _ hr (.inl (by rw [List.length_cons]; omega)) with z | z | z
      · simp at z
      · obtain ⟨x, hx, hl⟩ := z
        rw [List.mem_singleton.mp hx] at hl
        simp only [List.length_nil] at hl
        omega
      · exact z.elim
  | .cl :: ps, st, S, w, h, hs, hr => by
    match st, S with
    | [], [] => simp [runW] at hr
    | [], _ :: _ => rw [stW] at hs; cases hs
    | [t], S =>
      have := stW_len hs
      match S, this with
      | [a], _ => simp [runW] at hr
    | t :: u :: rest, S =>
      rw [run] at h
      rw [stW, stW] at hs
      obtain ⟨a, ha, hs⟩ := Option.bind_eq_some_iff.mp hs
      obtain ⟨b, hb, rfl⟩ := Option.map_eq_some_iff.mp hs
      obtain ⟨c, hc, hb⟩ := Option.bind_eq_some_iff.mp hb
      obtain ⟨d, hd, rfl⟩ := Option.map_eq_some_iff.mp hb
      rw [runW] at hr
      exact run_no ps _ _ w h (by rw [stW, worOs_app, hc, worO, ha, hd]; rfl) hr
  | .txt q :: ps, st, S, w, h, hs, hr => by
    match st with
    | [] => rw [stW] at hs; cases hs; simp [runW] at hr
    | t :: rest =>
      rw [run] at h
      rw [stW] at hs
      obtain ⟨a, ha, hs⟩ := Option.bind_eq_some_iff.mp hs
      obtain ⟨b, hb, rfl⟩ := Option.map_eq_some_iff.mp hs
      rw [runW] at hr
      exact run_no ps _ _ w h (by rw [stW, worOs_app, ha, worO, hb]; rfl) hr
  | .word q :: ps, st, S, w, h, hs, hr => by
    match st with
    | [] => rw [stW] at hs; cases hs; simp [runW] at hr
    | t :: rest =>
      rw [run] at h
      rw [stW] at hs
      obtain ⟨a, ha, hs⟩ := Option.bind_eq_some_iff.mp hs
      obtain ⟨b, hb, rfl⟩ := Option.map_eq_some_iff.mp hs
      rw [runW] at hr
      split at hr
      · rename_i hn
        exact run_no ps _ _ w h (by rw [stW, worOs_app, ha, worO, if_pos hn, hb]; rfl) hr
      · cases hr
def okO (w : W) : Option W := if isWorthB w.toT = true then some w else none
def endW (S : Option (List (List W))) : Option W := match S with
  | some [[w]] => okO w
  | _ => none
theorem endW_two (a b : List W) (c : List (List W)) : endW (some (a :: b :: c)) = none := by
  unfold endW
  split
  · rename_i h; cases h
  · rfl
theorem deep_no {w : W} (h : 100 ≤ w.depth) : okO w = none := by
  unfold okO
  rw [if_neg]
  intro z
  unfold isWorthB at z
  rw [Bool.and_eq_true] at z
  have := (wok_fits w 12 z.1).2
  omega
theorem due_read (ps : List Pc) : endW (runW ps [[]]) = readO (some ps) := by
  cases hr : run ps [[]] with
  | none =>
    have e : readO (some ps) = none := by
      unfold readO trsO
      show ((((match run ps [[]] with | some [ts] => some ts | _ => none).bind oneO).bind worO).bind _) = none
      rw [hr]
      rfl
    rw [e]
    unfold endW
    split
    · rename_i w hw
      exact deep_no (run_no ps [[]] [[]] w hr rfl hw)
    · rfl
  | some st' =>
    have hA := run_W ps [[]] st' hr
    have hA : runW ps [[]] = stW st' := hA
    have rd : readO (some ps) = (((trsO ps).bind oneO).bind worO).bind fun w => if isWorthB w.toT = true then some w else none := rfl
    rw [hA, rd]
    match st', hr with
    | [], hr => rw [show trsO ps = none by unfold trsO; rw [hr]]; rfl
    | [[]], hr => rw [show trsO ps = some [] by unfold trsO; rw [hr]]; rfl
    | [[x]], hr =>
      rw [show trsO ps = some [x] by unfold trsO; rw [hr]]
      show endW (stW [[x]]) = (worO x).bind _
      rw [stW, worOs, worOs, stW]
      cases worO x <;> rfl
    | [x :: y :: r], hr =>
      rw [show trsO ps = some (x :: y :: r) by unfold trsO; rw [hr]]
      show endW (stW [x :: y :: r]) = none
      rw [stW, stW, worOs, worOs]
      cases worO x <;> cases worO y <;> cases worOs r <;> rfl
    | t :: u :: r, hr =>
      rw [show trsO ps = none by unfold trsO; rw [hr]]
      show endW (stW (t :: u :: r)) = none
      rw [stW, stW]
      cases worOs t <;> cases worOs u <;> cases stW r <;> first | rfl | exact endW_two _ _ _
end D

set_option Elab.async false
set_option linter.all false
set_option maxRecDepth 100000
set_option maxHeartbeats 1000000
namespace D
open PySem L2
def Pc.Okp : Pc → Prop
  | .txt q => ∀ c ∈ q, c ≠ 34
  | .word q => q ≠ [] ∧ ∀ c ∈ q, isEnd c = false
  | _ => True
theorem SpellO.okp {r : List Nat} {o : Option (List Pc)} (h : SpellO r o) : ∀ ps, o = some ps → ∀ p ∈ ps, p.Okp := by
  induction h with
  | nil => intro ps e p hp; cases e; simp at hp
  | gap _ _ ih => exact ih
  | op _ ih =>
    intro ps e p hp
    obtain ⟨l, rfl, rfl⟩ := Option.map_eq_some_iff.mp e
    rcases List.mem_cons.mp hp with rfl | hp
    · trivial
    · exact ih l rfl p hp
  | cl _ ih =>
    intro ps e p hp
    obtain ⟨l, rfl, rfl⟩ := Option.map_eq_some_iff.mp e
    rcases List.mem_cons.mp hp with rfl | hp
    · trivial
    · exact ih l rfl p hp
  | txt hq _ ih =>
    intro ps e p hp
    obtain ⟨l, rfl, rfl⟩ := Option.map_eq_some_iff.mp e
    rcases List.mem_cons.mp hp with rfl | hp
    · exact hq
    · exact ih l rfl p hp
  | bad _ => intro ps e; cases e
  | @word c q r o hc hq _ _ ih =>
    intro ps e p hp
    obtain ⟨l, rfl, rfl⟩ := Option.map_eq_some_iff.mp e
    rcases List.mem_cons.mp hp with rfl | hp
    · refine ⟨by simp, fun d hd => ?_⟩
      rcases List.mem_cons.mp hd with rfl | hd
      · exact hc
      · exact hq d hd
    · exact ih l rfl p hp
/-- the levels of worths, the last one first -/
inductive LvW (H0 H : Hp) : List Addr → List (List W) → Prop where
  | nil : LvW H0 H [] []
  | cons {a : Addr} {as : List Addr} {vs : List V} {ts : List W} {st : List (List W)} : H0 a = none → H a = some (.lst vs) → RWs H vs ts → (∀ x ∈ ts, x.toT.Sm) → a ∉ as → LvW H0 H as st → LvW H0 H (a :: as) (ts :: st)
theorem LvW.len {H0 H : Hp} {as : List Addr} {st : List (List W)} (h : LvW H0 H as st) : as.length = st.length := by
  induction h with
  | nil => rfl
  | cons _ _ _ _ _ _ ih => simp [ih]
theorem LvW.mono {H0 H H' : Hp} {as : List Addr} {st : List (List W)} (h : LvW H0 H as st) (t : Tups H H') (k : ∀ a ∈ as, H' a = H a) : LvW H0 H' as st := by
  induction h with
  | nil => exact .nil
  | cons h0 e r sm n _ ih => exact .cons h0 (by rw [k _ List.mem_cons_self]; exact e) (r.mono t) sm n (ih fun a ha => k a (List.mem_cons_of_mem _ ha))
theorem LvW.some {H0 H : Hp} {as : List Addr} {st : List (List W)} (h : LvW H0 H as st) : ∀ a ∈ as, H0 a = none ∧ ∃ vs, H a = some (.lst vs) := by
  induction h with
  | nil => intro a ha; cases ha
  | cons h0 e _ _ _ _ ih =>
    intro a ha
    rcases List.mem_cons.mp ha with rfl | ha
    · exact ⟨h0, _, e⟩
    · exact ih a ha
def wideW (st : List (List W)) : Nat := (st.map (·.length)).sum
def spDue : Sp := fun vs H Q _ => ∃ (t : Str) (O : Option (List Pc)), vs = [.str t] ∧ SpellO t.cps.toList O ∧ t.length ≤ 100000 ∧ (∀ w, readO O = some w → ∀ (p : Addr) (u : V) (H' : Hp), Same H H' → H' p = some (.tup [u]) → RW H' u w → Q (.ref p) H') ∧ (readO O = none → ∀ H', Same H H' → Q .non H')
/-- how far _law_due has come -/
def DInv (H : Hp) (ps : List Pc) (p L : Addr) (t : Str) (i : Nat) (σ : St) (H' : Hp) : Prop := ∃ (as : List Addr) (st : List (List W)) (o1 o2 : Option V),
  σ = [some (.str t), some (.ref p), some (.ref L), o1, o2] ∧ H L = none ∧ H' L = some (.lst (as.reverse.map V.ref)) ∧ L ∉ as ∧ LvW H H' as st ∧ runW (ps.drop i) st = runW ps [[]] ∧ st ≠ [] ∧ st.length ≤ i + 1 ∧ wideW st ≤ i ∧ H' p = some (.lst (ps.map fun x => tkV (tokP x))) ∧ p ∉ as ∧ p ≠ L ∧ Same H H'
theorem push_topW {H0 H' : Hp} {ps : List Pc} {p L a : Addr} {t : Str} {vs : List V} {as : List Addr} {tr : List W} {st : List (List W)} {v : V} {x : W} {i : Nat} {o1 o2 : Option V}
    (hL : H0 L = none) (eL : H' L = some (.lst ((a :: as).reverse.map V.ref))) (nL : L ∉ a :: as) (h0 : H0 a = none) (ea : H' a = some (.lst vs)) (ra : RWs H' vs tr) (sm : ∀ y ∈ tr, y.toT.Sm) (na : a ∉ as) (lv : LvW H0 H' as st)
    (hrun : runW (ps.drop (i + 1)) ((tr ++ [x]) :: st) = runW ps [[]]) (hst : st.length + 1 ≤ i + 2) (hw : wideW (tr :: st) ≤ i) (ep : H' p = some (.lst (ps.map fun x => tkV (tokP x)))) (np : p ∉ a :: as) (pL : p ≠ L) (s1 : Same H0 H') (rx : RW H' v x) (sx : x.toT.Sm) :
    DInv H0 ps p L t (i + 1) [some (.str t), some (.ref p), some (.ref L), o1, o2] (upd H' a (.lst (vs ++ [v]))) := by
  have tp : Tups H' (upd H' a (.lst (vs ++ [v]))) := tups_put ea
  have ne : ∀ {b : Addr}, b ∉ a :: as → b ≠ a := fun hb z => hb (z ▸ List.mem_cons_self)
  refine ⟨a :: as, (tr ++ [x]) :: st, o1, o2, rfl, hL, by rw [upd_ne (ne nL)]; exact eL, nL, .cons h0 upd_same ((ra.mono tp).snoc (rx.mono tp)) (fun y hy => ?_) na (lv.mono tp fun b hb => upd_ne fun z => na (z ▸ hb)), hrun, by simp, by simpa using hst, ?_, by rw [upd_ne (ne np)]; exact ep, np, pL, same_put h0 s1⟩
  · rcases List.mem_append.mp hy with hy | hy
    · exact sm y hy
    · rw [List.mem_singleton.mp hy]; exact sx
  · simp only [wideW, List.map_cons, List.sum_cons, List.length_append, List.length_singleton] at hw ⊢
    omega
theorem tok_eq (q r : List Nat) : decide (tkV q = tkV r) = decide (q = r) := by
  rw [Bool.eq_iff_iff, decide_eq_true_iff, decide_eq_true_iff]
  constructor
  · intro h
    have := congrArg Array.toList (congrArg Str.cps (V.str.inj h))
    simpa using this
  · rintro rfl; rfl
theorem v40 : V.str (Str.ofString "(") = tkV [40] := by rw [str40]; rfl
theorem v41 : V.str (Str.ofString ")") = tkV [41] := by rw [str41]; rfl
theorem mid_slice {z : Str} {q : List Nat} (h : z.cps.toList = 34 :: (q ++ [34])) : Txt.slice z (some 1) (some (-1)) = ⟨q.toArray⟩ := by
  have hl : z.length = q.length + 2 := by rw [← str_len, h]; simp
  have e : Txt.slice z (some 1) (some (-1)) = Txt.slice z (some ((1 : Nat) : Int)) (some ((q.length + 1 : Nat) : Int)) := by
    have ei : Builtin.Str.strSliceIndices (some 1) (some (-1)) 1 z.length = Builtin.Str.strSliceIndices (some ((1 : Nat) : Int)) (some ((q.length + 1 : Nat) : Int)) 1 z.length := by
      have a : ¬ (((q.length + 1 : Nat) : Int) < 0) := by omega
      have b : (-1 : Int) + ((z.length : Nat) : Int) = ((q.length + 1 : Nat) : Int) := by omega
      have c : ((1 : Nat) : Int) = 1 := rfl
      rw [c]
      unfold Builtin.Str.strSliceIndices
      simp only [show (-1 : Int) < 0 by decide, a, b, if_true, if_false]
    unfold Txt.slice
    rw [ei]
  rw [e, strOf (Txt.slice z (some ((1 : Nat) : Int)) (some ((q.length + 1 : Nat) : Int))), slice_ss (by omega) (by omega), h]
  simp
section
variable {P : Program} {w : World} {K : PySem.W.Frag} {mg : Str → Option Value} {base : Heap} {f : Addr} {fd : FuncData} {k : Nat}
theorem sc_ldue : FnScope ["_law_text_here", "_law_some", "_law_lists", "_law_token", "_law_inner"] ["_law_text_here"] (defScope s_ldue) := ⟨rfl, rfl, rfl, by decide +kernel, rfl, by decide +kernel, by decide +kernel⟩
theorem ok_ldue (F : Fun K "_law_due" "_law_due" s_ldue f fd) (G_is_worth : Have P w K mg base "is_worth" k ["thing"] (spIsWorth)) (G_lfigures : Have P w K mg base "_law_figures" k ["_law_word"] (spFigs)) (G_lparted : Have P w K mg base "_law_parted" k ["_law_text_here"] (spParted)) (m_len : mg "len" = none) (m_tuple : mg "tuple" = none) : FnOk P w K mg base CX0 (k + 1) f fd ["_law_text_here"] (spDue) := by
  refine F.okQ sc_ldue (fun vs H Q E h => ?_) (fun cdv A outer s H vs Q E hr h => ?_)
  · obtain ⟨t, O, rfl, _⟩ := h
    rfl
  obtain ⟨t, O, rfl, hs, hz, qs, qn⟩ := h
  refine ⟨_, (pss_cons (ps_set (i := 1) sc_ldue.nd rfl (Or.inl rfl) (pe_fn G_lparted hr rfl (pa_cons (pv 0) pa_nil)))
    (pss_cons (ps_if (pt_cmp (pc_isN (pv 1))) (pss_one (ps_ret pe_non)) pss_nil)
    (pss_cons (ps_set (i := 2) sc_ldue.nd rfl (Or.inl rfl) (pe_lst (pa_cons (pe_lst pa_nil) pa_nil)))
    (pss_cons (ps_for PassesOwn.never rfl (pi_list (pv 1)) (pg_name (i := 3) sc_ldue.nd rfl (Or.inl rfl)) (pss_one (ps_if (pt_cmpR op_eq (pv 3) pe_str (nomark _)) (pss_one (ps_expr (pe_bm PySem.F.plainAttrs_list PySem.F.slot_list_append PySem.F.type_list_append mt_append (pv 2) (pa_cons (pe_lst pa_nil) pa_nil)))) (pss_one (ps_if (pt_cmpR op_eq (pv 3) pe_str (nomark _)) (pss_cons (ps_if (pt_cmpR op_lt (pe_callB call_len rfl m_len PySem.boot_len (pa_cons (pv 2) pa_nil)) pe_int (nomark _)) (pss_one (ps_ret pe_non)) pss_nil)
    (pss_cons (ps_set (i := 4) sc_ldue.nd rfl (Or.inl rfl) (pe_callTy call_tuple_of rfl m_tuple boot_tupleT (pa_cons (pe_bm0 PySem.F.plainAttrs_list PySem.F.slot_list_pop PySem.F.type_list_pop mt_pop (pv 2)) pa_nil)))
    (pss_one (ps_expr (pe_bm PySem.F.plainAttrs_list PySem.F.slot_list_append PySem.F.type_list_append mt_append (pe_ix ix_list (pv 2) (pe_un un_neg pe_int) (fun _ _ => rfl)) (pa_cons (pv 4) pa_nil)))))) (pss_one (ps_if (pt_cmpR op_eq (pe_ix ix_str (pv 3) pe_int (fun _ _ => rfl)) pe_str (nomark _)) (pss_one (ps_expr (pe_bm PySem.F.plainAttrs_list PySem.F.slot_list_append PySem.F.type_list_append mt_append (pe_ix ix_list (pv 2) (pe_un un_neg pe_int) (fun _ _ => rfl)) (pa_cons (pe_slice sl_strX (pv 3) (po_some pe_int) (po_some (pe_un un_neg pe_int))) pa_nil)))) (pss_one (ps_if (pt_cmp (pc_isN (pe_fn G_lfigures hr rfl (pa_cons (pv 3) pa_nil)))) (pss_one (ps_ret pe_non)) (pss_one (ps_expr (pe_bm PySem.F.plainAttrs_list PySem.F.slot_list_append PySem.F.type_list_append mt_append (pe_ix ix_list (pv 2) (pe_un un_neg pe_int) (fun _ _ => rfl)) (pa_cons (pe_fn G_lfigures hr rfl (pa_cons (pv 3) pa_nil)) pa_nil)))))))))))))
    (pss_cons (ps_if (PW.pt (pw_or (pt_cmpR op_ne (pe_callB call_len rfl m_len PySem.boot_len (pa_cons (pv 2) pa_nil)) pe_int (nomark _)) (pw_or (pt_cmpR op_ne (pe_callB call_len rfl m_len PySem.boot_len (pa_cons (pe_ix ix_list (pv 2) pe_int (fun _ _ => rfl)) pa_nil)) pe_int (nomark _)) (pw_or1 (pt_not (pt_val (pe_fn G_is_worth hr rfl (pa_cons (pe_ix ix_list (pe_ix ix_list (pv 2) pe_int (fun _ _ => rfl)) pe_int (fun _ _ => rfl)) pa_nil)))))))) (pss_one (ps_ret pe_non)) pss_nil)
    (pss_one (ps_ret (pe_tup (pa_cons (pe_ix ix_list (pe_ix ix_list (pv 2) pe_int (fun _ _ => rfl)) pe_int (fun _ _ => rfl)) pa_nil))))))))), ?_⟩
  refine ⟨_, rfl, t, O, rfl, hs, hz, fun hO H1 s1 => ?_, fun ps hO p H1 s1 ep => ?_⟩
  · dsimp only [gName]
    refine ⟨_, rfl, _, rfl, iteT (qn (by rw [hO]; rfl) _ s1)⟩
  dsimp only [gName]
  have hrd : readO O = endW (runW ps [[]]) := by rw [hO]; exact (due_read ps).symm
  rw [hrd] at qs qn
  have hbig : ps.length ≤ 100000 := by
    have := hs.len ps hO
    rw [str_len] at this
    omega
  refine ⟨_, rfl, _, rfl, iteF ?_⟩
  refine ⟨(by show 0 ≤ sizeLine; decide), fun a ha => ⟨(by show 1 ≤ sizeLine; decide), fun L hL => ?_⟩⟩
  have sA := Same.new (o := .lst []) ha
  have sL := Same.new (o := .lst [.ref a]) hL
  have hLa : L ≠ a := fun z => by rw [z, upd_same] at hL; cases hL
  have none0 : ∀ {b : Addr}, H1 b = none → H b = none := fun {b} hb => by
    cases e : H b with
    | none => rfl
    | some o => rw [s1 _ _ e] at hb; cases hb
  have hL1 : H1 L = none := by rw [upd_ne hLa] at hL; exact hL
  have hHL : H L = none := none0 hL1
  have hpL : p ≠ L := ne_of_none ep hL1
  have hpa : p ≠ a := ne_of_none ep ha
  have sH := s1.trans (sA.trans sL)
  have eL0 : upd (upd H1 a (.lst [])) L (.lst [.ref a]) L = some (.lst [.ref a]) := upd_same
  have ea0 : upd (upd H1 a (.lst [])) L (.lst [.ref a]) a = some (.lst []) := sL _ _ upd_same
  have ep0 : upd (upd H1 a (.lst [])) L (.lst [.ref a]) p = some (.lst (ps.map fun x => tkV (tokP x))) := sL _ _ (sA _ _ ep)
  dsimp only [gName]
  generalize upd (upd H1 a (.lst [])) L (.lst [.ref a]) = H2 at sH eL0 ea0 ep0
  refine ⟨_, rfl, p, rfl, ⟨_, SqL.of ep0⟩, for_list (xs := ps.map fun x => tkV (tokP x)) (DInv H ps p L t)
    ⟨[a], [[]], none, none, rfl, hHL, eL0, by simp [hLa], .cons (none0 ha) ea0 ⟨rfl, fun i v w e => by simp at e⟩ (fun x hx => by simp at hx) (by simp) .nil, by simp, by simp, by simp, by simp [wideW], ep0, by simp [hpa], hpL, sH⟩
    (fun i σ' H' _ h => by obtain ⟨as, st, o1, o2, _, _, _, _, _, _, _, _, _, e, _⟩ := h; exact SqL.of e) (fun i x σ' H' hx h => ?_) (fun σ' H' h => ?_)⟩
  · obtain ⟨as, st, o1, o2, rfl, _, eL, nL, lv, hr2, hst, hst2, hw, ep2, np, _, s2⟩ := h
    rw [List.getElem?_map] at hx
    obtain ⟨pc, hpc, rfl⟩ := Option.map_eq_some_iff.mp hx
    have hi2 : i < ps.length := (List.getElem?_eq_some_iff.mp hpc).1
    have okp := hs.okp ps hO pc (List.mem_of_getElem? hpc)
    have szp := hs.sz (by rw [str_len]; exact hz) ps hO pc (List.mem_of_getElem? hpc)
    rw [drop_at hpc] at hr2
    have hz1 : (1000000 : Nat) ≤ sizeLine := by decide
    dsimp only [gName]
    refine ⟨_, rfl, rfl, _, rfl, ?_⟩
    rw [v40, tok_eq]
    cases pc with
    | op =>
      rw [show decide (tokP Pc.op = [40]) = true from rfl]
      rw [runW] at hr2
      refine iteT ⟨_, rfl, .inl ⟨rfl, _, SqL.of eL⟩, (by show 0 ≤ sizeLine; decide), fun c hc => ?_⟩
      have cL : L ≠ c := ne_of_none eL hc
      have nas : c ∉ as := fun z => by
        obtain ⟨_, vs, e⟩ := lv.some c z
        rw [hc] at e; cases e
      have hHc : H c = none := by
        cases e : H c with
        | none => rfl
        | some o => rw [s2 _ _ e] at hc; cases hc
      have cp : p ≠ c := ne_of_none ep2 hc
      have eL2 : upd H' c (.lst []) L = some (.lst (as.reverse.map V.ref)) := by rw [upd_ne cL]; exact eL
      refine ⟨L, _, .ref c, rfl, rfl, eL2, (by simp; have := lv.len; omega), ?_⟩
      have t1 : Tups H' (upd H' c (.lst [])) := tups_new hc
      have t2 : Tups (upd H' c (.lst [])) (upd (upd H' c (.lst [])) L (.lst (as.reverse.map V.ref ++ [.ref c]))) := tups_put eL2
      refine ⟨c :: as, [] :: st, _, _, rfl, hHL, ?_, ?_, .cons (vs := []) hHc ?_ ⟨rfl, fun i v w e => by simp at e⟩ (fun x hx => by simp at hx) nas (lv.mono (fun a vs e => t2 a vs (t1 a vs e)) fun z hz => ?_), hr2, by simp, (by simp; omega), ?_, ?_, ?_, hpL, same_put hHL (s2.trans (Same.new hc))⟩
      · rw [upd_same]; simp
      · intro z
        rcases List.mem_cons.mp z with z | z
        · exact cL z
        · exact nL z
      · rw [upd_ne (Ne.symm cL), upd_same]
      · rw [upd_ne (show z ≠ L from fun e => nL (by rw [← e]; exact hz)), upd_ne (show z ≠ c from fun e => nas (by rw [← e]; exact hz))]
      · simp only [wideW, List.map_cons, List.sum_cons, List.length_nil] at hw ⊢
        omega
      · rw [upd_ne hpL, upd_ne cp]; exact ep2
      · intro z
        rcases List.mem_cons.mp z with z | z
        · exact cp z
        · exact np z
    | cl =>
      rw [show decide (tokP Pc.cl = [40]) = false from rfl]
      refine iteF ⟨_, rfl, rfl, _, rfl, ?_⟩
      rw [v41, tok_eq, show decide (tokP Pc.cl = [41]) = true from rfl]
      cases lv with
      | nil => exact absurd rfl hst
      | @cons a1 as1 vs1 tr1 st1 h0 ea ra sm na lv1 =>
      cases lv1 with
      | nil =>
        refine iteT ⟨_, rfl, _, _, rfl, .inl ⟨_, SqL.of eL, rfl⟩, _, _, rfl, rfl, _, rfl, iteT (qn ?_ _ s2)⟩
        rw [← hr2]
        simp [runW, endW]
      | @cons a2 as2 vs2 tr2 st2 h02 ea2 ra2 sm2 na2 lv2 =>
      rw [runW] at hr2
      have hlen : (((a1 :: a2 :: as2).reverse.map V.ref).length : Nat) = as2.length + 2 := by simp
      refine iteT ⟨_, rfl, _, _, rfl, .inl ⟨_, SqL.of eL, rfl⟩, _, _, rfl, rfl, _, rfl, ?_⟩
      rw [hlen, decide_eq_false (by omega)]
      have e12 : a1 ≠ a2 := fun z => na (z ▸ List.mem_cons_self)
      have nL1 : L ≠ a1 := fun z => nL (z ▸ List.mem_cons_self)
      have nL2 : L ≠ a2 := fun z => nL (z ▸ List.mem_cons_of_mem _ List.mem_cons_self)
      have hdl : ((a1 :: a2 :: as2).reverse.map V.ref).dropLast = (a2 :: as2).reverse.map V.ref := by
        rw [List.reverse_cons, List.map_append]
        simp
      have t1 : Tups H' (upd H' L (.lst ((a2 :: as2).reverse.map V.ref))) := tups_put eL
      have ea2' : upd H' L (.lst ((a2 :: as2).reverse.map V.ref)) a2 = some (.lst vs2) := by rw [upd_ne (Ne.symm nL2)]; exact ea2
      have ea1' : upd H' L (.lst ((a2 :: as2).reverse.map V.ref)) a1 = some (.lst vs1) := by rw [upd_ne (Ne.symm nL1)]; exact ea
      refine iteF ⟨_, rfl, .inl ⟨rfl, _, SqL.of eL⟩, L, _, .ref a1, rfl, rfl, eL, by simp, ?_⟩
      rw [hdl]
      refine ⟨a1, vs1, rfl, .inl ⟨SqL.of ea1', fun c hc => ?_⟩⟩
      have s3 := Same.new (o := .tup vs1) hc
      have t3 : Tups H' _ := fun x vs e => s3 _ _ (t1 x vs e)
      dsimp only [gName]
      have hvs2 : vs2.length < sizeLine := by
        rw [ra2.len]
        simp only [wideW, List.map_cons, List.sum_cons] at hw
        omega
      refine ⟨_, rfl, _, rfl, L, _, -1, _, rfl, rfl, SqL.of (s3 _ _ upd_same), last_ref as2 a2, .inl ⟨rfl, _, SqL.of (s3 _ _ ea2')⟩, _, rfl, a2, vs2, .ref c, rfl, rfl, s3 _ _ ea2', hvs2, ?_⟩
      have hlv2 : LvW H _ as2 st2 := lv2.mono t3 fun z hz => by
        obtain ⟨_, vz, ez⟩ := lv2.some z hz
        have zL : z ≠ L := fun e => nL (e ▸ List.mem_cons_of_mem _ (List.mem_cons_of_mem _ hz))
        rw [s3 _ _ (show upd H' L (.lst ((a2 :: as2).reverse.map V.ref)) z = some (.lst vz) by rw [upd_ne zL]; exact ez), ez]
      refine push_topW hHL (s3 _ _ upd_same) (fun z => nL (List.mem_cons_of_mem _ z)) h02 (s3 _ _ ea2') (ra2.mono t3) sm2 na2 hlv2 hr2 ?_ ?_ (s3 _ _ (by rw [upd_ne hpL]; exact ep2)) (fun z => np (List.mem_cons_of_mem _ z)) hpL ((same_put hHL s2).trans s3) (.lst upd_same ra.len fun j v x e1 e2 => (ra.at' j v x e1 e2).mono t3) ?_
      · simp at hst2; omega
      · simp only [wideW, List.map_cons, List.sum_cons] at hw ⊢
        omega
      · refine ⟨?_, ?_⟩
        · rw [toTs_len]
          simp only [wideW, List.map_cons, List.sum_cons] at hw
          omega
        · have : ∀ l : List W, (∀ y ∈ l, y.toT.Sm) → Sms (toTs l) := fun l => by
            induction l with
            | nil => intro _; trivial
            | cons y l ih => exact fun h => ⟨h y (by simp), ih fun z hz => h z (List.mem_cons_of_mem _ hz)⟩
          exact this tr1 sm
    | txt z =>
      rw [show decide (tokP (Pc.txt z) = [40]) = false from decide_eq_false (by intro e; cases e)]
      refine iteF ⟨_, rfl, rfl, _, rfl, ?_⟩
      rw [v41, tok_eq, show decide (tokP (Pc.txt z) = [41]) = false from decide_eq_false (by intro e; cases e)]
      have hzl : z.length ≤ 100000 := szp
      have hat : atI (⟨(34 :: (z ++ [34])).toArray⟩ : Str).cps.toList 0 = some 34 := atI_nat (j := 0) rfl
      have hlt : (⟨(34 :: (z ++ [34])).toArray⟩ : Str).length = z.length + 2 := by rw [tk_len]; simp
      refine iteF ⟨_, rfl, ⟨(34 :: (z ++ [34])).toArray⟩, 0, 34, rfl, rfl, small (by omega), hat, rfl, _, rfl, ?_⟩
      rw [q_eq, decide_eq_true rfl]
      cases lv with
      | nil => exact absurd rfl hst
      | @cons a1 as1 vs1 tr1 st1 h0 ea ra sm na lv1 =>
      rw [runW] at hr2
      have hvs : vs1.length < sizeLine := by
        rw [ra.len]
        simp only [wideW, List.map_cons, List.sum_cons] at hw
        omega
      refine iteT ⟨_, rfl, _, rfl, L, _, -1, _, rfl, rfl, SqL.of eL, last_ref as1 a1, .inl ⟨rfl, _, SqL.of ea⟩, _, rfl, _, rfl, _, rfl, _, rfl, ⟨(34 :: (z ++ [34])).toArray⟩, rfl, by omega, a1, vs1, _, rfl, rfl, ea, hvs, ?_⟩
      rw [mid_slice (z := ⟨(34 :: (z ++ [34])).toArray⟩) (q := z) (by simp)]
      exact push_topW hHL eL nL h0 ea ra sm na lv1 hr2 (by simp at hst2; omega) hw ep2 np hpL s2 (.txt _) (by show (⟨z.toArray⟩ : Str).length ≤ 100000; rw [tk_len]; exact hzl)
    | word z =>
      obtain ⟨zne, zend⟩ := okp
      obtain ⟨d, r, rfl⟩ : ∃ d r, z = d :: r := by
        cases z with
        | nil => exact absurd rfl zne
        | cons d r => exact ⟨d, r, rfl⟩
      have hd := zend d (by simp)
      have hne : ∀ x, isEnd x = true → d ≠ x := fun x hx z => by rw [z, hx] at hd; cases hd
      rw [show decide (tokP (Pc.word (d :: r)) = [40]) = false from decide_eq_false (fun e => hne 40 rfl (by injection e))]
      refine iteF ⟨_, rfl, rfl, _, rfl, ?_⟩
      rw [v41, tok_eq, show decide (tokP (Pc.word (d :: r)) = [41]) = false from decide_eq_false (fun e => hne 41 rfl (by injection e))]
      have hzl : (d :: r).length ≤ 100000 := szp
      have hat : atI (⟨(d :: r).toArray⟩ : Str).cps.toList 0 = some d := atI_nat (j := 0) rfl
      refine iteF ⟨_, rfl, ⟨(d :: r).toArray⟩, 0, d, rfl, rfl, small (by rw [tk_len]; omega), hat, rfl, _, rfl, ?_⟩
      rw [q_eq, decide_eq_false (hne 34 rfl)]
      cases lv with
      | nil => exact absurd rfl hst
      | @cons a1 as1 vs1 tr1 st1 h0 ea ra sm na lv1 =>
      rw [runW] at hr2
      have hvs : vs1.length < sizeLine := by
        rw [ra.len]
        simp only [wideW, List.map_cons, List.sum_cons] at hw
        omega
      refine iteF ⟨_, rfl, d :: r, rfl, by simp, hzl, fun hb => ?_, fun hb => ?_⟩
      · refine ⟨_, rfl, iteF ?_⟩
        rw [if_pos hb] at hr2
        refine ⟨_, rfl, _, rfl, L, _, -1, _, rfl, rfl, SqL.of eL, last_ref as1 a1, .inl ⟨rfl, _, SqL.of ea⟩, _, rfl, d :: r, rfl, by simp, hzl, fun _ => ⟨a1, vs1, _, rfl, rfl, ea, hvs, ?_⟩, fun hb2 => by rw [hb] at hb2; cases hb2⟩
        exact push_topW hHL eL nL h0 ea ra sm na lv1 hr2 (by simp at hst2; omega) hw ep2 np hpL s2 (.num _) trivial
      · refine ⟨_, rfl, iteT (qn ?_ _ s2)⟩
        rw [if_neg (by rw [hb]; decide)] at hr2
        rw [← hr2]
        rfl
  · obtain ⟨as, st, o1, o2, rfl, _, eL, nL, lv, hr2, hst, hst2, hw, ep2, np, _, s2⟩ := h
    rw [List.length_map, List.drop_length, runW] at hr2
    rw [← hr2] at qs qn
    cases lv with
    | nil => exact absurd rfl hst
    | @cons a1 as1 vs1 tr1 st1 h0 ea ra sm na lv1 =>
    refine ⟨_, rfl, _, _, rfl, .inl ⟨_, SqL.of eL, rfl⟩, rfl, _, rfl, ?_⟩
    cases lv1 with
    | @cons a2 as2 vs2 tr2 st2 h02 ea2 ra2 sm2 na2 lv2 =>
      rw [show (!decide (V.int ((((a1 :: a2 :: as2).reverse.map V.ref).length : Nat) : Int) = V.int 1)) = true by
        rw [Bool.not_eq_true', decide_eq_false_iff_not]
        intro z
        injection z with z
        simp at z
        omega]
      exact iteT (iteT (qn (endW_two _ _ _) _ s2))
    | nil =>
    refine iteF ⟨_, rfl, L, _, 0, _, rfl, rfl, SqL.of eL, rfl, _, _, rfl, .inl ⟨_, SqL.of ea, rfl⟩, rfl, _, rfl, ?_⟩
    rw [ra.len]
    match tr1, vs1, ra, sm, ea, qs, qn with
    | [], _, ra, sm, ea, qs, qn => exact iteT (iteT (qn rfl _ s2))
    | x :: y :: r, _, ra, sm, ea, qs, qn =>
      rw [show (!decide (V.int (((x :: y :: r).length : Nat) : Int) = V.int 1)) = true by
        rw [Bool.not_eq_true', decide_eq_false_iff_not]
        intro z
        injection z with z
        simp at z
        omega]
      exact iteT (iteT (qn rfl _ s2))
    | [x], vs1, ra, sm, ea, qs, qn =>
      have hl := ra.len
      match vs1, hl, ra, ea with
      | [v], _, ra, ea =>
      have rv := ra.at' 0 v x rfl rfl
      refine iteF ⟨_, rfl, L, _, 0, _, rfl, rfl, SqL.of eL, rfl, a1, _, 0, _, rfl, rfl, SqL.of ea, rfl, v, x.toT, rfl, rv.toRT, sm x (by simp), fun H3 s3 => ⟨_, rfl, ?_⟩⟩
      cases hb : isWorthB x.toT with
      | false => exact iteT (qn (by show okO x = none; unfold okO; rw [if_neg (by rw [hb]; decide)]) _ (s2.trans s3))
      | true =>
        refine iteF ⟨_, rfl, L, _, 0, _, rfl, rfl, SqL.of (s3 _ _ eL), rfl, a1, _, 0, _, rfl, rfl, SqL.of (s3 _ _ ea), rfl, (by show 1 ≤ sizeLine; decide), fun pt hpt => ?_⟩
        have s4 := Same.new (o := .tup [v]) hpt
        exact qs x (by show okO x = some x; unfold okO; rw [if_pos hb]) pt v _ ((s2.trans s3).trans s4) upd_same (rv.mono (same_tups (s3.trans s4)))
end
end D

set_option Elab.async false
set_option linter.all false
set_option maxRecDepth 100000
set_option maxHeartbeats 1000000
namespace D
open PySem L2
section
variable {P : Program} {w : World} {K : PySem.W.Frag} {mg : Str → Option Value} {base : Heap} {f : Addr} {fd : FuncData} {k : Nat}
theorem sc_lbad : FnScope ["_law_box_here", "_law_deep", "_law_k", "_law_large", "_law_some"] ["_law_box_here"] (defScope s_lbad) := ⟨rfl, rfl, rfl, by decide +kernel, rfl, by decide +kernel, by decide +kernel⟩
theorem ok_lbad (F : Fun K "_law_bad" "_law_bad" s_lbad f fd) (G_ltake : Have P w K mg base "_law_take" k ["_law_box_here", "_law_wide"] (spTake)) (m_len : mg "len" = none) (m_range : mg "range" = none) : FnOk P w K mg base CX0 (k + 1) f fd ["_law_box_here"] (spBad) := by
  refine F.okQ sc_lbad (fun vs H Q E h => ?_) (fun cdv A outer s H vs Q E hr h => ?_)
  · obtain ⟨b, rfl, _⟩ := h
    rfl
  obtain ⟨b, rfl, hb, q⟩ := h
  refine ⟨_, (pss_cons (ps_set (i := 1) sc_lbad.nd rfl (Or.inl rfl) pe_str)
    (pss_cons (ps_for PassesOwn.never rfl (pi_range1 rfl m_range (pa_cons (pe_op op_add pe_int (pe_fn G_ltake hr rfl (pa_cons (pv 0) (pa_cons pe_int pa_nil)))) pa_nil)) (pg_name (i := 2) sc_lbad.nd rfl (Or.inl rfl)) (pss_one (ps_set (i := 1) sc_lbad.nd rfl (Or.inl rfl) (pe_op op_add_str (pe_op op_add_str pe_str (pv 1)) pe_str))))
    (pss_cons (ps_set (i := 3) sc_lbad.nd rfl (Or.inl rfl) (pe_op op_add_str (pe_op op_add_str (pe_op op_add_str (pe_op op_add_str (pe_op op_add_str (pe_op op_add_str pe_str (pe_op op_repM pe_str pe_int)) pe_str) (pe_op op_repM pe_str pe_int)) pe_str) (pe_op op_repM pe_str pe_int)) pe_str))
    (pss_cons (ps_set (i := 4) sc_lbad.nd rfl (Or.inl rfl) (pe_lst (pa_cons pe_str (pa_cons pe_str (pa_cons pe_str (pa_cons (pe_op op_add_str pe_str (pe_op op_repM pe_str pe_int)) (pa_cons pe_str (pa_cons pe_str (pa_cons pe_str (pa_cons pe_str (pa_cons pe_str (pa_cons pe_str (pa_cons pe_str (pa_cons pe_str (pa_cons pe_str (pa_cons pe_str (pa_cons pe_str pa_nil)))))))))))))))))
    (pss_cons (ps_set (i := 4) sc_lbad.nd rfl (Or.inl rfl) (pe_op op_cat (pv 4) (pe_lst (pa_cons (pv 1) (pa_cons (pv 3) (pa_cons (pe_op op_add_str (pe_op op_add_str pe_str (pe_op op_repM pe_str pe_int)) pe_str) (pa_cons pe_str (pa_cons pe_str (pa_cons pe_str (pa_cons pe_str (pa_cons pe_str (pa_cons pe_str (pa_cons pe_str (pa_cons pe_str pa_nil))))))))))))))
    (pss_cons (ps_set (i := 4) sc_lbad.nd rfl (Or.inl rfl) (pe_op op_cat (pv 4) (pe_lst (pa_cons pe_str (pa_cons pe_str (pa_cons pe_str (pa_cons pe_str (pa_cons pe_str (pa_cons pe_str (pa_cons pe_str (pa_cons pe_str (pa_cons pe_str (pa_cons pe_str (pa_cons pe_str pa_nil))))))))))))))
    (pss_one (ps_ret (pe_ix ix_list (pv 4) (pe_fn G_ltake hr rfl (pa_cons (pv 0) (pa_cons (pe_callB call_len rfl m_len PySem.boot_len (pa_cons (pv 4) pa_nil)) pa_nil))) (fun _ _ => rfl)))))))))), ?_⟩
  dsimp only [tSeq, tAsg, gName, tC]
  refine ⟨_, rfl, b, 20, rfl, hb, by decide, by decide, fun m H1 m0 m1 st1 => ⟨_, _, rfl, rfl, ?_⟩⟩
  have l1 : (Str.ofString "(").length = 1 := by decide +kernel
  have l2 : (Str.ofString ")").length = 1 := by decide +kernel
  refine ⟨_, rfl, by omega, by omega, ?_⟩
  refine for_range (n := (12 + m).toNat) (fun i σ' H' => ∃ (d : Str) (o2 : Option V), σ' = [some (.ref b), some (.str d), o2, none, none] ∧ d.length ≤ 2 + 2 * i ∧ H' = H1) ⟨_, _, rfl, by decide +kernel, rfl⟩ (fun i σ' H' hi h => ?_) (fun σ' H' h => ?_)
  · obtain ⟨d, o2, rfl, hd, rfl⟩ := h
    exact ⟨_, rfl, _, _, rfl, rfl, small (by omega), _, _, rfl, rfl, small (by rw [str_app_len]; omega), _, _, rfl, by rw [str_app_len, str_app_len]; omega, rfl⟩
  obtain ⟨d, o2, rfl, hd, rfl⟩ := h
  dsimp only [tSeq, tAsg]
  have hd2 : d.length ≤ 2000 := by omega
  refine YS.run (n := 1007) (by exact (ys_add (n := 1007) (a := 1005) (b := 2) (ys_add (n := 1005) (a := 808) (b := 197) (ys_add (n := 808) (a := 805) (b := 3) (ys_add (n := 805) (a := 405) (b := 400) (ys_add (n := 405) (a := 402) (b := 3) (ys_add (n := 402) (a := 2) (b := 400) (ys_c (by decide +kernel)) (ys_rep (n := 400) (by decide +kernel) (by decide) (by decide) (by decide +kernel)) (by decide) (by decide)) (ys_c (by decide +kernel)) (by decide) (by decide)) (ys_rep (n := 400) (by decide +kernel) (by decide) (by decide) (by decide +kernel)) (by decide) (by decide)) (ys_c (by decide +kernel)) (by decide) (by decide)) (ys_rep (n := 197) (by decide +kernel) (by decide) (by decide) (by decide +kernel)) (by decide) (by decide)) (ys_c (by decide +kernel)) (by decide) (by decide))) fun L hL => ?_
  dsimp only [tSeq, tAsg, gName, tLst]
  refine YSs.run (k := 15) (n := 2000) (by exact (yss_cons (ys_c (by decide +kernel)) (yss_cons (ys_c (by decide +kernel)) (yss_cons (ys_c (by decide +kernel)) (yss_cons (ys_add (a := 1) (b := 60) (ys_c (by decide +kernel)) (ys_rep (n := 60) (by decide +kernel) (by decide) (by decide) (by decide +kernel)) (by decide) (by decide)) (yss_cons (ys_c (by decide +kernel)) (yss_cons (ys_c (by decide +kernel)) (yss_cons (ys_c (by decide +kernel)) (yss_cons (ys_c (by decide +kernel)) (yss_cons (ys_c (by decide +kernel)) (yss_cons (ys_c (by decide +kernel)) (yss_cons (ys_c (by decide +kernel)) (yss_cons (ys_c (by decide +kernel)) (yss_cons (ys_c (by decide +kernel)) (yss_cons (ys_c (by decide +kernel)) (yss_cons (ys_c (by decide +kernel)) yss_nil)))))))))))))))) fun z1 n1 b1 => ⟨by rw [List.length_map, n1]; decide, fun p1 hp1 => ?_⟩
  have s1 := Same.new (o := .lst (z1.map V.str)) hp1
  refine ⟨_, rfl, ?_⟩
  refine YSs.run (k := 11) (n := 2000) (by exact (yss_cons (ys_var (i := 1) rfl (by omega)) (yss_cons (ys_var (i := 3) rfl (by omega)) (yss_cons (ys_add (a := 123) (b := 1) (ys_add (a := 1) (b := 122) (ys_c (by decide +kernel)) (ys_rep (n := 122) (by decide +kernel) (by decide) (by decide) (by decide +kernel)) (by decide) (by decide)) (ys_c (by decide +kernel)) (by decide) (by decide)) (yss_cons (ys_c (by decide +kernel)) (yss_cons (ys_c (by decide +kernel)) (yss_cons (ys_c (by decide +kernel)) (yss_cons (ys_c (by decide +kernel)) (yss_cons (ys_c (by decide +kernel)) (yss_cons (ys_c (by decide +kernel)) (yss_cons (ys_c (by decide +kernel)) (yss_cons (ys_c (by decide +kernel)) yss_nil)))))))))))) fun z2 n2 b2 => ⟨by rw [List.length_map, n2]; decide, fun p2 hp2 => ?_⟩
  have s2 := Same.new (o := .lst (z2.map V.str)) hp2
  refine ⟨p1, p2, _, _, rfl, rfl, s2 _ _ upd_same, upd_same, by rw [List.length_map, List.length_map, n1, n2]; decide, fun p3 hp3 => ?_⟩
  have s3 := Same.new (o := .lst (z1.map V.str ++ z2.map V.str)) hp3
  refine ⟨_, rfl, ?_⟩
  refine YSs.run (k := 11) (n := 2000) (by exact (yss_cons (ys_c (by decide +kernel)) (yss_cons (ys_c (by decide +kernel)) (yss_cons (ys_c (by decide +kernel)) (yss_cons (ys_c (by decide +kernel)) (yss_cons (ys_c (by decide +kernel)) (yss_cons (ys_c (by decide +kernel)) (yss_cons (ys_c (by decide +kernel)) (yss_cons (ys_c (by decide +kernel)) (yss_cons (ys_c (by decide +kernel)) (yss_cons (ys_c (by decide +kernel)) (yss_cons (ys_c (by decide +kernel)) yss_nil)))))))))))) fun z3 n3 b3 => ⟨by rw [List.length_map, n3]; decide, fun p4 hp4 => ?_⟩
  have s4 := Same.new (o := .lst (z3.map V.str)) hp4
  refine ⟨p3, p4, _, _, rfl, rfl, s4 _ _ upd_same, upd_same, by rw [List.length_append, List.length_map, List.length_map, List.length_map, n1, n2, n3]; decide, fun p5 hp5 => ?_⟩
  have s5 := Same.new (o := .lst (z1.map V.str ++ z2.map V.str ++ z3.map V.str)) hp5
  have sA := (((s1.trans s2).trans s3).trans s4).trans s5
  have stA := st1.trans (Step.ofSame' st1.box sA)
  have e5 : upd (upd (upd (upd (upd H' p1 (.lst (z1.map V.str))) p2 (.lst (z2.map V.str))) p3 (.lst (z1.map V.str ++ z2.map V.str))) p4 (.lst (z3.map V.str))) p5 (.lst (z1.map V.str ++ z2.map V.str ++ z3.map V.str)) p5 = some (.lst ((z1 ++ z2 ++ z3).map V.str)) := by rw [upd_same, List.map_append, List.map_append]
  have n5 : p5 ≠ b := IsBox.ne (st1.trans (Step.ofSame' st1.box (((s1.trans s2).trans s3).trans s4))).box hp5
  generalize upd (upd (upd (upd (upd H' p1 (.lst (z1.map V.str))) p2 (.lst (z2.map V.str))) p3 (.lst (z1.map V.str ++ z2.map V.str))) p4 (.lst (z3.map V.str))) p5 (.lst (z1.map V.str ++ z2.map V.str ++ z3.map V.str)) = H5 at stA e5
  have nl : (z1 ++ z2 ++ z3).length = 37 := by rw [List.length_append, List.length_append, n1, n2, n3]
  refine ⟨_, rfl, _, rfl, _, rfl, _, _, rfl, .inl ⟨_, SqL.of e5, rfl⟩, b, _, rfl, stA.box, by rw [List.length_map, nl]; decide, by rw [List.length_map, nl]; decide, fun m5 H6 m50 m51 st6 => ?_⟩
  rw [List.length_map, nl] at m51
  have hm : m5.toNat < (z1 ++ z2 ++ z3).length := by rw [nl]; omega
  have hg : (z1 ++ z2 ++ z3)[m5.toNat]? = some (z1 ++ z2 ++ z3)[m5.toNat] := List.getElem?_eq_getElem hm
  have hat : atI ((z1 ++ z2 ++ z3).map V.str) m5 = some (.str (z1 ++ z2 ++ z3)[m5.toNat]) := by
    have := atI_nat (xs := (z1 ++ z2 ++ z3).map V.str) (j := m5.toNat) (by rw [List.getElem?_map, hg]; rfl)
    rw [show ((m5.toNat : Nat) : Int) = m5 by omega] at this
    exact this
  refine ⟨p5, _, m5, _, rfl, rfl, SqL.of (st6.keep _ _ n5 e5), hat, q _ _ ?_ (stA.trans st6)⟩
  rcases List.mem_append.mp (List.mem_of_getElem? hg) with h | h
  · rcases List.mem_append.mp h with h | h
    · exact b1 _ h
    · exact b2 _ h
  · exact b3 _ h
end
end D

set_option Elab.async false
set_option linter.all false
set_option maxRecDepth 100000
set_option maxHeartbeats 1000000
namespace L2
open PySem PySem.Spec PyProof.Rows
theorem letsN {X : Cx} : Lets X E0 := fun _ _ _ _ _ _ _ _ _ _ _ _ h => h.elim
end L2
namespace D
open PySem L2
mutual
theorem trW_ok : ∀ w : W, w.Ok → (trW numC w).Ok
  | .num i, h => by rw [trW, Tr.Ok]; exact ⟨numC_ne i, numC_end i⟩
  | .txt x, h => by rw [trW, Tr.Ok]; exact fun c hc => (h.2 c hc).2.2.1
  | .lst ws, h => by rw [trW, Tr.Ok]; exact trWs_ok ws h.2
theorem trWs_ok : ∀ ws : List W, Oks ws → TrOks (trWs numC ws)
  | [], _ => by rw [trWs, TrOks]; trivial
  | w :: r, h => by rw [trWs, TrOks]; exact ⟨trW_ok w h.1, trWs_ok r h.2⟩
end
mutual
theorem fits_ok : ∀ w : W, w.Ok → fitsW w = true
  | .num i, h => decide_eq_true h
  | .txt x, h => decide_eq_true h.1
  | .lst ws, h => by
    show (decide (ws.length ≤ 60) && fitsWs ws) = true
    rw [decide_eq_true h.1, fits_oks ws h.2]
    rfl
theorem fits_oks : ∀ ws : List W, Oks ws → fitsWs ws = true
  | [], _ => rfl
  | w :: r, h => by
    show (fitsW w && fitsWs r) = true
    rw [fits_ok w h.1, fits_oks r h.2]
    rfl
end
theorem good_ok {w : W} (h : w.Ok) (h1 : w.size ≤ 1000) (h2 : w.depth ≤ 12) : isWorthB w.toT = true := by
  rw [isWorth_toT (th_of w h)]
  unfold goodW
  rw [fits_ok w h, decide_eq_true h1, decide_eq_true (by omega)]
  rfl
/-! ### what a worth's own text writes -/
theorem num_ok {i : Int} (h1 : -(10 ^ 60) < i) (h2 : i < 10 ^ 60) : numB (numC i) = true ∧ valI (numC i) = i := by
  have key : numB (numC i) = true := by
    unfold numB
    have e : figs (numC i) = digs i.natAbs := by
      unfold figs numC
      by_cases h : 0 ≤ i
      · rw [if_pos h, if_neg, show i.toNat = i.natAbs by omega]
        intro z
        have := digs_all _ 45 (List.mem_of_getElem? z)
        omega
      · rw [if_neg h, if_pos (show (45 :: digs i.natAbs)[0]? = some 45 from rfl)]
        rfl
    rw [e]
    have d1 := digs_ne i.natAbs
    have d2 := digs_len 60 i.natAbs (by decide) (by omega)
    have d3 : (digs i.natAbs).all isFig = true := by
      rw [List.all_eq_true]
      intro c hc
      have := digs_all _ c hc
      simp [isFig, this]
    rw [decide_eq_true d1, decide_eq_true d2, d3, Bool.and_true, Bool.true_and, Bool.true_and]
    by_cases h0 : i = 0
    · subst h0
      decide +kernel
    · have : decide ((digs i.natAbs)[0]? = some 48) = false := by
        rw [decide_eq_false_iff_not]
        intro z
        cases hd : digs i.natAbs with
        | nil => exact d1 hd
        | cons c s =>
          rw [hd] at z
          have := digs_head i.natAbs (by omega) c s hd
          simp at z
          exact this z
      rw [this]
      rfl
  refine ⟨key, ?_⟩
  obtain ⟨n0, n1, n2⟩ := numB_num key
  have e1 := numC_int (x := ⟨(numC i).toArray⟩) (i := i) rfl h1 h2
  have e2 := numC_int (x := ⟨(numC i).toArray⟩) (i := valI (numC i)) n0 n1 n2
  rw [e1] at e2
  exact (Option.some.inj e2).symm
mutual
theorem wor_W : ∀ w : W, w.Ok → worO (trW numC w) = some w
  | .num i, h => by
    obtain ⟨h1, h2⟩ := num_ok h.1 h.2
    rw [trW, worO, if_pos h1, h2]
  | .txt x, h => by rw [trW, worO, ← strOf x]
  | .lst ws, h => by rw [trW, worO, wors_W ws h.2]; rfl
theorem wors_W : ∀ ws : List W, Oks ws → worOs (trWs numC ws) = some ws
  | [], _ => by rw [trWs, worOs]
  | w :: r, h => by rw [trWs, worOs, wor_W w h.1, wors_W r h.2]; rfl
end
mutual
theorem trW_deep : ∀ w : W, (trW numC w).deep = w.depth
  | .num i => by rw [trW, Tr.deep]; rfl
  | .txt x => by rw [trW, Tr.deep]; rfl
  | .lst ws => by rw [trW, Tr.deep, trWs_deep ws]; rfl
theorem trWs_deep : ∀ ws : List W, deeps (trWs numC ws) = depths ws
  | [] => by rw [trWs, deeps]; rfl
  | w :: r => by rw [trWs, deeps, trW_deep w, trWs_deep r]; rfl
end
theorem read_shown {w : W} (h : w.Ok) (h1 : w.size ≤ 1000) (h2 : w.depth ≤ 12) : readO (some (pcT (trW numC w))) = some w := by
  have hr : trsO (pcT (trW numC w)) = some [trW numC w] := by
    unfold trsO
    rw [run_tree _ (by rw [trW_deep]; omega)]
  show ((((trsO (pcT (trW numC w))).bind oneO).bind worO).bind fun w => if isWorthB w.toT = true then some w else none) = some w
  rw [hr]
  show ((worO (trW numC w)).bind fun w => if isWorthB w.toT = true then some w else none) = some w
  rw [wor_W w h]
  show (if isWorthB w.toT = true then some w else none) = some w
  rw [if_pos (good_ok h h1 h2)]
theorem read_ok {O : Option (List Pc)} {w : W} (h : readO O = some w) : w.Ok ∧ w.depth ≤ 12 := by
  obtain ⟨y, _, h⟩ := Option.bind_eq_some_iff.mp h
  split at h
  · rename_i hb
    cases h
    unfold isWorthB at hb
    rw [Bool.and_eq_true] at hb
    have := wok_fits w 12 hb.1
    exact ⟨this.1, by have := this.2; omega⟩
  · cases h
def spLRead : Sp := fun vs H Q _ => ∃ (t : Str) (O : Option (List Pc)), vs = [.str t] ∧ SpellO t.cps.toList O ∧ t.length ≤ 100000 ∧ (∀ w, readO O = some w → ∀ (p : Addr) (u : V) (H' : Hp), Same H H' → H' p = some (.tup [u]) → RW H' u w → Q (.ref p) H') ∧ (readO O = none → ∀ H', Same H H' → Q .non H')
def spLaw (K : PySem.W.Frag) : Sp := fun vs H Q _ => ∃ (a : Addr) (ns : List Int), vs = [.ref a] ∧ SqL K H a (ns.map V.int) ∧ ns.length ≤ 63 ∧ ∀ H', Q (.bl true) H'
section
variable {P : Program} {w : World} {K : PySem.W.Frag} {mg : Str → Option Value} {base : Heap} {f : Addr} {fd : FuncData} {k : Nat} {ANoText AForgeError ANoName ANoRow ANoRule ANoStep ANoThing ANoWorth : Addr}
theorem sc_lread : FnScope ["_law_text_here", "_law_found", "_law_refused", "e", "_law_others"] ["_law_text_here"] (defScope s_lread) := ⟨rfl, rfl, rfl, by decide +kernel, rfl, by decide +kernel, by decide +kernel⟩
theorem ok_lread (F : Fun K "_law_read" "_law_read" s_lread f fd) (G_read_worth : HaveX P w K mg base "read_worth" k ["text"] (spRead ANoText)) (m_ValueError : mg "ValueError" = none) (m_isi : mg "isinstance" = none) (c_ForgeError : mg "ForgeError" = some (.ref AForgeError)) (c_NoName : mg "NoName" = some (.ref ANoName)) (c_NoRow : mg "NoRow" = some (.ref ANoRow)) (c_NoRule : mg "NoRule" = some (.ref ANoRule)) (c_NoStep : mg "NoStep" = some (.ref ANoStep)) (c_NoThing : mg "NoThing" = some (.ref ANoThing)) (c_NoWorth : mg "NoWorth" = some (.ref ANoWorth)) (c_NoText : mg "NoText" = some (.ref ANoText)) (z_NoText : IsX K ANoText) (xm : PySem.W.exmOne K (.ref ANoText) (.ref AForgeError) = some true) (k_NoText : PySem.W.kitOne K (.ref ANoText) (.ref ANoText) = some true) (k_ValueError : PySem.W.kitOne K (.ref ANoText) (.type "ValueError") = some true) (k_NoName : PySem.W.kitOne K (.ref ANoText) (.ref ANoName) = some false) (k_NoRow : PySem.W.kitOne K (.ref ANoText) (.ref ANoRow) = some false) (k_NoRule : PySem.W.kitOne K (.ref ANoText) (.ref ANoRule) = some false) (k_NoStep : PySem.W.kitOne K (.ref ANoText) (.ref ANoStep) = some false) (k_NoThing : PySem.W.kitOne K (.ref ANoText) (.ref ANoThing) = some false) (k_NoWorth : PySem.W.kitOne K (.ref ANoText) (.ref ANoWorth) = some false) : FnOk P w K mg base CX0 (k + 1) f fd ["_law_text_here"] (spLRead) := by
  refine F.okQ sc_lread (fun vs H Q E h => ?_) (fun cdv A outer s H vs Q E hr h => ?_)
  · obtain ⟨t, O, rfl, _⟩ := h
    rfl
  obtain ⟨t, O, rfl, hs, hz, qs, qn⟩ := h
  refine ⟨_, (pss_cons (ps_set (i := 1) sc_lread.nd rfl (Or.inl rfl) pe_non)
    (pss_cons (ps_set (i := 2) sc_lread.nd rfl (Or.inl rfl) pe_non)
    (pss_cons (ps_try (i := 2) (j := 3) rfl ⟨_, rfl⟩ c_ForgeError rfl sc_lread.nd rfl (Or.inl rfl) rfl rfl (by decide +kernel) (fun Ex pl E1 hL => (pss_one (ps_set (i := 1) sc_lread.nd rfl (Or.inl rfl) (pe_fnX G_read_worth hr hL rfl (pa_cons (pv 0) pa_nil))))))
    (pss_cons (ps_if (pt_cmp (pc_isN (pv 2))) (pss_one (ps_ret (pe_tup (pa_cons (pv 1) pa_nil)))) pss_nil)
    (pss_cons (ps_set (i := 4) sc_lread.nd rfl (Or.inl rfl) (pe_lst (pa_cons (pe_callB (call_isiX (c := .ref ANoName) z_NoText (fun _ r => r) k_NoName) rfl m_isi boot_isi (pa_cons (pv 2) (pa_cons (pe_glob (v := .ref ANoName) rfl c_NoName rfl) pa_nil))) (pa_cons (pe_callB (call_isiX (c := .ref ANoRow) z_NoText (fun _ r => r) k_NoRow) rfl m_isi boot_isi (pa_cons (pv 2) (pa_cons (pe_glob (v := .ref ANoRow) rfl c_NoRow rfl) pa_nil))) (pa_cons (pe_callB (call_isiX (c := .ref ANoRule) z_NoText (fun _ r => r) k_NoRule) rfl m_isi boot_isi (pa_cons (pv 2) (pa_cons (pe_glob (v := .ref ANoRule) rfl c_NoRule rfl) pa_nil))) pa_nil)))))
    (pss_cons (ps_set (i := 4) sc_lread.nd rfl (Or.inl rfl) (pe_op op_cat (pv 4) (pe_lst (pa_cons (pe_callB (call_isiX (c := .ref ANoStep) z_NoText (fun _ r => r) k_NoStep) rfl m_isi boot_isi (pa_cons (pv 2) (pa_cons (pe_glob (v := .ref ANoStep) rfl c_NoStep rfl) pa_nil))) (pa_cons (pe_callB (call_isiX (c := .ref ANoThing) z_NoText (fun _ r => r) k_NoThing) rfl m_isi boot_isi (pa_cons (pv 2) (pa_cons (pe_glob (v := .ref ANoThing) rfl c_NoThing rfl) pa_nil))) (pa_cons (pe_callB (call_isiX (c := .ref ANoWorth) z_NoText (fun _ r => r) k_NoWorth) rfl m_isi boot_isi (pa_cons (pv 2) (pa_cons (pe_glob (v := .ref ANoWorth) rfl c_NoWorth rfl) pa_nil))) pa_nil))))))
    (pss_cons (ps_if (PW.pt (pw_or (pt_not (pt_val (pe_callB (call_isiX (c := .ref ANoText) z_NoText (fun _ r => r) k_NoText) rfl m_isi boot_isi (pa_cons (pv 2) (pa_cons (pe_glob (v := .ref ANoText) rfl c_NoText rfl) pa_nil))))) (pw_or (pt_not (pt_val (pe_callB (call_isiX (c := .ty "ValueError") z_NoText (fun _ r => r) k_ValueError) rfl m_isi boot_isi (pa_cons (pv 2) (pa_cons (pe_ty rfl m_ValueError boot_ValueErrorT) pa_nil))))) (pw_or1 (pt_cmpR op_in_seq pe_bl (pv 4) (by rfl)))))) (pss_one (ps_ret (pe_tup (pa_cons pe_str (pa_cons pe_str pa_nil))))) pss_nil)
    (pss_one (ps_ret pe_non))))))))), ?_⟩
  refine seqI (fun σ' H' => σ' = [some (.str t), some .non, none, none, none] ∧ H' = H) (fun σ' H' h => ?_) (fun tl => tl _ _ ⟨rfl, rfl⟩)
  obtain ⟨rfl, rfl⟩ := h
  refine seqI (fun σ' H2 => σ' = [some (.str t), some .non, some .non, none, none] ∧ H2 = H') (fun σ' H2 h => ?_) (fun tl => tl _ _ ⟨rfl, rfl⟩)
  obtain ⟨rfl, rfl⟩ := h
  refine ⟨_, rfl, t, O, rfl, hs, hz, fun w hw u H1 s1 ru => ?_, fun hn H1 s1 => ⟨ANoText, rfl, xm, fun ea hea => ?_⟩⟩
  · dsimp only [gName]
    refine ⟨_, rfl, _, rfl, iteT ⟨_, rfl, (by show 1 ≤ sizeLine; decide), fun p hp => ?_⟩⟩
    have s2 := Same.new (o := .tup [u]) hp
    exact qs w hw p u _ (s1.trans s2) upd_same (ru.mono (same_tups s2))
  have sE := Same.new (o := excO ea ANoText) hea
  have ee : upd H1 ea (excO ea ANoText) ea = some (excO ea ANoText) := upd_same
  have sA := s1.trans sE
  generalize upd H1 ea (excO ea ANoText) = G0 at sE ee sA
  show tSeq _ _ _ [none, none, some (.ref ea), none, none] G0
  refine ⟨_, rfl, _, rfl, iteF ?_⟩
  refine ⟨_, rfl, ea, rfl, ee, _, rfl, ea, rfl, ee, _, rfl, ea, rfl, ee, (by show 3 ≤ sizeLine; decide), fun p1 hp1 => ?_⟩
  have s2 := Same.new (o := .lst [.bl false, .bl false, .bl false]) hp1
  have ee1 := s2 _ _ ee
  dsimp only [gName]
  refine ⟨_, rfl, _, rfl, ea, rfl, ee1, _, rfl, ea, rfl, ee1, _, rfl, ea, rfl, ee1, (by show 3 ≤ sizeLine; decide), fun p2 hp2 => ?_⟩
  have s3 := Same.new (o := .lst [.bl false, .bl false, .bl false]) hp2
  refine ⟨p1, p2, _, _, rfl, rfl, s3 _ _ upd_same, upd_same, (by show 6 ≤ sizeLine; decide), fun p3 hp3 => ?_⟩
  have s4 := Same.new (o := .lst ([.bl false, .bl false, .bl false] ++ [.bl false, .bl false, .bl false])) hp3
  have ee3 := s4 _ _ (s3 _ _ ee1)
  dsimp only [gName]
  refine ⟨_, rfl, ea, rfl, ee3, _, rfl, iteF ⟨_, rfl, ea, rfl, ee3, _, rfl, iteF ?_⟩⟩
  refine ⟨_, rfl, p3, _, rfl, .inl (SqL.of upd_same), rfl, (by decide), _, rfl, ?_⟩
  exact iteF (qn hn _ (((sA.trans s2).trans s3).trans s4))
theorem same_step {H H1 H2 : Hp} {b : Addr} (s : Same H H1) (st : Step b H1 H2) (hb : H b = none) : Same H H2 := fun c o e => st.keep c o (ne_of_none e hb) (s c o e)
theorem sc_law : FnScope ["_law_script", "_law_box_here", "_law_worth_here", "_law_text_here", "_law_k", "_law_spoilt_here", "_law_due_here", "_law_found"] ["_law_script"] (defScope sLaw) := ⟨rfl, rfl, rfl, by decide +kernel, rfl, by decide +kernel, by decide +kernel⟩
theorem ok_law (F : Fun K "law" "law" sLaw f fd) (G_lalike : Have P w K mg base "_law_alike" k ["_law_found", "_law_due_here"] (spAlike 16)) (G_read_worth : HaveX P w K mg base "read_worth" k ["text"] (spRead ANoText)) (G_lread : Have P w K mg base "_law_read" k ["_law_text_here"] (spLRead)) (G_ldue : Have P w K mg base "_law_due" k ["_law_text_here"] (spDue)) (G_lspoilt : Have P w K mg base "_law_spoilt" k ["_law_text_here", "_law_box_here"] (spSpoilt)) (G_lbox : Have P w K mg base "_law_box" k ["_law_script", "_law_k"] (spBox K)) (G_show_worth : Have P w K mg base "show_worth" k ["worth"] (spShow 14)) (G_lworth : Have P w K mg base "_law_worth" k ["_law_box_here", "_law_room", "_law_deep"] (spWorth 13)) (G_ltake : Have P w K mg base "_law_take" k ["_law_box_here", "_law_wide"] (spTake)) (m_len : mg "len" = none) (m_range : mg "range" = none) : FnOk P w K mg base CX0 (k + 1) f fd ["_law_script"] (spLaw K) := by
  refine F.okQ sc_law (fun vs H Q E h => ?_) (fun cdv A outer s H vs Q E hr h => ?_)
  · obtain ⟨a, ns, rfl, _⟩ := h
    rfl
  obtain ⟨a, ns, rfl, hS, h63, q⟩ := h
  refine ⟨_, (pss_cons (ps_set (i := 1) sc_law.nd rfl (Or.inl rfl) (pe_fn G_lbox hr rfl (pa_cons (pv 0) (pa_cons pe_int pa_nil))))
    (pss_cons (ps_set (i := 2) sc_law.nd rfl (Or.inl rfl) (pe_fn G_lworth hr rfl (pa_cons (pv 1) (pa_cons (pe_op op_add pe_int (pe_fn G_ltake hr rfl (pa_cons (pv 1) (pa_cons pe_int pa_nil)))) (pa_cons pe_int pa_nil)))))
    (pss_cons (ps_set (i := 3) sc_law.nd rfl (Or.inl rfl) (pe_fn G_show_worth hr rfl (pa_cons (pv 2) pa_nil)))
    (pss_cons (ps_for PassesOwn.never rfl (pi_range2 rfl m_range (pa_cons pe_int (pa_cons (pe_op op_add pe_int (pe_callB call_len rfl m_len PySem.boot_len (pa_cons (pe_slice sl_list (pv 0) (po_some pe_int) (po_some pe_int)) pa_nil))) pa_nil))) (pg_name (i := 4) sc_law.nd rfl (Or.inl rfl)) (pss_cons (ps_set (i := 5) sc_law.nd rfl (Or.inl rfl) (pe_fn G_lspoilt hr rfl (pa_cons (pv 3) (pa_cons (pe_fn G_lbox hr rfl (pa_cons (pv 0) (pa_cons (pv 4) pa_nil))) pa_nil))))
    (pss_cons (ps_set (i := 6) sc_law.nd rfl (Or.inl rfl) (pe_fn G_ldue hr rfl (pa_cons (pv 5) pa_nil)))
    (pss_cons (ps_set (i := 7) sc_law.nd rfl (Or.inl rfl) (pe_fn G_lread hr rfl (pa_cons (pv 5) pa_nil)))
    (pss_cons (ps_if (PW.pt (pw_and (pt_cmp (pc_isN (pv 6))) (pw_and1 (pt_cmp (pc_notN (pv 7)))))) (pss_one (ps_ret pe_bl)) pss_nil)
    (pss_cons (ps_if (PW.pt (pw_and (pt_cmp (pc_notN (pv 6))) (pw_and1 (PW.pt (pw_or (pt_cmp (pc_isN (pv 7))) (pw_or1 (pt_not (pt_val (pe_fn G_lalike hr rfl (pa_cons (pv 7) (pa_cons (pv 6) pa_nil))))))))))) (pss_one (ps_ret pe_bl)) pss_nil)
    (pss_one (ps_if (pt_not (pt_val (pe_fn G_lalike hr rfl (pa_cons (pe_fnX G_read_worth hr letsN rfl (pa_cons (pv 3) pa_nil)) (pa_cons (pv 2) pa_nil))))) (pss_one (ps_ret pe_bl)) pss_nil))))))))
    (pss_one (ps_ret pe_bl)))))), ?_⟩
  refine ⟨_, rfl, a, ns, 1, rfl, hS, by decide, fun x1 f1 m1 b hb => ?_⟩
  have hbox : IsBox (upd H b (.lst [.int x1, .int f1, .int m1])) b := ⟨_, _, _, upd_same⟩
  have s1 : Same H (upd H b (.lst [.int x1, .int f1, .int m1])) := Same.new hb
  refine ⟨_, rfl, _, rfl, b, 20, rfl, hbox, by decide, by decide, fun r H1 r0 r1 st1 => ?_⟩
  refine ⟨_, _, rfl, rfl, b, 1 + r, 6, rfl, st1.box, by omega, by omega, by decide, by decide, fun v x H2 rx okx dx sx st2 => ?_⟩
  have s2 := same_step s1 (st1.trans st2) hb
  dsimp only [gName]
  refine ⟨_, rfl, v, x, rfl, rx, okx, by omega, by omega, fun s' H3 hs s3 => ?_⟩
  have s3' := s2.trans s3
  have rx3 := rx.mono (same_tups s3)
  have slen : s'.length ≤ 30000 := by
    have := sh_len x okx
    rw [← hs, str_len] at this
    omega
  have spl : SpellO s'.cps.toList (some (pcT (trW numC x))) := by
    rw [hs, ← shT_W]
    exact (spell_tree (trW_ok x okx)).o
  have rdx := read_shown okx (by omega) (by omega)
  dsimp only [gName]
  refine ⟨_, rfl, _, rfl, _, rfl, a, _, rfl, s3'.seq hS, fun c hc => ?_⟩
  have hcut : (cutV (ns.map V.int) (some 2) (some 14)).length ≤ 63 := Nat.le_trans (cutV_length _ _ _) (by rw [List.length_map]; exact h63)
  refine ⟨_, _, rfl, .inl ⟨_, SqL.of upd_same, rfl⟩, _, _, rfl, rfl, 2, _, rfl, ⟨by omega, by omega, by omega, by omega⟩, for_range (fun i σ' H' => ∃ o4 o5 o6 o7, σ' = [some (.ref a), some (.ref b), some v, some (.str s'), o4, o5, o6, o7] ∧ RW H' v x ∧ Same H H')
    ⟨none, none, none, none, rfl, rx3.mono (same_tups (Same.new hc)), s3'.trans (Same.new hc)⟩ (fun i σ' H' hi h => ?_) (fun σ' H' h => ?_)⟩
  rotate_left
  · exact q _
  obtain ⟨o4, o5, o6, o7, rfl, rv, sm⟩ := h
  dsimp only [gName]
  refine ⟨_, rfl, _, rfl, _, rfl, a, ns, _, rfl, sm.seq hS, by omega, fun x2 f2 m2 b2 hb2 => ?_⟩
  have hbox2 : IsBox (upd H' b2 (.lst [.int x2, .int f2, .int m2])) b2 := ⟨_, _, _, upd_same⟩
  have sA : Same H' (upd H' b2 (.lst [.int x2, .int f2, .int m2])) := Same.new hb2
  refine ⟨s', b2, rfl, hbox2, slen, fun t H7 htl st7 => ?_⟩
  have s7 : Same H' H7 := same_step sA st7 hb2
  obtain ⟨O, hO⟩ := spell_any _ t.cps.toList (Nat.le_refl _)
  dsimp only [gName]
  refine ⟨_, rfl, t, O, rfl, hO, by omega, fun w hw p u H8 s8 ep ru => ?_, fun hn H8 s8 => ?_⟩
  · obtain ⟨wok, wdp⟩ := read_ok hw
    dsimp only [gName]
    refine ⟨_, rfl, t, O, rfl, hO, by omega, fun w2 hw2 p2 u2 H9 s9 ep2 ru2 => ?_, fun hn => by rw [hw] at hn; cases hn⟩
    rw [hw] at hw2
    cases hw2
    have s79 := (s7.trans s8).trans s9
    have rp : RW H9 (.ref p) (.lst [w]) := .lst (s9 _ _ ep) rfl fun i v' w' e1 e2 => by
      match i with
      | 0 => cases e1; cases e2; exact ru.mono (same_tups s9)
      | j + 1 => simp at e1
    have rp2 : RW H9 (.ref p2) (.lst [w]) := .lst ep2 rfl fun i v' w' e1 e2 => by
      match i with
      | 0 => cases e1; cases e2; exact ru2
      | j + 1 => simp at e1
    dsimp only [gName]
    refine ⟨_, rfl, _, rfl, iteF (iteF ?_)⟩
    refine ⟨_, rfl, _, rfl, iteT ⟨_, rfl, _, rfl, iteF ⟨_, rfl, _, rfl, .ref p2, .ref p, .lst [w], rfl, rp2, rp, ⟨by show 1 ≤ 60; decide, wok, trivial⟩, ?_, fun H10 s10 => ⟨_, rfl, iteF ?_⟩⟩⟩⟩
    · show 1 + max w.depth 0 < 16
      omega
    have sG := s79.trans s10
    refine ⟨_, rfl, s', some (pcT (trW numC x)), rfl, spl, by omega, fun w' hw' u' G2 s2 ru' => ?_, fun hn => by rw [rdx] at hn; cases hn⟩
    rw [rdx] at hw'
    cases hw'
    refine ⟨_, rfl, u', v, x, rfl, ru', (rv.mono (same_tups sG)).mono (same_tups s2), okx, by omega, fun G3 s3 => ⟨_, rfl, iteF ?_⟩⟩
    exact ⟨_, _, _, _, rfl, ((rv.mono (same_tups sG)).mono (same_tups s2)).mono (same_tups s3), (sm.trans sG).trans (s2.trans s3)⟩
  · dsimp only [gName]
    refine ⟨_, rfl, t, O, rfl, hO, by omega, fun w2 hw2 => (by rw [hn] at hw2; cases hw2), fun _ H9 s9 => ?_⟩
    have sG := (s7.trans s8).trans s9
    dsimp only [gName]
    refine ⟨_, rfl, _, rfl, iteT ⟨_, rfl, _, rfl, iteF ?_⟩⟩
    refine ⟨_, rfl, _, rfl, iteF (iteF ?_)⟩
    refine ⟨_, rfl, s', some (pcT (trW numC x)), rfl, spl, by omega, fun w' hw' u' G2 s2 ru' => ?_, fun hn => by rw [rdx] at hn; cases hn⟩
    rw [rdx] at hw'
    cases hw'
    refine ⟨_, rfl, u', v, x, rfl, ru', (rv.mono (same_tups sG)).mono (same_tups s2), okx, by omega, fun G3 s3 => ⟨_, rfl, iteF ?_⟩⟩
    exact ⟨_, _, _, _, rfl, ((rv.mono (same_tups sG)).mono (same_tups s2)).mono (same_tups s3), (sm.trans sG).trans (s2.trans s3)⟩
end
end D

set_option Elab.async false
set_option linter.all false
set_option maxRecDepth 100000
set_option maxHeartbeats 4000000
theorem PySem.W.Fast.tw13403431819125462925 : True := trivial
theorem PySem.W.Fast.tw18412833692109114769 : True := trivial
theorem PySem.W.Fast.tw8326650850319645256 : True := trivial
theorem PySem.W.Fast.tw5245721032400631252 : True := trivial
theorem PySem.W.Fast.tw16863131340220897457 : True := trivial
theorem PySem.W.Fast.tw4607195062308437173 : True := trivial
theorem PySem.W.Fast.tw14505268291510969196 : True := trivial
theorem PySem.W.Fast.tw14144263046620126750 : True := trivial
theorem PySem.W.Fast.tw7843530322277826282 : True := trivial
theorem PySem.W.Fast.tw689729322935200957 : True := trivial
theorem PySem.W.Fast.tw4208203449641902698 : True := trivial
theorem PySem.W.Fast.tw10499585030661281443 : True := trivial
theorem PySem.W.Fast.tw9628438372382448038 : True := trivial
theorem PySem.W.Fast.tw15411585593727737579 : True := trivial
theorem PySem.W.Fast.tw1054287891433189473 : True := trivial
theorem PySem.W.Fast.tw2638596920012528521 : True := trivial
theorem PySem.W.Fast.tw2847088047417843519 : True := trivial
theorem PySem.W.Fast.tw10996323025236345109 : True := trivial
theorem PySem.W.Fast.tw9702077629829751451 : True := trivial
theorem PySem.W.Fast.tw1225932777853541385 : True := trivial
theorem PySem.W.Fast.tw2329581057125365057 : True := trivial
theorem PySem.W.Fast.tw2122723939166560636 : True := trivial
theorem PySem.W.Fast.tw1325751339644813560 : True := trivial
theorem PySem.W.Fast.tw10227383825557198920 : True := trivial
theorem PySem.W.Fast.tw13467848938300617484 : True := trivial
theorem PySem.W.Fast.tw8348142994655163147 : True := trivial
theorem PySem.W.Fast.tw15817377982634565654 : True := trivial
theorem PySem.W.Fast.tw12888074723588552213 : True := trivial
theorem PySem.W.Fast.tw8413701000483378554 : True := trivial
theorem PySem.W.Fast.tw15833552243180242697 : True := trivial
theorem PySem.W.Fast.tw10684918357756039225 : True := trivial
theorem PySem.W.Fast.tw3963684759538782019 : True := trivial
theorem PySem.W.Fast.tw15779413051357585709 : True := trivial
theorem PySem.W.Fast.tw8003832725686203201 : True := trivial
theorem PySem.W.Fast.tw10818206877411788760 : True := trivial
theorem PySem.W.Fast.tw6795410423795531926 : True := trivial
theorem PySem.W.Fast.tw13210635881368028751 : True := trivial
theorem PySem.W.Fast.tw2264113115716459660 : True := trivial
theorem PySem.W.Fast.tw16762034314498744510 : True := trivial
theorem PySem.W.Fast.tw10195792091127681164 : True := trivial
theorem PySem.W.Fast.tw11513131699992408641 : True := trivial
theorem PySem.W.Fast.tw14466226678912156336 : True := trivial
theorem PySem.W.Fast.tw2513320555435300678 : True := trivial
theorem PySem.W.Fast.tw3698508453855496352 : True := trivial
theorem PySem.W.Fast.tw9163068571423156386 : True := trivial
theorem PySem.W.Fast.tw17781312284201575577 : True := trivial
theorem PySem.W.Fast.tw14781117489480087409 : True := trivial
theorem PySem.W.Fast.tw3080402706216134457 : True := trivial
theorem PySem.W.Fast.tw16860758213883491073 : True := trivial
theorem PySem.W.Fast.tw12157207100640333065 : True := trivial
theorem PySem.W.Fast.tw8529471097446119336 : True := trivial
theorem PySem.W.Fast.tw5911213750429421016 : True := trivial
theorem PySem.W.Fast.tw9257329547999852015 : True := trivial
theorem PySem.W.Fast.tw16793510588581913057 : True := trivial
theorem PySem.W.Fast.tw3615214890123361469 : True := trivial
theorem PySem.W.Fast.tw9216627597696947149 : True := trivial
theorem PySem.W.Fast.tw6156189612755518208 : True := trivial
theorem PySem.W.Fast.tw7277489357116370936 : True := trivial
theorem PySem.W.Fast.tw18203740775616892458 : True := trivial
theorem PySem.W.Fast.tw9536297265329934598 : True := trivial
theorem PySem.W.Fast.tw182359259947638668 : True := trivial
theorem PySem.W.Fast.tw10975208931923109242 : True := trivial
theorem PySem.W.Fast.tw10614267345600923270 : True := trivial
theorem PySem.W.Fast.tw16423347026250886352 : True := trivial
theorem PySem.W.Fast.tw13920493845926926749 : True := trivial
theorem PySem.W.Fast.tw13607085552593748088 : True := trivial
theorem PySem.W.Fast.tw17663904830081119590 : True := trivial
theorem PySem.W.Fast.tw16052337678703699967 : True := trivial
theorem PySem.W.Fast.tw9410672597008673771 : True := trivial
theorem PySem.W.Fast.tw2750607335256210150 : True := trivial
theorem PySem.W.Fast.tw12006266872976648070 : True := trivial
theorem PySem.W.Fast.tw7969121580151067863 : True := trivial
theorem PySem.W.Fast.tw4949332371007137809 : True := trivial
theorem PySem.W.Fast.tw14192082375432772807 : True := trivial
theorem PySem.W.Fast.tw7349922043234143519 : True := trivial
theorem PySem.W.Fast.tw14138367338958694646 : True := trivial
theorem PySem.W.Fast.tw14715987069259951819 : True := trivial
theorem PySem.W.Fast.tw12077565998671260162 : True := trivial
theorem PySem.W.Fast.tw5576053013834657150 : True := trivial
theorem PySem.W.Fast.tw17378414711207142890 : True := trivial
theorem PySem.W.Fast.tw7059753924495429897 : True := trivial
theorem PySem.W.Fast.tw18118601588392060116 : True := trivial
theorem PySem.W.Fast.tw9736122489808948430 : True := trivial
theorem PySem.W.Fast.tw10109006306480102891 : True := trivial
theorem PySem.W.Fast.tw13820000659968192738 : True := trivial
theorem PySem.W.Fast.tw15723605995214456112 : True := trivial
theorem PySem.W.Fast.tw15961406489968897271 : True := trivial
theorem PySem.W.Fast.tw7120052913779561595 : True := trivial
theorem PySem.W.Fast.tw15905706129008023933 : True := trivial
theorem PySem.W.Fast.tw3287838668761194323 : True := trivial
theorem PySem.W.Fast.tw7774341479380868112 : True := trivial
theorem PySem.W.Fast.tw5892433902023369569 : True := trivial
theorem PySem.W.Fast.tw1362603463186522909 : True := trivial
theorem PySem.W.Fast.tw5866000879927994571 : True := trivial
theorem PySem.W.Fast.tw9594361619025134858 : True := trivial
theorem PySem.W.Fast.tw14832406333035686227 : True := trivial
theorem PySem.W.Fast.tw6750625567091612512 : True := trivial
theorem PySem.W.Fast.tw17959800254935383345 : True := trivial
theorem PySem.W.Fast.tw809111633014949797 : True := trivial
theorem PySem.W.Fast.tw255326111359620345 : True := trivial
theorem PySem.W.Fast.tw11861375194995431865 : True := trivial
theorem PySem.W.Fast.tw12737395801146127837 : True := trivial
theorem PySem.W.Fast.tw13233277674198356902 : True := trivial
theorem PySem.W.Fast.tw11178945092463275110 : True := trivial
theorem PySem.W.Fast.tw4553705148290886151 : True := trivial
theorem PySem.W.Fast.tw14345182621415633880 : True := trivial
theorem PySem.W.Fast.tw15962386181125730976 : True := trivial
theorem PySem.W.Fast.tw7130009044764363474 : True := trivial
theorem PySem.W.Fast.tw15851874049482305382 : True := trivial
theorem PySem.W.Fast.tw7018248313241255979 : True := trivial
theorem PySem.W.Fast.tw7287422523958861348 : True := trivial
theorem PySem.W.Fast.tw11058364462006588052 : True := trivial
theorem PySem.W.Fast.tw13601223906927848664 : True := trivial
theorem PySem.W.Fast.tw14603554564199572648 : True := trivial
theorem PySem.W.Fast.tw5428580321413239229 : True := trivial
theorem PySem.W.Fast.tw17860866802755206652 : True := trivial
theorem PySem.W.Fast.tw597823858834978376 : True := trivial
theorem PySem.W.Fast.tw7437436698298960536 : True := trivial
theorem PySem.W.Fast.tw5565253113901785014 : True := trivial
theorem PySem.W.Fast.tw1826803390815904505 : True := trivial
theorem PySem.W.Fast.tw7757736479633309448 : True := trivial
theorem PySem.W.Fast.tw11183999478551672728 : True := trivial
theorem PySem.W.Fast.tw17530277870717485588 : True := trivial
theorem PySem.W.Fast.tw6401640095392592891 : True := trivial
theorem PySem.W.Fast.tw11815226133888223053 : True := trivial
theorem PySem.W.Fast.tw17945479219641487747 : True := trivial
theorem PySem.W.Fast.tw9319335884796745036 : True := trivial
theorem PySem.W.Fast.tw17221473037415656585 : True := trivial
theorem PySem.W.Fast.tw2394619401232687782 : True := trivial
theorem PySem.W.Fast.tw9690102314942592525 : True := trivial
theorem PySem.W.Fast.tw11585555489095226535 : True := trivial
theorem PySem.W.Fast.tw13527952457616536339 : True := trivial
theorem PySem.W.Fast.tw5805095725043174322 : True := trivial
theorem PySem.W.Fast.tw8118202945401963357 : True := trivial
theorem PySem.W.Fast.tw5419366479779540525 : True := trivial
theorem PySem.W.Fast.tw15572137704902882796 : True := trivial
theorem PySem.W.Fast.tw15402871897437889577 : True := trivial
theorem PySem.W.Fast.tw13535172032729143442 : True := trivial
theorem PySem.W.Fast.tw9417738838132677106 : True := trivial
theorem PySem.W.Fast.tw12818175970650881146 : True := trivial
theorem PySem.W.Fast.tw14208930621707611728 : True := trivial
theorem PySem.W.Fast.tw15731838952924634719 : True := trivial
theorem PySem.W.Fast.tw13833993619770022361 : True := trivial
theorem PySem.W.Fast.tw10903788926956457657 : True := trivial
theorem PySem.W.Fast.tw247751573955700387 : True := trivial
theorem PySem.W.Fast.tw8966957779046456652 : True := trivial
theorem PySem.W.Fast.tw9486552985555098584 : True := trivial
theorem PySem.W.Fast.tw13444178109851585936 : True := trivial
theorem PySem.W.Fast.tw12269994015197025745 : True := trivial
theorem PySem.W.Fast.tw4717679872660815719 : True := trivial
namespace D
open PySem L2
theorem none_ok {P : Program} {w : World} {K : PySem.W.Frag} {mg : Str → Option Value} {base : Heap} {f : Addr} {fd : FuncData} {ps : List Str} {sp : Sp} {CX : CXT} (no : ∀ vs H Q E, ¬ sp vs H Q E) (k : Nat) : FnOk P w K mg base CX k f fd ps sp :=
  ⟨fun vs H Q E h => absurd h (no vs H Q E), fun A outer s H args us vs Q E _ _ _ _ h => absurd h (no vs H Q E)⟩
def lvP (L : Nat) : Nat → Nat
  | 0 => L
  | n + 1 => lvP L n + 2
theorem us_1 {us : List Value} (h : us.length = 1) : ∃ x0, us = [x0] := by
  match us, h with
  | [x0], _ => exact ⟨x0, rfl⟩
theorem us_2 {us : List Value} (h : us.length = 2) : ∃ x0 x1, us = [x0, x1] := by
  match us, h with
  | [x0, x1], _ => exact ⟨x0, x1, rfl⟩
theorem us_3 {us : List Value} (h : us.length = 3) : ∃ x0 x1 x2, us = [x0, x1, x2] := by
  match us, h with
  | [x0, x1, x2], _ => exact ⟨x0, x1, x2, rfl⟩
abbrev nI (K : PySem.W.Frag) (s : Str) (f : Addr) : Prop := PySem.W.nsIn K mainGlobals s = some (some (.ref f))
abbrev lI (K : PySem.W.Frag) (f : Addr) (s : Str) (t : Stmt) (oc : Value) (od : Option Addr) (kV dc pm : Value) (an : Option Addr) (cd ct : Value) (sl : Array (Option Value)) : Prop := K.lookup f = some ⟨oc, od, .func (PySem.W.fnOf s s (defArgs t) (defBody t) (defScope t) .none kV dc pm an cd ct), sl⟩
abbrev cI (K : PySem.W.Frag) (c : Value) (s : Str) : Prop := PySem.W.codeIn K c s = true
abbrev kI (K : PySem.W.Frag) (f : Addr) : Prop := PySem.W.keepIn K (.ref f) = true
theorem all_mk {l : PySem.W.OpenLaw} {w : World} {K : PySem.W.Frag} {h : Heap} {mg : Str → Option Value} {fa f0 f1 f2 f3 f4 f5 f6 f7 f8 f9 f10 f11 f12 f13 f14 f15 f16 f17 f18 f19 f20 f21 f22 f23 f24 f25 f26 f27 f28 : Addr} (X : K.In h) (G : h.Ns mainGlobals mg) (hfa : mg "law" = some (.ref fa))
    {od0 an0 od1 an1 od2 an2 od3 an3 od4 an4 od5 an5 od6 an6 od7 an7 od8 an8 od9 an9 od10 an10 od11 an11 od12 an12 od13 an13 od14 an14 od15 an15 od16 an16 od17 an17 od18 an18 od19 an19 od20 an20 od21 an21 od22 an22 od23 an23 od24 an24 od25 an25 od26 an26 od27 an27 od28 an28 : Option Addr} {sl0 sl1 sl2 sl3 sl4 sl5 sl6 sl7 sl8 sl9 sl10 sl11 sl12 sl13 sl14 sl15 sl16 sl17 sl18 sl19 sl20 sl21 sl22 sl23 sl24 sl25 sl26 sl27 sl28 : Array (Option Value)} {oc0 kV0 dc0 pm0 cd0 ct0 oc1 kV1 dc1 pm1 cd1 ct1 oc2 kV2 dc2 pm2 cd2 ct2 oc3 kV3 dc3 pm3 cd3 ct3 oc4 kV4 dc4 pm4 cd4 ct4 oc5 kV5 dc5 pm5 cd5 ct5 oc6 kV6 dc6 pm6 cd6 ct6 oc7 kV7 dc7 pm7 cd7 ct7 oc8 kV8 dc8 pm8 cd8 ct8 oc9 kV9 dc9 pm9 cd9 ct9 oc10 kV10 dc10 pm10 cd10 ct10 oc11 kV11 dc11 pm11 cd11 ct11 oc12 kV12 dc12 pm12 cd12 ct12 oc13 kV13 dc13 pm13 cd13 ct13 oc14 kV14 dc14 pm14 cd14 ct14 oc15 kV15 dc15 pm15 cd15 ct15 oc16 kV16 dc16 pm16 cd16 ct16 oc17 kV17 dc17 pm17 cd17 ct17 oc18 kV18 dc18 pm18 cd18 ct18 oc19 kV19 dc19 pm19 cd19 ct19 oc20 kV20 dc20 pm20 cd20 ct20 oc21 kV21 dc21 pm21 cd21 ct21 oc22 kV22 dc22 pm22 cd22 ct22 oc23 kV23 dc23 pm23 cd23 ct23 oc24 kV24 dc24 pm24 cd24 ct24 oc25 kV25 dc25 pm25 cd25 ct25 oc26 kV26 dc26 pm26 cd26 ct26 oc27 kV27 dc27 pm27 cd27 ct27 oc28 kV28 dc28 pm28 cd28 ct28 : Value}
    {ANoText : Addr}
    (aX_NoText : PySem.W.nsIn K mainGlobals "NoText" = some (some (.ref ANoText)))
    (eX_NoText : PySem.W.excIn K ANoText vErr "ValueError.__new__" = true)
    {AForgeError : Addr}
    (aX_ForgeError : PySem.W.nsIn K mainGlobals "ForgeError" = some (some (.ref AForgeError)))
    {ANoName : Addr}
    (aX_NoName : PySem.W.nsIn K mainGlobals "NoName" = some (some (.ref ANoName)))
    {ANoRow : Addr}
    (aX_NoRow : PySem.W.nsIn K mainGlobals "NoRow" = some (some (.ref ANoRow)))
    {ANoRule : Addr}
    (aX_NoRule : PySem.W.nsIn K mainGlobals "NoRule" = some (some (.ref ANoRule)))
    {ANoStep : Addr}
    (aX_NoStep : PySem.W.nsIn K mainGlobals "NoStep" = some (some (.ref ANoStep)))
    {ANoThing : Addr}
    (aX_NoThing : PySem.W.nsIn K mainGlobals "NoThing" = some (some (.ref ANoThing)))
    {ANoWorth : Addr}
    (aX_NoWorth : PySem.W.nsIn K mainGlobals "NoWorth" = some (some (.ref ANoWorth)))
    (ix1 : PySem.W.findIn K (.ref ANoText) "__getattribute__" = some (some (.builtin "BaseException.__getattribute__")))
    (ix2 : PySem.W.findIn K (.ref ANoText) "__getattr__" = some none)
    (ix3 : PySem.W.findIn K (.ref ANoText) "__class__" = some (some (.builtin "object.__class__")))
    (ix4 : PySem.W.specialIn K (.builtin "object.__class__") "__get__" = some (some (.builtin "getset_descriptor.__get__")))
    (ix5 : PySem.W.takesIn K (.builtin "object.__class__") = some true)
    (ix6 : PySem.W.mroIn K ANoText (.type "object") = some true)
    (ix7 : PySem.W.mroIn K ANoText (.type "BaseException") = some true)
    (xm : PySem.W.exmOne K (.ref ANoText) (.ref AForgeError) = some true)
    (kT_NoText : PySem.W.kitOne K (.ref ANoText) (.ref ANoText) = some true)
    (kT_ValueError : PySem.W.kitOne K (.ref ANoText) (.type "ValueError") = some true)
    (kT_NoName : PySem.W.kitOne K (.ref ANoText) (.ref ANoName) = some false)
    (kT_NoRow : PySem.W.kitOne K (.ref ANoText) (.ref ANoRow) = some false)
    (kT_NoRule : PySem.W.kitOne K (.ref ANoText) (.ref ANoRule) = some false)
    (kT_NoStep : PySem.W.kitOne K (.ref ANoText) (.ref ANoStep) = some false)
    (kT_NoThing : PySem.W.kitOne K (.ref ANoText) (.ref ANoThing) = some false)
    (kT_NoWorth : PySem.W.kitOne K (.ref ANoText) (.ref ANoWorth) = some false)
    (a0 : nI K "word_end" f0) (l0 : lI K f0 "word_end" s_word_end oc0 od0 kV0 dc0 pm0 an0 cd0 ct0 sl0) (c0 : cI K cd0 "word_end") (k0 : kI K f0)
    (a1 : nI K "text_end" f1) (l1 : lI K f1 "text_end" s_text_end oc1 od1 kV1 dc1 pm1 an1 cd1 ct1 sl1) (c1 : cI K cd1 "text_end") (k1 : kI K f1)
    (a2 : nI K "pieces_of" f2) (l2 : lI K f2 "pieces_of" s_pieces_of oc2 od2 kV2 dc2 pm2 an2 cd2 ct2 sl2) (c2 : cI K cd2 "pieces_of") (k2 : kI K f2)
    (a3 : nI K "trees_of" f3) (l3 : lI K f3 "trees_of" s_trees_of oc3 od3 kV3 dc3 pm3 an3 cd3 ct3 sl3) (c3 : cI K cd3 "trees_of") (k3 : kI K f3)
    (a4 : nI K "only_tree" f4) (l4 : lI K f4 "only_tree" s_only_tree oc4 od4 kV4 dc4 pm4 an4 cd4 ct4 sl4) (c4 : cI K cd4 "only_tree") (k4 : kI K f4)
    (a5 : nI K "is_number" f5) (l5 : lI K f5 "is_number" s_is_number oc5 od5 kV5 dc5 pm5 an5 cd5 ct5 sl5) (c5 : cI K cd5 "is_number") (k5 : kI K f5)
    (a6 : nI K "is_sign" f6) (l6 : lI K f6 "is_sign" s_is_sign oc6 od6 kV6 dc6 pm6 an6 cd6 ct6 sl6) (c6 : cI K cd6 "is_sign") (k6 : kI K f6)
    (a7 : nI K "fits_alone" f7) (l7 : lI K f7 "fits_alone" s_fits_alone oc7 od7 kV7 dc7 pm7 an7 cd7 ct7 sl7) (c7 : cI K cd7 "fits_alone") (k7 : kI K f7)
    (a8 : nI K "size_alone" f8) (l8 : lI K f8 "size_alone" sSizeA oc8 od8 kV8 dc8 pm8 an8 cd8 ct8 sl8) (c8 : cI K cd8 "size_alone") (k8 : kI K f8)
    (a9 : nI K "is_worth" f9) (l9 : lI K f9 "is_worth" s_is_worth oc9 od9 kV9 dc9 pm9 an9 cd9 ct9 sl9) (c9 : cI K cd9 "is_worth") (k9 : kI K f9)
    (a10 : nI K "show_worth" f10) (l10 : lI K f10 "show_worth" s_show_worth oc10 od10 kV10 dc10 pm10 an10 cd10 ct10 sl10) (c10 : cI K cd10 "show_worth") (k10 : kI K f10)
    (a11 : nI K "writes_number" f11) (l11 : lI K f11 "writes_number" s_writes_number oc11 od11 kV11 dc11 pm11 an11 cd11 ct11 sl11) (c11 : cI K cd11 "writes_number") (k11 : kI K f11)
    (a12 : nI K "number_of" f12) (l12 : lI K f12 "number_of" s_number_of oc12 od12 kV12 dc12 pm12 an12 cd12 ct12 sl12) (c12 : cI K cd12 "number_of") (k12 : kI K f12)
    (a13 : nI K "worth_of_tree" f13) (l13 : lI K f13 "worth_of_tree" s_worth_of_tree oc13 od13 kV13 dc13 pm13 an13 cd13 ct13 sl13) (c13 : cI K cd13 "worth_of_tree") (k13 : kI K f13)
    (a14 : nI K "read_worth" f14) (l14 : lI K f14 "read_worth" s_read_worth oc14 od14 kV14 dc14 pm14 an14 cd14 ct14 sl14) (c14 : cI K cd14 "read_worth") (k14 : kI K f14)
    (a15 : nI K "_law_cell" f15) (l15 : lI K f15 "_law_cell" sCell oc15 od15 kV15 dc15 pm15 an15 cd15 ct15 sl15) (c15 : cI K cd15 "_law_cell") (k15 : kI K f15)
    (a16 : nI K "_law_box" f16) (l16 : lI K f16 "_law_box" sBox oc16 od16 kV16 dc16 pm16 an16 cd16 ct16 sl16) (c16 : cI K cd16 "_law_box") (k16 : kI K f16)
    (a17 : nI K "_law_take" f17) (l17 : lI K f17 "_law_take" sTake oc17 od17 kV17 dc17 pm17 an17 cd17 ct17 sl17) (c17 : cI K cd17 "_law_take") (k17 : kI K f17)
    (a18 : nI K "_law_text" f18) (l18 : lI K f18 "_law_text" sText oc18 od18 kV18 dc18 pm18 an18 cd18 ct18 sl18) (c18 : cI K cd18 "_law_text") (k18 : kI K f18)
    (a19 : nI K "_law_number" f19) (l19 : lI K f19 "_law_number" sNumber oc19 od19 kV19 dc19 pm19 an19 cd19 ct19 sl19) (c19 : cI K cd19 "_law_number") (k19 : kI K f19)
    (a20 : nI K "_law_worth" f20) (l20 : lI K f20 "_law_worth" sWorth oc20 od20 kV20 dc20 pm20 an20 cd20 ct20 sl20) (c20 : cI K cd20 "_law_worth") (k20 : kI K f20)
    (a21 : nI K "_law_alike" f21) (l21 : lI K f21 "_law_alike" s_lalike oc21 od21 kV21 dc21 pm21 an21 cd21 ct21 sl21) (c21 : cI K cd21 "_law_alike") (k21 : kI K f21)
    (a22 : nI K "_law_bad" f22) (l22 : lI K f22 "_law_bad" s_lbad oc22 od22 kV22 dc22 pm22 an22 cd22 ct22 sl22) (c22 : cI K cd22 "_law_bad") (k22 : kI K f22)
    (a23 : nI K "_law_spoilt" f23) (l23 : lI K f23 "_law_spoilt" s_lspoilt oc23 od23 kV23 dc23 pm23 an23 cd23 ct23 sl23) (c23 : cI K cd23 "_law_spoilt") (k23 : kI K f23)
    (a24 : nI K "_law_parted" f24) (l24 : lI K f24 "_law_parted" s_lparted oc24 od24 kV24 dc24 pm24 an24 cd24 ct24 sl24) (c24 : cI K cd24 "_law_parted") (k24 : kI K f24)
    (a25 : nI K "_law_figures" f25) (l25 : lI K f25 "_law_figures" s_lfigures oc25 od25 kV25 dc25 pm25 an25 cd25 ct25 sl25) (c25 : cI K cd25 "_law_figures") (k25 : kI K f25)
    (a26 : nI K "_law_due" f26) (l26 : lI K f26 "_law_due" s_ldue oc26 od26 kV26 dc26 pm26 an26 cd26 ct26 sl26) (c26 : cI K cd26 "_law_due") (k26 : kI K f26)
    (a27 : nI K "_law_read" f27) (l27 : lI K f27 "_law_read" s_lread oc27 od27 kV27 dc27 pm27 an27 cd27 ct27 sl27) (c27 : cI K cd27 "_law_read") (k27 : kI K f27)
    (a28 : nI K "law" f28) (l28 : lI K f28 "law" sLaw oc28 od28 kV28 dc28 pm28 an28 cd28 ct28 sl28) (c28 : cI K cd28 "law") (k28 : kI K f28)
    (z0 : PySem.W.nsIn K mainGlobals "len" = some none)
    (z1 : PySem.W.nsIn K mainGlobals "tuple" = some none)
    (z2 : PySem.W.nsIn K mainGlobals "isinstance" = some none)
    (z3 : PySem.W.nsIn K mainGlobals "int" = some none)
    (z4 : PySem.W.nsIn K mainGlobals "bool" = some none)
    (z5 : PySem.W.nsIn K mainGlobals "ord" = some none)
    (z6 : PySem.W.nsIn K mainGlobals "str" = some none)
    (z7 : PySem.W.nsIn K mainGlobals "all" = some none)
    (z8 : PySem.W.nsIn K mainGlobals "abs" = some none)
    (z9 : PySem.W.nsIn K mainGlobals "range" = some none)
    (z10 : PySem.W.nsIn K mainGlobals "min" = some none)
    (z11 : PySem.W.nsIn K mainGlobals "ValueError" = some none)
    {t0 : Tok} (i0 : PySem.W.nsIn K mainGlobals "MOST_BRACKETS" = some (some (.int 100 t0)))
    {t1 : Tok} (i1 : PySem.W.nsIn K mainGlobals "PERCENT" = some (some (.int 37 t1)))
    {t2 : Tok} (i2 : PySem.W.nsIn K mainGlobals "MOST_SIGNS" = some (some (.int 400 t2)))
    {t3 : Tok} (i3 : PySem.W.nsIn K mainGlobals "MOST_ITEMS" = some (some (.int 60 t3)))
    {t4 : Tok} (i4 : PySem.W.nsIn K mainGlobals "MOST_DEPTH" = some (some (.int 12 t4)))
    {t5 : Tok} (i5 : PySem.W.nsIn K mainGlobals "MOST_SIZE" = some (some (.int 1000 t5)))
    {t6 : Tok} (i6 : PySem.W.nsIn K mainGlobals "MOST_FIGURES" = some (some (.int 60 t6)))
    {v0 : Tok} (s0 : PySem.W.nsIn K mainGlobals "WORD_ENDS" = some (some (.str " \n()\"" v0)))
    {v1 : Tok} (s1 : PySem.W.nsIn K mainGlobals "BETWEEN" = some (some (.str " \n" v1)))
    {v2 : Tok} (s2 : PySem.W.nsIn K mainGlobals "FIGURES" = some (some (.str "0123456789" v2)))
    : ∃ fd : FuncData, (∀ (s : Shared) (v : Value), BindsTo s fd ⟨[v], []⟩ [("_law_script", v)]) ∧ ∀ base : Heap, K.In base → base.Ns mainGlobals mg → FnOk l.prog w K mg base CX0 230 fa fd ["_law_script"] (spLaw K) := by
  have e := hfa.symm.trans (PySem.W.mg_of X G a28)
  cases e
  have F0 := fun_mk (st := s_word_end) l0 c0 k0
  have b0 := F0.binds (ps := ["text", "start"]) fun _ _ _ _ _ _ us hl => by obtain ⟨_, _, rfl⟩ := us_2 hl; rfl
  have n0 := PySem.W.mg_of X G a0
  have F1 := fun_mk (st := s_text_end) l1 c1 k1
  have b1 := F1.binds (ps := ["text", "start"]) fun _ _ _ _ _ _ us hl => by obtain ⟨_, _, rfl⟩ := us_2 hl; rfl
  have n1 := PySem.W.mg_of X G a1
  have F2 := fun_mk (st := s_pieces_of) l2 c2 k2
  have b2 := F2.binds (ps := ["text"]) fun _ _ _ _ _ _ us hl => by obtain ⟨_, rfl⟩ := us_1 hl; rfl
  have n2 := PySem.W.mg_of X G a2
  have F3 := fun_mk (st := s_trees_of) l3 c3 k3
  have b3 := F3.binds (ps := ["text"]) fun _ _ _ _ _ _ us hl => by obtain ⟨_, rfl⟩ := us_1 hl; rfl
  have n3 := PySem.W.mg_of X G a3
  have F4 := fun_mk (st := s_only_tree) l4 c4 k4
  have b4 := F4.binds (ps := ["text"]) fun _ _ _ _ _ _ us hl => by obtain ⟨_, rfl⟩ := us_1 hl; rfl
  have n4 := PySem.W.mg_of X G a4
  have F5 := fun_mk (st := s_is_number) l5 c5 k5
  have b5 := F5.binds (ps := ["thing"]) fun _ _ _ _ _ _ us hl => by obtain ⟨_, rfl⟩ := us_1 hl; rfl
  have n5 := PySem.W.mg_of X G a5
  have F6 := fun_mk (st := s_is_sign) l6 c6 k6
  have b6 := F6.binds (ps := ["sign"]) fun _ _ _ _ _ _ us hl => by obtain ⟨_, rfl⟩ := us_1 hl; rfl
  have n6 := PySem.W.mg_of X G a6
  have F7 := fun_mk (st := s_fits_alone) l7 c7 k7
  have b7 := F7.binds (ps := ["thing", "levels"]) fun _ _ _ _ _ _ us hl => by obtain ⟨_, _, rfl⟩ := us_2 hl; rfl
  have n7 := PySem.W.mg_of X G a7
  have F8 := fun_mk (st := sSizeA) l8 c8 k8
  have b8 := F8.binds (ps := ["worth"]) fun _ _ _ _ _ _ us hl => by obtain ⟨_, rfl⟩ := us_1 hl; rfl
  have n8 := PySem.W.mg_of X G a8
  have F9 := fun_mk (st := s_is_worth) l9 c9 k9
  have b9 := F9.binds (ps := ["thing"]) fun _ _ _ _ _ _ us hl => by obtain ⟨_, rfl⟩ := us_1 hl; rfl
  have n9 := PySem.W.mg_of X G a9
  have F10 := fun_mk (st := s_show_worth) l10 c10 k10
  have b10 := F10.binds (ps := ["worth"]) fun _ _ _ _ _ _ us hl => by obtain ⟨_, rfl⟩ := us_1 hl; rfl
  have n10 := PySem.W.mg_of X G a10
  have F11 := fun_mk (st := s_writes_number) l11 c11 k11
  have b11 := F11.binds (ps := ["word"]) fun _ _ _ _ _ _ us hl => by obtain ⟨_, rfl⟩ := us_1 hl; rfl
  have n11 := PySem.W.mg_of X G a11
  have F12 := fun_mk (st := s_number_of) l12 c12 k12
  have b12 := F12.binds (ps := ["word"]) fun _ _ _ _ _ _ us hl => by obtain ⟨_, rfl⟩ := us_1 hl; rfl
  have n12 := PySem.W.mg_of X G a12
  have F13 := fun_mk (st := s_worth_of_tree) l13 c13 k13
  have b13 := F13.binds (ps := ["tree"]) fun _ _ _ _ _ _ us hl => by obtain ⟨_, rfl⟩ := us_1 hl; rfl
  have n13 := PySem.W.mg_of X G a13
  have F14 := fun_mk (st := s_read_worth) l14 c14 k14
  have b14 := F14.binds (ps := ["text"]) fun _ _ _ _ _ _ us hl => by obtain ⟨_, rfl⟩ := us_1 hl; rfl
  have n14 := PySem.W.mg_of X G a14
  have F15 := fun_mk (st := sCell) l15 c15 k15
  have b15 := F15.binds (ps := ["_law_script", "_law_k"]) fun _ _ _ _ _ _ us hl => by obtain ⟨_, _, rfl⟩ := us_2 hl; rfl
  have n15 := PySem.W.mg_of X G a15
  have F16 := fun_mk (st := sBox) l16 c16 k16
  have b16 := F16.binds (ps := ["_law_script", "_law_k"]) fun _ _ _ _ _ _ us hl => by obtain ⟨_, _, rfl⟩ := us_2 hl; rfl
  have n16 := PySem.W.mg_of X G a16
  have F17 := fun_mk (st := sTake) l17 c17 k17
  have b17 := F17.binds (ps := ["_law_box_here", "_law_wide"]) fun _ _ _ _ _ _ us hl => by obtain ⟨_, _, rfl⟩ := us_2 hl; rfl
  have n17 := PySem.W.mg_of X G a17
  have F18 := fun_mk (st := sText) l18 c18 k18
  have b18 := F18.binds (ps := ["_law_box_here", "_law_most"]) fun _ _ _ _ _ _ us hl => by obtain ⟨_, _, rfl⟩ := us_2 hl; rfl
  have n18 := PySem.W.mg_of X G a18
  have F19 := fun_mk (st := sNumber) l19 c19 k19
  have b19 := F19.binds (ps := ["_law_box_here"]) fun _ _ _ _ _ _ us hl => by obtain ⟨_, rfl⟩ := us_1 hl; rfl
  have n19 := PySem.W.mg_of X G a19
  have F20 := fun_mk (st := sWorth) l20 c20 k20
  have b20 := F20.binds (ps := ["_law_box_here", "_law_room", "_law_deep"]) fun _ _ _ _ _ _ us hl => by obtain ⟨_, _, _, rfl⟩ := us_3 hl; rfl
  have n20 := PySem.W.mg_of X G a20
  have F21 := fun_mk (st := s_lalike) l21 c21 k21
  have b21 := F21.binds (ps := ["_law_found", "_law_due_here"]) fun _ _ _ _ _ _ us hl => by obtain ⟨_, _, rfl⟩ := us_2 hl; rfl
  have n21 := PySem.W.mg_of X G a21
  have F22 := fun_mk (st := s_lbad) l22 c22 k22
  have b22 := F22.binds (ps := ["_law_box_here"]) fun _ _ _ _ _ _ us hl => by obtain ⟨_, rfl⟩ := us_1 hl; rfl
  have n22 := PySem.W.mg_of X G a22
  have F23 := fun_mk (st := s_lspoilt) l23 c23 k23
  have b23 := F23.binds (ps := ["_law_text_here", "_law_box_here"]) fun _ _ _ _ _ _ us hl => by obtain ⟨_, _, rfl⟩ := us_2 hl; rfl
  have n23 := PySem.W.mg_of X G a23
  have F24 := fun_mk (st := s_lparted) l24 c24 k24
  have b24 := F24.binds (ps := ["_law_text_here"]) fun _ _ _ _ _ _ us hl => by obtain ⟨_, rfl⟩ := us_1 hl; rfl
  have n24 := PySem.W.mg_of X G a24
  have F25 := fun_mk (st := s_lfigures) l25 c25 k25
  have b25 := F25.binds (ps := ["_law_word"]) fun _ _ _ _ _ _ us hl => by obtain ⟨_, rfl⟩ := us_1 hl; rfl
  have n25 := PySem.W.mg_of X G a25
  have F26 := fun_mk (st := s_ldue) l26 c26 k26
  have b26 := F26.binds (ps := ["_law_text_here"]) fun _ _ _ _ _ _ us hl => by obtain ⟨_, rfl⟩ := us_1 hl; rfl
  have n26 := PySem.W.mg_of X G a26
  have F27 := fun_mk (st := s_lread) l27 c27 k27
  have b27 := F27.binds (ps := ["_law_text_here"]) fun _ _ _ _ _ _ us hl => by obtain ⟨_, rfl⟩ := us_1 hl; rfl
  have n27 := PySem.W.mg_of X G a27
  have F28 := fun_mk (st := sLaw) l28 c28 k28
  have m_len := PySem.W.mg_none_of X G z0
  have m_tuple := PySem.W.mg_none_of X G z1
  have m_isinstance := PySem.W.mg_none_of X G z2
  have m_int := PySem.W.mg_none_of X G z3
  have m_bool := PySem.W.mg_none_of X G z4
  have m_ord := PySem.W.mg_none_of X G z5
  have m_str := PySem.W.mg_none_of X G z6
  have m_all := PySem.W.mg_none_of X G z7
  have m_abs := PySem.W.mg_none_of X G z8
  have m_range := PySem.W.mg_none_of X G z9
  have m_min := PySem.W.mg_none_of X G z10
  have m_ValueError := PySem.W.mg_none_of X G z11
  have m_MOST_BRACKETS : ∃ t, mg "MOST_BRACKETS" = some (.int 100 t) := ⟨t0, PySem.W.mg_of X G i0⟩
  have m_PERCENT : ∃ t, mg "PERCENT" = some (.int 37 t) := ⟨t1, PySem.W.mg_of X G i1⟩
  have m_MOST_SIGNS : ∃ t, mg "MOST_SIGNS" = some (.int 400 t) := ⟨t2, PySem.W.mg_of X G i2⟩
  have m_MOST_ITEMS : ∃ t, mg "MOST_ITEMS" = some (.int 60 t) := ⟨t3, PySem.W.mg_of X G i3⟩
  have m_MOST_DEPTH : ∃ t, mg "MOST_DEPTH" = some (.int 12 t) := ⟨t4, PySem.W.mg_of X G i4⟩
  have m_MOST_SIZE : ∃ t, mg "MOST_SIZE" = some (.int 1000 t) := ⟨t5, PySem.W.mg_of X G i5⟩
  have m_MOST_FIGURES : ∃ t, mg "MOST_FIGURES" = some (.int 60 t) := ⟨t6, PySem.W.mg_of X G i6⟩
  have m_WORD_ENDS : ∃ t, mg "WORD_ENDS" = some (.str wEnds t) := ⟨v0, PySem.W.mg_of X G s0⟩
  have m_BETWEEN : ∃ t, mg "BETWEEN" = some (.str wGaps t) := ⟨v1, PySem.W.mg_of X G s1⟩
  have m_FIGURES : ∃ t, mg "FIGURES" = some (.str wFigs t) := ⟨v2, PySem.W.mg_of X G s2⟩
  refine ⟨PySem.W.fnOf "law" "law" (defArgs sLaw) (defBody sLaw) (defScope sLaw) .none kV28 dc28 pm28 an28 cd28 ct28, fun s v => .of_eq rfl, fun base _ _ => ?_⟩
  have h_word_end : Have l.prog w K mg base "word_end" 1 ["text", "start"] (spWordEnd) := ⟨_, _, (ok_word_end F0 m_len m_WORD_ENDS : FnOk l.prog w K mg base CX0 (0 + 1) _ _ _ _), b0, k0, n0⟩
  have h_text_end : HaveX l.prog w K mg base "text_end" 1 ["text", "start"] (spTextEnd ANoText) := ⟨_, _, (ok_text_end F1 eX_NoText (PySem.W.mg_of X G aX_NoText) : FnOk l.prog w K mg base (CX1 l.prog w) (0 + 1) _ _ _ _), b1, k1, n1⟩
  have h_is_number : Have l.prog w K mg base "is_number" 1 ["thing"] (spIsNum) := ⟨_, _, (ok_isnum F5 m_isinstance m_int m_bool : FnOk l.prog w K mg base CX0 (0 + 1) _ _ _ _), b5, k5, n5⟩
  have h_is_sign : Have l.prog w K mg base "is_sign" 1 ["sign"] (spIsSign) := ⟨_, _, (ok_issign F6 m_ord m_PERCENT : FnOk l.prog w K mg base CX0 (0 + 1) _ _ _ _), b6, k6, n6⟩
  have h_size_alone : Have l.prog w K mg base "size_alone" 1 ["worth"] (spSizeT) := ⟨_, _, (ok_sizeT F8 m_isinstance m_str m_len : FnOk l.prog w K mg base CX0 (0 + 1) _ _ _ _), b8, k8, n8⟩
  have h_show_worth : ∀ n : Nat, Have l.prog w K mg base "show_worth" (n + 1) ["worth"] (spShow n) := fun n => by
    induction n with
    | zero => exact ⟨_, _, none_ok (fun vs H Q E h => by obtain ⟨v, w, _, _, _, _, h0, _⟩ := h; omega) _, b10, k10, n10⟩
    | succ n ih => exact ⟨_, _, ok_show_worth F10 ih m_isinstance m_str m_tuple, b10, k10, n10⟩
  have h_writes_number : Have l.prog w K mg base "writes_number" 1 ["word"] (spWritesNum) := ⟨_, _, (ok_writes_number F11 m_all m_len m_MOST_FIGURES m_FIGURES : FnOk l.prog w K mg base CX0 (0 + 1) _ _ _ _), b11, k11, n11⟩
  have h_lcell : Have l.prog w K mg base "_law_cell" 1 ["_law_script", "_law_k"] (spCell K) := ⟨_, _, (ok_cell F15 m_len : FnOk l.prog w K mg base CX0 (0 + 1) _ _ _ _), b15, k15, n15⟩
  have h_ltake : Have l.prog w K mg base "_law_take" 1 ["_law_box_here", "_law_wide"] (spTake) := ⟨_, _, (ok_take F17  : FnOk l.prog w K mg base CX0 (0 + 1) _ _ _ _), b17, k17, n17⟩
  have h_lalike : ∀ n : Nat, Have l.prog w K mg base "_law_alike" (n + 1) ["_law_found", "_law_due_here"] (spAlike n) := fun n => by
    induction n with
    | zero => exact ⟨_, _, none_ok (fun vs H Q E h => by obtain ⟨_, _, _, _, _, _, _, h0, _⟩ := h; exact absurd h0 (Nat.not_lt_zero _)) _, b21, k21, n21⟩
    | succ n ih => exact ⟨_, _, ok_lalike F21 ih m_all m_bool m_int m_isinstance m_len m_range m_str m_tuple, b21, k21, n21⟩
  have h_lparted : Have l.prog w K mg base "_law_parted" 1 ["_law_text_here"] (spParted) := ⟨_, _, (ok_lparted F24 m_len : FnOk l.prog w K mg base CX0 (0 + 1) _ _ _ _), b24, k24, n24⟩
  have h_lfigures : Have l.prog w K mg base "_law_figures" 1 ["_law_word"] (spFigs) := ⟨_, _, (ok_lfigures F25 m_int m_len : FnOk l.prog w K mg base CX0 (0 + 1) _ _ _ _), b25, k25, n25⟩
  have h_pieces_of : HaveX l.prog w K mg base "pieces_of" 2 ["text"] (spPieces ANoText) := ⟨_, _, (ok_pieces_of F2 (h_text_end.mono (by omega)) (h_word_end.mono (by omega)) m_len m_BETWEEN : FnOk l.prog w K mg base (CX1 l.prog w) (1 + 1) _ _ _ _), b2, k2, n2⟩
  have h_fits_alone : Have l.prog w K mg base "fits_alone" 2 ["thing", "levels"] (spFits) := ⟨_, _, (ok_fits F7 (h_is_number.mono (by omega)) (h_is_sign.mono (by omega)) m_isinstance m_str m_tuple m_len m_all m_abs m_MOST_SIGNS m_MOST_ITEMS : FnOk l.prog w K mg base CX0 (1 + 1) _ _ _ _), b7, k7, n7⟩
  have h_number_of : HaveX l.prog w K mg base "number_of" 2 ["word"] (spNumOf ANoText) := ⟨_, _, (ok_number_of F12 (h_writes_number.mono (by omega)) m_int eX_NoText (PySem.W.mg_of X G aX_NoText) : FnOk l.prog w K mg base (CX1 l.prog w) (1 + 1) _ _ _ _), b12, k12, n12⟩
  have h_lbox : Have l.prog w K mg base "_law_box" 2 ["_law_script", "_law_k"] (spBox K) := ⟨_, _, (ok_box F16 (h_lcell.mono (by omega)) : FnOk l.prog w K mg base CX0 (1 + 1) _ _ _ _), b16, k16, n16⟩
  have h_ltext : Have l.prog w K mg base "_law_text" 2 ["_law_box_here", "_law_most"] (spText) := ⟨_, _, (ok_text F18 (h_ltake.mono (by omega)) m_len m_range : FnOk l.prog w K mg base CX0 (1 + 1) _ _ _ _), b18, k18, n18⟩
  have h_lnumber : Have l.prog w K mg base "_law_number" 2 ["_law_box_here"] (spNumber) := ⟨_, _, (ok_number F19 (h_ltake.mono (by omega)) : FnOk l.prog w K mg base CX0 (1 + 1) _ _ _ _), b19, k19, n19⟩
  have h_lbad : Have l.prog w K mg base "_law_bad" 2 ["_law_box_here"] (spBad) := ⟨_, _, (ok_lbad F22 (h_ltake.mono (by omega)) m_len m_range : FnOk l.prog w K mg base CX0 (1 + 1) _ _ _ _), b22, k22, n22⟩
  have h_trees_of : HaveX l.prog w K mg base "trees_of" 3 ["text"] (spTrees ANoText) := ⟨_, _, (ok_trees_of F3 (h_pieces_of.mono (by omega)) m_len m_tuple m_MOST_BRACKETS eX_NoText (PySem.W.mg_of X G aX_NoText) : FnOk l.prog w K mg base (CX1 l.prog w) (2 + 1) _ _ _ _), b3, k3, n3⟩
  have h_is_worth : Have l.prog w K mg base "is_worth" 3 ["thing"] (spIsWorth) := ⟨_, _, (ok_isworth F9 (h_fits_alone.mono (by omega)) (h_size_alone.mono (by omega)) m_isinstance m_tuple m_len m_MOST_DEPTH m_MOST_SIZE : FnOk l.prog w K mg base CX0 (2 + 1) _ _ _ _), b9, k9, n9⟩
  have h_worth_of_tree : ∀ n : Nat, HaveX l.prog w K mg base "worth_of_tree" (n + 3) ["tree"] (spWTree ANoText n) := fun n => by
    induction n with
    | zero => exact ⟨_, _, none_ok (fun vs H Q E h => by obtain ⟨v, w, _, _, _, h0, _⟩ := h; omega) _, b13, k13, n13⟩
    | succ n ih => exact ⟨_, _, ok_worth_of_tree F13 (h_number_of.mono (by omega)) ih m_tuple, b13, k13, n13⟩
  have h_lworth : ∀ n : Nat, Have l.prog w K mg base "_law_worth" (n + 3) ["_law_box_here", "_law_room", "_law_deep"] (spWorth n) := fun n => by
    induction n with
    | zero => exact ⟨_, _, none_ok (fun vs H Q E h => by obtain ⟨b, room, deep, _, _, _, _, h0, h1, _⟩ := h; omega) _, b20, k20, n20⟩
    | succ n ih => exact ⟨_, _, ok_worth F20 (h_ltake.mono (by omega)) (h_ltext.mono (by omega)) (h_lnumber.mono (by omega)) ih m_min m_range m_tuple, b20, k20, n20⟩
  have h_lspoilt : Have l.prog w K mg base "_law_spoilt" 3 ["_law_text_here", "_law_box_here"] (spSpoilt) := ⟨_, _, (ok_lspoilt F23 (h_lbad.mono (by omega)) (h_ltake.mono (by omega)) m_len : FnOk l.prog w K mg base CX0 (2 + 1) _ _ _ _), b23, k23, n23⟩
  have h_only_tree : HaveX l.prog w K mg base "only_tree" 4 ["text"] (spOnly ANoText) := ⟨_, _, (ok_only_tree F4 (h_trees_of.mono (by omega)) m_len eX_NoText (PySem.W.mg_of X G aX_NoText) : FnOk l.prog w K mg base (CX1 l.prog w) (3 + 1) _ _ _ _), b4, k4, n4⟩
  have h_ldue : Have l.prog w K mg base "_law_due" 4 ["_law_text_here"] (spDue) := ⟨_, _, (ok_ldue F26 (h_is_worth.mono (by omega)) (h_lfigures.mono (by omega)) (h_lparted.mono (by omega)) m_len m_tuple : FnOk l.prog w K mg base CX0 (3 + 1) _ _ _ _), b26, k26, n26⟩
  have h_read_worth : HaveX l.prog w K mg base "read_worth" 106 ["text"] (spRead ANoText) := ⟨_, _, (ok_read_worth F14 (h_is_worth.mono (by omega)) ((h_worth_of_tree 102).mono (by omega)) (h_only_tree.mono (by omega)) eX_NoText (PySem.W.mg_of X G aX_NoText) : FnOk l.prog w K mg base (CX1 l.prog w) (105 + 1) _ _ _ _), b14, k14, n14⟩
  have h_lread : Have l.prog w K mg base "_law_read" 107 ["_law_text_here"] (spLRead) := ⟨_, _, (ok_lread F27 (h_read_worth.mono (by omega)) m_ValueError m_isinstance (PySem.W.mg_of X G aX_ForgeError) (PySem.W.mg_of X G aX_NoName) (PySem.W.mg_of X G aX_NoRow) (PySem.W.mg_of X G aX_NoRule) (PySem.W.mg_of X G aX_NoStep) (PySem.W.mg_of X G aX_NoThing) (PySem.W.mg_of X G aX_NoWorth) (PySem.W.mg_of X G aX_NoText) ⟨ix1, ix2, ix3, ix4, ix5, ix6, ix7⟩ xm kT_NoText kT_ValueError kT_NoName kT_NoRow kT_NoRule kT_NoStep kT_NoThing kT_NoWorth : FnOk l.prog w K mg base CX0 (106 + 1) _ _ _ _), b27, k27, n27⟩
  exact (ok_law F28 ((h_lalike 16).mono (by omega)) (h_read_worth.mono (by omega)) (h_lread.mono (by omega)) (h_ldue.mono (by omega)) (h_lspoilt.mono (by omega)) (h_lbox.mono (by omega)) ((h_show_worth 14).mono (by omega)) ((h_lworth 13).mono (by omega)) (h_ltake.mono (by omega)) m_len m_range : FnOk l.prog w K mg base CX0 (229 + 1) _ _ _ _)
theorem walk_all {l : PySem.W.OpenLaw} {q : Program} {loose : List Str} {XP : (Str → Option Value) → Heap → Prop} {YP : World → Heap → Prop} {d : DefRec} {K : Params → PySem.W.Frag} (hn : l.most = some 63) (hdf : d.params.defaults = [])
    (hY : ∀ (w : World) (h : Heap), YP w h → (K w.params).In h)
    (F : ∀ (w : World) (mg : Str → Option Value) (fa : Addr) (h : Heap), (K w.params).In h → h.Ns mainGlobals mg → mg d.name = some (.ref fa) →
      ∃ fd : FuncData, (∀ (s : Shared) (u : Value), BindsTo s fd ⟨[u], []⟩ [("_law_script", u)]) ∧ ∀ base : Heap, (K w.params).In base → base.Ns mainGlobals mg → FnOk l.prog w (K w.params) mg base CX0 230 fa fd ["_law_script"] (spLaw (K w.params))) :
    PySem.W.WalkO q loose XP YP l.row.toRowW d [] (fun f vs => PySem.call f vs) :=
  L2.walk_of (n := 63) (k := 230) (x := "_law_script") (CX := fun _ => CX0) (sp := fun w => spLaw (K w.params)) hn (by decide) hdf ⟨rfl, by decide, by decide⟩ hY F (fun _ _ a ns hl _ hS => ⟨a, ns, rfl, hS, hl, fun _ => rfl⟩) fun _ _ _ _ _ z => z
end D
open PySem PySem.W PyProof.Rows
set_option maxRecDepth 100000 in
set_option maxHeartbeats 0 in
theorem PySem.Challenge.cw_leastforge_k05_texts_that_write_none_holds : PySem.Challenge.rw_leastforge_k05_texts_that_write_none.Holds := by
  w_on; o_law; k_head; (case hw => w_witness2)
  k_fill
  refine D.walk_all (l := PySem.Challenge.rw_leastforge_k05_texts_that_write_none) rfl rfl (fun w h Y => PySem.W.kIn_of Y) ?F
  case F =>
    intro w mg fa h KX G hmg
    refine' D.all_mk KX G hmg ?_ ?_ ?_ ?_ ?_ ?_ ?_ ?_ ?_ ?_ ?_ ?_ ?_ ?_ ?_ ?_ ?_ ?_ ?_ ?_ ?_ ?_ ?_ ?_ ?_ ?_ ?_ ?_ ?_ ?_ ?_ ?_ ?_ ?_ ?_ ?_ ?_ ?_ ?_ ?_ ?_ ?_ ?_ ?_ ?_ ?_ ?_ ?_ ?_ ?_ ?_ ?_ ?_ ?_ ?_ ?_ ?_ ?_ ?_ ?_ ?_ ?_ ?_ ?_ ?_ ?_ ?_ ?_ ?_ ?_ ?_ ?_ ?_ ?_ ?_ ?_ ?_ ?_ ?_ ?_ ?_ ?_ ?_ ?_ ?_ ?_ ?_ ?_ ?_ ?_ ?_ ?_ ?_ ?_ ?_ ?_ ?_ ?_ ?_ ?_ ?_ ?_ ?_ ?_ ?_ ?_ ?_ ?_ ?_ ?_ ?_ ?_ ?_ ?_ ?_ ?_ ?_ ?_ ?_ ?_ ?_ ?_ ?_ ?_ ?_ ?_ ?_ ?_ ?_ ?_ ?_ ?_ ?_ ?_ ?_ ?_ ?_ ?_ ?_ ?_ ?_ ?_ ?_ ?_ ?_ ?_ ?_ ?_ ?_ ?_ ?_ ?_ ?_ ?_ ?_ ?_ ?_ ?_ ?_ ?_ ?_ ?_ ?_
    all_goals try ((try unfold D.nI); (try unfold D.lI); (try unfold D.cI); (try unfold D.kI); first | k_is | k_exc | rfl)

