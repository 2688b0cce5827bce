import PyProof.Rows.All
import Wide.All
import OpenK.AllK
import Wide.FinOn
import Lean
import PyProof.EqAt
import PyProof.EqKinds
import PyProof.TupleCall
import PySem.Challenge.RW_traitlattice_k33_whole_gaps
set_option Elab.async false
set_option linter.all false
set_option maxRecDepth 100000
/-! THE HAND LAYER, for ints, bools, texts, own classes, LISTS and tuples (index, slices, in, append, pop ..), calls, loops. Paste it whole ahead of your own text; what your proof does not reach may be deleted. -/
namespace L2
open PySem PySem.Spec PyProof.Rows

/-- a key: an int or a str -/
abbrev Key := Sum Int Str
def keyIs : Key → Value → Bool
  | .inl k, v => Value.isInt k v
  | .inr x, v => Value.isStrOf x v
def keyH (w : World) : Key → Int
  | .inl k => hashInt k
  | .inr x => hashStr w x
theorem keyIs_shape : ∀ {k : Key} {v : Value}, keyIs k v = true → (∃ i t, k = Sum.inl i ∧ v = Value.int i t) ∨ (∃ x t, k = Sum.inr x ∧ v = Value.str x t)
  | .inl i, v, h => by
    obtain ⟨t, e⟩ := Value.isInt_shape (k := i) (v := v) h
    exact .inl ⟨i, t, rfl, e⟩
  | .inr x, v, h => by
    obtain ⟨t, e⟩ := Value.isStrOf_shape (x := x) (v := v) h
    exact .inr ⟨x, t, rfl, e⟩
theorem keyIs_int (i : Int) (t : Tok) : keyIs (.inl i) (.int i t) = true := by simp [keyIs, Value.isInt]
theorem keyIs_str (x : Str) (t : Tok) : keyIs (.inr x) (.str x t) = true := by simp [keyIs, Value.isStrOf]
theorem key_ll (a b : Int) : decide ((Sum.inl a : Key) = Sum.inl b) = (a == b) := by
  by_cases e : a = b
  · subst e; simp
  · have h : ¬ (Sum.inl a : Key) = Sum.inl b := fun q => e (Sum.inl.inj q)
    rw [decide_eq_false h]
    exact (beq_eq_false_iff_ne.mpr e).symm
theorem key_rr (a b : Str) : decide ((Sum.inr a : Key) = Sum.inr b) = decide (a = b) := by
  by_cases e : a = b
  · subst e; simp
  · have h : ¬ (Sum.inr a : Key) = Sum.inr b := fun q => e (Sum.inr.inj q)
    rw [decide_eq_false h, decide_eq_false e]
theorem key_lr (a : Int) (b : Str) : decide ((Sum.inl a : Key) = Sum.inr b) = false := decide_eq_false (fun q => nomatch q)
theorem key_rl (a : Str) (b : Int) : decide ((Sum.inr a : Key) = Sum.inl b) = false := decide_eq_false (fun q => nomatch q)

def mixKind (prog : Program) (w : World) : PySem.KeyKind prog w Key where
  is := keyIs
  hash := keyH w
  inj := fun v a b ha hb => by
    rcases keyIs_shape ha with ⟨i, t, rfl, rfl⟩ | ⟨x, t, rfl, rfl⟩
    · rcases keyIs_shape hb with ⟨j, u, rfl, e⟩ | ⟨y, u, rfl, e⟩
      · injection e with e1 _; rw [e1]
      · exact nomatch e
    · rcases keyIs_shape hb with ⟨j, u, rfl, e⟩ | ⟨y, u, rfl, e⟩
      · exact nomatch e
      · injection e with e1 _; rw [e1]
  byValue := fun k v h => by
    rcases keyIs_shape h with ⟨i, t, rfl, rfl⟩ | ⟨x, t, rfl, rfl⟩ <;> rfl
  pyHash := fun hv h => by
    rcases keyIs_shape hv with ⟨i, t, rfl, rfl⟩ | ⟨x, t, rfl, rfl⟩
    · exact wpAny_pyHash_int h
    · exact wpAny_pyHash_str h
  eqBool := fun hu hv h => by
    rcases keyIs_shape hu with ⟨i, t, rfl, rfl⟩ | ⟨x, t, rfl, rfl⟩
    · rcases keyIs_shape hv with ⟨j, u, rfl, rfl⟩ | ⟨y, u, rfl, rfl⟩
      · rw [key_ll] at h; exact wpAny_eqBool_int h
      · rw [key_lr] at h; exact SeqAt.EqAt.int_str i t y u _ _ _ _ h
    · rcases keyIs_shape hv with ⟨j, u, rfl, rfl⟩ | ⟨y, u, rfl, rfl⟩
      · rw [key_rl] at h; exact SeqAt.EqAt.str_int x t j u _ _ _ _ h
      · rw [key_rr] at h; exact wpAny_eqBool_str h
  «strs» := fun k x t v h => by
    rcases keyIs_shape h with ⟨i, u, rfl, e⟩ | ⟨y, u, rfl, e⟩
    · exact nomatch e
    · injection e with e1 _
      subst e1
      cases v <;> rfl

theorem mixKind_is (prog : Program) (w : World) (k : Key) (v : Value) : (mixKind prog w).is k v = keyIs k v := rfl
theorem mixKind_int (prog : Program) (w : World) (i : Int) (t : Tok) : (mixKind prog w).is (.inl i) (.int i t) = true := keyIs_int i t
theorem mixKind_str (prog : Program) (w : World) (x : Str) (t : Tok) : (mixKind prog w).is (.inr x) (.str x t) = true := keyIs_str x t
end L2

namespace L2
open PySem PySem.Spec PyProof.Rows

/-- a value, without the heap -/
inductive V where
  | non | bl (b : Bool) | int (i : Int) | str (x : Str) | byt (b : Array UInt8) | flt (b : UInt64) | ref (a : Addr) | ty (n : String)
  deriving DecidableEq

def RelV : V → Value → Prop
  | .non, u => u = Value.none
  | .bl b, u => u = Value.bool b
  | .int i, u => ∃ t, u = Value.int i t
  | .str x, u => ∃ t, u = Value.str x t
  | .byt b, u => ∃ t, u = Value.bytes b t
  | .flt b, u => ∃ t, u = Value.float b t
  | .ref a, u => u = Value.ref a
  | .ty n, u => u = Value.type n

abbrev Vals : List V → List Value → Prop := Paired RelV
theorem Vals.length {xs : List V} {us : List Value} (r : Vals xs us) : xs.length = us.length := Paired.length r
theorem Vals.get : ∀ {xs : List V} {us : List Value} {i : Nat} {x : V}, Vals xs us → xs[i]? = some x → ∃ u, us[i]? = some u ∧ RelV x u
  | _, _, _, _, .nil, e => by simp at e
  | _, _, 0, _, .cons r _, e => by simp at e; subst e; exact ⟨_, rfl, r⟩
  | _, _, i + 1, x, .cons _ t, e => by
    obtain ⟨u, h1, h2⟩ := Vals.get (i := i) (x := x) t (by simpa using e)
    exact ⟨u, by simpa using h1, h2⟩
theorem Vals.set {x : V} {u : Value} (r : RelV x u) : ∀ {xs : List V} {us : List Value} (i : Nat), Vals xs us → Vals (xs.set i x) (us.set i u)
  | _, _, _, .nil => .nil
  | _, _, 0, .cons _ t => .cons r t
  | _, _, i + 1, .cons q t => .cons q (Vals.set r i t)
theorem Vals.append : ∀ {xs ys : List V} {us ws : List Value}, Vals xs us → Vals ys ws → Vals (xs ++ ys) (us ++ ws)
  | _, _, _, _, .nil, s => s
  | _, _, _, _, .cons r t, s => .cons r (Vals.append t s)
theorem Vals.take : ∀ {xs : List V} {us : List Value} (n : Nat), Vals xs us → Vals (xs.take n) (us.take n)
  | _, _, 0, _ => .nil
  | _, _, _ + 1, .nil => .nil
  | _, _, n + 1, .cons r t => .cons r (Vals.take n t)
theorem Vals.drop : ∀ {xs : List V} {us : List Value} (n : Nat), Vals xs us → Vals (xs.drop n) (us.drop n)
  | _, _, 0, r => r
  | _, _, _ + 1, .nil => .nil
  | _, _, n + 1, .cons _ t => Vals.drop n t
theorem Vals.none_of : ∀ {xs : List V} {us : List Value} {i : Nat}, Vals xs us → xs[i]? = none → us[i]? = none := fun {xs us i} r e => by
  have h1 := r.length
  have h2 : xs.length ≤ i := List.getElem?_eq_none_iff.mp e
  exact List.getElem?_eq_none_iff.mpr (by omega)

def RelO : Option V → Option Value → Prop
  | some v, some u => RelV v u
  | none, none => True
  | _, _ => False
def KV {κ : Type} : List (κ × V) → List (κ × Value) → Prop := Paired fun (p : κ × V) (q : κ × Value) => p.1 = q.1 ∧ RelV p.2 q.2

/-- a key of a dict (00_mix): an int or a text -/
def kV : Key → V
  | .inl i => .int i
  | .inr x => .str x

/-- what stands at a tracked address -/
inductive HO where
  /-- a list -/
  | lst (xs : List V)
  /-- a tuple (never changes) -/
  | tup (xs : List V)
  /-- a dict whose keys are ints and texts; one whose keys are tuples of ints and texts (the empty one is both) -/
  | dK (kvs : List (Key × V)) | dT (kvs : List (List Key × V))
  /-- a set of ints: its members, its size -/
  | set (S : Int → Bool) (n : Nat)
  /-- an instance of the class at C, its dict at dx, its attributes -/
  | ins (C dx : Addr) (fs : List (Str × V))
  /-- the dict of the instance at x -/
  | own (x : Addr)
  /-- the dict of an exception -/
  | xd (fs : List (Str × V))
  /-- a bound method, f of x -/
  | met (f x : Addr)
  /-- a range object lo, lo + 1, .. below hi -/
  | rng (lo hi : Int)
  /-- a thing that is known to the object (the script; a dict while a loop walks it): read, never written while it is so -/
  | frz (o : Obj) (u : HO)
  /-- a code object's table -/
  | tbl (ps : Array Value)
  /-- any other thing, by what is true of its one object (a def of one's own: SetO a S n := HO.ext fun h => ..) -/
  | ext (φ : Heap → Prop)

abbrev Hp := Addr → Option HO
def upd (H : Hp) (a : Addr) (o : HO) : Hp := fun b => if b = a then some o else H b
theorem upd_same {H : Hp} {a : Addr} {o : HO} : upd H a o a = some o := by unfold upd; rw [if_pos rfl]
theorem upd_ne {H : Hp} {a b : Addr} {o : HO} (h : b ≠ a) : upd H a o b = H b := by unfold upd; rw [if_neg h]
theorem upd_upd {H : Hp} {a : Addr} {o u : HO} : upd (upd H a o) a u = upd H a u := by
  funext b; unfold upd; split <;> rfl
/-- two objects of different content stand apart -/
theorem ne_of {H : Hp} {a b : Addr} {o u : HO} (h : H a = some o) (h' : H b = some u) (d : o ≠ u) : a ≠ b := by
  intro e; subst e; rw [h] at h'; exact d (Option.some.inj h')
theorem ne_of_none {H : Hp} {a b : Addr} {o : HO} (h : H a = some o) (h' : H b = none) : a ≠ b := by
  intro e; subst e; rw [h] at h'; cases h'

section
variable (P : Program) (w : World)
def ObjOk (H : Hp) (h : Heap) (a : Addr) : HO → Prop
  | .lst xs => xs.length ≤ sizeLine ∧ ∃ (its : List Value) (n : Nat), Vals xs its ∧ h.get? a = some { cls := .type "list", data := .seq its.toArray n }
  | .tup xs => xs.length ≤ sizeLine ∧ ∃ its : List Value, Vals xs its ∧ IsTup h a its.toArray
  | .dK kvs => kvs.length ≤ sizeLine ∧ (a == sysModules) = false ∧ ∃ vs, KV kvs vs ∧ h.DictOf (mixKind P w) a vs
  | .dT kvs => kvs.length ≤ sizeLine ∧ (a == sysModules) = false ∧ ∃ xs : List (List Key × Addr × Value),
      Paired (fun (p : List Key × V) (q : List Key × Addr × Value) => p.1 = q.1 ∧ H q.2.1 = some (.tup (p.1.map kV)) ∧ RelV p.2 q.2.2) kvs xs ∧
      ∃ o es ep, h.get? a = some o ∧ o.ExactDict ∧ o.data = .dict es ep ∧ es.toList = xs.map (entryOfKey (tupleKind (mixKind P w))) ∧ (xs.map (·.1)).Nodup
  | .set S n => h.SetOf (intKind P w) a S n
  | .ins C dx fs => H dx = some (.own a) ∧ fs.length ≤ 1000 ∧ dx ≠ a ∧ h.get? a = some (PySem.W.instObj C dx) ∧
      ∃ mA, h.Ns1 dx mA ∧ (∀ f, RelO (fs.lookup f) (mA f)) ∧ PySem.Within mA (fs.map (·.1))
  | .own _ => ∃ o, h.get? a = some o
  | .xd fs => ∃ mA, h.Ns1 a mA ∧ ∀ f, RelO (fs.lookup f) (mA f)
  | .rng lo hi => ∃ t u v, h.get? a = some { cls := .type "range", data := .fields #[.int lo t, .int hi u, .int 1 v] }
  | .frz o u => h.get? a = some o ∧ ObjOk H h a u
  | .tbl ps => h.get? a = some { cls := .none, data := .fields ps }
  | .met f x => h.get? a = some (PySem.W.methodObj (.ref f) (.ref x))
  | .ext φ => φ h ∧ (∃ o, h.get? a = some o) ∧ ∀ h1 h2 : Heap, φ h1 → (∀ o, h1.get? a = some o → h2.get? a = some o) → φ h2
/-- the abstract heap is held -/
def HOk (H : Hp) (h : Heap) : Prop := ∀ a o, H a = some o → ObjOk P w H h a o
end

section
variable {P : Program} {w : World} {H H' : Hp} {h h' : Heap} {a : Addr} {o : HO}
theorem ObjOk.lt (x : ObjOk P w H h a o) : a < h.objs.size := by
  cases o with
  | lst xs => obtain ⟨_, _, _, _, e⟩ := x; exact Heap.lt_size e
  | tup xs => obtain ⟨_, _, _, p⟩ := x; exact p.lt
  | dK kvs => obtain ⟨_, _, _, _, o, _, _, e, _⟩ := x; exact Heap.lt_size e
  | dT kvs => obtain ⟨_, _, _, _, o, _, _, e, _⟩ := x; exact Heap.lt_size e
  | set S n => obtain ⟨o, _, _, _, e, _⟩ := x; exact Heap.lt_size e
  | ins C dx fs => obtain ⟨_, _, _, e, _⟩ := x; exact Heap.lt_size e
  | own y => obtain ⟨_, e⟩ := x; exact Heap.lt_size e
  | xd fs => obtain ⟨_, ⟨_, _, _, e, _⟩, _⟩ := x; exact Heap.lt_size e
  | rng lo hi => obtain ⟨_, _, _, e⟩ := x; exact Heap.lt_size e
  | frz ob u => obtain ⟨e, _⟩ := x; exact Heap.lt_size e
  | tbl ps => exact Heap.lt_size (show h.get? a = some _ from x)
  | met f y => exact Heap.lt_size (show h.get? a = some _ from x)
  | ext φ => obtain ⟨_, ⟨_, e⟩, _⟩ := x; exact Heap.lt_size e
theorem Paired.mapP {α β : Type} {F G : α → β → Prop} : ∀ {l₁ : List α} {l₂ : List β}, Paired F l₁ l₂ → (∀ a b, F a b → G a b) → Paired G l₁ l₂
  | _, _, .nil, _ => .nil
  | _, _, .cons r t, f => .cons (f _ _ r) (Paired.mapP t f)
theorem Paired.imp' {α β : Type} {F G : α → β → Prop} (f : ∀ a b, F a b → G a b) {l₁ : List α} {l₂ : List β} (r : Paired F l₁ l₂) : Paired G l₁ l₂ := Paired.mapP r f
/-- what an object's description leans on: its own object, its own dict, the tuples -/
theorem ObjOk.stay (x : ObjOk P w H h a o) (k : ∀ b u, (b = a ∨ H b = some (.own a)) → h.get? b = some u → h'.get? b = some u)
    (ho : ∀ b, H b = some (.own a) → H' b = some (.own a)) (ht : ∀ b xs, H b = some (.tup xs) → H' b = some (.tup xs)) : ObjOk P w H' h' a o := by
  induction o with
  | lst xs => obtain ⟨z, its, n, r, e⟩ := x; exact ⟨z, its, n, r, k _ _ (.inl rfl) e⟩
  | tup xs => obtain ⟨z, its, r, ob, e, c⟩ := x; exact ⟨z, its, r, ob, k _ _ (.inl rfl) e, c⟩
  | dK kvs => obtain ⟨z, y, vs, r, ob, es, ep, e, c⟩ := x; exact ⟨z, y, vs, r, ob, es, ep, k _ _ (.inl rfl) e, c⟩
  | dT kvs =>
    obtain ⟨z, y, xs, r, ob, es, ep, e, c⟩ := x
    exact ⟨z, y, xs, Paired.mapP r fun p q z => ⟨z.1, ht _ _ z.2.1, z.2.2⟩, ob, es, ep, k _ _ (.inl rfl) e, c⟩
  | set S n => obtain ⟨ob, es, ep, t, e, c⟩ := x; exact ⟨ob, es, ep, t, k _ _ (.inl rfl) e, c⟩
  | ins C dx fs =>
    obtain ⟨d, z, ne, e, mA, ⟨od, es, ep, e2, c⟩, r⟩ := x
    exact ⟨ho _ d, z, ne, k _ _ (.inl rfl) e, mA, ⟨od, es, ep, k _ _ (.inr d) e2, c⟩, r⟩
  | own y => obtain ⟨ob, e⟩ := x; exact ⟨ob, k _ _ (.inl rfl) e⟩
  | xd fs => obtain ⟨mA, ⟨od, es, ep, e, c⟩, r⟩ := x; exact ⟨mA, ⟨od, es, ep, k _ _ (.inl rfl) e, c⟩, r⟩
  | rng lo hi => obtain ⟨t, u, v, e⟩ := x; exact ⟨t, u, v, k _ _ (.inl rfl) e⟩
  | frz ob u ih => obtain ⟨e, q⟩ := x; exact ⟨k _ _ (.inl rfl) e, ih q⟩
  | tbl ps =>
    have e : h.get? a = some { cls := .none, data := .fields ps } := x
    show h'.get? a = some { cls := .none, data := .fields ps }
    exact k a _ (.inl rfl) e
  | met f y =>
    have e : h.get? a = some (PySem.W.methodObj (.ref f) (.ref y)) := x
    show h'.get? a = some (PySem.W.methodObj (.ref f) (.ref y))
    exact k a _ (.inl rfl) e
  | ext φ => obtain ⟨p, ⟨o, e⟩, st⟩ := x; exact ⟨st _ _ p fun o q => k _ _ (.inl rfl) q, ⟨o, k _ _ (.inl rfl) e⟩, st⟩
theorem HOk.lt (x : HOk P w H h) (e : H a = some o) : a < h.objs.size := (x a o e).lt
theorem HOk.fresh (x : HOk P w H h) (e : h.objs.size ≤ a) : H a = none := by
  cases q : H a with
  | none => rfl
  | some u => exact absurd (Nat.lt_of_lt_of_le (x.lt q) e) (Nat.lt_irrefl _)
/-- every object of the heap is kept -/
theorem HOk.kept (x : HOk P w H h) (k : ∀ b u, h.get? b = some u → h'.get? b = some u) : HOk P w H h' := fun a o e =>
  (x a o e).stay (fun b u _ q => k b u q) (fun _ q => q) fun _ _ q => q
/-- a new object is laid and tracked -/
theorem HOk.laid (x : HOk P w H h) (k : ∀ b u, h.get? b = some u → h'.get? b = some u) (hp : h.objs.size ≤ a) (new : ObjOk P w (upd H a o) h' a o) : HOk P w (upd H a o) h' := fun b u e => by
  have hn := x.fresh hp
  by_cases hb : b = a
  · subst hb; rw [upd_same] at e; cases e; exact new
  · rw [upd_ne hb] at e
    exact (x b u e).stay (fun c v _ q => k c v q) (fun c q => by rw [upd_ne (ne_of_none q hn)]; exact q) fun c xs q => by rw [upd_ne (ne_of_none q hn)]; exact q
end

/-- what may be read as u: it is u, or a known u -/
def Rd (H : Hp) (a : Addr) (u : HO) : Prop := H a = some u ∨ ∃ o, H a = some (.frz o u)
theorem Rd.of {H : Hp} {a : Addr} {u : HO} (h : H a = some u) : Rd H a u := .inl h
theorem Rd.ok {P : Program} {w : World} {H : Hp} {h : Heap} {a : Addr} {u : HO} (r : Rd H a u) (x : HOk P w H h) : ObjOk P w H h a u := by
  rcases r with r | ⟨o, r⟩
  · exact x a u r
  · obtain ⟨_, q⟩ := x a _ r
    exact q
/-- what may be written -/
def Mut : Option HO → Prop
  | some (.lst _) => True
  | some (.dK _) => True
  | some (.dT _) => True
  | some (.set _ _) => True
  | some (.ins _ _ _) => True
  | some (.ext _) => True
  | _ => False
section
variable {P : Program} {w : World} {H : Hp} {h h' : Heap} {x e : Addr} {o' : HO}
/-- the object at e is changed: x itself, or the dict of the instance x -/
theorem HOk.write (ok : HOk P w H h) (mu : Mut (H x)) (he : e = x ∨ H e = some (.own x)) (k : ∀ b u, b ≠ e → h.get? b = some u → h'.get? b = some u) (heo : ∃ u, h'.get? e = some u)
    (new : ObjOk P w (upd H x o') h' x o') : HOk P w (upd H x o') h' := fun b u q => by
  have nown : ∀ c y, H c = some (.own y) → c ≠ x := fun c y r z => by subst z; rw [r] at mu; exact mu
  have ntup : ∀ c xs, H c = some (.tup xs) → c ≠ x := fun c xs r z => by subst z; rw [r] at mu; exact mu
  by_cases hb : b = x
  · subst hb; rw [upd_same] at q; cases q; exact new
  · rw [upd_ne hb] at q
    by_cases hbe : b = e
    · have q' : H b = some (.own x) := by
        rcases he with z | z
        · exact absurd (hbe.trans z) hb
        · rw [hbe]; exact z
      rw [q] at q'; cases q'
      obtain ⟨v, hv⟩ := heo
      exact ⟨v, by rw [hbe]; exact hv⟩
    · refine (ok b u q).stay (fun c v hc r => k c v ?_ r) (fun c r => by rw [upd_ne (nown c b r)]; exact r) fun c xs r => by rw [upd_ne (ntup c xs r)]; exact r
      rcases hc with rfl | hc
      · exact hbe
      · rintro rfl
        rcases he with z | z
        · exact nown c b hc z
        · rw [hc] at z; cases z; exact hb rfl
end

/-! ### kept unless tracked; of the frames at fs (the callers') the slots may change (an exception that passes writes there); of the records at ex (iterators) nothing is said -/
structure Un (fs ex : List Addr) (H H' : Hp) (h h' : Heap) : Prop where
  keep : ∀ b o, h.get? b = some o → H b = none → b ∉ fs → b ∉ ex → h'.get? b = some o
  slot : ∀ b o, h.get? b = some o → H b = none → b ∈ fs → b ∉ ex → ∃ sl, h'.get? b = some { o with slots := sl }
  free : ∀ b o, h.get? b = some o → H b = none → b ∉ ex → H' b = none
  there : ∀ b o, h.get? b = some o → b ∉ ex → ∃ o', h'.get? b = some o'
  tups : ∀ b xs, H b = some (.tup xs) → H' b = some (.tup xs)
  frzs : ∀ b o u, H b = some (.frz o u) → H' b = some (.frz o u)
  tbls : ∀ b ps, H b = some (.tbl ps) → ∃ more, H' b = some (.tbl (ps ++ more))
section
variable {fs fs' ex ex' : List Addr} {H H1 H2 : Hp} {h h1 h2 h' : Heap} {a x e : Addr} {o : HO}
theorem Un.any (u : Un fs ex H H1 h h1) {b : Addr} {ob : Obj} (q : h.get? b = some ob) (n : H b = none) (hx : b ∉ ex) : ∃ sl, h1.get? b = some { ob with slots := sl } := by
  by_cases hb : b ∈ fs
  · exact u.slot b ob q n hb hx
  · exact ⟨ob.slots, u.keep b ob q n hb hx⟩
theorem Un.trans (a : Un fs ex H H1 h h1) (b : Un fs ex H1 H2 h1 h2) : Un fs ex H H2 h h2 where
  keep := fun c ob q n hc hx => b.keep c ob (a.keep c ob q n hc hx) (a.free c ob q n hx) hc hx
  slot := fun c ob q n hc hx => by
    obtain ⟨sl, e1⟩ := a.slot c ob q n hc hx
    obtain ⟨sl', e2⟩ := b.slot c _ e1 (a.free c ob q n hx) hc hx
    exact ⟨sl', e2⟩
  free := fun c ob q n hx => by
    obtain ⟨o', e1⟩ := a.there c ob q hx
    exact b.free c o' e1 (a.free c ob q n hx) hx
  there := fun c ob q hx => by
    obtain ⟨o', e1⟩ := a.there c ob q hx
    exact b.there c o' e1 hx
  tups := fun c xs q => b.tups c xs (a.tups c xs q)
  frzs := fun c ob xs q => b.frzs c ob xs (a.frzs c ob xs q)
  tbls := fun c ps q => by
    obtain ⟨m1, e1⟩ := a.tbls c ps q
    obtain ⟨m2, e2⟩ := b.tbls c _ e1
    exact ⟨m1 ++ m2, by rw [e2, Array.append_assoc]⟩
theorem Un.kept (k : ∀ b u, h.get? b = some u → h'.get? b = some u) : Un fs ex H H h h' :=
  ⟨fun b ob q _ _ _ => k b ob q, fun b ob q _ _ _ => ⟨ob.slots, k b ob q⟩, fun _ _ _ n _ => n, fun b ob q _ => ⟨ob, k b ob q⟩, fun _ _ q => q, fun _ _ _ q => q, fun _ ps q => ⟨#[], by rw [q]; simp⟩⟩
theorem Un.refl : Un fs ex H H h h := Un.kept fun _ _ q => q
theorem Un.laid (k : ∀ b u, h.get? b = some u → h'.get? b = some u) (hp : h.objs.size ≤ a) (hn : H a = none) : Un fs ex H (upd H a o) h h' where
  keep := fun b u q _ _ _ => k b u q
  slot := fun b u q _ _ _ => ⟨u.slots, k b u q⟩
  free := fun b u q n _ => by rw [upd_ne (Nat.ne_of_lt (Nat.lt_of_lt_of_le (Heap.lt_size q) hp))]; exact n
  there := fun b u q _ => ⟨u, k b u q⟩
  tups := fun b xs q => by rw [upd_ne (ne_of_none q hn)]; exact q
  frzs := fun b u xs q => by rw [upd_ne (ne_of_none q hn)]; exact q
  tbls := fun b ps q => ⟨#[], by rw [upd_ne (ne_of_none q hn), q]; simp⟩
theorem Un.write (mu : Mut (H x)) (he : e = x ∨ H e = some (.own x)) (k : ∀ b u, b ≠ e → h.get? b = some u → h'.get? b = some u) (heo : ∃ u, h'.get? e = some u) : Un fs ex H (upd H x o) h h' := by
  have hx : ∀ b, H b = none → b ≠ x := fun b n z => by subst z; rw [n] at mu; exact mu
  have hb : ∀ b, H b = none → b ≠ e := fun b n z => by
    subst z
    rcases he with r | r
    · exact hx b n r
    · rw [n] at r; cases r
  have hm : ∀ b u, H b = some u → ¬ Mut (some u) → b ≠ x := fun b u q nm z => by subst z; rw [q] at mu; exact nm mu
  refine ⟨fun b u q n _ _ => k b u (hb b n) q, fun b u q n _ _ => ⟨u.slots, k b u (hb b n) q⟩, fun b u q n _ => by rw [upd_ne (hx b n)]; exact n, fun b u q _ => ?_,
    fun b xs q => by rw [upd_ne (hm b _ q fun z => z)]; exact q, fun b u xs q => by rw [upd_ne (hm b _ q fun z => z)]; exact q, fun b ps q => ⟨#[], by rw [upd_ne (hm b _ q fun z => z), q]; simp⟩⟩
  by_cases hbe : b = e
  · subst hbe; exact heo
  · exact ⟨u, k b u hbe q⟩
theorem Un.mono (u : Un fs ex H H1 h h1) (hs : ∀ b ∈ fs, b ∈ fs') (hx : ∀ b ∈ ex, b ∈ ex') : Un fs' ex' H H1 h h1 :=
  ⟨fun b ob q n hb he => u.keep b ob q n (fun z => hb (hs b z)) fun z => he (hx b z), fun _ _ q n _ he => u.any q n fun z => he (hx _ z), fun b ob q n he => u.free b ob q n fun z => he (hx b z), fun b ob q he => u.there b ob q fun z => he (hx b z), u.tups, u.frzs, u.tbls⟩
end

/-! ### the heap without what is tracked -/
def trk (h : Heap) (H : Hp) : List Addr := (List.range h.objs.size).filter fun a => (H a).isSome
def hidT (h : Heap) (H : Hp) : Heap := PySem.W.hideAll h (trk h H)
theorem hidT_size (h : Heap) (H : Hp) : (hidT h H).objs.size = h.objs.size := PySem.W.hideAll_size _ _
theorem hidT_get {h : Heap} {H : Hp} {b : Addr} {o : Obj} (e : h.get? b = some o) (n : H b = none) : (hidT h H).get? b = some o :=
  PySem.W.hideAll_get _ e fun hm => by
    have q : (H b).isSome = true := (List.mem_filter.mp hm).2
    rw [n] at q; simp at q
theorem of_hidT {h : Heap} {H : Hp} {b : Addr} {o : Obj} (e : (hidT h H).get? b = some o) : h.get? b = some o ∧ H b = none := by
  have e' : h.get? b = some o := PySem.W.of_hideAll (trk h H) e
  refine ⟨e', ?_⟩
  cases q : H b with
  | none => rfl
  | some x =>
    have hm : b ∈ trk h H := List.mem_filter.mpr ⟨List.mem_range.mpr (Heap.lt_size e'), by simp [q]⟩
    have z : (hidT h H).get? b = none := PySem.W.hideAll_none (trk h H) hm
    rw [z] at e; cases e

/-! ### OpenK's ledger, filled with every new object but one -/
def allNews (g h : Heap) (L : Addr) : List (Addr × Obj) := (List.range h.objs.size).filterMap fun a => if a = L ∨ (g.get? a).isSome = true then none else (h.get? a).map fun o => (a, o)
theorem mem_allNews {g h : Heap} {L a : Addr} {o : Obj} (h1 : a ≠ L) (h2 : g.get? a = none) (h3 : h.get? a = some o) : (a, o) ∈ allNews g h L :=
  List.mem_filterMap.mpr ⟨a, List.mem_range.mpr (Heap.lt_size h3), by simp [h1, h2, h3]⟩
theorem of_mem_allNews {g h : Heap} {L : Addr} {p : Addr × Obj} (hp : p ∈ allNews g h L) : p.1 ≠ L ∧ g.get? p.1 = none ∧ h.get? p.1 = some p.2 := by
  obtain ⟨b, _, e⟩ := List.mem_filterMap.mp hp
  split at e
  · cases e
  · rename_i hn
    cases q : h.get? b with
    | none => rw [q] at e; simp at e
    | some u =>
      rw [q] at e
      simp only [Option.map_some, Option.some.injEq] at e
      subst e
      refine ⟨fun z => hn (.inl z), ?_, q⟩
      show g.get? b = none
      cases r : g.get? b with
      | none => rfl
      | some v => exact (hn (.inr (by simp [r]))).elim
def rest (g h : Heap) (L d : Addr) : List (Addr × Obj) := (allNews g h L).filter fun p => decide (p.1 ≠ d)
theorem rest_ne {g h : Heap} {L d : Addr} : ∀ p ∈ rest g h L d, p.1 ≠ d := fun p hp => of_decide_eq_true (List.mem_filter.mp hp).2
theorem mem_rest {g h : Heap} {L d a : Addr} {o : Obj} (h1 : a ≠ L) (h2 : g.get? a = none) (h3 : h.get? a = some o) (h4 : a ≠ d) : (a, o) ∈ rest g h L d :=
  List.mem_filter.mpr ⟨mem_allNews h1 h2 h3, decide_eq_true h4⟩
theorem news_all {g h : Heap} {L : Addr} : News g L h (allNews g h L) := fun p hp => let ⟨a, b, c⟩ := of_mem_allNews hp; ⟨c, a, b⟩
theorem news_at {g h : Heap} {L d : Addr} {o : Obj} (h1 : d ≠ L) (h2 : g.get? d = none) (h3 : h.get? d = some o) : News g L h ((d, o) :: rest g h L d) := fun p hp => by
  rcases List.mem_cons.mp hp with rfl | hp
  · exact ⟨h3, h1, h2⟩
  · exact news_all p (List.mem_filter.mp hp).1
/-- behind a rule that changed d alone: all else but the frame is kept -/
theorem kept_of_news {g h h' : Heap} {L d : Addr} {m : Str → Option Value} (k : ∀ b o, g.get? b = some o → h.get? b = some o) (F : Fr g L h' m) (N : News g L h' (rest g h L d)) :
    ∀ b o, b ≠ L → b ≠ d → h.get? b = some o → h'.get? b = some o := fun b o h1 h2 e => by
  cases q : g.get? b with
  | some u =>
    have := k b u q
    rw [e] at this; cases this
    exact F.keep b _ q
  | none => exact (N (b, o) (mem_rest h1 q e h2)).1
end L2

namespace L2
open PySem PySem.Spec PyProof.Rows

/-- the module's facts, over the base: the heap at the law's entry without what is tracked there -/
structure Mod (K : PySem.W.Frag) (mg : Str → Option Value) (base : Heap) : Prop where
  kin : K.In base
  glob : base.Ns mainGlobals mg
  blt : ∃ mb, base.Ns builtinsNs mb ∧ ∀ x : Str, x ≠ "__name__" → mb x = bootBuiltins x
  nolimit : base.NoLimit

/-- the context: a def's body (or a comprehension's block) running. base: fixed through the whole law; s₀, H₀: the entry; outer: the frames whose slots others may change (a def's callers); stack: all frames that run;
   ex: iterators that were made ahead of the entry and are walked here (a comprehension's); fn: the names whose cells were made at the entry (a def: all; a comprehension's block: its own); calm: not within an except suite; pn: pins that every state bears; xe: what is wanted of an exception that leaves the code -/
structure Cx where
  prog : Program
  w : World
  K : PySem.W.Frag
  mg : Str → Option Value
  base : Heap
  A : Around
  N : List Str
  s₀ : Shared
  H₀ : Hp
  env : Env
  outer : List Env
  stack : List Env
  ex : List Addr
  fn : Str → Bool
  calm : Bool
  pn : List (Addr × Obj)
  xe : Value → Shared → Prop
/-- the callers' frames -/
def frs (l : List Env) : List Addr := l.filterMap (·.frame)
abbrev Cx.fs (X : Cx) : List Addr := frs X.outer

def Vis (sc : Scope) (x : Str) : Prop := sc.names.lookup x = some .local ∨ sc.names.lookup x = some .cell ∨ sc.names.lookup x = some .free
def Loc (sc : Scope) (x : Str) : Prop := sc.names.lookup x = some .local ∨ sc.names.lookup x = some .cell
def Look (env : Env) (h : Heap) (m : Str → Option Value) (x : Str) (u : Value) : Prop :=
  (env.kindOf x = some .local ∧ m x = some u) ∨ ((env.kindOf x = some .cell ∨ env.kindOf x = some .free) ∧ ∃ c, env.cells.lookup x = some c ∧ h.IsCell c (some u))

structure Cx.Ok (X : Cx) : Prop where
  mod : Mod X.K X.mg X.base
  kind : X.env.scope.kind = .function
  glob : X.env.globals = mainGlobals
  blt : X.env.builtins = builtinsNs
  above : X.s₀.heap.objs.size ≤ X.env.locals
  inj : ∀ x y c, X.env.cells.lookup x = some c → X.env.cells.lookup y = some c → x = y
  has : ∀ x, (X.env.kindOf x = some .cell ∨ X.env.kindOf x = some .free) → ∃ c, X.env.cells.lookup x = some c
  cab : ∀ x c, X.fn x = true → X.env.cells.lookup x = some c → X.s₀.heap.objs.size ≤ c
  hd : X.calm = true → X.A.handled = none
  frames : X.A.frames = some X.stack
  stk : X.stack = X.outer ∨ (X.stack = X.env :: X.outer ∧ X.env.frame = some X.env.locals)
  exf : ∀ b ∈ X.ex, b ≠ X.env.locals ∧ ∀ x c, X.env.cells.lookup x = some c → c ≠ b
  bs : ∀ b o, X.base.get? b = some o → X.s₀.heap.get? b = some o ∧ X.H₀ b = none
  bsz : X.base.objs.size ≤ X.s₀.heap.objs.size
  noex : ∀ b o, X.base.get? b = some o → b ∉ X.ex
  exfs : ∀ b ∈ X.ex, b ∉ X.fs
  funs : X.s₀.heap.FunFrames X.base X.outer
  frf : ∀ b ∈ X.fs, X.H₀ b = none

structure Inv (X : Cx) (pins : List (Addr × Obj)) (σ : List (Option V)) (H : Hp) (s : Shared) : Prop where
  ok : X.Ok
  os : s.os = X.s₀.os
  bare : AllBare s.gens
  base : Un X.fs X.ex X.H₀ H X.s₀.heap s.heap
  loc : ∃ m, s.heap.Ns X.env.locals m ∧ ∀ (i : Nat) (x : Str) (v : V), X.N[i]? = some x → σ[i]? = some (some v) → Vis X.env.scope x → ∃ u, RelV v u ∧ Look X.env s.heap m x u
  cell : ∀ x c, X.env.cells.lookup x = some c → ∃ v, s.heap.IsCell c v
  free : H X.env.locals = none
  freeC : ∀ x c, X.env.cells.lookup x = some c → H c = none
  pin : ∀ p ∈ X.pn ++ pins, s.heap.get? p.1 = some p.2 ∧ H p.1 = none ∧ p.1 ≠ X.env.locals ∧ p.1 ∉ X.fs ∧ ∀ v, p.2.data ≠ .cell v
  hok : HOk X.prog X.w H s.heap
  len : σ.length = X.N.length

section
variable {X : Cx} {pins : List (Addr × Obj)} {σ : List (Option V)} {H H' : Hp} {s : Shared} {h' : Heap}

theorem Cx.Ok.nofr (ok : X.Ok) {b : Addr} {o : Obj} (e : X.base.get? b = some o) : b ∉ X.fs := fun hb => by
  have := (ok.funs.mem hb).1
  rw [e] at this; cases this
theorem Inv.bs (I : Inv X pins σ H s) : ∀ b o, X.base.get? b = some o → s.heap.get? b = some o ∧ H b = none := fun b o e =>
  ⟨I.base.keep b o (I.ok.bs b o e).1 (I.ok.bs b o e).2 (I.ok.nofr e) (I.ok.noex b o e), I.base.free b o (I.ok.bs b o e).1 (I.ok.bs b o e).2 (I.ok.noex b o e)⟩
theorem Inv.bk (I : Inv X pins σ H s) : ∀ b o, X.base.get? b = some o → s.heap.get? b = some o := fun b o e => (I.bs b o e).1
theorem Inv.mod (I : Inv X pins σ H s) : Mod X.K X.mg X.base := I.ok.mod
theorem Inv.kIn (I : Inv X pins σ H s) : X.K.In s.heap := I.ok.mod.kin.keeps I.bk
theorem Inv.nolimit (I : Inv X pins σ H s) : s.heap.NoLimit := I.ok.mod.nolimit.keeps I.bk
/-- the frame over the base: for OpenK's rules (K.In X.base is I.mod.kin) -/
theorem Inv.fr (I : Inv X pins σ H s) : ∃ m, Fr X.base X.env.locals s.heap m :=
  let ⟨m, hn, _⟩ := I.loc
  ⟨m, hn, I.bk, Nat.le_trans I.ok.bsz I.ok.above⟩
theorem Inv.lt (I : Inv X pins σ H s) : X.env.locals < s.heap.objs.size := let ⟨_, hn, _⟩ := I.loc; hn.lt
theorem Inv.sz (I : Inv X pins σ H s) : X.s₀.heap.objs.size ≤ s.heap.objs.size := Nat.le_trans I.ok.above (Nat.le_of_lt I.lt)
theorem Inv.nofs (I : Inv X pins σ H s) {a : Addr} (h : s.heap.objs.size ≤ a) : a ∉ X.fs := fun hb => by
  obtain ⟨_, o, ho, _⟩ := I.ok.funs.mem hb
  exact absurd (Nat.lt_of_lt_of_le (Heap.lt_size ho) (Nat.le_trans I.sz h)) (Nat.lt_irrefl _)
theorem Inv.cne (I : Inv X pins σ H s) : ∀ x c, X.env.cells.lookup x = some c → c ≠ X.env.locals := fun x c e z => by
  obtain ⟨v, o, ho, hd⟩ := I.cell x c e
  obtain ⟨m, ⟨o', es, ep, ho', hd', _⟩, _⟩ := I.loc
  rw [z, ho'] at ho; cases ho; rw [hd'] at hd; cases hd
theorem Inv.funs (I : Inv X pins σ H s) : s.heap.FunFrames X.base X.outer := by
  have all : ∀ (l : List Env), (∀ b ∈ frs l, b ∈ X.fs) → X.s₀.heap.FunFrames X.base l → s.heap.FunFrames X.base l := by
    intro l
    induction l with
    | nil => intro _ _; trivial
    | cons env r ih =>
      intro hs hl
      obtain ⟨hk, ⟨L, o, hf, hn, ho, hd⟩, hr⟩ := hl
      have hL : L ∈ X.fs := hs L (by unfold frs; rw [List.filterMap_cons, hf]; exact List.mem_cons_self)
      obtain ⟨sl, e⟩ := I.base.slot L o ho (I.ok.frf L hL) hL fun z => I.ok.exfs L z hL
      exact ⟨hk, ⟨L, _, hf, hn, e, hd⟩, ih (fun b hb => hs b (by unfold frs; rw [List.filterMap_cons, hf]; exact List.mem_cons_of_mem _ hb)) hr⟩
  exact all X.outer (fun _ hb => hb) I.ok.funs

/-- the frames that run, for a call -/
theorem Inv.stack (I : Inv X pins σ H s) : s.heap.FunFrames X.base X.stack := by
  rcases I.ok.stk with e | ⟨e, hf⟩
  · rw [e]; exact I.funs
  · rw [e]
    obtain ⟨m, hn, _⟩ := I.loc
    refine .cons (by rw [I.ok.kind]; decide) hf hn ?_ I.funs
    exact Heap.get?_none_of_le (Nat.le_trans I.ok.bsz I.ok.above)
theorem Inv.stkSub (I : Inv X pins σ H s) : ∀ b ∈ frs X.stack, b ∈ X.env.locals :: X.fs := fun b hb => by
  rcases I.ok.stk with e | ⟨e, hf⟩
  · rw [e] at hb; exact List.mem_cons_of_mem _ hb
  · rw [e] at hb
    unfold frs at hb
    rw [List.filterMap_cons, hf] at hb
    exact hb
theorem Inv.stkFree (I : Inv X pins σ H s) : ∀ b ∈ frs X.stack, H b = none := fun b hb => by
  rcases List.mem_cons.mp (I.stkSub b hb) with e | hb
  · rw [e]; exact I.free
  · obtain ⟨_, o, ho, _⟩ := I.ok.funs.mem hb
    exact I.base.free b o ho (I.ok.frf b hb) fun z => I.ok.exfs b z hb

/-- THE STEP: the untracked objects but the frame and the records at ch are kept (the callers' frames up to slots), the frame's map is kept, the new abstract heap is held -/
theorem Inv.step {g' : Array GenState} {t' : Nat} {d' : Drawn} {ch : List Addr} (I : Inv X pins σ H s)
    (hch : ∀ b ∈ ch, (b ∈ X.ex ∨ X.s₀.heap.objs.size ≤ b) ∧ b ≠ X.env.locals ∧ (∀ x c, X.env.cells.lookup x = some c → c ≠ b) ∧ ∀ p ∈ X.pn ++ pins, p.1 ≠ b)
    (keep : ∀ b o, b ≠ X.env.locals → b ∉ X.fs → b ∉ ch → s.heap.get? b = some o → H b = none → h'.get? b = some o)
    (slot : ∀ b o, b ≠ X.env.locals → b ∈ X.fs → b ∉ ch → s.heap.get? b = some o → H b = none → ∃ sl, h'.get? b = some { o with slots := sl }) (free : ∀ b o, b ∉ ch → s.heap.get? b = some o → H b = none → H' b = none)
    (there : ∀ b o, b ∉ ch → s.heap.get? b = some o → ∃ o', h'.get? b = some o')
    (tups : ∀ b xs, H b = some (.tup xs) → H' b = some (.tup xs)) (frzs : ∀ b o u, H b = some (.frz o u) → H' b = some (.frz o u)) (tbls : ∀ b ps, H b = some (.tbl ps) → ∃ more, H' b = some (.tbl (ps ++ more)))
    (ns : ∀ m, s.heap.Ns X.env.locals m → h'.Ns X.env.locals m) (hok : HOk X.prog X.w H' h') (hg : AllBare g') :
    Inv X pins σ H' { s with heap := h', gens := g', drawn := d', toks := t' } := by
  have neL : ∀ b o, X.s₀.heap.get? b = some o → b ≠ X.env.locals := fun b o e => Nat.ne_of_lt (Nat.lt_of_lt_of_le (Heap.lt_size e) I.ok.above)
  have neC : ∀ b o, X.s₀.heap.get? b = some o → b ∉ X.ex → b ∉ ch := fun b o e hx hb => by
    rcases (hch b hb).1 with z | z
    · exact hx z
    · exact absurd (Nat.lt_of_lt_of_le (Heap.lt_size e) z) (Nat.lt_irrefl _)
  have cellK : ∀ x c, X.env.cells.lookup x = some c → ∀ v, s.heap.IsCell c v → h'.IsCell c v := fun x c e v ⟨o, ho, hd⟩ => by
    have nch : c ∉ ch := fun z => (hch c z).2.2.1 x c e rfl
    by_cases hc : c ∈ X.fs
    · obtain ⟨sl, q⟩ := slot c o (I.cne x c e) hc nch ho (I.freeC x c e)
      exact ⟨_, q, hd⟩
    · exact ⟨o, keep c o (I.cne x c e) hc nch ho (I.freeC x c e), hd⟩
  refine ⟨I.ok, I.os, hg, ⟨fun b o e n hb hx => ?_, fun b o e n hb hx => ?_, fun b o e n hx => ?_, fun b o e hx => ?_, fun b xs e => tups b xs (I.base.tups b xs e), fun b o xs e => frzs b o xs (I.base.frzs b o xs e), fun b ps e => ?_⟩, ?_, fun x c e => ?_, ?_, fun x c e => ?_, fun p hp => ?_, hok, I.len⟩
  · exact keep b o (neL b o e) hb (neC b o e hx) (I.base.keep b o e n hb hx) (I.base.free b o e n hx)
  · obtain ⟨sl, e1⟩ := I.base.slot b o e n hb hx
    obtain ⟨sl', e2⟩ := slot b _ (neL b o e) hb (neC b o e hx) e1 (I.base.free b o e n hx)
    exact ⟨sl', e2⟩
  · obtain ⟨o', e1⟩ := I.base.there b o e hx
    exact free b o' (neC b o e hx) e1 (I.base.free b o e n hx)
  · obtain ⟨o', e1⟩ := I.base.there b o e hx
    exact there b o' (neC b o e hx) e1
  · obtain ⟨m1, e1⟩ := I.base.tbls b ps e
    obtain ⟨m2, e2⟩ := tbls b _ e1
    exact ⟨m1 ++ m2, by rw [e2, Array.append_assoc]⟩
  · obtain ⟨m, hn, hl⟩ := I.loc
    refine ⟨m, ns m hn, fun i x v e1 e2 e3 => ?_⟩
    obtain ⟨u, r, l⟩ := hl i x v e1 e2 e3
    refine ⟨u, r, ?_⟩
    rcases l with l | ⟨k, c, e, z⟩
    · exact .inl l
    · exact .inr ⟨k, c, e, cellK x c e _ z⟩
  · obtain ⟨v, z⟩ := I.cell x c e
    exact ⟨v, cellK x c e v z⟩
  · obtain ⟨m, ⟨o, _, _, ho, _⟩, _⟩ := I.loc
    exact free _ o (fun z => (hch _ z).2.1 rfl) ho I.free
  · obtain ⟨v, o, ho, hd⟩ := I.cell x c e
    exact free c o (fun z => (hch c z).2.2.1 x c e rfl) ho (I.freeC x c e)
  · obtain ⟨e, n, ne, nf, d⟩ := I.pin p hp
    have nch : p.1 ∉ ch := fun z => (hch p.1 z).2.2.2 p hp rfl
    exact ⟨keep p.1 p.2 ne nf nch e n, free p.1 p.2 nch e n, ne, nf, d⟩
/-- .. where the frame's own object is kept too -/
theorem Inv.un {t' : Nat} (I : Inv X pins σ H s) (u : Un X.fs [] H H' s.heap h') (hok : HOk X.prog X.w H' h') : Inv X pins σ H' { s with heap := h', toks := t' } := by
  obtain ⟨m, ⟨o, es, ep, ho, r⟩, _⟩ := id I.loc
  obtain ⟨sl, hL⟩ := u.any ho I.free (by simp)
  exact I.step (g' := s.gens) (d' := s.drawn) (ch := []) (fun _ z => nomatch z) (fun b o _ hb _ e n => u.keep b o e n hb (by simp)) (fun b o _ hb _ e n => u.slot b o e n hb (by simp)) (fun b o _ e n => u.free b o e n (by simp)) (fun b o _ e => u.there b o e (by simp)) u.tups u.frzs u.tbls (fun m' hm => by
    obtain ⟨o', es', ep', ho', r'⟩ := hm
    rw [ho] at ho'; cases ho'
    exact ⟨_, es', ep', hL, r'⟩) hok I.bare
/-- behind a call (or a comprehension's block): the slots of this frame may have changed too, the records at ch may have turned -/
theorem Inv.call {g' : Array GenState} {t' : Nat} {d' : Drawn} {ch : List Addr} (I : Inv X pins σ H s) (u : Un (frs X.stack) ch H H' s.heap h') (hok : HOk X.prog X.w H' h') (hg : AllBare g')
    (hch : ∀ b ∈ ch, (b ∈ X.ex ∨ X.s₀.heap.objs.size ≤ b) ∧ b ≠ X.env.locals ∧ (∀ x c, X.env.cells.lookup x = some c → c ≠ b) ∧ ∀ p ∈ X.pn ++ pins, p.1 ≠ b) :
    Inv X pins σ H' { s with heap := h', gens := g', drawn := d', toks := t' } := by
  obtain ⟨m, ⟨o, es, ep, ho, r⟩, _⟩ := id I.loc
  obtain ⟨sl, hL⟩ := u.any ho I.free fun z => (hch _ z).2.1 rfl
  exact I.step (ch := ch) hch (fun b o hL hb hc e n => u.keep b o e n (fun z => (List.mem_cons.mp (I.stkSub b z)).elim hL hb) hc) (fun b o _ _ hc e n => u.any e n hc) (fun b o hc e n => u.free b o e n hc) (fun b o hc e => u.there b o e hc) u.tups u.frzs u.tbls (fun m' hm => by
    obtain ⟨o', es', ep', ho', r'⟩ := hm
    rw [ho] at ho'; cases ho'
    exact ⟨_, es', ep', hL, r'⟩) hok hg
/-- an untracked record of ours (an iterator) has turned -/
theorem Inv.turned {t' : Nat} {it : Addr} (I : Inv X pins σ H s) (k : ∀ b o, b ≠ it → s.heap.get? b = some o → h'.get? b = some o) (hn : H it = none) (hL : it ≠ X.env.locals)
    (h1 : it ∈ X.ex ∨ X.s₀.heap.objs.size ≤ it) (h2 : ∀ x c, X.env.cells.lookup x = some c → c ≠ it) (h3 : ∀ p ∈ X.pn ++ pins, p.1 ≠ it) : Inv X pins σ H { s with heap := h', toks := t' } := by
  have nit : ∀ b u, H b = some u → b ≠ it := fun b u e z => by rw [z, hn] at e; cases e
  refine I.step (g' := s.gens) (d' := s.drawn) (ch := [it]) (fun b hb => ?_) (fun b o _ _ hc e _ => k b o (fun z => hc (by simp [z])) e) (fun b o _ _ hc e _ => ⟨o.slots, k b o (fun z => hc (by simp [z])) e⟩) (fun _ _ _ _ n => n)
    (fun b o hc e => ⟨o, k b o (fun z => hc (by simp [z])) e⟩) (fun _ _ e => e) (fun _ _ _ e => e) (fun b ps e => ⟨#[], by rw [e]; simp⟩) (fun m hm => ?_) (fun b u e => ?_) I.bare
  · have e : b = it := by simpa using hb
    subst e
    exact ⟨h1, hL, h2, h3⟩
  · obtain ⟨o, es, ep, ho, r⟩ := hm
    exact ⟨o, es, ep, k _ o (Ne.symm hL) ho, r⟩
  · refine (I.hok b u e).stay (fun c v hc q => k c v ?_ q) (fun _ q => q) fun _ _ q => q
    rcases hc with z | z
    · rw [z]; exact nit b u e
    · exact nit c _ z
theorem Inv.tok (I : Inv X pins σ H s) (t : Nat) : Inv X pins σ H { s with toks := t } := I.un (h' := s.heap) (t' := t) Un.refl I.hok
/-- all objects kept -/
theorem Inv.kept {t' : Nat} (I : Inv X pins σ H s) (k : ∀ b u, s.heap.get? b = some u → h'.get? b = some u) : Inv X pins σ H { s with heap := h', toks := t' } := I.un (Un.kept k) (I.hok.kept k)
/-- a new object laid and tracked -/
theorem Inv.laid {a : Addr} {o : HO} {t' : Nat} (I : Inv X pins σ H s) (k : ∀ b u, s.heap.get? b = some u → h'.get? b = some u) (hp : s.heap.objs.size ≤ a) (new : ObjOk X.prog X.w (upd H a o) h' a o) :
    Inv X pins σ (upd H a o) { s with heap := h', toks := t' } := I.un (Un.laid k hp (I.hok.fresh hp)) (I.hok.laid k hp new)
/-- an object written -/
theorem Inv.write {x e : Addr} {o : HO} {t' : Nat} (I : Inv X pins σ H s) (mu : Mut (H x)) (he : e = x ∨ H e = some (.own x)) (k : ∀ b u, b ≠ e → s.heap.get? b = some u → h'.get? b = some u) (heo : ∃ u, h'.get? e = some u)
    (new : ObjOk X.prog X.w (upd H x o) h' x o) : Inv X pins σ (upd H x o) { s with heap := h', toks := t' } := I.un (Un.write mu he k heo) (I.hok.write mu he k heo new)
/-- forgetting slots, pins -/
theorem Inv.weak {σ' : List (Option V)} (I : Inv X pins σ H s) (hl : σ'.length = σ.length) (w : ∀ (i : Nat) v, σ'[i]? = some (some v) → σ[i]? = some (some v)) : Inv X pins σ' H s :=
  ⟨I.ok, I.os, I.bare, I.base, let ⟨m, hn, hl'⟩ := I.loc; ⟨m, hn, fun i x v e1 e2 e3 => hl' i x v e1 (w i v e2) e3⟩, I.cell, I.free, I.freeC, I.pin, I.hok, hl.trans I.len⟩
theorem Inv.pins_of {pins' : List (Addr × Obj)} (I : Inv X pins σ H s) (h : ∀ p ∈ pins', s.heap.get? p.1 = some p.2 ∧ H p.1 = none ∧ p.1 ≠ X.env.locals ∧ p.1 ∉ X.fs ∧ ∀ v, p.2.data ≠ .cell v) : Inv X pins' σ H s :=
  ⟨I.ok, I.os, I.bare, I.base, I.loc, I.cell, I.free, I.freeC, fun p hp => (List.mem_append.mp hp).elim (fun z => I.pin p (List.mem_append_left _ z)) (h p), I.hok, I.len⟩

theorem nodup_ix {N : List Str} (hN : N.Nodup) {i j : Nat} {x : Str} (a : N[i]? = some x) (b : N[j]? = some x) : i = j := by
  obtain ⟨h1, e1⟩ := List.getElem?_eq_some_iff.mp a
  obtain ⟨h2, e2⟩ := List.getElem?_eq_some_iff.mp b
  exact (List.getElem_inj hN).mp (e1.trans e2.symm)

/-- a name is stored; what changed -/
theorem store_ok2 {M : Model} {A : Around} {E : Value → Shared → Prop} {i : Nat} {x : Str} {v : V} {u : Value} {Q : Unit → Shared → Prop} (I : Inv X pins σ H s) (hN : X.N.Nodup) (hi : X.N[i]? = some x) (hx : Loc X.env.scope x) (r : RelV v u)
    (h : ∀ s', Inv X pins (σ.set i (some v)) H s' → (∃ a, Heap.SameBut a s.heap s'.heap ∧ (a = X.env.locals ∨ X.env.cells.lookup x = some a)) → Q () s') (hf : X.fn x = true ∨ X.env.scope.names.lookup x = some .local := by first | exact .inl rfl | exact .inr rfl | assumption) : wpAny M A (storeName X.env x u) Q E s := by
  obtain ⟨m, hn, hl⟩ := id I.loc
  have hcls : (X.env.scope.kind == .class || (X.env.scope.kind == .module && X.env.locals != X.env.globals)) = false := by rw [I.ok.kind]; rfl
  have hiσ : i < σ.length := by rw [I.len]; exact (List.getElem?_eq_some_iff.mp hi).1
  have cne := I.cne
  have tracked : ∀ {a : Addr} {h' : Heap}, (∃ o, s.heap.get? a = some o ∧ H a = none) → Heap.SameBut a s.heap h' → HOk X.prog X.w H h' := fun {a h'} ha hs b ob e => by
    obtain ⟨_, _, hfree⟩ := ha
    refine (I.hok b ob e).stay (fun c w' hc q => (hs.2 c ?_).trans q) (fun _ q => q) fun _ _ q => q
    rintro rfl
    rcases hc with rfl | hc
    · rw [hfree] at e; cases e
    · rw [hfree] at hc; cases hc
  rcases hx with hk | hk
  · refine wpAny_storeName_local hk hn (fun h' hn' hs => ?_) hcls
    obtain ⟨oL, _, _, hoL, _⟩ := id hn
    refine h _ ⟨I.ok, I.os, I.bare, ⟨fun b o e n hb hx => ?_, fun b o e n hb hx => ?_, I.base.free, fun b o e hx => ?_, I.base.tups, I.base.frzs, I.base.tbls⟩, ⟨_, hn', fun j y v' e1 e2 e3 => ?_⟩, fun y c e => ?_, I.free, I.freeC, fun p hp => ?_, tracked ⟨oL, hoL, I.free⟩ hs, by simpa using I.len⟩ ⟨_, hs, .inl rfl⟩
    · exact (hs.2 b (Nat.ne_of_lt (Nat.lt_of_lt_of_le (Heap.lt_size e) I.ok.above))).trans (I.base.keep b o e n hb hx)
    · obtain ⟨sl, e1⟩ := I.base.slot b o e n hb hx
      exact ⟨sl, (hs.2 b (Nat.ne_of_lt (Nat.lt_of_lt_of_le (Heap.lt_size e) I.ok.above))).trans e1⟩
    · obtain ⟨o', e1⟩ := I.base.there b o e hx
      exact ⟨o', (hs.2 b (Nat.ne_of_lt (Nat.lt_of_lt_of_le (Heap.lt_size e) I.ok.above))).trans e1⟩
    · by_cases hj : j = i
      · subst hj
        rw [hi] at e1; cases e1
        rw [List.getElem?_set_self hiσ] at e2
        cases e2
        exact ⟨u, r, .inl ⟨hk, by simp⟩⟩
      · rw [List.getElem?_set_ne (Ne.symm hj)] at e2
        obtain ⟨u', r', q⟩ := hl j y v' e1 e2 e3
        refine ⟨u', r', ?_⟩
        rcases q with ⟨k, e⟩ | ⟨k, c, e, z⟩
        · refine .inl ⟨k, ?_⟩
          have : y ≠ x := fun e => hj (nodup_ix hN e1 (e ▸ hi))
          simp [this, e]
        · exact .inr ⟨k, c, e, z.sameBut hs (cne y c e)⟩
    · obtain ⟨w', z⟩ := I.cell y c e
      exact ⟨w', z.sameBut hs (cne y c e)⟩
    · obtain ⟨e, n, ne, nf, d⟩ := I.pin p hp
      exact ⟨(hs.2 p.1 ne).trans e, n, ne, nf, d⟩
  · have hfn : X.fn x = true := by
      rcases hf with z | z
      · exact z
      · rw [z] at hk; cases hk
    obtain ⟨c, hc⟩ := I.ok.has x (.inl hk)
    obtain ⟨w', z⟩ := I.cell x c hc
    refine wpAny_storeName_cell I.ok.kind hk hc z (fun h' hc' hs => ?_)
    obtain ⟨oc, hoc, hocd⟩ := id z
    refine h { s with heap := h' } ⟨I.ok, I.os, I.bare, ⟨fun b o e n hb hx => ?_, fun b o e n hb hx => ?_, I.base.free, fun b o e hx => ?_, I.base.tups, I.base.frzs, I.base.tbls⟩, ⟨m, hn.sameBut hs (Ne.symm (cne x c hc)), fun j y v' e1 e2 e3 => ?_⟩, fun y c' e => ?_, I.free, I.freeC, fun p hp => ?_, tracked ⟨oc, hoc, I.freeC x c hc⟩ hs, by simpa using I.len⟩ ⟨c, hs, .inr hc⟩
    · exact (hs.2 b (Nat.ne_of_lt (Nat.lt_of_lt_of_le (Heap.lt_size e) (I.ok.cab x c hfn hc)))).trans (I.base.keep b o e n hb hx)
    · obtain ⟨sl, e1⟩ := I.base.slot b o e n hb hx
      exact ⟨sl, (hs.2 b (Nat.ne_of_lt (Nat.lt_of_lt_of_le (Heap.lt_size e) (I.ok.cab x c hfn hc)))).trans e1⟩
    · obtain ⟨o', e1⟩ := I.base.there b o e hx
      exact ⟨o', (hs.2 b (Nat.ne_of_lt (Nat.lt_of_lt_of_le (Heap.lt_size e) (I.ok.cab x c hfn hc)))).trans e1⟩
    · by_cases hj : j = i
      · subst hj
        rw [hi] at e1; cases e1
        rw [List.getElem?_set_self hiσ] at e2
        cases e2
        exact ⟨u, r, .inr ⟨.inl hk, c, hc, hc'⟩⟩
      · rw [List.getElem?_set_ne (Ne.symm hj)] at e2
        obtain ⟨u', r', q⟩ := hl j y v' e1 e2 e3
        refine ⟨u', r', ?_⟩
        rcases q with q | ⟨k, c', e, z'⟩
        · exact .inl q
        · refine .inr ⟨k, c', e, z'.sameBut hs ?_⟩
          rintro rfl
          exact hj (nodup_ix hN e1 (I.ok.inj _ _ _ e hc ▸ hi))
    · by_cases hcc : c' = c
      · subst hcc; exact ⟨_, hc'⟩
      · obtain ⟨w2, z2⟩ := I.cell y c' e
        exact ⟨w2, z2.sameBut hs hcc⟩
    · obtain ⟨e, n, ne, nf, d⟩ := I.pin p hp
      refine ⟨(hs.2 p.1 ?_).trans e, n, ne, nf, d⟩
      intro q
      rw [q, hoc] at e
      have q' : oc = p.2 := Option.some.inj e
      exact d w' (by rw [← q']; exact hocd)
theorem store_ok {M : Model} {A : Around} {E : Value → Shared → Prop} {i : Nat} {x : Str} {v : V} {u : Value} {Q : Unit → Shared → Prop} (I : Inv X pins σ H s) (hN : X.N.Nodup) (hi : X.N[i]? = some x) (hx : Loc X.env.scope x) (r : RelV v u)
    (h : ∀ s', Inv X pins (σ.set i (some v)) H s' → Q () s') (hf : X.fn x = true ∨ X.env.scope.names.lookup x = some .local := by first | exact .inl rfl | exact .inr rfl | assumption) : wpAny M A (storeName X.env x u) Q E s :=
  store_ok2 I hN hi hx r (fun s' I' _ => h s' I') hf
/-- behind a call or a block, the state as it is -/
theorem Inv.call' {s' : Shared} {ch : List Addr} (I : Inv X pins σ H s) (ho : s'.os = s.os) (u : Un (frs X.stack) ch H H' s.heap s'.heap) (hok : HOk X.prog X.w H' s'.heap) (hg : AllBare s'.gens)
    (hch : ∀ b ∈ ch, (b ∈ X.ex ∨ X.s₀.heap.objs.size ≤ b) ∧ b ≠ X.env.locals ∧ (∀ x c, X.env.cells.lookup x = some c → c ≠ b) ∧ ∀ p ∈ X.pn ++ pins, p.1 ≠ b) : Inv X pins σ H' s' := by
  obtain ⟨h', g', d', t', o'⟩ := s'
  have e : o' = s.os := ho
  subst e
  exact I.call (g' := g') (t' := t') (d' := d') u hok hg hch
end

/-! ### the judgements -/
/-- an exception: its class, its own dict's address (where it has one), the abstract heap behind it -/
abbrev XK := Value → Option Addr → Hp → Prop
abbrev St := List (Option V)
abbrev VK := V → Hp → Prop
/-- an expression's reading; a test's; an argument list's -/
abbrev TE := St → Hp → VK → Prop
abbrev TT := St → Hp → (Bool → Hp → Prop) → Prop
abbrev TA := St → Hp → (List V → Hp → Prop) → Prop
/-- what is wanted behind a statement -/
structure Ends where
  nx : St → Hp → Prop
  rt : VK
  bk : St → Hp → Prop := fun _ _ => False
  ct : St → Hp → Prop := fun _ _ => False
abbrev TS := Ends → St → Hp → Prop

def EP (X : Cx) (pins : List (Addr × Obj)) (σ : St) (Q : VK) (u : Value) (s' : Shared) : Prop := ∃ v H', Inv X pins σ H' s' ∧ RelV v u ∧ Q v H'
def TP (X : Cx) (pins : List (Addr × Obj)) (σ : St) (Q : Bool → Hp → Prop) (b : Bool) (s' : Shared) : Prop := ∃ H', Inv X pins σ H' s' ∧ Q b H'
def AP (X : Cx) (pins : List (Addr × Obj)) (σ : St) (Q : List V → Hp → Prop) (us : List Value) (s' : Shared) : Prop := ∃ vs H', Inv X pins σ H' s' ∧ Vals vs us ∧ Q vs H'
def SP (X : Cx) (pins : List (Addr × Obj)) (D : Ends) (f : Flow) (s' : Shared) : Prop :=
  match f with
  | .next => ∃ σ' H', Inv X pins σ' H' s' ∧ D.nx σ' H'
  | .brk => ∃ σ' H', Inv X pins σ' H' s' ∧ D.bk σ' H'
  | .cont => ∃ σ' H', Inv X pins σ' H' s' ∧ D.ct σ' H'
  | .ret u => ∃ v σ' H', Inv X pins σ' H' s' ∧ RelV v u ∧ D.rt v H'

def PE (X : Cx) (e : Expr) (t : TE) : Prop :=
  ∀ (pins : List (Addr × Obj)) (s : Shared) (σ : St) (H : Hp) (Q : VK), Inv X pins σ H s → t σ H Q → wpAny (model X.prog X.w) X.A (eval e X.env) (EP X pins σ Q) X.xe s
def PT (X : Cx) (e : Expr) (t : TT) : Prop :=
  ∀ (pins : List (Addr × Obj)) (s : Shared) (σ : St) (H : Hp) (Q : Bool → Hp → Prop), Inv X pins σ H s → t σ H Q → wpAny (model X.prog X.w) X.A (isTrue e X.env (eval e X.env)) (TP X pins σ Q) X.xe s
/-- a test whatever its 'whole' is (and, or) -/
def PW (X : Cx) (e : Expr) (t : TT) : Prop :=
  ∀ (whole : Sem Value) (pins : List (Addr × Obj)) (s : Shared) (σ : St) (H : Hp) (Q : Bool → Hp → Prop), Inv X pins σ H s → t σ H Q → wpAny (model X.prog X.w) X.A (isTrue e X.env whole) (TP X pins σ Q) X.xe s
theorem PW.pt {X : Cx} {e : Expr} {t : TT} (h : PW X e t) : PT X e t := h _
/-- an argument list (no star), from the left -/
def PA (X : Cx) (es : List Expr) (t : TA) : Prop :=
  ∀ (pos : Pos) (pins : List (Addr × Obj)) (s : Shared) (σ : St) (H : Hp) (Q : List V → Hp → Prop), Inv X pins σ H s → t σ H Q → wpAny (model X.prog X.w) X.A (spliced (backTo pos (starEach es X.env))) (AP X pins σ Q) X.xe s
def PS (X : Cx) (st : Stmt) (t : TS) : Prop :=
  ∀ (pins : List (Addr × Obj)) (s : Shared) (σ : St) (H : Hp) (D : Ends), Inv X pins σ H s → t D σ H → wpAny (model X.prog X.w) X.A (exec st X.env) (SP X pins D) X.xe s
def PSs (X : Cx) (st : List Stmt) (t : TS) : Prop :=
  ∀ (pins : List (Addr × Obj)) (s : Shared) (σ : St) (H : Hp) (D : Ends), Inv X pins σ H s → t D σ H → wpAny (model X.prog X.w) X.A (execs st X.env) (SP X pins D) X.xe s
/-- weaken the end -/
theorem thn {α : Type} {t : Sem α} {Q Q' : α → Shared → Prop} {M : Model} {A : Around} {E : Value → Shared → Prop} {s : Shared} (h : wpAny M A t Q E s) (hQ : ∀ a s, Q a s → Q' a s) : wpAny M A t Q' E s := wpAny_mono h hQ fun _ _ x => x
end L2

namespace L2
open PySem PySem.Spec PyProof.Rows
section
variable {X : Cx}

/-- two expressions in a row -/
theorem bin {a b : Expr} {ta tb : TE} (ha : PE X a ta) (hb : PE X b tb) {pins : List (Addr × Obj)} {s : Shared} {σ : St} {H : Hp} {R : V → V → Hp → Prop} (I : Inv X pins σ H s) (h : ta σ H fun x H1 => tb σ H1 fun y H2 => R x y H2)
    {α : Type} {Q : α → Shared → Prop} {f : Value → Value → Sem α}
    (hf : ∀ v u s2 x y H2, Inv X pins σ H2 s2 → RelV x v → RelV y u → R x y H2 → wpAny (model X.prog X.w) X.A (f v u) Q X.xe s2) :
    wpAny (model X.prog X.w) X.A (eval a X.env) (fun v s₁ => wpAny (model X.prog X.w) X.A (eval b X.env) (fun u s₂ => wpAny (model X.prog X.w) X.A (f v u) Q X.xe s₂) X.xe s₁) X.xe s := by
  refine thn (ha pins s σ H _ I h) fun v s1 ⟨x, H1, I1, r1, q1⟩ => ?_
  refine thn (hb pins s1 σ H1 _ I1 q1) fun u s2 ⟨y, H2, I2, r2, q2⟩ => ?_
  exact hf v u s2 x y H2 I2 r1 r2 q2

/-! ### names and constants -/
def tVar (i : Nat) : TE := fun σ H Q => ∃ v, σ[i]? = some (some v) ∧ Q v H
def tC (v : V) : TE := fun _ H Q => Q v H
theorem pe_var {i : Nat} {x : Str} {pos : Pos} (hN : X.N[i]? = some x) (hv : Vis X.env.scope x) (hd : (x == ("__debug__" : Str)) = false := by decide) (hcd : (x == ("__classdict__" : Str)) = false := by decide) : PE X (.Name x pos) (tVar i) := by
  intro pins s σ H Q I h
  obtain ⟨v, e, h⟩ := h
  obtain ⟨m, hn, hl⟩ := I.loc
  obtain ⟨u, r, l⟩ := hl i x v hN e hv
  have fin : EP X pins σ Q u s := ⟨v, H, I, r, h⟩
  rcases l with ⟨hk, hm⟩ | ⟨hk, c, hc, hcell⟩
  · exact wpAny_Name (wpAny_loadName_local I.ok.kind hk hn hm fin) hd
  · rcases hk with hk | hk
    · exact wpAny_Name (wpAny_loadName_cell I.ok.kind hk hc hcell fin) hd
    · exact wpAny_Name (wpAny_loadName_free I.ok.kind hk hc hcell fin hcd) hd
theorem pe_int {i j pos} : PE X (.Constant (.int i) j pos) (tC (.int i)) := fun _ _ _ H _ I h => wpAny_Constant_int ⟨.int i, H, I.tok _, ⟨_, rfl⟩, h⟩
theorem pe_bl {b j pos} : PE X (.Constant (.bool b) j pos) (tC (.bl b)) := fun _ _ _ H _ I h => Constant_bool ⟨.bl b, H, I, rfl, h⟩
theorem pe_non {j pos} : PE X (.Constant .none j pos) (tC .non) := fun _ _ _ H _ I h => Constant_none ⟨.non, H, I, rfl, h⟩
theorem pe_str {x j pos} : PE X (.Constant (.str x) j pos) (tC (.str x)) := fun _ _ _ H _ I h => Calls.Constant_str ⟨.str x, H, I.tok _, ⟨_, rfl⟩, h⟩

/-- a global name of the def -/
def Gl (X : Cx) (x : Str) : Prop := X.env.kindOf x = some .globalImplicit
theorem ld_glob {E : Value → Shared → Prop} {pins : List (Addr × Obj)} {s : Shared} {σ : St} {H : Hp} {x : Str} {u : Value} {pos : Pos} {Q : Value → Shared → Prop} (I : Inv X pins σ H s) (hg : Gl X x) (hm : X.mg x = some u) (h : Q u s)
    (hd : (x == ("__debug__" : Str)) = false := by decide) : wpAny (model X.prog X.w) X.A (eval (.Name x pos) X.env) Q E s :=
  Calls.Name_function_global I.ok.kind hg (Calls.loadGlobal_global (by rw [I.ok.glob]; exact I.mod.glob.keeps I.bk) hm h) hd
theorem ld_blt {E : Value → Shared → Prop} {pins : List (Addr × Obj)} {s : Shared} {σ : St} {H : Hp} {x : Str} {u : Value} {pos : Pos} {Q : Value → Shared → Prop} (I : Inv X pins σ H s) (hg : Gl X x) (hm : X.mg x = none) (hv : bootBuiltins x = some u) (h : Q u s)
    (hn : x ≠ "__name__" := by decide) (hd : (x == ("__debug__" : Str)) = false := by decide) : wpAny (model X.prog X.w) X.A (eval (.Name x pos) X.env) Q E s := by
  obtain ⟨mb, h1, h2⟩ := I.mod.blt
  exact Calls.Name_function_global I.ok.kind hg (Calls.loadGlobal_builtin (by rw [I.ok.glob]; exact I.mod.glob.keeps I.bk) hm (by rw [I.ok.blt]; exact h1.keeps I.bk) ((h2 x hn).trans hv) h) hd
/-- a module's constant, a class, a function, as a value -/
theorem pe_glob {x : Str} {v : V} {u : Value} {pos : Pos} (hg : Gl X x) (hm : X.mg x = some u) (r : RelV v u) (hd : (x == ("__debug__" : Str)) = false := by decide) : PE X (.Name x pos) (tC v) :=
  fun _ _ _ H _ I h => ld_glob I hg hm ⟨v, H, I, r, h⟩ hd
theorem pe_bltn {x : Str} {v : V} {u : Value} {pos : Pos} (hg : Gl X x) (hm : X.mg x = none) (hv : bootBuiltins x = some u) (r : RelV v u) (hn : x ≠ "__name__" := by decide) (hd : (x == ("__debug__" : Str)) = false := by decide) : PE X (.Name x pos) (tC v) :=
  fun _ _ _ H _ I h => ld_blt I hg hm hv ⟨v, H, I, r, h⟩ hn hd

/-! ### arithmetic -/
/-- two ints -/
def t2I (ta tb : TE) (k : Int → Int → Hp → Prop) : St → Hp → Prop := fun σ H => ta σ H fun x H1 => tb σ H1 fun y H2 => ∃ i j, x = .int i ∧ y = .int j ∧ k i j H2
def tAdd (ta tb : TE) : TE := fun σ H Q => t2I ta tb (fun i j H2 => Q (.int (i + j)) H2) σ H
def tSub (ta tb : TE) : TE := fun σ H Q => t2I ta tb (fun i j H2 => Q (.int (i - j)) H2) σ H
/-- the left factor below 2^64 -/
def tMul (ta tb : TE) : TE := fun σ H Q => t2I ta tb (fun i j H2 => (-(2 ^ 64) < i ∧ i < 2 ^ 64) ∧ Q (.int (i * j)) H2) σ H
variable {a b : Expr} {ta tb : TE} {pos : Pos}
theorem pe_add (ha : PE X a ta) (hb : PE X b tb) : PE X (.BinOp a .Add b pos) (tAdd ta tb) := by
  intro pins s σ H Q I h
  refine wpAny_BinOp (bin ha hb I h fun v u s2 x y H2 I2 rx ry q => ?_)
  obtain ⟨i, j, rfl, rfl, q⟩ := q
  obtain ⟨t, rfl⟩ := rx
  obtain ⟨t', rfl⟩ := ry
  exact add_int ⟨.int _, H2, I2.tok _, ⟨_, rfl⟩, q⟩
theorem pe_sub (ha : PE X a ta) (hb : PE X b tb) : PE X (.BinOp a .Sub b pos) (tSub ta tb) := by
  intro pins s σ H Q I h
  refine wpAny_BinOp (bin ha hb I h fun v u s2 x y H2 I2 rx ry q => ?_)
  obtain ⟨i, j, rfl, rfl, q⟩ := q
  obtain ⟨t, rfl⟩ := rx
  obtain ⟨t', rfl⟩ := ry
  exact sub_int ⟨.int _, H2, I2.tok _, ⟨_, rfl⟩, q⟩
theorem pe_mul (ha : PE X a ta) (hb : PE X b tb) : PE X (.BinOp a .Mult b pos) (tMul ta tb) := by
  intro pins s σ H Q I h
  refine wpAny_BinOp (bin ha hb I h fun v u s2 x y H2 I2 rx ry q => ?_)
  obtain ⟨i, j, rfl, rfl, ⟨q1, q2⟩, q⟩ := q
  obtain ⟨t, rfl⟩ := rx
  obtain ⟨t', rfl⟩ := ry
  exact mul_int ⟨.int _, H2, I2.tok _, ⟨_, rfl⟩, q⟩ (.of_left (intBits_le_64 q1 q2))

/-! ### comparisons -/
def PC (X : Cx) (op : CmpOp) (a b : Expr) (t : TE) : Prop :=
  ∀ (pins : List (Addr × Obj)) (s : Shared) (σ : St) (H : Hp) (Q : VK), Inv X pins σ H s → t σ H Q →
    wpAny (model X.prog X.w) X.A (eval a X.env) (fun v s₁ => wpAny (model X.prog X.w) X.A (eval b X.env) (fun u s₂ => wpAny (model X.prog X.w) X.A (compareOp op v u) (EP X pins σ Q) X.xe s₂) X.xe s₁) X.xe s
theorem nobehind (b : Expr) {op : CmpOp} (h : op ≠ .In) (h2 : op ≠ .NotIn) : behindInMarks op b = false := by
  have e1 : (op == CmpOp.In) = false := by cases op <;> first | rfl | exact absurd rfl h
  have e2 : (op == CmpOp.NotIn) = false := by cases op <;> first | rfl | exact absurd rfl h2
  cases b <;> simp [behindInMarks, e1, e2]
def tCmp (p : Int → Int → Bool) (ta tb : TE) : TE := fun σ H Q => t2I ta tb (fun i j H2 => Q (.bl (p i j)) H2) σ H
abbrev tLt : TE → TE → TE := tCmp fun i j => decide (i < j)
abbrev tLe : TE → TE → TE := tCmp fun i j => decide (i ≤ j)
abbrev tGt : TE → TE → TE := tCmp fun i j => decide (j < i)
abbrev tGe : TE → TE → TE := tCmp fun i j => decide (j ≤ i)
abbrev tEqI : TE → TE → TE := tCmp fun i j => decide (i = j)
abbrev tNeI : TE → TE → TE := tCmp fun i j => !decide (i = j)
/-- a comparison of two ints, by its rule -/
theorem pc_int {op : CmpOp} {p : Int → Int → Bool} (ha : PE X a ta) (hb : PE X b tb)
    (rule : ∀ (i j : Int) (t u : Tok) (Q : Value → Shared → Prop) (s : Shared), Q (.bool (p i j)) s → wpAny (model X.prog X.w) X.A (compareOp op (.int i t) (.int j u)) Q X.xe s) : PC X op a b (tCmp p ta tb) := by
  intro pins s σ H Q I h
  refine bin ha hb I h fun v u s2 x y H2 I2 rx ry q => ?_
  obtain ⟨i, j, rfl, rfl, q⟩ := q
  obtain ⟨t, rfl⟩ := rx
  obtain ⟨t', rfl⟩ := ry
  exact rule i j t t' _ s2 ⟨.bl _, H2, I2, rfl, q⟩
theorem pc_lt (ha : PE X a ta) (hb : PE X b tb) : PC X .Lt a b (tLt ta tb) := pc_int ha hb fun _ _ _ _ _ _ h => lt_int h
theorem pc_le (ha : PE X a ta) (hb : PE X b tb) : PC X .LtE a b (tLe ta tb) := pc_int ha hb fun _ _ _ _ _ _ h => le_int h
theorem pc_gt (ha : PE X a ta) (hb : PE X b tb) : PC X .Gt a b (tGt ta tb) := pc_int ha hb fun _ _ _ _ _ _ h => gt_int h
theorem pc_ge (ha : PE X a ta) (hb : PE X b tb) : PC X .GtE a b (tGe ta tb) := pc_int ha hb fun _ _ _ _ _ _ h => ge_int h
theorem pc_eqI (ha : PE X a ta) (hb : PE X b tb) : PC X .Eq a b (tEqI ta tb) := pc_int ha hb fun _ _ _ _ _ _ h => eq_int (by rw [Bool.beq_eq_decide_eq]; exact h)
theorem pc_neI (ha : PE X a ta) (hb : PE X b tb) : PC X .NotEq a b (tNeI ta tb) := pc_int ha hb fun _ _ _ _ _ _ h => ne_int (by rw [bne, Bool.beq_eq_decide_eq]; exact h)
/-- is None -/
def tIsN (ta : TE) : TE := fun σ H Q => ta σ H fun x H1 => Q (.bl (decide (x = .non))) H1
def tNotN (ta : TE) : TE := fun σ H Q => ta σ H fun x H1 => Q (.bl (!decide (x = .non))) H1
theorem RelV.none_iff {x : V} {v : Value} (r : RelV x v) : (v == Value.none) = decide (x = .non) := by
  cases x with
  | non => cases r; rfl
  | bl _ => cases r; rfl
  | int _ => obtain ⟨t, rfl⟩ := r; rfl
  | str _ => obtain ⟨t, rfl⟩ := r; rfl
  | byt _ => obtain ⟨t, rfl⟩ := r; rfl
  | flt _ => obtain ⟨t, rfl⟩ := r; rfl
  | ref _ => cases r; rfl
  | ty _ => cases r; rfl
theorem pc_isN {j pos'} (ha : PE X a ta) : PC X .Is a (.Constant .none j pos') (tIsN ta) := by
  intro pins s σ H Q I h
  refine thn (ha pins s σ H _ I h) fun v s1 ⟨x, H1, I1, r1, q1⟩ => ?_
  exact Constant_none (is_none_gen ⟨.bl _, H1, I1, by rw [r1.none_iff]; rfl, q1⟩)
theorem pc_notN {j pos'} (ha : PE X a ta) : PC X .IsNot a (.Constant .none j pos') (tNotN ta) := by
  intro pins s σ H Q I h
  refine thn (ha pins s σ H _ I h) fun v s1 ⟨x, H1, I1, r1, q1⟩ => ?_
  exact Constant_none (isnot_none_gen ⟨.bl _, H1, I1, by rw [r1.none_iff]; rfl, q1⟩)
/-- a comparison as a value, as a test -/
def tB (t : TE) : TT := fun σ H Q => t σ H fun x H1 => ∃ c, x = .bl c ∧ Q c H1
theorem pe_cmp {op : CmpOp} {t : TE} (h : PC X op a b t) (h1 : behindInMarks op b = false := by first | exact nobehind _ (by decide) (by decide) | rfl) : PE X (.Compare a [op] [b] pos) t := fun pins s σ H Q I hw => wpAny_Compare1 (h pins s σ H Q I hw) h1
theorem pt_cmp {op : CmpOp} {t : TE} (h : PC X op a b t) (h1 : behindInMarks op b = false := by first | exact nobehind _ (by decide) (by decide) | rfl) : PT X (.Compare a [op] [b] pos) (tB t) := by
  intro pins s σ H Q I hw
  refine wpAny_isTrue_Compare1 (thn (h pins s σ H _ I hw) fun v s1 h1 => thn h1 fun u s2 h2 => thn h2 fun c s3 ⟨x, H1, I1, r1, q1⟩ => ?_) h1
  obtain ⟨d, rfl, q⟩ := q1
  cases r1
  exact wpAny_truthy_bool ⟨H1, I1, q⟩
/-- an expression whose value is a bool, as a test -/
theorem pt_val {e : Expr} {t : TE} (h : PE X e t) (he : ∀ whole, isTrue e X.env whole = (do let v ← whole; standAt e.pos; holding [v] (truthy v)) := by intro _; rfl) : PT X e (tB t) := by
  intro pins s σ H Q I hw
  refine isTrue_plain (thn (h pins s σ H _ I hw) fun v s1 ⟨x, H1, I1, r1, q1⟩ => ?_) (he _)
  obtain ⟨d, rfl, q⟩ := q1
  cases r1
  exact wpAny_truthy_bool ⟨H1, I1, q⟩

/-! ### and, or, not -/
variable {tA tB' : TT} {rest : List Expr}
def tAnd (t u : TT) : TT := fun σ H Q => t σ H fun c H1 => if c = true then u σ H1 Q else Q false H1
def tOr (t u : TT) : TT := fun σ H Q => t σ H fun c H1 => if c = true then Q true H1 else u σ H1 Q
def tNot (t : TT) : TT := fun σ H Q => t σ H fun c H1 => Q (!c) H1
theorem pw_and1 (ha : PT X a tA) : PW X (.BoolOp .And [a] pos) tA := by
  intro wh pins s σ H Q I h
  refine isTrue_and (thn (ha pins s σ H Q I h) fun c s1 e => ?_)
  cases c with
  | true => exact isTrue_and_nil e
  | false => exact e
theorem pw_or1 (ha : PT X a tA) : PW X (.BoolOp .Or [a] pos) tA := by
  intro wh pins s σ H Q I h
  refine isTrue_or (thn (ha pins s σ H Q I h) fun c s1 e => ?_)
  cases c with
  | false => exact isTrue_or_nil e
  | true => exact e
theorem pw_and (ha : PT X a tA) (hb : PW X (.BoolOp .And (b :: rest) pos) tB') : PW X (.BoolOp .And (a :: b :: rest) pos) (tAnd tA tB') := by
  intro wh pins s σ H Q I h
  refine isTrue_and (thn (ha pins s σ H _ I h) fun c s1 ⟨H1, I1, q1⟩ => ?_)
  cases c with
  | true => exact hb wh pins s1 σ H1 Q I1 q1
  | false => exact ⟨H1, I1, q1⟩
theorem pw_or (ha : PT X a tA) (hb : PW X (.BoolOp .Or (b :: rest) pos) tB') : PW X (.BoolOp .Or (a :: b :: rest) pos) (tOr tA tB') := by
  intro wh pins s σ H Q I h
  refine isTrue_or (thn (ha pins s σ H _ I h) fun c s1 ⟨H1, I1, q1⟩ => ?_)
  cases c with
  | true => exact ⟨H1, I1, q1⟩
  | false => exact hb wh pins s1 σ H1 Q I1 q1
theorem pt_not (ha : PT X a tA) : PT X (.UnaryOp .Not a pos) (tNot tA) := by
  intro pins s σ H Q I h
  exact isTrue_not (ha pins s σ H (fun c H1 => Q (!c) H1) I h)
/-- .. as values (bools) -/
def tAndV (ta tb : TE) : TE := fun σ H Q => ta σ H fun x H1 => ∃ c, x = .bl c ∧ if c = true then tb σ H1 Q else Q (.bl false) H1
def tOrV (ta tb : TE) : TE := fun σ H Q => ta σ H fun x H1 => ∃ c, x = .bl c ∧ if c = true then Q (.bl true) H1 else tb σ H1 Q
def tNotV (ta : TE) : TE := fun σ H Q => ta σ H fun x H1 => ∃ c, x = .bl c ∧ Q (.bl (!c)) H1
theorem pe_one {op} {t : TE} (h : PE X a t) : PE X (.BoolOp op [a] pos) t := fun pins s σ H Q I hw => BoolOp_one (h pins s σ H Q I hw)
theorem pe_and (ha : PE X a ta) (hb : PE X (.BoolOp .And (b :: rest) pos) tb) : PE X (.BoolOp .And (a :: b :: rest) pos) (tAndV ta tb) := by
  intro pins s σ H Q I h
  refine BoolOp_and (thn (ha pins s σ H _ I h) fun v s1 ⟨x, H1, I1, r1, q1⟩ => ?_)
  obtain ⟨c, rfl, q1⟩ := q1
  cases r1
  refine wpAny_truthy_bool ?_
  cases c with
  | true => exact hb pins s1 σ H1 Q I1 q1
  | false => exact ⟨.bl false, H1, I1, rfl, q1⟩
theorem pe_or (ha : PE X a ta) (hb : PE X (.BoolOp .Or (b :: rest) pos) tb) : PE X (.BoolOp .Or (a :: b :: rest) pos) (tOrV ta tb) := by
  intro pins s σ H Q I h
  refine BoolOp_or (thn (ha pins s σ H _ I h) fun v s1 ⟨x, H1, I1, r1, q1⟩ => ?_)
  obtain ⟨c, rfl, q1⟩ := q1
  cases r1
  refine wpAny_truthy_bool ?_
  cases c with
  | false => exact hb pins s1 σ H1 Q I1 q1
  | true => exact ⟨.bl true, H1, I1, rfl, q1⟩
theorem pe_not (ha : PE X a ta) : PE X (.UnaryOp .Not a pos) (tNotV ta) := by
  intro pins s σ H Q I h
  refine UnaryOp_ (thn (ha pins s σ H _ I h) fun v s1 ⟨x, H1, I1, r1, q1⟩ => ?_)
  obtain ⟨c, rfl, q1⟩ := q1
  cases r1
  exact not_of (wpAny_truthy_bool ⟨.bl (!c), H1, I1, rfl, q1⟩)
/-- a if t else b -/
def tIf (t : TT) (ta tb : TE) : TE := fun σ H Q => t σ H fun c H1 => if c = true then ta σ H1 Q else tb σ H1 Q
theorem pe_ifExp {c : Expr} (hc : PT X c tA) (ha : PE X a ta) (hb : PE X b tb) : PE X (.IfExp c a b pos) (tIf tA ta tb) := by
  intro pins s σ H Q I h
  refine wpAny_IfExp (thn (hc pins s σ H _ I h) fun d s1 ⟨H1, I1, q1⟩ => ?_)
  cases d with
  | true => exact ha pins s1 σ H1 Q I1 q1
  | false => exact hb pins s1 σ H1 Q I1 q1
end
end L2

namespace L2
open PySem PySem.Spec PyProof.Rows

/-! ### a list, a tuple that is read: tracked, frozen, or an object of the module -/
def SqL (K : PySem.W.Frag) (H : Hp) (a : Addr) (xs : List V) : Prop :=
  Rd H a (.lst xs) ∨
    ∃ (o : Obj) (its : Array Value) (n : Nat), K.lookup a = some o ∧ o.cls = .type "list" ∧ o.dict = none ∧ o.data = .seq its n ∧ its.size ≤ sizeLine ∧ Vals xs its.toList
def SqT (K : PySem.W.Frag) (H : Hp) (a : Addr) (xs : List V) : Prop :=
  Rd H a (.tup xs) ∨
    ∃ (o : Obj) (its : Array Value) (n : Nat), K.lookup a = some o ∧ o.cls = .type "tuple" ∧ o.data = .seq its n ∧ its.size ≤ sizeLine ∧ Vals xs its.toList
def absV : Value → Option V
  | .none => some .non
  | .bool b => some (.bl b)
  | .int i _ => some (.int i)
  | .str x _ => some (.str x)
  | .bytes b _ => some (.byt b)
  | .float b _ => some (.flt b)
  | .ref a => some (.ref a)
  | .type n => some (.ty n)
  | _ => none
theorem RelV.abs {x : V} {u : Value} (r : RelV x u) : absV u = some x := by
  cases x with
  | non => cases r; rfl
  | bl _ => cases r; rfl
  | int _ => obtain ⟨t, rfl⟩ := r; rfl
  | str _ => obtain ⟨t, rfl⟩ := r; rfl
  | byt _ => obtain ⟨t, rfl⟩ := r; rfl
  | flt _ => obtain ⟨t, rfl⟩ := r; rfl
  | ref _ => cases r; rfl
  | ty _ => cases r; rfl
theorem RelV.inj {x y : V} {u : Value} (r : RelV x u) (q : RelV y u) : x = y := Option.some.inj (r.abs.symm.trans q.abs)
theorem Vals.inj : ∀ {xs ys : List V} {us : List Value}, Vals xs us → Vals ys us → xs = ys
  | _, _, _, .nil, .nil => rfl
  | _, _, _, .cons r t, .cons r' t' => by rw [r.inj r', Vals.inj t t']
section
variable {X : Cx} {pins : List (Addr × Obj)} {σ : St} {H : Hp} {s : Shared} {a : Addr} {xs ys : List V}
theorem SqL.of {K : PySem.W.Frag} (h : H a = some (.lst xs)) : SqL K H a xs := .inl (.inl h)
theorem SqT.of {K : PySem.W.Frag} (h : H a = some (.tup xs)) : SqT K H a xs := .inl (.inl h)
theorem Inv.list (I : Inv X pins σ H s) (h : SqL X.K H a xs) : ∃ its : List Value, Vals xs its ∧ PlainL s.heap a its.toArray ∧ xs.length ≤ sizeLine := by
  rcases h with h | ⟨o, its, n, hk, hc, hd, hs, hz, r⟩
  · obtain ⟨z, its, n, r, e⟩ := h.ok I.hok
    exact ⟨its, r, ⟨_, n, e, rfl, rfl, rfl⟩, z⟩
  · refine ⟨its.toList, r, ⟨o, n, I.kIn a o hk, hc, hd, by simpa using hs⟩, ?_⟩
    have e := r.length
    simp only [Array.length_toList] at e
    omega
theorem Inv.tuple (I : Inv X pins σ H s) (h : SqT X.K H a xs) : ∃ its : List Value, Vals xs its ∧ IsTup s.heap a its.toArray ∧ xs.length ≤ sizeLine := by
  rcases h with h | ⟨o, its, n, hk, hc, hs, hz, r⟩
  · obtain ⟨z, its, r, p⟩ := h.ok I.hok
    exact ⟨its, r, p, z⟩
  · refine ⟨its.toList, r, ⟨o, I.kIn a o hk, hc, n, by simpa using hs⟩, ?_⟩
    have e := r.length
    simp only [Array.length_toList] at e
    omega
theorem Inv.list_inj (I : Inv X pins σ H s) (h : SqL X.K H a xs) (h' : SqL X.K H a ys) : xs = ys := by
  obtain ⟨its, r, ⟨o, n, e, _, _, d⟩, _⟩ := I.list h
  obtain ⟨its', r', ⟨o', n', e', _, _, d'⟩, _⟩ := I.list h'
  rw [e] at e'; cases e'
  rw [d] at d'
  injection d' with d1 _
  have : its = its' := by simpa using congrArg Array.toList d1
  subst this
  exact r.inj r'
theorem Inv.tuple_inj (I : Inv X pins σ H s) (h : SqT X.K H a xs) (h' : SqT X.K H a ys) : xs = ys := by
  obtain ⟨its, r, ⟨o, e, _, n, d⟩, _⟩ := I.tuple h
  obtain ⟨its', r', ⟨o', e', _, n', d'⟩, _⟩ := I.tuple h'
  rw [e] at e'; cases e'
  rw [d] at d'
  injection d' with d1 _
  have : its = its' := by simpa using congrArg Array.toList d1
  subst this
  exact r.inj r'
end

/-! ### another wish about exceptions -/
abbrev Cx.wish (X : Cx) (E : Value → Shared → Prop) : Cx := { X with xe := E }
/-- no exception leaves -/
abbrev Cx.nox (X : Cx) : Cx := X.wish fun _ _ => False
theorem Cx.Ok.wish {X : Cx} (ok : X.Ok) (E : Value → Shared → Prop) : (X.wish E).Ok :=
  ⟨ok.mod, ok.kind, ok.glob, ok.blt, ok.above, ok.inj, ok.has, ok.cab, ok.hd, ok.frames, ok.stk, ok.exf, ok.bs, ok.bsz, ok.noex, ok.exfs, ok.funs, ok.frf⟩
theorem Cx.Ok.unwish {X : Cx} {E : Value → Shared → Prop} (ok : (X.wish E).Ok) : X.Ok :=
  ⟨ok.mod, ok.kind, ok.glob, ok.blt, ok.above, ok.inj, ok.has, ok.cab, ok.hd, ok.frames, ok.stk, ok.exf, ok.bs, ok.bsz, ok.noex, ok.exfs, ok.funs, ok.frf⟩
section
variable {X : Cx} {pins : List (Addr × Obj)} {σ : St} {H : Hp} {s : Shared} {E : Value → Shared → Prop}
theorem Inv.wish (I : Inv X pins σ H s) (E : Value → Shared → Prop) : Inv (X.wish E) pins σ H s := ⟨I.ok.wish E, I.os, I.bare, I.base, I.loc, I.cell, I.free, I.freeC, I.pin, I.hok, I.len⟩
theorem Inv.unwish (I : Inv (X.wish E) pins σ H s) : Inv X pins σ H s := ⟨I.ok.unwish, I.os, I.bare, I.base, I.loc, I.cell, I.free, I.freeC, I.pin, I.hok, I.len⟩
theorem SP.unwish {D : Ends} {f : Flow} {s' : Shared} (h : SP (X.wish E) pins D f s') : SP X pins D f s' := by
  cases f with
  | next => obtain ⟨σ', H', I, q⟩ := h; exact ⟨σ', H', I.unwish, q⟩
  | brk => obtain ⟨σ', H', I, q⟩ := h; exact ⟨σ', H', I.unwish, q⟩
  | cont => obtain ⟨σ', H', I, q⟩ := h; exact ⟨σ', H', I.unwish, q⟩
  | ret u => obtain ⟨v, σ', H', I, r, q⟩ := h; exact ⟨v, σ', H', I.unwish, r, q⟩
theorem PE.nox {e : Expr} {t : TE} (h : PE X.nox e t) : PE X e t := fun pins s σ H Q I hw =>
  wpAny_mono (h pins s σ H Q (I.wish _) hw) (fun _ _ ⟨v, H', I', r, q⟩ => ⟨v, H', I'.unwish, r, q⟩) fun _ _ z => False.elim z
theorem PT.nox {e : Expr} {t : TT} (h : PT X.nox e t) : PT X e t := fun pins s σ H Q I hw =>
  wpAny_mono (h pins s σ H Q (I.wish _) hw) (fun _ _ ⟨H', I', q⟩ => ⟨H', I'.unwish, q⟩) fun _ _ z => False.elim z
theorem PSs.nox {st : List Stmt} {t : TS} (h : PSs X.nox st t) : PSs X st t := fun pins s σ H D I hw =>
  wpAny_mono (h pins s σ H D (I.wish _) hw) (fun _ _ q => q.unwish) fun _ _ z => False.elim z
end

/-! ### blocks and small statements -/
section
variable {X : Cx} {st : Stmt} {rest : List Stmt} {t u : TS} {e : Expr} {te : TE} {pos : Pos}
def tNext : TS := fun D σ H => D.nx σ H
def tSeq (t u : TS) : TS := fun D σ H => t { D with nx := u D } σ H
theorem pss_nil : PSs X [] tNext := fun _ _ σ H _ I h => wpAny_execs_nil ⟨σ, H, I, h⟩
theorem pss_cons (h1 : PS X st t) (h2 : PSs X rest u) : PSs X (st :: rest) (tSeq t u) := by
  intro pins s σ H D I h
  refine wpAny_execs_cons (thn (h1 pins s σ H { D with nx := u D } I h) fun f s1 q => ?_)
  cases f with
  | next =>
    obtain ⟨σ', H', I', q⟩ := q
    exact h2 pins s1 σ' H' D I' q
  | ret v => exact q
  | brk => exact q
  | cont => exact q
theorem pss_one (h1 : PS X st t) : PSs X [st] t := by
  intro pins s σ H D I h
  refine wpAny_execs_cons (thn (h1 pins s σ H D I h) fun f s1 q => ?_)
  cases f with
  | next => exact wpAny_execs_nil q
  | ret v => exact q
  | brk => exact q
  | cont => exact q
def tBreak : TS := fun D σ H => D.bk σ H
def tCont : TS := fun D σ H => D.ct σ H
theorem ps_pass : PS X (.Pass pos) tNext := fun _ _ σ H _ I h => wpAny_Pass ⟨σ, H, I, h⟩
theorem ps_break : PS X (.Break pos) tBreak := fun _ _ σ H _ I h => wpAny_Break ⟨σ, H, I, h⟩
theorem ps_continue : PS X (.Continue pos) tCont := fun _ _ σ H _ I h => wpAny_Continue ⟨σ, H, I, h⟩
/-- in a def's body nothing is shown -/
theorem Inv.quiet {pins : List (Addr × Obj)} {σ : St} {H : Hp} {s : Shared} (I : Inv X pins σ H s) : interactive X.env = false := by simp [interactive, I.ok.kind]
/-- a docstring -/
theorem ps_doc {x j pos pos'} : PS X (.Expr (.Constant (.str x) j pos) pos') tNext := fun _ s σ H _ I h => wpAny_Expr (Calls.Constant_str (show SP X _ _ .next { s with toks := s.toks + 1 } from ⟨σ, H, I.tok _, h⟩)) I.quiet
/-- an expression whose value is dropped -/
def tDrop (te : TE) : TS := fun D σ H => te σ H fun _ H1 => D.nx σ H1
theorem ps_expr (he : PE X e te) (hs : swapsWith e none pos.line X.env = pure false := by rfl) : PS X (.Expr e pos) (tDrop te) := by
  intro pins s σ H D I h
  exact wpAny_Expr_any (thn (he pins s σ H _ I h) fun v s1 ⟨x, H1, I1, r1, q1⟩ => ⟨σ, H1, I1, q1⟩) I.quiet hs
def tRet (te : TE) : TS := fun D σ H => te σ H D.rt
theorem ps_ret (he : PE X e te) : PS X (.Return (some e) pos) (tRet te) := by
  intro pins s σ H D I h
  exact wpAny_Return_some (thn (he pins s σ H _ I h) fun v s1 ⟨x, H1, I1, r1, q1⟩ => ⟨x, σ, H1, I1, r1, q1⟩)
def tRetN : TS := fun D _ H => D.rt .non H
theorem ps_retN : PS X (.Return none pos) tRetN := fun _ _ σ H _ I h => wpAny_Return_none ⟨.non, σ, H, I, rfl, h⟩
def tIfS (c : TT) (t u : TS) : TS := fun D σ H => c σ H fun b H1 => if b = true then t D σ H1 else u D σ H1
theorem ps_if {c : Expr} {a b : List Stmt} {tc : TT} (hc : PT X c tc) (ha : PSs X a t) (hb : PSs X b u) : PS X (.If c a b pos) (tIfS tc t u) := by
  intro pins s σ H D I h
  refine wpAny_If (thn (hc pins s σ H _ I h) fun d s1 ⟨H1, I1, q1⟩ => ?_)
  cases d with
  | true => exact ha pins s1 σ H1 D I1 q1
  | false => exact hb pins s1 σ H1 D I1 q1
/-- code that the proof never comes to -/
def tNever : TS := fun _ _ _ => False
theorem ps_never : PS X st tNever := fun _ _ _ _ _ _ h => h.elim
theorem pss_never {sts : List Stmt} : PSs X sts tNever := fun _ _ _ _ _ _ h => h.elim
end

/-! ### targets -/
abbrev TG := V → St → Hp → (St → Hp → Prop) → Prop
abbrev TGs := List V → St → Hp → (St → Hp → Prop) → Prop
def PG (X : Cx) (target : Expr) (t : TG) : Prop :=
  ∀ (pins : List (Addr × Obj)) (s : Shared) (σ : St) (H : Hp) (v : V) (u : Value) (Q : St → Hp → Prop), Inv X pins σ H s → RelV v u → t v σ H Q →
    wpAny (model X.prog X.w) X.A (assign target X.env u) (fun _ s' => ∃ σ' H', Inv X pins σ' H' s' ∧ Q σ' H') X.xe s
/-- several targets, one after another -/
def PGs (X : Cx) (ts : List Expr) (t : TGs) : Prop :=
  ∀ (pins : List (Addr × Obj)) (s : Shared) (σ : St) (H : Hp) (vs : List V) (us : List Value) (Q : St → Hp → Prop), Inv X pins σ H s → Vals vs us → t vs σ H Q →
    wpAny (model X.prog X.w) X.A (assignInOrder ((assignEach ts X.env).map (·.2)) us) (fun _ s' => ∃ σ' H', Inv X pins σ' H' s' ∧ Q σ' H') X.xe s
/-- o[i] = v, by values -/
abbrev TSet := V → V → V → Hp → (Hp → Prop) → Prop
def PSet (X : Cx) (t : TSet) : Prop :=
  ∀ (pins : List (Addr × Obj)) (s : Shared) (σ : St) (H : Hp) (o i v : V) (ov iv u : Value) (Q : Hp → Prop), Inv X pins σ H s → RelV o ov → RelV i iv → RelV v u → t o i v H Q →
    wpAny (model X.prog X.w) X.A (setItem ov iv u) (fun _ s' => ∃ H', Inv X pins σ H' s' ∧ Q H') X.xe s
/-- a op= b, by values -/
abbrev TIp := V → V → Hp → VK → Prop
def PIp (X : Cx) (op : Operator) (t : TIp) : Prop :=
  ∀ (pins : List (Addr × Obj)) (s : Shared) (σ : St) (H : Hp) (x y : V) (v u : Value) (Q : VK), Inv X pins σ H s → RelV x v → RelV y u → t x y H Q →
    wpAny (model X.prog X.w) X.A (inplaceOp op v u) (EP X pins σ Q) X.xe s
section
variable {X : Cx} {pos : Pos}
def gName (i : Nat) : TG := fun v σ H Q => Q (σ.set i (some v)) H
theorem pg_name {i : Nat} {x : Str} (hN : X.N.Nodup) (hi : X.N[i]? = some x) (hx : Loc X.env.scope x) (hf : X.fn x = true ∨ X.env.scope.names.lookup x = some .local := by first | exact .inl rfl | exact .inr rfl | assumption) : PG X (.Name x pos) (gName i) := by
  intro pins s σ H v u Q I r h
  exact wpAny_assign_Name (store_ok I hN hi hx r (fun s' I' => ⟨_, H, I', h⟩) hf)
def gNil : TGs := fun vs σ H Q => vs = [] ∧ Q σ H
def gCons (t : TG) (u : TGs) : TGs := fun vs σ H Q => ∃ v r, vs = v :: r ∧ t v σ H fun σ' H' => u r σ' H' Q
theorem pgs_nil : PGs X [] gNil := by
  intro pins s σ H vs us Q I r h
  obtain ⟨e, h⟩ := h
  subst e
  cases r
  exact assignInOrder_nil ⟨σ, H, I, h⟩
theorem pgs_cons {e : Expr} {es : List Expr} {t : TG} {u : TGs} (h1 : PG X e t) (h2 : PGs X es u)
    (hs : (assignEach (e :: es) X.env).map (·.2) = assign e X.env :: (assignEach es X.env).map (·.2) := by rfl) : PGs X (e :: es) (gCons t u) := by
  intro pins s σ H vs us Q I r h
  obtain ⟨v, vr, e1, h⟩ := h
  subst e1
  cases r with
  | cons r rr =>
    rw [hs]
    refine assignInOrder_cons (thn (h1 pins s σ H _ _ _ I r h) fun _ s1 ⟨σ1, H1, I1, q1⟩ => ?_)
    exact h2 pins s1 σ1 H1 _ _ Q I1 rr q1
/-- (a, b, ..) = a tuple of that length -/
def gTup (K : PySem.W.Frag) (n : Nat) (t : TGs) : TG := fun v σ H Q => ∃ a xs, v = .ref a ∧ SqT K H a xs ∧ xs.length = n ∧ t xs σ H Q
theorem pg_tup {es : List Expr} {k : Nat} {t : TGs} {n : Nat} (hc : X.calm = true) (h : PGs X es t)
    (hn : (assignEach es X.env).length = n := by rfl) (hst : (assignEach es X.env).findIdx? (·.1) = none := by rfl) : PG X (.Tuple es k pos) (gTup X.K n t) := by
  intro pins s σ H v u Q I r hw
  obtain ⟨a, xs, e1, hq, hl, hw⟩ := hw
  subst e1
  cases r
  obtain ⟨its, rv, ht, hz⟩ := I.tuple hq
  refine assign_Tuple_tuple (I.ok.hd hc) ht (by simp [hn, ← hl, rv.length]) hst fun h' hx => ?_
  have I1 : Inv X pins σ H { s with heap := h' } := I.kept (t' := s.toks) fun b o e => hx b o (Nat.ne_of_lt (Heap.lt_size e)) e
  exact h pins _ σ H xs _ Q I1 (by simpa using rv) hw
/-- o[i] = .. -/
def gSub (to ti : TE) (t : TSet) : TG := fun v σ H Q => to σ H fun o H1 => ti σ H1 fun i H2 => t o i v H2 fun H3 => Q σ H3
theorem pg_sub {o i : Expr} {to ti : TE} {t : TSet} (ho : PE X o to) (hi : PE X i ti) (hs : PSet X t)
    (ha : ∀ v, assign (.Subscript o i pos) X.env v = (do
      let ov ← holding [v] (eval o X.env)
      let iv ← holding [v, ov] (eval i X.env)
      standAt pos
      holding [v, ov, iv] (setItem ov iv v)
      release [v, ov, iv] []) := by intro _; rfl) : PG X (.Subscript o i pos) (gSub to ti t) := by
  intro pins s σ H v u Q I r h
  rw [ha]
  refine wpAny_bind (wpAny_holding (thn (ho pins s σ H _ I h) fun ov s1 ⟨x, H1, I1, r1, q1⟩ => ?_))
  refine wpAny_bind (wpAny_holding (thn (hi pins s1 σ H1 _ I1 q1) fun iv s2 ⟨y, H2, I2, r2, q2⟩ => ?_))
  refine wpAny_bind (wpAny_standAt (wpAny_bind (wpAny_holding (thn (hs pins s2 σ H2 x y v ov iv u _ I2 r1 r2 r q2) fun _ s3 ⟨H3, I3, q3⟩ => ?_))))
  exact wpAny_release ⟨σ, H3, I3, q3⟩
/-- target = value -/
def tAsg (te : TE) (g : TG) : TS := fun D σ H => te σ H fun x H1 => g x σ H1 D.nx
theorem ps_asg {tg e : Expr} {te : TE} {g : TG} (he : PE X e te) (hg : PG X tg g) (hs : swapsWithSole [tg] e pos.line X.env = pure false := by rfl) (hw : swappedStores [tg] e X.env = pure none := by rfl)
    (h1 : (assignEach [tg] X.env).map (·.2) = [assign tg X.env] := by rfl) : PS X (.Assign [tg] e pos) (tAsg te g) := by
  intro pins s σ H D I h
  refine wpAny_Assign_stores (thn (he pins s σ H _ I h) fun v s1 ⟨x, H1, I1, r1, q1⟩ => ?_) hs hw
  rw [h1]
  exact thn (hg pins s1 σ H1 x v _ I1 r1 q1) fun _ s2 q => q
/-- name = value -/
theorem ps_set {i : Nat} {x : Str} {e : Expr} {te : TE} {pos' : Pos} (hN : X.N.Nodup) (hi : X.N[i]? = some x) (hx : Loc X.env.scope x) (he : PE X e te) (hs : swapsWith e (some (.Name x pos')) pos.line X.env = pure false := by rfl) (hf : X.fn x = true ∨ X.env.scope.names.lookup x = some .local := by first | exact .inl rfl | exact .inr rfl | assumption) :
    PS X (.Assign [.Name x pos'] e pos) (tAsg te (gName i)) := by
  intro pins s σ H D I h
  refine wpAny_Assign_Name (thn (he pins s σ H _ I h) fun v s1 ⟨y, H1, I1, r1, q1⟩ => ?_) hs
  exact store_ok I1 hN hi hx r1 (fun s2 I2 => ⟨_, H1, I2, q1⟩) hf
/-- a, b = x, y with plain local names: stored from the right; the pair itself is not tracked (the opening rows as in PyProof/Rows/TupAssign.lean:23) -/
def tPar (i j : Nat) (ta : TA) : TS := fun D σ H => ta σ H fun vs H1 => ∃ v w, vs = [v, w] ∧ D.nx ((σ.set i (some v)).set j (some w)) H1
theorem ps_par {i j : Nat} {x y : Str} {a b : Expr} {ta : TA} {px py pt : Pos} {kt k2 pt2} (hc : X.calm = true) (hN : X.N.Nodup) (hi : X.N[i]? = some x) (hj : X.N[j]? = some y) (hij : i ≠ j)
    (hx : X.env.scope.names.lookup x = some .local) (hy : X.env.scope.names.lookup y = some .local) (ha : PA X [a, b] ta)
    (hw : swappedStores [.Tuple [.Name x px, .Name y py] kt pt] (.Tuple [a, b] k2 pt2) X.env = pure (some [x, y]))
    (hs : swapsWithSole [.Tuple [.Name x px, .Name y py] kt pt] (.Tuple [a, b] k2 pt2) pos.line X.env = pure false := by rfl) :
    PS X (.Assign [.Tuple [.Name x px, .Name y py] kt pt] (.Tuple [a, b] k2 pt2) pos) (tPar i j ta) := by
  intro pins s σ H D I h
  rw [exec_Assign_arm]
  refine wpAny_bind (wpAny_standAt ?_)
  rw [hs]
  refine wpAny_bind (wpAny_pure ?_)
  rw [if_neg (by decide)]
  refine wpAny_bind (Tuple_ (thn (ha _ pins s σ H _ I h) fun us s1 ⟨vs, H1, I1, r1, q1⟩ => ?_))
  obtain ⟨v, w, e1, q1⟩ := q1
  subst e1
  obtain ⟨u1, u2, rfl, rv, rw'⟩ : ∃ u1 u2, us = [u1, u2] ∧ RelV v u1 ∧ RelV w u2 := by
    cases r1 with
    | cons p q =>
      cases q with
      | cons p' q' =>
        cases q'
        exact ⟨_, _, rfl, p, p'⟩
  refine wpAny_newObj_type ?_ (by show 2 ≤ sizeLine; decide)
  have I2 : Inv X pins σ H1 { s1 with heap := s1.heap.push { cls := .type "tuple", data := .seq [u1, u2].toArray } } := I1.kept (t' := s1.toks) fun b o e => Heap.get?_push_of_some _ e
  rw [hw]
  refine wpAny_bind (wpAny_pure ?_)
  show wpAny (model X.prog X.w) X.A (do rule "assign.swapped-stores"; let items ← unpackItems (.ref s1.heap.objs.size) 2 none; assignInOrder [fun v => bindName X.env y v, fun v => bindName X.env x v] items.reverse; pure Flow.next) _ _ _
  refine wpAny_bind (wpAny_rule (wpAny_bind (unpackItems_tuple (items := #[u1, u2]) (I.ok.hd hc) (IsTup.new s1.heap _) fun h' hx' => ?_)))
  have I3 := I2.kept (h' := h') (t' := s1.toks) fun b o e => hx' b o (Nat.ne_of_lt (Heap.lt_size e)) e
  show wpAny _ _ (assignInOrder [fun v => bindName X.env y v, fun v => bindName X.env x v] [u2, u1] >>= fun _ => pure Flow.next) _ _ _
  refine wpAny_bind (assignInOrder_cons (wpAny_bindName (store_ok I3 hN hj (.inl hy) rw' (fun s2 I4 => ?_) (.inr hy))))
  refine assignInOrder_cons (wpAny_bindName (store_ok I4 hN hi (.inl hx) rv (fun s3 I5 => assignInOrder_nil (wpAny_pure ?_)) (.inr hx)))
  rw [List.set_comm _ _ (Ne.symm hij)] at I5
  exact ⟨_, H1, I5, q1⟩
/-- name op= e -/
def tAug (i : Nat) (te : TE) (ti : TIp) : TS := fun D σ H => ∃ x, σ[i]? = some (some x) ∧ te σ H fun y H1 => ti x y H1 fun z H2 => D.nx (σ.set i (some z)) H2
theorem ps_aug {i : Nat} {x : Str} {e : Expr} {te : TE} {op : Operator} {ti : TIp} {pos' : Pos} (hN : X.N.Nodup) (hi : X.N[i]? = some x) (hx : Loc X.env.scope x) (he : PE X e te) (ho : PIp X op ti) (hf : X.fn x = true ∨ X.env.scope.names.lookup x = some .local := by first | exact .inl rfl | exact .inr rfl | assumption) :
    PS X (.AugAssign (.Name x pos') op e pos) (tAug i te ti) := by
  intro pins s σ H D I h
  obtain ⟨v, e1, h⟩ := h
  obtain ⟨m, hn, hl⟩ := I.loc
  have vis : Vis X.env.scope x := by rcases hx with k | k; exact .inl k; exact .inr (.inl k)
  obtain ⟨u, r, l⟩ := hl i x v hi e1 vis
  refine wpAny_AugAssign_Name ?_
  have go : wpAny (model X.prog X.w) X.A (eval e X.env) (fun w s₂ => wpAny (model X.prog X.w) X.A (inplaceOp op u w) (fun r s₃ => wpAny (model X.prog X.w) X.A (storeName X.env x r) (fun _ => SP X pins D .next) X.xe s₃) X.xe s₂) X.xe s := by
    refine thn (he pins s σ H _ I h) fun w s1 ⟨y, H1, I1, r1, q1⟩ => ?_
    refine thn (ho pins s1 σ H1 v y u w _ I1 r r1 q1) fun z s2 ⟨zv, H2, I2, r2, q2⟩ => ?_
    exact store_ok I2 hN hi hx r2 (fun s3 I3 => ⟨_, H2, I3, q2⟩) hf
  rcases l with ⟨hk, hm⟩ | ⟨hk, c, hc, hcell⟩
  · exact wpAny_loadName_local I.ok.kind hk hn hm go
  · rcases hk with hk | hk
    · exact wpAny_loadName_cell I.ok.kind hk hc hcell go
    · rcases hx with k | k
      · have : X.env.scope.names.lookup x = some .free := hk
        rw [k] at this; cases this
      · have : X.env.scope.names.lookup x = some .free := hk
        rw [k] at this; cases this
/-- o[i] op= e -/
def tAugS (to ti te : TE) (tget : V → V → Hp → VK → Prop) (tip : TIp) (tset : TSet) : TS := fun D σ H => to σ H fun o H1 => ti σ H1 fun i H2 => tget o i H2 fun x H3 => te σ H3 fun y H4 => tip x y H4 fun z H5 => tset o i z H5 fun H6 => D.nx σ H6
/-- o[i], by values -/
def PGet (X : Cx) (t : V → V → Hp → VK → Prop) : Prop :=
  ∀ (pins : List (Addr × Obj)) (s : Shared) (σ : St) (H : Hp) (o i : V) (ov iv : Value) (Q : VK), Inv X pins σ H s → RelV o ov → RelV i iv → t o i H Q →
    wpAny (model X.prog X.w) X.A (getItem ov iv) (EP X pins σ Q) X.xe s
theorem ps_augS {o i e : Expr} {to ti te : TE} {tget : V → V → Hp → VK → Prop} {tip : TIp} {tset : TSet} {op : Operator} {tpos : Pos} (ho : PE X o to) (hi : PE X i ti) (hg : PGet X tget) (he : PE X e te) (hp : PIp X op tip) (hs : PSet X tset)
    (ha : ∀ ov iv new, augStore i ov iv new = (do holding [new, ov, iv] (setItem ov iv new); release [new, ov, iv] []; pure .next) := by intros; rfl) : PS X (.AugAssign (.Subscript o i tpos) op e pos) (tAugS to ti te tget tip tset) := by
  intro pins s σ H D I h
  refine wpAny_AugAssign_SubscriptAny (thn (ho pins s σ H _ I h) fun ov s1 ⟨x1, H1, I1, r1, q1⟩ => ?_) ha
  refine thn (hi pins s1 σ H1 _ I1 q1) fun iv s2 ⟨x2, H2, I2, r2, q2⟩ => ?_
  refine thn (hg pins s2 σ H2 x1 x2 ov iv _ I2 r1 r2 q2) fun old s3 ⟨x3, H3, I3, r3, q3⟩ => ?_
  refine thn (he pins s3 σ H3 _ I3 q3) fun v s4 ⟨x4, H4, I4, r4, q4⟩ => ?_
  refine thn (hp pins s4 σ H4 x3 x4 old v _ I4 r3 r4 q4) fun new s5 ⟨x5, H5, I5, r5, q5⟩ => ?_
  exact thn (hs pins s5 σ H5 x1 x2 x5 ov iv new _ I5 r1 r2 r5 q5) fun _ s6 ⟨H6, I6, q6⟩ => ⟨σ, H6, I6, q6⟩
/-- ints -/
def ipI (f : Int → Int → Int) : TIp := fun x y H Q => ∃ i j, x = .int i ∧ y = .int j ∧ Q (.int (f i j)) H
theorem ip_add : PIp X .Add (ipI fun i j => i + j) := by
  intro pins s σ H x y v u Q I r1 r2 h
  obtain ⟨i, j, e1, e2, q⟩ := h
  subst e1; subst e2
  obtain ⟨t, rfl⟩ := r1
  obtain ⟨t', rfl⟩ := r2
  exact iadd_int ⟨.int _, H, I.tok _, ⟨_, rfl⟩, q⟩
theorem ip_sub : PIp X .Sub (ipI fun i j => i - j) := by
  intro pins s σ H x y v u Q I r1 r2 h
  obtain ⟨i, j, e1, e2, q⟩ := h
  subst e1; subst e2
  obtain ⟨t, rfl⟩ := r1
  obtain ⟨t', rfl⟩ := r2
  exact isub_int ⟨.int _, H, I.tok _, ⟨_, rfl⟩, q⟩
end

/-! ### while -/
section
variable {X : Cx} {pos : Pos}
/-- the invariant W with its measure -/
def tWhile (c : TT) (tb : TS) : TS := fun D σ H => ∃ W : Nat → St → Hp → Prop, (∃ m, W m σ H) ∧ ∀ m σ H, W m σ H →
  c σ H fun b H1 => if b = true then ∃ N : St → Hp → Prop, (∀ σ' H', N σ' H' → ∃ m', m' < m ∧ W m' σ' H') ∧ tb { D with nx := N, ct := N, bk := D.nx } σ H1 else D.nx σ H1
theorem ps_while {c : Expr} {body : List Stmt} {tc : TT} {tb : TS} (hp : PassesOwn (model X.prog X.w) X.A X.env X.xe) (hc : PT X c tc) (hb : PSs X body tb) : PS X (.While c body [] pos) (tWhile tc tb) := by
  intro pins s σ H D I h
  obtain ⟨W, ⟨m0, w0⟩, turn⟩ := h
  refine wpAny_While (codeAny_whileLoop (fun n s' => ∃ σ' H', Inv X pins σ' H' s' ∧ W n σ' H') ?_ m0 ⟨σ, H, I, w0⟩)
  rintro n s1 ⟨σ1, H1, I1, w1⟩
  refine wpAny_passesOwn hp (thn (hc pins s1 σ1 H1 _ I1 (turn n σ1 H1 w1)) fun b s2 ⟨H2, I2, q2⟩ => ?_)
  cases b with
  | true =>
    obtain ⟨N, hN, q2⟩ := q2
    rw [if_pos rfl]
    refine wpAny_passesOwn hp (thn (hb pins s2 σ1 H2 _ I2 q2) fun f s3 q3 => ?_)
    cases f with
    | next =>
      obtain ⟨σ3, H3, I3, n3⟩ := q3
      obtain ⟨m', hm, w3⟩ := hN σ3 H3 n3
      exact ⟨m', hm, σ3, H3, I3, w3⟩
    | cont =>
      obtain ⟨σ3, H3, I3, n3⟩ := q3
      obtain ⟨m', hm, w3⟩ := hN σ3 H3 n3
      exact ⟨m', hm, σ3, H3, I3, w3⟩
    | brk => exact q3
    | ret v => exact q3
  | false =>
    rw [if_neg Bool.false_ne_true]
    exact wpAny_execs_nil ⟨σ1, H2, I2, q2⟩
end

/-! ### what a loop or a comprehension walks -/
/-- at turn i: it yields x (the heap may grow), or it stops -/
structure It where
  go : Nat → Hp → Prop
  yld : Nat → Hp → V → Hp → Prop
  stop : Nat → Hp → Prop
/-- the iterator's own objects may turn: they are not the frame's, not pinned, younger than the entry (or a comprehension's own) -/
def FpOk (X : Cx) (pins : List (Addr × Obj)) (H : Hp) (b : Addr) : Prop :=
  H b = none ∧ b ≠ X.env.locals ∧ b ∉ X.fs ∧ (b ∈ X.ex ∨ X.s₀.heap.objs.size ≤ b) ∧ (∀ x c, X.env.cells.lookup x = some c → c ≠ b) ∧ ∀ p ∈ X.pn ++ pins, p.1 ≠ b
theorem Inv.fpOk {X : Cx} {pins : List (Addr × Obj)} {σ : St} {H H' : Hp} {s : Shared} {b : Addr} (I : Inv X pins σ H s) (hb : s.heap.objs.size ≤ b) (hn : H' b = none) : FpOk X pins H' b := by
  refine ⟨hn, Nat.ne_of_gt (Nat.lt_of_lt_of_le I.lt hb), I.nofs hb, .inr (Nat.le_trans I.sz hb), fun x c e z => ?_, fun p hp z => ?_⟩
  · obtain ⟨v, q⟩ := I.cell x c e
    exact absurd (Nat.lt_of_lt_of_le q.lt (by rw [z]; exact hb)) (Nat.lt_irrefl _)
  · exact absurd (Nat.lt_of_lt_of_le (Heap.lt_size (I.pin p hp).1) (by rw [z]; exact hb)) (Nat.lt_irrefl _)
structure Turn (P : Program) (w : World) (K : PySem.W.Frag) (tg : Expr) (J : It) (fp : List Addr) (it : Addr) (tn : Nat → Heap → Prop) : Prop where
  mem : it ∈ fp
  obj : ∀ i h, tn i h → ∀ b ∈ fp, ∃ o, h.get? b = some o ∧ ∀ v, o.data ≠ .cell v
  keep : ∀ i h h', tn i h → (∀ b ∈ fp, ∀ o, h.get? b = some o → h'.get? b = some o) → tn i h'
  item : ∀ (X : Cx), X.prog = P → X.w = w → X.K = K → X.calm = true → ∀ (i : Nat) (pins : List (Addr × Obj)) (s : Shared) (σ : St) (H : Hp) (E : Value → Shared → Prop), Inv X pins σ H s → (∀ b ∈ fp, FpOk X pins H b) → tn i s.heap → J.go i H →
    wpAny (model P w) X.A (pyNext (.ref it)) (fun r s1 => ∃ u, r = some u ∧
      wpAny (model P w) X.A (letOwnedTupleGo tg (.ref it) u) (fun _ s2 => ∃ x H', Inv X pins σ H' s2 ∧ RelV x u ∧ J.yld i H x H' ∧ tn (i + 1) s2.heap ∧ ∀ b ∈ fp, H' b = none) E s1) E s
  done : ∀ (X : Cx), X.prog = P → X.w = w → X.K = K → X.calm = true → ∀ (i : Nat) (pins : List (Addr × Obj)) (s : Shared) (σ : St) (H : Hp) (E : Value → Shared → Prop), Inv X pins σ H s → (∀ b ∈ fp, FpOk X pins H b) → tn i s.heap → J.stop i H →
    wpAny (model P w) X.A (pyNext (.ref it)) (fun r s1 => r = none ∧ Inv X pins σ H s1) E s
  self : ∀ (A : Around) (i : Nat) (s : Shared) (Q : Value → Shared → Prop) (E : Value → Shared → Prop), tn i s.heap → Q (.ref it) s → wpAny (model P w) A (pyIter (.ref it)) Q E s
abbrev TI := St → Hp → (It → Hp → Prop) → Prop
/-- an iterator has come -/
def PIE (X : Cx) (pins : List (Addr × Obj)) (σ : St) (tg : Expr) (R : It → Hp → Prop) (itv : Value) (s2 : Shared) : Prop :=
  ∃ (it : Addr) (fp : List Addr) (tn : Nat → Heap → Prop) (J : It) (H' : Hp), itv = .ref it ∧ Inv X pins σ H' s2 ∧ Turn X.prog X.w X.K tg J fp it tn ∧ tn 0 s2.heap ∧ (∀ b ∈ fp, FpOk X pins H' b) ∧ R J H'
def PI (X : Cx) (tg iter : Expr) (wi : TI) : Prop :=
  ∀ (pins : List (Addr × Obj)) (s : Shared) (σ : St) (H : Hp) (R : It → Hp → Prop), Inv X pins σ H s → wi σ H R →
    wpAny (model X.prog X.w) X.A (eval iter X.env) (fun v s1 => wpAny (model X.prog X.w) X.A (pyIter v) (PIE X pins σ tg R) X.xe s1) X.xe s

/-- the step ahead of the store is nothing for an iterator that keeps no tuple -/
theorem go_of {M : Model} {A : Around} {E : Value → Shared → Prop} {s : Shared} {tg : Expr} {it : Addr} {u : Value} {o : Obj} {n : String} {vs : Array Value} {Q : Unit → Shared → Prop} (ho : s.heap.get? it = some o) (hc : o.cls = .type n) (hd : o.data = .fields vs)
    (hn : ["enumerate", "zip", "dict_itemiterator", "dict_reverseitemiterator", "odict_iterator", "itertools.zip_longest", "itertools.pairwise"].contains n = false) (hQ : Q () s) : wpAny M A (letOwnedTupleGo tg (.ref it) u) Q E s := by
  unfold letOwnedTupleGo
  cases tg <;> first
    | exact wpAny_pure hQ
    | (cases u <;> first
        | exact wpAny_pure hQ
        | (refine wpAny_bind (wpAny_load ho ?_)
           rw [hc, hd]
           show wpAny M A (if (["enumerate", "zip", "dict_itemiterator", "dict_reverseitemiterator", "odict_iterator", "itertools.zip_longest", "itertools.pairwise"].contains n && vs[0]? == some (rawInt _)) = true then _ else _) Q E s
           rw [if_neg (by intro h; rw [hn, Bool.false_and] at h; cases h)]
           exact wpAny_pure hQ))

/-- the list at a, as it stands at each turn (a loop may append to it) -/
def Itl (K : PySem.W.Frag) (a : Addr) : It :=
  ⟨fun i H => ∃ xs x, SqL K H a xs ∧ xs[i]? = some x, fun i H x H' => H' = H ∧ ∀ xs, SqL K H a xs → xs[i]? = some x, fun i H => ∃ xs, SqL K H a xs ∧ xs.length ≤ i⟩
def Itt (K : PySem.W.Frag) (a : Addr) : It :=
  ⟨fun i H => ∃ xs x, SqT K H a xs ∧ xs[i]? = some x, fun i H x H' => H' = H ∧ ∀ xs, SqT K H a xs → xs[i]? = some x, fun i H => ∃ xs, SqT K H a xs ∧ xs.length ≤ i⟩
/-- lo, lo + 1, .. (n of them) -/
def Itr (lo : Int) (n : Nat) : It := ⟨fun i _ => i < n, fun i H x H' => H' = H ∧ x = .int (lo + i), fun i _ => n ≤ i⟩
theorem turn_list {P : Program} {w : World} {K : PySem.W.Frag} {tg : Expr} (a it : Addr) : Turn P w K tg (Itl K a) [it] it (fun i h => h.IsListIter it a i) where
  mem := by simp
  obj := fun i h st b hb => by
    have e : b = it := by simpa using hb
    subst e
    obtain ⟨o, e, c, d⟩ := st
    exact ⟨o, e, fun v z => by rw [d] at z; cases z⟩
  keep := fun i h h' st k => st.at fun o e => k it (by simp) o e
  item := by
    intro X hP hw hK hc i pins s σ H E I hf st hg
    subst hP hw hK
    obtain ⟨xs, x, hq, hx⟩ := hg
    obtain ⟨its, rv, p, hz⟩ := I.list hq
    obtain ⟨u, hu, ru⟩ := rv.get hx
    obtain ⟨f0, f1, f2, f3, f4, f5⟩ := hf it (by simp)
    refine wpAny_pyNext_list_item st p.isList (x := u) (by simpa using hu) fun h' st' sb => ?_
    have I1 : Inv X pins σ H { s with heap := h' } := I.turned (t' := s.toks) (fun b o hb e => (sb.2 b hb).trans e) f0 f1 f3 f4 f5
    obtain ⟨o, e, c, d⟩ := id st'
    exact ⟨u, rfl, go_of (s := { s with heap := h' }) e c d (by decide) ⟨x, H, I1, ru, ⟨rfl, fun ys hy => by rw [I.list_inj hy hq]; exact hx⟩, st', fun b hb => (hf b hb).1⟩⟩
  done := by
    intro X hP hw hK hc i pins s σ H E I hf st hg
    subst hP hw hK
    obtain ⟨xs, hq, hx⟩ := hg
    obtain ⟨its, rv, p, hz⟩ := I.list hq
    obtain ⟨f0, f1, f2, f3, f4, f5⟩ := hf it (by simp)
    have hl := rv.length
    exact wpAny_pyNext_list_end (I.ok.hd hc) st p.isList (by simp; omega) fun h' eb => ⟨rfl, I.turned (t' := s.toks) (fun b o hb e => eb b o hb e) f0 f1 f3 f4 f5⟩
  self := fun _ _ _ _ _ st h => wpAny_pyIter_listiter st h
theorem turn_tuple {P : Program} {w : World} {K : PySem.W.Frag} {tg : Expr} (a it : Addr) : Turn P w K tg (Itt K a) [it] it (fun i h => h.IsTupleIter it a i) where
  mem := by simp
  obj := fun i h st b hb => by
    have e : b = it := by simpa using hb
    subst e
    obtain ⟨o, e, c, d⟩ := st
    exact ⟨o, e, fun v z => by rw [d] at z; cases z⟩
  keep := fun i h h' st k => st.at fun o e => k it (by simp) o e
  item := by
    intro X hP hw hK hc i pins s σ H E I hf st hg
    subst hP hw hK
    obtain ⟨xs, x, hq, hx⟩ := hg
    obtain ⟨its, rv, p, hz⟩ := I.tuple hq
    obtain ⟨u, hu, ru⟩ := rv.get hx
    obtain ⟨f0, f1, f2, f3, f4, f5⟩ := hf it (by simp)
    refine wpAny_pyNext_tuple_item st (show s.heap.IsTuple a its.toArray from p) (x := u) (by simpa using hu) fun h' st' sb => ?_
    have I1 : Inv X pins σ H { s with heap := h' } := I.turned (t' := s.toks) (fun b o hb e => (sb.2 b hb).trans e) f0 f1 f3 f4 f5
    obtain ⟨o, e, c, d⟩ := id st'
    exact ⟨u, rfl, go_of (s := { s with heap := h' }) e c d (by decide) ⟨x, H, I1, ru, ⟨rfl, fun ys hy => by rw [I.tuple_inj hy hq]; exact hx⟩, st', fun b hb => (hf b hb).1⟩⟩
  done := by
    intro X hP hw hK hc i pins s σ H E I hf st hg
    subst hP hw hK
    obtain ⟨xs, hq, hx⟩ := hg
    obtain ⟨its, rv, p, hz⟩ := I.tuple hq
    obtain ⟨f0, f1, f2, f3, f4, f5⟩ := hf it (by simp)
    have hl := rv.length
    exact wpAny_pyNext_tuple_end (I.ok.hd hc) st (show s.heap.IsTuple a its.toArray from p) (by simp; omega) fun h' eb => ⟨rfl, I.turned (t' := s.toks) (fun b o hb e => eb b o hb e) f0 f1 f3 f4 f5⟩
  self := fun _ _ _ _ _ st h => wpAny_pyIter_tupleiter st h
theorem turn_range {P : Program} {w : World} {K : PySem.W.Frag} {tg : Expr} (it : Addr) (lo : Int) (n : Nat) : Turn P w K tg (Itr lo n) [it] it (fun i h => IsRangeIter h it (lo + (i : Nat) * 1) ((n : Int) - (i : Nat)) 1) where
  mem := by simp
  obj := fun i h st b hb => by
    have e : b = it := by simpa using hb
    subst e
    exact ⟨_, st, fun v z => by
      have z' : Data.fields _ = Data.cell v := z
      cases z'⟩
  keep := fun i h h' st k => k it (by simp) _ st
  item := by
    intro X hP hw hK hc i pins s σ H E I hf st hg
    subst hP hw hK
    obtain ⟨f0, f1, f2, f3, f4, f5⟩ := hf it (by simp)
    have W := Walks.range (prog := X.prog) (w := X.w) (I.ok.hd hc) it lo 1 n
    refine W.item i s _ _ hg st fun v h' tk hv st' kk => ?_
    obtain ⟨t, rfl⟩ := hv
    have I1 : Inv X pins σ H { s with heap := h', toks := tk } := I.turned (fun b o hb e => kk b o (by simpa using hb) e) f0 f1 f3 f4 f5
    refine ⟨_, rfl, go_of (s := { s with heap := h', toks := tk }) (n := "range_iterator") st' rfl rfl (by decide) ⟨.int (lo + i), H, I1, ⟨t, ?_⟩, ⟨rfl, rfl⟩, st', fun b hb => (hf b hb).1⟩⟩
    rw [Int.mul_one]
  done := by
    intro X hP hw hK hc i pins s σ H E I hf st hg
    subst hP hw hK
    obtain ⟨f0, f1, f2, f3, f4, f5⟩ := hf it (by simp)
    exact wpAny_pyNext_range_end (I.ok.hd hc) st (by have : n ≤ i := hg; omega) fun h' eb => ⟨rfl, I.turned (t' := s.toks) (fun b o hb e => eb b o hb e) f0 f1 f3 f4 f5⟩
  self := fun _ _ _ _ _ st h => wpAny_pyIter_rangeiter st h
end L2

namespace L2
open PySem PySem.Spec PyProof.Rows
section
variable {X : Cx} {tg : Expr}
def iList (K : PySem.W.Frag) (tl : TE) : TI := fun σ H R => tl σ H fun x H1 => ∃ a, x = .ref a ∧ (∃ xs, SqL K H1 a xs) ∧ R (Itl K a) H1
def iTup (K : PySem.W.Frag) (tl : TE) : TI := fun σ H R => tl σ H fun x H1 => ∃ a, x = .ref a ∧ (∃ xs, SqT K H1 a xs) ∧ R (Itt K a) H1
theorem pi_list {l : Expr} {tl : TE} (hl : PE X l tl) : PI X tg l (iList X.K tl) := by
  intro pins s σ H R I h
  refine thn (hl pins s σ H _ I h) fun v s1 ⟨x, H1, I1, r1, q1⟩ => ?_
  obtain ⟨a, e, ⟨xs, hq⟩, q⟩ := q1
  subst e
  cases r1
  obtain ⟨its, rv, p, hz⟩ := I1.list hq
  refine wpAny_pyIter_list p.isList ?_
  refine ⟨s1.heap.objs.size, [s1.heap.objs.size], _, _, H1, rfl, I1.kept (t' := s1.toks) fun b o e => Heap.get?_push_of_some _ e, turn_list a _, ⟨_, Heap.get?_push_size _ rfl, rfl, rfl⟩, fun b hb => ?_, q⟩
  have e : b = s1.heap.objs.size := by simpa using hb
  subst e
  exact I1.fpOk (Nat.le_refl _) (I1.hok.fresh (Nat.le_refl _))
theorem pi_tup {l : Expr} {tl : TE} (hl : PE X l tl) : PI X tg l (iTup X.K tl) := by
  intro pins s σ H R I h
  refine thn (hl pins s σ H _ I h) fun v s1 ⟨x, H1, I1, r1, q1⟩ => ?_
  obtain ⟨a, e, ⟨xs, hq⟩, q⟩ := q1
  subst e
  cases r1
  obtain ⟨its, rv, p, hz⟩ := I1.tuple hq
  refine wpAny_pyIter_tuple (show s1.heap.IsTuple a its.toArray from p) ?_
  refine ⟨s1.heap.objs.size, [s1.heap.objs.size], _, _, H1, rfl, I1.kept (t' := s1.toks) fun b o e => Heap.get?_push_of_some _ e, turn_tuple a _, ⟨_, Heap.get?_push_size _ rfl, rfl, rfl⟩, fun b hb => ?_, q⟩
  have e : b = s1.heap.objs.size := by simpa using hb
  subst e
  exact I1.fpOk (Nat.le_refl _) (I1.hok.fresh (Nat.le_refl _))
/-- a range object just made, walked -/
theorem range_it {pins : List (Addr × Obj)} {σ : St} {H : Hp} {s : Shared} {R : It → Hp → Prop} {E : Value → Shared → Prop} {lo hi : Int} {t u v : Tok} {tk : Nat} (I : Inv X pins σ H s) (h1 : -(2 ^ 62) ≤ lo) (h2 : lo < 2 ^ 62) (h3 : -(2 ^ 62) ≤ hi) (h4 : hi < 2 ^ 62)
    (q : R (Itr lo (hi - lo).toNat) H) : wpAny (model X.prog X.w) X.A (pyIter (.ref s.heap.objs.size)) (PIE X pins σ tg R) E { s with heap := s.heap.push { cls := .type "range", data := .fields #[.int lo t, .int hi u, .int 1 v] }, toks := tk } := by
  refine wpAny_pyIter_range (IsRange.new ..) (small_one h1 h2 h3 h4) ?_
  have I1 : Inv X pins σ H { s with heap := s.heap.push { cls := .type "range", data := .fields #[.int lo t, .int hi u, .int 1 v] }, toks := tk } := I.kept fun b o e => Heap.get?_push_of_some _ e
  refine ⟨(s.heap.push { cls := .type "range", data := .fields #[.int lo t, .int hi u, .int 1 v] }).objs.size, [(s.heap.push { cls := .type "range", data := .fields #[.int lo t, .int hi u, .int 1 v] }).objs.size], _, _, H, rfl,
    I1.kept (t' := tk) fun b o e => Heap.get?_push_of_some _ e, turn_range _ lo (hi - lo).toNat, ?_, fun b hb => ?_, q⟩
  · have e1 : lo + ((0 : Nat) : Int) * 1 = lo := by simp
    have e2 : (((hi - lo).toNat : Nat) : Int) - ((0 : Nat) : Int) = Builtin.Range.rangeSize lo hi 1 := by rw [rangeSize_one]; split <;> omega
    show IsRangeIter _ _ (lo + ((0 : Nat) : Int) * 1) ((((hi - lo).toNat : Nat) : Int) - ((0 : Nat) : Int)) 1
    rw [e1, e2]
    exact Heap.get?_push_size _ rfl
  · have e : b = (s.heap.push { cls := .type "range", data := .fields #[.int lo t, .int hi u, .int 1 v] }).objs.size := by simpa using hb
    subst e
    exact I1.fpOk (Nat.le_refl _) (I1.hok.fresh (Nat.le_refl _))
def iRng1 (ta : TA) : TI := fun σ H R => ta σ H fun vs H1 => ∃ j : Int, vs = [.int j] ∧ -(2 ^ 62) ≤ j ∧ j < 2 ^ 62 ∧ R (Itr 0 j.toNat) H1
def iRng2 (ta : TA) : TI := fun σ H R => ta σ H fun vs H1 => ∃ i j : Int, vs = [.int i, .int j] ∧ (-(2 ^ 62) ≤ i ∧ i < 2 ^ 62 ∧ -(2 ^ 62) ≤ j ∧ j < 2 ^ 62) ∧ R (Itr i (j - i).toNat) H1
theorem pi_range1 {a : Expr} {ta : TA} {p pos : Pos} (hg : Gl X "range") (hm : X.mg "range" = none) (ha : PA X [a] ta) (hs : starEach [a] X.env = [(false, eval a X.env)] := by rfl) : PI X tg (.Call (.Name "range" p) [a] [] pos) (iRng1 ta) := by
  intro pins s σ H R I h
  refine Call_ (ld_blt I hg hm boot_range (PyProof.Rows.callWith_type1 (thn (ha pos pins s σ H _ I h) fun us s1 ⟨vs, H1, I1, r1, q1⟩ => ?_) hs rfl))
  obtain ⟨j, e, q1, q2, q⟩ := q1
  subst e
  cases r1 with
  | cons r rr =>
    cases rr
    obtain ⟨t, rfl⟩ := r
    exact call_range_1 (range_it I1 (by omega) (by omega) q1 q2 (by simpa using q))
theorem pi_range2 {a b : Expr} {ta : TA} {p pos : Pos} (hg : Gl X "range") (hm : X.mg "range" = none) (ha : PA X [a, b] ta) (hs : starEach [a, b] X.env = [(false, eval a X.env), (false, eval b X.env)] := by rfl) (hs2 : starEach [b] X.env = [(false, eval b X.env)] := by rfl) :
    PI X tg (.Call (.Name "range" p) [a, b] [] pos) (iRng2 ta) := by
  intro pins s σ H R I h
  refine Call_ (ld_blt I hg hm boot_range (PyProof.Rows.callWith_type1 (thn (ha pos pins s σ H _ I h) fun us s1 ⟨vs, H1, I1, r1, q1⟩ => ?_) (by rw [hs, hs2]) (by rw [hs2]; rfl)))
  obtain ⟨i, j, e, ⟨q1, q2, q3, q4⟩, q⟩ := q1
  subst e
  cases r1 with
  | cons r rr =>
    cases rr with
    | cons r' rr =>
      cases rr
      obtain ⟨t, rfl⟩ := r
      obtain ⟨t', rfl⟩ := r'
      exact call_range_2 (range_it I1 q1 q2 q3 q4 q)

/-! ### for -/
/-- W: the invariant by the turn and a measure; N: what the body is to reach -/
def tFor (wi : TI) (g : TG) (tb : TS) : TS := fun D σ H => wi σ H fun J H1 => ∃ W : Nat → Nat → St → Hp → Prop, (∃ m, W 0 m σ H1) ∧ ∀ i m σ H, W i m σ H →
  (J.stop i H ∧ D.nx σ H) ∨ (J.go i H ∧ ∃ N : St → Hp → Prop, (∀ σ' H', N σ' H' → ∃ m', m' < m ∧ W (i + 1) m' σ' H') ∧ ∀ x H', J.yld i H x H' → g x σ H' fun σ2 H2 => tb { D with nx := N, ct := N, bk := D.nx } σ2 H2)
/-- the records at fp as they stand -/
def pinsAt (fp : List Addr) (h : Heap) : List (Addr × Obj) := fp.filterMap fun b => (h.get? b).map fun o => (b, o)
theorem mem_pinsAt {fp : List Addr} {h : Heap} {b : Addr} {o : Obj} (hb : b ∈ fp) (e : h.get? b = some o) : (b, o) ∈ pinsAt fp h := List.mem_filterMap.mpr ⟨b, hb, by rw [e]; rfl⟩
theorem of_pinsAt {fp : List Addr} {h : Heap} {p : Addr × Obj} (hp : p ∈ pinsAt fp h) : p.1 ∈ fp ∧ h.get? p.1 = some p.2 := by
  obtain ⟨b, hb, e⟩ := List.mem_filterMap.mp hp
  cases q : h.get? b with
  | none => rw [q] at e; cases e
  | some o =>
    rw [q] at e
    have e' : (b, o) = p := Option.some.inj e
    subst e'
    exact ⟨hb, q⟩
theorem Inv.pinned {pins : List (Addr × Obj)} {σ : St} {H : Hp} {s : Shared} {fp : List Addr} (I : Inv X pins σ H s) (hf : ∀ b ∈ fp, FpOk X pins H b) (ho : ∀ b ∈ fp, ∃ o, s.heap.get? b = some o ∧ ∀ v, o.data ≠ .cell v) : Inv X (pins ++ pinsAt fp s.heap) σ H s :=
  I.pins_of fun p hp => (List.mem_append.mp hp).elim (fun z => I.pin p (List.mem_append_right _ z)) fun z => by
    obtain ⟨hb, e⟩ := of_pinsAt z
    obtain ⟨f0, f1, f2, _⟩ := hf p.1 hb
    obtain ⟨o, e', d⟩ := ho p.1 hb
    rw [e] at e'; cases e'
    exact ⟨e, f0, f1, f2, d⟩
theorem Inv.unpinned {pins pl : List (Addr × Obj)} {σ : St} {H : Hp} {s : Shared} (I : Inv X (pins ++ pl) σ H s) : Inv X pins σ H s := I.pins_of fun p hp => I.pin p (List.mem_append_right _ (List.mem_append_left _ hp))
theorem ps_for {iter : Expr} {body : List Stmt} {wi : TI} {g : TG} {tb : TS} {pos : Pos} (hp : PassesOwn (model X.prog X.w) X.A X.env X.xe) (hc : X.calm = true) (hi : PI X tg iter wi) (hg : PG X tg g) (hb : PSs X body tb)
    (hs : ∀ x, foldedSetIterable iter X.env x = pure x := by intro _; rfl) : PS X (.For tg iter body [] pos) (tFor wi g tb) := by
  intro pins s σ H D I h
  refine wpAny_For (thn (hi pins s σ H _ I h) fun v s1 h1 => thn h1 fun itv s2 h2 => ?_) hs
  obtain ⟨it, fp, tn, J, H2, e, I2, T, st2, f2, W, ⟨m0, w0⟩, turn⟩ := h2
  subst e
  -- what stays true of the iterator's objects through the loop
  have stat : ∀ {H' : Hp}, (∀ b ∈ fp, H' b = none) → ∀ b ∈ fp, FpOk X pins H' b := fun hn b hb => ⟨hn b hb, (f2 b hb).2⟩
  refine codeAny_forLoop_any (fun n s' => ∃ i σ' H', Inv X pins σ' H' s' ∧ tn i s'.heap ∧ (∀ b ∈ fp, H' b = none) ∧ W i n σ' H') ?_ m0 ⟨0, σ, H2, I2, st2, fun b hb => (f2 b hb).1, w0⟩
  rintro n s3 ⟨i, σ3, H3, I3, st3, fr3, w3⟩
  rcases turn i n σ3 H3 w3 with ⟨stop, qn⟩ | ⟨go, N, hN, step⟩
  · refine wpAny_passesOwn hp (thn (T.done X rfl rfl rfl hc i pins s3 σ3 H3 X.xe I3 (stat fr3) st3 stop) fun r s4 ⟨hr, I4⟩ => ?_)
    subst hr
    exact wpAny_execs_nil ⟨σ3, H3, I4, qn⟩
  · refine wpAny_passesOwn hp (thn (T.item X rfl rfl rfl hc i pins s3 σ3 H3 X.xe I3 (stat fr3) st3 go) fun r s4 ⟨u, hr, h4⟩ => ?_)
    subst hr
    refine wpAny_passesOwn hp (thn h4 fun _ s5 ⟨x, H5, I5, r5, y5, st5, fr5⟩ => ?_)
    have I5' := I5.pinned (stat fr5) (T.obj _ _ st5)
    refine wpAny_passesOwn hp (thn (hg _ s5 σ3 H5 x u _ I5' r5 (step x H5 y5)) fun _ s6 ⟨σ6, H6, I6, q6⟩ => ?_)
    refine wpAny_passesOwn hp (thn (hb _ s6 σ6 H6 _ I6 q6) fun f s7 q7 => ?_)
    have again : ∀ {σ7 : St} {H7 : Hp}, Inv X (pins ++ pinsAt fp s5.heap) σ7 H7 s7 → N σ7 H7 → ∃ m, m < n ∧ ∃ i σ' H', Inv X pins σ' H' s7 ∧ tn i s7.heap ∧ (∀ b ∈ fp, H' b = none) ∧ W i m σ' H' := fun {σ7 H7} I7 n7 => by
      obtain ⟨m', hm, w7⟩ := hN σ7 H7 n7
      refine ⟨m', hm, i + 1, σ7, H7, I7.unpinned, T.keep _ _ _ st5 fun b hb o e => (I7.pin (b, o) (List.mem_append_right _ (List.mem_append_right _ (mem_pinsAt hb e)))).1, fun b hb => ?_, w7⟩
      obtain ⟨o, e, d⟩ := T.obj _ _ st5 b hb
      exact (I7.pin (b, o) (List.mem_append_right _ (List.mem_append_right _ (mem_pinsAt hb e)))).2.1
    cases f with
    | next => obtain ⟨σ7, H7, I7, n7⟩ := q7; exact again I7 n7
    | cont => obtain ⟨σ7, H7, I7, n7⟩ := q7; exact again I7 n7
    | brk => obtain ⟨σ7, H7, I7, q7⟩ := q7; exact ⟨σ7, H7, I7.unpinned, q7⟩
    | ret v => obtain ⟨x7, σ7, H7, I7, r7, q7⟩ := q7; exact ⟨x7, σ7, H7, I7.unpinned, r7, q7⟩
end

/-! ### the forms one uses -/
/-- over a list that the body leaves as it is -/
theorem for_list {K : PySem.W.Frag} {a : Addr} {xs : List V} {g : TG} {tb : TS} {D : Ends} {σ : St} {H : Hp} (Pv : Nat → St → Hp → Prop) (h0 : Pv 0 σ H) (hl : ∀ i σ H, i ≤ xs.length → Pv i σ H → SqL K H a xs)
    (hs : ∀ i x σ H, xs[i]? = some x → Pv i σ H → g x σ H fun σ2 H2 => tb { D with nx := Pv (i + 1), ct := Pv (i + 1), bk := D.nx } σ2 H2) (hd : ∀ σ H, Pv xs.length σ H → D.nx σ H) :
    ∃ W : Nat → Nat → St → Hp → Prop, (∃ m, W 0 m σ H) ∧ ∀ i m σ H, W i m σ H →
      ((Itl K a).stop i H ∧ D.nx σ H) ∨ ((Itl K a).go i H ∧ ∃ N : St → Hp → Prop, (∀ σ' H', N σ' H' → ∃ m', m' < m ∧ W (i + 1) m' σ' H') ∧ ∀ x H', (Itl K a).yld i H x H' → g x σ H' fun σ2 H2 => tb { D with nx := N, ct := N, bk := D.nx } σ2 H2) := by
  refine ⟨fun i m σ H => m = xs.length - i ∧ i ≤ xs.length ∧ Pv i σ H, ⟨xs.length, by simp, Nat.zero_le _, h0⟩, ?_⟩
  rintro i m σ H ⟨rfl, hi, p⟩
  have q := hl i σ H hi p
  by_cases hlt : i < xs.length
  · refine .inr ⟨⟨xs, xs[i], q, by simp [hlt]⟩, Pv (i + 1), fun σ' H' p' => ⟨xs.length - (i + 1), by omega, rfl, hlt, p'⟩, fun x H' y => ?_⟩
    obtain ⟨e, y⟩ := y
    subst e
    exact hs i x σ _ (y xs q) p
  · have e : i = xs.length := by omega
    subst e
    exact .inl ⟨⟨xs, q, Nat.le_refl _⟩, hd σ H p⟩
theorem for_tup {K : PySem.W.Frag} {a : Addr} {xs : List V} {g : TG} {tb : TS} {D : Ends} {σ : St} {H : Hp} (Pv : Nat → St → Hp → Prop) (h0 : Pv 0 σ H) (hl : ∀ i σ H, i ≤ xs.length → Pv i σ H → SqT K H a xs)
    (hs : ∀ i x σ H, xs[i]? = some x → Pv i σ H → g x σ H fun σ2 H2 => tb { D with nx := Pv (i + 1), ct := Pv (i + 1), bk := D.nx } σ2 H2) (hd : ∀ σ H, Pv xs.length σ H → D.nx σ H) :
    ∃ W : Nat → Nat → St → Hp → Prop, (∃ m, W 0 m σ H) ∧ ∀ i m σ H, W i m σ H →
      ((Itt K a).stop i H ∧ D.nx σ H) ∨ ((Itt K a).go i H ∧ ∃ N : St → Hp → Prop, (∀ σ' H', N σ' H' → ∃ m', m' < m ∧ W (i + 1) m' σ' H') ∧ ∀ x H', (Itt K a).yld i H x H' → g x σ H' fun σ2 H2 => tb { D with nx := N, ct := N, bk := D.nx } σ2 H2) := by
  refine ⟨fun i m σ H => m = xs.length - i ∧ i ≤ xs.length ∧ Pv i σ H, ⟨xs.length, by simp, Nat.zero_le _, h0⟩, ?_⟩
  rintro i m σ H ⟨rfl, hi, p⟩
  have q := hl i σ H hi p
  by_cases hlt : i < xs.length
  · refine .inr ⟨⟨xs, xs[i], q, by simp [hlt]⟩, Pv (i + 1), fun σ' H' p' => ⟨xs.length - (i + 1), by omega, rfl, hlt, p'⟩, fun x H' y => ?_⟩
    obtain ⟨e, y⟩ := y
    subst e
    exact hs i x σ _ (y xs q) p
  · have e : i = xs.length := by omega
    subst e
    exact .inl ⟨⟨xs, q, Nat.le_refl _⟩, hd σ H p⟩
theorem for_range {lo : Int} {n : Nat} {g : TG} {tb : TS} {D : Ends} {σ : St} {H : Hp} (Pv : Nat → St → Hp → Prop) (h0 : Pv 0 σ H)
    (hs : ∀ i σ H, i < n → Pv i σ H → g (.int (lo + i)) σ H fun σ2 H2 => tb { D with nx := Pv (i + 1), ct := Pv (i + 1), bk := D.nx } σ2 H2) (hd : ∀ σ H, Pv n σ H → D.nx σ H) :
    ∃ W : Nat → Nat → St → Hp → Prop, (∃ m, W 0 m σ H) ∧ ∀ i m σ H, W i m σ H →
      ((Itr lo n).stop i H ∧ D.nx σ H) ∨ ((Itr lo n).go i H ∧ ∃ N : St → Hp → Prop, (∀ σ' H', N σ' H' → ∃ m', m' < m ∧ W (i + 1) m' σ' H') ∧ ∀ x H', (Itr lo n).yld i H x H' → g x σ H' fun σ2 H2 => tb { D with nx := N, ct := N, bk := D.nx } σ2 H2) := by
  refine ⟨fun i m σ H => m = n - i ∧ i ≤ n ∧ Pv i σ H, ⟨n, by simp, Nat.zero_le _, h0⟩, ?_⟩
  rintro i m σ H ⟨rfl, hi, p⟩
  by_cases hlt : i < n
  · refine .inr ⟨hlt, Pv (i + 1), fun σ' H' p' => ⟨n - (i + 1), by omega, rfl, hlt, p'⟩, fun x H' y => ?_⟩
    obtain ⟨e, y⟩ := y
    subst e y
    exact hs i σ _ hlt p
  · have e : i = n := by omega
    subst e
    exact .inl ⟨Nat.le_refl _, hd σ H p⟩
/-- while, by a word and a measure of the state -/
theorem while_by {c : TT} {tb : TS} {D : Ends} {σ : St} {H : Hp} (Pv : St → Hp → Prop) (μ : St → Hp → Nat) (h0 : Pv σ H)
    (hs : ∀ σ H, Pv σ H → c σ H fun b H1 => if b = true then tb { D with nx := fun σ' H' => Pv σ' H' ∧ μ σ' H' < μ σ H, ct := fun σ' H' => Pv σ' H' ∧ μ σ' H' < μ σ H, bk := D.nx } σ H1 else D.nx σ H1)
    (mono : ∀ σ H Q Q', (∀ b H1, Q b H1 → Q' b H1) → c σ H Q → c σ H Q') : tWhile c tb D σ H := by
  refine ⟨fun m σ H => m = μ σ H ∧ Pv σ H, ⟨_, rfl, h0⟩, ?_⟩
  rintro m σ H ⟨rfl, p⟩
  refine mono σ H _ _ (fun b H1 q => ?_) (hs σ H p)
  cases b with
  | true => exact ⟨_, fun σ' H' ⟨p', l⟩ => ⟨_, l, rfl, p'⟩, q⟩
  | false => exact q
end L2

namespace L2
open PySem PySem.Spec PyProof.Rows

abbrev R2 := V → V → Hp → VK → Prop
/-- a two-place operation on values: f is binaryOp op, inplaceOp op or compareOp op -/
def OpR (X : Cx) (f : Value → Value → Sem Value) (r : R2) : Prop :=
  ∀ (pins : List (Addr × Obj)) (s : Shared) (σ : St) (H : Hp) (x y : V) (v u : Value) (Q : VK), Inv X pins σ H s → RelV x v → RelV y u → r x y H Q →
    wpAny (model X.prog X.w) X.A (f v u) (EP X pins σ Q) X.xe s
/-- a one-place operation -/
def UnR (X : Cx) (f : Value → Sem Value) (r : V → Hp → VK → Prop) : Prop :=
  ∀ (pins : List (Addr × Obj)) (s : Shared) (σ : St) (H : Hp) (x : V) (v : Value) (Q : VK), Inv X pins σ H s → RelV x v → r x H Q →
    wpAny (model X.prog X.w) X.A (f v) (EP X pins σ Q) X.xe s
/-- a call of a value that is known (a builtin, a type) with values -/
def CallR (X : Cx) (f : Value) (r : List V → Hp → VK → Prop) : Prop :=
  ∀ (pins : List (Addr × Obj)) (s : Shared) (σ : St) (H : Hp) (xs : List V) (us : List Value) (Q : VK), Inv X pins σ H s → Vals xs us → r xs H Q →
    wpAny (model X.prog X.w) X.A (call f us) (EP X pins σ Q) X.xe s
/-- a value's truth -/
def TruR (X : Cx) (r : V → Hp → (Bool → Hp → Prop) → Prop) : Prop :=
  ∀ (pins : List (Addr × Obj)) (s : Shared) (σ : St) (H : Hp) (x : V) (v : Value) (Q : Bool → Hp → Prop), Inv X pins σ H s → RelV x v → r x H Q →
    wpAny (model X.prog X.w) X.A (truthy v) (TP X pins σ Q) X.xe s

def tOp (r : R2) (ta tb : TE) : TE := fun σ H Q => ta σ H fun x H1 => tb σ H1 fun y H2 => r x y H2 Q
def tUn (r : V → Hp → VK → Prop) (ta : TE) : TE := fun σ H Q => ta σ H fun x H1 => r x H1 Q
/-- ints in, under C, and a value out -/
def rI (C : Int → Int → Prop) (g : Int → Int → V) : R2 := fun x y H Q => ∃ i j, x = .int i ∧ y = .int j ∧ C i j ∧ Q (g i j) H
def rI0 (g : Int → Int → V) : R2 := fun x y H Q => ∃ i j, x = .int i ∧ y = .int j ∧ Q (g i j) H
def rU (g : Int → V) : V → Hp → VK → Prop := fun x H Q => ∃ i, x = .int i ∧ Q (g i) H

section
variable {X : Cx} {a b c : Expr} {ta tb tc : TE} {pos : Pos}

theorem binT (ha : PE X a ta) (hb : PE X b tb) {pins : List (Addr × Obj)} {s : Shared} {σ : St} {H : Hp} {R : V → V → Hp → Prop} (I : Inv X pins σ H s)
    (h : ta σ H fun x H1 => tb σ H1 fun y H2 => R x y H2) {Q : Value → Shared → Prop} {f : Value → Value → Sem Value}
    (hf : ∀ v u s2 x y H2, Inv X pins σ H2 s2 → RelV x v → RelV y u → R x y H2 → wpAny (model X.prog X.w) X.A (f v u) Q X.xe s2) :
    wpAny (model X.prog X.w) X.A (eval a X.env) (fun v s₁ => wpAny (model X.prog X.w) X.A (eval b X.env) (fun u s₂ => wpAny (model X.prog X.w) X.A (f v u) Q X.xe s₂) X.xe s₁) X.xe s := by
  refine thn (ha pins s σ H _ I h) fun v s1 ⟨x, H1, I1, r1, q1⟩ => ?_
  refine thn (hb pins s1 σ H1 _ I1 q1) fun u s2 ⟨y, H2, I2, r2, q2⟩ => ?_
  exact hf v u s2 x y H2 I2 r1 r2 q2

theorem pe_op {op : Operator} {r : R2} (ho : OpR X (binaryOp op) r) (ha : PE X a ta) (hb : PE X b tb) : PE X (.BinOp a op b pos) (tOp r ta tb) := by
  intro pins s σ H Q I h
  exact wpAny_BinOp (binT ha hb I h fun v u s2 x y H2 I2 rx ry q => ho pins s2 σ H2 x y v u Q I2 rx ry q)
theorem pe_un {op : UnaryOp} {r : V → Hp → VK → Prop} (ho : UnR X (unaryOp op) r) (ha : PE X a ta) : PE X (.UnaryOp op a pos) (tUn r ta) := by
  intro pins s σ H Q I h
  exact UnaryOp_ (thn (ha pins s σ H _ I h) fun v s1 ⟨x, H1, I1, r1, q1⟩ => ho pins s1 σ H1 x v Q I1 r1 q1)
/-- a op= e at a name: the name's slot i -/
theorem augR {op : Operator} {r : R2} (ho : OpR X (inplaceOp op) r) {pins : List (Addr × Obj)} {s : Shared} {σ : St} {H : Hp} {x y : V} {v u : Value} {Q : VK} (I : Inv X pins σ H s)
    (rx : RelV x v) (ry : RelV y u) (q : r x y H Q) : wpAny (model X.prog X.w) X.A (inplaceOp op v u) (EP X pins σ Q) X.xe s := ho pins s σ H x y v u Q I rx ry q

/-! ### ints -/
theorem opI {f : Value → Value → Sem Value} {C : Int → Int → Prop} {g : Int → Int → Int}
    (rule : ∀ (i j : Int) (t u : Tok) (s : Shared) (Q : Value → Shared → Prop) (E : Value → Shared → Prop), C i j → Q (.int (g i j) s.toks) { s with toks := s.toks + 1 } → wpAny (model X.prog X.w) X.A (f (.int i t) (.int j u)) Q E s) :
    OpR X f (rI C fun i j => .int (g i j)) := by
  intro pins s σ H x y v u Q I rx ry h
  obtain ⟨i, j, rfl, rfl, hc, q⟩ := h
  obtain ⟨t, rfl⟩ := rx
  obtain ⟨t', rfl⟩ := ry
  exact rule i j t t' s _ _ hc ⟨.int (g i j), H, I.tok _, ⟨_, rfl⟩, q⟩
theorem opI0 {f : Value → Value → Sem Value} {g : Int → Int → Int}
    (rule : ∀ (i j : Int) (t u : Tok) (s : Shared) (Q : Value → Shared → Prop) (E : Value → Shared → Prop), Q (.int (g i j) s.toks) { s with toks := s.toks + 1 } → wpAny (model X.prog X.w) X.A (f (.int i t) (.int j u)) Q E s) :
    OpR X f (rI0 fun i j => .int (g i j)) := by
  intro pins s σ H x y v u Q I rx ry h
  obtain ⟨i, j, rfl, rfl, q⟩ := h
  obtain ⟨t, rfl⟩ := rx
  obtain ⟨t', rfl⟩ := ry
  exact rule i j t t' s _ _ ⟨.int (g i j), H, I.tok _, ⟨_, rfl⟩, q⟩
theorem opB0 {f : Value → Value → Sem Value} {g : Int → Int → Bool}
    (rule : ∀ (i j : Int) (t u : Tok) (s : Shared) (Q : Value → Shared → Prop) (E : Value → Shared → Prop), Q (.bool (g i j)) s → wpAny (model X.prog X.w) X.A (f (.int i t) (.int j u)) Q E s) :
    OpR X f (rI0 fun i j => .bl (g i j)) := by
  intro pins s σ H x y v u Q I rx ry h
  obtain ⟨i, j, rfl, rfl, q⟩ := h
  obtain ⟨t, rfl⟩ := rx
  obtain ⟨t', rfl⟩ := ry
  exact rule i j t t' s _ _ ⟨.bl (g i j), H, I, rfl, q⟩

def CDiv (i j : Int) : Prop := 0 < j ∧ j < 1073741824
def CDivN (i j : Int) : Prop := j ≠ 0 ∧ j.natAbs < 1073741824
def CPow (i j : Int) : Prop := 0 ≤ j ∧ j ≤ 1000000 ∧ i.natAbs < 2 ^ 64
def CMul (i j : Int) : Prop := (-(2 ^ 64) < i ∧ i < 2 ^ 64) ∨ (-(2 ^ 64) < j ∧ j < 2 ^ 64)
theorem CMul.ok {i j : Int} (h : CMul i j) : IntMulOk i j := by
  rcases h with ⟨h1, h2⟩ | ⟨h1, h2⟩
  · exact .of_left (intBits_le_64 h1 h2)
  · exact .of_right (intBits_le_64 h1 h2)
theorem two_pow_nn (k : Nat) : (0 : Int) ≤ 2 ^ k := by
  rw [two_pow_cast]
  exact Int.natCast_nonneg _

theorem op_add : OpR X (binaryOp .Add) (rI0 fun i j => .int (i + j)) := opI0 fun _ _ _ _ _ _ _ q => add_int q
theorem op_sub : OpR X (binaryOp .Sub) (rI0 fun i j => .int (i - j)) := opI0 fun _ _ _ _ _ _ _ q => sub_int q
theorem op_mul : OpR X (binaryOp .Mult) (rI CMul fun i j => .int (i * j)) := opI fun _ _ _ _ _ _ _ hc q => mul_int q hc.ok
/-- // by a positive divisor -/
theorem op_fdiv : OpR X (binaryOp .FloorDiv) (rI CDiv fun i j => .int (i / j)) := opI fun i j _ _ _ _ _ hc q => by
  have h1 : (0 : Int) < j := hc.1
  have h2 : j < 1073741824 := hc.2
  exact floordiv_int (by omega) (by rw [Int.fdiv_eq_ediv_of_nonneg i (by omega)]; exact q) (.inl (PyProof.noPylong_small (by omega)))
theorem op_fdivN : OpR X (binaryOp .FloorDiv) (rI CDivN fun i j => .int (i.fdiv j)) := opI fun _ _ _ _ _ _ _ hc q => floordiv_int hc.1 q (.inl (PyProof.noPylong_small hc.2))
/-- % by a positive divisor of any size -/
theorem op_mod : OpR X (binaryOp .Mod) (rI (fun _ j => 0 < j) fun i j => .int (i % j)) := opI fun i j _ _ _ _ _ hc q => by
  have h1 : (0 : Int) < j := hc
  exact mod_int' (by omega) (by rw [Int.fmod_eq_emod_of_nonneg i (by omega)]; exact q)
theorem op_modN : OpR X (binaryOp .Mod) (rI (fun _ j => j ≠ 0) fun i j => .int (i.fmod j)) := opI fun _ _ _ _ _ _ _ hc q => mod_int' hc q
theorem op_pow : OpR X (binaryOp .Pow) (rI CPow fun i j => .int (i ^ j.toNat)) := opI fun _ _ _ _ _ _ _ hc q => pow_int_small hc.1 hc.2.1 hc.2.2 q
theorem op_shl : OpR X (binaryOp .LShift) (rI CPow fun i j => .int (i * 2 ^ j.toNat)) := opI fun _ _ _ _ _ _ _ hc q => lshift_int_small hc.1 hc.2.1 hc.2.2 q
theorem op_shr : OpR X (binaryOp .RShift) (rI (fun _ j => 0 ≤ j) fun i j => .int (i / 2 ^ j.toNat)) := opI fun i j _ _ _ _ _ hc q =>
  rshift_int hc (by rw [Int.fdiv_eq_ediv_of_nonneg i (two_pow_nn _)]; exact q)
theorem op_and : OpR X (binaryOp .BitAnd) (rI0 fun i j => .int (Builtin.bitAnd i j)) := opI0 fun _ _ _ _ _ _ _ q => and_int q
theorem op_or : OpR X (binaryOp .BitOr) (rI0 fun i j => .int (Builtin.bitOr i j)) := opI0 fun _ _ _ _ _ _ _ q => or_int q
theorem op_xor : OpR X (binaryOp .BitXor) (rI0 fun i j => .int (Builtin.bitXor i j)) := opI0 fun _ _ _ _ _ _ _ q => xor_int q

theorem iop_add : OpR X (inplaceOp .Add) (rI0 fun i j => .int (i + j)) := opI0 fun _ _ _ _ _ _ _ q => iadd_int q
theorem iop_sub : OpR X (inplaceOp .Sub) (rI0 fun i j => .int (i - j)) := opI0 fun _ _ _ _ _ _ _ q => isub_int q
theorem iop_mul : OpR X (inplaceOp .Mult) (rI CMul fun i j => .int (i * j)) := opI fun _ _ _ _ _ _ _ hc q => imul_int q hc.ok
theorem iop_fdiv : OpR X (inplaceOp .FloorDiv) (rI CDiv fun i j => .int (i / j)) := opI fun i j _ _ _ _ _ hc q => by
  have h1 : (0 : Int) < j := hc.1
  have h2 : j < 1073741824 := hc.2
  exact ifloordiv_int (by omega) (by rw [Int.fdiv_eq_ediv_of_nonneg i (by omega)]; exact q) (.inl (PyProof.noPylong_small (by omega)))
theorem iop_mod : OpR X (inplaceOp .Mod) (rI (fun _ j => 0 < j) fun i j => .int (i % j)) := opI fun i j _ _ _ _ _ hc q => by
  have h1 : (0 : Int) < j := hc
  exact imod_int (by omega) (by rw [Int.fmod_eq_emod_of_nonneg i (by omega)]; exact q)
theorem iop_shl : OpR X (inplaceOp .LShift) (rI CPow fun i j => .int (i * 2 ^ j.toNat)) := opI fun _ _ _ _ _ _ _ hc q => ilshift_int_small hc.1 hc.2.1 hc.2.2 q
theorem iop_shr : OpR X (inplaceOp .RShift) (rI (fun _ j => 0 ≤ j) fun i j => .int (i / 2 ^ j.toNat)) := opI fun i j _ _ _ _ _ hc q =>
  irshift_int hc (by rw [Int.fdiv_eq_ediv_of_nonneg i (two_pow_nn _)]; exact q)
theorem iop_and : OpR X (inplaceOp .BitAnd) (rI0 fun i j => .int (Builtin.bitAnd i j)) := opI0 fun _ _ _ _ _ _ _ q => iand_int q
theorem iop_or : OpR X (inplaceOp .BitOr) (rI0 fun i j => .int (Builtin.bitOr i j)) := opI0 fun _ _ _ _ _ _ _ q => ior_int q
theorem iop_xor : OpR X (inplaceOp .BitXor) (rI0 fun i j => .int (Builtin.bitXor i j)) := opI0 fun _ _ _ _ _ _ _ q => ixor_int q

theorem unI {f : Value → Sem Value} {g : Int → Int}
    (rule : ∀ (i : Int) (t : Tok) (s : Shared) (Q : Value → Shared → Prop) (E : Value → Shared → Prop), Q (.int (g i) s.toks) { s with toks := s.toks + 1 } → wpAny (model X.prog X.w) X.A (f (.int i t)) Q E s) :
    UnR X f (rU fun i => .int (g i)) := by
  intro pins s σ H x v Q I rx h
  obtain ⟨i, rfl, q⟩ := h
  obtain ⟨t, rfl⟩ := rx
  exact rule i t s _ _ ⟨.int (g i), H, I.tok _, ⟨_, rfl⟩, q⟩
theorem un_neg : UnR X (unaryOp .USub) (rU fun i => .int (-i)) := unI fun _ _ _ _ _ q => neg_int q
theorem un_inv : UnR X (unaryOp .Invert) (rU fun i => .int (Builtin.bitNot i)) := unI fun _ _ _ _ _ q => invert_int q

/-! ### bools among ints: n += (a < b) -/
theorem op_add_ib : OpR X (binaryOp .Add) (fun x y H Q => ∃ i k, x = .int i ∧ y = .bl k ∧ Q (.int (i + b2i k)) H) := by
  intro pins s σ H x y v u Q I rx ry h
  obtain ⟨i, k, rfl, rfl, q⟩ := h
  obtain ⟨t, rfl⟩ := rx
  cases ry
  exact add_int_bool ⟨.int (i + b2i k), H, I.tok _, ⟨_, rfl⟩, q⟩
end

/-! ### comparisons -/
/-- the scalars that == tells apart as data does -/
def scal : V → V → Bool
  | .non, .non => true | .non, .int _ => true | .int _, .non => true | .non, .bl _ => true | .bl _, .non => true | .non, .str _ => true | .str _, .non => true
  | .int _, .int _ => true | .bl _, .bl _ => true | .str _, .str _ => true | .byt _, .byt _ => true
  | .int _, .str _ => true | .str _, .int _ => true | .bl _, .str _ => true | .str _, .bl _ => true
  | _, _ => false
def rEq : R2 := fun x y H Q => scal x y = true ∧ Q (.bl (decide (x = y))) H
def rNe : R2 := fun x y H Q => scal x y = true ∧ Q (.bl (!decide (x = y))) H

theorem dec_int {i j : Int} : decide (V.int i = V.int j) = (i == j) := by
  rw [Bool.eq_iff_iff]
  simp
theorem dec_bl {i j : Bool} : decide (V.bl i = V.bl j) = (i == j) := by
  rw [Bool.eq_iff_iff]
  simp
theorem dec_str {i j : Str} : decide (V.str i = V.str j) = (i == j) := by
  rw [Bool.eq_iff_iff]
  simp
theorem dec_byt {i j : Array UInt8} : decide (V.byt i = V.byt j) = (i.toList == j.toList) := by
  rw [Bool.eq_iff_iff]
  cases i
  cases j
  simp

section
variable {X : Cx} {a b c : Expr} {ta tb tc : TE} {pos : Pos}
theorem fin_bl {pins : List (Addr × Obj)} {σ : St} {H : Hp} {s : Shared} {Q : VK} {k k' : Bool} (I : Inv X pins σ H s) (q : Q (.bl k) H) (e : k = k') : EP X pins σ Q (.bool k') s := by
  subst e
  exact ⟨.bl k, H, I, rfl, q⟩
theorem op_eq : OpR X (compareOp .Eq) rEq := by
  intro pins s σ H x y v u Q I rx ry h
  obtain ⟨hs, q⟩ := h
  cases x with
  | non =>
    cases rx
    cases y with
    | non => cases ry; exact PySem.EqNone.eq_none_none (fin_bl I q (by simp))
    | bl j => cases ry; exact PySem.EqNone.eq_none_bool (fin_bl I q (by simp))
    | int j => obtain ⟨t', rfl⟩ := ry; exact PySem.EqNone.eq_none_int (fin_bl I q (by simp))
    | str j => obtain ⟨t', rfl⟩ := ry; exact PySem.EqNone.eq_none_str (fin_bl I q (by simp))
    | _ => exact absurd (show false = true from hs) Bool.false_ne_true
  | bl i =>
    cases rx
    cases y with
    | non => cases ry; exact PySem.EqNone.eq_bool_none (fin_bl I q (by simp))
    | bl j => cases ry; exact eq_bool (fin_bl I q dec_bl)
    | str j => obtain ⟨t', rfl⟩ := ry; exact PySem.EqMixed.eq_bool_str (fin_bl I q (by simp))
    | _ => exact absurd (show false = true from hs) Bool.false_ne_true
  | int i =>
    obtain ⟨t, rfl⟩ := rx
    cases y with
    | non => cases ry; exact PySem.EqNone.eq_int_none (fin_bl I q (by simp))
    | int j => obtain ⟨t', rfl⟩ := ry; exact eq_int (fin_bl I q dec_int)
    | str j => obtain ⟨t', rfl⟩ := ry; exact PySem.EqMixed.eq_int_str (fin_bl I q (by simp))
    | _ => exact absurd (show false = true from hs) Bool.false_ne_true
  | str i =>
    obtain ⟨t, rfl⟩ := rx
    cases y with
    | non => cases ry; exact PySem.EqNone.eq_str_none (fin_bl I q (by simp))
    | bl j => cases ry; exact PySem.EqMixed.eq_str_bool (fin_bl I q (by simp))
    | int j => obtain ⟨t', rfl⟩ := ry; exact PySem.EqMixed.eq_str_int (fin_bl I q (by simp))
    | str j => obtain ⟨t', rfl⟩ := ry; exact eq_str (fin_bl I q dec_str)
    | _ => exact absurd (show false = true from hs) Bool.false_ne_true
  | byt i =>
    obtain ⟨t, rfl⟩ := rx
    cases y with
    | byt j => obtain ⟨t', rfl⟩ := ry; exact PySem.W.eq_bytes (fin_bl I q dec_byt)
    | _ => exact absurd (show false = true from hs) Bool.false_ne_true
  | _ => cases y <;> exact absurd (show false = true from hs) Bool.false_ne_true
theorem op_ne : OpR X (compareOp .NotEq) rNe := by
  intro pins s σ H x y v u Q I rx ry h
  obtain ⟨hs, q⟩ := h
  cases x with
  | non =>
    cases rx
    cases y with
    | non => cases ry; exact PySem.EqNone.ne_none_none (fin_bl I q (by simp))
    | bl j => cases ry; exact PySem.EqNone.ne_none_bool (fin_bl I q (by simp))
    | int j => obtain ⟨t', rfl⟩ := ry; exact PySem.EqNone.ne_none_int (fin_bl I q (by simp))
    | str j => obtain ⟨t', rfl⟩ := ry; exact PySem.EqNone.ne_none_str (fin_bl I q (by simp))
    | _ => exact absurd (show false = true from hs) Bool.false_ne_true
  | bl i =>
    cases rx
    cases y with
    | non => cases ry; exact PySem.EqNone.ne_bool_none (fin_bl I q (by simp))
    | bl j => cases ry; exact ne_bool (fin_bl I q (congrArg not dec_bl))
    | str j => obtain ⟨t', rfl⟩ := ry; exact PySem.EqMixed.ne_bool_str (fin_bl I q (by simp))
    | _ => exact absurd (show false = true from hs) Bool.false_ne_true
  | int i =>
    obtain ⟨t, rfl⟩ := rx
    cases y with
    | non => cases ry; exact PySem.EqNone.ne_int_none (fin_bl I q (by simp))
    | int j => obtain ⟨t', rfl⟩ := ry; exact ne_int (fin_bl I q (congrArg not dec_int))
    | str j => obtain ⟨t', rfl⟩ := ry; exact PySem.EqMixed.ne_int_str (fin_bl I q (by simp))
    | _ => exact absurd (show false = true from hs) Bool.false_ne_true
  | str i =>
    obtain ⟨t, rfl⟩ := rx
    cases y with
    | non => cases ry; exact PySem.EqNone.ne_str_none (fin_bl I q (by simp))
    | bl j => cases ry; exact PySem.EqMixed.ne_str_bool (fin_bl I q (by simp))
    | int j => obtain ⟨t', rfl⟩ := ry; exact PySem.EqMixed.ne_str_int (fin_bl I q (by simp))
    | str j => obtain ⟨t', rfl⟩ := ry; exact ne_str (fin_bl I q (congrArg not dec_str))
    | _ => exact absurd (show false = true from hs) Bool.false_ne_true
  | byt i =>
    obtain ⟨t, rfl⟩ := rx
    cases y with
    | byt j => obtain ⟨t', rfl⟩ := ry; exact PySem.W.ne_bytes (fin_bl I q (congrArg not dec_byt))
    | _ => exact absurd (show false = true from hs) Bool.false_ne_true
  | _ => cases y <;> exact absurd (show false = true from hs) Bool.false_ne_true

theorem op_lt : OpR X (compareOp .Lt) (rI0 fun i j => .bl (decide (i < j))) := opB0 fun _ _ _ _ _ _ _ q => lt_int q
theorem op_le : OpR X (compareOp .LtE) (rI0 fun i j => .bl (decide (i ≤ j))) := opB0 fun _ _ _ _ _ _ _ q => le_int q
theorem op_gt : OpR X (compareOp .Gt) (rI0 fun i j => .bl (decide (j < i))) := opB0 fun _ _ _ _ _ _ _ q => gt_int q
theorem op_ge : OpR X (compareOp .GtE) (rI0 fun i j => .bl (decide (j ≤ i))) := opB0 fun _ _ _ _ _ _ _ q => ge_int q
theorem op_lt_str : OpR X (compareOp .Lt) (fun x y H Q => ∃ i j, x = .str i ∧ y = .str j ∧ Q (.bl (decide (i.cps.toList < j.cps.toList))) H) := by
  intro pins s σ H x y v u Q I rx ry h
  obtain ⟨i, j, rfl, rfl, q⟩ := h
  obtain ⟨t, rfl⟩ := rx
  obtain ⟨t', rfl⟩ := ry
  exact lt_str (fin_bl I q rfl)
/-- the one string within the other -/
theorem op_in_str : OpR X (compareOp .In) (fun x y H Q => ∃ i j, x = .str i ∧ y = .str j ∧ Q (.bl (!(Builtin.Str.occurrences j i 0 j.length 1).isEmpty)) H) := by
  intro pins s σ H x y v u Q I rx ry h
  obtain ⟨i, j, rfl, rfl, q⟩ := h
  obtain ⟨t, rfl⟩ := rx
  obtain ⟨t', rfl⟩ := ry
  exact in_str (fin_bl I q rfl)

/-- is None, is not None: the right side a value none -/
theorem op_isN : OpR X (compareOp .Is) (fun x y H Q => y = .non ∧ Q (.bl (decide (x = .non))) H) := by
  intro pins s σ H x y v u Q I rx ry h
  obtain ⟨rfl, q⟩ := h
  cases ry
  refine is_none_gen (fin_bl I q ?_)
  cases x <;> first
    | (cases rx; rfl)
    | (obtain ⟨t, rfl⟩ := rx; rfl)
theorem op_notN : OpR X (compareOp .IsNot) (fun x y H Q => y = .non ∧ Q (.bl (!decide (x = .non))) H) := by
  intro pins s σ H x y v u Q I rx ry h
  obtain ⟨rfl, q⟩ := h
  cases ry
  refine isnot_none_gen (fin_bl I q ?_)
  cases x <;> first
    | (cases rx; rfl)
    | (obtain ⟨t, rfl⟩ := rx; rfl)

theorem op_notin_str : OpR X (compareOp .NotIn) (fun x y H Q => ∃ i j, x = .str i ∧ y = .str j ∧ Q (.bl (!(!(Builtin.Str.occurrences j i 0 j.length 1).isEmpty))) H) := by
  intro pins s σ H x y v u Q I rx ry h
  obtain ⟨i, j, rfl, rfl, q⟩ := h
  obtain ⟨t, rfl⟩ := rx
  obtain ⟨t', rfl⟩ := ry
  exact notIn_str (fin_bl I q rfl)
/-- is, is not of two objects that are tracked lists or instances -/
def isObj : HO → Bool
  | .lst _ => true
  | .ins _ _ _ => true
  | _ => false
theorem obj_there {pins : List (Addr × Obj)} {s : Shared} {σ : St} {H : Hp} {a : Addr} {o : HO} (I : Inv X pins σ H s) (h : H a = some o) (p : isObj o = true) : ∃ ob, s.heap.get? a = some ob ∧ ob.cls ≠ .type "tuple" := by
  cases o with
  | lst xs =>
    obtain ⟨_, its, n, _, e⟩ : xs.length ≤ sizeLine ∧ ∃ (its : List Value) (n : Nat), Vals xs its ∧ s.heap.get? a = some { cls := .type "list", data := .seq its.toArray n } := I.hok a _ h
    exact ⟨_, e, (by show Value.type "list" ≠ .type "tuple"; decide +kernel)⟩
  | ins C dx fs =>
    have x := I.hok a _ h
    obtain ⟨_, _, _, e, _⟩ := x
    exact ⟨_, e, (by show Value.ref C ≠ .type "tuple"; exact fun z => by cases z)⟩
  | _ => exact absurd (show false = true from p) Bool.false_ne_true
theorem op_is_ref : OpR X (compareOp .Is) (fun x y H Q => ∃ a b oa ob, x = .ref a ∧ y = .ref b ∧ H a = some oa ∧ isObj oa = true ∧ H b = some ob ∧ isObj ob = true ∧ Q (.bl (decide (a = b))) H) := by
  intro pins s σ H x y v u Q I rx ry h
  obtain ⟨a, b, oa, ob, rfl, rfl, ha, pa, hb, pb, q⟩ := h
  cases rx
  cases ry
  obtain ⟨o1, e1, n1⟩ := obj_there I ha pa
  obtain ⟨o2, e2, _⟩ := obj_there I hb pb
  by_cases z : a = b
  · subst z
    exact wpAny_is_ref_self (fin_bl I q (by simp))
  · exact wpAny_is_ref_other z e1 e2 n1 (fin_bl I q (by simp [z]))
theorem op_isnot_ref : OpR X (compareOp .IsNot) (fun x y H Q => ∃ a b oa ob, x = .ref a ∧ y = .ref b ∧ H a = some oa ∧ isObj oa = true ∧ H b = some ob ∧ isObj ob = true ∧ Q (.bl (!decide (a = b))) H) := by
  intro pins s σ H x y v u Q I rx ry h
  obtain ⟨a, b, oa, ob, rfl, rfl, ha, pa, hb, pb, q⟩ := h
  cases rx
  cases ry
  obtain ⟨o1, e1, n1⟩ := obj_there I ha pa
  obtain ⟨o2, e2, _⟩ := obj_there I hb pb
  by_cases z : a = b
  · subst z
    exact wpAny_isNot_ref_self (fin_bl I q (by simp))
  · exact wpAny_isNot_ref_other z e1 e2 n1 (fin_bl I q (by simp [z]))

/-- two rules for one operation: by cases -/
theorem OpR.or {f : Value → Value → Sem Value} {r r' : R2} (h : OpR X f r) (h' : OpR X f r') : OpR X f (fun x y H Q => r x y H Q ∨ r' x y H Q) := by
  intro pins s σ H x y v u Q I rx ry q
  rcases q with q | q
  · exact h pins s σ H x y v u Q I rx ry q
  · exact h' pins s σ H x y v u Q I rx ry q

theorem nomark (b : Expr) {op : CmpOp} (h : op ≠ .In := by decide) (h2 : op ≠ .NotIn := by decide) : behindInMarks op b = false := by
  have e1 : (op == CmpOp.In) = false := by cases op <;> first | rfl | exact absurd rfl h
  have e2 : (op == CmpOp.NotIn) = false := by cases op <;> first | rfl | exact absurd rfl h2
  cases b <;> simp [behindInMarks, e1, e2]
/-- a comparison as a value; hm: nomark b, or (for in, not in) by with_unfolding_all rfl -/
theorem pe_cmpR {op : CmpOp} {r : R2} (ho : OpR X (compareOp op) r) (ha : PE X a ta) (hb : PE X b tb) (hm : behindInMarks op b = false) : PE X (.Compare a [op] [b] pos) (tOp r ta tb) := by
  intro pins s σ H Q I h
  exact wpAny_Compare1 (binT ha hb I h fun v u s2 x y H2 I2 rx ry q => ho pins s2 σ H2 x y v u Q I2 rx ry q) hm
/-- a reading of a value as a test -/
def tTest (t : TE) : TT := fun σ H Q => t σ H fun x H' => ∃ k, x = .bl k ∧ Q k H'
theorem pt_cmpR {op : CmpOp} {r : R2} (ho : OpR X (compareOp op) r) (ha : PE X a ta) (hb : PE X b tb) (hm : behindInMarks op b = false) : PT X (.Compare a [op] [b] pos) (tTest (tOp r ta tb)) := by
  intro pins s σ H Q I h
  refine wpAny_isTrue_Compare1 (thn (ha pins s σ H _ I h) fun v s1 ⟨x, H1, I1, r1, q1⟩ => thn (hb pins s1 σ H1 _ I1 q1) fun u s2 ⟨y, H2, I2, r2, q2⟩ =>
    thn (ho pins s2 σ H2 x y v u _ I2 r1 r2 q2) fun c s3 ⟨z, H3, I3, r3, k, e, q3⟩ => ?_) hm
  subst e
  cases r3
  exact wpAny_truthy_bool ⟨H3, I3, q3⟩
/-- a op1 b op2 c -/
def tChain (r r' : R2) (ta tb tc : TE) : TE := fun σ H Q => ta σ H fun x H1 => tb σ H1 fun y H2 => r x y H2 fun z H3 => ∃ k, z = .bl k ∧
  (if k = true then tc σ H3 fun w' H4 => r' y w' H4 Q else Q (.bl false) H3)
theorem pe_chain {op op' : CmpOp} {r r' : R2} (ho : OpR X (compareOp op) r) (ho' : OpR X (compareOp op') r') (ha : PE X a ta) (hb : PE X b tb) (hc : PE X c tc)
    (hm : lastMarks [op, op'] [b, c] = false := by with_unfolding_all rfl) : PE X (.Compare a [op, op'] [b, c] pos) (tChain r r' ta tb tc) := by
  intro pins s σ H Q I h
  refine Compare_chain (thn (ha pins s σ H _ I h) fun v s1 ⟨x, H1, I1, r1, q1⟩ => chain_link (thn (hb pins s1 σ H1 _ I1 q1) fun u s2 ⟨y, H2, I2, r2, q2⟩ =>
    thn (ho pins s2 σ H2 x y v u _ I2 r1 r2 q2) fun d s3 ⟨z, H3, I3, r3, k, e, q3⟩ => ?_)) hm
  subst e
  cases r3
  refine wpAny_truthy_bool ?_
  cases k with
  | false => exact ite_ff ⟨.bl false, H3, I3, rfl, q3⟩
  | true => exact ite_tt (chain_last (thn (hc pins s3 σ H3 _ I3 q3) fun w' s4 ⟨z', H4, I4, r4, q4⟩ => ho' pins s4 σ H4 y z' u w' Q I4 r2 r4 q4))
theorem pt_chain {op op' : CmpOp} {r r' : R2} (ho : OpR X (compareOp op) r) (ho' : OpR X (compareOp op') r') (ha : PE X a ta) (hb : PE X b tb) (hc : PE X c tc)
    (hm : lastMarks [op, op'] [b, c] = false := by with_unfolding_all rfl) : PT X (.Compare a [op, op'] [b, c] pos) (tTest (tChain r r' ta tb tc)) := by
  intro pins s σ H Q I h
  refine isTrue_chain (thn (ha pins s σ H _ I h) fun v s1 ⟨x, H1, I1, r1, q1⟩ => test_link (thn (hb pins s1 σ H1 _ I1 q1) fun u s2 ⟨y, H2, I2, r2, q2⟩ =>
    thn (ho pins s2 σ H2 x y v u _ I2 r1 r2 q2) fun d s3 ⟨z, H3, I3, r3, k, e, q3⟩ => ?_)) hm
  subst e
  cases r3
  refine wpAny_truthy_bool ?_
  cases k with
  | false =>
    obtain ⟨k', e', q'⟩ := q3
    cases e'
    exact ite_ff ⟨H3, I3, q'⟩
  | true =>
    refine ite_tt (test_last (thn (hc pins s3 σ H3 _ I3 q3) fun w' s4 ⟨z', H4, I4, r4, q4⟩ => thn (ho' pins s4 σ H4 y z' u w' _ I4 r2 r4 q4) fun d' s5 ⟨z2, H5, I5, r5, k2, e2, q5⟩ => ?_))
    subst e2
    cases r5
    exact wpAny_truthy_bool ⟨H5, I5, q5⟩

/-! ### truth -/
/-- a value's truth by the abstract heap -/
def TruV (K : PySem.W.Frag) (x : V) (H : Hp) (k : Bool) : Prop :=
  match x with
  | .non => k = false
  | .bl b => k = b
  | .int i => k = (i != 0)
  | .str y => y.length ≤ sizeLine ∧ k = ((y.length : Int) != 0)
  | .byt y => y.size ≤ sizeLine ∧ k = ((y.size : Int) != 0)
  | .ref p => (∃ xs, SqL K H p xs ∧ k = !xs.isEmpty) ∨ (∃ xs, SqT K H p xs ∧ k = !xs.isEmpty) ∨ ∃ kvs, H p = some (.dK kvs) ∧ k = !kvs.isEmpty
  | _ => False
theorem isEmpty_kv {κ : Type} {kvs : List (κ × V)} {vs : List (κ × Value)} (r : KV kvs vs) : (!vs.isEmpty) = !kvs.isEmpty := by
  cases r <;> rfl
theorem isEmpty_of {xs : List V} {its : List Value} (r : Vals xs its) : (!its.toArray.isEmpty) = !xs.isEmpty := by
  cases r <;> simp
theorem line63 : (sizeLine : Nat) < 2 ^ 63 := by rw [sizeLine_eq]; decide
theorem tru_ok : TruR X (fun x H Q => ∃ k, TruV X.K x H k ∧ Q k H) := by
  intro pins s σ H x v Q I rx h
  obtain ⟨k, e, q⟩ := h
  have hl := line63
  have hs : sizeLine = 16777216 := sizeLine_eq
  cases x with
  | non =>
    cases rx
    have e' : k = false := e
    subst e'
    exact truthy_none ⟨H, I, q⟩
  | bl b =>
    cases rx
    have e' : k = b := e
    subst e'
    exact wpAny_truthy_bool ⟨H, I, q⟩
  | int i =>
    obtain ⟨t, rfl⟩ := rx
    have e' : k = (i != 0) := e
    subst e'
    exact PySem.P.truthy_int ⟨H, I, q⟩
  | str y =>
    obtain ⟨t, rfl⟩ := rx
    obtain ⟨hy, e'⟩ : y.length ≤ sizeLine ∧ k = ((y.length : Int) != 0) := e
    subst e'
    exact PySem.P.truthy_str (by omega) ⟨H, I.tok _, q⟩
  | byt y =>
    obtain ⟨t, rfl⟩ := rx
    obtain ⟨hy, e'⟩ : y.size ≤ sizeLine ∧ k = ((y.size : Int) != 0) := e
    subst e'
    exact PySem.W.truthy_bytes (by omega) ⟨H, I.tok _, q⟩
  | ref p =>
    cases rx
    have e' : (∃ xs, SqL X.K H p xs ∧ k = !xs.isEmpty) ∨ (∃ xs, SqT X.K H p xs ∧ k = !xs.isEmpty) ∨ ∃ kvs, H p = some (.dK kvs) ∧ k = !kvs.isEmpty := e
    rcases e' with ⟨xs, hx, e'⟩ | ⟨xs, hx, e'⟩ | ⟨kvs, hx, e'⟩
    · subst e'
      obtain ⟨its, r, pl, hz⟩ := I.list hx
      have hlen := r.length
      exact wpAny_truthy_list pl.isList (by simp only [List.size_toArray]; omega) ⟨H, I.tok _, by rw [isEmpty_of r]; exact q⟩
    · subst e'
      obtain ⟨its, r, pl, hz⟩ := I.tuple hx
      have hlen := r.length
      exact truthy_tuple pl (by simp only [List.size_toArray]; omega) ⟨H, I.tok _, by rw [isEmpty_of r]; exact q⟩
    · subst e'
      obtain ⟨hz, hS, vs, r, m⟩ : kvs.length ≤ sizeLine ∧ (p == sysModules) = false ∧ ∃ vs, KV kvs vs ∧ s.heap.DictOf (mixKind X.prog X.w) p vs := I.hok p _ hx
      have hlen : kvs.length = vs.length := Paired.length r
      exact wpAny_truthy_dict hS m (by omega) ⟨H, I.tok _, by rw [isEmpty_kv r]; exact q⟩
  | _ => exact (show False from e).elim
/-- any expression whose test is its value's truth (a name, a call, a subscript, a field ..: he by fun _ => rfl) -/
theorem pt_truth (ha : PE X a ta) (he : ∀ whole, isTrue a X.env whole = (do let v ← whole; standAt a.pos; holding [v] (truthy v))) :
    PT X a (fun σ H Q => ta σ H fun x H' => ∃ k, TruV X.K x H' k ∧ Q k H') := by
  intro pins s σ H Q I h
  exact isTrue_plain (thn (ha pins s σ H _ I h) fun v s1 ⟨x, H1, I1, r1, q1⟩ => tru_ok pins s1 σ H1 x v Q I1 r1 q1) (he _)

/-! ### strs and bytes -/
theorem pe_byt {x : List UInt8} {k : Nat} : PE X (.Constant (.bytes x) k pos) (fun _ H Q => Q (.byt x.toArray) H) := fun _ _ _ H _ I h => PySem.W.Constant_bytes ⟨.byt x.toArray, H, I.tok _, ⟨_, rfl⟩, h⟩
theorem op_add_str : OpR X (binaryOp .Add) (fun x y H Q => ∃ i j, x = .str i ∧ y = .str j ∧ i.length + j.length ≤ sizeLine ∧ Q (.str (i ++ j)) H) := by
  intro pins s σ H x y v u Q I rx ry h
  obtain ⟨i, j, rfl, rfl, hz, q⟩ := h
  obtain ⟨t, rfl⟩ := rx
  obtain ⟨t', rfl⟩ := ry
  exact add_str (fun t' tk => ⟨.str (i ++ j), H, I.tok _, ⟨_, rfl⟩, q⟩) hz
theorem iop_add_str : OpR X (inplaceOp .Add) (fun x y H Q => ∃ i j, x = .str i ∧ y = .str j ∧ i.length + j.length ≤ sizeLine ∧ Q (.str (i ++ j)) H) := by
  intro pins s σ H x y v u Q I rx ry h
  obtain ⟨i, j, rfl, rfl, hz, q⟩ := h
  obtain ⟨t, rfl⟩ := rx
  obtain ⟨t', rfl⟩ := ry
  exact iadd_str (fun t' tk => ⟨.str (i ++ j), H, I.tok _, ⟨_, rfl⟩, q⟩) hz
theorem op_add_byt : OpR X (binaryOp .Add) (fun x y H Q => ∃ i j, x = .byt i ∧ y = .byt j ∧ i.size + j.size ≤ 16777216 ∧ Q (.byt (i ++ j)) H) := by
  intro pins s σ H x y v u Q I rx ry h
  obtain ⟨i, j, rfl, rfl, hz, q⟩ := h
  obtain ⟨t, rfl⟩ := rx
  obtain ⟨t', rfl⟩ := ry
  exact PySem.W.KBy.add_bytes hz (fun t' tk => ⟨.byt (i ++ j), H, I.tok _, ⟨_, rfl⟩, q⟩)

def PlainIxT (b : Expr) : Prop := ∀ o i, subscripted b false o i = operate [o, i] (getItem o i)
/-- s[i], 0 ≤ i < len -/
theorem pe_item_str (ha : PE X a ta) (hb : PE X b tb) (hs : PlainIxT b) :
    PE X (.Subscript a b pos) (tOp (fun x y H Q => ∃ z i c, x = .str z ∧ y = .int i ∧ 0 ≤ i ∧ i < 2 ^ 63 ∧ i < z.length ∧ z.cps[i.toNat]? = some c ∧ Q (.str ⟨#[c]⟩) H) ta tb) := by
  intro pins s σ H Q I h
  refine Subscript_ (binT ha hb I h fun v u s2 x y H2 I2 rx ry q => ?_)
  obtain ⟨z, i, c, rfl, rfl, h0, h63, h1, hc, q⟩ := q
  obtain ⟨t, rfl⟩ := rx
  obtain ⟨t', rfl⟩ := ry
  have e : seqIndex? i z.length = some i.toNat := PySem.StrLaws.seqIndex_nonneg h0 h1
  exact tail_any (typeIs_str s2 z t) slot_str_getitem.lookup (getItem_str (c := c) (by
    have e1 : decide (i < -(2 ^ 63 : Int)) = false := decide_eq_false (by omega)
    have e2 : decide (i ≥ 2 ^ 63) = false := decide_eq_false (by omega)
    rw [e1, e2] <;> rfl) (by rw [e]; exact hc) ⟨.str ⟨#[c]⟩, H2, I2.tok _, ⟨_, rfl⟩, q⟩) (hs _ _)
/-- b[i], 0 ≤ i < len -/
theorem pe_item_byt (ha : PE X a ta) (hb : PE X b tb) (hs : PlainIxT b) :
    PE X (.Subscript a b pos) (tOp (fun x y H Q => ∃ (z : List UInt8) (i : Int), x = .byt z.toArray ∧ y = .int i ∧ z.length ≤ sizeLine ∧ 0 ≤ i ∧ i < z.length ∧ Q (.int ((z.getD i.toNat 0).toNat : Nat)) H) ta tb) := by
  intro pins s σ H Q I h
  refine Subscript_ (binT ha hb I h fun v u s2 x y H2 I2 rx ry q => ?_)
  obtain ⟨z, i, rfl, rfl, hz, h0, h1, q⟩ := q
  obtain ⟨t, rfl⟩ := rx
  obtain ⟨t', rfl⟩ := ry
  have hl : sizeLine = 16777216 := sizeLine_eq
  exact tail_any (PySem.W.typeIs_bytes s2 z.toArray t) PySem.W.FB.slot_bytes_getitem.lookup (PySem.W.getItem_bytes (by omega) h0 h1 ⟨.int ((z.getD i.toNat 0).toNat : Nat), H2, I2.tok _, ⟨_, rfl⟩, q⟩) (hs _ _)

/-! ### scalar builtins, by CallR -/
theorem vals1 {x : V} {us : List Value} (r : Vals [x] us) : ∃ u, us = [u] ∧ RelV x u := by
  cases r with
  | cons r1 r2 => cases r2; exact ⟨_, rfl, r1⟩
theorem vals2 {x y : V} {us : List Value} (r : Vals [x, y] us) : ∃ u w', us = [u, w'] ∧ RelV x u ∧ RelV y w' := by
  cases r with
  | cons r1 r2 =>
    cases r2 with
    | cons r3 r4 => cases r4; exact ⟨_, _, rfl, r1, r3⟩
theorem call_abs : CallR X (.builtin "abs") (fun xs H Q => ∃ i, xs = [.int i] ∧ Q (.int (if i < 0 then -i else i)) H) := by
  intro pins s σ H xs us Q I r h
  obtain ⟨i, rfl, q⟩ := h
  obtain ⟨u, rfl, t, rfl⟩ := vals1 r
  exact call_abs_int fun u tk => ⟨.int (if i < 0 then -i else i), H, I.tok _, ⟨_, rfl⟩, q⟩
theorem call_max2 (hc : X.calm = true) : CallR X (.builtin "max") (fun xs H Q => ∃ i j, xs = [.int i, .int j] ∧ Q (.int (if j > i then j else i)) H) := by
  intro pins s σ H xs us Q I r h
  obtain ⟨i, j, rfl, q⟩ := h
  obtain ⟨u, w', rfl, ⟨t, rfl⟩, ⟨t', rfl⟩⟩ := vals2 r
  refine max_two_ints (I.ok.hd hc) fun h' tk k => ⟨_, H, I.kept k, ?_, q⟩
  by_cases hj : j > i
  · rw [if_pos hj, if_pos hj]; exact ⟨_, rfl⟩
  · rw [if_neg hj, if_neg hj]; exact ⟨_, rfl⟩
theorem call_min2 (hc : X.calm = true) : CallR X (.builtin "min") (fun xs H Q => ∃ i j, xs = [.int i, .int j] ∧ Q (.int (if j < i then j else i)) H) := by
  intro pins s σ H xs us Q I r h
  obtain ⟨i, j, rfl, q⟩ := h
  obtain ⟨u, w', rfl, ⟨t, rfl⟩, ⟨t', rfl⟩⟩ := vals2 r
  refine min_two_ints (I.ok.hd hc) fun h' tk k => ⟨_, H, I.kept k, ?_, q⟩
  by_cases hj : j < i
  · rw [if_pos hj, if_pos hj]; exact ⟨_, rfl⟩
  · rw [if_neg hj, if_neg hj]; exact ⟨_, rfl⟩
theorem call_int1 : CallR X (.type "int") (fun xs H Q => (∃ i, xs = [.int i] ∧ Q (.int i) H) ∨ ∃ k, xs = [.bl k] ∧ Q (.int (if k then 1 else 0)) H) := by
  intro pins s σ H xs us Q I r h
  rcases h with ⟨i, rfl, q⟩ | ⟨k, rfl, q⟩
  · obtain ⟨u, rfl, t, rfl⟩ := vals1 r
    exact call_int_int ⟨.int i, H, I, ⟨_, rfl⟩, q⟩
  · obtain ⟨u, rfl, r1⟩ := vals1 r
    cases r1
    exact call_int_bool ⟨.int (if k then 1 else 0), H, I.tok _, ⟨_, rfl⟩, q⟩
theorem call_bool1 : CallR X (.type "bool") (fun xs H Q => (∃ i, xs = [.int i] ∧ Q (.bl (i != 0)) H) ∨ ∃ k, xs = [.bl k] ∧ Q (.bl k) H) := by
  intro pins s σ H xs us Q I r h
  rcases h with ⟨i, rfl, q⟩ | ⟨k, rfl, q⟩
  · obtain ⟨u, rfl, t, rfl⟩ := vals1 r
    exact call_bool_int ⟨.bl (i != 0), H, I, rfl, q⟩
  · obtain ⟨u, rfl, r1⟩ := vals1 r
    cases r1
    exact call_bool_bool ⟨.bl k, H, I, rfl, q⟩
theorem call_str_int : CallR X (.type "str") (fun xs H Q => ∃ i, xs = [.int i] ∧ i.natAbs.log2 < 1920 ∧ Q (.str (toString i)) H) := by
  intro pins s σ H xs us Q I r h
  obtain ⟨i, rfl, hz, q⟩ := h
  obtain ⟨u, rfl, t, rfl⟩ := vals1 r
  exact PySem.P.str_of_int hz ⟨.str _, H, I.tok _, ⟨_, rfl⟩, q⟩
theorem call_ord : CallR X (.builtin "ord") (fun xs H Q => ∃ x, xs = [.str x] ∧ x.length = 1 ∧ Q (.int (x.cps.getD 0 0 : Nat)) H) := by
  intro pins s σ H xs us Q I r h
  obtain ⟨x, rfl, hz, q⟩ := h
  obtain ⟨u, rfl, t, rfl⟩ := vals1 r
  exact ord_of_one hz ⟨.int _, H, I.tok _, ⟨_, rfl⟩, q⟩
theorem call_chr : CallR X (.builtin "chr") (fun xs H Q => ∃ i, xs = [.int i] ∧ 0 ≤ i ∧ i ≤ 1114111 ∧ Q (.str ⟨#[i.toNat]⟩) H) := by
  intro pins s σ H xs us Q I r h
  obtain ⟨i, rfl, h0, h1, q⟩ := h
  obtain ⟨u, rfl, t, rfl⟩ := vals1 r
  exact chr_of_range h0 h1 ⟨.str _, H, I.tok _, ⟨_, rfl⟩, q⟩
/-- len of a str, a bytes, a list, a tuple -/
def LenV (K : PySem.W.Frag) (x : V) (H : Hp) (n : Nat) : Prop :=
  match x with
  | .str y => y.length ≤ sizeLine ∧ n = y.length
  | .byt y => y.size ≤ sizeLine ∧ n = y.size
  | .ref p => (∃ xs, SqL K H p xs ∧ n = xs.length) ∨ ∃ xs, SqT K H p xs ∧ n = xs.length
  | _ => False
theorem call_len : CallR X (.builtin "len") (fun xs H Q => ∃ x n, xs = [x] ∧ LenV X.K x H n ∧ Q (.int n) H) := by
  intro pins s σ H xs us Q I r h
  obtain ⟨x, n, rfl, e, q⟩ := h
  obtain ⟨u, rfl, rx⟩ := vals1 r
  have hl := line63
  have hs : sizeLine = 16777216 := sizeLine_eq
  cases x with
  | str y =>
    obtain ⟨t, rfl⟩ := rx
    obtain ⟨hy, e'⟩ : y.length ≤ sizeLine ∧ n = y.length := e
    subst e'
    exact len_str (by omega) ⟨.int _, H, I.tok _, ⟨_, rfl⟩, q⟩
  | byt y =>
    obtain ⟨t, rfl⟩ := rx
    obtain ⟨hy, e'⟩ : y.size ≤ sizeLine ∧ n = y.size := e
    subst e'
    exact PySem.W.len_bytes (by omega) ⟨.int _, H, I.tok _, ⟨_, rfl⟩, q⟩
  | ref p =>
    cases rx
    have e' : (∃ xs, SqL X.K H p xs ∧ n = xs.length) ∨ ∃ xs, SqT X.K H p xs ∧ n = xs.length := e
    rcases e' with ⟨xs, hx, e'⟩ | ⟨xs, hx, e'⟩
    · subst e'
      obtain ⟨its, r', pl, hz⟩ := I.list hx
      have hlen := r'.length
      exact Calls.call_len_list pl.isList (by simp only [List.size_toArray]; omega) ⟨.int xs.length, H, I.tok _, ⟨_, by simp only [List.size_toArray]; rw [hlen]⟩, q⟩
    · subst e'
      obtain ⟨its, r', pl, hz⟩ := I.tuple hx
      have hlen := r'.length
      exact len_tuple pl (by simp only [List.size_toArray]; omega) ⟨.int xs.length, H, I.tok _, ⟨_, by simp only [List.size_toArray]; rw [hlen]⟩, q⟩
  | _ => exact (show False from e).elim
/-- divmod: a new tuple -/
theorem call_divmod : CallR X (.builtin "divmod") (fun xs H Q => ∃ i j, xs = [.int i, .int j] ∧ CDiv i j ∧ ∀ p, H p = none → Q (.ref p) (upd H p (.tup [.int (i / j), .int (i % j)]))) := by
  intro pins s σ H xs us Q I r h
  obtain ⟨i, j, rfl, ⟨h1, h2⟩, q⟩ := h
  obtain ⟨u, w', rfl, ⟨t, rfl⟩, ⟨t', rfl⟩⟩ := vals2 r
  refine divmod_int (by omega) ?_ (.inl (PyProof.noPylong_small (by omega)))
  rw [Int.fdiv_eq_ediv_of_nonneg i (by omega), Int.fmod_eq_emod_of_nonneg i (by omega)]
  have hn : H s.heap.objs.size = none := I.hok.fresh (Nat.le_refl _)
  refine ⟨.ref s.heap.objs.size, _, ?_, rfl, q _ hn⟩
  refine I.laid (fun b o e => Heap.get?_push_of_some _ e) (Nat.le_refl _) ⟨by simp only [List.length_cons, List.length_nil]; rw [sizeLine_eq]; decide, [.int (i / j) s.toks, .int (i % j) (s.toks + 1)], .cons ⟨_, rfl⟩ (.cons ⟨_, rfl⟩ .nil), ?_⟩
  exact ⟨_, Heap.get?_push_size s.heap rfl, rfl, 0, rfl⟩
end
end L2

namespace L2
open PySem PySem.Spec PyProof.Rows

/-! ### an instance, its attributes a map -/
structure ObjM (h : Heap) (x dx C : Addr) (mA : Str → Option Value) : Prop where
  obj : h.get? x = some (PySem.W.instObj C dx)
  ns : h.Ns1 dx mA
  ne : dx ≠ x

theorem lookIn_ns {h : Heap} {dx : Addr} {mA : Str → Option Value} (n : h.Ns1 dx mA) : ∃ od, h.get? dx = some od ∧ ∀ name, PySem.W.lookIn name od = some (mA name) := by
  obtain ⟨o, es, ep, ho, hd, hk, _, hm⟩ := n
  refine ⟨o, ho, fun name => ?_⟩
  have e := hm name
  unfold nsFind findBy at e
  rw [← Array.find?_toList] at e
  unfold PySem.W.lookIn
  rw [hd]
  dsimp only
  split
  · rename_i y q
    rw [q] at e
    exact congrArg some e
  · rename_i q
    rw [q] at e
    have a : es.toList.any (·.refKey) = false := by
      rw [List.any_eq_false]
      intro y hy
      obtain ⟨z, t, hkey⟩ := hk y (Array.mem_toList_iff.mp hy)
      simp [DictEntry.refKey, hkey]
    have a' : ¬ es.toList.any (·.refKey) = true := by rw [a]; exact Bool.false_ne_true
    rw [if_neg a']
    exact congrArg some e

theorem ObjM.look {h : Heap} {x dx C : Addr} {mA : Str → Option Value} (I : ObjM h x dx C mA) : ∃ od, PySem.W.InstAt h x (PySem.W.instObj C dx) C (some od) ∧ ∀ name, PySem.W.lookIn name od = some (mA name) :=
  let ⟨od, ho, hl⟩ := lookIn_ns I.ns
  ⟨od, ⟨I.obj, rfl, rfl, ho⟩, hl⟩

section
variable {prog : Program} {w : World} {A : Around} {E : Value → Shared → Prop} {s : Shared} {K : PySem.W.Frag} {x dx C f : Addr} {mA : Str → Option Value} {name : Str} {v : Value}

theorem get_map {expr : Bool} {Q : Value → Shared → Prop} (X : K.In s.heap) (I : ObjM s.heap x dx C mA) (hg : PySem.W.plainGet K C name = true) (hh : PySem.W.hasDictIn K C = true)
    (ha : PySem.W.findIn K (.ref C) name = some none) (hv : mA name = some v) (hv' : PySem.W.handedIn v = true) (h : Q v { s with toks := s.toks + 1 }) :
    wpAny (model prog w) A (getAttr (.ref x) name expr) Q E s := by
  obtain ⟨od, J, hl⟩ := I.look
  exact PySem.W.get_value X J (PySem.W.plainGet_of hg).1 (PySem.W.findObj_own hh ha rfl (by rw [hl, hv])) hv' h

theorem get_const {expr : Bool} {a : Value} {Q : Value → Shared → Prop} (X : K.In s.heap) (I : ObjM s.heap x dx C mA) (hg : PySem.W.plainGet K C name = true) (hh : PySem.W.hasDictIn K C = true)
    (ha : PySem.W.findIn K (.ref C) name = some (some a)) (hn : PySem.W.specialIn K a "__get__" = some none) (hc : PySem.W.copiedNames.contains name = false) (hv : mA name = none) (hv' : PySem.W.handedIn a = true)
    (h : Q a { s with toks := s.toks + 1 }) : wpAny (model prog w) A (getAttr (.ref x) name expr) Q E s := by
  obtain ⟨od, J, hl⟩ := I.look
  exact PySem.W.get_value X J (PySem.W.plainGet_of hg).1 (PySem.W.findObj_cls hh ha hn hv' hc (by rw [hl, hv])) hv' h

theorem get_meth {pl : Sem Bool} {Q : Value × List Value → Shared → Prop} (X : K.In s.heap) (I : ObjM s.heap x dx C mA) (hg : PySem.W.plainGet K C name = true)
    (hf : PySem.W.findIn K (.ref C) name = some (some (.ref f))) (ht : PySem.W.isFn K (.ref f) = true) (hv : mA name = none) (h : Q (.ref f, [.ref x]) s) :
    wpAny (model prog w) A (getMethod (.ref x) name pl) Q E s := by
  obtain ⟨od, J, hl⟩ := I.look
  exact PySem.W.method_fn X J (PySem.W.plainGet_of hg).1 (PySem.W.plainGet_of hg).2 hf (beq_iff_eq.mp ht) (by show (PySem.W.lookIn name od).map (·.isSome) = some false; rw [hl, hv]; rfl) h

theorem set_map {ns : List Str} {Q : Unit → Shared → Prop} (X : K.In s.heap) (I : ObjM s.heap x dx C mA)
    (hs : PySem.W.findIn K (.ref C) "__setattr__" = some (some (.builtin "object.__setattr__"))) (hp : PySem.W.plainOver K C = true) (ht : PySem.W.takerIn K C name = some none) (hh : PySem.W.hasDictIn K C = true)
    (hw : PySem.Within mA ns) (hsz : ns.length ≤ sizeLine)
    (h : ∀ h', ObjM h' x dx C (fun y => if y = name then some v else mA y) → Heap.SameBut dx s.heap h' → Q () { s with heap := h', toks := s.toks + 2 }) :
    wpAny (model prog w) A (setAttr (.ref x) name v) Q E s := by
  obtain ⟨od, J, hl⟩ := I.look
  refine PySem.W.set_plain X J hs (PySem.W.osa_open (s := { s with toks := s.toks + 1 }) (r := none) X J hp ht fun b => ?_)
  obtain ⟨cd, hc, hd'⟩ := PySem.W.any_some hh
  have hx : s.heap.get? x = some ⟨.ref C, some dx, .plain, #[]⟩ := I.obj
  refine wpAny_bind (wpAny_pure (wpAny_bind (wpAny_bind (wpAny_loadPart hx (wpAny_bind (PySem.W.Looks.here (s := { s with toks := s.toks + 1 }) (PySem.W.looks_clsIn X hc) ?_))))))
  rw [hd']
  refine wpAny_pure (a := some dx) (wpAny_bind (wpAny_pure (wpAny_bind ?_)))
  refine wpAny_nsSet1 (s := { s with toks := s.toks + 1 }) I.ns fun h' hn2 hs2 => ?_
  obtain ⟨oD, esD, epD, hoD, hdD, hcD⟩ := hn2.count (PySem.Within.cons name v hw)
  refine wpAny_bind (wpAny_lookBehind hoD (by rw [hdD]; exact pastItsLine_dict (Nat.le_trans hcD (by rw [List.length_cons]; omega))) ?_)
  exact wpAny_pure (h _ ⟨(hs2.2 _ (Ne.symm I.ne)).trans I.obj, hn2, I.ne⟩ hs2)

/-- C(..): the dict at the heap's end, the instance behind it; then its __init__ -/
theorem make_map {R : Result → Shared → Prop} {vs : List Value} {kw : List (Str × Value)} (X : K.In s.heap) (hm : PySem.W.makesIn K C = true)
    (hi : PySem.W.findIn K (.ref C) "__init__" = some (some (.ref f))) (hf : PySem.W.typeIn K (.ref f) = some (.type "function"))
    (h : codeAny (model prog w) (A.under (.builtin "type.__call__" ⟨.ref C :: vs, kw⟩)) (.call (.ref f) ⟨.ref (s.heap.objs.size + 1) :: vs, kw⟩) (PySem.W.InitBack (s.heap.objs.size + 1) R)
      { s with heap := (s.heap.push PySem.W.emptyDict).push (PySem.W.instObj C s.heap.objs.size) }) :
    codeAny (model prog w) A (.call (.ref C) ⟨vs, kw⟩) R s := by
  obtain ⟨hh, g, d, t, os⟩ := s
  exact PySem.W.make_core (PySem.W.makes_of X hm) (PySem.W.looks_findIn X hi) (fun self => PySem.W.bind_fn X self hf) (.inl rfl) h
/-- C() where there is no __init__ but object's -/
theorem make_map0 {R : Result → Shared → Prop} (X : K.In s.heap) (hm : PySem.W.makesIn K C = true)
    (hi : PySem.W.findIn K (.ref C) "__init__" = some (some (.builtin "object.__init__")))
    (hb : ∀ self, PySem.W.Looks (model prog w) s.heap (bindSpecial (.builtin "object.__init__") self) (.builtin "object.__init__", [self]))
    (h : codeAny (model prog w) (A.under (.builtin "type.__call__" ⟨[.ref C], []⟩)) (.call (.builtin "object.__init__") ⟨[.ref (s.heap.objs.size + 1)], []⟩) (PySem.W.InitBack (s.heap.objs.size + 1) R)
      { s with heap := (s.heap.push PySem.W.emptyDict).push (PySem.W.instObj C s.heap.objs.size) }) :
    codeAny (model prog w) A (.call (.ref C) ⟨[], []⟩) R s := by
  obtain ⟨hh, g, d, t, os⟩ := s
  exact PySem.W.make_core (PySem.W.makes_of X hm) (PySem.W.looks_findIn X hi) hb (.inr ⟨rfl, rfl⟩) h
end

/-! ### the attributes as a list of pairs -/
def putF (f : Str) (v : V) : List (Str × V) → List (Str × V)
  | [] => [(f, v)]
  | (g, x) :: r => if g = f then (g, v) :: r else (g, x) :: putF f v r
theorem lookup_putF (f g : Str) (v : V) : ∀ fs : List (Str × V), (putF f v fs).lookup g = if g = f then some v else fs.lookup g
  | [] => by
    show List.lookup g [(f, v)] = _
    by_cases h : g = f
    · have hb : (g == f) = true := beq_iff_eq.mpr h
      simp only [List.lookup, hb, if_pos h]
    · have hb : (g == f) = false := beq_eq_false_iff_ne.mpr h
      simp only [List.lookup, hb, if_neg h]
  | (k, x) :: r => by
    have ih := lookup_putF f g v r
    rw [show putF f v ((k, x) :: r) = (if k = f then (k, v) :: r else (k, x) :: putF f v r) from rfl]
    by_cases hk : k = f
    · rw [if_pos hk]
      by_cases h : g = k
      · have hb : (g == k) = true := beq_iff_eq.mpr h
        simp only [List.lookup, hb, if_pos (h.trans hk)]
      · have hb : (g == k) = false := beq_eq_false_iff_ne.mpr h
        simp only [List.lookup, hb, if_neg (fun e : g = f => h (e.trans hk.symm))]
    · rw [if_neg hk]
      by_cases h : g = k
      · have hb : (g == k) = true := beq_iff_eq.mpr h
        simp only [List.lookup, hb, if_neg (fun e : g = f => hk (h.symm.trans e))]
      · have hb : (g == k) = false := beq_eq_false_iff_ne.mpr h
        simp only [List.lookup, hb]
        exact ih
theorem keys_putF (f : Str) (v : V) : ∀ fs : List (Str × V), f ∈ (putF f v fs).map (·.1) ∧ ∀ g, g ∈ fs.map (·.1) → g ∈ (putF f v fs).map (·.1)
  | [] => ⟨by simp [putF], fun g h => by simp at h⟩
  | (k, x) :: r => by
    obtain ⟨i1, i2⟩ := keys_putF f v r
    rw [show putF f v ((k, x) :: r) = (if k = f then (k, v) :: r else (k, x) :: putF f v r) from rfl]
    by_cases hk : k = f
    · rw [if_pos hk]
      subst hk
      exact ⟨by simp, fun g h => by simpa using h⟩
    · rw [if_neg hk]
      refine ⟨?_, fun g h => ?_⟩
      · rw [List.map_cons]
        exact List.mem_cons_of_mem _ i1
      · rw [List.map_cons] at h ⊢
        rcases List.mem_cons.mp h with e | e
        · exact List.mem_cons.mpr (.inl e)
        · exact List.mem_cons_of_mem _ (i2 g e)
theorem length_putF (f : Str) (v : V) : ∀ fs : List (Str × V), (putF f v fs).length ≤ fs.length + 1
  | [] => by simp [putF]
  | (k, x) :: r => by
    have ih := length_putF f v r
    rw [show putF f v ((k, x) :: r) = (if k = f then (k, v) :: r else (k, x) :: putF f v r) from rfl]
    by_cases hk : k = f
    · rw [if_pos hk, List.length_cons, List.length_cons]; omega
    · rw [if_neg hk, List.length_cons, List.length_cons]; omega

theorem RelO.some_of {v : V} {o : Option Value} (r : RelO (some v) o) : ∃ u, o = some u ∧ RelV v u := by
  cases o with
  | none => exact (show False from r).elim
  | some u => exact ⟨u, rfl, r⟩
theorem RelO.none_of {o : Option Value} (r : RelO none o) : o = none := by
  cases o with
  | none => rfl
  | some u => exact (show False from r).elim
theorem handed_of {v : V} {u : Value} (r : RelV v u) : PySem.W.handedIn u = true := by
  cases v with
  | non => cases (show u = Value.none from r); rfl
  | bl b => cases (show u = Value.bool b from r); rfl
  | int i => obtain ⟨t, e⟩ := (show ∃ t, u = Value.int i t from r); cases e; rfl
  | str x => obtain ⟨t, e⟩ := (show ∃ t, u = Value.str x t from r); cases e; rfl
  | byt b => obtain ⟨t, e⟩ := (show ∃ t, u = Value.bytes b t from r); cases e; rfl
  | flt b => obtain ⟨t, e⟩ := (show ∃ t, u = Value.float b t from r); cases e; rfl
  | ref a => cases (show u = Value.ref a from r); rfl
  | ty n => cases (show u = Value.type n from r); rfl

section
variable {P : Program} {w : World} {H H' : Hp} {h h' : Heap} {a C dx : Addr} {fs fs' : List (Str × V)}
theorem ins_get (hok : HOk P w H h) (e : H a = some (.ins C dx fs)) : ∃ mA, ObjM h a dx C mA ∧ (∀ f, RelO (fs.lookup f) (mA f)) ∧ PySem.Within mA (fs.map (·.1)) ∧ fs.length ≤ 1000 ∧ H dx = some (.own a) := by
  obtain ⟨d, z, ne, ob, mA, n, r, q⟩ := (show ObjOk P w H h a (.ins C dx fs) from hok a _ e)
  exact ⟨mA, ⟨ob, n, ne⟩, r, q, z, d⟩
end

/-! ### what of the text a class must have -/
structure Cls (K : PySem.W.Frag) (C : Addr) : Prop where
  pg : PySem.W.plainGet K C Str.empty = true
  hd : PySem.W.hasDictIn K C = true
  po : PySem.W.plainOver K C = true
  sa : PySem.W.findIn K (.ref C) "__setattr__" = some (some (.builtin "object.__setattr__"))
theorem Cls.get {K : PySem.W.Frag} {C : Addr} (c : Cls K C) (f : Str) : PySem.W.plainGet K C f = true := c.pg
/-- no class of it has the name -/
def NoAttr (K : PySem.W.Frag) (C : Addr) (f : Str) : Prop := PySem.W.findIn K (.ref C) f = some none
theorem NoAttr.taker {K : PySem.W.Frag} {C : Addr} {f : Str} (n : NoAttr K C f) : PySem.W.takerIn K C f = some none := by
  unfold PySem.W.takerIn
  rw [show PySem.W.findIn K (.ref C) f = some none from n]
  rfl
/-- a constant of the class -/
structure Con (K : PySem.W.Frag) (C : Addr) (f : Str) (v : V) (u : Value) : Prop where
  at_ : PySem.W.findIn K (.ref C) f = some (some u)
  rel : RelV v u
  get : PySem.W.specialIn K u "__get__" = some none
  cp : PySem.W.copiedNames.contains f = false
/-- a method: a plain def of the class or of one above it -/
structure Meth (K : PySem.W.Frag) (C : Addr) (m : Str) (f : Addr) : Prop where
  at_ : PySem.W.findIn K (.ref C) m = some (some (.ref f))
  fn : PySem.W.isFn K (.ref f) = true
  kp : PySem.W.keepIn K (.ref f) = true

section
variable {X : Cx} {pins : List (Addr × Obj)} {σ : St} {H : Hp} {s : Shared} {a C dx : Addr} {fs : List (Str × V)} {f : Str} {v : V} {A : Around} {E : Value → Shared → Prop}

theorem getattr_ok {b : Bool} {Q : Value → Shared → Prop} (I : Inv X pins σ H s) (e : H a = some (.ins C dx fs)) (c : Cls X.K C) (n : NoAttr X.K C f) (l : fs.lookup f = some v)
    (h : ∀ u s', Inv X pins σ H s' → RelV v u → Q u s') : wpAny (model X.prog X.w) A (getAttr (.ref a) f b) Q E s := by
  obtain ⟨mA, O, r, _, _, _⟩ := ins_get I.hok e
  obtain ⟨u, hu, ru⟩ := RelO.some_of (v := v) (o := mA f) (by rw [← l]; exact r f)
  exact get_map I.kIn O (c.get f) c.hd n hu (handed_of ru) (h u _ (I.tok _) ru)

theorem getcon_ok {b : Bool} {u : Value} {Q : Value → Shared → Prop} (I : Inv X pins σ H s) (e : H a = some (.ins C dx fs)) (c : Cls X.K C) (k : Con X.K C f v u) (l : fs.lookup f = none)
    (h : ∀ s', Inv X pins σ H s' → Q u s') : wpAny (model X.prog X.w) A (getAttr (.ref a) f b) Q E s := by
  obtain ⟨mA, O, r, _, _, _⟩ := ins_get I.hok e
  have hn : mA f = none := RelO.none_of (by rw [← l]; exact r f)
  exact get_const I.kIn O (c.get f) c.hd k.at_ k.get k.cp hn (handed_of k.rel) (h _ (I.tok _))

theorem getmeth_ok {m : Str} {g : Addr} {pl : Sem Bool} {Q : Value × List Value → Shared → Prop} (I : Inv X pins σ H s) (e : H a = some (.ins C dx fs)) (c : Cls X.K C) (k : Meth X.K C m g) (l : fs.lookup m = none)
    (h : Q (.ref g, [.ref a]) s) : wpAny (model X.prog X.w) A (getMethod (.ref a) m pl) Q E s := by
  obtain ⟨mA, O, r, _, _, _⟩ := ins_get I.hok e
  have hn : mA m = none := RelO.none_of (by rw [← l]; exact r m)
  exact get_meth I.kIn O (c.get m) k.at_ k.fn hn h

theorem setattr_ok {y : V} {u : Value} {Q : Unit → Shared → Prop} (I : Inv X pins σ H s) (e : H a = some (.ins C dx fs)) (c : Cls X.K C) (n : NoAttr X.K C f) (hl : fs.length < 1000) (ry : RelV y u)
    (h : ∀ s', Inv X pins σ (upd H a (.ins C dx (putF f y fs))) s' → Q () s') : wpAny (model X.prog X.w) A (setAttr (.ref a) f u) Q E s := by
  obtain ⟨mA, O, r, wi, _, ho⟩ := ins_get I.hok e
  have hz : (fs.map (·.1)).length ≤ sizeLine := by rw [List.length_map, sizeLine_eq]; omega
  refine set_map I.kIn O c.sa c.po n.taker c.hd wi hz fun h' O' sb => h _ ?_
  have hd : ∃ o, h'.get? dx = some o := let ⟨o, _, _, e', _⟩ := O'.ns; ⟨o, e'⟩
  refine I.write (x := a) (e := dx) (by rw [e]; exact True.intro) (.inr ho) (fun b q hb z => (sb.2 b hb).trans z) hd ?_
  refine ⟨by rw [upd_ne O.ne]; exact ho, ?_, O.ne, O'.obj, _, O'.ns, fun g => ?_, fun g hg => ?_⟩
  · have := length_putF f y fs; omega
  · show RelO ((putF f y fs).lookup g) (if g = f then some u else mA g)
    rw [lookup_putF]
    by_cases q : g = f
    · rw [if_pos q, if_pos q]; exact ry
    · rw [if_neg q, if_neg q]; exact r g
  · by_cases q : g = f
    · rw [q]; exact (keys_putF f y fs).1
    · refine (keys_putF f y fs).2 g (wi g fun z => hg ?_)
      show (if g = f then some u else mA g) = none
      rw [if_neg q]; exact z

/-- a new instance, tracked, without attributes -/
theorem Inv.made (I : Inv X pins σ H s) : Inv X pins σ (upd (upd H s.heap.objs.size (.own (s.heap.objs.size + 1))) (s.heap.objs.size + 1) (.ins C s.heap.objs.size []))
    { s with heap := (s.heap.push PySem.W.emptyDict).push (PySem.W.instObj C s.heap.objs.size) } := by
  have e1 : (s.heap.push PySem.W.emptyDict).get? s.heap.objs.size = some PySem.W.emptyDict := Heap.get?_push_size s.heap rfl
  have e2 : ((s.heap.push PySem.W.emptyDict).push (PySem.W.instObj C s.heap.objs.size)).get? (s.heap.objs.size + 1) = some (PySem.W.instObj C s.heap.objs.size) := by
    have := Heap.get?_push_size (s.heap.push PySem.W.emptyDict) (o := PySem.W.instObj C s.heap.objs.size) rfl
    rwa [Heap.size_push] at this
  have e3 : (s.heap.push PySem.W.emptyDict).Ns s.heap.objs.size (fun _ => none) := ⟨PySem.W.emptyDict, #[], _, e1, rfl, (fun e he => absurd he (by simp)), fun _ => rfl⟩
  have I1 := I.laid (a := s.heap.objs.size) (o := .own (s.heap.objs.size + 1)) (h' := s.heap.push PySem.W.emptyDict) (t' := s.toks) (fun b u q => Heap.get?_push_of_some _ q) (Nat.le_refl _) ⟨_, e1⟩
  refine I1.laid (a := s.heap.objs.size + 1) (o := .ins C s.heap.objs.size []) (t' := s.toks) (fun b u q => Heap.get?_push_of_some _ q) (Nat.le_of_eq (Heap.size_push _ _)) ?_
  have ne : s.heap.objs.size ≠ s.heap.objs.size + 1 := Nat.ne_of_lt (Nat.lt_succ_self _)
  refine ⟨by rw [upd_ne ne, upd_same], Nat.zero_le _, ne, e2, fun _ => none, (Heap.Ns1.of_empty e3).at fun o q => Heap.get?_push_of_some _ q, fun _ => True.intro, fun y hy => absurd rfl hy⟩

/-- e.f where nothing but the object is asked: through attributeBase (super) and the last hold -/
theorem attr_of {prog : Program} {w : World} {env : Env} {e : Expr} {f : Str} {pos : Pos} {s : Shared} {Q : Value → Shared → Prop} (hb : attributeBase e f env (eval e env) = eval e env)
    (h : wpAny (model prog w) A (eval e env) (fun o s₁ => wpAny (model prog w) A (getAttr o f true) Q E s₁) E s) : wpAny (model prog w) A (eval (.Attribute e f pos) env) Q E s :=
  Attribute_any_ h (by rw [arm_eval_Attribute, hb])
end

/-! ### readings and rules -/
/-- e.f, an attribute of the instance -/
def tFld (K : PySem.W.Frag) (ta : TE) (f : Str) : TE := fun σ H Q => ta σ H fun x H1 => ∃ a C dx fs v, x = .ref a ∧ H1 a = some (.ins C dx fs) ∧ Cls K C ∧ NoAttr K C f ∧ fs.lookup f = some v ∧ Q v H1
/-- e.f, a constant of the class -/
def tCon (K : PySem.W.Frag) (ta : TE) (f : Str) : TE := fun σ H Q => ta σ H fun x H1 => ∃ a C dx fs v u, x = .ref a ∧ H1 a = some (.ins C dx fs) ∧ Cls K C ∧ Con K C f v u ∧ fs.lookup f = none ∧ Q v H1
/-- e.f = value -/
def sFld (K : PySem.W.Frag) (ta tv : TE) (f : Str) : TS := fun D σ H => tv σ H fun y H1 => ta σ H1 fun x H2 => ∃ a C dx fs, x = .ref a ∧ H2 a = some (.ins C dx fs) ∧ Cls K C ∧ NoAttr K C f ∧ fs.length < 1000 ∧
  D.nx σ (upd H2 a (.ins C dx (putF f y fs)))
/-- an augmented operator on two values -/
def InOp (X : Cx) (op : Operator) (rd : V → V → Hp → VK → Prop) : Prop :=
  ∀ (pins : List (Addr × Obj)) (s : Shared) (σ : St) (H : Hp) (x y : V) (u v : Value) (Q : VK), Inv X pins σ H s → RelV x u → RelV y v → rd x y H Q → wpAny (model X.prog X.w) X.A (inplaceOp op u v) (EP X pins σ Q) X.xe s
/-- e.f op= value -/
def sFldAug (K : PySem.W.Frag) (ta tv : TE) (rd : V → V → Hp → VK → Prop) (f : Str) : TS := fun D σ H => ta σ H fun x H1 => ∃ a C dx fs v, x = .ref a ∧ H1 a = some (.ins C dx fs) ∧ Cls K C ∧ NoAttr K C f ∧ fs.lookup f = some v ∧
  tv σ H1 fun y H2 => rd v y H2 fun z H3 => ∃ dx' fs', H3 a = some (.ins C dx' fs') ∧ fs'.length < 1000 ∧ D.nx σ (upd H3 a (.ins C dx' (putF f z fs')))

section
variable {X : Cx} {o e value : Expr} {f : Str} {pos pos' tpos : Pos} {ta tv : TE}
theorem pe_fld (he : PE X e ta) (hb : attributeBase e f X.env (eval e X.env) = eval e X.env) : PE X (.Attribute e f pos) (tFld X.K ta f) := by
  intro pins s σ H Q I h
  refine attr_of hb (thn (he pins s σ H _ I h) fun u s1 ⟨x, H1, I1, rx, a, C, dx, fs, v, ex, ea, c, n, l, q⟩ => ?_)
  subst ex
  obtain rfl : u = Value.ref a := rx
  exact getattr_ok I1 ea c n l fun u' s2 I2 ru => ⟨v, H1, I2, ru, q⟩
theorem pe_con (he : PE X e ta) (hb : attributeBase e f X.env (eval e X.env) = eval e X.env) : PE X (.Attribute e f pos) (tCon X.K ta f) := by
  intro pins s σ H Q I h
  refine attr_of hb (thn (he pins s σ H _ I h) fun u s1 ⟨x, H1, I1, rx, a, C, dx, fs, v, u0, ex, ea, c, k, l, q⟩ => ?_)
  subst ex
  obtain rfl : u = Value.ref a := rx
  exact getcon_ok I1 ea c k l fun s2 I2 => ⟨v, H1, I2, k.rel, q⟩
theorem ps_fld (ha : PE X o ta) (hv : PE X value tv) (hs : swapsWith value (some (.Attribute o f pos')) pos.line X.env = pure false) : PS X (.Assign [.Attribute o f pos'] value pos) (sFld X.K ta tv f) := by
  intro pins s σ H D I h
  refine plainObj_wpAny_Assign_Attribute (thn (hv pins s σ H _ I h) fun u s1 ⟨y, H1, I1, ry, q⟩ => thn (ha pins s1 σ H1 _ I1 q) fun ov s2 ⟨x, H2, I2, rx, a, C, dx, fs, ex, ea, c, n, l, q2⟩ => ?_) hs
  subst ex
  obtain rfl : ov = Value.ref a := rx
  exact setattr_ok I2 ea c n l ry fun s3 I3 => ⟨σ, _, I3, q2⟩
theorem ps_fldaug {op : Operator} {rd : V → V → Hp → VK → Prop} (ha : PE X o ta) (hv : PE X value tv) (hop : InOp X op rd) : PS X (.AugAssign (.Attribute o f tpos) op value pos) (sFldAug X.K ta tv rd f) := by
  intro pins s σ H D I h
  refine wpAny_AugAssign_AttributeAny (thn (ha pins s σ H _ I h) fun ov s1 ⟨x, H1, I1, rx, a, C, dx, fs, v, ex, ea, c, n, l, q⟩ => ?_)
  subst ex
  obtain rfl : ov = Value.ref a := rx
  refine getattr_ok I1 ea c n l fun u s2 I2 ru => thn (hv pins s2 σ H1 _ I2 q) fun w3 s3 ⟨y, H2, I3, ry, q3⟩ => thn (hop pins s3 σ H2 v y u w3 _ I3 ru ry q3) fun w4 s4 ⟨z, H3, I4, rz, dx', fs', ea', l', q4⟩ => ?_
  exact setattr_ok I4 ea' c n l' rz fun s5 I5 => ⟨σ, _, I5, q4⟩
def rAdd : V → V → Hp → VK → Prop := fun x y H Q => ∃ i j, x = .int i ∧ y = .int j ∧ Q (.int (i + j)) H
def rSub : V → V → Hp → VK → Prop := fun x y H Q => ∃ i j, x = .int i ∧ y = .int j ∧ Q (.int (i - j)) H
theorem in_add : InOp X .Add rAdd := by
  rintro pins s σ H x y u v Q I rx ry ⟨i, j, rfl, rfl, q⟩
  obtain ⟨t, rfl⟩ := (show ∃ t, u = Value.int i t from rx)
  obtain ⟨t', rfl⟩ := (show ∃ t', v = Value.int j t' from ry)
  exact PyProof.Rows.iadd_int ⟨.int (i + j), H, I.tok _, ⟨_, rfl⟩, q⟩
theorem in_sub : InOp X .Sub rSub := by
  rintro pins s σ H x y u v Q I rx ry ⟨i, j, rfl, rfl, q⟩
  obtain ⟨t, rfl⟩ := (show ∃ t, u = Value.int i t from rx)
  obtain ⟨t', rfl⟩ := (show ∃ t', v = Value.int j t' from ry)
  exact PyProof.Rows.isub_int ⟨.int (i - j), H, I.tok _, ⟨_, rfl⟩, q⟩

/-- what is between an instance and its method: the tree of a method call -/
theorem methcall_of {pl : Sem Bool} {m : Str} {apos : Pos} {args : List Expr} {pins : List (Addr × Obj)} {s : Shared} {σ : St} {H : Hp} {Q : Value → Shared → Prop} {te : TE} (he : PE X e te) (I : Inv X pins σ H s)
    (h : te σ H fun x H1 => ∃ a C dx fs g, x = .ref a ∧ H1 a = some (.ins C dx fs) ∧ Cls X.K C ∧ Meth X.K C m g ∧ fs.lookup m = none ∧
      ∀ s1, Inv X pins σ H1 s1 → wpAny (model X.prog X.w) X.A (callWith pos (.ref g) [.ref a] (backTo pos (starEach args X.env)) (backToKw pos (keywordEach [] X.env))) Q X.xe s1)
    (ht : eval (.Call (.Attribute e m apos) args [] pos) X.env = (do
      let ov ← eval e X.env
      standAt apos.atName
      let (f, first) ← holding [ov] (getMethod ov m pl)
      callWith pos f first (backTo pos (starEach args X.env)) (backToKw pos (keywordEach [] X.env)))) :
    wpAny (model X.prog X.w) X.A (eval (.Call (.Attribute e m apos) args [] pos) X.env) Q X.xe s := by
  refine PySem.W.methodCall_KW (pl := pl) (thn (he pins s σ H _ I h) fun u s1 ⟨x, H1, I1, rx, a, C, dx, fs, g, ex, ea, c, k, l, q⟩ => ?_) ht
  subst ex
  obtain rfl : u = Value.ref a := rx
  exact getmeth_ok I1 ea c k l (q s1 I1)
end

/-! ### isinstance -/
section
variable {X : Cx} {pins : List (Addr × Obj)} {σ : St} {H : Hp} {s : Shared} {A : Around} {E : Value → Shared → Prop} {Q : Value → Shared → Prop} {c : Value} {b : Bool}
/-- the type of a value, as the fragment's deciders take it; for an instance its class -/
inductive TyOf (K : PySem.W.Frag) (H : Hp) : V → Value → Prop where
  | non : TyOf K H .non (.type "NoneType")
  | bl (x : Bool) : TyOf K H (.bl x) (.type "bool")
  | int (i : Int) : TyOf K H (.int i) (.type "int")
  | str (x : Str) : TyOf K H (.str x) (.type "str")
  | flt (x : UInt64) : TyOf K H (.flt x) (.type "float")
  | lst {a : Addr} {xs : List V} (e : H a = some (.lst xs)) : TyOf K H (.ref a) (.type "list")
  | frz {a : Addr} {o : Obj} {xs : List V} (e : H a = some (.frz o (.lst xs))) : TyOf K H (.ref a) (.type "list")
  | tup {a : Addr} {xs : List V} (e : H a = some (.tup xs)) : TyOf K H (.ref a) (.type "tuple")
  | dK {a : Addr} {kvs : List (Key × V)} (e : H a = some (.dK kvs)) : TyOf K H (.ref a) (.type "dict")
  | dT {a : Addr} {kvs : List (List Key × V)} (e : H a = some (.dT kvs)) : TyOf K H (.ref a) (.type "dict")
  | ins {a C dx : Addr} {fs : List (Str × V)} (e : H a = some (.ins C dx fs)) (cl : Cls K C) (ha : PySem.W.findIn K (.ref C) "__class__" = some (some (.builtin "object.__class__")))
      (hn : PySem.W.specialIn K (.builtin "object.__class__") "__get__" = some (some (.builtin "getset_descriptor.__get__"))) (htk : PySem.W.takesIn K (.builtin "object.__class__") = some true)
      (hm : PySem.W.mroIn K C (.type "object") = some true) : TyOf K H (.ref a) (.ref C)
/-- isinstance(x, c) for one class c, a built-in or an own one: kitOne's answer -/
theorem isinst_ok {x : V} {u t : Value} (I : Inv X pins σ H s) (rx : RelV x u) (ty : TyOf X.K H x t) (e : PySem.W.kitOne X.K t c = some b) (h : ∀ tk, Q (.bool b) { s with toks := tk }) :
    wpAny (model X.prog X.w) A (call (.builtin "isinstance") [u, c]) Q E s := by
  cases ty with
  | non => cases (show u = Value.none from rx); exact PySem.W.kia_one PySem.W.kitx_none I.kIn True.intro e (fun z => nomatch z) h
  | bl y => cases (show u = Value.bool y from rx); exact PySem.W.kia_one PySem.W.kitx_bool I.kIn True.intro e (fun z => nomatch z) h
  | int i => obtain ⟨t, q⟩ := (show ∃ t, u = Value.int i t from rx); cases q; exact PySem.W.kia_one PySem.W.kitx_int I.kIn True.intro e (fun z => nomatch z) h
  | str y => obtain ⟨t, q⟩ := (show ∃ t, u = Value.str y t from rx); cases q; exact PySem.W.kia_one PySem.W.kitx_str I.kIn True.intro e (fun z => nomatch z) h
  | flt y => obtain ⟨t, q⟩ := (show ∃ t, u = Value.float y t from rx); cases q; exact PySem.W.kia_one PySem.W.kitx_float I.kIn True.intro e (fun z => nomatch z) h
  | @lst a xs ea =>
    cases (show u = Value.ref a from rx)
    obtain ⟨_, _, n, _, h1⟩ := (show ObjOk X.prog X.w H s.heap a (.lst xs) from I.hok a _ ea)
    exact PySem.W.kia_one PySem.W.kitx_list I.kIn ⟨_, h1, rfl⟩ e (fun z => nomatch z) h
  | @frz a ob xs ea =>
    cases (show u = Value.ref a from rx)
    obtain ⟨_, _, _, n, _, h1⟩ := (show ObjOk X.prog X.w H s.heap a (.frz ob (.lst xs)) from I.hok a _ ea)
    exact PySem.W.kia_one PySem.W.kitx_list I.kIn ⟨_, h1, rfl⟩ e (fun z => nomatch z) h
  | @tup a xs ea =>
    cases (show u = Value.ref a from rx)
    obtain ⟨_, _, _, p⟩ := (show ObjOk X.prog X.w H s.heap a (.tup xs) from I.hok a _ ea)
    obtain ⟨o, h1, h2, _⟩ := p
    exact PySem.W.kia_one PySem.W.kitx_tuple I.kIn ⟨o, h1, h2⟩ e (fun z => nomatch z) h
  | @dK a kvs ea =>
    cases (show u = Value.ref a from rx)
    obtain ⟨_, _, vs, _, p⟩ := (show ObjOk X.prog X.w H s.heap a (.dK kvs) from I.hok a _ ea)
    obtain ⟨o, es, ep, h1, h2, _⟩ := p
    exact PySem.W.kia_one PySem.W.kitx_dict I.kIn ⟨o, h1, h2.1⟩ e (fun z => nomatch z) h
  | @dT a kvs ea =>
    cases (show u = Value.ref a from rx)
    obtain ⟨_, _, xs, _, o, es, ep, h1, h2, _⟩ := (show ObjOk X.prog X.w H s.heap a (.dT kvs) from I.hok a _ ea)
    exact PySem.W.kia_one PySem.W.kitx_dict I.kIn ⟨o, h1, h2.1⟩ e (fun z => nomatch z) h
  | @ins a C dx fs ea cl ha hn htk hm =>
    cases (show u = Value.ref a from rx)
    obtain ⟨mA, O, _⟩ := ins_get I.hok ea
    obtain ⟨od, J, _⟩ := O.look
    exact PySem.W.kia_one (PySem.W.kitx_own (cl.get _) cl.hd ha hn htk hm) I.kIn J e (fun z => nomatch z) h
end
end L2

namespace L2
open PySem PySem.Spec PyProof.Rows

/-! ### room -/
structure Room (k : Nat) (A : Around) : Prop where
  hd : A.handled = none
  dp : A.depth + 3 * k + 5 < recursionLimit
  un : A.units + 16 * k + 200 < cLine
theorem Room.mono {j k : Nat} {A : Around} (r : Room k A) (h : j ≤ k) : Room j A := ⟨r.hd, by have := r.dp; omega, by have := r.un; omega⟩
theorem Room.deeper {k : Nat} {A : Around} (r : Room (k + 1) A) (env : Env) : Room k (A.deeper env) :=
  ⟨r.hd, by have := r.dp; show A.depth + 1 + 3 * k + 5 < _; omega, by have := r.un; show A.units + 3 + 16 * k + 200 < _; omega⟩
theorem Room.in1 {k : Nat} {A : Around} (r : Room (k + 1) A) : Room k A.in1 :=
  ⟨r.hd, by have := r.dp; show A.depth + 3 * k + 5 < _; omega, by have := r.un; show A.units + 1 + 16 * k + 200 < _; omega⟩
theorem make_depth {A : Around} {C : Addr} {us : List Value} {kw : List (Str × Value)} : (A.under (.builtin "type.__call__" ⟨.ref C :: us, kw⟩)).depth = A.depth + 1 := by
  first | rfl | simp [Around.under, Code.weight, Code.isCreation, Code.isGuard, Code.isCaller, Code.frames, Code.isFrame, guardIds]
theorem make_units {A : Around} {C : Addr} {us : List Value} {kw : List (Str × Value)} : (A.under (.builtin "type.__call__" ⟨.ref C :: us, kw⟩)).units = A.units + 1 := by
  first | rfl | simp [Around.under, Code.cUnits, Code.frames, Code.isFrame]
theorem Room.make {k : Nat} {A : Around} (r : Room (k + 1) A) (C : Addr) (us : List Value) (kw : List (Str × Value)) : Room k (A.under (.builtin "type.__call__" ⟨.ref C :: us, kw⟩)) :=
  ⟨r.hd, by have := r.dp; rw [make_depth]; omega, by have := r.un; rw [make_units]; omega⟩
theorem Room.depth {k : Nat} {A : Around} (r : Room k A) : A.depth < recursionLimit := by have := r.dp; omega
theorem Room.units {k : Nat} {A : Around} (r : Room k A) : A.units + 64 < cLine := by have := r.un; omega
theorem Room.units0 {k : Nat} {A : Around} (r : Room k A) : A.units < cLine := by have := r.un; omega

/-! ### argument lists and displays -/
def tNil : TA := fun _ H Q => Q [] H
def tCons (ta : TE) (tr : TA) : TA := fun σ H Q => ta σ H fun x H1 => tr σ H1 fun xs H2 => Q (x :: xs) H2
section
variable {X : Cx} {e : Expr} {es : List Expr} {te : TE} {t : TA} {pos : Pos}
theorem pa_nil : PA X [] tNil := fun _ _ _ _ H Q I h => Calls.spliced_nil ⟨[], H, I, .nil, h⟩
theorem pa_cons (ha : PE X e te) (hr : PA X es t) (hs : starEach (e :: es) X.env = (false, eval e X.env) :: starEach es X.env := by rfl) : PA X (e :: es) (tCons te t) := by
  intro pos pins s σ H Q I h
  rw [hs]
  show wpAny _ _ (spliced ((false, eval e X.env) :: backTo pos (starEach es X.env))) _ _ s
  refine Calls.spliced_cons (thn (ha pins s σ H _ I h) fun u s1 ⟨x, H1, I1, r1, q1⟩ => ?_)
  exact thn (hr pos pins s1 σ H1 _ I1 q1) fun us s2 ⟨xs, H2, I2, r2, q2⟩ => ⟨x :: xs, H2, I2, .cons r1 r2, q2⟩

/-- a tuple, a list of written items -/
def tTup (t : TA) : TE := fun σ H Q => t σ H fun xs H1 => xs.length ≤ sizeLine ∧ ∀ p, H1 p = none → Q (.ref p) (upd H1 p (.tup xs))
def tLst (t : TA) : TE := fun σ H Q => t σ H fun xs H1 => xs.length ≤ sizeLine ∧ ∀ p, H1 p = none → Q (.ref p) (upd H1 p (.lst xs))
theorem pe_tup {x1} (h : PA X es t) : PE X (.Tuple es x1 pos) (tTup t) := by
  intro pins s σ H Q I hq
  refine wpAny_Tuple_spliced (thn (h pos pins s σ H _ I hq) fun us s1 ⟨xs, H1, I1, r, z, q⟩ => ⟨by rw [← r.length]; exact z, ?_⟩)
  have hf : H1 s1.heap.objs.size = none := I1.hok.fresh (Nat.le_refl _)
  refine ⟨.ref s1.heap.objs.size, upd H1 s1.heap.objs.size (.tup xs), I1.laid (t' := s1.toks) (fun b u e => Heap.get?_push_of_some _ e) (Nat.le_refl _) ?_, rfl, q _ hf⟩
  exact ⟨z, us, r, ⟨_, Heap.get?_push_size _ rfl, rfl, _, rfl⟩⟩
theorem pe_lst (h : PA X es t) : PE X (.List es pos) (tLst t) := by
  intro pins s σ H Q I hq
  refine wpAny_List_spliced (thn (h pos pins s σ H _ I hq) fun us s1 ⟨xs, H1, I1, r, z, q⟩ => ⟨by rw [← r.length]; exact z, ?_⟩)
  have hf : H1 s1.heap.objs.size = none := I1.hok.fresh (Nat.le_refl _)
  refine ⟨.ref s1.heap.objs.size, upd H1 s1.heap.objs.size (.lst xs), I1.laid (t' := s1.toks) (fun b u e => Heap.get?_push_of_some _ e) (Nat.le_refl _) ?_, rfl, q _ hf⟩
  exact ⟨z, us, 0, r, Heap.get?_push_size _ rfl⟩
end

/-! ### what a def promises -/
/-- a def's promise: the bound arguments in the parameters' order, the heap, the wanted end, the wanted exception -/
abbrev Sp := List V → Hp → VK → XK → Prop
/-- how an exception lies behind a call (file 08 gives it): the callers' frames, abstract heap and state ahead of the call, the wish, the exception, the state -/
abbrev CXT := List Env → Hp → Shared → XK → Value → Shared → Prop

/-- the state at a call -/
structure Env0 (P : Program) (w : World) (K : PySem.W.Frag) (mg : Str → Option Value) (base : Heap) (A : Around) (outer : List Env) (s : Shared) (H : Hp) : Prop where
  frames : A.frames = some outer
  mod : Mod K mg base
  bs : ∀ b o, base.get? b = some o → s.heap.get? b = some o ∧ H b = none
  bsz : base.objs.size ≤ s.heap.objs.size
  funs : s.heap.FunFrames base outer
  frf : ∀ b ∈ frs outer, H b = none
  hok : HOk P w H s.heap
  bare : AllBare s.gens
/-- a call's end -/
def CE (outer : List Env) (P : Program) (w : World) (H : Hp) (s : Shared) (Q : VK) (u : Value) (s' : Shared) : Prop :=
  ∃ v H', s'.os = s.os ∧ AllBare s'.gens ∧ Un (frs outer) [] H H' s.heap s'.heap ∧ HOk P w H' s'.heap ∧ RelV v u ∧ Q v H'
def CR (CX : CXT) (outer : List Env) (P : Program) (w : World) (H : Hp) (s : Shared) (Q : VK) (E : XK) (r : Result) (s' : Shared) : Prop :=
  match r with
  | .ok (.ret u) => CE outer P w H s Q u s'
  | .ok _ => False
  | .error e => CX outer H s E e s'
structure FnOk (P : Program) (w : World) (K : PySem.W.Frag) (mg : Str → Option Value) (base : Heap) (CX : CXT) (k : Nat) (f : Addr) (fd : FuncData) (ps : List Str) (sp : Sp) : Prop where
  len : ∀ vs H Q E, sp vs H Q E → vs.length = ps.length
  run : ∀ (A : Around) (outer : List Env) (s : Shared) (H : Hp) (args : Args) (us : List Value) (vs : List V) (Q : VK) (E : XK), Room k A → Env0 P w K mg base A outer s H → BindsTo s fd args (ps.zip us) → Vals vs us → sp vs H Q E →
    codeAny (model P w) A (.call (.ref f) args) (CR CX outer P w H s Q E) s
theorem FnOk.mono {P : Program} {w : World} {K : PySem.W.Frag} {mg : Str → Option Value} {base : Heap} {CX : CXT} {j k : Nat} {f : Addr} {fd : FuncData} {ps : List Str} {sp : Sp} (F : FnOk P w K mg base CX j f fd ps sp) (h : j ≤ k) :
    FnOk P w K mg base CX k f fd ps sp := ⟨F.len, fun A outer s H args us vs Q E hr => F.run A outer s H args us vs Q E (hr.mono h)⟩
/-- a weaker promise -/
theorem FnOk.imp {P : Program} {w : World} {K : PySem.W.Frag} {mg : Str → Option Value} {base : Heap} {CX : CXT} {k : Nat} {f : Addr} {fd : FuncData} {ps : List Str} {sp sp' : Sp} (F : FnOk P w K mg base CX k f fd ps sp)
    (h : ∀ vs H Q E, sp' vs H Q E → sp vs H Q E) : FnOk P w K mg base CX k f fd ps sp' :=
  ⟨fun vs H Q E q => F.len vs H Q E (h _ _ _ _ q), fun A outer s H args us vs Q E hr he hb hv hs => F.run A outer s H args us vs Q E hr he hb hv (h _ _ _ _ hs)⟩

theorem Env0.make {P : Program} {w : World} {K : PySem.W.Frag} {mg : Str → Option Value} {base : Heap} {A : Around} {outer : List Env} {s : Shared} {H : Hp} (e : Env0 P w K mg base A outer s H) (C : Addr) (us : List Value) (kw : List (Str × Value)) :
    Env0 P w K mg base (A.under (.builtin "type.__call__" ⟨.ref C :: us, kw⟩)) outer s H := ⟨by first | exact e.frames | (simpa [Around.under, Code.envs, Code.isFrame, pushEnvs] using e.frames), e.mod, e.bs, e.bsz, e.funs, e.frf, e.hok, e.bare⟩
theorem Env0.in1 {P : Program} {w : World} {K : PySem.W.Frag} {mg : Str → Option Value} {base : Heap} {A : Around} {outer : List Env} {s : Shared} {H : Hp} (e : Env0 P w K mg base A outer s H) :
    Env0 P w K mg base A.in1 outer s H := ⟨e.frames, e.mod, e.bs, e.bsz, e.funs, e.frf, e.hok, e.bare⟩

section
variable {X : Cx} {pins : List (Addr × Obj)} {σ : St} {H : Hp} {s s' : Shared}
/-- from a body: what a callee wants -/
theorem Inv.env0 (I : Inv X pins σ H s) : Env0 X.prog X.w X.K X.mg X.base X.A X.stack s H :=
  ⟨I.ok.frames, I.ok.mod, I.bs, Nat.le_trans I.ok.bsz I.sz, I.stack, I.stkFree, I.hok, I.bare⟩
/-- behind a call -/
theorem Inv.after {Q : VK} {u : Value} (I : Inv X pins σ H s) (h : CE X.stack X.prog X.w H s Q u s') : EP X pins σ Q u s' := by
  obtain ⟨v, H', os, bare, un, hok, r, q⟩ := h
  obtain ⟨hh, g, d, t, os'⟩ := s'
  obtain rfl : os' = s.os := os
  exact ⟨v, H', I.call (h' := hh) (g' := g) (d' := d) (t' := t) (ch := []) un hok bare (fun b z => absurd z (by simp)), r, q⟩
end

/-! ### calls -/
/-- f(..): the written arguments, then the defaults dvs; E: what is wanted of an exception -/
def tCall (sp : Sp) (dvs : List V) (E : XK) (t : TA) : TE := fun σ H Q => t σ H fun vs H1 => sp (vs ++ dvs) H1 Q E
/-- o.m(..) of an instance of the class at C -/
def tMeth (C : Addr) (m : Str) (sp : Sp) (dvs : List V) (E : XK) (ta : TE) (t : TA) : TE := fun σ H Q => ta σ H fun x H1 => ∃ a dx fs, x = .ref a ∧ H1 a = some (.ins C dx fs) ∧ fs.lookup m = none ∧
  t σ H1 fun vs H2 => sp (x :: (vs ++ dvs)) H2 Q E
/-- C(..): a new instance and its dict, then __init__ -/
def tMake (C : Addr) (sp : Sp) (dvs : List V) (E : XK) (t : TA) : TE := fun σ H Q => t σ H fun vs H1 => ∀ x dx, H1 x = none → H1 dx = none → dx ≠ x →
  sp (.ref x :: (vs ++ dvs)) (upd (upd H1 dx (.own x)) x (.ins C dx [])) (fun v H2 => v = .non ∧ Q (.ref x) H2) E

/-- how the parameters are bound: us the positional arguments, kw the keywords' values by name, ds the defaults that fill up -/
def Binds (K : PySem.W.Frag) (fd : FuncData) (ps : List Str) (ds : List Value) : Prop :=
  ∀ (s : Shared) (us : List Value), K.In s.heap → (us ++ ds).length = ps.length → BindsTo s fd ⟨us, []⟩ (ps.zip (us ++ ds))
/-- every parameter is given -/
theorem Binds.all {K : PySem.W.Frag} {fd : FuncData} {ps : List Str} (h : ∀ us : List Value, us.length = ps.length → bindArgs fd ⟨us, []⟩ = pure (ps.zip us)) : Binds K fd ps [] := fun s us _ hl => by
  rw [List.append_nil] at hl ⊢
  exact .of_eq (h us hl)

/-- an exception of a callee reaches what this body wants of exceptions -/
def Passes (CX : CXT) (X : Cx) (E : XK) : Prop := ∀ (pins : List (Addr × Obj)) (σ : St) (H : Hp) (s : Shared) (e : Value) (s' : Shared), Inv X pins σ H s → CX X.stack H s E e s' → X.xe e s'

section
variable {X : Cx} {CX : CXT} {k : Nat} {f C : Addr} {fd : FuncData} {ps : List Str} {sp : Sp} {dvs : List V} {ds : List Value} {E : XK} {x m : Str} {p pos apos : Pos} {e o : Expr} {es : List Expr} {ta : TE} {t : TA}

/-- the callee runs -/
theorem run_fn {pins : List (Addr × Obj)} {σ : St} {H : Hp} {s : Shared} {Q : VK} {us : List Value} {vs : List V} (F : FnOk X.prog X.w X.K X.mg X.base CX k f fd ps sp) (hr : Room k X.A) (hb : Binds X.K fd ps ds) (hd : Vals dvs ds) (hx : Passes CX X E)
    (I : Inv X pins σ H s) (r : Vals vs us) (h : sp (vs ++ dvs) H Q E) : wpAny (model X.prog X.w) X.A (call (.ref f) us) (EP X pins σ Q) X.xe s := by
  have r2 : Vals (vs ++ dvs) (us ++ ds) := r.append hd
  have hl : (us ++ ds).length = ps.length := by rw [← r2.length]; exact F.len _ _ _ _ h
  refine wpAny_call (codeAny_mono (F.run X.A X.stack s H ⟨us, []⟩ (us ++ ds) (vs ++ dvs) Q E hr I.env0 (hb s us I.kIn hl) r2 h) fun r s' hq => ?_)
  cases r with
  | error e => exact hx pins σ H s e s' I hq
  | ok fl =>
    cases fl with
    | ret u => exact I.after hq
    | next => exact False.elim hq
    | brk => exact False.elim hq
    | cont => exact False.elim hq

theorem pe_call (F : FnOk X.prog X.w X.K X.mg X.base CX k f fd ps sp) (hr : Room k X.A) (hg : Gl X x) (hm : X.mg x = some (.ref f)) (hk : PySem.W.keepIn X.K (.ref f) = true) (hb : Binds X.K fd ps ds) (hd : Vals dvs ds) (hx : Passes CX X E)
    (ha : PA X (e :: es) t) (hdb : (x == ("__debug__" : Str)) = false := by decide) (he : starEach (e :: es) X.env = (false, eval e X.env) :: starEach es X.env := by rfl) (hpl : (backTo pos (starEach es X.env)).any (·.1) = false := by rfl) :
    PE X (.Call (.Name x p) (e :: es) [] pos) (tCall sp dvs E t) := by
  intro pins s σ H Q I h
  refine wpAny_Call_Name_kw (ld_glob I hg hm ?_ hdb)
  refine PySem.W.callWith_K (h₀ := X.base) I.ok.mod.kin hk (thn (ha pos pins s σ H _ I h) fun us s1 ⟨vs, H1, I1, r, q⟩ => ⟨I1.kIn, ?_⟩) he hpl
  exact run_fn F hr hb hd hx I1 r q
theorem pe_call0 (F : FnOk X.prog X.w X.K X.mg X.base CX k f fd ps sp) (hr : Room k X.A) (hg : Gl X x) (hm : X.mg x = some (.ref f)) (hk : PySem.W.keepIn X.K (.ref f) = true) (hb : Binds X.K fd ps ds) (hd : Vals dvs ds) (hx : Passes CX X E)
    (hdb : (x == ("__debug__" : Str)) = false := by decide) : PE X (.Call (.Name x p) [] [] pos) (tCall sp dvs E tNil) := by
  intro pins s σ H Q I h
  refine wpAny_Call_Name_kw (ld_glob I hg hm ?_ hdb)
  exact PySem.W.callWith_K0 I.kIn hk (run_fn (us := []) F hr hb hd hx I .nil h)

/-- o.m(e, ..) -/
theorem pe_meth {pl : Sem Bool} (he : PE X o ta) (c : Cls X.K C) (hm : Meth X.K C m f) (F : FnOk X.prog X.w X.K X.mg X.base CX k f fd ps sp) (hr : Room k X.A) (hb : Binds X.K fd ps ds) (hd : Vals dvs ds) (hx : Passes CX X E) (ha : PA X (e :: es) t)
    (hst : starEach (e :: es) X.env = (false, eval e X.env) :: starEach es X.env := by rfl) (hpl : (backTo pos (starEach es X.env)).any (·.1) = false := by rfl)
    (ht : eval (.Call (.Attribute o m apos) (e :: es) [] pos) X.env = (do
      let ov ← eval o X.env
      standAt apos.atName
      let (f, first) ← holding [ov] (getMethod ov m pl)
      callWith pos f first (backTo pos (starEach (e :: es) X.env)) (backToKw pos (keywordEach [] X.env))) := by rfl) :
    PE X (.Call (.Attribute o m apos) (e :: es) [] pos) (tMeth C m sp dvs E ta t) := by
  intro pins s σ H Q I h
  refine PySem.W.methodCall_KW (pl := pl) (thn (he pins s σ H _ I h) fun u s1 ⟨x, H1, I1, rx, a, dx, fs, ex, ea, l, q⟩ => ?_) ht
  subst ex
  obtain rfl : u = Value.ref a := rx
  refine getmeth_ok I1 ea c hm l ?_
  refine PySem.W.callWith_K (first := [.ref a]) (h₀ := X.base) I.ok.mod.kin hm.kp (thn (ha pos pins s1 σ H1 _ I1 q) fun us s2 ⟨vs, H2, I2, r, q2⟩ => ⟨I2.kIn, ?_⟩) hst hpl
  exact run_fn (us := .ref a :: us) (vs := .ref a :: vs) F hr hb hd hx I2 (.cons rfl r) q2
/-- o.m() -/
theorem pe_meth0 {pl : Sem Bool} (he : PE X o ta) (c : Cls X.K C) (hm : Meth X.K C m f) (F : FnOk X.prog X.w X.K X.mg X.base CX k f fd ps sp) (hr : Room k X.A) (hb : Binds X.K fd ps ds) (hd : Vals dvs ds) (hx : Passes CX X E)
    (ht : eval (.Call (.Attribute o m apos) [] [] pos) X.env = (do
      let ov ← eval o X.env
      standAt apos.atName
      let (f, first) ← holding [ov] (getMethod ov m pl)
      callWith pos f first (backTo pos (starEach [] X.env)) (backToKw pos (keywordEach [] X.env))) := by rfl) :
    PE X (.Call (.Attribute o m apos) [] [] pos) (tMeth C m sp dvs E ta tNil) := by
  intro pins s σ H Q I h
  refine PySem.W.methodCall_KW (pl := pl) (thn (he pins s σ H _ I h) fun u s1 ⟨x, H1, I1, rx, a, dx, fs, ex, ea, l, q⟩ => ?_) ht
  subst ex
  obtain rfl : u = Value.ref a := rx
  refine getmeth_ok I1 ea c hm l ?_
  exact PySem.W.callWith_K0 (first := [.ref a]) I1.kIn hm.kp (run_fn (us := [.ref a]) (vs := [.ref a]) F hr hb hd hx I1 (.cons rfl .nil) q)

/-- what a class must have to be made -/
structure Mk (K : PySem.W.Frag) (C f : Addr) : Prop where
  makes : PySem.W.makesIn K C = true
  init : PySem.W.findIn K (.ref C) "__init__" = some (some (.ref f))
  fn : PySem.W.isFn K (.ref f) = true
  kp : PySem.W.keepIn K (.ref C) = true

theorem run_make {pins : List (Addr × Obj)} {σ : St} {H : Hp} {s : Shared} {Q : VK} {us : List Value} {vs : List V} (M : Mk X.K C f) (F : FnOk X.prog X.w X.K X.mg X.base CX k f fd ps sp) (hr : Room (k + 1) X.A) (hb : Binds X.K fd ps ds) (hd : Vals dvs ds)
    (hx : Passes CX X E) (I : Inv X pins σ H s) (r : Vals vs us)
    (h : ∀ x dx, H x = none → H dx = none → dx ≠ x → sp (.ref x :: (vs ++ dvs)) (upd (upd H dx (.own x)) x (.ins C dx [])) (fun v H2 => v = .non ∧ Q (.ref x) H2) E) :
    wpAny (model X.prog X.w) X.A (call (.ref C) us) (EP X pins σ Q) X.xe s := by
  have hq := h (s.heap.objs.size + 1) s.heap.objs.size (I.hok.fresh (Nat.le_succ _)) (I.hok.fresh (Nat.le_refl _)) (Nat.ne_of_lt (Nat.lt_succ_self _))
  have I2 := Inv.made (C := C) I
  have r2 : Vals (V.ref (s.heap.objs.size + 1) :: (vs ++ dvs)) (Value.ref (s.heap.objs.size + 1) :: (us ++ ds)) := .cons rfl (r.append hd)
  have hl : (Value.ref (s.heap.objs.size + 1) :: us ++ ds).length = ps.length := by
    have e := r2.length
    rw [F.len _ _ _ _ hq] at e
    exact e.symm
  refine wpAny_call (make_map (f := f) I.kIn M.makes M.init (beq_iff_eq.mp M.fn) (codeAny_mono (F.run _ X.stack _ _ ⟨Value.ref (s.heap.objs.size + 1) :: us, []⟩ (Value.ref (s.heap.objs.size + 1) :: (us ++ ds)) _ _ E (hr.make C us [])
    (I2.env0.make C us []) (hb _ (Value.ref (s.heap.objs.size + 1) :: us) I2.kIn hl) r2 hq) fun r s' hq' => ?_))
  cases r with
  | error e => exact hx pins σ _ _ e s' I2 hq'
  | ok fl =>
    cases fl with
    | ret u =>
      obtain ⟨v, H', I3, rv, ev, q3⟩ := I2.after hq'
      subst ev
      exact ⟨rv, ⟨V.ref (s.heap.objs.size + 1), H', I3, rfl, q3⟩⟩
    | next => exact False.elim hq'
    | brk => exact False.elim hq'
    | cont => exact False.elim hq'
theorem pe_make (M : Mk X.K C f) (F : FnOk X.prog X.w X.K X.mg X.base CX k f fd ps sp) (hr : Room (k + 1) X.A) (hg : Gl X x) (hm : X.mg x = some (.ref C)) (hb : Binds X.K fd ps ds) (hd : Vals dvs ds) (hx : Passes CX X E)
    (ha : PA X (e :: es) t) (hdb : (x == ("__debug__" : Str)) = false := by decide) (he : starEach (e :: es) X.env = (false, eval e X.env) :: starEach es X.env := by rfl) (hpl : (backTo pos (starEach es X.env)).any (·.1) = false := by rfl) :
    PE X (.Call (.Name x p) (e :: es) [] pos) (tMake C sp dvs E t) := by
  intro pins s σ H Q I h
  refine wpAny_Call_Name_kw (ld_glob I hg hm ?_ hdb)
  refine PySem.W.callWith_K (h₀ := X.base) I.ok.mod.kin M.kp (thn (ha pos pins s σ H _ I h) fun us s1 ⟨vs, H1, I1, r, q⟩ => ⟨I1.kIn, ?_⟩) he hpl
  exact run_make M F hr hb hd hx I1 r q
theorem pe_make0 (M : Mk X.K C f) (F : FnOk X.prog X.w X.K X.mg X.base CX k f fd ps sp) (hr : Room (k + 1) X.A) (hg : Gl X x) (hm : X.mg x = some (.ref C)) (hb : Binds X.K fd ps ds) (hd : Vals dvs ds) (hx : Passes CX X E)
    (hdb : (x == ("__debug__" : Str)) = false := by decide) : PE X (.Call (.Name x p) [] [] pos) (tMake C sp dvs E tNil) := by
  intro pins s σ H Q I h
  refine wpAny_Call_Name_kw (ld_glob I hg hm ?_ hdb)
  exact PySem.W.callWith_K0 I.kIn M.kp (run_make (us := []) M F hr hb hd hx I .nil h)
end

/-! ### keywords -/
/-- the values of the keywords, from the left -/
def PK (X : Cx) (kws : List Keyword) (t : TA) : Prop :=
  ∀ (pos : Pos) (pins : List (Addr × Obj)) (s : Shared) (σ : St) (H : Hp) (Q : List V → Hp → Prop), Inv X pins σ H s → t σ H Q → wpAny (model X.prog X.w) X.A (evalAll ((backToKw pos (keywordEach kws X.env)).map (·.2))) (AP X pins σ Q) X.xe s
section
variable {X : Cx} {CX : CXT} {k : Nat} {f C : Addr} {fd : FuncData} {ps ks : List Str} {sp : Sp} {E : XK} {x m : Str} {p pos apos kpos : Pos} {e o : Expr} {es : List Expr} {kws : List Keyword} {te ta : TE} {t tk : TA} {nm : Option Str}
theorem pk_nil : PK X [] tNil := fun _ _ _ _ H Q I h => wpAny_evalAll_nil ⟨[], H, I, .nil, h⟩
theorem pk_cons (ha : PE X e te) (hr : PK X kws t) : PK X (⟨nm, e, kpos⟩ :: kws) (tCons te t) := by
  intro pos pins s σ H Q I h
  show wpAny _ _ (evalAll ((do let v ← eval e X.env; standAt pos; pure v) :: (backToKw pos (keywordEach kws X.env)).map (·.2))) _ _ s
  refine wpAny_evalAll_cons (wpAny_bind (thn (ha pins s σ H _ I h) fun u s1 ⟨x, H1, I1, r1, q1⟩ => wpAny_bind (wpAny_standAt (wpAny_pure ?_))))
  exact thn (hr pos pins s1 σ H1 _ I1 q1) fun us s2 ⟨xs, H2, I2, r2, q2⟩ => ⟨x :: xs, H2, I2, .cons r1 r2, q2⟩

/-- how a call with keywords binds: g puts the positional values us and the keywords' values ws (names ks) in the parameters' order, defaults among them -/
structure KBinds (K : PySem.W.Frag) (fd : FuncData) (ps ks : List Str) (g : List Value → List Value → List Value) (gV : List V → List V → List V) : Prop where
  to : ∀ (s : Shared) (us ws : List Value), K.In s.heap → (g us ws).length = ps.length → BindsTo s fd ⟨us, ks.zip ws⟩ (ps.zip (g us ws))
  rel : ∀ {vs : List V} {us : List Value} {zs : List V} {ws : List Value}, Vals vs us → Vals zs ws → Vals (gV vs zs) (g us ws)
def tCallK (sp : Sp) (gV : List V → List V → List V) (E : XK) (t tk : TA) : TE := fun σ H Q => t σ H fun vs H1 => tk σ H1 fun zs H2 => sp (gV vs zs) H2 Q E
variable {g : List Value → List Value → List Value} {gV : List V → List V → List V}
theorem run_fnk {pins : List (Addr × Obj)} {σ : St} {H : Hp} {s : Shared} {Q : VK} {us ws : List Value} {vs zs : List V} (F : FnOk X.prog X.w X.K X.mg X.base CX k f fd ps sp) (hr : Room k X.A) (hb : KBinds X.K fd ps ks g gV) (hx : Passes CX X E)
    (I : Inv X pins σ H s) (r : Vals vs us) (rz : Vals zs ws) (h : sp (gV vs zs) H Q E) : wpAny (model X.prog X.w) X.A (call (.ref f) us (ks.zip ws)) (EP X pins σ Q) X.xe s := by
  have r2 := hb.rel r rz
  have hl : (g us ws).length = ps.length := by rw [← r2.length]; exact F.len _ _ _ _ h
  refine wpAny_call (codeAny_mono (F.run X.A X.stack s H ⟨us, ks.zip ws⟩ (g us ws) (gV vs zs) Q E hr I.env0 (hb.to s us ws I.kIn hl) r2 h) fun r s' hq => ?_)
  cases r with
  | error e => exact hx pins σ H s e s' I hq
  | ok fl =>
    cases fl with
    | ret u => exact I.after hq
    | next => exact False.elim hq
    | brk => exact False.elim hq
    | cont => exact False.elim hq
/-- f(e, .., k = v, ..) -/
theorem pe_callK (F : FnOk X.prog X.w X.K X.mg X.base CX k f fd ps sp) (hr : Room k X.A) (hg : Gl X x) (hm : X.mg x = some (.ref f)) (hk : PySem.W.keepIn X.K (.ref f) = true) (hb : KBinds X.K fd ps ks g gV) (hx : Passes CX X E)
    (ha : PA X (e :: es) t) (hkw : PK X kws tk) (hall : (backToKw pos (keywordEach kws X.env)).all (·.1.isSome) = true := by rfl) (hks : (backToKw pos (keywordEach kws X.env)).filterMap (·.1) = ks := by rfl)
    (hdb : (x == ("__debug__" : Str)) = false := by decide) (he : starEach (e :: es) X.env = (false, eval e X.env) :: starEach es X.env := by rfl)
    (hpl : ((backTo pos (starEach (e :: es) X.env)).any (·.1) || (backToKw pos (keywordEach kws X.env)).any (·.1.isNone)) = false := by rfl) :
    PE X (.Call (.Name x p) (e :: es) kws pos) (tCallK sp gV E t tk) := by
  intro pins s σ H Q I h
  refine wpAny_Call_Name_kw (ld_glob I hg hm ?_ hdb)
  refine PySem.W.callWith_KW (h₀ := X.base) I.ok.mod.kin hk hall (thn (ha pos pins s σ H _ I h) fun us s1 ⟨vs, H1, I1, r, q⟩ => ?_) hpl he
  refine thn (hkw pos pins s1 σ H1 _ I1 q) fun ws s2 ⟨zs, H2, I2, rz, q2⟩ => ⟨I2.kIn, ?_⟩
  rw [hks]
  exact run_fnk F hr hb hx I2 r rz q2
end

/-! ### a def's body keeps its promise -/
/-- names: the parameters first -/
structure FnScope (N P : List Str) (sc : Scope) : Prop where
  kind : sc.kind = .function
  co : sc.isCoroutine = false
  gen : sc.isGenerator = false
  nd : N.Nodup
  pre : N.take P.length = P
  par : ∀ x ∈ P, sc.names.lookup x = some .local ∨ sc.names.lookup x = some .cell
  nofree : ∀ y ∈ sc.names, y.2 ≠ .free

theorem bindL_out {kindOf : Str → Option NameKind} {x : Str} : ∀ {binds : List (Str × Value)} {m : Str → Option Value}, (∀ v, (x, v) ∉ binds) → bindL kindOf binds m x = m x
  | [], _, _ => rfl
  | (n, v) :: r, m, h => by
    unfold bindL
    rw [bindL_out fun w hw => h w (List.mem_cons_of_mem _ hw)]
    split
    · have : x ≠ n := by rintro rfl; exact h v List.mem_cons_self
      simp [this]
    · rfl
theorem bindC_out {kindOf : Str → Option NameKind} {x : Str} : ∀ {binds : List (Str × Value)} {m : Str → Option Value}, (∀ v, (x, v) ∉ binds) → bindC kindOf binds m x = m x
  | [], _, _ => rfl
  | (n, v) :: r, m, h => by
    unfold bindC
    rw [bindC_out fun w hw => h w (List.mem_cons_of_mem _ hw)]
    split
    · rfl
    · have : x ≠ n := by rintro rfl; exact h v List.mem_cons_self
      simp [this]
theorem bindL_get {kindOf : Str → Option NameKind} {x : Str} {v : Value} : ∀ {P : List Str} {vs : List Value} {i : Nat} {m : Str → Option Value}, P.Nodup → P[i]? = some x → vs[i]? = some v → kindOf x = some .local →
    bindL kindOf (P.zip vs) m x = some v
  | [], _, _, _, _, h, _, _ => by simp at h
  | _ :: _, [], _, _, _, _, h, _ => by simp at h
  | p :: P, w :: vs, 0, m, nd, h1, h2, hk => by
    simp at h1 h2; subst h1; subst h2
    show bindL kindOf ((p, w) :: P.zip vs) m p = _
    unfold bindL
    rw [bindL_out fun v hv => (List.nodup_cons.mp nd).1 (List.of_mem_zip hv).1, if_pos hk]
    simp
  | p :: P, w :: vs, i + 1, m, nd, h1, h2, hk => by
    show bindL kindOf ((p, w) :: P.zip vs) m x = _
    unfold bindL
    exact bindL_get (i := i) (List.nodup_cons.mp nd).2 (by simpa using h1) (by simpa using h2) hk
theorem bindC_get {kindOf : Str → Option NameKind} {x : Str} {v : Value} : ∀ {P : List Str} {vs : List Value} {i : Nat} {m : Str → Option Value}, P.Nodup → P[i]? = some x → vs[i]? = some v → kindOf x ≠ some .local →
    bindC kindOf (P.zip vs) m x = some v
  | [], _, _, _, _, h, _, _ => by simp at h
  | _ :: _, [], _, _, _, _, h, _ => by simp at h
  | p :: P, w :: vs, 0, m, nd, h1, h2, hk => by
    simp at h1 h2; subst h1; subst h2
    show bindC kindOf ((p, w) :: P.zip vs) m p = _
    unfold bindC
    rw [bindC_out fun v hv => (List.nodup_cons.mp nd).1 (List.of_mem_zip hv).1, if_neg hk]
    simp
  | p :: P, w :: vs, i + 1, m, nd, h1, h2, hk => by
    show bindC kindOf ((p, w) :: P.zip vs) m x = _
    unfold bindC
    exact bindC_get (i := i) (List.nodup_cons.mp nd).2 (by simpa using h1) (by simpa using h2) hk

/-- the names' values at the entry -/
def start (N : List Str) (vs : List V) : St := vs.map some ++ List.replicate (N.length - vs.length) none

/-- the context of a def's body, at its entry; an exception leaves the frame, then lies as CX says -/
def cxOf (CX : CXT) (P : Program) (w : World) (K : PySem.W.Frag) (mg : Str → Option Value) (base : Heap) (N : List Str) (qual : Str) (scope : Scope) (f : Addr) (cd : Value) (A : Around) (outer : List Env) (s : Shared) (H : Hp) (E : XK) : Cx where
  prog := P
  w := w
  K := K
  mg := mg
  base := base
  A := A.deeper (envOfC qual scope s.heap.objs.size f cd)
  N := N
  s₀ := s
  H₀ := H
  env := envOfC qual scope s.heap.objs.size f cd
  outer := outer
  stack := envOfC qual scope s.heap.objs.size f cd :: outer
  ex := []
  calm := true
  fn := fun _ => true
  pn := []
  xe := fun e s' => wpAny (model P w) (A.deeper (envOfC qual scope s.heap.objs.size f cd)) (leaving (envOfC qual scope s.heap.objs.size f cd) e) (fun _ s'' => CX outer H s E e s'') (fun e' s'' => CX outer H s E e' s'') s'

theorem cell_has {sc : Scope} {n : Nat} {x : Str} (h : sc.names.lookup x = some .cell) : ∃ c, (cellsFrom n sc.names []).lookup x = some c := by
  have q := PySem.W.cellsFrom_some sc.names n [] (.inl h)
  exact Option.isSome_iff_exists.mp q

theorem inv_start {CX : CXT} {P : Program} {w : World} {K : PySem.W.Frag} {mg : Str → Option Value} {base : Heap} {N ps : List Str} {qual : Str} {scope : Scope} {f : Addr} {cd : Value} {A : Around} {outer : List Env} {s s1 : Shared} {H : Hp} {E : XK} {us : List Value} {vs : List V}
    (S : FnScope N ps scope) (hd : A.handled = none) (e0 : Env0 P w K mg base A outer s H) (hl : vs.length = ps.length) (r : Vals vs us)
    (x : InCallC s s.heap.objs.size (bindL (envOfC qual scope s.heap.objs.size f cd).kindOf (ps.zip us) fun _ => none) (cellsFrom (s.heap.objs.size + 1) scope.names []) (bindC (envOfC qual scope s.heap.objs.size f cd).kindOf (ps.zip us) fun _ => none) s1) :
    Inv (cxOf CX P w K mg base N qual scope f cd A outer s H E) [] (start N vs) H s1 := by
  have hpl : ps.length ≤ N.length := by have := congrArg List.length S.pre; rw [List.length_take] at this; omega
  obtain ⟨h1, tk, rfl, hk⟩ := x.done
  have noA : ∀ b : Addr, b ∉ (cxOf CX P w K mg base N qual scope f cd A outer s H E).ex := fun b z => absurd (show b ∈ ([] : List Addr) from z) (by simp)
  refine ⟨⟨e0.mod, S.kind, rfl, rfl, Nat.le_refl _, fun y z c h1 h2 => ?_, fun y hy => ?_, fun y c _ h => ?_, fun _ => hd, Around.frames_deeper e0.frames, .inr ⟨rfl, rfl⟩, fun b z => absurd z (noA b), e0.bs, e0.bsz, fun b _ _ => noA b, fun b z => absurd z (noA b), e0.funs, e0.frf⟩,
    rfl, e0.bare, Un.kept hk, ⟨_, x.toInCall.ns, fun i y v h1 h2 h3 => ?_⟩, fun y c h => ⟨_, x.cell y c h⟩, e0.hok.fresh (Nat.le_refl _), fun y c h => ?_, fun p hp => absurd (show p ∈ ([] : List (Addr × Obj)) from hp) (by simp), e0.hok.kept hk, ?_⟩
  · exact name_of_addr x.apart (PySem.mem_of_lookup h1) (PySem.mem_of_lookup h2)
  · have hy : scope.names.lookup y = some .cell ∨ scope.names.lookup y = some .free := hy
    rcases hy with hy | hy
    · exact cell_has hy
    · exact absurd rfl (S.nofree _ (PySem.mem_of_lookup hy))
  · exact Nat.le_of_lt (x.above y c (PySem.mem_of_lookup h))
  · have hi : i < vs.length := by
      unfold start at h2
      by_cases hi : i < vs.length
      · exact hi
      · rw [List.getElem?_append_right (by simpa using hi)] at h2
        rw [List.getElem?_replicate] at h2
        split at h2 <;> cases h2
    have ha : vs[i]? = some v := by
      unfold start at h2
      rw [List.getElem?_append_left (by simpa using hi), List.getElem?_map] at h2
      cases e : vs[i]? with
      | none => rw [e] at h2; cases h2
      | some a => rw [e] at h2; cases h2; rfl
    obtain ⟨u, hu, rv⟩ := r.get ha
    have hp : ps[i]? = some y := by
      rw [← S.pre, List.getElem?_take_of_lt (by omega)]; exact h1
    have ndP : ps.Nodup := by rw [← S.pre]; exact S.nd.sublist (List.take_sublist _ _)
    refine ⟨u, rv, ?_⟩
    rcases S.par y (List.mem_of_getElem? hp) with k | k
    · exact .inl ⟨k, bindL_get ndP hp hu k⟩
    · obtain ⟨c, e⟩ := cell_has (n := s.heap.objs.size + 1) k
      refine .inr ⟨.inl k, c, e, ?_⟩
      have q := x.cell y c e
      rw [bindC_get ndP hp hu (by show scope.names.lookup y ≠ _; rw [k]; decide)] at q
      exact q
  · exact e0.hok.fresh (Nat.le_of_lt (x.above y c (PySem.mem_of_lookup h)))
  · unfold start
    show _ = N.length
    rw [List.length_append, List.length_map, List.length_replicate]
    omega

/-- THE RULE: a def (or a method) of the text, by its body. The body's reading t is chosen for each entry; it is run at the parameters' values -/
theorem fn_of {CX : CXT} {P : Program} {w : World} {K : PySem.W.Frag} {mg : Str → Option Value} {base : Heap} {k : Nat} {f : Addr} {name qual : Str} {params : Arguments} {body : List Stmt} {scope : Scope} {dV kV doc pm cdv ct oc : Value} {an od : Option Addr}
    {osl : Array (Option Value)} {N ps : List Str} {sp : Sp} (lk : K.lookup f = some ⟨oc, od, .func (PySem.W.fnOf name qual params body scope dV kV doc pm an cdv ct), osl⟩) (hcd : PySem.W.codeIn K cdv qual = true) (S : FnScope N ps scope)
    (len : ∀ vs H Q E, sp vs H Q E → vs.length = ps.length)
    (hbody : ∀ (A : Around) (outer : List Env) (s : Shared) (H : Hp) (vs : List V) (Q : VK) (E : XK), Room k (A.deeper (envOfC qual scope s.heap.objs.size f cdv)) → sp vs H Q E →
      ∃ t, PSs (cxOf CX P w K mg base N qual scope f cdv A outer s H E) body t ∧ t { nx := fun _ H' => Q .non H', rt := Q } (start N vs) H) :
    FnOk P w K mg base CX (k + 1) f (PySem.W.fnOf name qual params body scope dV kV doc pm an cdv ct) ps sp := by
  refine ⟨len, fun A outer s H args us vs Q E hr e0 hb r hsp => ?_⟩
  have hl := len _ _ _ _ hsp
  have KX : K.In s.heap := e0.mod.kin.keeps fun b o e => (e0.bs b o e).1
  have lim : s.heap.NoLimit := e0.mod.nolimit.keeps fun b o e => (e0.bs b o e).1
  have hkind : ∀ y ∈ ps.zip us, scope.names.lookup y.1 = some .local ∨ (scope.names.lookup y.1 = some .cell ∧ ((cellsFrom (s.heap.objs.size + 1) scope.names []).lookup y.1).isSome = true) := fun ⟨n, v⟩ hy => by
    rcases S.par n (List.of_mem_zip hy).1 with q | q
    · exact .inl q
    · exact .inr ⟨q, PySem.W.cellsFrom_some _ _ _ (.inl q)⟩
  refine codeAny_call_function hr.depth (KX _ _ lk) rfl S.co S.gen rfl (PySem.W.codeRec_of KX hcd) (hb _ _ _ _ ?_)
  refine wpAny_newFunctionEnv_cells S.kind hkind fun env he s1 x => ?_
  subst he
  refine ⟨lim.keeps x.toInCall.keep, codeAny_func ?_⟩
  obtain ⟨t, ht, hq⟩ := hbody A outer s H vs Q E (hr.deeper _) hsp
  have I : Inv (cxOf CX P w K mg base N qual scope f cdv A outer s H E) [] (start N vs) H s1 := inv_start S hr.hd e0 hl r x
  refine wpAny_mono (ht [] s1 (start N vs) H _ I hq) (fun fl s' hs => ?_) fun e s' hs => hs
  have fin : ∀ {σ' : St} {H' : Hp} {v : V} {u : Value}, Inv (cxOf CX P w K mg base N qual scope f cdv A outer s H E) [] σ' H' s' → RelV v u → Q v H' → CE outer P w H s Q u s' :=
    fun {σ' H' v u} J rv q => ⟨v, H', J.os, J.bare, J.base, J.hok, rv, q⟩
  cases fl with
  | ret u =>
    obtain ⟨v, σ', H', J, rv, q⟩ := hs
    exact fin J rv q
  | next =>
    obtain ⟨σ', H', J, q⟩ := hs
    exact fin (v := V.non) (u := Value.none) J rfl q
  | brk =>
    obtain ⟨_, _, _, q⟩ := hs
    exact False.elim q
  | cont =>
    obtain ⟨_, _, _, q⟩ := hs
    exact False.elim q
end L2

namespace L2
open PySem PySem.Spec PyProof.Rows
section
variable {X : Cx} {x : Str} {p pos : Pos} {e : Expr} {es : List Expr} {t : TA} {id T : String} {r : List V → Hp → VK → Prop}

def tCB (r : List V → Hp → VK → Prop) (t : TA) : TE := fun σ H Q => t σ H fun vs H1 => r vs H1 Q
/-- f(e, ..), f a built-in function -/
theorem pe_callB (hc : CallR X (.builtin id) r) (hg : Gl X x) (hm : X.mg x = none) (hv : bootBuiltins x = some (.builtin id)) (ha : PA X (e :: es) t) (hn : x ≠ "__name__" := by decide) (hdb : (x == ("__debug__" : Str)) = false := by decide)
    (he : starEach (e :: es) X.env = (false, eval e X.env) :: starEach es X.env := by rfl) (hpl : (backTo pos (starEach es X.env)).any (·.1) = false := by rfl) : PE X (.Call (.Name x p) (e :: es) [] pos) (tCB r t) := by
  intro pins s σ H Q I h
  refine wpAny_Call_Name_kw (ld_blt I hg hm hv ?_ hn hdb)
  exact PyProof.Rows.callWith_builtin1 (thn (ha pos pins s σ H _ I h) fun us s1 ⟨vs, H1, I1, r1, q1⟩ => hc pins s1 σ H1 vs us Q I1 r1 q1) he hpl
/-- T(e, ..), T a built-in type -/
theorem pe_callTy (hc : CallR X (.type T) r) (hg : Gl X x) (hm : X.mg x = none) (hv : bootBuiltins x = some (.type T)) (ha : PA X (e :: es) t) (hn : x ≠ "__name__" := by decide) (hdb : (x == ("__debug__" : Str)) = false := by decide)
    (he : starEach (e :: es) X.env = (false, eval e X.env) :: starEach es X.env := by rfl) (hpl : (backTo pos (starEach es X.env)).any (·.1) = false := by rfl) : PE X (.Call (.Name x p) (e :: es) [] pos) (tCB r t) := by
  intro pins s σ H Q I h
  refine wpAny_Call_Name_kw (ld_blt I hg hm hv ?_ hn hdb)
  exact PyProof.Rows.callWith_type1 (thn (ha pos pins s σ H _ I h) fun us s1 ⟨vs, H1, I1, r1, q1⟩ => hc pins s1 σ H1 vs us Q I1 r1 q1) he hpl
/-- T() -/
theorem pe_callTy0 (hc : CallR X (.type T) r) (hg : Gl X x) (hm : X.mg x = none) (hv : bootBuiltins x = some (.type T)) (hn : x ≠ "__name__" := by decide) (hdb : (x == ("__debug__" : Str)) = false := by decide) :
    PE X (.Call (.Name x p) [] [] pos) (tCB r tNil) := by
  intro pins s σ H Q I h
  refine wpAny_Call_Name_kw (ld_blt I hg hm hv ?_ hn hdb)
  exact PyProof.Rows.callWith_type0 (hc pins s σ H [] [] Q I .nil h)
end
end L2

namespace HT
open PySem PyProof.Rows

/-- t < u of tuples of ints -/
def lexLt : List Int → List Int → Bool
  | [], [] => false
  | [], _ :: _ => true
  | _ :: _, [] => false
  | x :: xs, y :: ys => if x = y then lexLt xs ys else decide (x < y)
theorem lexLt_cons (x y : Int) (xs ys : List Int) : lexLt (x :: xs) (y :: ys) = if x = y then lexLt xs ys else decide (x < y) := rfl
theorem lexLt_nil_nil : lexLt [] [] = false := rfl
theorem lexLt_nil_cons (y : Int) (ys : List Int) : lexLt [] (y :: ys) = true := rfl
theorem lexLt_cons_nil (x : Int) (xs : List Int) : lexLt (x :: xs) [] = false := rfl

theorem eqAt_int (A : Around) (s : Shared) (a : Int) (t : Tok) (c : Int) (u : Tok) : ∃ e, SeqAt.EqAt A s (.int a t) (.int c u) e ∧ (e = true ↔ a = c) :=
  ⟨(a == c), SeqAt.EqAt.int_int a t c u, by simp⟩
theorem rcLt_int (A : Around) (s : Shared) (a : Int) (t : Tok) (c : Int) (u : Tok) (prog : Program) (w : World) (E : Value → Shared → Prop) (Q : Value → Shared → Prop) (h : Q (.bool (decide (a < c))) s) :
    wpAny (model prog w) A (richCompare .Lt (.int a t) (.int c u)) Q E s :=
  (PyProof.Rows.lt_int h : wpAny (model prog w) A (compareOp .Lt (.int a t) (.int c u)) Q E s)

section
open PySem.SeqAt
open PySem.AutoSeq1 (wpAny_loadPart')
open PySem.MeetsSeq PySem.MeetsSeq2 PySem.MeetsSeq3

theorem tuple_lt_ints (l b : Addr) (items items2 : Array Value) (n n2 : Nat) (dd dd2 : Option Addr) (sl sl2 : Array (Option Value)) (ns ms : List Int) (hi : IntsAre items.toList ns) (hj : IntsAre items2.toList ms) :
    Meets (Builtin.«tuple.__lt__» ⟨[.ref l, .ref b], []⟩)
      (fun _ R s => s.heap.get? l = some { cls := .type "tuple", dict := dd, data := .seq items n, slots := sl } ∧ s.heap.get? b = some { cls := .type "tuple", dict := dd2, data := .seq items2 n2, slots := sl2 } ∧
        R (.ok (.ret (.bool (lexLt ns ms)))) s) :=
  .of_wp fun prog w A R s h => by
    obtain ⟨hp, g, d, tk, os⟩ := s; obtain ⟨hl, hb, h⟩ := h
    have f2 := AutoSeq1.sub_tuple_tuple
    have z1 : items.size = ns.length := by rw [← hi.length]; simp
    have z2 : items2.size = ms.length := by rw [← hj.length]; simp
    wp_walk using wpAny_loadPart' hl, wpAny_loadPart' hb, wpAny_forIn_list _ (fun rest b s' => b.1 = none ∧ s' = ⟨hp, g, d, tk, os⟩ ∧ ∃ (vs ws : List Value) (ns' ms' : List Int), rest = vs.zip ws ∧
      IntsAre vs ns' ∧ IntsAre ws ms' ∧ ns'.length + items2.size = ms'.length + items.size ∧ R (.ok (.ret (.bool (lexLt ns' ms')))) ⟨hp, g, d, tk, os⟩) _
    case turn =>
      rintro ⟨y, x⟩ rest b s' ⟨hb', rfl, vs, ws, ns', ms', hz, hvi, hwi, hlen, hR⟩
      cases hvi with
      | nil => rw [List.zip_nil_left] at hz; cases hz
      | cons a t hvi' =>
        cases hwi with
        | nil => rw [List.zip_nil_right] at hz; cases hz
        | cons c u hwi' =>
          rw [List.zip_cons_cons] at hz
          injection hz with hyx hrest
          injection hyx with hy hx
          subst hy hx
          rw [lexLt_cons] at hR
          simp only [List.length_cons] at hlen
          obtain ⟨e, he, hiff⟩ := eqAt_int A.in1 ⟨hp, g, d, tk, os⟩ a t c u
          refine wpAny_bind (he prog w _ _ ?_)
          cases e with
          | true =>
            rw [if_pos (hiff.mp rfl)] at hR
            wp_walk
            exact ⟨rfl, rfl, _, _, _, _, hrest, hvi', hwi', by omega, hR⟩
          | false =>
            rw [if_neg (fun q => absurd (hiff.mpr q) Bool.false_ne_true)] at hR
            have hri := rcLt_int A.in1 ⟨hp, g, d, tk, os⟩ a t c u prog w
            wp_walk using hri
            exact ⟨_, rfl, by simpa using hR⟩
    case fin =>
      rintro ⟨b1, b2⟩ s' ⟨hb', rfl, vs, ws, ns', ms', hz, hvi, hwi, hlen, hR⟩
      simp only at hb'
      subst hb'
      have hv : lexLt ns' ms' = decide (items.size < items2.size) := by
        cases hvi with
        | nil =>
          cases hwi with
          | nil =>
            simp only [List.length_nil] at hlen
            rw [lexLt_nil_nil]
            exact (decide_eq_false (by omega)).symm
          | cons c u hw =>
            simp only [List.length_nil, List.length_cons] at hlen
            rw [lexLt_nil_cons]
            exact (decide_eq_true (by omega)).symm
        | cons a t hv =>
          cases hwi with
          | nil =>
            simp only [List.length_nil, List.length_cons] at hlen
            rw [lexLt_cons_nil]
            exact (decide_eq_false (by omega)).symm
          | cons c u hw =>
            rw [List.zip_cons_cons] at hz
            cases hz
      rw [hv] at hR
      wp_walk
      exact ⟨_, rfl, by simpa [Builtin.Tuple.tupleCompareSizes] using hR⟩
    case h =>
      exact ⟨rfl, rfl, items.toList, items2.toList, ns, ms, rfl, hi, hj, by omega, h⟩
end

section
variable {prog : Program} {w : World} {A : Around} {E : Value → Shared → Prop} {s : Shared}

theorem lt_tupInts {l b : Addr} {items items2 : Array Value} {ns ms : List Int} {Q : Value → Shared → Prop} (hl : IsTup s.heap l items) (hb : IsTup s.heap b items2) (hi : IntsAre items.toList ns) (hj : IntsAre items2.toList ms)
    (hu : A.units < cLine) (h : Q (.bool (lexLt ns ms)) s) : wpAny (model prog w) A (compareOp .Lt (.ref l) (.ref b)) Q E s := by
  obtain ⟨⟨cls, dd, data, sl⟩, ho, hc, n, hd⟩ := id hl
  obtain ⟨⟨cls2, dd2, data2, sl2⟩, ho2, hc2, n2, hd2⟩ := id hb
  simp only at hc hd hc2 hd2
  subst hc hd hc2 hd2
  exact richCompare_meets_room (op := .Lt) ⟨_, ho, rfl⟩ ⟨_, ho2, rfl⟩ PySem.F.slot_tuple_lt PySem.F.entry_tuple_lt (PySem.F.args_tuple_lt_2 _ _) (tuple_lt_ints l b items items2 n n2 dd dd2 sl sl2 ns ms hi hj)
    ⟨ho, ho2, show Value.bool (lexLt ns ms) ≠ Value.notImplemented ∧ Q (.bool (lexLt ns ms)) s from ⟨(fun x => nomatch x), h⟩⟩ hu

/-- t + u, t not empty -/
theorem cat_tup {t b : Addr} {vs ws : List Value} {Q : Value → Shared → Prop} (ht : IsTup s.heap t vs.toArray) (hb : IsTup s.heap b ws.toArray) (hv : vs ≠ [])
    (h1 : ws = [] → Q (.ref t) s) (h2 : ws ≠ [] → Q (.ref s.heap.objs.size) { s with heap := s.heap.push { cls := .type "tuple", data := .seq (vs ++ ws).toArray } })
    (hsz : vs.length + ws.length ≤ sizeLine) : wpAny (model prog w) A (binaryOp .Add (.ref t) (.ref b)) Q E s := by
  obtain ⟨⟨cls, dd, data, sl⟩, ho, hc, n, hd⟩ := id ht
  obtain ⟨⟨cls2, dd2, data2, sl2⟩, ho2, hc2, n2, hd2⟩ := id hb
  simp only at hc hd hc2 hd2
  subst hc hd hc2 hd2
  have e : vs.toArray ++ ws.toArray = (vs ++ ws).toArray := by simp
  by_cases hw : ws = []
  · exact concat_meets ⟨_, ho, rfl⟩ ⟨_, ho2, rfl⟩ noFill_tuple_add seq_tuple_add PySem.F.slot_tuple_add PySem.F.entry_tuple_add (PySem.F.args_tuple_add_2 _ _)
      (tuple_addW1 t b vs.toArray ws.toArray n n2 dd dd2 sl sl2 (by simpa using hv) (by simp [hw])) ⟨ho, ho2, h1 hw⟩
  · refine concat_meets ⟨_, ho, rfl⟩ ⟨_, ho2, rfl⟩ noFill_tuple_add seq_tuple_add PySem.F.slot_tuple_add PySem.F.entry_tuple_add (PySem.F.args_tuple_add_2 _ _)
      (tuple_addW2 t b vs.toArray ws.toArray n n2 dd dd2 sl sl2 (by simpa using hv) (by simpa using hw) (by rw [List.size_toArray, List.size_toArray]; exact hsz)) ⟨ho, ho2, ?_⟩
    rw [e]
    exact h2 hw

/-! ### t[a:b], not the whole -/
/-- a slice's bound as a place among n (d where it is left out) -/
def sIx (n d : Nat) : Option Int → Nat
  | none => d
  | some v => if v < 0 then (v + (n : Int)).toNat else min v.toNat n
theorem sIx_none (n d : Nat) : sIx n d none = d := rfl
theorem sIx_nat (n d k : Nat) : sIx n d (some (k : Int)) = min k n := by
  show (if (k : Int) < 0 then ((k : Int) + (n : Int)).toNat else min (k : Int).toNat n) = min k n
  rw [if_neg (by omega), Int.toNat_natCast]
theorem sIx_le (n d : Nat) (hd : d ≤ n) (o : Option Int) : sIx n d o ≤ n := by
  cases o with
  | none => exact hd
  | some v =>
    show (if v < 0 then (v + (n : Int)).toNat else min v.toNat n) ≤ n
    by_cases hv : v < 0
    · rw [if_pos hv]; omega
    · rw [if_neg hv]; exact Nat.min_le_right _ _
theorem clip_eq (v : Int) (n d : Nat) : (if v < 0 then max (v + (n : Int)) 0 else min v (n : Int)) = ((sIx n d (some v) : Nat) : Int) := by
  show (if v < 0 then max (v + (n : Int)) 0 else min v (n : Int)) = (((if v < 0 then (v + (n : Int)).toNat else min v.toNat n) : Nat) : Int)
  by_cases hv : v < 0
  · simp only [if_pos hv]; omega
  · simp only [if_neg hv]; omega
theorem adjust_gen (lo hi : Option Int) (n : Nat) : Builtin.Slice.sliceAdjust lo hi 1 (n : Int) = (((sIx n 0 lo : Nat) : Int), ((sIx n n hi : Nat) : Int)) := by
  have h1 : ¬ ((1 : Int) < 0) := by omega
  unfold Builtin.Slice.sliceAdjust
  simp only [h1, if_false]
  refine Prod.ext ?_ ?_
  · cases lo with
    | none => rfl
    | some v => exact clip_eq v n 0
  · cases hi with
    | none => rfl
    | some v => exact clip_eq v n n
theorem places_gen (i j : Nat) : Builtin.Slice.slicePlaces (i : Int) (j : Int) 1 = j - i := by
  unfold Builtin.Slice.slicePlaces
  have h1 : (1 : Int) > 0 := by omega
  simp only [h1, if_true, Int.ediv_one]
  split <;> omega
theorem slicePart_ {v : Value} {o : Option Int} {Q : Option Int → Shared → Prop} (p : IsPart v o) (h : Q o s) : wpAny (model prog w) A (Builtin.Slice.slicePartIndex v) Q E s := by
  cases p with
  | none => exact slicePart_none h
  | int i t => exact slicePart_int h
theorem sliceApplied_gen {sl : Addr} {vl vu : Value} {lo hi : Option Int} {n : Nat} {Q : Int × Int × Nat → Shared → Prop} (hs : s.heap.IsSliceOf sl vl vu .none) (pl : IsPart vl lo) (pu : IsPart vu hi)
    (h : Q (((sIx n 0 lo : Nat) : Int), 1, sIx n n hi - sIx n 0 lo) s) : wpAny (model prog w) A (Builtin.Slice.sliceApplied (.ref sl) (pure (n : Int))) Q E s := by
  obtain ⟨os, hos, hcs, hds⟩ := id hs
  unfold Builtin.Slice.sliceApplied Builtin.Slice.sliceFields
  refine wpAny_bind (wpAny_bind (wpAny_field hos hds (x := vl) rfl (wpAny_bind (wpAny_field hos hds (x := vu) rfl (wpAny_bind (wpAny_field hos hds (x := .none) rfl (wpAny_pure ?_)))))))
  refine wpAny_bind (slicePart_none ?_)
  show wpAny _ _ (if ((1 : Int) == 0) = true then _ else _) _ _ s
  rw [if_neg (by decide)]
  refine wpAny_bind (slicePart_ pl (wpAny_bind (slicePart_ pu (wpAny_bind (wpAny_pure ?_)))))
  show wpAny _ _ (match Builtin.Slice.sliceAdjust lo hi 1 (n : Int) with | (lo, hi) => pure (lo, (1 : Int), Builtin.Slice.slicePlaces lo hi 1)) _ _ s
  rw [adjust_gen lo hi n]
  show wpAny _ _ (pure (((sIx n 0 lo : Nat) : Int), (1 : Int), Builtin.Slice.slicePlaces ((sIx n 0 lo : Nat) : Int) ((sIx n n hi : Nat) : Int) 1)) _ _ s
  rw [places_gen]
  exact wpAny_pure h
theorem pick_gen (xs : Array Value) (i k : Nat) : ((List.range k).filterMap fun (m : Nat) => xs[((i : Int) + (m : Int) * 1).toNat]?).toArray = ((xs.toList.drop i).take k).toArray := by
  have e : (fun (m : Nat) => xs[((i : Int) + (m : Int) * 1).toNat]?) = fun m => xs[i + m]? := by
    funext m
    have : ((i : Int) + (m : Int) * 1).toNat = i + m := by omega
    rw [this]
  rw [e]
  have := pick_run xs i k
  rw [List.filterMap_map] at this
  have e2 : ((fun x => xs[x]?) ∘ fun x => i + x) = fun m => xs[i + m]? := rfl
  rw [e2] at this
  rw [this]

theorem getItem_tuple_cut {t sl : Addr} {items : Array Value} {vl vu : Value} {lo hi : Option Int} {Q : Value → Shared → Prop} (ht : IsTup s.heap t items) (hs : s.heap.IsSliceOf sl vl vu .none) (pl : IsPart vl lo) (pu : IsPart vu hi)
    (hw : ¬ (sIx items.size 0 lo = 0 ∧ sIx items.size items.size hi = items.size))
    (h : Q (.ref s.heap.objs.size) { s with heap := s.heap.push { cls := .type "tuple", data := .seq ((items.toList.drop (sIx items.size 0 lo)).take (sIx items.size items.size hi - sIx items.size 0 lo)).toArray } })
    (hsz : items.size ≤ sizeLine) : wpAny (model prog w) A (getItem (.ref t) (.ref sl)) Q E s := by
  have htake : sizeOk (.seq ((items.toList.drop (sIx items.size 0 lo)).take (sIx items.size items.size hi - sIx items.size 0 lo)).toArray) := by
    show ((items.toList.drop (sIx items.size 0 lo)).take (sIx items.size items.size hi - sIx items.size 0 lo)).toArray.size ≤ sizeLine
    rw [List.size_toArray, List.length_take, List.length_drop, Array.length_toList]
    omega
  have hj : sIx items.size items.size hi ≤ items.size := sIx_le _ _ (Nat.le_refl _) hi
  obtain ⟨os, hos, hcs, hds⟩ := id hs
  have hTs : s.TypeIs (.ref sl) "slice" := ⟨os, hos, hcs⟩
  unfold getItem
  try with_reducible refine wpAny_holding ?_
  first | refine wpAny_bind (wpAny_pure ?_) | skip
  refine wpAny_bind (wpAny_sequenceKey ht.typeIs (by decide) ?_)
  refine wpAny_bind (wpAny_callSpecial?_slot (name := Str.ofString "__getitem__") ht.typeIs PyProof.Rows.slot_tuple_getitem
    (wpAny_call_entry PyProof.Rows.slot_tuple_getitem ht.typeIs entry_tuple_getitem ?_ (args_tuple_getitem _ _)))
  show wpAny _ _ (Builtin.Tuple.tupleItemsOf (.ref t) >>= _) _ _ s
  refine wpAny_bind (tupleItemsOf_ ht ?_)
  refine wpAny_bind (wpAny_typeOf hTs ?_)
  rw [if_pos (by decide)]
  refine wpAny_bind (sliceApplied_gen hs pl pu ?_)
  have hno : ¬ ((((sIx items.size 0 lo : Nat) : Int) == 0 && (1 : Int) == 1 && (sIx items.size items.size hi - sIx items.size 0 lo) == items.size) = true) := by
    intro q
    rw [Bool.and_eq_true, Bool.and_eq_true] at q
    have q1 : ((sIx items.size 0 lo : Nat) : Int) = 0 := eq_of_beq q.1.1
    have q2 : sIx items.size items.size hi - sIx items.size 0 lo = items.size := eq_of_beq q.2
    exact hw ⟨by omega, by omega⟩
  show wpAny _ _ (if (((sIx items.size 0 lo : Nat) : Int) == 0 && (1 : Int) == 1 && (sIx items.size items.size hi - sIx items.size 0 lo) == items.size) = true then _ else _) _ _ s
  rw [if_neg hno, pick_gen]
  first
    | exact wpAny_bind (m := Builtin.Tuple.tupleExact _) (wpAny_newObj_type (wpAny_pure ⟨_, rfl, wpAny_pure h⟩) htake)
    | exact wpAny_bind (m := Builtin.Tuple.tupleExact _) (wpAny_newObj_type (wpAny_bind (wpAny_pure (wpAny_pure ⟨_, rfl, wpAny_pure h⟩))) htake)
    | exact wpAny_bind (wpAny_bind (m := Builtin.Tuple.tupleExact _) (wpAny_newObj_type (wpAny_pure (wpAny_pure ⟨_, rfl, wpAny_pure h⟩)) htake))
    | exact wpAny_bind (wpAny_bind (m := Builtin.Tuple.tupleExact _) (wpAny_newObj_type (wpAny_pure ⟨_, rfl, wpAny_pure h⟩) htake))
end
end HT

namespace L2
open PySem PySem.Spec PyProof.Rows

/-! ### the parts of a slice -/
abbrev TO := St → Hp → (Option Int → Hp → Prop) → Prop
/-- a slice's part (left out, or an int) -/
def PO (X : Cx) (e : Option Expr) (t : TO) : Prop :=
  ∀ (pins : List (Addr × Obj)) (s : Shared) (σ : St) (H : Hp) (Q : Option Int → Hp → Prop), Inv X pins σ H s → t σ H Q →
    wpAny (model X.prog X.w) X.A (evalPart e X.env) (fun u s' => ∃ o H', Inv X pins σ H' s' ∧ IsPart u o ∧ Q o H') X.xe s
def tNoPart : TO := fun _ H Q => Q none H
def tPart (t : TE) : TO := fun σ H Q => t σ H fun x H1 => ∃ i, x = .int i ∧ Q (some i) H1

theorem intsAre_of {ns : List Int} : ∀ {us : List Value}, Vals (ns.map V.int) us → IntsAre us ns := by
  induction ns with
  | nil => intro us r; rw [List.map_nil] at r; cases r; exact .nil
  | cons n ns ih =>
    intro us r
    rw [List.map_cons] at r
    cases r with
    | cons r1 r2 =>
      obtain ⟨t, e⟩ := r1
      subst e
      exact .cons n t (ih r2)

section
variable {X : Cx} {e : Expr} {te : TE} {lo hi : Option Expr} {tl th : TO} {pos p2 : Pos}

theorem po_none : PO X none tNoPart := by
  intro pins s σ H Q I h
  rw [evalPart_none]
  exact wpAny_pure ⟨none, H, I, .none, h⟩
theorem po_some (h : PE X e te) : PO X (some e) (tPart te) := by
  intro pins s σ H Q I hw
  rw [evalPart_some]
  refine thn (h pins s σ H _ I hw) fun u s1 ⟨x, H1, I1, r1, q1⟩ => ?_
  obtain ⟨i, rfl, q⟩ := q1
  obtain ⟨t, rfl⟩ := r1
  exact ⟨some i, H1, I1, .int i t, q⟩

/-- what a slice of a value is, by values: the slice object stands at sl -/
def SlR (X : Cx) (r : V → Option Int → Option Int → Hp → VK → Prop) : Prop :=
  ∀ (pins : List (Addr × Obj)) (s : Shared) (σ : St) (H : Hp) (x : V) (v vl vu : Value) (lo hi : Option Int) (sl : Addr) (Q : VK), Inv X pins σ H s → RelV x v → s.heap.IsSliceOf sl vl vu .none → IsPart vl lo → IsPart vu hi → r x lo hi H Q →
    ∃ T id, typeLookup (.type T) "__getitem__" = pure (some (.builtin id)) ∧ s.TypeIs v T ∧ wpAny (model X.prog X.w) X.A (getItem v (.ref sl)) (EP X pins σ Q) X.xe s
theorem SlR.or {r r' : V → Option Int → Option Int → Hp → VK → Prop} (h : SlR X r) (h' : SlR X r') : SlR X (fun x lo hi H Q => r x lo hi H Q ∨ r' x lo hi H Q) := by
  intro pins s σ H x v vl vu lo hi sl Q I rx hs pl pu q
  rcases q with q | q
  · exact h pins s σ H x v vl vu lo hi sl Q I rx hs pl pu q
  · exact h' pins s σ H x v vl vu lo hi sl Q I rx hs pl pu q
def tSl (r : V → Option Int → Option Int → Hp → VK → Prop) (te : TE) (tl th : TO) : TE := fun σ H Q => te σ H fun x H1 => tl σ H1 fun l H2 => th σ H2 fun u H3 => r x l u H3 Q
/-- a[lo:hi], any a -/
theorem pe_slice {r : V → Option Int → Option Int → Hp → VK → Prop} (hr : SlR X r) (he : PE X e te) (hl : PO X lo tl) (hu : PO X hi th) : PE X (.Subscript e (.Slice lo hi none p2) pos) (tSl r te tl th) := by
  intro pins s σ H Q I h
  refine Subscript_ (thn (he pins s σ H _ I h) fun v s1 ⟨x, H1, I1, r1, q1⟩ => ?_)
  refine wpAny_Slice (thn (hl pins s1 σ H1 _ I1 q1) fun vl s2 ⟨l, H2, I2, pl, q2⟩ => thn (hu pins s2 σ H2 _ I2 q2) fun vu s3 ⟨u, H3, I3, pu, q3⟩ => ?_)
  rw [evalPart_none]
  refine wpAny_pure ?_
  have I4 : Inv X pins σ H3 { s3 with heap := s3.heap.push { cls := .type "slice", data := .fields #[vl, vu, .none] } } := I3.kept (t' := s3.toks) fun b ob q => Heap.get?_push_of_some _ q
  obtain ⟨T, id, hT, ht, hg⟩ := hr pins { s3 with heap := s3.heap.push { cls := .type "slice", data := .fields #[vl, vu, .none] } } σ H3 x v vl vu l u s3.heap.objs.size Q I4 r1 (Heap.IsSliceOf.new ..) pl pu q3
  show wpAny (model X.prog X.w) X.A (subscriptTail e (.Slice lo hi none p2) v (.ref s3.heap.objs.size)) (EP X pins σ Q) X.xe { s3 with heap := s3.heap.push { cls := .type "slice", data := .fields #[vl, vu, .none] } }
  exact tail_any (ops := [.ref s3.heap.objs.size, v]) ht hT hg (by with_unfolding_all rfl)

/-- the items of xs[lo:hi] -/
def cutV (xs : List V) (lo hi : Option Int) : List V := (xs.drop (HT.sIx xs.length 0 lo)).take (HT.sIx xs.length xs.length hi - HT.sIx xs.length 0 lo)
theorem cutV_length (xs : List V) (lo hi : Option Int) : (cutV xs lo hi).length ≤ xs.length := by
  unfold cutV
  rw [List.length_take, List.length_drop]
  omega
/-- t[lo:hi], not the whole of it (the whole would be t itself) -/
def rSlT (K : PySem.W.Frag) : V → Option Int → Option Int → Hp → VK → Prop := fun x lo hi H Q => ∃ a xs, x = .ref a ∧ SqT K H a xs ∧
  ¬ (HT.sIx xs.length 0 lo = 0 ∧ HT.sIx xs.length xs.length hi = xs.length) ∧ ∀ p, H p = none → Q (.ref p) (upd H p (.tup (cutV xs lo hi)))
theorem sl_tup : SlR X (rSlT X.K) := by
  intro pins s σ H x v vl vu lo hi sl Q I rx hs pl pu h
  obtain ⟨a, xs, rfl, hx, hw, q⟩ := h
  cases rx
  obtain ⟨its, r, ht, hz⟩ := I.tuple hx
  have hlen : its.toArray.size = xs.length := by rw [List.size_toArray]; exact r.length.symm
  refine ⟨"tuple", _, PyProof.Rows.slot_tuple_getitem.lookup, ht.typeIs, ?_⟩
  refine HT.getItem_tuple_cut ht hs pl pu (by rw [hlen]; exact hw) ?_ (by rw [hlen]; exact hz)
  rw [hlen]
  refine ⟨.ref s.heap.objs.size, _, I.laid (t' := s.toks) (o := .tup (cutV xs lo hi)) (fun b ob q => Heap.get?_push_of_some _ q) (Nat.le_refl _) ?_, rfl, q _ (I.hok.fresh (Nat.le_refl _))⟩
  exact ⟨Nat.le_trans (cutV_length xs lo hi) hz, _, (r.drop (HT.sIx xs.length 0 lo)).take (HT.sIx xs.length xs.length hi - HT.sIx xs.length 0 lo), IsTup.new _ _⟩

/-! ### t < u, t + u -/
def rLtT (K : PySem.W.Frag) : R2 := fun x y H Q => ∃ a b ns ms, x = .ref a ∧ y = .ref b ∧ SqT K H a (ns.map V.int) ∧ SqT K H b (ms.map V.int) ∧ Q (.bl (HT.lexLt ns ms)) H
theorem op_ltT (hu : X.A.units < cLine) : OpR X (compareOp .Lt) (rLtT X.K) := by
  intro pins s σ H x y v u Q I rx ry h
  obtain ⟨a, b, ns, ms, rfl, rfl, ha, hb, q⟩ := h
  cases rx
  cases ry
  obtain ⟨its, r1, p1, _⟩ := I.tuple ha
  obtain ⟨its2, r2, p2, _⟩ := I.tuple hb
  have i1 : IntsAre its.toArray.toList ns := intsAre_of r1
  have i2 : IntsAre its2.toArray.toList ms := intsAre_of r2
  exact HT.lt_tupInts p1 p2 i1 i2 hu ⟨.bl (HT.lexLt ns ms), H, I, rfl, q⟩
/-- t + u, t not empty: u empty gives t itself -/
def rCatT (K : PySem.W.Frag) : R2 := fun x y H Q => ∃ a b xs ys, x = .ref a ∧ y = .ref b ∧ SqT K H a xs ∧ SqT K H b ys ∧ xs ≠ [] ∧ xs.length + ys.length ≤ sizeLine ∧
  (ys = [] → Q (.ref a) H) ∧ (ys ≠ [] → ∀ p, H p = none → Q (.ref p) (upd H p (.tup (xs ++ ys))))
theorem Vals.nil_iff {xs : List V} {us : List Value} (r : Vals xs us) : us = [] ↔ xs = [] := by
  cases r with
  | nil => simp
  | cons _ _ => simp
theorem op_catT : OpR X (binaryOp .Add) (rCatT X.K) := by
  intro pins s σ H x y v u Q I rx ry h
  obtain ⟨a, b, xs, ys, rfl, rfl, ha, hb, hx, hz, q1, q2⟩ := h
  cases rx
  cases ry
  obtain ⟨its, r1, p1, _⟩ := I.tuple ha
  obtain ⟨its2, r2, p2, _⟩ := I.tuple hb
  refine HT.cat_tup p1 p2 (fun z => hx (r1.nil_iff.mp z)) (fun z => ⟨.ref a, H, I, rfl, q1 (r2.nil_iff.mp z)⟩) (fun z => ?_) (by rw [← r1.length, ← r2.length]; exact hz)
  refine ⟨.ref s.heap.objs.size, _, I.laid (t' := s.toks) (o := .tup (xs ++ ys)) (fun b ob q => Heap.get?_push_of_some _ q) (Nat.le_refl _) ?_, rfl, q2 (fun w => z (r2.nil_iff.mpr w)) _ (I.hok.fresh (Nat.le_refl _))⟩
  exact ⟨by rw [List.length_append]; exact hz, _, r1.append r2, IsTup.new _ _⟩
/-- tuple(t) -/
theorem call_tupleT : CallR X (.type "tuple") (fun xs H Q => ∃ a ys, xs = [.ref a] ∧ SqT X.K H a ys ∧ Q (.ref a) H) := by
  intro pins s σ H xs us Q I r h
  obtain ⟨a, ys, rfl, ha, q⟩ := h
  obtain ⟨u, rfl, ru⟩ := vals1 r
  cases ru
  obtain ⟨its, _, p1, _⟩ := I.tuple ha
  exact call_tuple_same (items := its.toArray) p1 ⟨.ref a, H, I, rfl, q⟩
end
end L2

namespace L2
open PySem PySem.Spec PyProof.Rows

/-! ### places -/
/-- the place that an index of any sign means -/
def ixN (n : Nat) (i : Int) : Option Nat := if 0 ≤ i then (if i < n then some i.toNat else none) else if -(n : Int) ≤ i then some (i + n).toNat else none
def atI {α : Type} (xs : List α) (i : Int) : Option α := (ixN xs.length i).bind fun j => xs[j]?
theorem ixN_seq {n : Nat} {i : Int} {j : Nat} (h : ixN n i = some j) : seqIndex? i n = some j ∧ j < n ∧ -(n : Int) ≤ i ∧ i < n := by
  unfold ixN at h
  by_cases h0 : 0 ≤ i
  · rw [if_pos h0] at h
    by_cases h1 : i < n
    · rw [if_pos h1] at h
      have e : i.toNat = j := Option.some.inj h
      exact ⟨by rw [seqIndex_of h0 h1, e], by omega, by omega, h1⟩
    · rw [if_neg h1] at h; cases h
  · rw [if_neg h0] at h
    by_cases h1 : -(n : Int) ≤ i
    · rw [if_pos h1] at h
      have e : (i + n).toNat = j := Option.some.inj h
      exact ⟨by rw [seqIndex_neg (by omega) h1, e], by omega, h1, by omega⟩
    · rw [if_neg h1] at h; cases h
theorem atI_get {α : Type} {xs : List α} {i : Int} {v : α} (h : atI xs i = some v) : ∃ j, seqIndex? i xs.length = some j ∧ xs[j]? = some v ∧ j < xs.length ∧ -(xs.length : Int) ≤ i ∧ i < xs.length := by
  unfold atI at h
  cases e : ixN xs.length i with
  | none => rw [e] at h; cases h
  | some j =>
    rw [e] at h
    obtain ⟨h1, h2, h3, h4⟩ := ixN_seq e
    exact ⟨j, h1, h, h2, h3, h4⟩
theorem atI_nat {α : Type} {xs : List α} {j : Nat} {v : α} (h : xs[j]? = some v) : atI xs (j : Int) = some v := by
  have hj : j < xs.length := (List.getElem?_eq_some_iff.mp h).1
  have e : ixN xs.length (j : Int) = some j := by
    unfold ixN
    rw [if_pos (by omega), if_pos (by omega)]; simp
  unfold atI; rw [e]; exact h
theorem atI_last {α : Type} (xs : List α) (v : α) : atI (xs ++ [v]) (-1) = some v := by
  have hl : (xs ++ [v]).length = xs.length + 1 := by simp
  have e : ixN (xs ++ [v]).length (-1) = some xs.length := by
    unfold ixN
    rw [hl, if_neg (by decide), if_pos (by omega)]
    congr 1
    omega
  unfold atI
  rw [e]
  show (xs ++ [v])[xs.length]? = some v
  simp

/-! ### what may be subscripted -/
/-- what stands as an index of a plain subscript -/
def PlainIx (b : Expr) : Prop := ∀ o i, subscripted b false o i = operate [o, i] (getItem o i)
/-- a subscript by values -/
def IxR (X : Cx) (r : R2) : Prop :=
  ∀ (value slice : Expr) (pins : List (Addr × Obj)) (s : Shared) (σ : St) (H : Hp) (x y : V) (v u : Value) (Q : VK), Inv X pins σ H s → RelV x v → RelV y u → r x y H Q →
    subscripted slice false v u = operate [v, u] (getItem v u) → wpAny (model X.prog X.w) X.A (subscriptTail value slice v u) (EP X pins σ Q) X.xe s
/-- a call of a builtin's method by values: the receiver, the arguments -/
def MtR (X : Cx) (id : String) (r : V → List V → Hp → VK → Prop) : Prop :=
  ∀ (pins : List (Addr × Obj)) (s : Shared) (σ : St) (H : Hp) (x : V) (xs : List V) (v : Value) (us : List Value) (Q : VK), Inv X pins σ H s → RelV x v → Vals xs us → r x xs H Q →
    wpAny (model X.prog X.w) X.A (call (.builtin id) (v :: us)) (EP X pins σ Q) X.xe s
section
variable {X : Cx} {a b : Expr} {ta tb : TE} {pos : Pos}
theorem IxR.or {r r' : R2} (h : IxR X r) (h' : IxR X r') : IxR X (fun x y H Q => r x y H Q ∨ r' x y H Q) := by
  intro value slice pins s σ H x y v u Q I rx ry q hs
  rcases q with q | q
  · exact h value slice pins s σ H x y v u Q I rx ry q hs
  · exact h' value slice pins s σ H x y v u Q I rx ry q hs
theorem MtR.or {id : String} {r r' : V → List V → Hp → VK → Prop} (h : MtR X id r) (h' : MtR X id r') : MtR X id (fun x xs H Q => r x xs H Q ∨ r' x xs H Q) := by
  intro pins s σ H x xs v us Q I rx rs q
  rcases q with q | q
  · exact h pins s σ H x xs v us Q I rx rs q
  · exact h' pins s σ H x xs v us Q I rx rs q
/-- a[b] -/
theorem pe_ix {r : R2} (hr : IxR X r) (ha : PE X a ta) (hb : PE X b tb) (hs : PlainIx b) : PE X (.Subscript a b pos) (tOp r ta tb) := by
  intro pins s σ H Q I h
  exact Subscript_ (binT ha hb I h fun v u s2 x y H2 I2 rx ry q => hr a b pins s2 σ H2 x y v u Q I2 rx ry q (hs _ _))

def rIxL (K : PySem.W.Frag) : R2 := fun x y H Q => ∃ p xs i v, x = .ref p ∧ y = .int i ∧ SqL K H p xs ∧ atI xs i = some v ∧ Q v H
def rIxT (K : PySem.W.Frag) : R2 := fun x y H Q => ∃ p xs i v, x = .ref p ∧ y = .int i ∧ SqT K H p xs ∧ atI xs i = some v ∧ Q v H
def rIxS : R2 := fun x y H Q => ∃ z i c, x = .str z ∧ y = .int i ∧ z.length ≤ sizeLine ∧ atI z.cps.toList i = some c ∧ Q (.str ⟨#[c]⟩) H
theorem ix_list : IxR X (rIxL X.K) := by
  intro value slice pins s σ H x y v u Q I rx ry h hs
  obtain ⟨p, xs, i, z, rfl, rfl, hq, he, q⟩ := h
  cases rx
  obtain ⟨t, rfl⟩ := ry
  obtain ⟨its, r, pl, hz⟩ := I.list hq
  obtain ⟨j, h1, h2, h3, h4, h5⟩ := atI_get he
  obtain ⟨w, ew, rw'⟩ := r.get h2
  have hl := r.length
  have hn := line63
  have fin : EP X pins σ Q w s := ⟨z, H, I, rw', q⟩
  by_cases h0 : 0 ≤ i
  · have hj : i.toNat = j := by
      rw [seqIndex_of h0 h5] at h1
      exact Option.some.inj h1
    exact item_listR pl.isList h0 (by omega) (by rw [hj]; simpa using ew) fin hs
  · have hj : (i + (its.toArray.size : Int)).toNat = j := by
      rw [seqIndex_neg (by omega) h4] at h1
      rw [List.size_toArray, ← hl]
      exact Option.some.inj h1
    exact subscriptTail_builtinR (x := w) pl.isList.typeIs slot_list_getitem.lookup
      (wpAny_getItem_list_neg (Q := fun r s' => r = w ∧ EP X pins σ Q r s') pl.isList (by omega) (by rw [List.size_toArray] <;> omega) (by omega) (by rw [hj]; simpa using ew) ⟨rfl, fin⟩) hs
theorem ix_tup : IxR X (rIxT X.K) := by
  intro value slice pins s σ H x y v u Q I rx ry h hs
  obtain ⟨p, xs, i, z, rfl, rfl, hq, he, q⟩ := h
  cases rx
  obtain ⟨t, rfl⟩ := ry
  obtain ⟨its, r, pl, hz⟩ := I.tuple hq
  obtain ⟨j, h1, h2, h3, h4, h5⟩ := atI_get he
  obtain ⟨w, ew, rw'⟩ := r.get h2
  have hl := r.length
  have hn := line63
  have fin : EP X pins σ Q w s := ⟨z, H, I, rw', q⟩
  exact subscriptTail_builtinR (x := w) pl.typeIs slot_tuple_getitem.lookup
    (getItem_tuple (j := j) (Q := fun r s' => r = w ∧ EP X pins σ Q r s') pl (by omega) (by omega) (by rw [List.size_toArray, ← hl]; exact h1) (by simpa using ew) ⟨rfl, fin⟩) hs
theorem ix_str : IxR X rIxS := by
  intro value slice pins s σ H x y v u Q I rx ry h hs
  obtain ⟨z, i, c, rfl, rfl, hz, he, q⟩ := h
  obtain ⟨t, rfl⟩ := rx
  obtain ⟨t', rfl⟩ := ry
  obtain ⟨j, h1, h2, h3, h4, h5⟩ := atI_get he
  have hl : z.cps.toList.length = z.length := by simp [Str.length]
  rw [hl] at h1 h4 h5
  have hn := line63
  exact tail_any (typeIs_str s z t) slot_str_getitem.lookup (getItem_str (c := c) (by
    have e1 : decide (i < -(2 ^ 63 : Int)) = false := decide_eq_false (by omega)
    have e2 : decide (i ≥ 2 ^ 63) = false := decide_eq_false (by omega)
    rw [e1, e2, Bool.or_false]) (by rw [h1]; simpa using h2) ⟨.str ⟨#[c]⟩, H, I.tok _, ⟨_, rfl⟩, q⟩) hs
/-- list, tuple or str -/
def rIx (K : PySem.W.Frag) : R2 := fun x y H Q => rIxL K x y H Q ∨ rIxT K x y H Q ∨ rIxS x y H Q
theorem ix_seq : IxR X (rIx X.K) := ix_list.or (ix_tup.or ix_str)

/-! ### xs[i] = v, any sign -/
/-- the list's object behind a store -/
theorem mapSeq_set (its : List Value) (n j : Nat) (u : Value) : Obj.mapSeq (·.setIfInBounds j u) { cls := .type "list", data := .seq its.toArray n } = { cls := .type "list", data := .seq (its.set j u).toArray n } := by
  simp [Obj.mapSeq]
theorem Inv.lst {pins : List (Addr × Obj)} {σ : St} {H : Hp} {s : Shared} {p : Addr} {xs : List V} (I : Inv X pins σ H s) (h : H p = some (.lst xs)) :
    ∃ (its : List Value) (n : Nat), Vals xs its ∧ s.heap.get? p = some { cls := .type "list", data := .seq its.toArray n } ∧ xs.length ≤ sizeLine := by
  obtain ⟨z, its, n, r, e⟩ := I.hok p _ h
  exact ⟨its, n, r, e, z⟩
/-- the list at p is written by an update of its object -/
theorem Inv.lstUpd {pins : List (Addr × Obj)} {σ : St} {H : Hp} {s : Shared} {p : Addr} {xs ys : List V} {its its' : List Value} {n n' : Nat} {f : Obj → Obj} (I : Inv X pins σ H s) (h : H p = some (.lst xs))
    (ho : s.heap.get? p = some { cls := .type "list", data := .seq its.toArray n }) (hf : f { cls := .type "list", data := .seq its.toArray n } = { cls := .type "list", data := .seq its'.toArray n' }) (r : Vals ys its') (hz : ys.length ≤ sizeLine) (t : Nat) :
    Inv X pins σ (upd H p (.lst ys)) { s with heap := s.heap.update p f, toks := t } := by
  have e : (s.heap.update p f).get? p = some { cls := .type "list", data := .seq its'.toArray n' } := by
    rw [Heap.get?_update_self f ho (by rw [hf] <;> rfl), hf]
  refine I.write (x := p) (e := p) (by rw [h]; trivial) (.inl rfl) (fun b u hb q => (Heap.get?_update_other _ _ (Ne.symm hb)).trans q) ⟨_, e⟩ ?_
  exact ⟨hz, its', n', r, e⟩
def rSetL : V → V → V → Hp → (Hp → Prop) → Prop := fun o i v H Q => ∃ p xs k j, o = .ref p ∧ i = .int k ∧ H p = some (.lst xs) ∧ ixN xs.length k = some j ∧ Q (upd H p (.lst (xs.set j v)))
theorem set_list : PSet X rSetL := by
  intro pins s σ H o i v ov iv u Q I ro ri rv h
  obtain ⟨p, xs, k, j, rfl, rfl, hp, hj, q⟩ := h
  cases ro
  obtain ⟨t, rfl⟩ := ri
  obtain ⟨its, n, r, ho, hz⟩ := I.lst hp
  obtain ⟨h1, h2, h3, h4⟩ := ixN_seq hj
  have hl := r.length
  have hn := line63
  have I' : Inv X pins σ (upd H p (.lst (xs.set j v))) { s with heap := s.heap.update p (Obj.mapSeq (·.setIfInBounds j u)) } :=
    I.lstUpd hp ho (mapSeq_set its n j u) (r.set rv j) (by rw [List.length_set]; exact hz) s.toks
  by_cases h0 : 0 ≤ k
  · have hk : k.toNat = j := by
      rw [seqIndex_of h0 h4] at h1
      exact Option.some.inj h1
    exact PySem.W.ki_setAt ho h0 (by omega) (by rw [List.size_toArray, ← hl]; exact h4) (by rw [hk]; exact ⟨_, I', q⟩)
  · have hk : (k + (its.toArray.size : Int)).toNat = j := by
      rw [seqIndex_neg (by omega) h3] at h1
      rw [List.size_toArray, ← hl]
      exact Option.some.inj h1
    exact PySem.W.ki_setBack ho (by omega) (by rw [List.size_toArray, ← hl]; exact h3) (by omega) (by rw [hk]; exact ⟨_, I', q⟩)

/-! ### slices -/
theorem slice_bounds (lo hi : Option Int) (n : Nat) : (sliceBounds lo hi none n).1 = ((HT.sIx n 0 lo : Nat) : Int) ∧ (sliceBounds lo hi none n).2.1 = ((HT.sIx n n hi : Nat) : Int) ∧ (sliceBounds lo hi none n).2.2 = 1 := by
  refine ⟨?_, ?_, rfl⟩
  · cases lo with
    | none => simp [sliceBounds, HT.sIx]
    | some i =>
      simp only [sliceBounds, HT.sIx, Option.getD_none, show (1 : Int) > 0 by decide, if_true]
      by_cases h : i < 0
      · simp only [h, if_true] <;> omega
      · simp only [h, if_false] <;> omega
  · cases hi with
    | none => simp [sliceBounds, HT.sIx]
    | some i =>
      simp only [sliceBounds, HT.sIx, Option.getD_none, show (1 : Int) > 0 by decide, if_true]
      by_cases h : i < 0
      · simp only [h, if_true] <;> omega
      · simp only [h, if_false] <;> omega
theorem slicePick_cut (its : List Value) (lo hi : Option Int) : slicePick its.toArray lo hi none = ((its.drop (HT.sIx its.length 0 lo)).take (HT.sIx its.length its.length hi - HT.sIx its.length 0 lo)).toArray := by
  obtain ⟨h1, h2, h3⟩ := slice_bounds lo hi its.toArray.size
  unfold slicePick
  rw [h1, h2, h3]
  simp only [sliceRange_one, pick_run, List.size_toArray] <;> rfl
/-- xs[lo:hi] of a list: a new list -/
def rSlL (K : PySem.W.Frag) : V → Option Int → Option Int → Hp → VK → Prop := fun x lo hi H Q => ∃ a xs, x = .ref a ∧ SqL K H a xs ∧ ∀ p, H p = none → Q (.ref p) (upd H p (.lst (cutV xs lo hi)))
theorem sl_list : SlR X (rSlL X.K) := by
  intro pins s σ H x v vl vu lo hi sl Q I rx hs pl pu h
  obtain ⟨a, xs, rfl, hx, q⟩ := h
  cases rx
  obtain ⟨its, r, ht, hz⟩ := I.list hx
  have hlen := r.length
  refine ⟨"list", _, slot_list_getitem.lookup, ht.isList.typeIs, ?_⟩
  refine wpAny_getItem_list_slice ht.isList hs pl pu .none (by simp) ?_ (by rw [List.size_toArray] <;> omega)
  rw [slicePick_cut, ← hlen]
  refine ⟨.ref s.heap.objs.size, _, I.laid (t' := s.toks) (o := .lst (cutV xs lo hi)) (fun b ob q => Heap.get?_push_of_some _ q) (Nat.le_refl _) ?_, rfl, q _ (I.hok.fresh (Nat.le_refl _))⟩
  exact ⟨Nat.le_trans (cutV_length xs lo hi) hz, _, 0, (r.drop (HT.sIx xs.length 0 lo)).take (HT.sIx xs.length xs.length hi - HT.sIx xs.length 0 lo), Heap.get?_push_size _ rfl⟩

/-! ### in, not in: flat items -/
def flatV : V → Bool
  | .non => true
  | .bl _ => true
  | .int _ => true
  | .str _ => true
  | _ => false
/-- == of flat values -/
def eqV : V → V → Bool
  | .non, .non => true
  | .bl a, .bl b => a == b
  | .bl a, .int b => (if a then 1 else 0) == b
  | .int a, .bl b => a == (if b then 1 else 0)
  | .int a, .int b => a == b
  | .str a, .str b => a == b
  | _, _ => false
theorem eqAt_V {A : Around} {s : Shared} {y x : V} {u v : Value} (ry : RelV y u) (rx : RelV x v) (fy : flatV y = true) (fx : flatV x = true) : SeqAt.EqAt A s u v (eqV y x) := by
  cases y with
  | non =>
    cases ry
    cases x with
    | non => cases rx; exact SeqAt.EqAt.same _
    | bl b => cases rx; exact SeqAt.EqAt.none_bool b
    | int b => obtain ⟨t, rfl⟩ := rx; exact SeqAt.EqAt.none_int b t
    | str b => obtain ⟨t, rfl⟩ := rx; exact SeqAt.EqAt.none_str b t
    | _ => exact absurd (show false = true from fx) Bool.false_ne_true
  | bl a =>
    cases ry
    cases x with
    | non => cases rx; exact SeqAt.EqAt.bool_none a
    | bl b => cases rx; exact SeqAt.EqAt.bool_bool a b
    | int b => obtain ⟨t, rfl⟩ := rx; exact SeqAt.EqAt.bool_int a b t
    | str b => obtain ⟨t, rfl⟩ := rx; exact SeqAt.EqAt.bool_str a b t
    | _ => exact absurd (show false = true from fx) Bool.false_ne_true
  | int a =>
    obtain ⟨t', rfl⟩ := ry
    cases x with
    | non => cases rx; exact SeqAt.EqAt.int_none a t'
    | bl b => cases rx; exact SeqAt.EqAt.int_bool a t' b
    | int b => obtain ⟨t, rfl⟩ := rx; exact SeqAt.EqAt.int_int a t' b t
    | str b => obtain ⟨t, rfl⟩ := rx; exact SeqAt.EqAt.int_str a t' b t
    | _ => exact absurd (show false = true from fx) Bool.false_ne_true
  | str a =>
    obtain ⟨t', rfl⟩ := ry
    cases x with
    | non => cases rx; exact SeqAt.EqAt.str_none a t'
    | bl b => cases rx; exact SeqAt.EqAt.str_bool a t' b
    | int b => obtain ⟨t, rfl⟩ := rx; exact SeqAt.EqAt.str_int a t' b t
    | str b => obtain ⟨t, rfl⟩ := rx; exact SeqAt.EqAt.str_str a t' b t
    | _ => exact absurd (show false = true from fx) Bool.false_ne_true
  | _ => exact absurd (show false = true from fy) Bool.false_ne_true
/-- the items' answers, read off the values (a value's own answer does not lean on its token) -/
def eqU (x : V) (u : Value) : Bool := match u with
  | .none => eqV .non x
  | .bool b => eqV (.bl b) x
  | .int i _ => eqV (.int i) x
  | .str z _ => eqV (.str z) x
  | _ => false
theorem eqU_of {x y : V} {u : Value} (r : RelV y u) (f : flatV y = true) : eqU x u = eqV y x := by
  cases y with
  | non => cases r; rfl
  | bl b => cases r; rfl
  | int i => obtain ⟨t, rfl⟩ := r; rfl
  | str z => obtain ⟨t, rfl⟩ := r; rfl
  | _ => exact absurd (show false = true from f) Bool.false_ne_true
theorem any_eqU {x : V} : ∀ {xs : List V} {us : List Value}, Vals xs us → xs.all flatV = true → us.any (eqU x) = xs.any fun y => eqV y x
  | _, _, .nil, _ => rfl
  | y :: xs, u :: us, .cons r t, f => by
    rw [List.all_cons, Bool.and_eq_true] at f
    rw [List.any_cons, List.any_cons, eqU_of r f.1, any_eqU t f.2]
theorem mem_eqAt {A : Around} {s : Shared} {x : V} {v : Value} (rx : RelV x v) (fx : flatV x = true) : ∀ {xs : List V} {us : List Value}, Vals xs us → xs.all flatV = true → ∀ u ∈ us, SeqAt.EqAt A s u v (eqU x u)
  | _, _, .nil, _ => fun u hu => by cases hu
  | y :: xs, u :: us, .cons r t, f => fun u' hu => by
    rw [List.all_cons, Bool.and_eq_true] at f
    rcases List.mem_cons.mp hu with rfl | hu
    · rw [eqU_of r f.1]; exact eqAt_V r rx f.1 fx
    · exact mem_eqAt rx fx t f.2 u' hu
def inV (x : V) (xs : List V) : Bool := xs.any fun y => eqV y x
/-- x in a list or tuple of flat items -/
def rIn (K : PySem.W.Frag) (neg : Bool) : R2 := fun x y H Q => ∃ p xs, y = .ref p ∧ (SqL K H p xs ∨ SqT K H p xs) ∧ flatV x = true ∧ xs.all flatV = true ∧ Q (.bl (if neg then !inV x xs else inV x xs)) H
theorem op_in_seq : OpR X (compareOp .In) (rIn X.K false) := by
  intro pins s σ H x y v u Q I rx ry h
  obtain ⟨p, xs, rfl, hq, fx, fs, q⟩ := h
  cases ry
  rcases hq with hq | hq
  · obtain ⟨its, r, pl, hz⟩ := I.list hq
    refine SeqAt.in_listAt (eqU x) pl.isList (fun w hw => mem_eqAt rx fx r fs w (by simpa using hw)) ⟨.bl _, H, I, rfl, ?_⟩
    rw [show its.toArray.any (eqU x) = its.any (eqU x) by simp, any_eqU r fs]
    exact q
  · obtain ⟨its, r, pl, hz⟩ := I.tuple hq
    refine SeqAt.in_tupleAt (eqU x) pl (fun w hw => mem_eqAt rx fx r fs w (by simpa using hw)) ⟨.bl _, H, I, rfl, ?_⟩
    rw [show its.toArray.any (eqU x) = its.any (eqU x) by simp, any_eqU r fs]
    exact q
theorem op_notIn_seq : OpR X (compareOp .NotIn) (rIn X.K true) := by
  intro pins s σ H x y v u Q I rx ry h
  obtain ⟨p, xs, rfl, hq, fx, fs, q⟩ := h
  cases ry
  rcases hq with hq | hq
  · obtain ⟨its, r, pl, hz⟩ := I.list hq
    refine SeqAt.notIn_listAt (eqU x) pl.isList (fun w hw => mem_eqAt rx fx r fs w (by simpa using hw)) ⟨.bl _, H, I, rfl, ?_⟩
    rw [show its.toArray.any (eqU x) = its.any (eqU x) by simp, any_eqU r fs]
    exact q
  · obtain ⟨its, r, pl, hz⟩ := I.tuple hq
    refine SeqAt.notIn_tupleAt (eqU x) pl (fun w hw => mem_eqAt rx fx r fs w (by simpa using hw)) ⟨.bl _, H, I, rfl, ?_⟩
    rw [show its.toArray.any (eqU x) = its.any (eqU x) by simp, any_eqU r fs]
    exact q
theorem op_notIn_str : OpR X (compareOp .NotIn) (fun x y H Q => ∃ i j, x = .str i ∧ y = .str j ∧ Q (.bl (!(!(Builtin.Str.occurrences j i 0 j.length 1).isEmpty))) H) := by
  intro pins s σ H x y v u Q I rx ry h
  obtain ⟨i, j, rfl, rfl, q⟩ := h
  obtain ⟨t, rfl⟩ := rx
  obtain ⟨t', rfl⟩ := ry
  exact notIn_str ⟨.bl _, H, I, rfl, q⟩

/-! ### len, list(x), tuple(x) of any list or tuple that is read -/
theorem call_len_seq : CallR X (.builtin "len") (fun xs H Q => ∃ p ys, xs = [.ref p] ∧ (SqL X.K H p ys ∨ SqT X.K H p ys) ∧ Q (.int ys.length) H) := by
  intro pins s σ H xs us Q I r h
  obtain ⟨p, ys, rfl, hq, q⟩ := h
  obtain ⟨u, rfl, rx⟩ := vals1 r
  cases rx
  have hn := line63
  rcases hq with hq | hq
  · obtain ⟨its, r', pl, hz⟩ := I.list hq
    have hlen := r'.length
    exact Calls.call_len_list pl.isList (by simp only [List.size_toArray] <;> omega) ⟨.int ys.length, H, I.tok _, ⟨s.toks + 1, by rw [List.size_toArray, hlen]⟩, q⟩
  · obtain ⟨its, r', pl, hz⟩ := I.tuple hq
    have hlen := r'.length
    exact len_tuple pl (by simp only [List.size_toArray] <;> omega) ⟨.int ys.length, H, I.tok _, ⟨s.toks + 1, by rw [List.size_toArray, hlen]⟩, q⟩
theorem call_len_str : CallR X (.builtin "len") (fun xs H Q => ∃ z, xs = [.str z] ∧ z.length ≤ sizeLine ∧ Q (.int z.length) H) := by
  intro pins s σ H xs us Q I r h
  obtain ⟨z, rfl, hz, q⟩ := h
  obtain ⟨u, rfl, t, rfl⟩ := vals1 r
  have hn := line63
  exact len_str (by omega) ⟨.int z.length, H, I.tok _, ⟨_, rfl⟩, q⟩
theorem CallR.or {f : Value} {r r' : List V → Hp → VK → Prop} (h : CallR X f r) (h' : CallR X f r') : CallR X f (fun xs H Q => r xs H Q ∨ r' xs H Q) := by
  intro pins s σ H xs us Q I rs q
  rcases q with q | q
  · exact h pins s σ H xs us Q I rs q
  · exact h' pins s σ H xs us Q I rs q
theorem call_list_of : CallR X (.type "list") (fun xs H Q => ∃ p ys, xs = [.ref p] ∧ (SqL X.K H p ys ∨ SqT X.K H p ys) ∧ ∀ l, H l = none → Q (.ref l) (upd H l (.lst ys))) := by
  intro pins s σ H xs us Q I r h
  obtain ⟨p, ys, rfl, hq, q⟩ := h
  obtain ⟨u, rfl, rx⟩ := vals1 r
  cases rx
  have fin : ∀ (its : List Value), Vals ys its → ys.length ≤ sizeLine → ∀ (h' : Heap) (c' : Nat), (∀ b o', s.heap.get? b = some o' → h'.get? b = some o') →
      h'.get? s.heap.objs.size = some { cls := .type "list", dict := none, data := .seq its.toArray c', slots := #[] } → EP X pins σ Q (.ref s.heap.objs.size) { s with heap := h' } := fun its r' hz h' c' kp e =>
    ⟨.ref s.heap.objs.size, _, I.laid (t' := s.toks) kp (Nat.le_refl _) (show ObjOk X.prog X.w _ h' _ (.lst ys) from ⟨hz, its, c', r', e⟩), rfl, q _ (I.hok.fresh (Nat.le_refl _))⟩
  rcases hq with hq | hq
  · obtain ⟨its, r', pl, hz⟩ := I.list hq
    have hlen := r'.length
    obtain ⟨o, ho, hc, n, hd⟩ := pl.isList
    exact call_list_seq p (.inl rfl) ho hc hd (fun h' c' kp e => fin its r' hz h' c' kp e) (by simp only [List.size_toArray] <;> omega)
  · obtain ⟨its, r', pl, hz⟩ := I.tuple hq
    have hlen := r'.length
    obtain ⟨o, ho, hc, n, hd⟩ := pl
    exact call_list_seq p (.inr rfl) ho hc hd (fun h' c' kp e => fin its r' hz h' c' kp e) (by simp only [List.size_toArray] <;> omega)
theorem call_tuple_of : CallR X (.type "tuple") (fun xs H Q => ∃ p ys, xs = [.ref p] ∧ ((SqL X.K H p ys ∧ ∀ l, H l = none → Q (.ref l) (upd H l (.tup ys))) ∨ (SqT X.K H p ys ∧ Q (.ref p) H))) := by
  intro pins s σ H xs us Q I r h
  obtain ⟨p, ys, rfl, h⟩ := h
  obtain ⟨u, rfl, rx⟩ := vals1 r
  cases rx
  rcases h with ⟨hq, q⟩ | ⟨hq, q⟩
  · obtain ⟨its, r', pl, hz⟩ := I.list hq
    have hlen := r'.length
    refine call_tuple_list pl.isList (fun h' kp => ?_) (by simp only [List.size_toArray] <;> omega)
    have I1 : Inv X pins σ H { s with heap := h' } := I.kept (t' := s.toks) kp
    have I2 : Inv X pins σ (upd H h'.objs.size (.tup ys)) { s with heap := h'.push { cls := .type "tuple", data := .seq its.toArray } } :=
      I1.laid (t' := s.toks) (fun b o e => Heap.get?_push_of_some _ e) (Nat.le_refl _) (show ObjOk X.prog X.w _ _ _ (.tup ys) from ⟨hz, its, r', IsTup.new _ _⟩)
    exact ⟨.ref h'.objs.size, _, I2, rfl, q _ (I1.hok.fresh (Nat.le_refl _))⟩
  · obtain ⟨its, r', pl, hz⟩ := I.tuple hq
    exact call_tuple_same pl ⟨.ref p, H, I, rfl, q⟩

/-! ### the call of a builtin's method: o.m(..) -/
/-- the value is of that builtin type -/
def tyV (K : PySem.W.Frag) (T : String) (x : V) (H : Hp) : Prop := match x with
  | .str _ => T = "str"
  | .int _ => T = "int"
  | .ref p => (T = "list" ∧ ∃ xs, SqL K H p xs) ∨ (T = "tuple" ∧ ∃ o, K.lookup p = some o ∧ o.cls = .type "tuple" ∧ o.dict = none) ∨
      (T = "dict" ∧ ((∃ kvs, H p = some (.dK kvs)) ∨ ∃ kvs, H p = some (.dT kvs))) ∨ (T = "set" ∧ ∃ S n, H p = some (.set S n))
  | _ => False
theorem tyV_is {pins : List (Addr × Obj)} {σ : St} {H : Hp} {s : Shared} {T : String} {x : V} {v : Value} (I : Inv X pins σ H s) (r : RelV x v) (ty : tyV X.K T x H) :
    s.TypeIs v T ∧ ∀ a, v = .ref a → ∃ ob, s.heap.get? a = some ob ∧ ob.dict = none := by
  cases x with
  | str z =>
    obtain ⟨t, rfl⟩ := r
    cases (show T = "str" from ty)
    exact ⟨typeIs_str s z t, fun _ e => nomatch e⟩
  | int i =>
    obtain ⟨t, rfl⟩ := r
    cases (show T = "int" from ty)
    exact ⟨typeIs_int s i t, fun _ e => nomatch e⟩
  | ref p =>
    cases r
    rcases ty with ⟨rfl, xs, hq⟩ | ⟨rfl, o, hk, hc, hd⟩ | ⟨rfl, hk⟩ | ⟨rfl, S, n, hk⟩
    · obtain ⟨its, _, pl, _⟩ := I.list hq
      refine ⟨pl.isList.typeIs, fun a e => ?_⟩
      cases e
      obtain ⟨o, n, e, c, hd, _⟩ := pl
      exact ⟨o, e, hd⟩
    · refine ⟨⟨o, I.kIn p o hk, hc⟩, fun a e => ?_⟩
      cases e
      exact ⟨o, I.kIn _ o hk, hd⟩
    · have z : ∃ o, s.heap.get? p = some o ∧ o.ExactDict := by
        rcases hk with ⟨kvs, hk⟩ | ⟨kvs, hk⟩
        · obtain ⟨_, _, _, _, o, _, _, e, ex, _⟩ := I.hok p _ hk
          exact ⟨o, e, ex⟩
        · obtain ⟨_, _, _, _, o, _, _, e, ex, _⟩ := I.hok p _ hk
          exact ⟨o, e, ex⟩
      obtain ⟨o, e, ex⟩ := z
      refine ⟨⟨o, e, ex.1⟩, fun a e2 => ?_⟩
      cases e2
      exact ⟨o, e, ex.2.1⟩
    · obtain ⟨o, _, _, _, e, ex, _⟩ := I.hok p _ hk
      refine ⟨⟨o, e, ex.1⟩, fun a e2 => ?_⟩
      cases e2
      exact ⟨o, e, ex.2.1⟩
  | _ => exact False.elim ty
def tBM0 (K : PySem.W.Frag) (T : String) (r : V → List V → Hp → VK → Prop) (to : TE) : TE := fun σ H Q => to σ H fun x H1 => tyV K T x H1 ∧ r x [] H1 Q
def tBM (K : PySem.W.Frag) (T : String) (r : V → List V → Hp → VK → Prop) (to : TE) (t : TA) : TE := fun σ H Q => to σ H fun x H1 => tyV K T x H1 ∧ t σ H1 fun xs H2 => r x xs H2 Q
variable {o e : Expr} {es : List Expr} {to : TE} {t : TA} {name : Str} {apos cpos : Pos} {T id : String} {r : V → List V → Hp → VK → Prop}
theorem pe_bm0 (pa : PlainAttrs T) (slot : Slot T name id) (hty : typeOf (.builtin id) = pure (.type "method_descriptor")) (hm : MtR X id r) (ho : PE X o to)
    (hbase : attributeBase o name X.env (eval o X.env) = eval o X.env := by rfl) (hline : (apos.endLine == cpos.line) = true := by rfl) : PE X (.Call (.Attribute o name apos) [] [] cpos) (tBM0 X.K T r to) := by
  intro pins s σ H Q I h
  refine wpAny_Call_method0_late hbase hline (thn (ho pins s σ H _ I h) fun v s1 ⟨x, H1, I1, r1, ty, q1⟩ => ?_)
  obtain ⟨h1, h2⟩ := tyV_is I1 r1 ty
  exact ⟨T, id, pa, slot, hty, h1, h2, Calls.callWith_builtin rfl (PySem.evalArgs_none (hm pins s1 σ H1 x [] v [] Q I1 r1 .nil q1))⟩
theorem pe_bm (pa : PlainAttrs T) (slot : Slot T name id) (hty : typeOf (.builtin id) = pure (.type "method_descriptor")) (hm : MtR X id r) (ho : PE X o to) (ha : PA X (e :: es) t)
    (hbase : attributeBase o name X.env (eval o X.env) = eval o X.env := by rfl)
    (hfew : ((backTo cpos (starEach (e :: es) X.env)).all (fun x => !x.1) && (backToKw cpos (keywordEach [] X.env)).all (fun x => x.1.isSome)
      && decide ((e :: es).length + ([] : List Keyword).length + (if ([] : List Keyword).isEmpty then 0 else 1) < 30)) = true := by rfl)
    (hline : (apos.endLine == cpos.line) = true := by rfl) (hs : starEach (e :: es) X.env = (false, eval e X.env) :: starEach es X.env := by rfl) (hplain : (backTo cpos (starEach es X.env)).any (·.1) = false := by rfl) :
    PE X (.Call (.Attribute o name apos) (e :: es) [] cpos) (tBM X.K T r to t) := by
  intro pins s σ H Q I h
  refine wpAny_Call_method_late hbase hfew hline rfl (thn (ho pins s σ H _ I h) fun v s1 ⟨x, H1, I1, r1, ty, q1⟩ => ?_)
  obtain ⟨h1, h2⟩ := tyV_is I1 r1 ty
  refine ⟨T, id, pa, slot, hty, h1, h2, ?_⟩
  have hA := ha cpos pins s1 σ H1 _ I1 q1
  rw [hs] at hA ⊢
  refine Calls.callWith_builtin (by show (false || (backTo cpos (starEach es X.env)).any (·.1)) = false; rw [hplain] <;> rfl) (Calls.evalArgs_plain ?_)
  exact thn hA fun us s2 ⟨vs, H2, I2, r2, q2⟩ => hm pins s2 σ H2 x vs v us Q I2 r1 r2 q2
/- xs.append(e), list.index on a module's tuple .. are MtR facts of 06m -/
end
end L2

namespace L2
open PySem PySem.Spec PyProof.Rows

def MtM (X : Cx) (id : String) (r : V → List V → Hp → VK → Prop) : Prop :=
  ∀ (pins : List (Addr × Obj)) (s : Shared) (σ : St) (H : Hp) (x : V) (xs : List V) (v : Value) (us : List Value) (Q : VK), Inv X pins σ H s → RelV x v → Vals xs us → r x xs H Q →
    wpAny (model X.prog X.w) X.A (call (.builtin id) (v :: us)) (EP X pins σ Q) X.xe s

/-! ### lists of values -/
theorem Vals.one : ∀ {x : V} {us : List Value}, Vals [x] us → ∃ u, us = [u] ∧ RelV x u
  | _, _, .cons r .nil => ⟨_, rfl, r⟩
theorem Vals.two : ∀ {x y : V} {us : List Value}, Vals [x, y] us → ∃ u v, us = [u, v] ∧ RelV x u ∧ RelV y v
  | _, _, _, .cons r (.cons q .nil) => ⟨_, _, rfl, r, q⟩
theorem Vals.zero : ∀ {us : List Value}, Vals [] us → us = []
  | _, .nil => rfl
theorem Vals.dropLast {xs : List V} {us : List Value} (h : Vals xs us) : Vals xs.dropLast us.dropLast := by
  induction h with
  | nil => exact .nil
  | cons r t ih =>
    cases t with
    | nil => exact .nil
    | cons q t' => exact .cons r ih
theorem Vals.eraseIdx : ∀ {xs : List V} {us : List Value} (i : Nat), Vals xs us → Vals (xs.eraseIdx i) (us.eraseIdx i)
  | _, _, _, .nil => .nil
  | _, _, 0, .cons _ t => t
  | _, _, i + 1, .cons r t => .cons r (Vals.eraseIdx i t)
theorem Vals.reverse {xs : List V} {us : List Value} (h : Vals xs us) : Vals xs.reverse us.reverse := by
  induction h with
  | nil => exact .nil
  | cons r t ih => rw [List.reverse_cons, List.reverse_cons]; exact Vals.append ih (.cons r .nil)
theorem Vals.rep {xs : List V} {us : List Value} (h : Vals xs us) : ∀ k : Nat, Vals (List.replicate k xs).flatten (List.replicate k us).flatten
  | 0 => .nil
  | k + 1 => by
    rw [List.replicate_succ, List.replicate_succ, List.flatten_cons, List.flatten_cons]
    exact Vals.append h (Vals.rep h k)
theorem erase_last {α : Type} (l : List α) : l.eraseIdx (l.length - 1) = l.dropLast := by
  induction l with
  | nil => rfl
  | cons a r ih =>
    cases r with
    | nil => rfl
    | cons b r =>
      have e : (a :: b :: r).length - 1 = ((b :: r).length - 1) + 1 := by
        have h1 : (a :: b :: r).length = r.length + 2 := rfl
        have h2 : (b :: r).length = r.length + 1 := rfl
        omega
      rw [e, List.eraseIdx_cons_succ, ih]
      all_goals rfl
theorem len_erase {α : Type} : ∀ (l : List α) (i : Nat), (l.eraseIdx i).length ≤ l.length
  | [], _ => Nat.le_refl _
  | _ :: _, 0 => Nat.le_succ _
  | _ :: r, i + 1 => Nat.succ_le_succ (len_erase r i)
theorem foldl_rep (its : List Value) : ∀ (k : Nat) (acc : List Value),
    List.foldl (fun x1 x2 => x1 ++ x2) acc.toArray (List.replicate k its.toArray) = (acc ++ (List.replicate k its).flatten).toArray
  | 0, acc => by simp
  | k + 1, acc => by
    have e : acc.toArray ++ its.toArray = (acc ++ its).toArray := by simp
    have e2 : (acc ++ its) ++ (List.replicate k its).flatten = acc ++ (List.replicate (k + 1) its).flatten := by
      rw [List.replicate_succ, List.flatten_cons, List.append_assoc]
    rw [← e2, ← foldl_rep its k (acc ++ its), ← e, List.replicate_succ, List.foldl_cons]

section
variable {X : Cx} {pins : List (Addr × Obj)} {σ : St} {H : Hp} {s : Shared} {l b : Addr} {xs ys zs : List V}

/-! ### the two steps: a tracked list is rewritten, a new list is laid -/
theorem Inv.lset {its its' : List Value} {n : Nat} {f : Array Value → Array Value} {t' : Nat} (I : Inv X pins σ H s) (hH : H l = some (.lst xs))
    (e : s.heap.get? l = some { cls := .type "list", data := .seq its.toArray n }) (hf : f its.toArray = its'.toArray) (hv : Vals ys its') (hz : ys.length ≤ sizeLine) :
    Inv X pins σ (upd H l (.lst ys)) { s with heap := s.heap.update l (Obj.mapSeq f), toks := t' } := by
  have q := PySem.IsL.update e f
  rw [hf] at q
  refine I.write (x := l) (e := l) (by rw [hH]; exact trivial) (.inl rfl) (fun b' u hb hu => (Heap.get?_update_other s.heap (Obj.mapSeq f) (Ne.symm hb)).trans hu) ⟨_, q⟩ ?_
  exact ⟨hz, its', _, hv, q⟩
theorem Inv.lnew {its : List Value} {t' : Nat} (I : Inv X pins σ H s) (hv : Vals ys its) (hz : ys.length ≤ sizeLine) :
    Inv X pins σ (upd H s.heap.objs.size (.lst ys)) { s with heap := s.heap.push { cls := .type "list", data := .seq its.toArray }, toks := t' } :=
  I.laid (fun _ _ q => Heap.get?_push_of_some _ q) (Nat.le_refl _) ⟨hz, its, 0, hv, Heap.get?_push_size _ rfl⟩
theorem Inv.fresh (I : Inv X pins σ H s) : H s.heap.objs.size = none := I.hok.fresh (Nat.le_refl _)
theorem Inv.lstM (I : Inv X pins σ H s) (hH : H l = some (.lst xs)) : xs.length ≤ sizeLine ∧ ∃ (its : List Value) (n : Nat), Vals xs its ∧ xs.length = its.length ∧ s.heap.get? l = some { cls := .type "list", data := .seq its.toArray n } := by
  obtain ⟨z, its, n, r, e⟩ := I.hok l _ hH
  exact ⟨z, its, n, r, r.length, e⟩

theorem notLongL {n : Nat} (h : n ≤ sizeLine) : Builtin.List.listTooLong n = false := by
  unfold Builtin.List.listTooLong
  exact decide_eq_false (by omega)
end

section
variable {X : Cx}

/-! ### methods -/
def rAppend : V → List V → Hp → VK → Prop := fun x vs H Q => ∃ l xs y, x = .ref l ∧ vs = [y] ∧ H l = some (.lst xs) ∧ xs.length < sizeLine ∧ Q .non (upd H l (.lst (xs ++ [y])))
theorem mt_append : MtM X "list.append" rAppend := by
  intro pins s σ H x vs v us Q I rx rv h
  obtain ⟨l, xs, y, rfl, rfl, hH, hz, q⟩ := h
  cases rx
  obtain ⟨u, rfl, ru⟩ := rv.one
  obtain ⟨z, its, n, r, hl, e⟩ := I.lstM hH
  refine call_meets F.slot_list_append ⟨_, e, rfl⟩ F.entry_list_append (F.args_list_append_2 _ _) (PySem.list_append l its.toArray n u (by rw [List.size_toArray]; omega)) ⟨e, ?_⟩
  refine ⟨.non, _, I.lset (its' := its ++ [u]) hH e (by simp) (r.append (.cons ru .nil)) ?_, rfl, q⟩
  rw [List.length_append, List.length_singleton]
  omega

def rExtend : V → List V → Hp → VK → Prop := fun x vs H Q => ∃ l b xs zs, x = .ref l ∧ vs = [.ref b] ∧ H l = some (.lst xs) ∧ H b = some (.lst zs) ∧ xs.length + zs.length ≤ sizeLine ∧ Q .non (upd H l (.lst (xs ++ zs)))
theorem mt_extend : MtM X "list.extend" rExtend := by
  intro pins s σ H x vs v us Q I rx rv h
  obtain ⟨l, b, xs, zs, rfl, rfl, hH, hB, hz, q⟩ := h
  cases rx
  obtain ⟨u, rfl, ru⟩ := rv.one
  cases ru
  obtain ⟨z, its, n, r, hl, e⟩ := I.lstM hH
  obtain ⟨z2, its2, n2, r2, hl2, e2⟩ := I.lstM hB
  have hsz : its.toArray.size + its2.toArray.size ≤ sizeLine := by rw [List.size_toArray, List.size_toArray]; omega
  have hlong : ¬ (!its.toArray.isEmpty && Builtin.List.listTooLong (its.toArray.size + its2.toArray.size)) = true := by
    rw [notLongL hsz, Bool.and_false]
    exact Bool.false_ne_true
  refine call_meets F.slot_list_extend ⟨_, e, rfl⟩ F.entry_list_extend (F.args_list_extend_2 _ _)
    (AutoSeq1.list_extend_list_list_0 l its.toArray n b its2.toArray n2 hlong (by rw [List.size_toArray]; omega) (by omega)) ⟨e, e2, ?_⟩
  refine ⟨.non, _, I.lset (its' := its ++ its2) hH e (by simp) (r.append r2) ?_, rfl, q⟩
  rw [List.length_append]
  omega

def rPop : V → List V → Hp → VK → Prop := fun x vs H Q => ∃ l xs y, x = .ref l ∧ vs = [] ∧ H l = some (.lst xs) ∧ xs[xs.length - 1]? = some y ∧ Q y (upd H l (.lst xs.dropLast))
theorem mt_pop : MtM X "list.pop" rPop := by
  intro pins s σ H x vs v us Q I rx rv h
  obtain ⟨l, xs, y, rfl, rfl, hH, hy, q⟩ := h
  cases rx
  have hus := rv.zero
  subst hus
  obtain ⟨z, its, n, r, hl, e⟩ := I.lstM hH
  obtain ⟨u, hu, ru⟩ := r.get hy
  have hy' : its.toArray[its.toArray.size - 1]? = some u := by
    show its.toArray[its.length - 1]? = some u
    rw [← Array.getElem?_toList, ← hl]
    exact hu
  refine call_meets F.slot_list_pop ⟨_, e, rfl⟩ F.entry_list_pop (F.args_list_pop_1 _) (MeetsSeq.list_pop_last l its.toArray n u hy' (by rw [List.size_toArray]; omega)) ⟨e, ?_⟩
  refine ⟨y, _, I.lset (its' := its.dropLast) hH e ?_ r.dropLast ?_, ru, q⟩
  · show its.toArray.eraseIdxIfInBounds (its.toArray.size - 1) = its.dropLast.toArray
    rw [List.size_toArray, List.eraseIdxIfInBounds_toArray, erase_last]
  · rw [List.length_dropLast]
    omega

def rPopAt : V → List V → Hp → VK → Prop := fun x vs H Q => ∃ l xs i k y, x = .ref l ∧ vs = [.int i] ∧ H l = some (.lst xs) ∧ -(2 ^ 63) ≤ i ∧ i < 2 ^ 63 ∧ seqIndex? i xs.length = some k ∧ xs[k]? = some y ∧ Q y (upd H l (.lst (xs.eraseIdx k)))
theorem mt_popAt : MtM X "list.pop" rPopAt := by
  intro pins s σ H x vs v us Q I rx rv h
  obtain ⟨l, xs, i, k, y, rfl, rfl, hH, h1, h2, hk, hy, q⟩ := h
  cases rx
  obtain ⟨u, rfl, ru⟩ := rv.one
  obtain ⟨t, rfl⟩ := ru
  obtain ⟨z, its, n, r, hl, e⟩ := I.lstM hH
  obtain ⟨w, hw, rw'⟩ := r.get hy
  refine call_meets F.slot_list_pop ⟨_, e, rfl⟩ F.entry_list_pop (F.args_list_pop_2 _ _)
    (MeetsSeq.list_pop_at l its.toArray n i t k w (fitsIndex_both h1 h2) (by rw [List.size_toArray, ← hl]; exact hk) (by rw [← Array.getElem?_toList]; exact hw) (by rw [List.size_toArray]; omega)) ⟨e, ?_⟩
  refine ⟨y, _, I.lset (its' := its.eraseIdx k) hH e ?_ (r.eraseIdx k) ?_, rw', q⟩
  · show its.toArray.eraseIdxIfInBounds k = (its.eraseIdx k).toArray
    rw [List.eraseIdxIfInBounds_toArray]
  · have := len_erase xs k
    omega

def rReverse : V → List V → Hp → VK → Prop := fun x vs H Q => ∃ l xs, x = .ref l ∧ vs = [] ∧ H l = some (.lst xs) ∧ Q .non (upd H l (.lst xs.reverse))
theorem mt_reverse : MtM X "list.reverse" rReverse := by
  intro pins s σ H x vs v us Q I rx rv h
  obtain ⟨l, xs, rfl, rfl, hH, q⟩ := h
  cases rx
  have hus := rv.zero
  subst hus
  obtain ⟨z, its, n, r, hl, e⟩ := I.lstM hH
  refine call_meets F.slot_list_reverse ⟨_, e, rfl⟩ F.entry_list_reverse (F.args_list_reverse_1 _) (AutoSeq1.list_reverse_list_0 l its.toArray n (by rw [List.size_toArray]; omega)) ⟨e, ?_⟩
  refine ⟨.non, _, I.lset (its' := its.reverse) hH e (by simp) r.reverse ?_, rfl, q⟩
  rw [List.length_reverse]
  omega

def rClear : V → List V → Hp → VK → Prop := fun x vs H Q => ∃ l xs, x = .ref l ∧ vs = [] ∧ H l = some (.lst xs) ∧ Q .non (upd H l (.lst []))
theorem mt_clear : MtM X "list.clear" rClear := by
  intro pins s σ H x vs v us Q I rx rv h
  obtain ⟨l, xs, rfl, rfl, hH, q⟩ := h
  cases rx
  have hus := rv.zero
  subst hus
  obtain ⟨z, its, n, r, hl, e⟩ := I.lstM hH
  refine call_meets F.slot_list_clear ⟨_, e, rfl⟩ F.entry_list_clear (F.args_list_clear_1 _) (AutoSeq1.list_clear_list_0 l its.toArray n (by rw [List.size_toArray]; omega)) ⟨e, ?_⟩
  exact ⟨.non, _, I.lset (its' := []) (ys := []) hH e rfl .nil (Nat.zero_le _), rfl, q⟩

/-! ### list + list, list += list, list * int -/
def rCat : R2 := fun x y H Q => ∃ l b xs zs, x = .ref l ∧ y = .ref b ∧ H l = some (.lst xs) ∧ H b = some (.lst zs) ∧ xs.length + zs.length ≤ sizeLine ∧ ∀ p, H p = none → Q (.ref p) (upd H p (.lst (xs ++ zs)))
theorem op_cat : OpR X (binaryOp .Add) rCat := by
  intro pins s σ H x y v u Q I rx ry h
  obtain ⟨l, b, xs, zs, rfl, rfl, hH, hB, hz, q⟩ := h
  cases rx
  cases ry
  obtain ⟨z, its, n, r, hl, e⟩ := I.lstM hH
  obtain ⟨z2, its2, n2, r2, hl2, e2⟩ := I.lstM hB
  refine PySem.P.add_list e e2 ?_ (by rw [List.size_toArray, List.size_toArray]; omega)
  have ea : its.toArray ++ its2.toArray = (its ++ its2).toArray := by simp
  rw [ea]
  exact ⟨.ref _, _, I.lnew (t' := s.toks) (r.append r2) (by rw [List.length_append]; omega), rfl, q _ I.fresh⟩
/-- a list times an int (a negative one is nothing) -/
def rRep : R2 := fun x y H Q => ∃ l k xs, x = .ref l ∧ y = .int k ∧ H l = some (.lst xs) ∧ -(2 ^ 63) ≤ k ∧ k < 2 ^ 63 ∧ xs.length * k.toNat ≤ sizeLine ∧
  ∀ p, H p = none → Q (.ref p) (upd H p (.lst (List.replicate k.toNat xs).flatten))
theorem len_rep {α : Type} (xs : List α) (k : Nat) : (List.replicate k xs).flatten.length = k * xs.length := by
  induction k with
  | zero => simp
  | succ k ih => rw [List.replicate_succ, List.flatten_cons, List.length_append, ih, Nat.succ_mul, Nat.add_comm]
theorem op_rep : OpR X (binaryOp .Mult) rRep := by
  intro pins s σ H x y v u Q I rx ry h
  obtain ⟨l, k, xs, rfl, rfl, hH, h1, h2, hz, q⟩ := h
  cases rx
  obtain ⟨t, rfl⟩ := ry
  obtain ⟨z, its, n, r, hl, e⟩ := I.lstM hH
  have hlen : its.toArray.size * k.toNat ≤ sizeLine := by rw [List.size_toArray, ← hl]; exact hz
  have hcap : ¬ its.toArray.size * k.toNat > (2 ^ 63 - 1) / 8 := by
    have : (sizeLine : Nat) ≤ (2 ^ 63 - 1) / 8 := by decide
    omega
  have hfit : ¬ (!Builtin.List.listFitsIndex k) = true := by
    rw [fitsIndex_both h1 h2]
    exact Bool.false_ne_true
  have hlong : ¬ Builtin.List.listTooLong (its.toArray.size * k.toNat) = true := by
    rw [notLongL hlen]
    exact Bool.false_ne_true
  have hnew : List.foldl (fun x1 x2 => x1 ++ x2) #[] (List.replicate (if its.toArray.isEmpty = true then 0 else k.toNat) its.toArray) = (List.replicate k.toNat its).flatten.toArray := by
    have f0 : ∀ m : Nat, List.foldl (fun x1 x2 => x1 ++ x2) #[] (List.replicate m its.toArray) = (List.replicate m its).flatten.toArray := fun m => by
      have := foldl_rep its m []
      rw [List.nil_append] at this
      exact this
    rw [f0]
    cases its with
    | nil => simp
    | cons a r' => rw [if_neg (by simp)]
  refine wpAny_binaryOp_repeat_ref (T := "list") (U := "int") (by decide) ⟨_, e, rfl⟩ (fun s' => typeIs_int s' k t) noFill_list_mul F.fills_int_mul F.slot_int_rmul repeat_list F.slot_int_index.lookup
    (call_meets F.slot_int_rmul (typeIs_int s k t) F.entry_int_rmul (F.args_int_rmul_2 _ _) (int___rmul___int_list k t l its.toArray n)
      ⟨e, rfl, ⟨_, e, rfl⟩, call_meets F.slot_list_mul ⟨_, e, rfl⟩ F.entry_list_mul (F.args_list_mul_2 _ _) (AutoListH.list___mul___list_int_3 l its.toArray n k t hfit hcap hlong) ⟨e, ?_⟩⟩)
  rw [hnew]
  exact ⟨.ref _, _, I.lnew (t' := s.toks) (r.rep k.toNat) (by rw [len_rep, Nat.mul_comm]; exact hz), rfl, q _ I.fresh⟩

/-! ### del xs[i] -/
theorem del_list {pins : List (Addr × Obj)} {s : Shared} {σ : St} {H : Hp} {l : Addr} {xs : List V} {i : Int} {t : Tok} {k : Nat} {Q : Unit → Shared → Prop} (I : Inv X pins σ H s) (hH : H l = some (.lst xs))
    (h1 : -(2 ^ 63) ≤ i) (h2 : i < 2 ^ 63) (hk : seqIndex? i xs.length = some k) (h : ∀ s', Inv X pins σ (upd H l (.lst (xs.eraseIdx k))) s' → Q () s') :
    wpAny (model X.prog X.w) X.A (delItem (.ref l) (.int i t)) Q X.xe s := by
  obtain ⟨z, its, n, r, hl, e⟩ := I.lstM hH
  refine PySem.P.delItem_list (k := k) e (fitsIndex_both h1 h2) (by rw [List.size_toArray, ← hl]; exact hk) (h _ ?_) (by rw [List.size_toArray]; omega)
  refine I.lset (its' := its.eraseIdx k) (t' := s.toks) hH e ?_ (r.eraseIdx k) ?_
  · show its.toArray.eraseIdxIfInBounds k = (its.eraseIdx k).toArray
    rw [List.eraseIdxIfInBounds_toArray]
  · have := len_erase xs k
    omega
end

/-! ### xs[a:b] = ys -/
section
variable {prog : Program} {w : World} {A : Around} {E : Value → Shared → Prop} {s : Shared}
theorem splice_eq (its its2 : List Value) (a c : Nat) : its.toArray.extract 0 a ++ its2.toArray ++ its.toArray.extract c its.toArray.size = (its.take a ++ its2 ++ its.drop c).toArray := by
  apply Array.toList_inj.mp
  first
    | (simp
       exact List.take_of_length_le (by simp))
    | simp [List.take_of_length_le]
    | simp
theorem bounds_run {a c n : Nat} (hac : a ≤ c) (hc : c ≤ n) : sliceBounds (some (a : Int)) (some (c : Int)) none n = ((a : Int), (c : Int), 1) := by
  simp only [sliceBounds, Option.getD_none]
  have h1 : ¬ ((a : Int) < 0) := by omega
  have h2 : ¬ ((c : Int) < 0) := by omega
  simp only [h1, h2, if_false, show (1 : Int) > 0 by decide, if_true]
  congr 1
  · omega
  · congr 1; omega
set_option maxRecDepth 100000 in
/-- list.__setitem__ with a slice of step one and another list -/
theorem setItem_slice {l b sl : Addr} {items new : Array Value} {n n2 : Nat} {vl vu : Value} {a c : Nat} {Q : Unit → Shared → Prop}
    (e : s.heap.get? l = some { cls := .type "list", data := .seq items n }) (e2 : s.heap.get? b = some { cls := .type "list", data := .seq new n2 }) (hne : l ≠ b)
    (hs : s.heap.IsSliceOf sl vl vu .none) (pl : IsPart vl (some (a : Int))) (pu : IsPart vu (some (c : Int))) (hac : a ≤ c) (hc : c ≤ items.size)
    (hsz : items.size + new.size ≤ sizeLine) (h : Q () { s with heap := s.heap.update l (Obj.mapSeq fun xs => xs.extract 0 a ++ new ++ xs.extract c xs.size) }) :
    wpAny (model prog w) A (setItem (.ref l) (.ref sl) (.ref b)) Q E s := by
  have hl : s.heap.IsList l items := PySem.IsL.isList e
  have hb : s.heap.IsList b new := PySem.IsL.isList e2
  obtain ⟨os, hos, hcs, hds⟩ := id hs
  have hTs : s.TypeIs (.ref sl) "slice" := ⟨os, hos, hcs⟩
  have hstep : ¬ ((rawPart none == rawInt 0) = true) := Bool.false_ne_true
  have hsame : Builtin.List.listSameRef (.ref l) (.ref b) = false := by
    unfold Builtin.List.listSameRef
    exact beq_eq_false_iff_ne.mpr hne
  have hmax : (max (a : Int) (c : Int)).toNat = c := by omega
  have hz' : ((fun xs : Array Value => xs.extract 0 a ++ new ++ xs.extract c xs.size) items).size ≤ sizeLine + 1 := by
    simp only [Array.size_append, Array.size_extract]
    omega
  unfold setItem
  try with_reducible refine wpAny_holding ?_
  first | refine wpAny_bind (wpAny_pure ?_) | skip
  refine wpAny_bind (wpAny_sequenceKey hl.typeIs (by decide) ?_)
  refine wpAny_bind (wpAny_callSpecial?_slot (name := Str.ofString "__setitem__") hl.typeIs slot_list_setitem
    (wpAny_call_entry slot_list_setitem hl.typeIs entry_list_setitem ?_ (args_list_setitem _ _ _)))
  show wpAny _ _ (Builtin.List.listSubscript? (.ref sl) >>= _) _ _ s
  refine wpAny_bind ?_
  unfold Builtin.List.listSubscript?
  refine wpAny_bind (wpAny_specialOf hTs slice_no_index ?_)
  simp only [Option.isNone_none, if_true]
  refine wpAny_pure ?_
  show wpAny _ _ (typeOf (.ref sl) >>= _) _ _ s
  refine wpAny_bind (wpAny_typeOf hTs ?_)
  first
    | rw [if_neg (by decide)]
    | refine PySem.W.KFB.if_not (by decide) ?_
  rw [listSliceParts_eq]
  refine wpAny_bind (wpAny_bind (wpAny_field hos hds (x := .none) rfl (wpAny_bind (wpAny_listPart .none ?_))))
  rw [if_neg hstep]
  refine wpAny_bind (wpAny_field hos hds (x := vl) rfl (wpAny_bind (wpAny_listPart pl ?_)))
  refine wpAny_bind (wpAny_field hos hds (x := vu) rfl (wpAny_bind (wpAny_listPart pu (wpAny_pure ?_))))
  first
    | simp only [hsame, Bool.false_eq_true, if_false]
    | refine PySem.W.KFB.if_not hsame ?_
    | (dsimp only
       rw [if_neg (by rw [hsame]; exact Bool.false_ne_true)])
  refine wpAny_bind (m := Builtin.List.listAllItems (.ref b) "must assign iterable to extended slice") ?_
  unfold Builtin.List.listAllItems
  refine wpAny_bind (wpAny_typeOf hb.typeIs ?_)
  first
    | refine PySem.W.KFB.if_so (by decide) ?_
    | rw [if_pos (by decide)]
    | simp only [beq_self_eq_true, Bool.true_or, if_true]
  unfold Builtin.List.listItems
  refine wpAny_bind (wpAny_seqItems e2 rfl (wpAny_pure ?_))
  refine wpAny_bind (wpAny_bind (wpAny_seqItems e rfl (wpAny_pure ?_)))
  refine wpAny_bind (wpAny_of_eq ((sliceIndices_raw (some (a : Int)) (some (c : Int)) none items.size (by simp)).trans (congrArg (pure : Int × Int × Int → Sem (Int × Int × Int)) (bounds_run hac hc))) ?_)
  show wpAny _ _ (if ((1 : Int) == 1) = true then _ else _) _ _ s
  rw [if_pos (by decide)]
  refine wpAny_bind (wpAny_rule ?_)
  first
    | simp only [notLongL hsz, Bool.false_eq_true, if_false]
    | refine PySem.W.KFB.if_not (notLongL hsz) ?_
  first | refine wpAny_bind (wpAny_pure ?_) | skip
  show wpAny _ _ (updateSeq l (fun xs => xs.extract 0 ((a : Int)).toNat ++ new ++ xs.extract (max (a : Int) (c : Int)).toNat xs.size) >>= _) _ _ s
  rw [hmax, Int.toNat_natCast]
  refine wpAny_bind (wpAny_updateSeq (hz := Nat.le_trans (Nat.le_add_right _ _) hsz) (_hz' := hz') e rfl ?_)
  refine wpAny_bind (wpAny_letGo ?_)
  first
    | exact wpAny_bind (wpAny_pure (wpAny_pure ⟨.none, rfl, wpAny_pure h⟩))
    | exact wpAny_pure ⟨.none, rfl, wpAny_pure h⟩
end

section
variable {X : Cx}
/-- xs[a:c] = ys of another list, at the value level: sl is the slice object that was just made -/
theorem set_slice {pins : List (Addr × Obj)} {s : Shared} {σ : St} {H : Hp} {l b sl : Addr} {xs ys : List V} {a c : Int} {vl vu : Value} {Q : Unit → Shared → Prop} (I : Inv X pins σ H s)
    (hH : H l = some (.lst xs)) (hB : H b = some (.lst ys)) (hne : l ≠ b) (hs : s.heap.IsSliceOf sl vl vu .none) (ra : RelV (.int a) vl) (rc : RelV (.int c) vu) (h0 : 0 ≤ a) (hac : a ≤ c) (hc : c ≤ xs.length)
    (hz : xs.length + ys.length ≤ sizeLine) (h : ∀ s', Inv X pins σ (upd H l (.lst (xs.take a.toNat ++ ys ++ xs.drop c.toNat))) s' → Q () s') :
    wpAny (model X.prog X.w) X.A (setItem (.ref l) (.ref sl) (.ref b)) Q X.xe s := by
  obtain ⟨ta, rfl⟩ := ra
  obtain ⟨tc, rfl⟩ := rc
  obtain ⟨z, its, n, r, hl, e⟩ := I.lstM hH
  obtain ⟨z2, its2, n2, r2, hl2, e2⟩ := I.lstM hB
  obtain ⟨a', rfl⟩ := Int.eq_ofNat_of_zero_le h0
  obtain ⟨c', rfl⟩ := Int.eq_ofNat_of_zero_le (Int.le_trans h0 hac)
  simp only [Int.toNat_natCast] at h
  refine setItem_slice (a := a') (c := c') e e2 hne hs (.int _ _) (.int _ _) (by omega) (by rw [List.size_toArray]; omega) (by rw [List.size_toArray, List.size_toArray]; omega) (h _ ?_)
  refine I.lset (its' := its.take a' ++ its2 ++ its.drop c') (t' := s.toks) hH e ?_ (Vals.append (Vals.append (r.take _) r2) (r.drop _)) ?_
  · exact splice_eq its its2 a' c'
  · rw [List.length_append, List.length_append, List.length_take, List.length_drop]
    omega
end
end L2

namespace L2
open PySem PySem.Spec PyProof.Rows

/-! ### lists of pairs as tables -/
section
variable {κ : Type} [DecidableEq κ]
def valV (kvs : List (κ × V)) (k : κ) : Option V := (kvs.find? fun kv => decide (kv.1 = k)).map (·.2)
/-- in its place, or at the end -/
def putK (kvs : List (κ × V)) (k : κ) (v : V) : List (κ × V) :=
  if (kvs.any fun kv => decide (kv.1 = k)) = true then kvs.map (fun kv => if kv.1 = k then (kv.1, v) else kv) else kvs ++ [(k, v)]
def dropK (kvs : List (κ × V)) (k : κ) : List (κ × V) := kvs.filter fun kv => decide (kv.1 ≠ k)

theorem valV_nil {k : κ} : valV ([] : List (κ × V)) k = none := rfl
theorem valV_pos {p : κ × V} {r : List (κ × V)} {k : κ} (e : p.1 = k) : valV (p :: r) k = some p.2 := by simp [valV, List.find?_cons, e]
theorem valV_neg {p : κ × V} {r : List (κ × V)} {k : κ} (e : ¬ p.1 = k) : valV (p :: r) k = valV r k := by simp [valV, List.find?_cons, e]
theorem valV_any (k : κ) : ∀ kvs : List (κ × V), (kvs.any fun kv => decide (kv.1 = k)) = (valV kvs k).isSome
  | [] => rfl
  | p :: r => by
    rw [List.any_cons]
    by_cases e : p.1 = k
    · simp only [valV_pos e, decide_eq_true e, Bool.true_or, Option.isSome_some]
    · rw [valV_neg e, decide_eq_false e, Bool.false_or]; exact valV_any k r
theorem valV_map (k j : κ) (y : V) : ∀ kvs : List (κ × V), valV (kvs.map fun kv => if kv.1 = k then (kv.1, y) else kv) j = (valV kvs j).map fun x => if j = k then y else x
  | [] => rfl
  | p :: r => by
    have ih := valV_map k j y r
    rw [List.map_cons]
    by_cases h : p.1 = k
    · rw [if_pos h]
      by_cases e : p.1 = j
      · rw [valV_pos (p := (p.1, y)) e, valV_pos e, Option.map_some, if_pos (e.symm.trans h)]
      · rw [valV_neg (p := (p.1, y)) e, valV_neg e, ih]
    · rw [if_neg h]
      by_cases e : p.1 = j
      · rw [valV_pos (p := p) e, valV_pos e, Option.map_some, if_neg (fun z => h (e.trans z))]
      · rw [valV_neg (p := p) e, valV_neg e, ih]
theorem valV_snoc (k j : κ) (y : V) : ∀ kvs : List (κ × V), valV kvs k = none → valV (kvs ++ [(k, y)]) j = if j = k then some y else valV kvs j
  | [], _ => by
    by_cases e : k = j
    · rw [if_pos e.symm]; exact valV_pos (p := (k, y)) e
    · rw [if_neg (fun z => e z.symm)]; exact valV_neg (p := (k, y)) e
  | p :: r, hn => by
    rw [List.cons_append]
    have hk : ¬ p.1 = k := fun z => by rw [valV_pos z] at hn; cases hn
    rw [valV_neg hk] at hn
    have ih := valV_snoc k j y r hn
    by_cases e : p.1 = j
    · rw [valV_pos e, valV_pos e, if_neg (fun z => hk (e.trans z))]
    · rw [valV_neg e, valV_neg e, ih]
theorem valV_put (kvs : List (κ × V)) (k j : κ) (y : V) : valV (putK kvs k y) j = if j = k then some y else valV kvs j := by
  unfold putK
  by_cases a : (kvs.any fun kv => decide (kv.1 = k)) = true
  · rw [if_pos a, valV_map]
    rw [valV_any] at a
    by_cases e : j = k
    · obtain ⟨x, hx⟩ := Option.isSome_iff_exists.mp a
      rw [if_pos e, e, hx, Option.map_some, if_pos rfl]
    · rw [if_neg e]
      cases valV kvs j with
      | none => rfl
      | some x => rw [Option.map_some, if_neg e]
  · rw [if_neg a]
    refine valV_snoc k j y kvs ?_
    rw [valV_any] at a
    cases q : valV kvs k with
    | none => rfl
    | some x => rw [q] at a; exact (a rfl).elim
theorem length_putK (kvs : List (κ × V)) (k : κ) (v : V) : (putK kvs k v).length ≤ kvs.length + 1 := by
  unfold putK
  split
  · rw [List.length_map]; omega
  · rw [List.length_append, List.length_cons, List.length_nil]; omega
theorem putK_new {kvs : List (κ × V)} {k : κ} (v : V) (h : valV kvs k = none) : putK kvs k v = kvs ++ [(k, v)] := by
  unfold putK
  rw [valV_any, h]
  exact if_neg (by decide)

theorem RelO.isSome_eq {o : Option V} {u : Option Value} (r : RelO o u) : o.isSome = u.isSome := by
  cases o with
  | none => cases u with
    | none => rfl
    | some _ => exact (show False from r).elim
  | some _ => cases u with
    | none => exact (show False from r).elim
    | some _ => rfl
theorem RelO.getD {o : Option V} {u : Option Value} {d : V} {d' : Value} (r : RelO o u) (rd : RelV d d') : RelV (o.getD d) (u.getD d') := by
  cases o with
  | none => cases u with
    | none => exact rd
    | some _ => exact (show False from r).elim
  | some _ => cases u with
    | none => exact (show False from r).elim
    | some _ => exact r

/-- raw tables of the same keys -/
theorem KV.val {kvs : List (κ × V)} {vs : List (κ × Value)} (r : KV kvs vs) (k : κ) : RelO (valV kvs k) (valueAt vs k) := by
  unfold KV at r
  induction r with
  | nil => exact True.intro
  | @cons p q ps qs h t ih =>
    obtain ⟨h1, h2⟩ := h
    by_cases e : p.1 = k
    · have e' : q.1 = k := h1.symm.trans e
      have b : valueAt (q :: qs) k = some q.2 := by simp [valueAt, List.find?_cons, e']
      rw [valV_pos e, b]; exact h2
    · have e' : ¬ q.1 = k := fun z => e (h1.trans z)
      have b : valueAt (q :: qs) k = valueAt qs k := by simp [valueAt, List.find?_cons, e']
      rw [valV_neg e, b]; exact ih
theorem KV.any {kvs : List (κ × V)} {vs : List (κ × Value)} (r : KV kvs vs) (k : κ) : (kvs.any fun kv => decide (kv.1 = k)) = vs.any fun kv => decide (kv.1 = k) := by
  unfold KV at r
  induction r with
  | nil => rfl
  | cons h t ih => rw [List.any_cons, List.any_cons, ih, h.1]
theorem KV.repl {kvs : List (κ × V)} {vs : List (κ × Value)} (r : KV kvs vs) (k : κ) {y : V} {u : Value} (ry : RelV y u) :
    KV (kvs.map fun kv => if kv.1 = k then (kv.1, y) else kv) (vs.map fun kv => if kv.1 = k then (kv.1, u) else kv) := by
  unfold KV at r ⊢
  induction r with
  | nil => exact .nil
  | @cons p q ps qs h t ih =>
    rw [List.map_cons, List.map_cons]
    refine .cons ?_ ih
    obtain ⟨h1, h2⟩ := h
    by_cases e : p.1 = k
    · rw [if_pos e, if_pos (h1.symm.trans e)]; exact ⟨h1, ry⟩
    · rw [if_neg e, if_neg (fun z => e (h1.trans z))]; exact ⟨h1, h2⟩
theorem KV.put {kvs : List (κ × V)} {vs : List (κ × Value)} (r : KV kvs vs) (k : κ) {y : V} {u : Value} (ry : RelV y u) : KV (putK kvs k y) (stored vs k u) := by
  unfold putK stored
  rw [r.any k]
  by_cases e : (vs.any fun kv => decide (kv.1 = k)) = true
  · rw [if_pos e, if_pos e]; exact r.repl k ry
  · rw [if_neg e, if_neg e]; exact Paired.snoc r ⟨rfl, ry⟩
theorem KV.drop {kvs : List (κ × V)} {vs : List (κ × Value)} (r : KV kvs vs) (k : κ) : KV (dropK kvs k) (without vs k) := by
  unfold KV at r ⊢
  unfold dropK without
  induction r with
  | nil => exact .nil
  | @cons p q ps qs h t ih =>
    obtain ⟨h1, h2⟩ := h
    rw [List.filter_cons, List.filter_cons]
    by_cases e : p.1 = k
    · have a : ¬ decide (p.1 ≠ k) = true := by simp [e]
      have b : ¬ decide (q.1 ≠ k) = true := by simp [h1.symm.trans e]
      rw [if_neg a, if_neg b]; exact ih
    · have e' : ¬ q.1 = k := fun z => e (h1.trans z)
      have a : decide (p.1 ≠ k) = true := by simp [e]
      have b : decide (q.1 ≠ k) = true := by simp [e']
      rw [if_pos a, if_pos b]; exact .cons ⟨h1, h2⟩ ih
theorem KV.keys {kvs : List (κ × V)} {vs : List (κ × Value)} (r : KV kvs vs) : kvs.map (·.1) = vs.map (·.1) := by
  unfold KV at r
  induction r with
  | nil => rfl
  | cons h t ih => rw [List.map_cons, List.map_cons, ih, h.1]
theorem KV.length {kvs : List (κ × V)} {vs : List (κ × Value)} (r : KV kvs vs) : kvs.length = vs.length := Paired.length r
theorem dropK_le (kvs : List (κ × V)) (k : κ) : (dropK kvs k).length ≤ kvs.length := List.length_filter_le _ _
end


/-! ### a tracked dict, its keys ints and texts or tuples of these -/
theorem kV_is {P : Program} {w : World} {k : Key} {u : Value} (r : RelV (kV k) u) : (mixKind P w).is k u = true := by
  cases k with
  | inl i => obtain ⟨t, e⟩ := (show ∃ t, u = Value.int i t from r); subst e; exact mixKind_int P w i t
  | inr x => obtain ⟨t, e⟩ := (show ∃ t, u = Value.str x t from r); subst e; exact mixKind_str P w x t
theorem kV_inj {a b : Key} (e : kV a = kV b) : a = b := by
  cases a with
  | inl i => cases b with
    | inl j => have e' : V.int i = V.int j := e; injection e' with e'; rw [e']
    | inr y => exact nomatch (show V.int i = V.str y from e)
  | inr x => cases b with
    | inl j => exact nomatch (show V.str x = V.int j from e)
    | inr y => have e' : V.str x = V.str y := e; injection e' with e'; rw [e']
theorem kVs_inj : ∀ {a b : List Key}, a.map kV = b.map kV → a = b
  | [], [], _ => rfl
  | [], _ :: _, e => by simp at e
  | _ :: _, [], e => by simp at e
  | x :: xs, y :: ys, e => by
    rw [List.map_cons, List.map_cons] at e
    injection e with e1 e2
    rw [kV_inj e1, kVs_inj e2]
theorem items_are {P : Program} {w : World} : ∀ {ks : List Key} {us : List Value}, Vals (ks.map kV) us → ItemsAre (mixKind P w) ks us
  | [], _, r => by rw [List.map_nil] at r; cases r; exact .nil
  | k :: ks, _, r => by
    rw [List.map_cons] at r
    cases r with
    | cons h t => exact .cons (kV_is h) (items_are t)

/-- raw entries of a dict with tuple keys -/
abbrev KT (H : Hp) : List (List Key × V) → List (List Key × Addr × Value) → Prop := Paired fun p q => p.1 = q.1 ∧ H q.2.1 = some (.tup (p.1.map kV)) ∧ RelV p.2 q.2.2
theorem KT.val {H : Hp} {kvs : List (List Key × V)} {xs : List (List Key × Addr × Value)} (r : KT H kvs xs) (k : List Key) : RelO (valV kvs k) ((atKey xs k).map (·.2)) := by
  induction r with
  | nil => exact True.intro
  | @cons p q ps qs h t ih =>
    obtain ⟨h1, _, h2⟩ := h
    by_cases e : p.1 = k
    · have e' : q.1 = k := h1.symm.trans e
      have b : atKey (q :: qs) k = some q.2 := by simp [atKey, List.find?_cons, e']
      rw [valV_pos e, b]; exact h2
    · have e' : ¬ q.1 = k := fun z => e (h1.trans z)
      have b : atKey (q :: qs) k = atKey qs k := by simp [atKey, List.find?_cons, e']
      rw [valV_neg e, b]; exact ih
theorem KT.repl {H : Hp} {kvs : List (List Key × V)} {xs : List (List Key × Addr × Value)} (r : KT H kvs xs) (k : List Key) {y : V} {u : Value} (ry : RelV y u) :
    KT H (kvs.map fun kv => if kv.1 = k then (kv.1, y) else kv) (xs.map (putAt k u)) := by
  induction r with
  | nil => exact .nil
  | @cons p q ps qs h t ih =>
    rw [List.map_cons, List.map_cons]
    refine .cons ?_ ih
    obtain ⟨h1, h2, h3⟩ := h
    unfold putAt
    by_cases e : p.1 = k
    · rw [if_pos e, if_pos (h1.symm.trans e)]; exact ⟨h1, h2, ry⟩
    · rw [if_neg e, if_neg (fun z => e (h1.trans z))]; exact ⟨h1, h2, h3⟩
theorem KT.put {H : Hp} {kvs : List (List Key × V)} {xs : List (List Key × Addr × Value)} (r : KT H kvs xs) (k : List Key) {b : Addr} {y : V} {u : Value} (hb : H b = some (.tup (k.map kV))) (ry : RelV y u) :
    KT H (putK kvs k y) (storedH xs k b u) := by
  have e : (kvs.any fun kv => decide (kv.1 = k)) = (atKey xs k).isSome := by
    rw [valV_any, (r.val k).isSome_eq, Option.isSome_map]
  unfold putK storedH
  rw [e]
  by_cases q : (atKey xs k).isSome = true
  · rw [if_pos q, if_pos q]; exact r.repl k ry
  · rw [if_neg q, if_neg q]; exact Paired.snoc r ⟨rfl, hb, ry⟩
theorem KT.keeps {H H' : Hp} {kvs : List (List Key × V)} {xs : List (List Key × Addr × Value)} (r : KT H kvs xs) (ht : ∀ b ys, H b = some (.tup ys) → H' b = some (.tup ys)) : KT H' kvs xs :=
  Paired.mapP r fun _ _ z => ⟨z.1, ht _ _ z.2.1, z.2.2⟩

section
variable {P : Program} {w : World} {H : Hp} {h : Heap} {a : Addr}
theorem rd_of {u : HO} (ok : HOk P w H h) (e : Rd H a u) : ObjOk P w H h a u := e.ok ok
theorem dk_rd {kvs : List (Key × V)} (ok : HOk P w H h) (e : Rd H a (.dK kvs)) : kvs.length ≤ sizeLine ∧ (a == sysModules) = false ∧ ∃ vs, KV kvs vs ∧ h.DictOf (mixKind P w) a vs :=
  show ObjOk P w H h a (.dK kvs) from rd_of ok e
theorem dk_of {kvs : List (Key × V)} (ok : HOk P w H h) (e : H a = some (.dK kvs)) : kvs.length ≤ sizeLine ∧ (a == sysModules) = false ∧ ∃ vs, KV kvs vs ∧ h.DictOf (mixKind P w) a vs := dk_rd ok (.inl e)
/-- a tracked tuple of ints and texts is a key -/
theorem key_of {ks : List Key} (ok : HOk P w H h) (e : H a = some (.tup (ks.map kV))) : (tupleKind (mixKind P w)).is h ks a := by
  obtain ⟨_, its, r, o, h1, h2, n, h3⟩ := (show ObjOk P w H h a (.tup (ks.map kV)) from ok a _ e)
  exact ⟨o, its.toArray, n, h1, h2, h3, by simpa using items_are r⟩
theorem dt_rd {kvs : List (List Key × V)} (ok : HOk P w H h) (e : Rd H a (.dT kvs)) : kvs.length ≤ sizeLine ∧ (a == sysModules) = false ∧
    ∃ xs, KT H kvs xs ∧ h.DictOfH (tupleKind (mixKind P w)) a xs := by
  obtain ⟨z, y, xs, r, o, es, ep, h1, h2, h3, h4, h5⟩ := (show ObjOk P w H h a (.dT kvs) from rd_of ok e)
  refine ⟨z, y, xs, r, o, es, ep, h1, h2, h3, h4, fun x hx => ?_, h5⟩
  have all : ∀ {l : List (List Key × V)} {m : List (List Key × Addr × Value)}, KT H l m → ∀ x ∈ m, (tupleKind (mixKind P w)).is h x.1 x.2.1 := by
    intro l m q
    induction q with
    | nil => intro x hx; exact nomatch hx
    | @cons p q ps qs hq t ih =>
      intro x hx
      rcases List.mem_cons.mp hx with e | hx
      · subst e
        exact key_of ok (by rw [← hq.1]; exact hq.2.1)
      · exact ih x hx
  exact all r x hx
theorem dt_of {kvs : List (List Key × V)} (ok : HOk P w H h) (e : H a = some (.dT kvs)) : kvs.length ≤ sizeLine ∧ (a == sysModules) = false ∧
    ∃ xs, KT H kvs xs ∧ h.DictOfH (tupleKind (mixKind P w)) a xs := dt_rd ok (.inl e)
end

/-- what the dict at a holds at the key y -/
def DGet (H : Hp) (a : Addr) (y : V) (r : Option V) : Prop :=
  (∃ kvs k, Rd H a (.dK kvs) ∧ y = kV k ∧ r = valV kvs k) ∨ ∃ kvs k b, Rd H a (.dT kvs) ∧ y = .ref b ∧ H b = some (.tup (k.map kV)) ∧ r = valV kvs k
/-- the heap behind a[y] = v -/
def DPut (H : Hp) (a : Addr) (y v : V) (H' : Hp) : Prop :=
  (∃ kvs k, H a = some (.dK kvs) ∧ y = kV k ∧ kvs.length < sizeLine ∧ H' = upd H a (.dK (putK kvs k v))) ∨
  ∃ kvs k b, H a = some (.dT kvs) ∧ y = .ref b ∧ H b = some (.tup (k.map kV)) ∧ kvs.length < sizeLine ∧ H' = upd H a (.dT (putK kvs k v))
theorem DGet.k {H : Hp} {a : Addr} {kvs : List (Key × V)} {k : Key} (e : H a = some (.dK kvs)) : DGet H a (kV k) (valV kvs k) := .inl ⟨kvs, k, .inl e, rfl, rfl⟩
theorem DGet.t {H : Hp} {a b : Addr} {kvs : List (List Key × V)} {k : List Key} (e : H a = some (.dT kvs)) (eb : H b = some (.tup (k.map kV))) : DGet H a (.ref b) (valV kvs k) := .inr ⟨kvs, k, b, .inl e, rfl, eb, rfl⟩
theorem DPut.k {H : Hp} {a : Addr} {kvs : List (Key × V)} {k : Key} {v : V} (e : H a = some (.dK kvs)) (hl : kvs.length < sizeLine) : DPut H a (kV k) v (upd H a (.dK (putK kvs k v))) := .inl ⟨kvs, k, e, rfl, hl, rfl⟩
theorem DPut.t {H : Hp} {a b : Addr} {kvs : List (List Key × V)} {k : List Key} {v : V} (e : H a = some (.dT kvs)) (eb : H b = some (.tup (k.map kV))) (hl : kvs.length < sizeLine) :
    DPut H a (.ref b) v (upd H a (.dT (putK kvs k v))) := .inr ⟨kvs, k, b, e, rfl, eb, hl, rfl⟩


section
variable {X : Cx} {pins : List (Addr × Obj)} {σ : St} {H : Hp} {s : Shared} {a : Addr} {y v : V} {u r : Value} {o : Option V} {A : Around} {E : Value → Shared → Prop}

theorem Inv.big (I : Inv X pins σ H s) : sysModules < s.heap.objs.size := by
  have h : mainGlobals < s.heap.objs.size := (I.mod.glob.keeps I.bk).lt
  exact Nat.lt_trans (by decide) h

/-- d[y], there -/
theorem d_getItem {Q : Value → Shared → Prop} (hu : A.units + 1 < cLine) (I : Inv X pins σ H s) (g : DGet H a y (some v)) (ry : RelV y u) (h : ∀ w' s', Inv X pins σ H s' → RelV v w' → Q w' s') :
    wpAny (model X.prog X.w) A (getItem (.ref a) u) Q E s := by
  rcases g with ⟨kvs, k, e, ey, l⟩ | ⟨kvs, k, b, e, ey, eb, l⟩
  · subst ey
    obtain ⟨z, hd, vs, rel, dd⟩ := dk_rd I.hok e
    obtain ⟨w', hw, rw'⟩ := RelO.some_of (v := v) (o := valueAt vs k) (by rw [l]; exact rel.val k)
    exact wpAny_getItem_of (kV_is ry) dd.mapOf hw (h w' _ (I.tok _) rw')
  · subst ey
    cases (show u = Value.ref b from ry)
    obtain ⟨z, hd, xs, rel, dd⟩ := dt_rd I.hok e
    obtain ⟨w', hw, rw'⟩ := RelO.some_of (v := v) (o := (atKey xs k).map (·.2)) (by rw [l]; exact rel.val k)
    obtain ⟨p, hp, hp2⟩ := Option.map_eq_some_iff.mp hw
    refine wpAny_getItem_heap (tupleKind_room_in1 hu) (key_of I.hok eb) dd hp ?_
    rw [hp2]
    exact h w' _ (I.tok _) rw'
/-- y in d -/
theorem d_in {Q : Value → Shared → Prop} (hu : A.units + 1 < cLine) (I : Inv X pins σ H s) (g : DGet H a y o) (ry : RelV y u) (h : ∀ s', Inv X pins σ H s' → Q (.bool o.isSome) s') :
    wpAny (model X.prog X.w) A (compareOp .In u (.ref a)) Q E s := by
  rcases g with ⟨kvs, k, e, ey, l⟩ | ⟨kvs, k, b, e, ey, eb, l⟩
  · subst ey
    obtain ⟨z, hd, vs, rel, dd⟩ := dk_rd I.hok e
    refine wpAny_in_of (kV_is ry) hd dd.mapOf ?_
    rw [← (rel.val k).isSome_eq, ← l]
    exact h _ (I.tok _)
  · subst ey
    cases (show u = Value.ref b from ry)
    obtain ⟨z, hd, xs, rel, dd⟩ := dt_rd I.hok e
    refine wpAny_in_heap (tupleKind_room_in1 hu) (key_of I.hok eb) hd dd ?_
    have q := (rel.val k).isSome_eq
    rw [Option.isSome_map] at q
    rw [← q, ← l]
    exact h _ (I.tok _)
theorem d_notIn {Q : Value → Shared → Prop} (hu : A.units + 1 < cLine) (I : Inv X pins σ H s) (g : DGet H a y o) (ry : RelV y u) (h : ∀ s', Inv X pins σ H s' → Q (.bool (!o.isSome)) s') :
    wpAny (model X.prog X.w) A (compareOp .NotIn u (.ref a)) Q E s := by
  rcases g with ⟨kvs, k, e, ey, l⟩ | ⟨kvs, k, b, e, ey, eb, l⟩
  · subst ey
    obtain ⟨z, hd, vs, rel, dd⟩ := dk_rd I.hok e
    refine wpAny_notIn_of (kV_is ry) hd dd.mapOf ?_
    rw [← (rel.val k).isSome_eq, ← l]
    exact h _ (I.tok _)
  · subst ey
    cases (show u = Value.ref b from ry)
    obtain ⟨z, hd, xs, rel, dd⟩ := dt_rd I.hok e
    refine wpAny_notIn_heap (tupleKind_room_in1 hu) (key_of I.hok eb) hd dd ?_
    have q := (rel.val k).isSome_eq
    rw [Option.isSome_map] at q
    rw [← q, ← l]
    exact h _ (I.tok _)
/-- a dict's object is replaced -/
theorem d_write {h' : Heap} {t' : Nat} {ob : HO} (I : Inv X pins σ H s) (mu : Mut (H a)) (hs : Heap.SameBut a s.heap h') (he : ∃ q, h'.get? a = some q) (new : ObjOk X.prog X.w (upd H a ob) h' a ob) :
    Inv X pins σ (upd H a ob) { s with heap := h', toks := t' } :=
  I.write (x := a) (e := a) mu (.inl rfl) (fun b q hb z => (hs.2 b hb).trans z) he new
theorem dk_new {P : Program} {w : World} {H' : Hp} {h' : Heap} {kvs : List (Key × V)} {vs : List (Key × Value)} (z : kvs.length ≤ sizeLine) (hd : (a == sysModules) = false) (rel : KV kvs vs) (dd : h'.DictOf (mixKind P w) a vs) :
    ObjOk P w H' h' a (.dK kvs) := ⟨z, hd, vs, rel, dd⟩
/-- d[y] = v -/
theorem d_setItem {H' : Hp} {Q : Unit → Shared → Prop} (hu : A.units + 1 < cLine) (I : Inv X pins σ H s) (g : DPut H a y v H') (ry : RelV y u) (rv : RelV v r) (h : ∀ s', Inv X pins σ H' s' → Q () s') :
    wpAny (model X.prog X.w) A (setItem (.ref a) u r) Q E s := by
  rcases g with ⟨kvs, k, e, ey, l, eH⟩ | ⟨kvs, k, b, e, ey, eb, l, eH⟩
  · subst ey eH
    obtain ⟨z, hd, vs, rel, dd⟩ := dk_of I.hok e
    have hz : vs.length ≤ sizeLine := by rw [← rel.length]; exact z
    have hl : (putK kvs k v).length ≤ sizeLine := by have := length_putK kvs k v; omega
    refine wpAny_setItem_pairs (hsz := hz) (kV_is ry) dd fun h' dd' hs => h _ ?_
    have he : ∃ q, h'.get? a = some q := let ⟨q, _, _, hq, _⟩ := dd'; ⟨q, hq⟩
    exact d_write I (by rw [e]; exact True.intro) hs he (dk_new hl hd (rel.put k rv) dd')
  · subst ey eH
    cases (show u = Value.ref b from ry)
    obtain ⟨z, hd, xs, rel, dd⟩ := dt_of I.hok e
    have hz : xs.length ≤ sizeLine := by rw [← Paired.length rel]; exact z
    have hl : (putK kvs k v).length ≤ sizeLine := by have := length_putK kvs k v; omega
    refine wpAny_setItem_heap (hsz := hz) (tupleKind_room_in1 hu) (key_of I.hok eb) dd fun h' dd' hs => h _ ?_
    obtain ⟨q, es, ep, hq, h2, h3, h4, _, h5⟩ := dd'
    refine d_write I (by rw [e]; exact True.intro) hs ⟨q, hq⟩ ⟨hl, hd, _, (rel.put k eb rv).keeps fun c ys ec => ?_, q, es, ep, hq, h2, h3, h4, h5⟩
    rw [upd_ne (ne_of ec e (fun z => nomatch z))]
    exact ec
end

section
variable {X : Cx} {pins : List (Addr × Obj)} {σ : St} {H : Hp} {s : Shared} {a : Addr} {kvs : List (Key × V)} {k : Key} {u : Value} {A : Around} {E : Value → Shared → Prop}
/-- del d[k] -/
theorem d_delItem {Q : Unit → Shared → Prop} (I : Inv X pins σ H s) (e : H a = some (.dK kvs)) (ry : RelV (kV k) u) (l : (valV kvs k).isSome = true) (h : ∀ s', Inv X pins σ (upd H a (.dK (dropK kvs k))) s' → Q () s') :
    wpAny (model X.prog X.w) A (delItem (.ref a) u) Q E s := by
  obtain ⟨z, hd, vs, rel, dd⟩ := dk_of I.hok e
  refine wpAny_delItem_slot dd.typeIs (by decide) PySem.F.slot_dict_delitem
    (call_meetsIn PySem.F.slot_dict_delitem dd.typeIs PySem.F.entry_dict_delitem (PySem.F.args_dict_delitem_2 _ _) (meets_dict_delitem_pairs (mixKind X.prog X.w) a (kV_is ry)) ⟨vs, dd, by rw [← rel.length]; exact z, by rw [← (rel.val k).isSome_eq]; exact l, fun h' dd' hs => h _ ?_⟩)
  have he : ∃ q, h'.get? a = some q := let ⟨q, _, _, hq, _⟩ := dd'; ⟨q, hq⟩
  exact d_write I (by rw [e]; exact True.intro) hs he (dk_new (Nat.le_trans (dropK_le kvs k) z) hd (rel.drop k) dd')
/-- d.pop(k[, x]), there -/
theorem d_pop {v : V} {more : List Value} {Q : Value → Shared → Prop} (I : Inv X pins σ H s) (e : H a = some (.dK kvs)) (ry : RelV (kV k) u) (l : valV kvs k = some v) (hm : more = [] ∨ ∃ x, more = [x])
    (h : ∀ w' s', Inv X pins σ (upd H a (.dK (dropK kvs k))) s' → RelV v w' → Q w' s') : wpAny (model X.prog X.w) A (call (.builtin "dict.pop") (.ref a :: u :: more)) Q E s := by
  obtain ⟨z, hd, vs, rel, dd⟩ := dk_of I.hok e
  obtain ⟨w', hw, rw'⟩ := RelO.some_of (v := v) (o := valueAt vs k) (by rw [← l]; exact rel.val k)
  have hp : (keyPart u).isSome = true := by
    cases k with
    | inl i => obtain ⟨t, q⟩ := (show ∃ t, u = Value.int i t from ry); subst q; rfl
    | inr x => obtain ⟨t, q⟩ := (show ∃ t, u = Value.str x t from ry); subst q; rfl
  have ha : argsOk "dict.pop" ⟨.ref a :: u :: more, []⟩ := by
    rcases hm with q | ⟨x, q⟩
    · subst q; exact PySem.F.args_dict_pop_2 _ _
    · subst q; exact PySem.F.args_dict_pop_3 _ _ _
  refine call_meetsIn PySem.F.slot_dict_pop dd.typeIs PySem.F.entry_dict_pop ha (meets_dict_pop_there (mixKind X.prog X.w) a (kV_is ry) more hm hp)
    ⟨vs, w', dd, by rw [← rel.length]; exact z, hw, fun h' dd' hs => h w' _ ?_ rw'⟩
  have he : ∃ q, h'.get? a = some q := let ⟨q, _, _, hq, _⟩ := dd'; ⟨q, hq⟩
  exact d_write I (by rw [e]; exact True.intro) hs he (dk_new (Nat.le_trans (dropK_le kvs k) z) hd (rel.drop k) dd')
/-- d.pop(k, x), not there -/
theorem d_popD {r : Value} {Q : Value → Shared → Prop} (I : Inv X pins σ H s) (e : H a = some (.dK kvs)) (ry : RelV (kV k) u) (l : valV kvs k = none) (h : ∀ s', Inv X pins σ H s' → Q r s') :
    wpAny (model X.prog X.w) A (call (.builtin "dict.pop") [.ref a, u, r]) Q E s := by
  obtain ⟨z, hd, vs, rel, dd⟩ := dk_of I.hok e
  have hn : valueAt vs k = none := RelO.none_of (by rw [← l]; exact rel.val k)
  have hp : (keyPart u).isSome = true := by
    cases k with
    | inl i => obtain ⟨t, q⟩ := (show ∃ t, u = Value.int i t from ry); subst q; rfl
    | inr x => obtain ⟨t, q⟩ := (show ∃ t, u = Value.str x t from ry); subst q; rfl
  exact call_meetsIn PySem.F.slot_dict_pop dd.typeIs PySem.F.entry_dict_pop (PySem.F.args_dict_pop_3 _ _ _) (meets_dict_pop_default (mixKind X.prog X.w) a (kV_is ry) hd hp r) ⟨vs, dd, hn, h _ (I.tok _)⟩
/-- d.clear() -/
theorem d_clear {Q : Value → Shared → Prop} (I : Inv X pins σ H s) (e : H a = some (.dK kvs)) (h : ∀ s', Inv X pins σ (upd H a (.dK [])) s' → Q .none s') : wpAny (model X.prog X.w) A (call (.builtin "dict.clear") [.ref a]) Q E s := by
  obtain ⟨z, hd, vs, rel, dd⟩ := dk_of I.hok e
  refine call_meetsIn PySem.F.slot_dict_clear dd.typeIs PySem.F.entry_dict_clear (PySem.F.args_dict_clear_1 _) (meets_dict_clear (mixKind X.prog X.w) a) ⟨vs, dd, by rw [← rel.length]; exact z, fun h' dd' hs => h _ ?_⟩
  have he : ∃ q, h'.get? a = some q := let ⟨q, _, _, hq, _⟩ := dd'; ⟨q, hq⟩
  exact d_write (t' := s.toks) I (by rw [e]; exact True.intro) hs he (dk_new (Nat.zero_le _) hd .nil dd')
/-- len(d) -/
theorem d_len {Q : Value → Shared → Prop} (I : Inv X pins σ H s) (e : Rd H a (.dK kvs)) (h : ∀ t s', Inv X pins σ H s' → Q (.int kvs.length t) s') : wpAny (model X.prog X.w) A (call (.builtin "len") [.ref a]) Q E s := by
  obtain ⟨z, hd, vs, rel, dd⟩ := dk_rd I.hok e
  refine call_len_dict hd dd (by rw [← rel.length]; rw [sizeLine_eq] at z; omega) ?_
  rw [← rel.length]
  exact h _ _ (I.tok _)
/-- if d -/
theorem d_truth {Q : Bool → Shared → Prop} (I : Inv X pins σ H s) (e : Rd H a (.dK kvs)) (h : ∀ s', Inv X pins σ H s' → Q (!kvs.isEmpty) s') : wpAny (model X.prog X.w) A (truthy (.ref a)) Q E s := by
  obtain ⟨z, hd, vs, rel, dd⟩ := dk_rd I.hok e
  refine wpAny_truthy_dict hd dd (by rw [← rel.length]; rw [sizeLine_eq] at z; omega) ?_
  have q : kvs.isEmpty = vs.isEmpty := by cases rel <;> rfl
  rw [← q]
  exact h _ (I.tok _)
end


/-! ### readings and rules -/
/-- the element of a subscription, not a slice -/
def NoSl (i : Expr) : Prop := ∀ ov iv, subscripted i false ov iv = operate [ov, iv] (getItem ov iv)
theorem subD_of {prog : Program} {w : World} {A : Around} {E : Value → Shared → Prop} {s : Shared} {env : Env} {value slice : Expr} {pos : Pos} {T id : String} {Q : Value → Shared → Prop}
    (hl : typeLookup (.type T) "__getitem__" = pure (some (.builtin id))) (hs : NoSl slice)
    (h : wpAny (model prog w) A (eval value env) (fun o s₁ => wpAny (model prog w) A (eval slice env) (fun i s₂ => s₂.TypeIs o T ∧ wpAny (model prog w) A (getItem o i) Q E s₂) E s₁) E s) :
    wpAny (model prog w) A (eval (.Subscript value slice pos) env) Q E s := by
  refine Subscript_ (wpAny_mono h (fun o s₁ h₁ => wpAny_mono h₁ (fun i s₂ h₂ => ?_) fun _ _ x => x) fun _ _ x => x)
  obtain ⟨hT, h₂⟩ := h₂
  unfold subscriptTail
  refine wpAny_bind ?_
  rw [getitemInPython_of_ne hT.not_modules]
  refine wpAny_bind (wpAny_specialOf hT hl ?_)
  have fin : wpAny (model prog w) A (subscripted slice false o i) (fun r s₃ => wpAny (model prog w) A (letTemporaryGo value o r >>= fun _ => pure r) Q E s₃) E s₂ := by
    rw [hs o i]
    exact wpAny_operating (wpAny_mono h₂ (fun r s₃ h₃ => wpAny_bind (wpAny_letTemporaryGo (wpAny_pure h₃))) fun _ _ x => x)
  first
    | exact wpAny_pure (wpAny_bind fin)
    | exact wpAny_bind (wpAny_pure (wpAny_bind fin))
    | exact wpAny_bind fin

theorem dict_typeIs {X : Cx} {pins : List (Addr × Obj)} {σ : St} {H : Hp} {s : Shared} {a : Addr} {y : V} {o : Option V} (I : Inv X pins σ H s) (g : DGet H a y o) : s.TypeIs (.ref a) "dict" := by
  rcases g with ⟨kvs, k, e, _, _⟩ | ⟨kvs, k, b, e, _, _, _⟩
  · obtain ⟨_, _, vs, _, dd⟩ := dk_rd I.hok e
    exact dd.typeIs
  · obtain ⟨_, _, xs, _, dd⟩ := dt_rd I.hok e
    exact dd.typeIs
theorem dict_noDict {X : Cx} {pins : List (Addr × Obj)} {σ : St} {H : Hp} {s : Shared} {a : Addr} {y : V} {o : Option V} (I : Inv X pins σ H s) (g : DGet H a y o) :
    ∀ b, Value.ref a = .ref b → ∃ ob, s.heap.get? b = some ob ∧ ob.dict = none := fun b q => by
  cases q
  rcases g with ⟨kvs, k, e, _, _⟩ | ⟨kvs, k, b, e, _, _, _⟩
  · obtain ⟨_, _, vs, _, ob, _, _, h1, h2, _⟩ := dk_rd I.hok e
    exact ⟨ob, h1, h2.2.1⟩
  · obtain ⟨_, _, xs, _, ob, _, _, h1, h2, _⟩ := dt_rd I.hok e
    exact ⟨ob, h1, h2.2.1⟩

/-- d[y] -/
def tDGet (td ty : TE) : TE := fun σ H Q => td σ H fun x H1 => ty σ H1 fun y H2 => ∃ a v, x = .ref a ∧ DGet H2 a y (some v) ∧ Q v H2
/-- y in d, y not in d -/
def tDIn (ty td : TE) : TE := fun σ H Q => ty σ H fun y H1 => td σ H1 fun x H2 => ∃ a o, x = .ref a ∧ DGet H2 a y o ∧ Q (.bl o.isSome) H2
def tDNotIn (ty td : TE) : TE := fun σ H Q => ty σ H fun y H1 => td σ H1 fun x H2 => ∃ a o, x = .ref a ∧ DGet H2 a y o ∧ Q (.bl (!o.isSome)) H2
/-- d[y] = v -/
def sDPut (td ty tv : TE) : TS := fun D σ H => tv σ H fun v H1 => td σ H1 fun x H2 => ty σ H2 fun y H3 => ∃ a H4, x = .ref a ∧ DPut H3 a y v H4 ∧ D.nx σ H4
/-- d[y] op= v -/
def sDAug (td ty tv : TE) (rd : V → V → Hp → VK → Prop) : TS := fun D σ H => td σ H fun x H1 => ty σ H1 fun y H2 => ∃ a v, x = .ref a ∧ DGet H2 a y (some v) ∧
  tv σ H2 fun y2 H3 => rd v y2 H3 fun z H4 => ∃ H5, DPut H4 a y z H5 ∧ D.nx σ H5
/-- del d[y] -/
def sDDel (td ty : TE) : TS := fun D σ H => td σ H fun x H1 => ty σ H1 fun y H2 => ∃ a kvs k, x = .ref a ∧ H2 a = some (.dK kvs) ∧ y = kV k ∧ (valV kvs k).isSome = true ∧ D.nx σ (upd H2 a (.dK (dropK kvs k)))

section
variable {X : Cx} {o i e value : Expr} {pos pos' tpos : Pos} {td ty tv : TE}
theorem pe_dget (hu : X.A.units + 1 < cLine) (ho : PE X o td) (hi : PE X i ty) (hs : NoSl i) : PE X (.Subscript o i pos) (tDGet td ty) := by
  intro pins s σ H Q I h
  refine subD_of PySem.F.slot_dict_getitem.lookup hs (thn (ho pins s σ H _ I h) fun u s1 ⟨x, H1, I1, rx, q1⟩ => thn (hi pins s1 σ H1 _ I1 q1) fun iv s2 ⟨y, H2, I2, ry, a, v, ex, g, q2⟩ => ?_)
  subst ex
  obtain rfl : u = Value.ref a := rx
  exact ⟨dict_typeIs I2 g, d_getItem hu I2 g ry fun w' s3 I3 rw' => ⟨v, H2, I3, rw', q2⟩⟩
theorem pc_din (hu : X.A.units + 1 < cLine) (hi : PE X i ty) (ho : PE X o td) : PC X .In i o (tDIn ty td) := by
  intro pins s σ H Q I h
  refine thn (hi pins s σ H _ I h) fun iv s1 ⟨y, H1, I1, ry, q1⟩ => thn (ho pins s1 σ H1 _ I1 q1) fun u s2 ⟨x, H2, I2, rx, a, ov, ex, g, q2⟩ => ?_
  subst ex
  obtain rfl : u = Value.ref a := rx
  exact d_in hu I2 g ry fun s3 I3 => ⟨.bl ov.isSome, H2, I3, rfl, q2⟩
theorem pc_dnotin (hu : X.A.units + 1 < cLine) (hi : PE X i ty) (ho : PE X o td) : PC X .NotIn i o (tDNotIn ty td) := by
  intro pins s σ H Q I h
  refine thn (hi pins s σ H _ I h) fun iv s1 ⟨y, H1, I1, ry, q1⟩ => thn (ho pins s1 σ H1 _ I1 q1) fun u s2 ⟨x, H2, I2, rx, a, ov, ex, g, q2⟩ => ?_
  subst ex
  obtain rfl : u = Value.ref a := rx
  exact d_notIn hu I2 g ry fun s3 I3 => ⟨.bl (!ov.isSome), H2, I3, rfl, q2⟩
theorem ps_dput (hu : X.A.units + 1 < cLine) (ho : PE X o td) (hi : PE X i ty) (hv : PE X value tv) (hs : swapsWith value (some (.Subscript o i pos')) pos.line X.env = pure false) :
    PS X (.Assign [.Subscript o i pos'] value pos) (sDPut td ty tv) := by
  intro pins s σ H D I h
  refine wpAny_Assign_Subscript (thn (hv pins s σ H _ I h) fun r s1 ⟨v, H1, I1, rv, q1⟩ => thn (ho pins s1 σ H1 _ I1 q1) fun u s2 ⟨x, H2, I2, rx, q2⟩ => thn (hi pins s2 σ H2 _ I2 q2) fun iv s3 ⟨y, H3, I3, ry, a, H4, ex, g, q3⟩ => ?_) hs
  subst ex
  obtain rfl : u = Value.ref a := rx
  exact d_setItem hu I3 g ry rv fun s4 I4 => ⟨σ, H4, I4, q3⟩
theorem ps_daug {op : Operator} {rd : V → V → Hp → VK → Prop} (hu : X.A.units + 1 < cLine) (ho : PE X o td) (hi : PE X i ty) (hv : PE X value tv) (hop : InOp X op rd)
    (ha : ∀ ov iv new, augStore i ov iv new = (do holding [new, ov, iv] (setItem ov iv new); release [new, ov, iv] []; pure .next)) : PS X (.AugAssign (.Subscript o i tpos) op value pos) (sDAug td ty tv rd) := by
  intro pins s σ H D I h
  refine wpAny_AugAssign_SubscriptAny (thn (ho pins s σ H _ I h) fun u s1 ⟨x, H1, I1, rx, q1⟩ => thn (hi pins s1 σ H1 _ I1 q1) fun iv s2 ⟨y, H2, I2, ry, a, v, ex, g, q2⟩ => ?_) ha
  subst ex
  obtain rfl : u = Value.ref a := rx
  refine d_getItem hu I2 g ry fun w' s3 I3 rw' => thn (hv pins s3 σ H2 _ I3 q2) fun w2 s4 ⟨y2, H3, I4, ry2, q3⟩ => thn (hop pins s4 σ H3 v y2 w' w2 _ I4 rw' ry2 q3) fun w3 s5 ⟨z, H4, I5, rz, H5, g5, q4⟩ => ?_
  exact d_setItem hu I5 g5 ry rz fun s6 I6 => ⟨σ, H5, I6, q4⟩
theorem ps_ddel (ho : PE X o td) (hi : PE X i ty) : PS X (.Delete [.Subscript o i tpos] pos) (sDDel td ty) := by
  intro pins s σ H D I h
  refine wpAny_Delete (wpAny_deleteEach_cons (wpAny_delete_Subscript (thn (ho pins s σ H _ I h) fun u s1 ⟨x, H1, I1, rx, q1⟩ => thn (hi pins s1 σ H1 _ I1 q1) fun iv s2 ⟨y, H2, I2, ry, a, kvs, k, ex, e, ey, l, q2⟩ => ?_)))
  subst ex ey
  obtain rfl : u = Value.ref a := rx
  exact d_delItem I2 e ry l fun s3 I3 => wpAny_deleteEach_nil ⟨σ, _, I3, q2⟩
end


/-! ### displays -/
theorem dk_empty {P : Program} {w : World} {H : Hp} (h : Heap) (hb : sysModules < h.objs.size) : ObjOk P w H (h.push { cls := .type "dict", data := .dict #[] }) h.objs.size (.dK []) :=
  ⟨Nat.zero_le _, beq_eq_false_iff_ne.mpr (Ne.symm (Nat.ne_of_lt hb)), [], .nil, Heap.DictOf.new h⟩
theorem dt_empty {P : Program} {w : World} {H : Hp} (h : Heap) (hb : sysModules < h.objs.size) : ObjOk P w H (h.push { cls := .type "dict", data := .dict #[] }) h.objs.size (.dT []) :=
  ⟨Nat.zero_le _, beq_eq_false_iff_ne.mpr (Ne.symm (Nat.ne_of_lt hb)), [], .nil, _, #[], 0, Heap.get?_push_size _ rfl, ⟨rfl, rfl, rfl⟩, rfl, rfl, List.nodup_nil⟩
/-- {}, to be a dict of the kind that is wanted -/
def tDNewK : TE := fun _ H Q => ∀ p, H p = none → Q (.ref p) (upd H p (.dK []))
def tDNewT : TE := fun _ H Q => ∀ p, H p = none → Q (.ref p) (upd H p (.dT []))
section
variable {X : Cx} {pos : Pos}
theorem pe_dnewK : PE X (.Dict [] [] pos) tDNewK := fun pins s σ H Q I h =>
  wpAny_Dict_empty ⟨.ref s.heap.objs.size, _, I.laid (a := s.heap.objs.size) (o := .dK []) (t' := s.toks) (fun _ _ q => Heap.get?_push_of_some _ q) (Nat.le_refl _) (dk_empty s.heap I.big), rfl, h _ (I.hok.fresh (Nat.le_refl _))⟩
theorem pe_dnewT : PE X (.Dict [] [] pos) tDNewT := fun pins s σ H Q I h =>
  wpAny_Dict_empty ⟨.ref s.heap.objs.size, _, I.laid (a := s.heap.objs.size) (o := .dT []) (t' := s.toks) (fun _ _ q => Heap.get?_push_of_some _ q) (Nat.le_refl _) (dt_empty s.heap I.big), rfl, h _ (I.hok.fresh (Nat.le_refl _))⟩
end

/-- the pairs of a display, from the left -/
def tPairs : List (TE × TE) → St → Hp → (List (V × V) → Hp → Prop) → Prop
  | [], _, H, Q => Q [] H
  | (tk, tv) :: r, σ, H, Q => tk σ H fun x H1 => tv σ H1 fun y H2 => tPairs r σ H2 fun ps H3 => Q ((x, y) :: ps) H3
abbrev VV : List (V × V) → List (Value × Value) → Prop := Paired fun p q => RelV p.1 q.1 ∧ RelV p.2 q.2
def PPs (X : Cx) (pos : Pos) (keys : List (Option Expr)) (values : List Expr) (trs : List (TE × TE)) : Prop :=
  ∀ (pins : List (Addr × Obj)) (s : Shared) (σ : St) (H : Hp) (Q : List (V × V) → Hp → Prop), Inv X pins σ H s → tPairs trs σ H Q →
    wpAny (model X.prog X.w) X.A (evalPairs (pairTrees keys values X.env pos)) (fun vs s' => ∃ ps H', Inv X pins σ H' s' ∧ VV ps vs ∧ Q ps H') X.xe s
theorem pps_nil {X : Cx} {pos : Pos} : PPs X pos [] [] [] := fun pins s σ H Q I h => pairTrees_nil_walk ⟨[], H, I, .nil, h⟩
theorem pps_cons {X : Cx} {pos : Pos} {k v : Expr} {ks : List (Option Expr)} {vs : List Expr} {tk tv : TE} {trs : List (TE × TE)} (hk : PE X k tk) (hv : PE X v tv) (hr : PPs X pos ks vs trs) :
    PPs X pos (some k :: ks) (v :: vs) ((tk, tv) :: trs) := fun pins s σ H Q I h =>
  pairTrees_cons_walk (thn (hk pins s σ H _ I h) fun u s1 ⟨x, H1, I1, rx, q1⟩ => thn (hv pins s1 σ H1 _ I1 q1) fun w2 s2 ⟨y, H2, I2, ry, q2⟩ =>
    thn (hr pins s2 σ H2 _ I2 q2) fun ws s3 ⟨ps, H3, I3, rel, q3⟩ => ⟨(x, y) :: ps, H3, I3, .cons ⟨rx, ry⟩ rel, q3⟩)

def mergeK (kvs more : List (Key × V)) : List (Key × V) := more.foldl (fun acc kv => putK acc kv.1 kv.2) kvs
theorem KV.merge : ∀ {more : List (Key × V)} {rs : List (Key × Value)} {kvs : List (Key × V)} {vs : List (Key × Value)}, KV more rs → KV kvs vs → KV (mergeK kvs more) (merged vs rs) := by
  intro more rs kvs vs r
  unfold KV at r
  induction r generalizing kvs vs with
  | nil => intro q; exact q
  | @cons p q ps qs h t ih =>
    intro r0
    have e : KV (putK kvs p.1 p.2) (stored vs q.1 q.2) := by
      have := r0.put p.1 h.2
      rw [← h.1]; exact this
    exact ih e
theorem length_mergeK : ∀ (more kvs : List (Key × V)), (mergeK kvs more).length ≤ kvs.length + more.length
  | [], kvs => by show kvs.length ≤ kvs.length + 0; omega
  | p :: r, kvs => by
    have h1 := length_mergeK r (putK kvs p.1 p.2)
    have h2 := length_putK kvs p.1 p.2
    show (mergeK (putK kvs p.1 p.2) r).length ≤ _
    rw [List.length_cons]; omega
theorem carries_of {P : Program} {w : World} : ∀ {kvs : List (Key × V)} {ws : List (Value × Value)}, VV (kvs.map fun kv => (kV kv.1, kv.2)) ws → ∃ rs, Carries (mixKind P w) ws rs ∧ KV kvs rs
  | [], _, r => by rw [List.map_nil] at r; cases r; exact ⟨[], True.intro, .nil⟩
  | p :: kvs, _, r => by
    rw [List.map_cons] at r
    cases r with
    | @cons a b as bs h t =>
      obtain ⟨rs, c, q⟩ := carries_of (P := P) (w := w) t
      obtain ⟨b1, b2⟩ := b
      exact ⟨(p.1, b2) :: rs, ⟨kV_is h.1, rfl, c⟩, .cons ⟨rfl, h.2⟩ q⟩
/-- {k: v, ..} with keys ints and texts; the new dict stands empty while the pairs are made -/
def tDisp (trs : List (TE × TE)) : TE := fun σ H Q => ∀ p, H p = none → tPairs trs σ (upd H p (.dK [])) fun ps H2 => H2 p = some (.dK []) ∧ ∃ kvs : List (Key × V), ps = kvs.map (fun kv => (kV kv.1, kv.2)) ∧ kvs.length ≤ 15 ∧ Q (.ref p) (upd H2 p (.dK (mergeK [] kvs)))
theorem pe_disp {X : Cx} {pos : Pos} {keys : List (Option Expr)} {values : List Expr} {trs : List (TE × TE)} (h : PPs X pos keys values trs) (hall : keys.all (·.isSome) = true) (hl : keys.length = values.length) (h0 : keys ≠ [])
    (h15 : keys.length ≤ 15) : PE X (.Dict keys values pos) (tDisp trs) := by
  intro pins s σ H Q I q
  have hn := I.hok.fresh (Nat.le_refl s.heap.objs.size)
  have I1 := I.laid (a := s.heap.objs.size) (o := .dK []) (h' := s.heap.push { cls := .type "dict", data := .dict #[] }) (t' := s.toks) (fun _ _ q => Heap.get?_push_of_some _ q) (Nat.le_refl _) (dk_empty s.heap I.big)
  refine wpAny_Dict_walk (knd := mixKind X.prog X.w) hall hl h0 h15 (thn (h pins _ σ _ _ I1 (q _ hn)) fun ws s2 ⟨ps, H2, I2, rel, e, kvs, ep, lk, q2⟩ => ?_)
  subst ep
  obtain ⟨rs, c, rk⟩ := carries_of (P := X.prog) (w := X.w) rel
  obtain ⟨z, hd, vs0, r0, dd⟩ := dk_of I2.hok e
  cases r0
  refine ⟨rs, c, dd, fun h' dd' hs => ⟨.ref s.heap.objs.size, _, ?_, rfl, q2⟩⟩
  have hz : (mergeK [] kvs).length ≤ sizeLine := by
    have h1 := length_mergeK kvs []
    rw [List.length_nil] at h1
    rw [sizeLine_eq]; omega
  have he : ∃ q, h'.get? s.heap.objs.size = some q := let ⟨q, _, _, hq, _⟩ := dd'; ⟨q, hq⟩
  exact d_write I2 (by rw [e]; exact True.intro) hs he (dk_new hz hd (rk.merge .nil) dd')


/-! ### methods -/
/-- a method call o.m(e) of a built-in, with one argument: what must be seen of the text -/
structure M1 (X : Cx) (o : Expr) (m : Str) (apos : Pos) (e : Expr) (cpos : Pos) : Prop where
  base : attributeBase o m X.env (eval o X.env) = eval o X.env
  few : ((backTo cpos (starEach [e] X.env)).all (fun x => !x.1) && (backToKw cpos (keywordEach [] X.env)).all (fun x => x.1.isSome)
    && decide (([e] : List Expr).length + ([] : List Keyword).length + (if ([] : List Keyword).isEmpty then 0 else 1) < 30)) = true
  line : (apos.endLine == cpos.line) = true
  trees : backTo cpos (starEach [e] X.env) = [(false, eval e X.env)]
structure M2 (X : Cx) (o : Expr) (m : Str) (apos : Pos) (e f : Expr) (cpos : Pos) : Prop where
  base : attributeBase o m X.env (eval o X.env) = eval o X.env
  few : ((backTo cpos (starEach [e, f] X.env)).all (fun x => !x.1) && (backToKw cpos (keywordEach [] X.env)).all (fun x => x.1.isSome)
    && decide (([e, f] : List Expr).length + ([] : List Keyword).length + (if ([] : List Keyword).isEmpty then 0 else 1) < 30)) = true
  line : (apos.endLine == cpos.line) = true
  trees : backTo cpos (starEach [e, f] X.env) = [(false, eval e X.env), (false, eval f X.env)]

/-- a is a dict, whatever its keys -/
def IsD (H : Hp) (a : Addr) : Prop := (∃ kvs, Rd H a (.dK kvs)) ∨ ∃ kvs, Rd H a (.dT kvs)
theorem isD_at {X : Cx} {pins : List (Addr × Obj)} {σ : St} {H : Hp} {s : Shared} {a : Addr} (I : Inv X pins σ H s) (d : IsD H a) :
    s.TypeIs (.ref a) "dict" ∧ (∀ b, Value.ref a = .ref b → ∃ ob, s.heap.get? b = some ob ∧ ob.dict = none) ∧ (a == sysModules) = false := by
  rcases d with ⟨kvs, e⟩ | ⟨kvs, e⟩
  · obtain ⟨_, hd, vs, _, dd⟩ := dk_rd I.hok e
    refine ⟨dd.typeIs, fun b q => ?_, hd⟩
    cases q
    obtain ⟨ob, _, _, h1, h2, _⟩ := dd
    exact ⟨ob, h1, h2.2.1⟩
  · obtain ⟨_, hd, xs, _, dd⟩ := dt_rd I.hok e
    refine ⟨dd.typeIs, fun b q => ?_, hd⟩
    cases q
    obtain ⟨ob, _, _, h1, h2, _⟩ := dd
    exact ⟨ob, h1, h2.2.1⟩

section
variable {X : Cx} {pins : List (Addr × Obj)} {σ : St} {H : Hp} {s : Shared} {a : Addr} {y d : V} {u r : Value} {o : Option V} {A : Around} {E : Value → Shared → Prop}
/-- d.get(y) -/
theorem d_get1 {Q : Value → Shared → Prop} (hu : A.units + 1 < cLine) (I : Inv X pins σ H s) (g : DGet H a y o) (ry : RelV y u) (h : ∀ w' s', Inv X pins σ H s' → RelV (o.getD .non) w' → Q w' s') :
    wpAny (model X.prog X.w) A (call (.builtin "dict.get") [.ref a, u]) Q E s := by
  rcases g with ⟨kvs, k, e, ey, l⟩ | ⟨kvs, k, b, e, ey, eb, l⟩
  · subst ey
    obtain ⟨z, hd, vs, rel, dd⟩ := dk_rd I.hok e
    refine call_meetsIn PySem.F.slot_dict_get dd.typeIs PySem.F.entry_dict_get (PySem.F.args_dict_get_2 _ _) (meets_dict_get (mixKind X.prog X.w) a (kV_is ry) hd) ⟨_, dd.mapOf, h _ _ (I.tok _) ?_⟩
    rw [l]
    exact (rel.val k).getD rfl
  · subst ey
    cases (show u = Value.ref b from ry)
    obtain ⟨z, hd, xs, rel, dd⟩ := dt_rd I.hok e
    refine call_meetsIn PySem.F.slot_dict_get dd.typeIs PySem.F.entry_dict_get (PySem.F.args_dict_get_2 _ _) (meetsH_dict_get (tupleKind (mixKind X.prog X.w)) a b hd) ⟨tupleKind_room_in1 hu, k, xs, key_of I.hok eb, dd, h _ _ (I.tok _) ?_⟩
    rw [l]
    exact (rel.val k).getD rfl
/-- d.get(y, x) -/
theorem d_get2 {Q : Value → Shared → Prop} (hu : A.units + 1 < cLine) (I : Inv X pins σ H s) (g : DGet H a y o) (ry : RelV y u) (rd : RelV d r) (h : ∀ w' s', Inv X pins σ H s' → RelV (o.getD d) w' → Q w' s') :
    wpAny (model X.prog X.w) A (call (.builtin "dict.get") [.ref a, u, r]) Q E s := by
  rcases g with ⟨kvs, k, e, ey, l⟩ | ⟨kvs, k, b, e, ey, eb, l⟩
  · subst ey
    obtain ⟨z, hd, vs, rel, dd⟩ := dk_rd I.hok e
    refine call_meetsIn PySem.F.slot_dict_get dd.typeIs PySem.F.entry_dict_get (PySem.F.args_dict_get_3 _ _ _) (meets_dict_get_default (mixKind X.prog X.w) a (kV_is ry) hd r) ⟨_, dd.mapOf, h _ _ (I.tok _) ?_⟩
    rw [l]
    exact (rel.val k).getD rd
  · subst ey
    cases (show u = Value.ref b from ry)
    obtain ⟨z, hd, xs, rel, dd⟩ := dt_rd I.hok e
    refine call_meetsIn PySem.F.slot_dict_get dd.typeIs PySem.F.entry_dict_get (PySem.F.args_dict_get_3 _ _ _) (meetsH_dict_get_default (tupleKind (mixKind X.prog X.w)) a b hd r) ⟨tupleKind_room_in1 hu, k, xs, key_of I.hok eb, dd, h _ _ (I.tok _) ?_⟩
    rw [l]
    exact (rel.val k).getD rd
end

def tDGet1 (td ty : TE) : TE := fun σ H Q => td σ H fun x H1 => ∃ a, x = .ref a ∧ IsD H1 a ∧ ty σ H1 fun y H2 => ∃ o, DGet H2 a y o ∧ Q (o.getD .non) H2
def tDGet2 (td ty tx : TE) : TE := fun σ H Q => td σ H fun x H1 => ∃ a, x = .ref a ∧ IsD H1 a ∧ ty σ H1 fun y H2 => tx σ H2 fun z H3 => ∃ o, DGet H3 a y o ∧ Q (o.getD z) H3
/-- d.pop(k): there; d.pop(k, x): there or not -/
def tDPop1 (td ty : TE) : TE := fun σ H Q => td σ H fun x H1 => ∃ a, x = .ref a ∧ IsD H1 a ∧ ty σ H1 fun y H2 => ∃ kvs k v, H2 a = some (.dK kvs) ∧ y = kV k ∧ valV kvs k = some v ∧ Q v (upd H2 a (.dK (dropK kvs k)))
def tDPop2 (td ty tx : TE) : TE := fun σ H Q => td σ H fun x H1 => ∃ a, x = .ref a ∧ IsD H1 a ∧ ty σ H1 fun y H2 => tx σ H2 fun z H3 => ∃ kvs k, H3 a = some (.dK kvs) ∧ y = kV k ∧
  (∀ v, valV kvs k = some v → Q v (upd H3 a (.dK (dropK kvs k)))) ∧ (valV kvs k = none → Q z H3)
section
variable {X : Cx} {o e f : Expr} {apos cpos : Pos} {td ty tx : TE}
theorem pe_dget1 (hu : X.A.units + 1 < cLine) (ho : PE X o td) (he : PE X e ty) (m : M1 X o "get" apos e cpos) : PE X (.Call (.Attribute o "get" apos) [e] [] cpos) (tDGet1 td ty) := by
  intro pins s σ H Q I h
  refine wpAny_Call_method m.base m.few m.line PySem.F.plainAttrs_dict PySem.F.slot_dict_get PySem.F.type_dict_get (thn (ho pins s σ H _ I h) fun u s1 ⟨x, H1, I1, rx, a, ex, d, q1⟩ => ?_)
  subst ex
  obtain rfl : u = Value.ref a := rx
  obtain ⟨t1, t2, _⟩ := isD_at I1 d
  refine ⟨t1, t2, ?_⟩
  rw [m.trees]
  refine Calls.callWith_builtin rfl (Calls.evalArgs_plain (Calls.spliced_cons (thn (he pins s1 σ H1 _ I1 q1) fun iv s2 ⟨y, H2, I2, ry, ov, g, q2⟩ => Calls.spliced_nil ?_)))
  exact d_get1 hu I2 g ry fun w' s3 I3 rw' => ⟨_, H2, I3, rw', q2⟩
theorem pe_dget2 (hu : X.A.units + 1 < cLine) (ho : PE X o td) (he : PE X e ty) (hf : PE X f tx) (m : M2 X o "get" apos e f cpos) : PE X (.Call (.Attribute o "get" apos) [e, f] [] cpos) (tDGet2 td ty tx) := by
  intro pins s σ H Q I h
  refine wpAny_Call_method m.base m.few m.line PySem.F.plainAttrs_dict PySem.F.slot_dict_get PySem.F.type_dict_get (thn (ho pins s σ H _ I h) fun u s1 ⟨x, H1, I1, rx, a, ex, d, q1⟩ => ?_)
  subst ex
  obtain rfl : u = Value.ref a := rx
  obtain ⟨t1, t2, _⟩ := isD_at I1 d
  refine ⟨t1, t2, ?_⟩
  rw [m.trees]
  refine Calls.callWith_builtin rfl (Calls.evalArgs_plain (Calls.spliced_cons (thn (he pins s1 σ H1 _ I1 q1) fun iv s2 ⟨y, H2, I2, ry, q2⟩ =>
    Calls.spliced_cons (thn (hf pins s2 σ H2 _ I2 q2) fun fv s3 ⟨z, H3, I3, rz, ov, g, q3⟩ => Calls.spliced_nil ?_))))
  exact d_get2 hu I3 g ry rz fun w' s4 I4 rw' => ⟨_, H3, I4, rw', q3⟩
theorem pe_dpop1 (ho : PE X o td) (he : PE X e ty) (m : M1 X o "pop" apos e cpos) : PE X (.Call (.Attribute o "pop" apos) [e] [] cpos) (tDPop1 td ty) := by
  intro pins s σ H Q I h
  refine wpAny_Call_method m.base m.few m.line PySem.F.plainAttrs_dict PySem.F.slot_dict_pop PySem.F.type_dict_pop (thn (ho pins s σ H _ I h) fun u s1 ⟨x, H1, I1, rx, a, ex, d, q1⟩ => ?_)
  subst ex
  obtain rfl : u = Value.ref a := rx
  obtain ⟨t1, t2, _⟩ := isD_at I1 d
  refine ⟨t1, t2, ?_⟩
  rw [m.trees]
  refine Calls.callWith_builtin rfl (Calls.evalArgs_plain (Calls.spliced_cons (thn (he pins s1 σ H1 _ I1 q1) fun iv s2 ⟨y, H2, I2, ry, kvs, k, v, ea, ey, l, q2⟩ => Calls.spliced_nil ?_)))
  subst ey
  exact d_pop I2 ea ry l (.inl rfl) fun w' s3 I3 rw' => ⟨v, _, I3, rw', q2⟩
theorem pe_dpop2 (ho : PE X o td) (he : PE X e ty) (hf : PE X f tx) (m : M2 X o "pop" apos e f cpos) : PE X (.Call (.Attribute o "pop" apos) [e, f] [] cpos) (tDPop2 td ty tx) := by
  intro pins s σ H Q I h
  refine wpAny_Call_method m.base m.few m.line PySem.F.plainAttrs_dict PySem.F.slot_dict_pop PySem.F.type_dict_pop (thn (ho pins s σ H _ I h) fun u s1 ⟨x, H1, I1, rx, a, ex, d, q1⟩ => ?_)
  subst ex
  obtain rfl : u = Value.ref a := rx
  obtain ⟨t1, t2, _⟩ := isD_at I1 d
  refine ⟨t1, t2, ?_⟩
  rw [m.trees]
  refine Calls.callWith_builtin rfl (Calls.evalArgs_plain (Calls.spliced_cons (thn (he pins s1 σ H1 _ I1 q1) fun iv s2 ⟨y, H2, I2, ry, q2⟩ =>
    Calls.spliced_cons (thn (hf pins s2 σ H2 _ I2 q2) fun fv s3 ⟨z, H3, I3, rz, kvs, k, ea, ey, q3, q4⟩ => Calls.spliced_nil ?_))))
  subst ey
  cases l : valV kvs k with
  | some v => exact d_pop I3 ea ry l (.inr ⟨fv, rfl⟩) fun w' s4 I4 rw' => ⟨v, _, I4, rw', q3 v l⟩
  | none => exact d_popD I3 ea ry l fun s4 I4 => ⟨z, H3, I4, rz, q4 l⟩
end

/-! ### dict(d): a copy -/
section
variable {X : Cx} {pins : List (Addr × Obj)} {σ : St} {H : Hp} {s : Shared} {a : Addr} {kvs : List (Key × V)} {A : Around} {E : Value → Shared → Prop}
theorem d_copyOf {Q : Value → Shared → Prop} (I : Inv X pins σ H s) (e : Rd H a (.dK kvs)) (h : ∀ p s', H p = none → Inv X pins σ (upd H p (.dK kvs)) s' → Q (.ref p) s') : wpAny (model X.prog X.w) A (call (.type "dict") [.ref a]) Q E s := by
  obtain ⟨z, hd, vs, rel, dd⟩ := dk_rd I.hok e
  refine kt_call_dict hd dd (by rw [← rel.length]; exact z) fun h' dd' hs => ?_
  refine h _ _ (I.hok.fresh (Nat.le_refl _)) (I.laid (a := s.heap.objs.size) (o := .dK kvs) (t' := s.toks) (fun b q hq => ?_) (Nat.le_refl _) (dk_new z (beq_eq_false_iff_ne.mpr (Ne.symm (Nat.ne_of_lt I.big))) rel dd'))
  exact (hs.2 b (Nat.ne_of_lt (Heap.lt_size hq))).trans (Heap.get?_push_of_some _ hq)
end


section
variable {X : Cx} {pins : List (Addr × Obj)} {σ : St} {H : Hp} {s : Shared} {a : Addr} {y : V} {u : Value} {A : Around} {E : Value → Shared → Prop}
/-- d[y], not there: a KeyError -/
theorem d_missing {Q : Value → Shared → Prop} (hu : A.units + 1 < cLine) (hh : A.handled = none) (I : Inv X pins σ H s) (g : DGet H a y none) (ry : RelV y u)
    (h : ∀ h' e t', Heap.NewExc s.heap h' e "KeyError" → E (.ref e) { s with heap := h', toks := t' }) : wpAny (model X.prog X.w) A (getItem (.ref a) u) Q E s := by
  rcases g with ⟨kvs, k, e, ey, l⟩ | ⟨kvs, k, b, e, ey, eb, l⟩
  · subst ey
    obtain ⟨z, hd, vs, rel, dd⟩ := dk_rd I.hok e
    have hn : valueAt vs k = none := RelO.none_of (by rw [l]; exact rel.val k)
    exact wpAny_getItem_missing_of (kV_is ry) hd hh dd.mapOf hn fun h' ex ne => h h' ex _ ne
  · subst ey
    cases (show u = Value.ref b from ry)
    obtain ⟨z, hd, xs, rel, dd⟩ := dt_rd I.hok e
    have hn : (atKey xs k).map (·.2) = none := RelO.none_of (by rw [l]; exact rel.val k)
    exact wpAny_getItem_missing_heap (tupleKind_room_in1 hu) (key_of I.hok eb) hd hh dd (Option.map_eq_none_iff.mp hn) fun h' ex ne => h h' ex _ ne
end
end L2

namespace Att
open PySem PySem.W PySem.Calls PyProof.Rows

/-! ### the script -/
theorem ints_of_wellAll {P : Params} {h : Heap} : ∀ (ns : List Int) (vs : List Value), WellAll P h vs (ns.map WData.int) → IntsAre vs ns := by
  intro ns
  induction ns with
  | nil =>
    intro vs w
    rw [List.map_nil] at w
    cases w
    exact .nil
  | cons n ns ih =>
    intro vs w
    rw [List.map_cons] at w
    cases w with
    | cons a b =>
      cases a
      exact .cons _ _ (ih _ b)

theorem script_of {l : OpenLaw} {n : Nat} (hn : l.most = some n) {P : Params} {h : Heap} {args : List WData} {vals : List Value}
    (hpre : l.row.toRowW.claim.pre args = true) (hwl : WellAll P h vals args) :
    ∃ a vs ns, vals = [Value.ref a] ∧ args = [WData.list (ns.map WData.int)] ∧ h.get? a = some { cls := .type "list", data := .seq vs.toArray } ∧ IntsAre vs ns ∧ ns.length ≤ n := by
  have hsh : WShape.hasAll [] args [.list .int] = true := (pre_splitW hpre).1
  have hc : l.pre.holds [] { args := args } = true := (pre_splitW hpre).2
  obtain ⟨d, r, rfl, h1, h2⟩ := hasAllW_cons hsh
  obtain rfl := hasAllW_nil h2
  obtain ⟨xs, rfl, h3⟩ := hasW_list h1
  obtain ⟨ns, rfl⟩ := items_int h3
  have hlen : ns.length ≤ n := by
    unfold OpenLaw.pre at hc
    have h4 : (WTm.not (.lt (.lit (.int (n : Int))) (.len (.arg 0)))).holds [] { args := [.list (ns.map .int)] } = true := by
      have h4 := (holds_andW hc).1
      rw [hn] at h4
      exact h4
    have h5 := condW_of h4 (w_not (w_lt w_lit (w_len_list (w_arg rfl))))
    rw [List.length_map] at h5
    refine Nat.le_of_not_lt fun q => ?_
    have q' : (n : Int) < ((ns.length : Nat) : Int) := by omega
    first
      | (rw [decide_eq_true q'] at h5; exact absurd h5 (by decide))
      | (simp at h5; omega)
  cases hwl with
  | cons w1 w2 =>
    cases w2
    cases w1 with
    | list ho hall => exact ⟨_, _, ns, rfl, rfl, ho, ints_of_wellAll ns _ hall, hlen⟩

theorem post_true (l : OpenLaw) (args : List WData) : l.row.toRowW.claim.post args (.bool true) args = true :=
  postW_of (r := l.row.toRowW) (X := (true == true))
    (show WShape.has [] (.bool true) .bool = true by first | rfl | decide | simp [WShape.has, WShape.arms, WShape.armsAll])
    (show (WTm.eq .res (.lit (.bool true))).value [] { args := args, res := some (.bool true), after := args } = some (.bool (true == true)) from w_eq_bool (w_res rfl) w_lit) rfl

/-! ### the attachment: holds_open's last premise (the goal 'hc' behind k_head) from a wpAny of the law's body -/
theorem attach {l : OpenLaw} {n : Nat} {q : Program} {loose : List Str} {XP : (Str → Option Value) → Heap → Prop} {YP : World → Heap → Prop} {d : DefRec} {x : Str}
    (hn : l.most = some n) (hdf : d.params.defaults = [])
    (hbind : ∀ pm cd doc v : Value, bindArgs (docDef d.name d.params d.body d.scope pm cd doc) ⟨[v], []⟩ = pure [(x, v)])
    (hx : d.scope.names.lookup x = some .local ∨ d.scope.names.lookup x = some .cell)
    (hk : d.scope.kind = .function) (hco : d.scope.isCoroutine = false) (hgen : d.scope.isGenerator = false)
    (body : ∀ (w : World) (s₀ s₁ s : Shared) (mg mb : Str → Option Value) (fa : Addr) (o : Obj) (pm cd doc : Value) (a : Addr) (vs : List Value) (ns : List Int),
      Ground q loose [] XP w s₀ mg mb s₁.heap → YP w s₁.heap →
      s₁.heap.get? fa = some o → o.data = .func (docDef d.name d.params d.body d.scope pm cd doc) → s₁.heap.CodeRec cd d.name → mg d.name = some (.ref fa) →
      s₁.heap.get? a = some { cls := .type "list", data := .seq vs.toArray } → IntsAre vs ns → ns.length ≤ n →
      s.gens = #[] → s.os = s₁.os →
      Fr s₁.heap s₁.heap.objs.size s.heap (bindL (envOfC d.name d.scope s₁.heap.objs.size fa cd).kindOf [(x, .ref a)] fun _ => none) →
      Cl s₁.heap.objs.size (cellsFrom (s₁.heap.objs.size + 1) d.scope.names []) s.heap (bindC (envOfC d.name d.scope s₁.heap.objs.size fa cd).kindOf [(x, .ref a)] fun _ => none) →
      wpAny (model l.prog w) (callerA.deeper (envOfC d.name d.scope s₁.heap.objs.size fa cd)) (execs d.body (envOfC d.name d.scope s₁.heap.objs.size fa cd))
        (fun f s' => f = .ret (.bool true) ∧ OldK s₁.heap s'.heap ∧ s'.os = s₁.os ∧ AllBare s'.gens) (fun _ _ => False) s) :
    WalkO q loose XP YP l.row.toRowW d [] (fun f vs => PySem.call f vs) := by
  intro w s₀ s₁ mg mb G Y fa o pm cd doc dV kV ho hd hcd hD hmg hg args vals as hpre hlay hrd hwl hlo
  obtain rfl : dV = .none := Dflts.none hD hdf
  obtain rfl : kV = .none := Dflts.noKw hD
  obtain ⟨a, vs, ns, rfl, rfl, hobj, hints, hlen⟩ := script_of hn hpre hwl
  refine enter_call ?_
  refine call_cells_ret (o := o) (by rw [depth_caller]; decide) ho (fd_plain hd) G.T.nolimit hcd (hbind pm cd doc (.ref a)) (fun y hy => ?_) (fun h₁ tk F X => ?_) hco hgen hk
  · obtain rfl : y = (x, Value.ref a) := List.mem_singleton.mp hy
    rcases hx with e | e
    · exact .inl e
    · exact .inr ⟨e, cellsFrom_some _ _ _ (.inl e)⟩
  · refine wpAny_mono (body w s₀ s₁ { s₁ with heap := h₁, toks := tk } mg mb fa o pm cd doc a vs ns G Y ho (fd_plain hd) hcd hmg hobj hints hlen hg rfl F X) (fun f s' hq => ?_) (fun _ _ hq => hq)
    obtain ⟨rfl, h2, h3, h4⟩ := hq
    exact ⟨.inl ⟨.bool true, .bool true, [], rfl, fun _ => rfl, .bool true, post_true l _, fun _ => ⟨List.Pairwise.nil, fun _ hm => (nomatch hm)⟩⟩, h2, h3, h4⟩

/-- the same from a codeAny of the CALL (for a layer whose function contracts speak of calls) -/
theorem attach_call {l : OpenLaw} {n : Nat} {q : Program} {loose : List Str} {XP : (Str → Option Value) → Heap → Prop} {YP : World → Heap → Prop} {d : DefRec}
    (hn : l.most = some n) (hdf : d.params.defaults = [])
    (call : ∀ (w : World) (s₀ s₁ : Shared) (mg mb : Str → Option Value) (fa : Addr) (o : Obj) (pm cd doc : Value) (a : Addr) (vs : List Value) (ns : List Int),
      Ground q loose [] XP w s₀ mg mb s₁.heap → YP w s₁.heap →
      s₁.heap.get? fa = some o → o.data = .func (docDef d.name d.params d.body d.scope pm cd doc) → s₁.heap.CodeRec cd d.name → mg d.name = some (.ref fa) →
      s₁.heap.get? a = some { cls := .type "list", data := .seq vs.toArray } → IntsAre vs ns → ns.length ≤ n → s₁.gens = #[] →
      codeAny (model l.prog w) callerA (.call (.ref fa) ⟨[.ref a], []⟩) (fun r s' => r = .ok (.ret (.bool true)) ∧ OldK s₁.heap s'.heap ∧ s'.os = s₁.os ∧ AllBare s'.gens) s₁) :
    WalkO q loose XP YP l.row.toRowW d [] (fun f vs => PySem.call f vs) := by
  intro w s₀ s₁ mg mb G Y fa o pm cd doc dV kV ho hd hcd hD hmg hg args vals as hpre hlay hrd hwl hlo
  obtain rfl : dV = .none := Dflts.none hD hdf
  obtain rfl : kV = .none := Dflts.noKw hD
  obtain ⟨a, vs, ns, rfl, rfl, hobj, hints, hlen⟩ := script_of hn hpre hwl
  refine enter_call (codeAny_mono (call w s₀ s₁ mg mb fa o pm cd doc a vs ns G Y ho (fd_plain hd) hcd hmg hobj hints hlen hg) fun r s' hq => ?_)
  obtain ⟨rfl, h2, h3, h4⟩ := hq
  exact ⟨.inl ⟨.bool true, .bool true, [], rfl, fun _ => rfl, .bool true, post_true l _, fun _ => ⟨List.Pairwise.nil, fun _ hm => (nomatch hm)⟩⟩, h2, h3, h4⟩

/-- the same where the top left finished generators (o_head chose holds_openN): nothing may have changed at all and no generator may be left -/
theorem attachN {l : OpenLaw} {n : Nat} {q : Program} {loose : List Str} {XP : (Str → Option Value) → Heap → Prop} {YP : World → Heap → Prop} {d : DefRec} {x : Str}
    (hn : l.most = some n) (hdf : d.params.defaults = [])
    (hbind : ∀ pm cd doc v : Value, bindArgs (docDef d.name d.params d.body d.scope pm cd doc) ⟨[v], []⟩ = pure [(x, v)])
    (hx : d.scope.names.lookup x = some .local ∨ d.scope.names.lookup x = some .cell)
    (hk : d.scope.kind = .function) (hco : d.scope.isCoroutine = false) (hgen : d.scope.isGenerator = false)
    (body : ∀ (w : World) (s₀ s₁ s : Shared) (mg mb : Str → Option Value) (fa : Addr) (o : Obj) (pm cd doc : Value) (a : Addr) (vs : List Value) (ns : List Int),
      Ground q loose [] XP w s₀ mg mb s₁.heap → YP w s₁.heap →
      s₁.heap.get? fa = some o → o.data = .func (docDef d.name d.params d.body d.scope pm cd doc) → s₁.heap.CodeRec cd d.name → mg d.name = some (.ref fa) →
      s₁.heap.get? a = some { cls := .type "list", data := .seq vs.toArray } → IntsAre vs ns → ns.length ≤ n →
      s.gens = #[] → s.os = s₁.os →
      Fr s₁.heap s₁.heap.objs.size s.heap (bindL (envOfC d.name d.scope s₁.heap.objs.size fa cd).kindOf [(x, .ref a)] fun _ => none) →
      Cl s₁.heap.objs.size (cellsFrom (s₁.heap.objs.size + 1) d.scope.names []) s.heap (bindC (envOfC d.name d.scope s₁.heap.objs.size fa cd).kindOf [(x, .ref a)] fun _ => none) →
      wpAny (model l.prog w) (callerA.deeper (envOfC d.name d.scope s₁.heap.objs.size fa cd)) (execs d.body (envOfC d.name d.scope s₁.heap.objs.size fa cd))
        (fun f s' => f = .ret (.bool true) ∧ (∀ b o, s₁.heap.get? b = some o → s'.heap.get? b = some o) ∧ s'.os = s₁.os ∧ s'.gens = #[]) (fun _ _ => False) s) :
    WalkN q loose XP YP l.row.toRowW d [] (fun f vs => PySem.call f vs) := by
  intro w s₀ s₁ mg mb G Y fa o pm cd doc dV kV ho hd hcd hD hmg hg args vals as hpre hlay hrd hwl hlo
  obtain rfl : dV = .none := Dflts.none hD hdf
  obtain rfl : kV = .none := Dflts.noKw hD
  obtain ⟨a, vs, ns, rfl, rfl, hobj, hints, hlen⟩ := script_of hn hpre hwl
  refine enter_callW ?_
  refine call_cells_ret (o := o) (by rw [depth_caller]; decide) ho (fd_plain hd) G.T.nolimit hcd (hbind pm cd doc (.ref a)) (fun y hy => ?_) (fun h₁ tk F X => ?_) hco hgen hk
  · obtain rfl : y = (x, Value.ref a) := List.mem_singleton.mp hy
    rcases hx with e | e
    · exact .inl e
    · exact .inr ⟨e, cellsFrom_some _ _ _ (.inl e)⟩
  · refine wpAny_mono (body w s₀ s₁ { s₁ with heap := h₁, toks := tk } mg mb fa o pm cd doc a vs ns G Y ho (fd_plain hd) hcd hmg hobj hints hlen hg rfl F X) (fun f s' hq => ?_) (fun _ _ hq => hq)
    obtain ⟨rfl, h2, h3, h4⟩ := hq
    exact ⟨.inl ⟨.bool true, .bool true, [], rfl, fun _ => rfl, .bool true, post_true l _, fun _ => ⟨List.Pairwise.nil, fun _ hm => (nomatch hm)⟩⟩, h2, h3, h4⟩

/-! ### rules over ANY heap (no ledger) from facts about the written part K: the library's own take a ledger (News) for what they write -/
section
variable {prog : Program} {w : World} {A : Around} {E : Value → Shared → Prop} {s : Shared} {K : Frag}

/-- a def of the module, or a method (qual 'C.m'), entered: the frame is the next address; cells behind it -/
theorem call_fn {R : Result → Shared → Prop} {name qual : Str} {params : Arguments} {body : List Stmt} {scope : Scope} {dV kV doc pm cdv ct oc : Value} {an od : Option Addr} {osl : Array (Option Value)} {f : Addr} {args : Args} {binds : List (Str × Value)}
    (X : K.In s.heap) (hlim : s.heap.NoLimit) (ho : K.lookup f = some ⟨oc, od, .func (fnOf name qual params body scope dV kV doc pm an cdv ct), osl⟩) (hcd : codeIn K cdv qual = true) (hroom : A.depth < recursionLimit)
    (hbind : BindsTo s (fnOf name qual params body scope dV kV doc pm an cdv ct) args binds)
    (hkind : (binds.all fun y => scope.names.lookup y.1 == some .local || scope.names.lookup y.1 == some .cell) = true)
    (h : ∀ s₁, InCallC s s.heap.objs.size (bindL (envOfC qual scope s.heap.objs.size f cdv).kindOf binds fun _ => none) (cellsFrom (s.heap.objs.size + 1) scope.names [])
        (bindC (envOfC qual scope s.heap.objs.size f cdv).kindOf binds fun _ => none) s₁ →
      wpAny (model prog w) (A.deeper (envOfC qual scope s.heap.objs.size f cdv)) (execs body (envOfC qual scope s.heap.objs.size f cdv))
        (fun fl s' => R (.ok (.ret (match fl with | .ret v => v | _ => .none))) s')
        (fun e s' => wpAny (model prog w) (A.deeper (envOfC qual scope s.heap.objs.size f cdv)) (leaving (envOfC qual scope s.heap.objs.size f cdv) e) (fun _ s'' => R (.error e) s'') (fun e' s'' => R (.error e') s'') s') s₁)
    (hco : scope.isCoroutine = false) (hgen : scope.isGenerator = false) (hk : scope.kind = .function) : codeAny (model prog w) A (.call (.ref f) args) R s := by
  refine codeAny_call_function hroom (X _ _ ho) rfl hco hgen rfl (codeRec_of X hcd) (hbind _ _ _ _ ?_)
  refine wpAny_newFunctionEnv_cells hk (kindsX hkind _) fun env he s₁ x => ?_
  subst he
  exact ⟨hlim.keeps x.toInCall.keep, codeAny_func (h s₁ x)⟩

/-- C(..): dict at size, instance at size + 1, then __init__ -/
theorem make_obj {R : Result → Shared → Prop} {C fI : Addr} {rest : List Value} {kw : List (Str × Value)}
    (X : K.In s.heap) (hm : makesIn K C = true) (hi : findIn K (.ref C) "__init__" = some (some (.ref fI))) (hf : isFn K (.ref fI) = true)
    (h : codeAny (model prog w) (A.under (.builtin "type.__call__" ⟨.ref C :: rest, kw⟩)) (.call (.ref fI) ⟨.ref (s.heap.objs.size + 1) :: rest, kw⟩) (InitBack (s.heap.objs.size + 1) R)
      { s with heap := (s.heap.push emptyDict).push (instObj C s.heap.objs.size) }) : codeAny (model prog w) A (.call (.ref C) ⟨rest, kw⟩) R s := by
  obtain ⟨hh, g, d, t, os⟩ := s
  exact make_core (makes_of X hm) (looks_findIn X hi) (fun self => bind_fn X self (beq_iff_eq.mp hf)) (.inl rfl) h

/-- x.name where the instance's dict holds the name and the class does not -/
theorem get_field {x C : Addr} {ox : Obj} {es : List DictEntry} {n : Nat} {name : Str} {expr : Bool} {v : Value} {Q : Value → Shared → Prop}
    (X : K.In s.heap) (I : PySem.W.InstAt s.heap x ox C (some (dictOf es n))) (hg : plainGet K C name = true) (hh : hasDictIn K C = true) (ha : findIn K (.ref C) name = some none)
    (hl : getL name es = some (some v)) (hv : handedIn v = true) (h : Q v { s with toks := s.toks + 1 }) : wpAny (model prog w) A (getAttr (.ref x) name expr) Q E s :=
  get_value X I (plainGet_of hg).1 (findObj_own hh ha rfl hl) hv h

/-- x.m(..): the method found in the class -/
theorem get_method {x C f : Addr} {ox : Obj} {es : List DictEntry} {n : Nat} {name : Str} {pl : Sem Bool} {Q : Value × List Value → Shared → Prop}
    (X : K.In s.heap) (I : PySem.W.InstAt s.heap x ox C (some (dictOf es n))) (hg : plainGet K C name = true) (hf : findIn K (.ref C) name = some (some (.ref f))) (ht : isFn K (.ref f) = true)
    (hl : getL name es = some none) (h : Q (.ref f, [.ref x]) s) : wpAny (model prog w) A (getMethod (.ref x) name pl) Q E s :=
  method_fn X I (plainGet_of hg).1 (plainGet_of hg).2 hf (beq_iff_eq.mp ht) (by show (lookIn name (dictOf es n)).map _ = _; rw [lookIn_dict, hl]; rfl) h

/-! the whole heap as the ledger: makes every rule that writes through a ledger a rule over any heap -/
def noObjs (h : Heap) : Heap := { h with objs := #[] }
theorem noObjs_get (h : Heap) (b : Addr) : (noObjs h).get? b = none := by
  cases e : (noObjs h).get? b with
  | none => rfl
  | some o => exact absurd (Heap.lt_size e) (Nat.not_lt_zero _)
def ledger (h : Heap) (L d : Addr) : List (Addr × Obj) := (List.range h.objs.size).filterMap fun a => if a = L ∨ a = d then none else (h.get? a).map fun o => (a, o)
theorem mem_ledger {h : Heap} {L d a : Addr} {o : Obj} : (a, o) ∈ ledger h L d ↔ a ≠ L ∧ a ≠ d ∧ h.get? a = some o := by
  unfold ledger
  rw [List.mem_filterMap]
  constructor
  · rintro ⟨b, _, e⟩
    split at e
    · cases e
    · rename_i hb
      obtain ⟨o', ho, e'⟩ := Option.map_eq_some_iff.mp e
      cases e'
      exact ⟨fun q => hb (.inl q), fun q => hb (.inr q), ho⟩
  · rintro ⟨n1, n2, ho⟩
    refine ⟨a, List.mem_range.mpr (Heap.lt_size ho), ?_⟩
    rw [if_neg (show ¬ (a = L ∨ a = d) from fun q => q.elim n1 n2), ho] <;> rfl
theorem news_ledger {h : Heap} {L d : Addr} {od : Obj} (hne : d ≠ L) (ho : h.get? d = some od) : News (noObjs h) L h ([] ++ (d, od) :: ledger h L d) := by
  rintro ⟨a, o⟩ hp
  rcases List.mem_cons.mp hp with e | hp
  · cases e
    exact ⟨ho, hne, noObjs_get _ _⟩
  · obtain ⟨n1, n2, e⟩ := mem_ledger.mp hp
    exact ⟨e, n1, noObjs_get _ _⟩
theorem fr_all {h : Heap} {L : Addr} {m : Str → Option Value} (n : h.Ns L m) : Fr (noObjs h) L h m :=
  ⟨n, fun b o e => (by rw [noObjs_get] at e; cases e), Nat.zero_le _⟩
/-- Upd of the head entry (for append_K, setItem_K ..) -/
theorem upd_ledger {h : Heap} {L d : Addr} {o o' : Obj} : Upd d o o' ((d, o) :: ledger h L d) ((d, o') :: ledger h L d) :=
  .head fun ⟨_, _⟩ hp => (mem_ledger.mp hp).2.1

/-- x.name = v over any heap: L is any namespace of the heap (the frame's, say): its map stays, its object is not told; all else but the dict stays -/
theorem set_field {x C dx L : Addr} {ox : Obj} {m : Str → Option Value} {es es' : List DictEntry} {n n' : Nat} {name : Str} {v : Value} {Q : Unit → Shared → Prop}
    (X : K.In s.heap) (I : PySem.W.InstAt s.heap x ox C (some (dictOf es n))) (hd : ox.dict = some dx) (hL : s.heap.Ns L m) (hne : dx ≠ L)
    (hs : findIn K (.ref C) "__setattr__" = some (some (.builtin "object.__setattr__"))) (hp : plainOver K C = true) (ht : takerIn K C name = some none) (hh : hasDictIn K C = true) (hl : (getL name es).isSome = true)
    (e : (putL name (PyData.keyHash w.params name) (.str name (s.toks + 1)) v es, putN name es n) = (es', n')) (hz : es'.length ≤ 1000)
    (h : ∀ h' : Heap, h'.Ns L m → h'.get? dx = some (dictOf es' n') → (∀ b o, b ≠ dx → b ≠ L → s.heap.get? b = some o → h'.get? b = some o) → Q () { s with heap := h', toks := s.toks + 2 }) :
    wpAny (model prog w) A (setAttr (.ref x) name v) Q E s := by
  obtain ⟨e1, e2⟩ := Prod.mk.inj e
  have hdx : s.heap.get? dx = some (dictOf es n) := by
    have := I.dict
    rw [hd] at this
    exact this
  refine set_plain X I hs (osa_dict (s := { s with toks := s.toks + 1 }) (h₀ := noObjs s.heap) (L := L) (m := m) (od := dictOf es n) (od' := dictOf es' n') (es := es') (n := n') (pre := []) (post := ledger s.heap L dx)
    (fr_all hL) (news_ledger hne hdx) X I hd hp ht hh hl (fun _ q => nomatch q) (fun ⟨_, _⟩ q => (mem_ledger.mp q).2.1) (by rw [putName_dict, e1, e2]) rfl hz fun h' F' N' => ?_)
  exact h h' F'.ns (N'.get (List.Mem.head _)) fun b o n1 n2 ho => N'.get (List.Mem.tail _ (mem_ledger.mpr ⟨n2, n1, ho⟩))
end
end Att

namespace L2
open PySem PySem.Spec PyProof.Rows

theorem vals_ints : ∀ {vs : List Value} {ns : List Int}, IntsAre vs ns → Vals (ns.map V.int) vs
  | _, _, .nil => .nil
  | _, _, .cons n t h => .cons ⟨t, rfl⟩ (vals_ints h)

/-- nothing is tracked but the script, known to the object (or it is an object of the module) -/
def Only (H : Hp) : Prop := ∀ b, H b = none ∨ ∃ o xs, H b = some (.frz o (.lst xs))

/-- THE HEAD: the law's promise, at the heap behind the top. F, the promise of the law's def, may use that base is part of the heap (so K.In base, base.Ns mainGlobals mg stand in Mod) -/
theorem law_call {P : Program} {w : World} {K : PySem.W.Frag} {mg mb : Str → Option Value} {CX : CXT} {k : Nat} {fa a : Addr} {fd : FuncData} {x : Str} {sp : Sp} {s₁ : Shared} {vs : List Value} {ns : List Int}
    (KX : K.In s₁.heap) (hns : s₁.heap.Ns mainGlobals mg) (hb : s₁.heap.Ns builtinsNs mb) (hbb : ∀ x : Str, x ≠ "__name__" → mb x = bootBuiltins x) (hlim : s₁.heap.NoLimit) (hg : s₁.gens = #[])
    (ha : s₁.heap.get? a = some { cls := .type "list", data := .seq vs.toArray }) (hi : IntsAre vs ns) (hl : ns.length ≤ sizeLine) (hr : Room k callerA)
    (F : ∀ base : Heap, K.In base → base.Ns mainGlobals mg → FnOk P w K mg base CX k fa fd [x] sp) (hbind : ∀ (s : Shared) (u : Value), BindsTo s fd ⟨[u], []⟩ [(x, u)])
    (hsp : ∀ H : Hp, Only H → SqL K H a (ns.map V.int) → sp [.ref a] H (fun v _ => v = .bl true) fun _ _ _ => False)
    (hCX : ∀ H e s', CX [] H s₁ (fun _ _ _ => False) e s' → False) :
    codeAny (model P w) callerA (.call (.ref fa) ⟨[.ref a], []⟩) (fun r s' => r = .ok (.ret (.bool true)) ∧ OldK s₁.heap s'.heap ∧ s'.os = s₁.os ∧ AllBare s'.gens) s₁ := by
  have rv := vals_ints hi
  have lenV := hi.length
  -- from an abstract heap in which nothing but the script may be tracked
  have core : ∀ H : Hp, Only H → SqL K H a (ns.map V.int) → HOk P w H s₁.heap → (∀ b, H b ≠ none → b = a) → (H a ≠ none → K.lookup a = none) →
      codeAny (model P w) callerA (.call (.ref fa) ⟨[.ref a], []⟩) (fun r s' => r = .ok (.ret (.bool true)) ∧ OldK s₁.heap s'.heap ∧ s'.os = s₁.os ∧ AllBare s'.gens) s₁ := by
    intro H hO hS hok hA hK
    have base_of : ∀ {b : Addr} {o : Obj}, s₁.heap.get? b = some o → H b = none → (hidT s₁.heap H).get? b = some o := fun e n => hidT_get e n
    have noA : ∀ {b : Addr} {o : Obj} {es : Array DictEntry} {ep : Nat}, s₁.heap.get? b = some o → o.data = .dict es ep → H b = none := fun {b o es ep} e d => by
      cases q : H b with
      | none => rfl
      | some u =>
        have e' : b = a := hA b (by rw [q]; simp)
        subst e'
        rw [ha] at e; cases e
        have d' : Data.seq vs.toArray _ = Data.dict es ep := d
        cases d'
    have nsK : ∀ {b : Addr} {m : Str → Option Value}, s₁.heap.Ns b m → (hidT s₁.heap H).Ns b m := fun {b m} ⟨o, es, ep, e, d, r⟩ => ⟨o, es, ep, base_of e (noA e d), d, r⟩
    have hKb : K.In (hidT s₁.heap H) := fun b o e => base_of (KX b o e) (by
      cases q : H b with
      | none => rfl
      | some u =>
        have e' : b = a := hA b (by rw [q]; simp)
        subst e'
        rw [hK (by rw [q]; simp)] at e; cases e)
    have hM : Mod K mg (hidT s₁.heap H) := ⟨hKb, nsK hns, ⟨mb, nsK hb, hbb⟩, let ⟨mc, h1, h2⟩ := hlim; ⟨mc, nsK h1, h2⟩⟩
    have e0 : Env0 P w K mg (hidT s₁.heap H) callerA [] s₁ H := ⟨rfl, hM, fun b o e => of_hidT e, Nat.le_of_eq (hidT_size _ _), trivial, fun b hb => absurd (show b ∈ ([] : List Addr) from hb) (by simp), hok, .of_eq hg⟩
    refine codeAny_mono ((F _ hKb (nsK hns)).run callerA [] s₁ H ⟨[.ref a], []⟩ [.ref a] [.ref a] _ _ hr e0 (hbind s₁ (.ref a)) (.cons rfl .nil) (hsp H hO hS)) fun r s' h => ?_
    cases r with
    | error e => exact (hCX H e s' h).elim
    | ok fl =>
      cases fl with
      | next => exact False.elim h
      | brk => exact False.elim h
      | cont => exact False.elim h
      | ret u =>
        obtain ⟨v, H', os, bare, un, hok', r', q⟩ := h
        have q' : v = .bl true := q
        subst q'
        obtain rfl : u = Value.bool true := r'
        refine ⟨rfl, OldK.of_keep fun b o e => ?_, os, bare⟩
        cases q : H b with
        | none => exact un.keep b o e q (by intro z; exact absurd (show b ∈ ([] : List Addr) from z) (by simp)) (by simp)
        | some u =>
          rcases hO b with z | ⟨ob, xs, z⟩
          · rw [q] at z; cases z
          · have z2 := un.frzs b ob _ z
            obtain ⟨e1, _⟩ := hok b _ z
            obtain ⟨e2, _⟩ := hok' b _ z2
            rw [e] at e1; cases e1
            exact e2
  cases hk : K.lookup a with
  | some o =>
    -- the script is one of the module's own objects
    have e := KX a o hk
    rw [ha] at e
    cases e
    refine core (fun _ => none) (fun _ => .inl rfl) (.inr ⟨_, vs.toArray, _, hk, rfl, rfl, rfl, by rw [List.size_toArray, lenV]; exact hl, by simpa using rv⟩) (fun b u z => by have z' : (none : Option HO) = some u := z; cases z') (fun b z => absurd rfl z) fun z => absurd rfl z
  | none =>
    refine core (fun b => if b = a then some (.frz { cls := .type "list", data := .seq vs.toArray } (.lst (ns.map V.int))) else none) (fun b => ?_) (.inl (.inr ⟨{ cls := .type "list", data := .seq vs.toArray }, if_pos rfl⟩)) (fun b u z => ?_) (fun b z => ?_) fun _ => hk
    · by_cases hb : b = a
      · exact .inr ⟨_, _, if_pos hb⟩
      · exact .inl (if_neg hb)
    · by_cases hb : b = a
      · have z' := (if_pos hb).symm.trans z
        cases z'
        subst hb
        exact ⟨ha, by rw [List.length_map]; exact hl, vs, _, rv, ha⟩
      · have z' := (if_neg hb).symm.trans z
        cases z'
    · by_cases hb : b = a
      · exact hb
      · exact absurd (if_neg hb) z
end L2

namespace L2
open PySem PySem.Spec PyProof.Rows

abbrev KOf {K : PySem.W.Frag} {h : Heap} (_ : K.In h) : PySem.W.Frag := K

/-- the goal that k_head leaves (case hc), from the law's promise. F gives the function object fd (K's own) once, then the promise over every base -/
theorem walk_of {l : PySem.W.OpenLaw} {n k : Nat} {q : Program} {loose : List Str} {XP : (Str → Option Value) → Heap → Prop} {YP : World → Heap → Prop} {d : DefRec} {K : Params → PySem.W.Frag} {CX : World → CXT} {sp : World → Sp} {x : Str}
    (hn : l.most = some n) (hn2 : n ≤ sizeLine) (hdf : d.params.defaults = []) (hr : Room k callerA)
    (hY : ∀ (w : World) (h : Heap), YP w h → (K w.params).In h)
    (F : ∀ (w : World) (mg : Str → Option Value) (fa : Addr) (h : Heap), (K w.params).In h → h.Ns mainGlobals mg → mg d.name = some (.ref fa) →
      ∃ fd : FuncData, (∀ (s : Shared) (u : Value), BindsTo s fd ⟨[u], []⟩ [(x, u)]) ∧
        ∀ base : Heap, (K w.params).In base → base.Ns mainGlobals mg → FnOk l.prog w (K w.params) mg base (CX w) k fa fd [x] (sp w))
    (hsp : ∀ (w : World) (H : Hp) (a : Addr) (ns : List Int), ns.length ≤ n → Only H → SqL (K w.params) H a (ns.map V.int) → sp w [.ref a] H (fun v _ => v = .bl true) fun _ _ _ => False)
    (hCX : ∀ (w : World) (H : Hp) (s : Shared) (e : Value) (s' : Shared), CX w [] H s (fun _ _ _ => False) e s' → False) :
    PySem.W.WalkO q loose XP YP l.row.toRowW d [] (fun f vs => PySem.call f vs) := by
  refine Att.attach_call hn hdf fun w s₀ s₁ mg mb fa o pm cd doc a vs ns G Y ho hd hcd hmg hobj hints hlen hg => ?_
  have KX := hY w _ Y
  obtain ⟨fd, hb, hF⟩ := F w mg fa _ KX G.T.g hmg
  exact law_call KX G.T.g G.T.b G.T.builtins G.T.nolimit hg hobj hints (Nat.le_trans hlen hn2) hr hF hb (fun H hO hS => hsp w H a ns hlen hO hS) fun H e s' => hCX w H s₁ e s'
/-- the same where the promise hangs on the written part alone: (sp := My.sp_law), no hole under a binder -/
theorem walk_ofK {l : PySem.W.OpenLaw} {n k : Nat} {q : Program} {loose : List Str} {XP : (Str → Option Value) → Heap → Prop} {YP : World → Heap → Prop} {d : DefRec} {K : Params → PySem.W.Frag} {CX : CXT} {sp : PySem.W.Frag → Sp} {x : Str}
    (hn : l.most = some n) (hn2 : n ≤ sizeLine) (hdf : d.params.defaults = []) (hr : Room k callerA)
    (hY : ∀ (w : World) (h : Heap), YP w h → (K w.params).In h)
    (F : ∀ (w : World) (mg : Str → Option Value) (fa : Addr) (h : Heap), (K w.params).In h → h.Ns mainGlobals mg → mg d.name = some (.ref fa) →
      ∃ fd : FuncData, (∀ (s : Shared) (u : Value), BindsTo s fd ⟨[u], []⟩ [(x, u)]) ∧
        ∀ base : Heap, (K w.params).In base → base.Ns mainGlobals mg → FnOk l.prog w (K w.params) mg base CX k fa fd [x] (sp (K w.params)))
    (hsp : ∀ (K : PySem.W.Frag) (H : Hp) (a : Addr) (ns : List Int), ns.length ≤ n → Only H → SqL K H a (ns.map V.int) → sp K [.ref a] H (fun v _ => v = .bl true) fun _ _ _ => False)
    (hCX : ∀ (H : Hp) (s : Shared) (e : Value) (s' : Shared), CX [] H s (fun _ _ _ => False) e s' → False) :
    PySem.W.WalkO q loose XP YP l.row.toRowW d [] (fun f vs => PySem.call f vs) :=
  walk_of (K := K) (CX := fun _ => CX) (sp := fun w => sp (K w.params)) hn hn2 hdf hr hY F (fun w H a ns h1 h2 h3 => hsp (K w.params) H a ns h1 h2 h3) fun _ H s e s' => hCX H s e s'
end L2

/- THE LAST THEOREM (shape; LID, My.* are yours):
   My.Adr: a structure of the addresses that your layer names (classes, functions); My.Txt K t: a structure (Prop) of the equations over K;
   My.txt_mk : {K} {implicit addresses ..} (e1 : nsIn K mainGlobals "law" = some (some (.ref f))) (e2 : K.lookup f = some ⟨oc, od, .func (fnOf "law" "law" params body scope dV kV doc pm an cdv ct), sl⟩) (e3 : codeIn K cdv "law" = true) .. : ∃ t, My.Txt K t

set_option maxRecDepth 100000 in
set_option maxHeartbeats 0 in
theorem PySem.Challenge.cw_LID_holds : PySem.Challenge.rw_LID.Holds := by
  w_on; o_law; k_head; (case hw => w_witness2)
  k_fill
  refine L2.walk_of (l := PySem.Challenge.rw_LID) (n := 63) (k := 40) (x := "script") (CX := fun w => ..) (sp := fun _ => My.sp_law) rfl (by decide) rfl ⟨rfl, by decide, by decide⟩ (fun w h Y => PySem.W.kIn_of Y) ?F ?S ?C
  case F =>
    intro w mg fa h KX G hmg
    have T : ∃ t, My.Txt (L2.KOf KX) t := by
      dsimp only [L2.KOf]                          -- K must stand as «<heap const> w.params» for k_is
      refine' My.txt_mk ?e1 ?e2 ?e3 ..
      (case e1 => PySem.W.k_is)                    -- in the order: a name -> its address -> its object -> its parts
      (case e2 => PySem.W.k_is)
      ..
    obtain ⟨t, T⟩ := T
    have e0 := hmg.symm.trans (PySem.W.mg_of KX G T.law)
    cases e0                                       -- fa is the law's own address
    exact ⟨_, fun s u => .of_eq rfl, fun base kb nb => My.law_fn T kb nb⟩     -- if «.of_eq rfl» comes too early: refine' ⟨_, ?b, fun base kb nb => My.law_fn T kb nb⟩; exact fun s u => .of_eq rfl
  case S => exact fun w H a ns hl hO hS => ..
  case C => exact ..
(the tactic k_is has no namespace: write k_is) -/

/-! SHORT WORDS over the layer: a def of the text, its body, what a loop and a test want. -/
namespace L2
open PySem PySem.Spec PyProof.Rows

/-! ### the text by places -/
/-- the j-th statement of a class's body -/
def inClass (s : Stmt) (j : Nat) : Stmt := match s with
  | .ClassDef _ _ _ body _ _ _ _ _ _ _ => body.getD j (.Pass ⟨0, 0, 0, 0⟩)
  | _ => .Pass ⟨0, 0, 0, 0⟩
def defArgs (s : Stmt) : Arguments := match s with
  | .FunctionDef _ a _ _ _ _ _ _ _ _ => a
  | _ => { posonlyargs := [], args := [], vararg := none, kwonlyargs := [], kw_defaults := [], kwarg := none, defaults := [] }
def defBody (s : Stmt) : List Stmt := match s with
  | .FunctionDef _ _ b _ _ _ _ _ _ _ => b
  | _ => []
def defScope (s : Stmt) : Scope := match s with
  | .FunctionDef _ _ _ _ _ _ sc _ _ _ => sc
  | _ => { kind := .function, names := [], isGenerator := false, isCoroutine := false }

/-! ### no exception leaves a def -/
abbrev CX0 : CXT := fun _ _ _ _ _ _ => False
abbrev E0 : XK := fun _ _ _ => False
theorem pass0 {X : Cx} : Passes CX0 X E0 := fun _ _ _ _ _ _ _ h => h.elim

/-! ### a def (or method) of the text as it stands behind the top -/
structure Fun (K : PySem.W.Frag) (x qual : Str) (st : Stmt) (f : Addr) (fd : FuncData) : Prop where
  ex : ∃ (oc : Value) (od : Option Addr) (kV doc pm : Value) (an : Option Addr) (cdv ct : Value) (osl : Array (Option Value)),
    fd = PySem.W.fnOf x qual (defArgs st) (defBody st) (defScope st) .none kV doc pm an cdv ct ∧ K.lookup f = some ⟨oc, od, .func fd, osl⟩ ∧ PySem.W.codeIn K cdv qual = true
  kp : PySem.W.keepIn K (.ref f) = true
section
variable {P : Program} {w : World} {K : PySem.W.Frag} {mg : Str → Option Value} {base : Heap}
/-- THE RULE for a def: its body as a term of rules, and the reading of that term -/
theorem Fun.ok {x qual : Str} {st : Stmt} {f : Addr} {fd : FuncData} {N ps : List Str} {k : Nat} {sp : Sp} (F : Fun K x qual st f fd) (S : FnScope N ps (defScope st)) (len : ∀ vs H Q E, sp vs H Q E → vs.length = ps.length)
    (hbody : ∀ (cdv : Value) (A : Around) (outer : List Env) (s : Shared) (H : Hp) (vs : List V) (Q : VK) (E : XK), Room k (A.deeper (envOfC qual (defScope st) s.heap.objs.size f cdv)) → sp vs H Q E →
      ∃ t, PSs (cxOf CX0 P w K mg base N qual (defScope st) f cdv A outer s H E).nox (defBody st) t ∧ t { nx := fun _ H' => Q .non H', rt := Q } (start N vs) H) : FnOk P w K mg base CX0 (k + 1) f fd ps sp := by
  obtain ⟨oc, od, kV, doc, pm, an, cdv, ct, osl, rfl, lk, hcd⟩ := F.ex
  refine fn_of lk hcd S len fun A outer s H vs Q E hr hsp => ?_
  obtain ⟨t, h, q⟩ := hbody cdv A outer s H vs Q E hr hsp
  exact ⟨t, h.nox, q⟩
/-- how its arguments bind (no defaults): h is «fun _ _ _ _ _ _ us hl => match us, hl with | [_, _], _ => rfl», one _ a parameter -/
theorem Fun.binds {x qual : Str} {st : Stmt} {f : Addr} {fd : FuncData} {ps : List Str} (F : Fun K x qual st f fd)
    (h : ∀ (kV doc pm : Value) (an : Option Addr) (cdv ct : Value) (us : List Value), us.length = ps.length → bindArgs (PySem.W.fnOf x qual (defArgs st) (defBody st) (defScope st) .none kV doc pm an cdv ct) ⟨us, []⟩ = pure (ps.zip us)) : Binds K fd ps [] := by
  obtain ⟨oc, od, kV, doc, pm, an, cdv, ct, osl, rfl, lk, hcd⟩ := F.ex
  exact .all (h kV doc pm an cdv ct)
theorem fun_mk {x qual : Str} {st : Stmt} {f : Addr} {oc : Value} {od an : Option Addr} {osl : Array (Option Value)} {kV doc pm cdv ct : Value} (l : K.lookup f = some ⟨oc, od, .func (PySem.W.fnOf x qual (defArgs st) (defBody st) (defScope st) .none kV doc pm an cdv ct), osl⟩)
    (c : PySem.W.codeIn K cdv qual = true) (k : PySem.W.keepIn K (.ref f) = true) : Fun K x qual st f (PySem.W.fnOf x qual (defArgs st) (defBody st) (defScope st) .none kV doc pm an cdv ct) := ⟨⟨oc, od, kV, doc, pm, an, cdv, ct, osl, rfl, l, c⟩, k⟩
end
theorem hu_of {A : Around} {k : Nat} (hr : Room k A) : A.units + 1 < cLine := Nat.lt_of_le_of_lt (Nat.add_le_add_left (by decide : 1 ≤ 64) _) hr.units
theorem small1000 {n : Nat} (h : n ≤ 1000) : n < sizeLine := Nat.lt_of_le_of_lt h (by decide)

/-! ### expressions in short: the name that stands in the i-th slot -/
section
variable {X : Cx}
theorem pv (i : Nat) {x : Str} {pos : Pos} (hN : X.N[i]? = some x := by rfl) (hv : Vis X.env.scope x := by first | exact Or.inl rfl | exact Or.inr (Or.inl rfl) | exact Or.inr (Or.inr rfl)) (hd : (x == ("__debug__" : Str)) = false := by decide)
    (hcd : (x == ("__classdict__" : Str)) = false := by decide) : PE X (.Name x pos) (tVar i) := pe_var hN hv hd hcd
end

/-! ### tests -/
theorem iteF {A B : Prop} (h : B) : if false = true then A else B := by
  rw [if_neg Bool.false_ne_true]
  exact h
theorem iteT {A B : Prop} (h : A) : if true = true then A else B := by
  rw [if_pos rfl]
  exact h
theorem ite2 {c A B : Prop} [Decidable c] (h1 : c → A) (h2 : ¬ c → B) : if c then A else B := by
  by_cases h : c
  · rw [if_pos h]
    exact h1 h
  · rw [if_neg h]
    exact h2 h
theorem iteNS {c A B : Prop} [Decidable c] (hc : c) (h : B) : if (!decide c) = true then A else B := by
  rw [decide_eq_true hc]
  exact iteF h

/-! ### heaps -/
/-- all that was tracked is as it was -/
def Same (H H' : Hp) : Prop := ∀ b o, H b = some o → H' b = some o
theorem Same.refl (H : Hp) : Same H H := fun _ _ h => h
theorem Same.trans {H H1 H2 : Hp} (a : Same H H1) (b : Same H1 H2) : Same H H2 := fun c o h => b c o (a c o h)
theorem Same.free {H H' : Hp} (e : Same H H') {l : Addr} (h : H' l = Option.none) : H l = Option.none := by
  cases q : H l with
  | none => rfl
  | some o =>
    rw [e l o q] at h
    cases h
theorem Same.seq {K : PySem.W.Frag} {H H' : Hp} {a : Addr} {xs : List V} (e : Same H H') (h : SqL K H a xs) : SqL K H' a xs := by
  rcases h with (h | ⟨o, h⟩) | h
  · exact .inl (.inl (e _ _ h))
  · exact .inl (.inr ⟨o, e _ _ h⟩)
  · exact .inr h

end L2

namespace L2
open PySem PySem.Spec PyProof.Rows
section
variable {X : Cx}
/-- len of a dict -/
theorem call_lenD : CallR X (.builtin "len") (fun xs H Q => ∃ a kvs, xs = [V.ref a] ∧ H a = some (.dK kvs) ∧ Q (.int kvs.length) H) := by
  intro pins s σ H xs us Q I r h
  obtain ⟨a, kvs, rfl, ha, q⟩ := h
  obtain ⟨u, rfl, ru⟩ := vals1 r
  cases ru
  exact d_len I (.inl ha) fun t s' I' => ⟨.int kvs.length, H, I', ⟨t, rfl⟩, q⟩
end
/-! ### a dict's pairs: keys that differ -/
section
variable {κ : Type} [DecidableEq κ]
theorem valV_not {kvs : List (κ × V)} {k : κ} (h : valV kvs k = none) : ¬ k ∈ kvs.map (·.1) := by
  intro m
  obtain ⟨p, hp, e⟩ := List.mem_map.mp m
  have q : (kvs.any fun kv => decide (kv.1 = k)) = true := List.any_eq_true.mpr ⟨p, hp, decide_eq_true e⟩
  rw [valV_any, h] at q
  exact absurd q (by simp)
theorem valV_in {kvs : List (κ × V)} {k : κ} {v : V} (h : valV kvs k = some v) : k ∈ kvs.map (·.1) := by
  have q : (kvs.any fun kv => decide (kv.1 = k)) = true := by
    rw [valV_any, h]
    all_goals rfl
  obtain ⟨p, hp, e⟩ := List.any_eq_true.mp q
  exact List.mem_map.mpr ⟨p, hp, of_decide_eq_true e⟩
theorem nd_snoc : ∀ {l : List κ} {k : κ}, l.Nodup → ¬ k ∈ l → (l ++ [k]).Nodup
  | [], k, _, _ => by simp
  | a :: r, k, h, hk => by
    obtain ⟨h1, h2⟩ := List.nodup_cons.mp h
    show (a :: (r ++ [k])).Nodup
    refine List.nodup_cons.mpr ⟨fun m => ?_, nd_snoc h2 fun m => hk (List.mem_cons.mpr (Or.inr m))⟩
    rcases List.mem_append.mp m with q | q
    · exact h1 q
    · exact hk (List.mem_cons.mpr (Or.inl (List.mem_singleton.mp q).symm))
theorem nd_putK {kvs : List (κ × V)} {k : κ} (v : V) (hn : (kvs.map (·.1)).Nodup) (h : valV kvs k = none) : ((putK kvs k v).map (·.1)).Nodup := by
  rw [putK_new v h, List.map_append]
  exact nd_snoc hn (valV_not h)
theorem dropK_pos {p : κ × V} {r : List (κ × V)} {k : κ} (e : p.1 = k) : dropK (p :: r) k = dropK r k := by
  unfold dropK
  rw [List.filter_cons, if_neg (by simp [e])]
theorem dropK_neg {p : κ × V} {r : List (κ × V)} {k : κ} (e : ¬ p.1 = k) : dropK (p :: r) k = p :: dropK r k := by
  unfold dropK
  rw [List.filter_cons, if_pos (by simp [e])]
theorem dropK_no : ∀ {kvs : List (κ × V)} {k : κ}, ¬ k ∈ kvs.map (·.1) → dropK kvs k = kvs
  | [], _, _ => rfl
  | p :: r, k, h => by
    have h' : ¬ k ∈ r.map (·.1) := fun m => by
      obtain ⟨q, hq, e⟩ := List.mem_map.mp m
      exact h (List.mem_map.mpr ⟨q, List.mem_cons.mpr (Or.inr hq), e⟩)
    rw [dropK_neg fun e => h (List.mem_map.mpr ⟨p, List.mem_cons.mpr (Or.inl rfl), e⟩), dropK_no h']
theorem dropK_mem {kvs : List (κ × V)} {k : κ} {p : κ × V} (h : p ∈ dropK kvs k) : p ∈ kvs := (List.mem_filter.mp h).1
theorem nd_dropK : ∀ {kvs : List (κ × V)} {k : κ}, (kvs.map (·.1)).Nodup → ((dropK kvs k).map (·.1)).Nodup
  | [], _, _ => List.nodup_nil
  | p :: r, k, h => by
    have h : (p.1 :: r.map (·.1)).Nodup := h
    obtain ⟨h1, h2⟩ := List.nodup_cons.mp h
    by_cases e : p.1 = k
    · rw [dropK_pos e]
      exact nd_dropK h2
    · rw [dropK_neg e]
      show (p.1 :: (dropK r k).map (·.1)).Nodup
      refine List.nodup_cons.mpr ⟨fun m => h1 ?_, nd_dropK h2⟩
      obtain ⟨q, hq, eq⟩ := List.mem_map.mp m
      exact List.mem_map.mpr ⟨q, dropK_mem hq, eq⟩
theorem dropK_len : ∀ {kvs : List (κ × V)} {k : κ}, (kvs.map (·.1)).Nodup → k ∈ kvs.map (·.1) → (dropK kvs k).length + 1 = kvs.length
  | [], _, _, m => by simp at m
  | p :: r, k, h, m => by
    have h : (p.1 :: r.map (·.1)).Nodup := h
    have m : k = p.1 ∨ k ∈ r.map (·.1) := List.mem_cons.mp m
    obtain ⟨h1, h2⟩ := List.nodup_cons.mp h
    by_cases e : p.1 = k
    · subst e
      rw [dropK_pos rfl, dropK_no h1]
      all_goals rfl
    · have m' : k ∈ r.map (·.1) := m.resolve_left fun z => e z.symm
      have q := dropK_len h2 m'
      rw [dropK_neg e, List.length_cons, List.length_cons]
      omega
end
end L2
set_option maxHeartbeats 4000000
/-! ### a list comprehension of one clause -/
namespace L2
open PySem PySem.Spec PyProof.Rows

/-- the cells that a block takes along -/
def clOf : List (Str × NameKind) → List (Str × Addr) → List (Str × Addr) → List (Str × Addr)
  | [], _, acc => acc
  | (n, k) :: r, cells, acc => if k == .free then clOf r cells ((n, (cells.lookup n).getD 0) :: acc) else clOf r cells acc
def cmpChk (N own : List Str) (scope : Scope) (env : Env) : Bool := (scope.names.all fun y => match y.2 with
  | .local => scope.names.lookup y.1 == some .local && (own.contains y.1 || !N.contains y.1)
  | .free => scope.names.lookup y.1 == some .free && (env.kindOf y.1 == some .cell || env.kindOf y.1 == some .free)
  | .cell => false
  | _ => true) && own.all fun y => (scope.names.lookup (".0." ++ y)).isNone

theorem clOf_pure {env : Env} : ∀ (l : List (Str × NameKind)) (acc : List (Str × Addr)), (∀ y ∈ l, y.2 = .free → ∃ c, env.cells.lookup y.1 = some c) →
    (forIn l acc (fun (x : Str × NameKind) (r : List (Str × Addr)) => if (x.2 == NameKind.free) = true then do let c ← cellOf env x.1; pure (ForInStep.yield ((x.1, c) :: r)) else pure (ForInStep.yield r)) : Sem (List (Str × Addr))) = pure (clOf l env.cells acc)
  | [], acc, _ => rfl
  | (n, k) :: r, acc, h => by
    rw [List.forIn_cons]
    unfold clOf
    by_cases hk : (k == NameKind.free) = true
    · have hk' : k = .free := by simpa using hk
      obtain ⟨c, hc⟩ := h (n, k) List.mem_cons_self hk'
      rw [if_pos hk, if_pos hk]
      have e1 : cellOf env n = pure c := by unfold cellOf; rw [hc]
      rw [e1, hc]
      show (forIn r ((n, c) :: acc) _ : Sem _) = _
      exact clOf_pure r _ fun y hy => h y (List.mem_cons_of_mem _ hy)
    · rw [if_neg hk, if_neg hk]
      show (forIn r acc _ : Sem _) = _
      exact clOf_pure r _ fun y hy => h y (List.mem_cons_of_mem _ hy)
theorem closure_is {scope : Scope} {env : Env} (h : ∀ y ∈ scope.names, y.2 = .free → ∃ c, env.cells.lookup y.1 = some c) : closureFor scope env = pure (clOf scope.names env.cells []) := by
  have q := clOf_pure (env := env) scope.names [] h
  unfold closureFor
  show (forIn scope.names [] _ >>= fun r => pure r : Sem _) = _
  rw [← q]
  simp only [bind_pure]
theorem clOf_sub {cells : List (Str × Addr)} {x : Str} {c : Addr} : ∀ (l : List (Str × NameKind)) (acc : List (Str × Addr)), (∀ y ∈ l, y.2 = .free → ∃ c, cells.lookup y.1 = some c) → (∀ c, acc.lookup x = some c → cells.lookup x = some c) →
    (clOf l cells acc).lookup x = some c → cells.lookup x = some c
  | [], acc, _, ha, h => ha c h
  | (n, k) :: r, acc, hl, ha, h => by
    unfold clOf at h
    by_cases hk : (k == NameKind.free) = true
    · rw [if_pos hk] at h
      refine clOf_sub r _ (fun y hy => hl y (List.mem_cons_of_mem _ hy)) (fun c' hc' => ?_) h
      obtain ⟨d, hd⟩ := hl (n, k) List.mem_cons_self (by simpa using hk)
      rw [hd] at hc'
      rw [List.lookup_cons] at hc'
      cases e : x == n with
      | true =>
        rw [e] at hc'
        have e' : x = n := by simpa using e
        rw [e', hd]
        exact hc'
      | false =>
        rw [e] at hc'
        exact ha c' hc'
    · rw [if_neg hk] at h
      exact clOf_sub r acc (fun y hy => hl y (List.mem_cons_of_mem _ hy)) ha h
theorem clOf_has {cells : List (Str × Addr)} {x : Str} : ∀ (l : List (Str × NameKind)) (acc : List (Str × Addr)), ((∃ c, acc.lookup x = some c) ∨ (x, NameKind.free) ∈ l) → ∃ c, (clOf l cells acc).lookup x = some c
  | [], acc, h => by
    rcases h with h | h
    · exact h
    · cases h
  | (n, k) :: r, acc, h => by
    unfold clOf
    by_cases hk : (k == NameKind.free) = true
    · rw [if_pos hk]
      refine clOf_has r _ ?_
      by_cases e : x = n
      · subst e
        exact .inl ⟨_, by rw [List.lookup_cons, beq_self_eq_true]⟩
      · rcases h with ⟨c, h⟩ | h
        · refine .inl ⟨c, ?_⟩
          rw [List.lookup_cons]
          have : (x == n) = false := by simpa using e
          rw [this]; exact h
        · rcases List.mem_cons.mp h with h | h
          · exact absurd (congrArg Prod.fst h) e
          · exact .inr h
    · rw [if_neg hk]
      refine clOf_has r _ ?_
      rcases h with h | h
      · exact .inl h
      · rcases List.mem_cons.mp h with h | h
        · have : k = .free := (congrArg Prod.snd h).symm
          rw [this] at hk
          exact absurd rfl hk
        · exact .inr h

/-- an outer name that the block's own name hides -/
def hide (own : List Str) (x : Str) : Str := if own.contains x then ".0." ++ x else x

/-- the context of a comprehension's block -/
def cxComp (X : Cx) (scope : Scope) (own : List Str) (ex : List Addr) (pn : List (Addr × Obj)) (C : Addr) (s₀ : Shared) (H₀ : Hp) : Cx where
  prog := X.prog
  w := X.w
  K := X.K
  mg := X.mg
  base := X.base
  A := X.A
  N := own ++ X.N.map (hide own)
  s₀ := s₀
  H₀ := H₀
  env := compEnvC scope (clOf scope.names X.env.cells []) C X.env
  outer := X.stack
  stack := X.stack
  ex := ex
  fn := fun _ => false
  calm := X.calm
  pn := pn
  xe := fun _ _ => False

theorem lookup_relabel {env : Env} : ∀ {names : List (Str × NameKind)} {x : Str} {k : NameKind},
    (names.map fun (n, k) => if (k == NameKind.free && env.scope.kind == .function && env.kindOf n == some .cell) then (n, NameKind.cell) else (n, k)).lookup x = some k →
    names.lookup x = some k ∨ (k = .cell ∧ names.lookup x = some .free ∧ env.kindOf x = some .cell)
  | [], _, _, h => by simp at h
  | (n, k') :: r, x, k, h => by
    have ih := @lookup_relabel env r x k
    have h : List.lookup x ((if (k' == NameKind.free && env.scope.kind == .function && env.kindOf n == some .cell) = true then (n, NameKind.cell) else (n, k')) :: _) = some k := h
    cases hx : x == n with
    | true =>
      have e : x = n := by simpa using hx
      by_cases hc : (k' == NameKind.free && env.scope.kind == .function && env.kindOf n == some .cell) = true
      · rw [if_pos hc, List.lookup_cons, hx] at h
        simp only [Bool.and_eq_true, beq_iff_eq] at hc
        have hk : NameKind.cell = k := Option.some.inj h
        refine .inr ⟨hk.symm, ?_, by rw [e]; exact hc.2⟩
        rw [List.lookup_cons, hx, hc.1.1]
      · rw [if_neg hc, List.lookup_cons, hx] at h
        refine .inl ?_
        rw [List.lookup_cons, hx]
        exact h
    | false =>
      have q : List.lookup x (r.map fun (n, k) => if (k == NameKind.free && env.scope.kind == .function && env.kindOf n == some .cell) then (n, NameKind.cell) else (n, k)) = some k := by
        by_cases hc : (k' == NameKind.free && env.scope.kind == .function && env.kindOf n == some .cell) = true
        · rw [if_pos hc, List.lookup_cons, hx] at h; exact h
        · rw [if_neg hc, List.lookup_cons, hx] at h; exact h
      rcases ih q with z | z
      · exact .inl (by rw [List.lookup_cons, hx]; exact z)
      · exact .inr ⟨z.1, by rw [List.lookup_cons, hx]; exact z.2.1, z.2.2⟩

structure CmpOk (X : Cx) (scope : Scope) (own : List Str) : Prop where
  kind : scope.kind = .function
  nocell : ∀ y ∈ scope.names, y.2 ≠ .cell
  loc : ∀ y ∈ scope.names, y.2 = .local → scope.names.lookup y.1 = some .local
  free : ∀ y ∈ scope.names, y.2 = .free → X.env.kindOf y.1 = some .cell ∨ X.env.kindOf y.1 = some .free
  rest : ∀ x, scope.names.lookup x = some .local → x ∈ X.N → x ∈ own
  hid : ∀ y ∈ own, scope.names.lookup (".0." ++ y) = none
theorem cmpOk {X : Cx} {scope : Scope} {own : List Str} (hk : scope.kind = .function) (h : cmpChk X.N own scope X.env = true) : CmpOk X scope own := by
  unfold cmpChk at h
  rw [Bool.and_eq_true, List.all_eq_true, List.all_eq_true] at h
  obtain ⟨h, h2⟩ := h
  have hl : ∀ y ∈ scope.names, y.2 = .local → scope.names.lookup y.1 = some .local ∧ (y.1 ∈ own ∨ y.1 ∉ X.N) := fun y hy e => by
    have q := h y hy
    rw [e] at q
    have q2 : (scope.names.lookup y.1 == some .local && (own.contains y.1 || !X.N.contains y.1)) = true := q
    simp only [Bool.and_eq_true, Bool.or_eq_true, beq_iff_eq, List.contains_iff_mem, Bool.not_eq_true', ← Bool.not_eq_true] at q2
    exact q2
  refine ⟨hk, fun y hy e => ?_, fun y hy e => (hl y hy e).1, fun y hy e => ?_, fun x e hx => ?_, fun y hy => ?_⟩
  · have q := h y hy
    rw [e] at q
    exact absurd q Bool.false_ne_true
  · have q := h y hy
    rw [e] at q
    have q2 : (scope.names.lookup y.1 == some .free && (X.env.kindOf y.1 == some .cell || X.env.kindOf y.1 == some .free)) = true := q
    simp only [Bool.and_eq_true, Bool.or_eq_true, beq_iff_eq] at q2
    exact q2.2
  · rcases (hl (x, .local) (PySem.mem_of_lookup e) rfl).2 with z | z
    · exact z
    · exact absurd hx z
  · exact Option.isNone_iff_eq_none.mp (h2 y hy)

section
variable {X : Cx} {scope : Scope} {own : List Str} {pins : List (Addr × Obj)} {σ : St} {H : Hp} {s : Shared}
theorem CmpOk.cells (c : CmpOk X scope own) (ok : X.Ok) : ∀ y ∈ scope.names, y.2 = .free → ∃ c, X.env.cells.lookup y.1 = some c := fun y hy e => ok.has y.1 (c.free y hy e)
theorem CmpOk.sub (c : CmpOk X scope own) (ok : X.Ok) {x : Str} {a : Addr} (h : (clOf scope.names X.env.cells []).lookup x = some a) : X.env.cells.lookup x = some a :=
  clOf_sub scope.names [] (c.cells ok) (fun _ z => nomatch z) h
theorem CmpOk.kindOf (c : CmpOk X scope own) {C : Addr} {cl : List (Str × Addr)} {x : Str} {k : NameKind} (h : (compEnvC scope cl C X.env).kindOf x = some k) :
    scope.names.lookup x = some k ∨ (k = .cell ∧ scope.names.lookup x = some .free ∧ X.env.kindOf x = some .cell) := lookup_relabel h
theorem CmpOk.free_of (c : CmpOk X scope own) {C : Addr} {cl : List (Str × Addr)} {x : Str} (h : (compEnvC scope cl C X.env).kindOf x = some .cell ∨ (compEnvC scope cl C X.env).kindOf x = some .free) : scope.names.lookup x = some .free := by
  rcases h with h | h
  · rcases c.kindOf h with z | z
    · exact absurd rfl (c.nocell _ (PySem.mem_of_lookup z))
    · exact z.2.1
  · rcases c.kindOf h with z | z
    · exact z
    · exact nomatch z.1

/-- the block's context is well -/
theorem Inv.compOk {fp : List Addr} {C : Addr} (I : Inv X pins σ H s) (c : CmpOk X scope own) (hC : s.heap.objs.size ≤ C) (hf : ∀ b ∈ fp, FpOk X pins H b) (ho : ∀ b ∈ fp, ∃ o, s.heap.get? b = some o) :
    (cxComp X scope own fp (X.pn ++ pins) C s H).Ok where
  mod := I.ok.mod
  kind := c.kind
  glob := I.ok.glob
  blt := I.ok.blt
  above := hC
  inj := fun x y a h1 h2 => I.ok.inj x y a (c.sub I.ok h1) (c.sub I.ok h2)
  has := fun x h => clOf_has scope.names [] (.inr (PySem.mem_of_lookup (c.free_of h)))
  cab := fun x a z _ => absurd z Bool.false_ne_true
  hd := I.ok.hd
  frames := I.ok.frames
  stk := .inl rfl
  exf := fun b hb => by
    obtain ⟨o, e⟩ := ho b hb
    exact ⟨Nat.ne_of_lt (Nat.lt_of_lt_of_le (Heap.lt_size e) hC), fun x a h => (hf b hb).2.2.2.2.1 x a (c.sub I.ok h)⟩
  bs := I.bs
  bsz := Nat.le_trans I.ok.bsz I.sz
  noex := fun b o e hb => by
    rcases (hf b hb).2.2.2.1 with z | z
    · exact I.ok.noex b o e z
    · exact absurd (Nat.lt_of_lt_of_le (Heap.lt_size e) (Nat.le_trans I.ok.bsz z)) (Nat.lt_irrefl _)
  exfs := fun b hb z => by
    rcases List.mem_cons.mp (I.stkSub b z) with e | e
    · exact (hf b hb).2.1 e
    · exact (hf b hb).2.2.1 e
  funs := I.stack
  frf := I.stkFree

/-- the names at a turn's begin -/
def turnσ (own : List Str) (σ : St) : St := List.replicate own.length none ++ σ

/-- the block begins -/
theorem Inv.compIn {fp : List Addr} {h₁ : Heap} {t' : Nat} {C : Addr} (I : Inv X pins σ H s) (c : CmpOk X scope own) (hC : s.heap.objs.size ≤ C) (hf : ∀ b ∈ fp, FpOk X pins H b) (ho : ∀ b ∈ fp, ∃ o, s.heap.get? b = some o)
    (kp : ∀ b o, s.heap.get? b = some o → h₁.get? b = some o) (hn : h₁.Ns C (fun _ => none)) :
    Inv (cxComp X scope own fp (X.pn ++ pins) C s H) [] (turnσ own σ) H { s with heap := h₁, toks := t' } where
  ok := I.compOk c hC hf ho
  os := rfl
  bare := I.bare
  base := (Un.kept kp : Un (frs X.stack) [] H H s.heap h₁).mono (fun _ z => z) (fun _ z => nomatch z)
  loc := by
    obtain ⟨m, hm, hl⟩ := I.loc
    refine ⟨_, hn, fun i x v e1 e2 e3 => ?_⟩
    have e1 : (own ++ X.N.map (hide own))[i]? = some x := e1
    have e2 : (List.replicate own.length none ++ σ)[i]? = some (some v) := e2
    by_cases hi : i < own.length
    · rw [List.getElem?_append_left (by simpa using hi), List.getElem?_replicate, if_pos hi] at e2
      cases e2
    · have hi : own.length ≤ i := Nat.le_of_not_lt hi
      rw [List.getElem?_append_right (by simpa using hi), List.length_replicate] at e2
      rw [List.getElem?_append_right hi, List.getElem?_map] at e1
      cases e : X.N[i - own.length]? with
      | none => rw [e] at e1; cases e1
      | some y =>
        rw [e] at e1
        have e1 : hide own y = x := Option.some.inj e1
        have vis : scope.names.lookup x = some .free ∨ scope.names.lookup x = some .local := by
          rcases e3 with z | z | z
          · rcases c.kindOf (C := C) (cl := clOf scope.names X.env.cells []) z with z | z
            · exact .inr z
            · exact nomatch z.1
          · exact .inl (c.free_of (C := C) (cl := clOf scope.names X.env.cells []) (.inl z))
          · exact .inl (c.free_of (C := C) (cl := clOf scope.names X.env.cells []) (.inr z))
        have hxy : y = x ∧ ¬ y ∈ own := by
          unfold hide at e1
          by_cases hy : y ∈ own
          · rw [if_pos (by simpa using hy)] at e1
            have := c.hid y hy
            rw [e1] at this
            rcases vis with z | z
            · rw [this] at z; cases z
            · rw [this] at z; cases z
          · rw [if_neg (by simpa using hy)] at e1
            exact ⟨e1, hy⟩
        obtain ⟨rfl, hy⟩ := hxy
        rcases vis with z | z
        · have hk := c.free _ (PySem.mem_of_lookup z) rfl
          obtain ⟨u, ru, lk⟩ := hl _ y v e e2 (by
            rcases hk with q | q
            · exact .inr (.inl q)
            · exact .inr (.inr q))
          refine ⟨u, ru, .inr ?_⟩
          rcases lk with ⟨q, _⟩ | ⟨_, a, ha, hc⟩
          · rcases hk with q' | q'
            · exact nomatch (show some NameKind.local = some NameKind.cell from q.symm.trans q')
            · exact nomatch (show some NameKind.local = some NameKind.free from q.symm.trans q')
          · obtain ⟨a', ha'⟩ := clOf_has (cells := X.env.cells) scope.names [] (.inr (PySem.mem_of_lookup z))
            have e4 := c.sub I.ok ha'
            rw [ha] at e4
            obtain rfl : a = a' := Option.some.inj e4
            refine ⟨?_, a, ha', ?_⟩
            · rcases e3 with q | q | q
              · rcases c.kindOf (C := C) (cl := clOf scope.names X.env.cells []) q with q | q
                · rw [z] at q; cases q
                · exact nomatch q.1
              · exact .inl q
              · exact .inr q
            · obtain ⟨o, e, d⟩ := hc
              exact ⟨o, kp _ _ e, d⟩
        · exact absurd (c.rest y z (List.mem_of_getElem? e)) hy
  cell := fun x a h => by
    obtain ⟨v, z⟩ := I.cell x a (c.sub I.ok h)
    obtain ⟨o, e, d⟩ := z
    exact ⟨v, o, kp _ _ e, d⟩
  free := I.hok.fresh hC
  freeC := fun x a h => I.freeC x a (c.sub I.ok h)
  pin := fun p hp => by
    have hp : p ∈ (X.pn ++ pins) ++ [] := hp
    rw [List.append_nil] at hp
    obtain ⟨e, n, ne, nf, d⟩ := I.pin p hp
    refine ⟨kp _ _ e, n, Nat.ne_of_lt (Nat.lt_of_lt_of_le (Heap.lt_size e) hC), fun z => ?_, d⟩
    rcases List.mem_cons.mp (I.stkSub p.1 z) with q | q
    · exact ne q
    · exact nf q
  hok := I.hok.kept kp
  len := by
    show (List.replicate own.length none ++ σ).length = (own ++ X.N.map (hide own)).length
    rw [List.length_append, List.length_append, List.length_replicate, List.length_map, I.len]
end
end L2

namespace L2
open PySem PySem.Spec PyProof.Rows
section
variable {prog : Program} {w : World} {A : Around} {R : Result → Shared → Prop} {s : Shared}
theorem codeAny_compLoop_gen {elt target iter : Expr} {ifs : List Expr} {scope : Scope} {pos : Pos} {it acc : Value} {env : Env} (I : Nat → Shared → Prop)
    (turn : ∀ n s, I n s → wpAny (model prog w) A (pyNext it) (fun r s₁ => match r with
      | none => R (.ok .next) s₁
      | some v => wpAny (model prog w) A (letOwnedTupleGo target it v) (fun _ s₀ => wpAny (model prog w) A (assign target env v) (fun _ s₂ =>
          wpAny (model prog w) A (forIn ifs true fun c r => if r = true then do let ok ← isTrue c env (eval c env); pure (ForInStep.yield ok) else pure (ForInStep.yield r)) (fun ok s₃ =>
            if ok = true then wpAny (model prog w) A (eval elt env) (fun x s₄ =>
              wpAny (model prog w) A (call (.builtin "list.append") [acc, x]) (fun _ s₅ => ∃ m, m < n ∧ I m s₅) (fun _ _ => False) s₄) (fun _ _ => False) s₃
            else ∃ m, m < n ∧ I m s₃) (fun _ _ => False) s₂) (fun _ _ => False) s₀) (fun _ _ => False) s₁) (fun _ _ => False) s)
    (n : Nat) (h : I n s) :
    codeAny (model prog w) A (.compLoop (.ListComp elt [⟨target, iter, ifs, 0⟩] scope pos) 0 it acc env) R s := by
  refine codeAny_loop rfl I (fun n s hI => ?_) n h
  show wpAny _ A ((compTurn (.ListComp elt [⟨target, iter, ifs, 0⟩] scope pos) 0 it acc env).onRaise (fun x => do noteFrame x env; theTreesLotGoes x)) _ _ s
  refine wpAny_noted ?_
  rw [compTurn_list]
  refine wpAny_bind (wpAny_standAt (wpAny_bind (wpAny_mono (turn n s hI) (fun r s₁ h₁ => ?_) fun _ _ h' => h'.elim)))
  cases r with
  | none => exact wpAny_pure h₁
  | some v =>
    refine wpAny_bind (wpAny_mono h₁ (fun _ s₀ h₀ => ?_) fun _ _ h' => h'.elim)
    refine wpAny_bind (wpAny_mono h₀ (fun _ s₂ h₂ => wpAny_bind (wpAny_mono h₂ (fun ok s₃ h₃ => ?_) fun _ _ h' => h'.elim)) fun _ _ h' => h'.elim)
    cases ok with
    | false => exact wpAny_pure ⟨rfl, h₃⟩
    | true =>
      exact wpAny_bind (wpAny_bind (wpAny_mono h₃ (fun x s₄ h₄ => wpAny_bind (wpAny_mono h₄ (fun _ s₅ h₅ => wpAny_pure (wpAny_pure ⟨rfl, h₅⟩)) fun _ _ h' => h'.elim)) fun _ _ h' => h'.elim))
end

/-- a clause's tests -/
def PIf (X : Cx) (ifs : List Expr) (t : TT) : Prop :=
  ∀ (pins : List (Addr × Obj)) (s : Shared) (σ : St) (H : Hp) (Q : Bool → Hp → Prop), Inv X pins σ H s → t σ H Q →
    wpAny (model X.prog X.w) X.A (forIn ifs true fun c r => if r = true then do let ok ← isTrue c X.env (eval c X.env); pure (ForInStep.yield ok) else pure (ForInStep.yield r)) (TP X pins σ Q) X.xe s
def tYes : TT := fun _ H Q => Q true H
theorem pif_nil {X : Cx} : PIf X [] tYes := fun _ _ _ H _ I h => wpAny_tests_nil ⟨H, I, h⟩
theorem pif_one {X : Cx} {c : Expr} {t : TT} (h : PT X c t) : PIf X [c] t := fun pins s σ H Q I q => wpAny_tests_one (h pins s σ H Q I q)

def lsto (its : List Value) (k : Nat) : Obj := { cls := .type "list", data := .seq its.toArray k }

section
variable {X : Cx} {scope : Scope} {own : List Str} {pins : List (Addr × Obj)} {σ σ' : St} {H H' : Hp} {s s' : Shared} {fp : List Addr} {C D : Addr} {its : List Value} {k : Nat} {ys : List V}
/-- behind the block -/
theorem Inv.compOut {h'' : Heap} (I : Inv X pins σ H s) (hf : ∀ b ∈ fp, FpOk X pins H b) (hD : s.heap.objs.size ≤ D) (hC : s.heap.objs.size ≤ C) (hDC : D ≠ C)
    (J : Inv (cxComp X scope own fp (X.pn ++ pins) C s H) [(D, lsto its k)] σ' H' s') (r : Vals ys its) (hz : ys.length ≤ sizeLine) (sb : Heap.SameBut C s'.heap h'') :
    Inv X pins σ (upd H' D (.lst ys)) { s' with heap := h'' } := by
  have pD := J.pin (D, lsto its k) (List.mem_append_right _ List.mem_cons_self)
  have ltD : ∀ b o, s.heap.get? b = some o → b ≠ D := fun b o e => Nat.ne_of_lt (Nat.lt_of_lt_of_le (Heap.lt_size e) hD)
  have ltC : ∀ b o, s.heap.get? b = some o → b ≠ C := fun b o e => Nat.ne_of_lt (Nat.lt_of_lt_of_le (Heap.lt_size e) hC)
  have trD : ∀ b o, H b = some o → b ≠ D := fun b o e => Nat.ne_of_lt (Nat.lt_of_lt_of_le (I.hok.lt e) hD)
  have hCn : H' C = none := J.free
  have hDn : H' D = none := pD.2.1
  have B : Un (frs X.stack) fp H H' s.heap s'.heap := J.base
  have U : Un (frs X.stack) fp H (upd H' D (.lst ys)) s.heap h'' :=
    ⟨fun b o e n hb hx => (sb.2 b (ltC b o e)).trans (B.keep b o e n hb hx), fun b o e n hb hx => by
        obtain ⟨sl, q⟩ := B.slot b o e n hb hx
        exact ⟨sl, (sb.2 b (ltC b o e)).trans q⟩,
      fun b o e n hx => by rw [upd_ne (ltD b o e)]; exact B.free b o e n hx,
      fun b o e hx => by
        obtain ⟨o', q⟩ := B.there b o e hx
        exact ⟨o', (sb.2 b (ltC b o e)).trans q⟩,
      fun b xs e => by rw [upd_ne (trD b _ e)]; exact B.tups b xs e,
      fun b o u e => by rw [upd_ne (trD b _ e)]; exact B.frzs b o u e,
      fun b ps e => by rw [upd_ne (trD b _ e)]; exact B.tbls b ps e⟩
  have hok : HOk X.prog X.w (upd H' D (.lst ys)) h'' := fun b u e => by
    by_cases hb : b = D
    · subst hb
      rw [upd_same] at e
      cases e
      exact ⟨hz, its, k, r, (sb.2 b hDC).trans pD.1⟩
    · rw [upd_ne hb] at e
      have nC : ∀ c v, H' c = some v → c ≠ C := fun c v q z => by rw [z, hCn] at q; cases q
      have nD : ∀ c v, H' c = some v → c ≠ D := fun c v q z => by rw [z, hDn] at q; cases q
      refine (J.hok b u e).stay (fun c v hc q => (sb.2 c ?_).trans q) (fun c q => by rw [upd_ne (nD c _ q)]; exact q) fun c xs q => by rw [upd_ne (nD c _ q)]; exact q
      rcases hc with z | z
      · rw [z]; exact nC b u e
      · exact nC c _ z
  exact I.call' (s' := { s' with heap := h'' }) (ch := fp) J.os U hok J.bare fun b hb => ⟨(hf b hb).2.2.2.1, (hf b hb).2.1, (hf b hb).2.2.2.2.1, (hf b hb).2.2.2.2.2⟩
end

/-- what is asked of a comprehension over the walk J -/
def CompW (J : It) (m : Nat) (g : TG) (tc : TT) (te : TE) (σ : St) (H1 : Hp) (Q : VK) : Prop := ∃ W : Nat → Nat → List V → Hp → Prop, (∃ n, W 0 n [] H1) ∧ ∀ i n ys H, W i n ys H →
  (J.stop i H ∧ ys.length ≤ sizeLine ∧ ∀ p, H p = none → Q (.ref p) (upd H p (.lst ys))) ∨
  (J.go i H ∧ ys.length < sizeLine ∧ ∃ N : List V → Hp → Prop, (∀ ys' H', N ys' H' → ∃ n', n' < n ∧ W (i + 1) n' ys' H') ∧ ∀ x H', J.yld i H x H' →
    g x (List.replicate m none ++ σ) H' fun σ2 H2 => σ2.drop m = σ ∧ tc σ2 H2 fun b H3 => if b = true then te σ2 H3 fun y H4 => N (ys ++ [y]) H4 else N ys H3)
def tComp (m : Nat) (wi : TI) (g : TG) (tc : TT) (te : TE) : TE := fun σ H Q => wi σ H fun J H1 => CompW J m g tc te σ H1 Q

section
variable {X : Cx} {scope : Scope} {own : List Str} {tg iter elt : Expr} {ifs : List Expr} {g : TG} {tc : TT} {te : TE} {wi : TI} {pos : Pos}

theorem comp_block (hcal : X.calm = true) (c : CmpOk X scope own) (hg : ∀ ex pn C s₀ H₀, PG (cxComp X scope own ex pn C s₀ H₀) tg g) (ht : ∀ ex pn C s₀ H₀, PIf (cxComp X scope own ex pn C s₀ H₀) ifs tc)
    (he : ∀ ex pn C s₀ H₀, PE (cxComp X scope own ex pn C s₀ H₀) elt te) {pins : List (Addr × Obj)} {σ : St} {H : Hp} {s : Shared} {E : Value → Shared → Prop} {RR : Value → Addr → Result → Shared → Prop}
    {it : Addr} {fp : List Addr} {tn : Nat → Heap → Prop} {J : It} (I : Inv X pins σ H s) (T : Turn X.prog X.w X.K tg J fp it tn) (t0 : tn 0 s.heap) (hf : ∀ b ∈ fp, FpOk X pins H b) {Fin : List V → Hp → Prop}
    (W : Nat → Nat → List V → Hp → Prop) (w0 : ∃ n, W 0 n [] H) (turn : ∀ i n ys H, W i n ys H → (J.stop i H ∧ ys.length ≤ sizeLine ∧ Fin ys H) ∨
      (J.go i H ∧ ys.length < sizeLine ∧ ∃ N : List V → Hp → Prop, (∀ ys' H', N ys' H' → ∃ n', n' < n ∧ W (i + 1) n' ys' H') ∧ ∀ x H', J.yld i H x H' →
        g x (List.replicate own.length none ++ σ) H' fun σ2 H2 => σ2.drop own.length = σ ∧ tc σ2 H2 fun b H3 => if b = true then te σ2 H3 fun y H4 => N (ys ++ [y]) H4 else N ys H3))
    (hRR : ∀ D C s' ys H', s.heap.objs.size ≤ D → s.heap.objs.size ≤ C → D ≠ C → H' D = none → H' C = none → (∃ m, s'.heap.Ns C m) → (∀ h'', Heap.SameBut C s'.heap h'' → Inv X pins σ (upd H' D (.lst ys)) { s' with heap := h'' }) → Fin ys H' → RR (.ref D) C (.ok .next) s') :
    wpAny (model X.prog X.w) X.A (newList []) (fun acc s₃ => wpAny (model X.prog X.w) X.A (newFunctionEnv scope X.env.globals (clOf scope.names X.env.cells []) [] X.env.qual none .none (some X.env)) (fun cenv s₄ =>
      codeAny (model X.prog X.w) X.A (.compStart (.ListComp elt [⟨tg, iter, ifs, 0⟩] scope pos) 0 (.ref it) acc { cenv with scope := relabel scope X.env }) (RR acc cenv.locals) s₄) E s₃) E s := by
  refine wpAny_newObj_type (wpAny_newFunctionEnv c.nocell (by intro y hy; simp at hy) (fun h₁ hns₁ hsb₁ => ?_) c.kind)
  dsimp only at hns₁ hsb₁ ⊢
  generalize hH2 : s.heap.push { cls := .type "list", dict := none, data := .seq ([] : List Value).toArray } = H2 at hns₁ hsb₁ ⊢
  have hCs : H2.objs.size = s.heap.objs.size + 1 := by rw [← hH2, Heap.size_push]
  generalize hDd : s.heap.objs.size = D at hCs ⊢
  generalize hCd : H2.objs.size = C at hCs hns₁ hsb₁ ⊢
  have hDC : D ≠ C := by rw [hCs]; exact Nat.ne_of_lt (Nat.lt_succ_self _)
  have hD : s.heap.objs.size ≤ D := Nat.le_of_eq hDd
  have hC : s.heap.objs.size ≤ C := by rw [hDd, hCs]; exact Nat.le_succ _
  have lt2 : ∀ b o, s.heap.get? b = some o → b ≠ D ∧ b ≠ C := fun b o e => ⟨Nat.ne_of_lt (Nat.lt_of_lt_of_le (Heap.lt_size e) hD), Nat.ne_of_lt (Nat.lt_of_lt_of_le (Heap.lt_size e) hC)⟩
  have old : ∀ b o, s.heap.get? b = some o → h₁.get? b = some o := fun b o e => hsb₁.extBut b o (lt2 b o e).2 (Heap.get?_push_of_some _ (hH2 ▸ Heap.get?_push_of_some _ e))
  have hacc : h₁.get? D = some (lsto [] 0) := hsb₁.extBut _ _ hDC (Heap.get?_push_of_some _ (by rw [← hH2, ← hDd]; exact Heap.get?_push_size _ rfl))
  have ho : ∀ b ∈ fp, ∃ o, s.heap.get? b = some o := fun b hb => let ⟨o, e, _⟩ := T.obj 0 _ t0 b hb; ⟨o, e⟩
  have nfD : ∀ b ∈ fp, b ≠ D := fun b hb => let ⟨o, e⟩ := ho b hb; (lt2 b o e).1
  have hDn : H D = none := I.hok.fresh hD
  have I1 : Inv (cxComp X scope own fp (X.pn ++ pins) C s H) [(D, lsto [] 0)] (turnσ own σ) H { s with heap := h₁, toks := s.toks + ([] : List (Str × Value)).length } := by
    refine (I.compIn c hC hf ho old (by simpa using hns₁)).pins_of fun p hp => ?_
    have e : p = (D, lsto [] 0) := by simpa using hp
    subst e
    refine ⟨hacc, hDn, hDC, fun z => ?_, fun v z => by cases (show Data.seq _ _ = Data.cell v from z)⟩
    obtain ⟨_, o, e, _⟩ := (I.stack).mem (show D ∈ frs X.stack from z)
    exact (lt2 D o e).1 rfl
  have cellD : ∀ x a, (clOf scope.names X.env.cells []).lookup x = some a → a ≠ D := fun x a h => by
    obtain ⟨v, o, e, _⟩ := I.cell x a (c.sub I.ok h)
    exact (lt2 a o e).1
  have pinD : ∀ p ∈ X.pn ++ pins, p.1 ≠ D := fun p hp => (lt2 _ _ (I.pin p hp).1).1
  have stat : ∀ {H' : Hp} {its : List Value} {k : Nat}, (∀ b ∈ fp, H' b = none) → ∀ b ∈ fp, FpOk (cxComp X scope own fp (X.pn ++ pins) C s H) [(D, lsto its k)] H' b := fun {H' its k} hn b hb => by
    obtain ⟨o, e⟩ := ho b hb
    obtain ⟨f0, f1, f2, f3, f4, f5⟩ := hf b hb
    refine ⟨hn b hb, (lt2 b o e).2, fun z => ?_, .inl hb, fun x a h => f4 x a (c.sub I.ok h), fun p hp => ?_⟩
    · rcases List.mem_cons.mp (I.stkSub b z) with q | q
      · exact f1 q
      · exact f2 q
    · rcases List.mem_append.mp hp with q | q
      · exact f5 p q
      · have : p = (D, lsto its k) := by simpa using q
        subst this
        exact Ne.symm (nfD b hb)
  have weak : ∀ {σ' : St} {H' : Hp} {s' : Shared} {pp : List (Addr × Obj)}, Inv (cxComp X scope own fp (X.pn ++ pins) C s H) pp σ' H' s' → σ'.drop own.length = σ → Inv (cxComp X scope own fp (X.pn ++ pins) C s H) pp (turnσ own σ) H' s' := fun {σ' H' s' pp} I' hd => by
    have hl := I'.len
    have hl1 := I1.len
    refine I'.weak (hl1.trans hl.symm) fun i v e => ?_
    have e : (List.replicate own.length none ++ σ)[i]? = some (some v) := e
    by_cases hi : i < own.length
    · rw [List.getElem?_append_left (by simpa using hi), List.getElem?_replicate, if_pos hi] at e
      cases e
    · have hi : own.length ≤ i := Nat.le_of_not_lt hi
      rw [List.getElem?_append_right (by simpa using hi), List.length_replicate, ← hd, List.getElem?_drop] at e
      rw [show own.length + (i - own.length) = i by omega] at e
      exact e
  obtain ⟨n0, w0⟩ := w0
  have loop : ∀ s₃ : Shared, s₃ = { s with heap := h₁, toks := s.toks + ([] : List (Str × Value)).length } →
      codeAny (model X.prog X.w) X.A (.compLoop (.ListComp elt [⟨tg, iter, ifs, 0⟩] scope pos) 0 (.ref it) (.ref D) (compEnvC scope (clOf scope.names X.env.cells []) C X.env)) (RR (.ref D) C) s₃ := by
    rintro s₃ rfl
    refine codeAny_compLoop_gen (fun n s' => ∃ i σ' H' ys its k, Inv (cxComp X scope own fp (X.pn ++ pins) C s H) [(D, lsto its k)] σ' H' s' ∧ σ'.drop own.length = σ ∧ Vals ys its ∧ tn i s'.heap ∧ (∀ b ∈ fp, H' b = none) ∧ W i n ys H') ?_ n0
      ⟨0, _, H, [], [], 0, I1, by simp [turnσ], .nil, T.keep _ _ _ t0 fun b _ o e => old b o e, fun b hb => (hf b hb).1, w0⟩
    rintro n s3 ⟨i, σ3, H3, ys, its, k, I3, hd3, rv, st3, fr3, w3⟩
    have hlen := rv.length
    rcases turn i n ys H3 w3 with ⟨stop, hz, fin⟩ | ⟨go, hz, N, hN, step⟩
    · refine thn (T.done (cxComp X scope own fp (X.pn ++ pins) C s H) rfl rfl rfl hcal i _ s3 σ3 H3 _ I3 (stat fr3) st3 stop) fun r s4 ⟨hr, I4⟩ => ?_
      subst hr
      obtain ⟨m, hm, _⟩ := id I4.loc
      exact hRR D C s4 ys H3 hD hC hDC (I4.pin (D, lsto its k) (List.mem_append_right _ List.mem_cons_self)).2.1 I4.free ⟨m, hm⟩ (fun h'' sb => I.compOut hf hD hC hDC I4 rv hz sb) fin
    · refine thn (T.item (cxComp X scope own fp (X.pn ++ pins) C s H) rfl rfl rfl hcal i _ s3 σ3 H3 _ I3 (stat fr3) st3 go) fun r s4 ⟨u, hr, h4⟩ => ?_
      subst hr
      refine thn h4 fun _ s5 ⟨x, H5, I5, r5, y5, st5, fr5⟩ => ?_
      have I5' := weak (I5.pinned (stat fr5) (T.obj _ _ st5)) hd3
      refine thn (hg fp (X.pn ++ pins) C s H _ s5 _ H5 x u _ I5' r5 (step x H5 y5)) fun _ s6 ⟨σ6, H6, I6, hd6, q6⟩ => ?_
      refine thn (ht fp (X.pn ++ pins) C s H _ s6 σ6 H6 _ I6 q6) fun b s7 ⟨H7, I7, q7⟩ => ?_
      have tnk : ∀ {σ7 : St} {H7 : Hp} {s7 : Shared}, Inv (cxComp X scope own fp (X.pn ++ pins) C s H) ([(D, lsto its k)] ++ pinsAt fp s5.heap) σ7 H7 s7 → tn (i + 1) s7.heap ∧ ∀ b ∈ fp, H7 b = none := fun {σ7 H7 s7} I7 => by
        refine ⟨T.keep _ _ _ st5 fun b hb o e => (I7.pin (b, o) (List.mem_append_right _ (List.mem_append_right _ (mem_pinsAt hb e)))).1, fun b hb => ?_⟩
        obtain ⟨o, e, d⟩ := T.obj _ _ st5 b hb
        exact (I7.pin (b, o) (List.mem_append_right _ (List.mem_append_right _ (mem_pinsAt hb e)))).2.1
      cases b with
      | false =>
        rw [if_neg Bool.false_ne_true] at q7 ⊢
        obtain ⟨n', hn', w7⟩ := hN _ _ q7
        exact ⟨n', hn', i + 1, σ6, H7, ys, its, k, I7.unpinned, hd6, rv, (tnk I7).1, (tnk I7).2, w7⟩
      | true =>
        rw [if_pos rfl] at q7 ⊢
        refine thn (he fp (X.pn ++ pins) C s H _ s7 σ6 H7 _ I7 q7) fun u8 s8 ⟨y, H8, I8, r8, q8⟩ => ?_
        obtain ⟨n', hn', w8⟩ := hN _ _ q8
        have pD := I8.pin (D, lsto its k) (List.mem_append_right _ (List.mem_append_left _ List.mem_cons_self))
        refine append_at (hsz := by rw [List.size_toArray]; omega) pD.1 fun h9 sb9 hD9 => ?_
        have I8' : Inv (cxComp X scope own fp (X.pn ++ pins) C s H) [] σ6 H8 s8 := I8.pins_of fun p hp => absurd hp (by simp)
        have I9 : Inv (cxComp X scope own fp (X.pn ++ pins) C s H) [] σ6 H8 { s8 with heap := h9 } :=
          I8'.turned (it := D) (t' := s8.toks) (fun b o hb e => (sb9.2 b hb).trans e) pD.2.1 hDC (.inr hD) (fun x a h => cellD x a h) fun p hp => pinD p (by
            have hp : p ∈ (X.pn ++ pins) ++ [] := hp
            rwa [List.append_nil] at hp)
        have I10 : Inv (cxComp X scope own fp (X.pn ++ pins) C s H) [(D, lsto (its ++ [u8]) (k + 1))] σ6 H8 { s8 with heap := h9 } := I9.pins_of fun p hp => by
          have e : p = (D, lsto (its ++ [u8]) (k + 1)) := by simpa using hp
          subst e
          refine ⟨?_, pD.2.1, hDC, pD.2.2.2.1, fun v z => by cases (show Data.seq _ _ = Data.cell v from z)⟩
          rw [hD9, List.push_toArray]
          rfl
        exact ⟨n', hn', i + 1, σ6, H8, ys ++ [y], its ++ [u8], k + 1, I10, hd6, rv.append (.cons r8 .nil),
          T.keep _ _ _ (tnk I8).1 fun b hb o e => (sb9.2 b (nfD b hb)).trans e, (tnk I8).2, w8⟩
  exact codeAny_compStart_list (loop _ rfl) (T.self _ 0 _ _ _ (T.keep _ _ _ t0 fun b _ o e => old b o e) (loop _ rfl))

theorem pe_comp (hcal : X.calm = true) (hi : PI X tg iter wi) (hg : ∀ ex pn C s₀ H₀, PG (cxComp X scope own ex pn C s₀ H₀) tg g) (ht : ∀ ex pn C s₀ H₀, PIf (cxComp X scope own ex pn C s₀ H₀) ifs tc)
    (he : ∀ ex pn C s₀ H₀, PE (cxComp X scope own ex pn C s₀ H₀) elt te) (hk : scope.kind = .function := by rfl) (hch : cmpChk X.N own scope X.env = true := by rfl)
    (hs : ∀ x, foldedSetIterable iter X.env x = pure x := by intro _; rfl) : PE X (.ListComp elt [⟨tg, iter, ifs, 0⟩] scope pos) (tComp own.length wi g tc te) := by
  intro pins s σ H Q I h
  have c : CmpOk X scope own := cmpOk hk hch
  rw [eval_ListComp]
  refine wpAny_comprehension_free (use := none) rfl hs (closure_is (c.cells I.ok)) hk c.loc (thn (hi pins s σ H _ I h) fun v s1 h1 => thn h1 fun itv s2 h2 => ?_)
  obtain ⟨it, fp, tn, J, H2, e, I2, T, st2, f2, W, w0, turn⟩ := h2
  subst e
  refine comp_block (RR := fun acc C => compPost (model X.prog X.w) X.A X.xe none (EP X pins σ Q) acc C) hcal c hg ht he I2 T st2 f2 (Fin := fun ys H => ∀ p, H p = none → Q (.ref p) (upd H p (.lst ys))) W w0 turn ?_
  intro D C s' ys H' hD hC hDC hDn hCn ⟨m, hm⟩ inv fin
  exact ⟨m, hm, fun h'' sb => ⟨.ref D, _, inv h'' sb, rfl, fin D hDn⟩⟩

/-- name = [..]: the store comes ahead of the block's end -/
theorem ps_setcomp {i : Nat} {x : Str} {px spos : Pos} (hcal : X.calm = true) (hN : X.N.Nodup) (hx : X.N[i]? = some x) (hl : Loc X.env.scope x) (hi : PI X tg iter wi) (hg : ∀ ex pn C s₀ H₀, PG (cxComp X scope own ex pn C s₀ H₀) tg g)
    (ht : ∀ ex pn C s₀ H₀, PIf (cxComp X scope own ex pn C s₀ H₀) ifs tc)
    (he : ∀ ex pn C s₀ H₀, PE (cxComp X scope own ex pn C s₀ H₀) elt te) (hk : scope.kind = .function := by rfl) (hch : cmpChk X.N own scope X.env = true := by rfl)
    (hsw : swapsWith (.ListComp elt [⟨tg, iter, ifs, 0⟩] scope pos) (some (.Name x px)) spos.line X.env = pure true := by rfl)
    (hs : ∀ x, foldedSetIterable iter X.env x = pure x := by intro _; rfl) (hf : X.fn x = true ∨ X.env.scope.names.lookup x = some .local := by first | exact .inl rfl | exact .inr rfl | assumption) :
    PS X (.Assign [.Name x px] (.ListComp elt [⟨tg, iter, ifs, 0⟩] scope pos) spos) (tAsg (tComp own.length wi g tc te) (gName i)) := by
  intro pins s σ H D I h
  have c : CmpOk X scope own := cmpOk hk hch
  rw [exec_Assign_Name_used _ _ _ _ hsw]
  refine wpAny_bind (wpAny_standAt (wpAny_bind ?_))
  show wpAny _ X.A (do let _ ← comprehension (.ListComp elt [⟨tg, iter, ifs, 0⟩] scope pos) scope X.env _ (newList []) false (eval iter X.env) (some (assign (.Name x px) X.env))) _ _ s
  refine wpAny_bind (wpAny_mono (wpAny_comprehension_free (use := some (assign (.Name x px) X.env)) (Q := fun _ s' => SP X pins D .next s') rfl hs (closure_is (c.cells I.ok)) hk c.loc
    (thn (hi pins s σ H _ I h) fun v s1 h1 => thn h1 fun itv s2 h2 => ?_)) (fun _ s' hq => wpAny_pure (wpAny_pure hq)) fun _ _ e => e)
  obtain ⟨it, fp, tn, J, H2, e, I2, T, st2, f2, W, w0, turn⟩ := h2
  subst e
  refine comp_block (RR := fun acc C => compPost (model X.prog X.w) X.A X.xe (some (assign (.Name x px) X.env)) (fun _ s' => SP X pins D .next s') acc C) hcal c hg ht he I2 T st2 f2
    (Fin := fun ys H => ∀ p, H p = none → gName i (.ref p) σ (upd H p (.lst ys)) D.nx) W w0 turn ?_
  intro L C s' ys H' hL hC hLC hLn hCn ⟨m, hm⟩ inv fin
  show wpAny _ X.A (assign (.Name x px) X.env (.ref L)) _ _ s'
  have I3 : Inv X pins σ (upd H' L (.lst ys)) s' := inv s'.heap (.refl _ _)
  have lt2 : ∀ b o, s2.heap.get? b = some o → b ≠ C := fun b o e => Nat.ne_of_lt (Nat.lt_of_lt_of_le (Heap.lt_size e) hC)
  have hCL : C ≠ X.env.locals := by
    obtain ⟨m', ⟨o, _, _, e, _⟩, _⟩ := I2.loc
    exact Ne.symm (lt2 _ o e)
  have hCc : ∀ y a, X.env.cells.lookup y = some a → a ≠ C := fun y a e => by
    obtain ⟨v, o, e', _⟩ := I2.cell y a e
    exact lt2 a o e'
  refine wpAny_assign_Name (store_ok2 I3 hN hx hl (v := .ref L) rfl (fun s4 I4 sb4 => ?_) hf)
  obtain ⟨a, sb, ha⟩ := sb4
  have haC : C ≠ a := by
    rcases ha with z | z
    · rw [z]; exact hCL
    · exact Ne.symm (hCc x a z)
  refine ⟨m, hm.sameBut sb haC, fun h'' sb'' => ⟨_, _, I4.turned (it := C) (t' := s4.toks) (fun b o hb e => (sb''.2 b hb).trans e) ?_ hCL (.inr (Nat.le_trans I2.sz hC)) hCc fun p hp => lt2 _ _ (I2.pin p hp).1, fin L hLn⟩⟩
  rw [upd_ne (Ne.symm hLC)]
  exact hCn
end
end L2

namespace L2
open PySem PySem.Spec PyProof.Rows
/-! ### enumerate(a list), unpacked by the target -/
def Ite (K : PySem.W.Frag) (a : Addr) : It :=
  ⟨fun i H => ∃ xs x, SqL K H a xs ∧ xs[i]? = some x, fun i H x H' => ∃ t v, x = .ref t ∧ H t = none ∧ (∀ xs, SqL K H a xs → xs[i]? = some v) ∧ H' = upd H t (.tup [.int i, v]), fun i H => ∃ xs, SqL K H a xs ∧ xs.length ≤ i⟩
theorem turn_enum {P : Program} {w : World} {K : PySem.W.Frag} {elts : List Expr} {k : Nat} {pos : Pos} (a e it : Addr) (hei : e ≠ it) : Turn P w K (.Tuple elts k pos) (Ite K a) [e, it] e (fun i h => (∃ old, IsEnum h e it i old) ∧ h.IsListIter it a i) where
  mem := by simp
  obj := fun i h st b hb => by
    obtain ⟨⟨old, he⟩, hit⟩ := st
    have hb : b = e ∨ b = it := by simpa using hb
    rcases hb with rfl | rfl
    · exact ⟨_, he, fun v z => by cases (show Data.fields _ = Data.cell v from z)⟩
    · obtain ⟨o, e, c, d⟩ := hit
      exact ⟨o, e, fun v z => by rw [d] at z; cases z⟩
  keep := fun i h h' st kp => by
    obtain ⟨⟨old, he⟩, hit⟩ := st
    exact ⟨⟨old, kp e (by simp) _ he⟩, hit.at fun o q => kp it (by simp) o q⟩
  item := by
    intro X hP hw hK hc i pins s σ H E I hf st hg
    subst hP hw hK
    obtain ⟨xs, x, hq, hx⟩ := hg
    obtain ⟨⟨old, he⟩, hit⟩ := st
    obtain ⟨its, rv, p, hz⟩ := I.list hq
    obtain ⟨u, hu, ru⟩ := rv.get hx
    obtain ⟨f0, f1, f2, f3, f4, f5⟩ := hf e (by simp)
    obtain ⟨g0, g1, g2, g3, g4, g5⟩ := hf it (by simp)
    have hel : e < s.heap.objs.size := Heap.lt_size he
    have hil : it < s.heap.objs.size := by obtain ⟨_, x, _⟩ := hit; exact Heap.lt_size x
    refine wpAny_pyNext_enum_item he hit p.isList (x := u) (by simpa using hu) hei fun h1 ho hit1 hT hsz kp => ?_
    refine ⟨_, rfl, wpAny_letOwnedTupleGo_enum ho fun h2 he2 sb2 => ?_⟩
    have sb2 : Heap.SameBut e h1 h2 := sb2
    have kp2 : ∀ b o, b ≠ e → b ≠ it → s.heap.get? b = some o → h2.get? b = some o := fun b o h1 h2 q => (sb2.2 b h1).trans (kp b o h1 h2 q)
    have hT2 : h2.get? s.heap.objs.size = some { cls := .type "tuple", data := .seq #[.int i s.toks, u] } := (sb2.2 _ (Nat.ne_of_gt hel)).trans hT
    have hit2 : h2.IsListIter it a (i + 1) := hit1.at fun o q => (sb2.2 it hei.symm).trans q
    have hn : H s.heap.objs.size = none := I.hok.fresh (Nat.le_refl _)
    have nf : ∀ b u, H b = some u → b ≠ e ∧ b ≠ it := fun b u q => ⟨fun z => (by rw [z, f0] at q; cases q), fun z => (by rw [z, g0] at q; cases q)⟩
    have I2 : Inv X pins σ (upd H s.heap.objs.size (.tup [.int i, x])) { s with heap := h2, toks := s.toks + 1 } := by
      refine I.step (g' := s.gens) (d' := s.drawn) (t' := s.toks + 1) (ch := [e, it]) (fun b hb => ?_) (fun b o _ _ hc q _ => kp2 b o (fun z => hc (by simp [z])) (fun z => hc (by simp [z])) q)
        (fun b o _ _ hc q _ => ⟨o.slots, kp2 b o (fun z => hc (by simp [z])) (fun z => hc (by simp [z])) q⟩) (fun b o hc q n => ?_) (fun b o hc q => ⟨o, kp2 b o (fun z => hc (by simp [z])) (fun z => hc (by simp [z])) q⟩)
        (fun b xs q => ?_) (fun b o u q => ?_) (fun b ps q => ⟨#[], ?_⟩) (fun m hm => ?_) (fun b u' q => ?_) I.bare
      · have hb : b = e ∨ b = it := by simpa using hb
        rcases hb with rfl | rfl
        · exact ⟨f3, f1, f4, f5⟩
        · exact ⟨g3, g1, g4, g5⟩
      · rw [upd_ne (Nat.ne_of_lt (Heap.lt_size q))]; exact n
      · rw [upd_ne (ne_of_none q hn)]; exact q
      · rw [upd_ne (ne_of_none q hn)]; exact q
      · rw [upd_ne (ne_of_none q hn), q]; simp
      · obtain ⟨o, es, ep, q, r⟩ := hm
        exact ⟨o, es, ep, kp2 _ o (Ne.symm f1) (Ne.symm g1) q, r⟩
      · by_cases hb : b = s.heap.objs.size
        · subst hb
          rw [upd_same] at q
          cases q
          have hl2 : ([V.int i, x] : List V).length ≤ sizeLine := by show 2 ≤ sizeLine; decide
          exact ⟨hl2, [.int i s.toks, u], .cons ⟨_, rfl⟩ (.cons ru .nil), ⟨_, hT2, rfl, _, rfl⟩⟩
        · rw [upd_ne hb] at q
          refine (I.hok b u' q).stay (fun c v hc' z => kp2 c v ?_ ?_ z) (fun c z => by rw [upd_ne (ne_of_none z hn)]; exact z) fun c ys z => by rw [upd_ne (ne_of_none z hn)]; exact z
          · rcases hc' with z | z
            · rw [z]; exact (nf b u' q).1
            · exact (nf c _ z).1
          · rcases hc' with z | z
            · rw [z]; exact (nf b u' q).2
            · exact (nf c _ z).2
    refine ⟨.ref s.heap.objs.size, _, I2, rfl, ⟨_, x, rfl, hn, fun ys hy => by rw [I.list_inj hy hq]; exact hx, rfl⟩, ⟨⟨_, by simpa using he2⟩, hit2⟩, fun b hb => ?_⟩
    have hb : b = e ∨ b = it := by simpa using hb
    rcases hb with rfl | rfl
    · rw [upd_ne (Nat.ne_of_lt hel)]; exact f0
    · rw [upd_ne (Nat.ne_of_lt hil)]; exact g0
  done := by
    intro X hP hw hK hc i pins s σ H E I hf st hg
    subst hP hw hK
    obtain ⟨xs, hq, hx⟩ := hg
    obtain ⟨⟨old, he⟩, hit⟩ := st
    obtain ⟨its, rv, p, hz⟩ := I.list hq
    obtain ⟨g0, g1, g2, g3, g4, g5⟩ := hf it (by simp)
    have hl := rv.length
    exact wpAny_pyNext_enum_end (I.ok.hd hc) he hit p.isList (by simp; omega) fun h' eb => ⟨rfl, I.turned (t' := s.toks) (fun b o hb q => eb b o hb q) g0 g1 g3 g4 g5⟩
  self := fun A i s Q E st h => by
    obtain ⟨⟨old, he⟩, _⟩ := st
    exact wpAny_pyIter_enum he h

section
variable {X : Cx}
def iEnum (K : PySem.W.Frag) (ta : TA) : TI := fun σ H R => ta σ H fun vs H1 => ∃ a, vs = [.ref a] ∧ (∃ xs, SqL K H1 a xs) ∧ R (Ite K a) H1
theorem pi_enum {a : Expr} {ta : TA} {p pos tpos : Pos} {elts : List Expr} {k : Nat} (hg : Gl X "enumerate") (hm : X.mg "enumerate" = none) (ha : PA X [a] ta) (hs : starEach [a] X.env = [(false, eval a X.env)] := by rfl) :
    PI X (.Tuple elts k tpos) (.Call (.Name "enumerate" p) [a] [] pos) (iEnum X.K ta) := by
  intro pins s σ H R I h
  refine Call_ (ld_blt I hg hm boot_enumerate (PyProof.Rows.callWith_type1 (thn (ha pos pins s σ H _ I h) fun us s1 ⟨vs, H1, I1, r1, q1⟩ => ?_) hs rfl))
  obtain ⟨a, e, ⟨xs, hq⟩, q⟩ := q1
  subst e
  cases r1 with
  | cons r rr =>
    cases rr
    cases r
    obtain ⟨its, rv, pl, hz⟩ := I1.list hq
    refine call_enumerate_list pl.isList fun h' he hit hsz kp => ?_
    have I2 : Inv X pins σ H1 { s1 with heap := h' } := I1.kept (t' := s1.toks) kp
    refine wpAny_pyIter_enum he ?_
    refine ⟨s1.heap.objs.size + 1, [s1.heap.objs.size + 1, s1.heap.objs.size], _, _, H1, rfl, I2, turn_enum a _ _ (Nat.ne_of_gt (Nat.lt_succ_self _)), ⟨⟨_, by simpa using he⟩, hit⟩, fun b hb => ?_, q⟩
    have hb : b = s1.heap.objs.size + 1 ∨ b = s1.heap.objs.size := by simpa using hb
    have hle : s1.heap.objs.size ≤ b := by
      rcases hb with z | z
      · rw [z]; exact Nat.le_succ _
      · rw [z]; exact Nat.le_refl _
    have F1 := I1.fpOk hle (I1.hok.fresh hle)
    exact F1
end

/-- over enumerate(a list that the body leaves as it is); the turn's tuple stands at t -/
theorem for_enum {K : PySem.W.Frag} {a : Addr} {xs : List V} {g : TG} {tb : TS} {D : Ends} {σ : St} {H : Hp} (Pv : Nat → St → Hp → Prop) (h0 : Pv 0 σ H) (hl : ∀ i σ H, i ≤ xs.length → Pv i σ H → SqL K H a xs)
    (hs : ∀ i x σ H t, xs[i]? = some x → Pv i σ H → H t = none → g (.ref t) σ (upd H t (.tup [.int i, x])) fun σ2 H2 => tb { D with nx := Pv (i + 1), ct := Pv (i + 1), bk := D.nx } σ2 H2) (hd : ∀ σ H, Pv xs.length σ H → D.nx σ H) :
    ∃ W : Nat → Nat → St → Hp → Prop, (∃ m, W 0 m σ H) ∧ ∀ i m σ H, W i m σ H →
      ((Ite K a).stop i H ∧ D.nx σ H) ∨ ((Ite K a).go i H ∧ ∃ N : St → Hp → Prop, (∀ σ' H', N σ' H' → ∃ m', m' < m ∧ W (i + 1) m' σ' H') ∧ ∀ x H', (Ite K a).yld i H x H' → g x σ H' fun σ2 H2 => tb { D with nx := N, ct := N, bk := D.nx } σ2 H2) := by
  refine ⟨fun i m σ H => m = xs.length - i ∧ i ≤ xs.length ∧ Pv i σ H, ⟨xs.length, by simp, Nat.zero_le _, h0⟩, ?_⟩
  rintro i m σ H ⟨rfl, hi, p⟩
  have q := hl i σ H hi p
  by_cases hlt : i < xs.length
  · refine .inr ⟨⟨xs, xs[i], q, by simp [hlt]⟩, Pv (i + 1), fun σ' H' p' => ⟨xs.length - (i + 1), by omega, rfl, hlt, p'⟩, fun x H' y => ?_⟩
    obtain ⟨t, v, rfl, hn, hv, rfl⟩ := y
    exact hs i v σ H t (hv xs q) p hn
  · have e : i = xs.length := by omega
    subst e
    exact .inl ⟨⟨xs, q, Nat.le_refl _⟩, hd σ H p⟩
end L2

namespace L2
open PySem PySem.Spec PyProof.Rows
section
variable {X : Cx}
/-! ### // by a large divisor -/
theorem op_fdivL : OpR X (binaryOp .FloorDiv) (rI (fun _ j => 0 < j ∧ j.natAbs.log2 < 9000) fun i j => .int (i / j)) := opI fun i j _ _ _ _ _ hc q => by
  have h1 : (0 : Int) < j := hc.1
  exact floordiv_int (by omega) (by rw [Int.fdiv_eq_ediv_of_nonneg i (by omega)]; exact q) (.inl (PyProof.noPylong_of_log2 hc.2))
theorem log2_pow {k : Nat} (h : k < 9000) : ((2 : Int) ^ k).natAbs.log2 < 9000 := by
  have e : ((2 : Int) ^ k).natAbs = 2 ^ k := by
    have : ((2 : Int) ^ k) = ((2 ^ k : Nat) : Int) := by simp
    rw [this]; exact Int.natAbs_natCast _
  rw [e, Nat.log2_two_pow]
  exact h

/-! ### isinstance(x, c), c a type or a class -/
def valOf : V → Option Value
  | .ty n => some (.type n)
  | .ref a => some (.ref a)
  | _ => none
theorem call_isi : CallR X (.builtin "isinstance") (fun xs H Q => ∃ x c cv t b, xs = [x, c] ∧ valOf c = some cv ∧ TyOf X.K H x t ∧ PySem.W.kitOne X.K t cv = some b ∧ Q (.bl b) H) := by
  intro pins s σ H xs us Q I r h
  obtain ⟨x, c, cv, t, b, rfl, hc, ty, e, q⟩ := h
  obtain ⟨u, u2, rfl, rx, rc⟩ := vals2 r
  have ec : u2 = cv := by
    cases c with
    | ty n => cases rc; exact Option.some.inj hc
    | ref a => cases rc; exact Option.some.inj hc
    | _ => cases hc
  subst ec
  exact isinst_ok I rx ty e fun tk => ⟨.bl b, H, I.tok _, rfl, q⟩

/-! ### == and != of two lists of flat items -/
def eqVs : List V → List V → Bool
  | [], [] => true
  | x :: xs, y :: ys => eqV x y && eqVs xs ys
  | _, _ => false
theorem eqVs_len : ∀ {xs ys : List V}, eqVs xs ys = true → xs.length = ys.length
  | [], [], _ => rfl
  | _ :: xs, _ :: ys, h => by
    rw [eqVs, Bool.and_eq_true] at h
    rw [List.length_cons, List.length_cons, eqVs_len h.2]
  | [], _ :: _, h => nomatch h
  | _ :: _, [], h => nomatch h
theorem eqVs_range : ∀ {xs ys : List V}, xs.length = ys.length → (List.range xs.length).all (fun j => eqV (xs.getD j .non) (ys.getD j .non)) = eqVs xs ys
  | [], [], _ => rfl
  | x :: xs, y :: ys, h => by
    have h' : xs.length = ys.length := by simpa using h
    rw [List.length_cons, List.range_succ_eq_map, List.all_cons, List.all_map, eqVs, ← eqVs_range h']
    rfl
  | [], _ :: _, h => nomatch h
  | _ :: _, [], h => nomatch h
theorem eqVs_ints : ∀ (ns ms : List Int), eqVs (ns.map V.int) (ms.map V.int) = decide (ns = ms)
  | [], [] => rfl
  | n :: ns, m :: ms => by
    rw [List.map_cons, List.map_cons, eqVs, eqVs_ints ns ms]
    show ((n == m) && decide (ns = ms)) = decide (n :: ns = m :: ms)
    by_cases h1 : n = m <;> by_cases h2 : ns = ms <;> simp [h1, h2]
  | [], _ :: _ => rfl
  | _ :: _, [] => rfl
theorem eqVs_strs : ∀ (ns ms : List Str), eqVs (ns.map V.str) (ms.map V.str) = decide (ns = ms)
  | [], [] => rfl
  | n :: ns, m :: ms => by
    rw [List.map_cons, List.map_cons, eqVs, eqVs_strs ns ms]
    show ((n == m) && decide (ns = ms)) = decide (n :: ns = m :: ms)
    by_cases h1 : n = m <;> by_cases h2 : ns = ms <;> simp [h1, h2]
  | [], _ :: _ => rfl
  | _ :: _, [] => rfl
theorem flat_ints (ns : List Int) : (ns.map V.int).all flatV = true := by
  rw [List.all_map, List.all_eq_true]; intro _ _; rfl
theorem flat_strs (ns : List Str) : (ns.map V.str).all flatV = true := by
  rw [List.all_map, List.all_eq_true]; intro _ _; rfl
theorem getD_lt {α : Type} {xs : List α} {j : Nat} {d : α} (h : j < xs.length) : xs.getD j d = xs[j] := by
  rw [List.getD_eq_getElem?_getD, List.getElem?_eq_getElem h]; rfl
theorem getD_ge {α : Type} {xs : List α} {j : Nat} {d : α} (h : xs.length ≤ j) : xs.getD j d = d := by
  rw [List.getD_eq_getElem?_getD, List.getElem?_eq_none h]; rfl
theorem eqAt_list {A : Around} {s : Shared} {xs ys : List V} {us ws : List Value} (r : Vals xs us) (q : Vals ys ws) (fx : xs.all flatV = true) (fy : ys.all flatV = true) (j : Nat) (h1 : j < us.toArray.size) (h2 : j < ws.toArray.size) :
    SeqAt.EqAt A s us.toArray[j] ws.toArray[j] (eqV (xs.getD j .non) (ys.getD j .non)) := by
  have l1 : j < xs.length := by rw [r.length]; simpa using h1
  have l2 : j < ys.length := by rw [q.length]; simpa using h2
  obtain ⟨u, eu, ru⟩ := r.get (List.getElem?_eq_getElem l1)
  obtain ⟨w, ew, rw'⟩ := q.get (List.getElem?_eq_getElem l2)
  have e1 : us.toArray[j] = u := by
    have : us[j]? = some u := eu
    rw [List.getElem?_eq_getElem (by simpa using h1)] at this
    simpa using Option.some.inj this
  have e2 : ws.toArray[j] = w := by
    have : ws[j]? = some w := ew
    rw [List.getElem?_eq_getElem (by simpa using h2)] at this
    simpa using Option.some.inj this
  rw [e1, e2, getD_lt l1, getD_lt l2]
  exact eqAt_V ru rw' (List.all_eq_true.mp fx _ (List.getElem_mem l1)) (List.all_eq_true.mp fy _ (List.getElem_mem l2))
def rEqL (K : PySem.W.Frag) (neg : Bool) : R2 := fun x y H Q => ∃ p q xs ys, x = .ref p ∧ y = .ref q ∧ SqL K H p xs ∧ SqL K H q ys ∧ xs.all flatV = true ∧ ys.all flatV = true ∧ Q (.bl (if neg then !eqVs xs ys else eqVs xs ys)) H
theorem op_eqL (hu : X.A.units < cLine) : OpR X (compareOp .Eq) (rEqL X.K false) := by
  intro pins s σ H x y v u Q I rx ry h
  obtain ⟨p, q, xs, ys, rfl, rfl, hx, hy, fx, fy, k⟩ := h
  cases rx
  cases ry
  obtain ⟨us, r, pl, hz⟩ := I.list hx
  obtain ⟨ws, r', pl', hz'⟩ := I.list hy
  have l1 := r.length
  have l2 := r'.length
  by_cases hl : xs.length = ys.length
  · have hsz : us.toArray.size = ws.toArray.size := by rw [List.size_toArray, List.size_toArray]; omega
    refine SeqAt.eq_listAt pl.isList pl'.isList hsz hu (fun j h1 h2 => eqAt_list r r' fx fy j h1 h2) ⟨.bl _, H, I, rfl, ?_⟩
    rw [List.size_toArray, ← l1, eqVs_range hl]
    exact k
  · refine SeqAt.eq_list_lengthsAt pl.isList pl'.isList (by rw [List.size_toArray, List.size_toArray]; simpa using (by omega : us.length ≠ ws.length)) hu ⟨.bl _, H, I, rfl, ?_⟩
    have e : eqVs xs ys = false := by
      cases e : eqVs xs ys with
      | false => rfl
      | true => exact absurd (eqVs_len e) hl
    rw [e] at k
    exact k
theorem op_neL (hu : X.A.units < cLine) : OpR X (compareOp .NotEq) (rEqL X.K true) := by
  intro pins s σ H x y v u Q I rx ry h
  obtain ⟨p, q, xs, ys, rfl, rfl, hx, hy, fx, fy, k⟩ := h
  cases rx
  cases ry
  obtain ⟨us, r, pl, hz⟩ := I.list hx
  obtain ⟨ws, r', pl', hz'⟩ := I.list hy
  have l1 := r.length
  have l2 := r'.length
  by_cases hl : xs.length = ys.length
  · have hsz : us.toArray.size = ws.toArray.size := by rw [List.size_toArray, List.size_toArray]; omega
    refine SeqAt.RcNeAt.lists pl.isList pl'.isList hsz hu (fun j h1 h2 => eqAt_list r r' fx fy j h1 h2) _ _ _ _ ⟨.bl _, H, I, rfl, ?_⟩
    rw [List.size_toArray, ← l1, eqVs_range hl]
    exact k
  · refine SeqAt.RcNeAt.lists_lengths pl.isList pl'.isList (by rw [List.size_toArray, List.size_toArray]; simpa using (by omega : us.length ≠ ws.length)) hu _ _ _ _ ⟨.bl _, H, I, rfl, ?_⟩
    have e : eqVs xs ys = false := by
      cases e : eqVs xs ys with
      | false => rfl
      | true => exact absurd (eqVs_len e) hl
    rw [e] at k
    exact k

/-! ### n.bit_length(), xs.count(v), xs.index(v) -/
theorem mt_bits : MtR X "int.bit_length" (fun x xs H Q => ∃ i, x = .int i ∧ xs = [] ∧ Q (.int (Builtin.Int.intBits i)) H) := by
  intro pins s σ H x xs v us Q I rx rs h
  obtain ⟨i, rfl, rfl, q⟩ := h
  obtain ⟨t, rfl⟩ := rx
  cases rs
  exact call_int_bit_length ⟨.int _, H, I.tok _, ⟨_, rfl⟩, q⟩
theorem countP_eqU {x : V} : ∀ {xs : List V} {us : List Value}, Vals xs us → xs.all flatV = true → us.countP (eqU x) = xs.countP fun y => eqV y x
  | _, _, .nil, _ => rfl
  | y :: xs, u :: us, .cons r t, f => by
    rw [List.all_cons, Bool.and_eq_true] at f
    rw [List.countP_cons, List.countP_cons, eqU_of r f.1, countP_eqU t f.2]
theorem mt_count : MtR X "list.count" (fun x vs H Q => ∃ p xs y, x = .ref p ∧ vs = [y] ∧ H p = some (.lst xs) ∧ flatV y = true ∧ xs.all flatV = true ∧ Q (.int (xs.countP fun z => eqV z y : Nat)) H) := by
  intro pins s σ H x vs v us Q I rx rv h
  obtain ⟨p, xs, y, rfl, rfl, hH, fy, fx, q⟩ := h
  cases rx
  obtain ⟨u, rfl, ru⟩ := rv.one
  obtain ⟨z, its, n, r, hl, e⟩ := I.lstM hH
  refine call_meets F.slot_list_count ⟨_, e, rfl⟩ F.entry_list_count (F.args_list_count_2 _ _) (SeqAt.list_countAt p its.toArray n none #[] u (eqU y)) ⟨e, fun w hw => mem_eqAt ru fy r fx w (by simpa using hw), ?_⟩
  show EP X pins σ Q (Value.int ((List.countP (eqU y) its.toArray.toList : Nat)) s.toks) _
  rw [List.toList_toArray, countP_eqU r fx]
  exact ⟨.int (xs.countP fun z => eqV z y : Nat), H, I.tok _, ⟨_, rfl⟩, q⟩
theorem eqU_get {y : V} {xs : List V} {us : List Value} (r : Vals xs us) (f : xs.all flatV = true) (j : Nat) (h : j < us.toArray.size) : eqU y us.toArray[j] = eqV (xs.getD j .non) y := by
  have l1 : j < xs.length := by rw [r.length]; simpa using h
  obtain ⟨u, eu, ru⟩ := r.get (List.getElem?_eq_getElem l1)
  have e1 : us.toArray[j] = u := by
    have : us[j]? = some u := eu
    rw [List.getElem?_eq_getElem (by simpa using h)] at this
    simpa using Option.some.inj this
  rw [e1, getD_lt l1]
  exact eqU_of ru (List.all_eq_true.mp f _ (List.getElem_mem l1))
theorem mt_index : MtR X "list.index" (fun x vs H Q => ∃ p xs y j, x = .ref p ∧ vs = [y] ∧ H p = some (.lst xs) ∧ flatV y = true ∧ xs.all flatV = true ∧ j < xs.length ∧ eqV (xs.getD j .non) y = true ∧ (∀ m, m < j → eqV (xs.getD m .non) y = false) ∧ Q (.int (j : Nat)) H) := by
  intro pins s σ H x vs v us Q I rx rv h
  obtain ⟨p, xs, y, j, rfl, rfl, hH, fy, fx, hj, e1, e2, q⟩ := h
  cases rx
  obtain ⟨u, rfl, ru⟩ := rv.one
  obtain ⟨z, its, n, r, hl, e⟩ := I.lstM hH
  have hs := line63
  have hs2 := sizeLine_eq
  refine call_meets F.slot_list_index ⟨_, e, rfl⟩ F.entry_list_index (F.args_list_index_2 _ _) (SeqAt.list_indexAt p its.toArray n none #[] u (eqU y) j (by rw [List.size_toArray]; omega) (by omega) ?_ ?_) ⟨e, fun w hw => mem_eqAt ru fy r fx w (by simpa using hw), ?_⟩
  · rw [eqU_get r fx]; exact e1
  · intro m hm hmj
    rw [eqU_get r fx]; exact e2 m hmj
  · exact ⟨.int (j : Nat), H, I.tok _, ⟨_, rfl⟩, q⟩

/-- a built-in type as a value -/
theorem pe_ty {x : Str} {n : String} {pos : Pos} (hg : Gl X x) (hm : X.mg x = none) (hv : bootBuiltins x = some (.type n)) (hn : x ≠ "__name__" := by decide) (hd : (x == ("__debug__" : Str)) = false := by decide) : PE X (.Name x pos) (tC (.ty n)) :=
  pe_bltn hg hm hv (v := .ty n) rfl hn hd
end

/-! ### the forms one uses for a comprehension: over a list, a range, an enumerate -/
section
variable {K : PySem.W.Frag} {m : Nat} {g : TG} {tc : TT} {te : TE} {σ : St} {H : Hp} {Q : VK}
theorem comp_list {a : Addr} {xs : List V} (Pv : Nat → List V → Hp → Prop) (hz : xs.length < sizeLine) (h0 : Pv 0 [] H) (hlen : ∀ i ys H, i ≤ xs.length → Pv i ys H → ys.length ≤ i) (hl : ∀ i ys H, i ≤ xs.length → Pv i ys H → SqL K H a xs)
    (hs : ∀ i x ys H, xs[i]? = some x → Pv i ys H → g x (List.replicate m none ++ σ) H fun σ2 H2 => σ2.drop m = σ ∧ tc σ2 H2 fun b H3 => if b = true then te σ2 H3 fun y H4 => Pv (i + 1) (ys ++ [y]) H4 else Pv (i + 1) ys H3)
    (hd : ∀ ys H, Pv xs.length ys H → ∀ p, H p = none → Q (.ref p) (upd H p (.lst ys))) : CompW (Itl K a) m g tc te σ H Q := by
  refine ⟨fun i n ys H => n = xs.length - i ∧ i ≤ xs.length ∧ Pv i ys H, ⟨xs.length, by simp, Nat.zero_le _, h0⟩, ?_⟩
  rintro i n ys H ⟨rfl, hi, p⟩
  have q := hl i ys H hi p
  have hy := hlen i ys H hi p
  by_cases hlt : i < xs.length
  · refine .inr ⟨⟨xs, xs[i], q, by simp [hlt]⟩, by omega, Pv (i + 1), fun ys' H' p' => ⟨xs.length - (i + 1), by omega, rfl, hlt, p'⟩, fun x H' y => ?_⟩
    obtain ⟨e, y⟩ := y
    subst e
    exact hs i x ys _ (y xs q) p
  · have e : i = xs.length := by omega
    subst e
    exact .inl ⟨⟨xs, q, Nat.le_refl _⟩, by omega, hd ys H p⟩
theorem comp_range {lo : Int} {k : Nat} (Pv : Nat → List V → Hp → Prop) (hz : k < sizeLine) (h0 : Pv 0 [] H) (hlen : ∀ i ys H, i ≤ k → Pv i ys H → ys.length ≤ i)
    (hs : ∀ i ys H, i < k → Pv i ys H → g (.int (lo + i)) (List.replicate m none ++ σ) H fun σ2 H2 => σ2.drop m = σ ∧ tc σ2 H2 fun b H3 => if b = true then te σ2 H3 fun y H4 => Pv (i + 1) (ys ++ [y]) H4 else Pv (i + 1) ys H3)
    (hd : ∀ ys H, Pv k ys H → ∀ p, H p = none → Q (.ref p) (upd H p (.lst ys))) : CompW (Itr lo k) m g tc te σ H Q := by
  refine ⟨fun i n ys H => n = k - i ∧ i ≤ k ∧ Pv i ys H, ⟨k, by simp, Nat.zero_le _, h0⟩, ?_⟩
  rintro i n ys H ⟨rfl, hi, p⟩
  have hy := hlen i ys H hi p
  by_cases hlt : i < k
  · refine .inr ⟨hlt, by omega, Pv (i + 1), fun ys' H' p' => ⟨k - (i + 1), by omega, rfl, hlt, p'⟩, fun x H' y => ?_⟩
    obtain ⟨e, y⟩ := y
    subst e y
    exact hs i ys _ hlt p
  · have e : i = k := by omega
    subst e
    exact .inl ⟨Nat.le_refl _, by omega, hd ys H p⟩
theorem comp_enum {a : Addr} {xs : List V} (Pv : Nat → List V → Hp → Prop) (hz : xs.length < sizeLine) (h0 : Pv 0 [] H) (hlen : ∀ i ys H, i ≤ xs.length → Pv i ys H → ys.length ≤ i) (hl : ∀ i ys H, i ≤ xs.length → Pv i ys H → SqL K H a xs)
    (hs : ∀ i x ys H t, xs[i]? = some x → Pv i ys H → H t = none → g (.ref t) (List.replicate m none ++ σ) (upd H t (.tup [.int i, x])) fun σ2 H2 => σ2.drop m = σ ∧ tc σ2 H2 fun b H3 => if b = true then te σ2 H3 fun y H4 => Pv (i + 1) (ys ++ [y]) H4 else Pv (i + 1) ys H3)
    (hd : ∀ ys H, Pv xs.length ys H → ∀ p, H p = none → Q (.ref p) (upd H p (.lst ys))) : CompW (Ite K a) m g tc te σ H Q := by
  refine ⟨fun i n ys H => n = xs.length - i ∧ i ≤ xs.length ∧ Pv i ys H, ⟨xs.length, by simp, Nat.zero_le _, h0⟩, ?_⟩
  rintro i n ys H ⟨rfl, hi, p⟩
  have q := hl i ys H hi p
  have hy := hlen i ys H hi p
  by_cases hlt : i < xs.length
  · refine .inr ⟨⟨xs, xs[i], q, by simp [hlt]⟩, by omega, Pv (i + 1), fun ys' H' p' => ⟨xs.length - (i + 1), by omega, rfl, hlt, p'⟩, fun x H' y => ?_⟩
    obtain ⟨t, v, rfl, hn, hv, rfl⟩ := y
    exact hs i v ys H t (hv xs q) p hn
  · have e : i = xs.length := by omega
    subst e
    exact .inl ⟨⟨xs, q, Nat.le_refl _⟩, by omega, hd ys H p⟩
end
end L2

namespace L2
open PySem PySem.Spec PyProof.Rows
/-! ### the same rules with the text's own part named (inside a block the context's is the same by unfolding) -/
section
variable {X : Cx} {K : PySem.W.Frag}
theorem op_inK (h : X.K = K) : OpR X (compareOp .In) (rIn K false) := h ▸ op_in_seq
theorem op_notInK (h : X.K = K) : OpR X (compareOp .NotIn) (rIn K true) := h ▸ op_notIn_seq
theorem ix_listK (h : X.K = K) : IxR X (rIxL K) := h ▸ ix_list
theorem ix_tupK (h : X.K = K) : IxR X (rIxT K) := h ▸ ix_tup
theorem len_seqK (h : X.K = K) : CallR X (.builtin "len") (fun xs H Q => ∃ p ys, xs = [.ref p] ∧ (SqL K H p ys ∨ SqT K H p ys) ∧ Q (.int ys.length) H) := h ▸ call_len_seq
theorem list_ofK (h : X.K = K) : CallR X (.type "list") (fun xs H Q => ∃ p ys, xs = [.ref p] ∧ (SqL K H p ys ∨ SqT K H p ys) ∧ ∀ l, H l = none → Q (.ref l) (upd H l (.lst ys))) := h ▸ call_list_of
theorem tuple_ofK (h : X.K = K) : CallR X (.type "tuple") (fun xs H Q => ∃ p ys, xs = [.ref p] ∧ ((SqL K H p ys ∧ ∀ l, H l = none → Q (.ref l) (upd H l (.tup ys))) ∨ (SqT K H p ys ∧ Q (.ref p) H))) := h ▸ call_tuple_of
theorem sl_listK (h : X.K = K) : SlR X (rSlL K) := h ▸ sl_list
theorem isiK (h : X.K = K) : CallR X (.builtin "isinstance") (fun xs H Q => ∃ x c cv t b, xs = [x, c] ∧ valOf c = some cv ∧ TyOf K H x t ∧ PySem.W.kitOne K t cv = some b ∧ Q (.bl b) H) := h ▸ call_isi
theorem op_eqLK (h : X.K = K) (hu : X.A.units < cLine) : OpR X (compareOp .Eq) (rEqL K false) := h ▸ op_eqL hu
theorem op_neLK (h : X.K = K) (hu : X.A.units < cLine) : OpR X (compareOp .NotEq) (rEqL K true) := h ▸ op_neL hu
theorem pi_listK {tg l : Expr} {tl : TE} (h : X.K = K) (hl : PE X l tl) : PI X tg l (iList K tl) := h ▸ pi_list hl
theorem pi_tupK {tg l : Expr} {tl : TE} (h : X.K = K) (hl : PE X l tl) : PI X tg l (iTup K tl) := h ▸ pi_tup hl
theorem pi_enumK {a : Expr} {ta : TA} {p pos tpos : Pos} {elts : List Expr} {k : Nat} (h : X.K = K) (hg : Gl X "enumerate") (hm : X.mg "enumerate" = none) (ha : PA X [a] ta) (hs : starEach [a] X.env = [(false, eval a X.env)] := by rfl) :
    PI X (.Tuple elts k tpos) (.Call (.Name "enumerate" p) [a] [] pos) (iEnum K ta) := h ▸ pi_enum hg hm ha hs
theorem pg_tupK {pos : Pos} {es : List Expr} {k : Nat} {t : TGs} {n : Nat} (hK : X.K = K) (hc : X.calm = true) (h : PGs X es t)
    (hn : (assignEach es X.env).length = n := by rfl) (hst : (assignEach es X.env).findIdx? (·.1) = none := by rfl) : PG X (.Tuple es k pos) (gTup K n t) := hK ▸ pg_tup hc h hn hst
variable {o e : Expr} {es : List Expr} {to : TE} {t : TA} {name : Str} {apos cpos : Pos} {T id : String} {r : V → List V → Hp → VK → Prop}
theorem pe_bm0K (hK : X.K = K) (pa : PlainAttrs T) (slot : Slot T name id) (hty : typeOf (.builtin id) = pure (.type "method_descriptor")) (hm : MtR X id r) (ho : PE X o to)
    (hbase : attributeBase o name X.env (eval o X.env) = eval o X.env := by rfl) (hline : (apos.endLine == cpos.line) = true := by rfl) : PE X (.Call (.Attribute o name apos) [] [] cpos) (tBM0 K T r to) :=
  hK ▸ pe_bm0 pa slot hty hm ho hbase hline
theorem pe_bmK (hK : X.K = K) (pa : PlainAttrs T) (slot : Slot T name id) (hty : typeOf (.builtin id) = pure (.type "method_descriptor")) (hm : MtR X id r) (ho : PE X o to) (ha : PA X (e :: es) t)
    (hbase : attributeBase o name X.env (eval o X.env) = eval o X.env := by rfl)
    (hfew : ((backTo cpos (starEach (e :: es) X.env)).all (fun x => !x.1) && (backToKw cpos (keywordEach [] X.env)).all (fun x => x.1.isSome)
      && decide ((e :: es).length + ([] : List Keyword).length + (if ([] : List Keyword).isEmpty then 0 else 1) < 30)) = true := by rfl)
    (hline : (apos.endLine == cpos.line) = true := by rfl) (hs : starEach (e :: es) X.env = (false, eval e X.env) :: starEach es X.env := by rfl) (hplain : (backTo cpos (starEach es X.env)).any (·.1) = false := by rfl) :
    PE X (.Call (.Attribute o name apos) (e :: es) [] cpos) (tBM K T r to t) := hK ▸ pe_bm pa slot hty hm ho ha hbase hfew hline hs hplain
end
end L2
namespace My
theorem add_disj : ∀ (n m : Nat), (∀ i, ¬ (n.testBit i = true ∧ m.testBit i = true)) → n + m = n ||| m := by
  intro n
  induction n using Nat.strongRecOn with
  | _ n ih =>
    intro m h
    by_cases hn : n = 0
    · subst hn; simp
    · have h2 : n / 2 < n := Nat.div_lt_self (by omega) (by omega)
      have q := ih (n / 2) h2 (m / 2) (fun i => by
        have := h (i + 1)
        rwa [Nat.testBit_add_one, Nat.testBit_add_one] at this)
      have h0 := h 0
      rw [Nat.testBit_zero, Nat.testBit_zero] at h0
      have h0 : ¬ (n % 2 = 1 ∧ m % 2 = 1) := by simpa using h0
      apply Nat.eq_of_testBit_eq
      intro i
      cases i with
      | zero =>
        rw [Nat.testBit_or, Nat.testBit_zero, Nat.testBit_zero, Nat.testBit_zero]
        have e : (n + m) % 2 = 1 ↔ (n % 2 = 1 ∨ m % 2 = 1) := by omega
        simp [e]
      | succ i =>
        rw [Nat.testBit_or, Nat.testBit_add_one, Nat.testBit_add_one, Nat.testBit_add_one, ← Nat.testBit_or, ← q]
        congr 1
        omega
/-- the set of a list of places -/
def maskN : List Nat → Nat
  | [] => 0
  | k :: r => 2 ^ k ||| maskN r
theorem maskN_bit (i : Nat) : ∀ ks : List Nat, (maskN ks).testBit i = decide (i ∈ ks)
  | [] => by simp [maskN]
  | k :: r => by
    rw [maskN, Nat.testBit_or, maskN_bit i r, Nat.testBit_two_pow]
    by_cases h1 : k = i <;> by_cases h2 : i ∈ r <;> simp [h1, h2]
    all_goals omega
theorem maskN_lt {n : Nat} {ks : List Nat} (h : ∀ k ∈ ks, k < n) : maskN ks < 2 ^ n := by
  apply Nat.lt_pow_two_of_testBit
  intro i hi
  rw [maskN_bit]
  simp
  intro hm
  have := h i hm
  omega
/-- a set built from the left -/
theorem fold_or : ∀ (ks : List Nat) (m : Nat), ks.foldl (fun m k => m ||| 2 ^ k) m = m ||| maskN ks
  | [], m => by simp [maskN]
  | k :: r, m => by rw [List.foldl_cons, fold_or r, maskN, Nat.or_assoc]
theorem fold_add : ∀ (ks : List Nat) (m : Nat), ks.Nodup → (∀ k ∈ ks, m.testBit k = false) → ks.foldl (fun m k => m + 2 ^ k) m = m ||| maskN ks
  | [], m, _, _ => by simp [maskN]
  | k :: r, m, hn, h => by
    have hk := h k List.mem_cons_self
    have e : m + 2 ^ k = m ||| 2 ^ k := add_disj m (2 ^ k) fun i ⟨h1, h2⟩ => by
      rw [Nat.testBit_two_pow] at h2
      have : k = i := by simpa using h2
      subst this
      rw [hk] at h1
      cases h1
    rw [List.foldl_cons, e, fold_add r _ (List.nodup_cons.mp hn).2 (fun j hj => by
      rw [Nat.testBit_or, h j (List.mem_cons_of_mem _ hj), Nat.testBit_two_pow]
      have : k ≠ j := fun z => (List.nodup_cons.mp hn).1 (z ▸ hj)
      simpa using this), maskN, Nat.or_assoc]
theorem within_iff (a b : Nat) : (a &&& b = a) ↔ ∀ i, a.testBit i = true → b.testBit i = true := by
  constructor
  · intro h i hi
    have : (a &&& b).testBit i = true := by rw [h]; exact hi
    rw [Nat.testBit_and] at this
    simp at this
    exact this.2
  · intro h
    apply Nat.eq_of_testBit_eq
    intro i
    rw [Nat.testBit_and]
    cases e : a.testBit i with
    | false => rfl
    | true => rw [h i e]; rfl
/-- the members, the least first -/
def onesN (m : Nat) : List Nat := (List.range (if m = 0 then 0 else m.log2 + 1)).filter (m.testBit ·)
theorem range_filter {p : Nat → Bool} {a b : Nat} (h : a ≤ b) (hp : ∀ i, a ≤ i → i < b → p i = false) : (List.range b).filter p = (List.range a).filter p := by
  obtain ⟨d, rfl⟩ : ∃ d, b = a + d := ⟨b - a, by omega⟩
  rw [List.range_add, List.filter_append]
  have : List.filter p (List.map (fun x => a + x) (List.range d)) = [] := by
    rw [List.filter_eq_nil_iff]
    intro x hx
    obtain ⟨y, hy, rfl⟩ := List.mem_map.mp hx
    rw [hp (a + y) (by omega) (by have := List.mem_range.mp hy; omega)]
    decide
  rw [this, List.append_nil]
theorem onesN_eq {m n : Nat} (h : m < 2 ^ n) : onesN m = (List.range n).filter (m.testBit ·) := by
  unfold onesN
  by_cases hm : m = 0
  · subst hm
    rw [if_pos rfl]
    symm
    rw [List.range_zero, List.filter_nil, List.filter_eq_nil_iff]
    intro x _
    simp
  · rw [if_neg hm]
    have h1 : m.log2 < n := (Nat.log2_lt hm).mpr h
    symm
    apply range_filter (by omega)
    intro i hi _
    have h2 : m < 2 ^ (m.log2 + 1) := Nat.lt_log2_self
    exact Nat.testBit_lt_two_pow (Nat.lt_of_lt_of_le h2 (Nat.pow_le_pow_right (by omega) hi))
end My
namespace My
theorem or_add_and (a b : Nat) : (a ||| b) + (a &&& b) = a + b := by
  induction a using Nat.strongRecOn generalizing b with
  | _ a ih =>
    by_cases ha : a = 0
    · subst ha; simp
    · have h2 : a / 2 < a := Nat.div_lt_self (by omega) (by omega)
      have q := ih (a / 2) h2 (b / 2)
      have e1 : (a ||| b) / 2 = a / 2 ||| b / 2 := Nat.or_div_two
      have e2 : (a &&& b) / 2 = a / 2 &&& b / 2 := Nat.and_div_two
      have o : (a ||| b) % 2 = 1 ↔ a % 2 = 1 ∨ b % 2 = 1 := Nat.or_mod_two_eq_one
      have n : (a &&& b) % 2 = 1 ↔ a % 2 = 1 ∧ b % 2 = 1 := Nat.and_mod_two_eq_one
      have e3 : (a ||| b) % 2 + (a &&& b) % 2 = a % 2 + b % 2 := by omega
      omega
end My
namespace My
theorem xor_add_two_and (a b : Nat) : (a ^^^ b) + 2 * (a &&& b) = a + b := by
  induction a using Nat.strongRecOn generalizing b with
  | _ a ih =>
    by_cases ha : a = 0
    · subst ha; simp
    · have h2 : a / 2 < a := Nat.div_lt_self (by omega) (by omega)
      have q := ih (a / 2) h2 (b / 2)
      have e1 : (a ^^^ b) / 2 = a / 2 ^^^ b / 2 := Nat.xor_div_two
      have e2 : (a &&& b) / 2 = a / 2 &&& b / 2 := Nat.and_div_two
      have o : (a ^^^ b) % 2 = 1 ↔ ¬ (a % 2 = 1 ↔ b % 2 = 1) := Nat.xor_mod_two_eq_one
      have n : (a &&& b) % 2 = 1 ↔ a % 2 = 1 ∧ b % 2 = 1 := Nat.and_mod_two_eq_one
      have e3 : (a ^^^ b) % 2 + 2 * ((a &&& b) % 2) = a % 2 + b % 2 := by omega
      omega
/-- the things that have a set -/
def havingL (rs : List Nat) (m : Nat) : List Nat := (List.range rs.length).filter fun i => decide (m &&& rs.getD i 0 = m)
theorem mem_having {rs : List Nat} {m i : Nat} : i ∈ havingL rs m ↔ i < rs.length ∧ m &&& rs.getD i 0 = m := by
  unfold havingL
  rw [List.mem_filter, List.mem_range]
  simp
end My
namespace My
/-- what the things of a list share -/
def sharedL (rs : List Nat) (w : Nat) (ks : List Nat) : Nat := ks.foldl (fun m k => m &&& rs.getD k 0) (2 ^ w - 1)
theorem foldl_and_bit (rs : List Nat) (i : Nat) : ∀ (ks : List Nat) (m : Nat), (ks.foldl (fun m k => m &&& rs.getD k 0) m).testBit i = (m.testBit i && ks.all fun k => (rs.getD k 0).testBit i)
  | [], m => by simp
  | k :: r, m => by
    rw [List.foldl_cons, foldl_and_bit rs i r, Nat.testBit_and, List.all_cons, Bool.and_assoc]
theorem shared_bit (rs : List Nat) (w i : Nat) (ks : List Nat) : (sharedL rs w ks).testBit i = (decide (i < w) && ks.all fun k => (rs.getD k 0).testBit i) := by
  unfold sharedL
  rw [foldl_and_bit, Nat.testBit_two_pow_sub_one]
theorem shared_lt (rs : List Nat) (w : Nat) (ks : List Nat) : sharedL rs w ks < 2 ^ w := by
  apply Nat.lt_pow_two_of_testBit
  intro i hi
  rw [shared_bit]
  simp
  intro h
  omega
theorem mem_onesN {m i : Nat} : i ∈ onesN m ↔ m.testBit i = true := by
  have h : m < 2 ^ (if m = 0 then 0 else m.log2 + 1) := by
    by_cases hm : m = 0
    · subst hm; simp
    · rw [if_neg hm]; exact Nat.lt_log2_self
  unfold onesN
  rw [List.mem_filter, List.mem_range]
  constructor
  · intro h; exact h.2
  · intro hb
    refine ⟨?_, hb⟩
    apply Nat.lt_of_not_le
    intro hle
    rw [Nat.testBit_lt_two_pow (Nat.lt_of_lt_of_le h (Nat.pow_le_pow_right (by omega) hle))] at hb
    cases hb
/-- what is closed of a set -/
def closedL (rs : List Nat) (w m : Nat) : Nat := sharedL rs w (onesN (maskN (havingL rs m)))
theorem closed_bit (rs : List Nat) (w m i : Nat) : (closedL rs w m).testBit i = true ↔ i < w ∧ ∀ r ∈ rs, m &&& r = m → r.testBit i = true := by
  unfold closedL
  rw [shared_bit, Bool.and_eq_true, decide_eq_true_eq, List.all_eq_true]
  refine and_congr_right fun _ => ?_
  constructor
  · intro h r hr hm
    obtain ⟨k, hk, e⟩ := List.mem_iff_getElem.mp hr
    have e' : rs.getD k 0 = r := by rw [List.getD_eq_getElem?_getD, List.getElem?_eq_getElem hk, ← e]; rfl
    have q := h k (by rw [mem_onesN, maskN_bit, decide_eq_true_eq, mem_having]; exact ⟨hk, by rw [e']; exact hm⟩)
    rwa [e'] at q
  · intro h k hk
    rw [mem_onesN, maskN_bit, decide_eq_true_eq, mem_having] at hk
    obtain ⟨hk1, hk2⟩ := hk
    have e' : rs.getD k 0 = rs[k] := by rw [List.getD_eq_getElem?_getD, List.getElem?_eq_getElem hk1]; rfl
    rw [e'] at hk2 ⊢
    exact h _ (List.getElem_mem hk1) hk2
theorem closed_lt (rs : List Nat) (w m : Nat) : closedL rs w m < 2 ^ w := shared_lt _ _ _
theorem closed_holds {rs : List Nat} {w m : Nat} (hm : m < 2 ^ w) : m &&& closedL rs w m = m := by
  rw [within_iff]
  intro i hi
  rw [closed_bit]
  refine ⟨?_, fun r _ h => (within_iff m r).mp h i hi⟩
  apply Nat.lt_of_not_le
  intro hle
  rw [Nat.testBit_lt_two_pow (Nat.lt_of_lt_of_le hm (Nat.pow_le_pow_right (by omega) hle))] at hi
  cases hi
theorem within_trans {a b c : Nat} (h1 : a &&& b = a) (h2 : b &&& c = b) : a &&& c = a := by
  rw [within_iff] at *
  intro i hi
  exact h2 i (h1 i hi)
theorem closed_mono {rs : List Nat} {w m n : Nat} (h : m &&& n = m) : closedL rs w m &&& closedL rs w n = closedL rs w m := by
  rw [within_iff]
  intro i hi
  rw [closed_bit] at hi ⊢
  exact ⟨hi.1, fun r hr hn => hi.2 r hr (within_trans h hn)⟩
theorem closed_row {rs : List Nat} {w m r : Nat} (hr : r ∈ rs) (h : m &&& r = m) : closedL rs w m &&& r = closedL rs w m := by
  rw [within_iff]
  intro i hi
  rw [closed_bit] at hi
  exact hi.2 r hr h
theorem closed_closed {rs : List Nat} {w m : Nat} (hm : m < 2 ^ w) : closedL rs w (closedL rs w m) = closedL rs w m := by
  apply Nat.eq_of_testBit_eq
  intro i
  rw [Bool.eq_iff_iff, closed_bit, closed_bit]
  refine and_congr_right fun _ => ⟨fun h r hr hn => h r hr (closed_row hr hn), fun h r hr hn => h r hr (within_trans (closed_holds hm) hn)⟩
end My
namespace My
theorem shared_all {rs : List Nat} {w g i : Nat} (hi : i < w) (hg : g < 2 ^ rs.length) :
    (sharedL rs w (onesN g)).testBit i = (List.range rs.length).all fun t => !g.testBit t || (rs.getD t 0).testBit i := by
  rw [shared_bit, decide_eq_true hi, Bool.true_and, Bool.eq_iff_iff, List.all_eq_true, List.all_eq_true]
  constructor
  · intro h t _
    cases e : g.testBit t with
    | false => rfl
    | true => rw [h t (mem_onesN.mpr e)]; rfl
  · intro h t ht
    rw [mem_onesN] at ht
    have hl : t < rs.length := by
      apply Nat.lt_of_not_le
      intro hle
      rw [Nat.testBit_lt_two_pow (Nat.lt_of_lt_of_le hg (Nat.pow_le_pow_right (by omega) hle))] at ht
      cases ht
    have := h t (List.mem_range.mpr hl)
    rw [ht] at this
    simpa using this
end My
namespace L2
open PySem PySem.Spec PyProof.Rows

/-! ### == of items: flat ones, the same object, tuples of flat items -/
inductive EqI (K : PySem.W.Frag) (H : Hp) : V → V → Bool → Prop where
  | flat {x y : V} (fx : flatV x = true) (fy : flatV y = true) : EqI K H x y (eqV x y)
  | same (a : Addr) : EqI K H (.ref a) (.ref a) true
  | tup {a b : Addr} {xs ys : List V} (ha : SqT K H a xs) (hb : SqT K H b ys) (fx : xs.all flatV = true) (fy : ys.all flatV = true) : EqI K H (.ref a) (.ref b) (eqVs xs ys)
theorem eqV_refl {x : V} (h : flatV x = true) : eqV x x = true := by
  cases x with
  | non => rfl
  | bl b => show (b == b) = true; simp
  | int i => show (i == i) = true; simp
  | str z => show (z == z) = true; simp
  | _ => exact absurd (show false = true from h) Bool.false_ne_true
theorem eqVs_refl : ∀ {xs : List V}, xs.all flatV = true → eqVs xs xs = true
  | [], _ => rfl
  | x :: xs, h => by
    rw [List.all_cons, Bool.and_eq_true] at h
    rw [eqVs, eqV_refl h.1, eqVs_refl h.2]; rfl
theorem eqVs_min {xs ys : List V} : ((List.range (min xs.length ys.length)).all (fun j => eqV (xs.getD j .non) (ys.getD j .non)) && xs.length == ys.length) = eqVs xs ys := by
  by_cases h : xs.length = ys.length
  · have e : min xs.length ys.length = xs.length := by omega
    rw [e, eqVs_range h, h, beq_self_eq_true, Bool.and_true]
  · have e : (xs.length == ys.length) = false := by simpa using h
    rw [e, Bool.and_false]
    cases q : eqVs xs ys with
    | false => rfl
    | true => exact absurd (eqVs_len q) h
section
variable {X : Cx}
theorem EqI.at {pins : List (Addr × Obj)} {σ : St} {H : Hp} {s : Shared} {A : Around} {x y : V} {u v : Value} {b : Bool} (I : Inv X pins σ H s) (hu : A.units + 64 < cLine) (rx : RelV x u) (ry : RelV y v) (h : EqI X.K H x y b) : SeqAt.EqAt A s u v b := by
  cases h with
  | flat fx fy => exact eqAt_V rx ry fx fy
  | same a => cases rx; cases ry; exact SeqAt.EqAt.same _
  | tup ha hb fx fy =>
    cases rx; cases ry
    rename_i a b xs ys
    by_cases e : a = b
    · subst e
      have e2 := I.tuple_inj ha hb
      subst e2
      rw [eqVs_refl fx]
      exact SeqAt.EqAt.same _
    · obtain ⟨us, r, p, z⟩ := I.tuple ha
      obtain ⟨ws, r', p', z'⟩ := I.tuple hb
      have q := SeqAt.RcAt.tuples (A := A) (s := s) (e := fun j => eqV (xs.getD j .non) (ys.getD j .non)) (show s.heap.IsTuple a us.toArray from p) (show s.heap.IsTuple b ws.toArray from p') (by omega) (fun j h1 h2 => eqAt_list r r' fx fy j h1 h2)
      rw [List.size_toArray, List.size_toArray, ← r.length, ← r'.length, eqVs_min] at q
      exact SeqAt.EqAt.of_refs e q

theorem vals_at {xs : List V} {us : List Value} (r : Vals xs us) {j : Nat} (h1 : j < us.toArray.size) (l1 : j < xs.length) : RelV xs[j] us.toArray[j] := by
  obtain ⟨u, eu, ru⟩ := r.get (List.getElem?_eq_getElem l1)
  have e1 : us.toArray[j] = u := by
    have : us[j]? = some u := eu
    rw [List.getElem?_eq_getElem (by simpa using h1)] at this
    simpa using Option.some.inj this
  rw [e1]; exact ru
/-- two lists whose items are equal, one by one -/
def rEqAll (K : PySem.W.Frag) (neg : Bool) : R2 := fun x y H Q => ∃ p q xs ys, x = .ref p ∧ y = .ref q ∧ SqL K H p xs ∧ SqL K H q ys ∧ xs.length = ys.length ∧ (∀ j (h1 : j < xs.length) (h2 : j < ys.length), EqI K H xs[j] ys[j] true) ∧ Q (.bl (!neg)) H
theorem op_eqAll (hu : X.A.units + 100 < cLine) : OpR X (compareOp .Eq) (rEqAll X.K false) := by
  intro pins s σ H x y v u Q I rx ry h
  obtain ⟨p, q, xs, ys, rfl, rfl, hx, hy, hl, he, k⟩ := h
  cases rx
  cases ry
  obtain ⟨us, r, pl, hz⟩ := I.list hx
  obtain ⟨ws, r', pl', hz'⟩ := I.list hy
  have l1 := r.length
  have l2 := r'.length
  have hsz : us.toArray.size = ws.toArray.size := by rw [List.size_toArray, List.size_toArray]; omega
  refine SeqAt.eq_listAt (e := fun _ => true) pl.isList pl'.isList hsz (by omega) (fun j h1 h2 => EqI.at I (by rw [units_in1]; omega) (vals_at r h1 (by simpa [l1] using h1)) (vals_at r' h2 (by simpa [l2] using h2)) (he j _ _)) ⟨.bl _, H, I, rfl, ?_⟩
  have e : ((List.range us.toArray.size).all fun _ => true) = true := by rw [List.all_eq_true]; intro _ _; rfl
  rw [e]
  exact k
theorem op_neAll (hu : X.A.units + 100 < cLine) : OpR X (compareOp .NotEq) (rEqAll X.K true) := by
  intro pins s σ H x y v u Q I rx ry h
  obtain ⟨p, q, xs, ys, rfl, rfl, hx, hy, hl, he, k⟩ := h
  cases rx
  cases ry
  obtain ⟨us, r, pl, hz⟩ := I.list hx
  obtain ⟨ws, r', pl', hz'⟩ := I.list hy
  have l1 := r.length
  have l2 := r'.length
  have hsz : us.toArray.size = ws.toArray.size := by rw [List.size_toArray, List.size_toArray]; omega
  refine SeqAt.RcNeAt.lists (e := fun _ => true) pl.isList pl'.isList hsz (by omega) (fun j h1 h2 => EqI.at I (by rw [units_in1]; omega) (vals_at r h1 (by simpa [l1] using h1)) (vals_at r' h2 (by simpa [l2] using h2)) (he j _ _)) _ _ _ _ ⟨.bl _, H, I, rfl, ?_⟩
  have e : ((List.range us.toArray.size).all fun _ => true) = true := by rw [List.all_eq_true]; intro _ _; rfl
  rw [e]
  exact k
/-- == and != of two tuples of flat items -/
def rEqT (K : PySem.W.Frag) (neg : Bool) : R2 := fun x y H Q => ∃ p q xs ys, x = .ref p ∧ y = .ref q ∧ SqT K H p xs ∧ SqT K H q ys ∧ xs.all flatV = true ∧ ys.all flatV = true ∧ Q (.bl (if neg then !eqVs xs ys else eqVs xs ys)) H
theorem op_eqT (hu : X.A.units < cLine) : OpR X (compareOp .Eq) (rEqT X.K false) := by
  intro pins s σ H x y v u Q I rx ry h
  obtain ⟨p, q, xs, ys, rfl, rfl, hx, hy, fx, fy, k⟩ := h
  cases rx
  cases ry
  obtain ⟨us, r, pl, hz⟩ := I.tuple hx
  obtain ⟨ws, r', pl', hz'⟩ := I.tuple hy
  refine SeqAt.eq_tupleAt (e := fun j => eqV (xs.getD j .non) (ys.getD j .non)) (show s.heap.IsTuple p us.toArray from pl) (show s.heap.IsTuple q ws.toArray from pl') hu (fun j h1 h2 => eqAt_list r r' fx fy j h1 h2) ⟨.bl _, H, I, rfl, ?_⟩
  rw [List.size_toArray, List.size_toArray, ← r.length, ← r'.length, eqVs_min]
  exact k
theorem op_neT (hu : X.A.units < cLine) : OpR X (compareOp .NotEq) (rEqT X.K true) := by
  intro pins s σ H x y v u Q I rx ry h
  obtain ⟨p, q, xs, ys, rfl, rfl, hx, hy, fx, fy, k⟩ := h
  cases rx
  cases ry
  obtain ⟨us, r, pl, hz⟩ := I.tuple hx
  obtain ⟨ws, r', pl', hz'⟩ := I.tuple hy
  refine SeqAt.RcNeAt.tuples (e := fun j => eqV (xs.getD j .non) (ys.getD j .non)) (show s.heap.IsTuple p us.toArray from pl) (show s.heap.IsTuple q ws.toArray from pl') hu (fun j h1 h2 => eqAt_list r r' fx fy j h1 h2) _ _ _ _ ⟨.bl _, H, I, rfl, ?_⟩
  rw [List.size_toArray, List.size_toArray, ← r.length, ← r'.length, eqVs_min]
  exact k
/-- x in a list where an item is equal to it -/
def rInHit (K : PySem.W.Frag) (neg : Bool) : R2 := fun x y H Q => ∃ p xs, y = .ref p ∧ SqL K H p xs ∧ (∀ j (h1 : j < xs.length), ∃ b, EqI K H xs[j] x b) ∧ (∃ j, ∃ h1 : j < xs.length, EqI K H xs[j] x true) ∧ Q (.bl (!neg)) H
theorem hit_all {s : Shared} {A : Around} {v : Value} {us : Array Value} (h1 : ∀ j (h : j < us.size), ∃ b, SeqAt.EqAt A s us[j] v b) (h2 : ∃ j, ∃ h : j < us.size, SeqAt.EqAt A s us[j] v true) :
    ∃ e : Value → Bool, (∀ y, y ∈ us → SeqAt.EqAt A s y v (e y)) ∧ us.any e = true := by
  refine ⟨fun y => @decide (SeqAt.EqAt A s y v true) (Classical.propDecidable _), fun y hy => ?_, ?_⟩
  · obtain ⟨j, hj, e⟩ := Array.mem_iff_getElem.mp hy
    obtain ⟨b, hb⟩ := h1 j hj
    rw [e] at hb
    dsimp only
    by_cases c : SeqAt.EqAt A s y v true
    · rw [@decide_eq_true _ (Classical.propDecidable _) c]; exact c
    · rw [@decide_eq_false _ (Classical.propDecidable _) c]
      cases b with
      | true => exact absurd hb c
      | false => exact hb
  · obtain ⟨j, hj, e⟩ := h2
    rw [Array.any_eq_true]
    exact ⟨j, hj, @decide_eq_true _ (Classical.propDecidable _) e⟩
theorem op_notInHit (hu : X.A.units + 100 < cLine) : OpR X (compareOp .NotIn) (rInHit X.K true) := by
  intro pins s σ H x y v u Q I rx ry h
  obtain ⟨p, xs, rfl, hx, ha, ⟨j, hj, he⟩, k⟩ := h
  cases ry
  obtain ⟨us, r, pl, hz⟩ := I.list hx
  have l1 := r.length
  obtain ⟨e, e1, e2⟩ := hit_all (s := s) (A := X.A.in1) (v := v) (us := us.toArray) (fun i hi => by
    have hi2 : i < xs.length := by rw [l1]; simpa using hi
    obtain ⟨b, hb⟩ := ha i hi2
    exact ⟨b, EqI.at I (by rw [units_in1]; omega) (vals_at r hi hi2) rx hb⟩)
    ⟨j, by rw [List.size_toArray, ← l1]; exact hj, EqI.at I (by rw [units_in1]; omega) (vals_at r _ hj) rx he⟩
  refine SeqAt.notIn_listAt e pl.isList e1 ⟨.bl _, H, I, rfl, ?_⟩
  rw [e2]
  exact k
theorem op_inHit (hu : X.A.units + 100 < cLine) : OpR X (compareOp .In) (rInHit X.K false) := by
  intro pins s σ H x y v u Q I rx ry h
  obtain ⟨p, xs, rfl, hx, ha, ⟨j, hj, he⟩, k⟩ := h
  cases ry
  obtain ⟨us, r, pl, hz⟩ := I.list hx
  have l1 := r.length
  obtain ⟨e, e1, e2⟩ := hit_all (s := s) (A := X.A.in1) (v := v) (us := us.toArray) (fun i hi => by
    have hi2 : i < xs.length := by rw [l1]; simpa using hi
    obtain ⟨b, hb⟩ := ha i hi2
    exact ⟨b, EqI.at I (by rw [units_in1]; omega) (vals_at r hi hi2) rx hb⟩)
    ⟨j, by rw [List.size_toArray, ← l1]; exact hj, EqI.at I (by rw [units_in1]; omega) (vals_at r _ hj) rx he⟩
  refine SeqAt.in_listAt e pl.isList e1 ⟨.bl _, H, I, rfl, ?_⟩
  rw [e2]
  exact k
theorem op_notTrue : OpR X (compareOp .IsNot) (fun x y H Q => ∃ c d, x = .bl c ∧ y = .bl d ∧ Q (.bl (c != d)) H) := by
  intro pins s σ H x y v u Q I rx ry h
  obtain ⟨c, d, rfl, rfl, q⟩ := h
  cases rx
  cases ry
  exact isnot_bool (fin_bl I q rfl)
/-- any(bs) -/
theorem call_any (hc : X.calm = true) : CallR X (.builtin "any") (fun xs H Q => ∃ (p : Addr) (bs : List Bool), xs = [.ref p] ∧ SqL X.K H p (bs.map V.bl) ∧ Q (.bl (bs.any id)) H) := by
  intro pins s σ H xs us Q I r h
  obtain ⟨p, bs, rfl, hp, q⟩ := h
  obtain ⟨u, rfl, rx⟩ := vals1 r
  cases rx
  obtain ⟨vs, rel, pl, hz⟩ := I.list hp
  have hl := pl.isList
  have hlen : bs.length = vs.length := by simpa using rel.length
  have hlt : p < s.heap.objs.size := by obtain ⟨_, e, _⟩ := hl; exact Heap.lt_size e
  refine call_any_walk (wpAny_pyIter_list hl ?_)
  refine ⟨s.heap.objs.size, [s.heap.objs.size, p], [s.heap.objs.size], vs.toArray.size, _, _, fun i => (bs[i]?).getD false, rfl, Walks.list (A := X.A.in1) (I.ok.hd hc) _ p (Nat.ne_of_lt hlt) vs.toArray,
    ⟨⟨_, Heap.get?_push_size _ rfl, rfl, rfl⟩, hl.push _⟩, fun i v s' Q' E' hP hQ => ?_, fun h' tk hk => ?_⟩
  · have hP : vs[i]? = some v := by simpa using hP
    have hi : i < vs.length := by
      obtain ⟨h, _⟩ := List.getElem?_eq_some_iff.mp hP
      exact h
    obtain ⟨u, eu, ru⟩ := rel.get (i := i) (x := V.bl bs[i]) (by rw [List.getElem?_map, List.getElem?_eq_getElem (by omega)]; rfl)
    have eu : vs[i]? = some u := eu
    rw [hP] at eu
    obtain rfl := Option.some.inj eu
    cases ru
    have e : bs[i]? = some bs[i] := List.getElem?_eq_getElem (by omega)
    simp only [e, Option.getD_some] at hQ
    exact wpAny_truthy_bool hQ
  · have e : ((List.range vs.toArray.size).any fun i => (bs[i]?).getD false) = bs.any id := by
      rw [List.size_toArray, ← hlen, Bool.eq_iff_iff, List.any_eq_true, List.any_eq_true]
      constructor
      · rintro ⟨i, hi, e⟩
        have hi := List.mem_range.mp hi
        rw [List.getElem?_eq_getElem hi] at e
        exact ⟨bs[i], List.getElem_mem hi, e⟩
      · rintro ⟨b, hb, e⟩
        obtain ⟨i, hi, rfl⟩ := List.mem_iff_getElem.mp hb
        exact ⟨i, List.mem_range.mpr hi, by rw [List.getElem?_eq_getElem hi]; exact e⟩
    rw [e]
    exact ⟨.bl _, H, I.kept fun b o hb => hk b o (fun hm => by rw [List.mem_singleton.mp hm] at hb; exact Nat.lt_irrefl _ (Heap.lt_size hb)) (Heap.get?_push_of_some _ hb), rfl, q⟩
theorem Room.units100 {k : Nat} {A : Around} (r : Room k A) : A.units + 100 < cLine := by have := r.un; omega

/-! ### the same with the kit's part named -/
variable {K : PySem.W.Frag}
theorem call_anyK (h : X.K = K) (hc : X.calm = true) : CallR X (.builtin "any") (fun xs H Q => ∃ (p : Addr) (bs : List Bool), xs = [.ref p] ∧ SqL K H p (bs.map V.bl) ∧ Q (.bl (bs.any id)) H) := h ▸ call_any hc
theorem op_eqAllK (h : X.K = K) (hu : X.A.units + 100 < cLine) : OpR X (compareOp .Eq) (rEqAll K false) := h ▸ op_eqAll hu
theorem op_neAllK (h : X.K = K) (hu : X.A.units + 100 < cLine) : OpR X (compareOp .NotEq) (rEqAll K true) := h ▸ op_neAll hu
theorem op_eqTK (h : X.K = K) (hu : X.A.units < cLine) : OpR X (compareOp .Eq) (rEqT K false) := h ▸ op_eqT hu
theorem op_neTK (h : X.K = K) (hu : X.A.units < cLine) : OpR X (compareOp .NotEq) (rEqT K true) := h ▸ op_neT hu
theorem op_notInHitK (h : X.K = K) (hu : X.A.units + 100 < cLine) : OpR X (compareOp .NotIn) (rInHit K true) := h ▸ op_notInHit hu
theorem op_inHitK (h : X.K = K) (hu : X.A.units + 100 < cLine) : OpR X (compareOp .In) (rInHit K false) := h ▸ op_inHit hu
end
end L2
namespace L2
open PySem PySem.Spec PyProof.Rows
/-! ### range(lo, hi, -1) -/
def Itd (lo : Int) (n : Nat) : It := ⟨fun i _ => i < n, fun i H x H' => H' = H ∧ x = .int (lo - i), fun i _ => n ≤ i⟩
theorem turn_down {P : Program} {w : World} {K : PySem.W.Frag} {tg : Expr} (it : Addr) (lo : Int) (n : Nat) : Turn P w K tg (Itd lo n) [it] it (fun i h => IsRangeIter h it (lo + (i : Nat) * (-1)) ((n : Int) - (i : Nat)) (-1)) where
  mem := by simp
  obj := fun i h st b hb => by
    have e : b = it := by simpa using hb
    subst e
    exact ⟨_, st, fun v z => by
      have z' : Data.fields _ = Data.cell v := z
      cases z'⟩
  keep := fun i h h' st k => k it (by simp) _ st
  item := by
    intro X hP hw hK hc i pins s σ H E I hf st hg
    subst hP hw hK
    obtain ⟨f0, f1, f2, f3, f4, f5⟩ := hf it (by simp)
    have W := Walks.range (prog := X.prog) (w := X.w) (I.ok.hd hc) it lo (-1) n
    refine W.item i s _ _ hg st fun v h' tk hv st' kk => ?_
    obtain ⟨t, rfl⟩ := hv
    have I1 : Inv X pins σ H { s with heap := h', toks := tk } := I.turned (fun b o hb e => kk b o (by simpa using hb) e) f0 f1 f3 f4 f5
    refine ⟨_, rfl, go_of (s := { s with heap := h', toks := tk }) (n := "range_iterator") st' rfl rfl (by decide) ⟨.int (lo - i), H, I1, ⟨t, ?_⟩, ⟨rfl, rfl⟩, st', fun b hb => (hf b hb).1⟩⟩
    congr 1
    omega
  done := by
    intro X hP hw hK hc i pins s σ H E I hf st hg
    subst hP hw hK
    obtain ⟨f0, f1, f2, f3, f4, f5⟩ := hf it (by simp)
    exact wpAny_pyNext_range_end (I.ok.hd hc) st (by have : n ≤ i := hg; omega) fun h' eb => ⟨rfl, I.turned (t' := s.toks) (fun b o hb e => eb b o hb e) f0 f1 f3 f4 f5⟩
  self := fun _ _ _ _ _ st h => wpAny_pyIter_rangeiter st h
theorem rangeSize_down (a b : Int) : Builtin.Range.rangeSize a b (-1) = if b < a then a - b else 0 := by
  unfold Builtin.Range.rangeSize
  simp only [show ¬ ((-1 : Int) > 0) by decide, if_false, Int.neg_neg, Int.ediv_one]
  split <;> omega
theorem small_down {a b : Int} (ha : -1000000 ≤ a) (ha' : a < 1000000) (hb : -1000000 ≤ b) (hb' : b < 1000000) : Builtin.Range.small a b (-1) = true := by
  unfold Builtin.Range.small
  rw [rangeSize_down]
  simp only [Builtin.Range.rangeFitsLong, Bool.and_eq_true, Bool.or_eq_true, decide_eq_true_eq, beq_iff_eq, show ¬ ((-1 : Int) > 0) by decide, if_false]
  split <;> omega
section
variable {X : Cx} {tg : Expr}
theorem down_it {pins : List (Addr × Obj)} {σ : St} {H : Hp} {s : Shared} {R : It → Hp → Prop} {E : Value → Shared → Prop} {lo hi : Int} {t u v : Tok} {tk : Nat} (I : Inv X pins σ H s) (h1 : -1000000 ≤ lo) (h2 : lo < 1000000) (h3 : -1000000 ≤ hi) (h4 : hi < 1000000)
    (q : R (Itd lo (lo - hi).toNat) H) : wpAny (model X.prog X.w) X.A (pyIter (.ref s.heap.objs.size)) (PIE X pins σ tg R) E { s with heap := s.heap.push { cls := .type "range", data := .fields #[.int lo t, .int hi u, .int (-1) v] }, toks := tk } := by
  refine wpAny_pyIter_range (IsRange.new ..) (small_down h1 h2 h3 h4) ?_
  have I1 : Inv X pins σ H { s with heap := s.heap.push { cls := .type "range", data := .fields #[.int lo t, .int hi u, .int (-1) v] }, toks := tk } := I.kept fun b o e => Heap.get?_push_of_some _ e
  refine ⟨(s.heap.push { cls := .type "range", data := .fields #[.int lo t, .int hi u, .int (-1) v] }).objs.size, [(s.heap.push { cls := .type "range", data := .fields #[.int lo t, .int hi u, .int (-1) v] }).objs.size], _, _, H, rfl,
    I1.kept (t' := tk) fun b o e => Heap.get?_push_of_some _ e, turn_down _ lo (lo - hi).toNat, ?_, fun b hb => ?_, q⟩
  · have e1 : lo + ((0 : Nat) : Int) * (-1) = lo := by simp
    have e2 : (((lo - hi).toNat : Nat) : Int) - ((0 : Nat) : Int) = Builtin.Range.rangeSize lo hi (-1) := by rw [rangeSize_down]; split <;> omega
    show IsRangeIter _ _ (lo + ((0 : Nat) : Int) * (-1)) ((((lo - hi).toNat : Nat) : Int) - ((0 : Nat) : Int)) (-1)
    rw [e1, e2]
    exact Heap.get?_push_size _ rfl
  · have e : b = (s.heap.push { cls := .type "range", data := .fields #[.int lo t, .int hi u, .int (-1) v] }).objs.size := by simpa using hb
    subst e
    exact I1.fpOk (Nat.le_refl _) (I1.hok.fresh (Nat.le_refl _))
def iDown (ta : TA) : TI := fun σ H R => ta σ H fun vs H1 => ∃ i j : Int, vs = [.int i, .int j, .int (-1)] ∧ (-1000000 ≤ i ∧ i < 1000000 ∧ -1000000 ≤ j ∧ j < 1000000) ∧ R (Itd i (i - j).toNat) H1
theorem pi_down {a b c : Expr} {ta : TA} {p pos : Pos} (hg : Gl X "range") (hm : X.mg "range" = none) (ha : PA X [a, b, c] ta) (hs : starEach [a, b, c] X.env = (false, eval a X.env) :: starEach [b, c] X.env := by rfl) (hs2 : starEach [b, c] X.env = [(false, eval b X.env), (false, eval c X.env)] := by rfl) :
    PI X tg (.Call (.Name "range" p) [a, b, c] [] pos) (iDown ta) := by
  intro pins s σ H R I h
  refine Call_ (ld_blt I hg hm boot_range (PyProof.Rows.callWith_type1 (thn (ha pos pins s σ H _ I h) fun us s1 ⟨vs, H1, I1, r1, q1⟩ => ?_) hs (by rw [hs2]; rfl)))
  obtain ⟨i, j, e, ⟨q1, q2, q3, q4⟩, q⟩ := q1
  subst e
  cases r1 with
  | cons r rr =>
    cases rr with
    | cons r' rr =>
      cases rr with
      | cons r'' rr =>
        cases rr
        obtain ⟨t, rfl⟩ := r
        obtain ⟨t', rfl⟩ := r'
        obtain ⟨t'', rfl⟩ := r''
        exact call_range_3 (by decide) (down_it I1 q1 q2 q3 q4 q) (.inl (PyProof.noPylong_small (by decide)))
end
theorem for_down {lo : Int} {n : Nat} {g : TG} {tb : TS} {D : Ends} {σ : St} {H : Hp} (Pv : Nat → St → Hp → Prop) (h0 : Pv 0 σ H)
    (turn : ∀ i σ H, i < n → Pv i σ H → g (.int (lo - i)) σ H fun σ2 H2 => tb { D with nx := fun σ' H' => Pv (i + 1) σ' H', ct := fun σ' H' => Pv (i + 1) σ' H', bk := D.nx } σ2 H2)
    (after : ∀ σ H, Pv n σ H → D.nx σ H) : ∃ W : Nat → Nat → St → Hp → Prop, (∃ m, W 0 m σ H) ∧ ∀ i m σ H, W i m σ H →
      ((Itd lo n).stop i H ∧ D.nx σ H) ∨ ((Itd lo n).go i H ∧ ∃ N : St → Hp → Prop, (∀ σ' H', N σ' H' → ∃ m', m' < m ∧ W (i + 1) m' σ' H') ∧ ∀ x H', (Itd lo n).yld i H x H' → g x σ H' fun σ2 H2 => tb { D with nx := N, ct := N, bk := D.nx } σ2 H2) := by
  refine ⟨fun i m σ H => i ≤ n ∧ m = n - i ∧ Pv i σ H, ⟨_, Nat.zero_le _, rfl, h0⟩, ?_⟩
  rintro i m σ H ⟨hi, rfl, p⟩
  by_cases e : i < n
  · refine .inr ⟨e, _, fun σ' H' q => ⟨n - (i + 1), by omega, by omega, rfl, q⟩, ?_⟩
    rintro x H' ⟨rfl, rfl⟩
    exact turn i σ H' e p
  · have e2 : i = n := by omega
    subst e2
    exact .inl ⟨Nat.le_refl _, after σ H p⟩
end L2
namespace L2
open PySem PySem.Spec PyProof.Rows
/-! ### max(xs), and max(xs, default=d), of a list of ints that is not empty -/
section
variable {pg : Program} {w0 : World} {B : Around} {Z : Result → Shared → Prop} {It : Addr} {fs ws : List Addr} {cnt : Nat} {Pv : Nat → Value → Prop} {Sv : Nat → Heap → Prop} {kw : List (Str × Value)}
theorem mxk_loop (W : Walks pg w0 B.in1 It fs ws cnt Pv Sv) (g : Nat → Nat → Bool) (hg : CmpOf pg w0 B.in1 .Gt Pv g) (bs : Addr) (hbs : bs ∉ fs) : ∀ (left at_ : Nat) (z : Shared) (top : Value) (c : Nat), cnt - (at_ + 1) = left → at_ + 1 ≤ cnt → Sv (at_ + 1) z.heap → Pv (argBest g at_) top →
    z.heap.get? bs = some { cls := .type "list", dict := none, data := .seq #[top, top] c, slots := #[] } →
    (∀ v h tk, Pv (argBest g (cnt - 1)) v → (∀ b o, b ∉ ws → b ≠ bs → z.heap.get? b = some o → h.get? b = some o) → Z (.ok (.ret v)) { z with heap := h, toks := tk }) →
    codeAny (model pg w0) B (.builtin "max.loop" ⟨[.ref It, .none, .ref bs], kw⟩) Z z := by
  have nw : bs ∉ ws := fun m => hbs (W.sub _ m)
  have nm : (s!"{("max" : String)}.loop") = "max.loop" := by decide
  intro left
  induction left with
  | zero =>
    intro at_ z top c hl ha sv pt gs out
    have full : at_ + 1 = cnt := by omega
    refine codeAny_builtin F.entry_max_loop ?_; rw [Around.under_plainId F.plain_max_loop _]
    show wpAny _ B.in1 (seqItems? (.ref bs) >>= _) _ _ z
    refine wpAny_bind (wpAny_seqItems gs rfl ?_)
    show wpAny _ B.in1 (tryCatch (pyNext (.ref It)) _ >>= _) _ _ z
    refine wpAny_bind (wpAny_tryCatch (W.done z _ _ (full ▸ sv) fun h tk kp => ?_))
    have gs2 := kp bs _ nw gs
    show wpAny _ B.in1 (updateSeq bs (fun _ => #[]) >>= _) _ _ _
    refine wpAny_bind (wpAny_updateSeq gs2 rfl (wpAny_bind (wpAny_letGo (wpAny_pure ?_))))
    exact out top _ tk (by rw [← full]; exact pt) fun b o bw bb e => (Heap.get?_update_other _ _ (Ne.symm bb)).trans (kp b o bw e)
  | succ left ih =>
    intro at_ z top c hl ha sv pt gs out
    have more : at_ + 1 < cnt := by omega
    refine codeAny_builtin F.entry_max_loop ?_; rw [Around.under_plainId F.plain_max_loop _]
    show wpAny _ B.in1 (seqItems? (.ref bs) >>= _) _ _ z
    refine wpAny_bind (wpAny_seqItems gs rfl ?_)
    show wpAny _ B.in1 (tryCatch (pyNext (.ref It)) _ >>= _) _ _ z
    refine wpAny_bind (wpAny_tryCatch (W.item (at_ + 1) z _ _ more sv fun v h tk pv sv2 kp => ?_))
    have gs2 := kp bs _ nw gs
    show wpAny _ B.in1 (tryCatch (holding [v, v] (richCompare .Gt v top >>= _)) _ >>= _) _ _ _
    refine wpAny_bind (wpAny_tryCatch (wpAny_holding (wpAny_bind (hg (at_ + 1) (argBest g at_) v top _ _ _ pv pt ?_))))
    refine wpAny_bind (wpAny_holding (wpAny_truthy_bool (wpAny_bind (wpAny_letGo (wpAny_pure ?_)))))
    cases e1 : g (at_ + 1) (argBest g at_) with
    | true =>
      simp only [if_true]
      refine wpAny_bind (wpAny_updateSeq gs2 rfl (wpAny_bind (wpAny_letGo ?_))); rw [nm]
      refine wpAny_pure ⟨plainId_quiet F.plain_max_loop _, ih (at_ + 1) _ v _ (by omega) more (W.frame _ _ _ sv2 fun b bf o e => ?_) (by simp only [argBest, e1, if_true]; exact pv) (Heap.get?_update_self _ gs2 rfl) fun v' h2 tk2 pv2 kp2 => ?_⟩
      · exact (Heap.get?_update_other _ _ (fun q : bs = b => hbs (by rw [q]; exact bf))).trans e
      · exact out v' h2 tk2 pv2 fun b o bw bb e => kp2 b o bw bb ((Heap.get?_update_other _ _ (Ne.symm bb)).trans (kp b o bw e))
    | false =>
      simp only [Bool.false_eq_true, if_false]
      refine wpAny_bind (wpAny_letGo ?_); rw [nm]
      refine wpAny_pure ⟨plainId_quiet F.plain_max_loop _, ih (at_ + 1) _ top c (by omega) more sv2 (by simp only [argBest, e1, Bool.false_eq_true, if_false]; exact pt) gs2 fun v' h2 tk2 pv2 kp2 => ?_⟩
      exact out v' h2 tk2 pv2 fun b o bw bb e => kp2 b o bw bb (kp b o bw e)
theorem mxk_first (W : Walks pg w0 B.in1 It fs ws cnt Pv Sv) (g : Nat → Nat → Bool) (hg : CmpOf pg w0 B.in1 .Gt Pv g) (bs : Addr) (hbs : bs ∉ fs) (h0 : 0 < cnt) {z : Shared} {c : Nat} (sv : Sv 0 z.heap)
    (gs : z.heap.get? bs = some { cls := .type "list", dict := none, data := .seq #[] c, slots := #[] })
    (out : ∀ v h tk, Pv (argBest g (cnt - 1)) v → (∀ b o, b ∉ ws → b ≠ bs → z.heap.get? b = some o → h.get? b = some o) → Z (.ok (.ret v)) { z with heap := h, toks := tk }) :
    codeAny (model pg w0) B (.builtin "max.loop" ⟨[.ref It, .none, .ref bs], kw⟩) Z z := by
  have nw : bs ∉ ws := fun m => hbs (W.sub _ m)
  have nm : (s!"{("max" : String)}.loop") = "max.loop" := by decide
  refine codeAny_builtin F.entry_max_loop ?_; rw [Around.under_plainId F.plain_max_loop _]
  show wpAny _ B.in1 (seqItems? (.ref bs) >>= _) _ _ z
  refine wpAny_bind (wpAny_seqItems gs rfl ?_)
  show wpAny _ B.in1 (tryCatch (pyNext (.ref It)) _ >>= _) _ _ z
  refine wpAny_bind (wpAny_tryCatch (W.item 0 z _ _ h0 sv fun v h tk pv sv2 kp => ?_))
  have gs2 := kp bs _ nw gs
  show wpAny _ B.in1 (updateSeq bs (fun _ => #[v, v]) >>= _) _ _ _
  refine wpAny_bind (wpAny_updateSeq gs2 rfl ?_); rw [nm]
  refine wpAny_pure ⟨plainId_quiet F.plain_max_loop _, mxk_loop W g hg bs hbs _ 0 _ v _ rfl h0 (W.frame _ _ _ sv2 fun b bf o e => ?_) pv (Heap.get?_update_self _ gs2 rfl) fun v' h2 tk2 pv2 kp2 => ?_⟩
  · exact (Heap.get?_update_other _ _ (fun q : bs = b => hbs (by rw [q]; exact bf))).trans e
  · exact out v' h2 tk2 pv2 fun b o bw bb e => kp2 b o bw bb ((Heap.get?_update_other _ _ (Ne.symm bb)).trans (kp b o bw e))
end
theorem mxk_args (a v : Value) : argsOk "max" ⟨[a], [(Str.ofString "default", v)]⟩ := by unfold argsOk; kernel_rfl
section
variable {pg : Program} {w0 : World} {B : Around} {E : Value → Shared → Prop} {z : Shared} {l : Addr}
/-- the greatest of the ints, with the default told beside them -/
theorem mxk_default {vs : List Value} {ns : List Int} {d : Value} {Q : Value → Shared → Prop} (hh : B.handled = none) (hl : z.heap.IsList l vs.toArray) (hi : IntsAre vs ns) (hne : 0 < ns.length)
    (out : ∀ h M (t : Tok) tk, (∀ b o, z.heap.get? b = some o → h.get? b = some o) → M ∈ ns → (∀ a, a ∈ ns → a ≤ M) → Q (.int M t) { z with heap := h, toks := tk }) :
    wpAny (model pg w0) B (call (.builtin "max") [.ref l] [(Str.ofString "default", d)]) Q E z := by
  have nm : (s!"{("max" : String)}.loop") = "max.loop" := by decide
  obtain ⟨xs, e⟩ := hi.allInts.items
  have hns : ns = xs.toList.map (·.1) := by rw [← hi.numsOf, ← nums_intItems, ← e]
  have h0 : 0 < xs.size := by
    rw [hns, List.length_map, Array.length_toList] at hne
    exact hne
  rw [e] at hl
  refine kmk_tree F.kind_max F.plain_max F.entry_max (mxk_args _ _) ?_
  show wpAny _ B.in1 (Builtin.Builtins.bindParams "max" ["key", "default"] 0 ⟨[], [(Str.ofString "default", d)]⟩ >>= _) _ _ z
  refine wpAny_bind (wpAny_of_eq (show Builtin.Builtins.bindParams "max" ["key", "default"] 0 ⟨[], [(Str.ofString "default", d)]⟩ = pure [none, some d] from rfl) (wpAny_bind (wpAny_pure (wpAny_bind (iter_intList hl fun z2 ez st hfp hlI => ?_)))))
  subst ez
  refine wpAny_bind (wpAny_newObj_type ?_); rw [nm]
  have W := Walks.list (prog := pg) (w := w0) (A := B.in1) hh z.heap.objs.size l hlI (intItems xs)
  refine wpAny_pure ⟨plainId_quiet F.plain_max_loop _, mxk_first W _ (CmpOf.ints_gt (numAt xs) fun _ _ => intItems_at) _ (fun m => Nat.lt_irrefl _ (hfp _ m)) (by simpa [intItems] using h0) (W.frame _ _ _ st fun b _ o q => Heap.get?_push_of_some _ q) (Heap.get?_push_size _ rfl) fun v h tk pv kp => ?_⟩
  have pv : (intItems xs)[argBest (fun i j => decide (numAt xs i > numAt xs j)) (xs.size - 1)]? = some v := by simpa [intItems] using pv
  obtain ⟨t, rfl⟩ := intItems_at pv
  obtain ⟨b1, b2⟩ := argBest_gt (numAt xs) (xs.size - 1)
  refine out _ _ t tk (fun b o q => ?_) ?_ fun a ha => ?_
  · refine kp b o (fun m => ?_) (fun m => ?_) (Heap.get?_push_of_some _ (Heap.get?_push_of_some _ q))
    · rw [List.mem_singleton.mp m] at q
      exact Nat.lt_irrefl _ (Heap.lt_size q)
    · have hb := Heap.lt_size q
      have e2 : b = z.heap.objs.size + 1 := m.trans (Heap.size_push ..)
      rw [e2] at hb
      exact Nat.not_succ_lt_self hb
  · rw [hns, numAt_eq]
    exact PySem.getD_mem (by rw [List.length_map, Array.length_toList]; omega)
  · rw [hns] at ha
    obtain ⟨j, hj, rfl⟩ := PySem.mem_getD ha
    rw [List.length_map, Array.length_toList] at hj
    rw [← numAt_eq]
    exact b2 j (by omega)
end
section
variable {X : Cx} {K : PySem.W.Frag}
theorem ints_of8 : ∀ {ns : List Int} {us : List Value}, Vals (ns.map V.int) us → IntsAre us ns
  | [], _, .nil => .nil
  | n :: ns, _, .cons r t => by
    obtain ⟨k, rfl⟩ := (show ∃ k, _ = Value.int n k from r)
    exact .cons n k (ints_of8 t)
/-- max(xs) -/
theorem call_max1K (hK : X.K = K) (hc : X.calm = true) : CallR X (.builtin "max") (fun xs H Q => ∃ (p : Addr) (ns : List Int), xs = [.ref p] ∧ SqL K H p (ns.map V.int) ∧ 0 < ns.length ∧ ∀ M, M ∈ ns → (∀ a ∈ ns, a ≤ M) → Q (.int M) H) := by
  subst hK
  intro pins s σ H xs us Q I r h
  obtain ⟨p, ns, rfl, hp, hne, q⟩ := h
  obtain ⟨u, rfl, rx⟩ := vals1 r
  cases rx
  obtain ⟨its, rel, pl, hz⟩ := I.list hp
  have hi := ints_of8 rel
  obtain ⟨xs, e⟩ := hi.allInts.items
  have hns : ns = xs.toList.map (·.1) := by rw [← hi.numsOf, ← nums_intItems, ← e]
  have h0 : 0 < xs.size := by
    rw [hns, List.length_map, Array.length_toList] at hne
    exact hne
  have hl := pl.isList
  rw [e] at hl
  refine max_intList (I.ok.hd hc) hl h0 fun v h tk pv kp => ?_
  obtain ⟨t, rfl⟩ := intItems_at pv
  obtain ⟨b1, b2⟩ := argBest_gt (numAt xs) (xs.size - 1)
  refine ⟨.int _, H, I.kept kp, ⟨t, rfl⟩, q _ ?_ fun a ha => ?_⟩
  · rw [hns, numAt_eq]
    exact PySem.getD_mem (by rw [List.length_map, Array.length_toList]; omega)
  · rw [hns] at ha
    obtain ⟨j, hj, rfl⟩ := PySem.mem_getD ha
    rw [List.length_map, Array.length_toList] at hj
    rw [← numAt_eq]
    exact b2 j (by omega)
/-- f(e, .., k = v, ..), f a built-in function -/
def CallKR (X : Cx) (f : Value) (ks : List Str) (r : List V → List V → Hp → VK → Prop) : Prop :=
  ∀ (pins : List (Addr × Obj)) (s : Shared) (σ : St) (H : Hp) (xs ys : List V) (us ws : List Value) (Q : VK), Inv X pins σ H s → Vals xs us → Vals ys ws → r xs ys H Q → wpAny (model X.prog X.w) X.A (call f us (ks.zip ws)) (EP X pins σ Q) X.xe s
def tCBK (r : List V → List V → Hp → VK → Prop) (t tk : TA) : TE := fun σ H Q => t σ H fun vs H1 => tk σ H1 fun zs H2 => r vs zs H2 Q
theorem pe_callBK {x : Str} {p pos : Pos} {e : Expr} {es : List Expr} {kws : List Keyword} {ks : List Str} {t tk : TA} {id : String} {r : List V → List V → Hp → VK → Prop} (hc : CallKR X (.builtin id) ks r) (hg : Gl X x) (hm : X.mg x = none) (hv : bootBuiltins x = some (.builtin id)) (ha : PA X (e :: es) t) (hkw : PK X kws tk)
    (hks : (backToKw pos (keywordEach kws X.env)).filterMap (·.1) = ks := by rfl) (hn : x ≠ "__name__" := by decide) (hdb : (x == ("__debug__" : Str)) = false := by decide) (he : backTo pos (starEach (e :: es) X.env) = (false, eval e X.env) :: backTo pos (starEach es X.env) := by rfl)
    (hpl : (backTo pos (starEach (e :: es) X.env)).any (·.1) = false := by rfl) (hall : (backToKw pos (keywordEach kws X.env)).all (·.1.isSome) = true := by rfl) (hno : (backToKw pos (keywordEach kws X.env)).any (·.1.isNone) = false := by rfl) :
    PE X (.Call (.Name x p) (e :: es) kws pos) (tCBK r t tk) := by
  intro pins s σ H Q I h
  refine wpAny_Call_Name_kw (ld_blt I hg hm hv ?_ hn hdb)
  refine PyProof.Rows.callWith_kw (thn (ha pos pins s σ H _ I h) fun us s1 ⟨vs, H1, I1, r1, q1⟩ => ?_) he hpl hall hno
  refine thn (hkw pos pins s1 σ H1 _ I1 q1) fun ws s2 ⟨zs, H2, I2, rz, q2⟩ => ?_
  rw [hks]
  exact hc pins s2 σ H2 vs zs us ws Q I2 r1 rz q2
/-- max(xs, default=d) -/
theorem call_maxDK (hK : X.K = K) (hc : X.calm = true) : CallKR X (.builtin "max") ["default"] (fun xs ys H Q => ∃ (p : Addr) (ns : List Int) (d : V), xs = [.ref p] ∧ ys = [d] ∧ SqL K H p (ns.map V.int) ∧ 0 < ns.length ∧ ∀ M, M ∈ ns → (∀ a ∈ ns, a ≤ M) → Q (.int M) H) := by
  subst hK
  intro pins s σ H xs ys us ws Q I r rz h
  obtain ⟨p, ns, d, rfl, rfl, hp, hne, q⟩ := h
  obtain ⟨u, rfl, rx⟩ := vals1 r
  obtain ⟨dv, rfl, _⟩ := vals1 rz
  cases rx
  obtain ⟨its, rel, pl, hz⟩ := I.list hp
  exact mxk_default (I.ok.hd hc) pl.isList (ints_of8 rel) hne fun h M t tk kp hm hx => ⟨.int M, H, I.kept kp, ⟨t, rfl⟩, q M hm hx⟩
end
end L2
namespace My
/-! ### maths of rules -/
/-- a row breaks a rule -/
def brk (m : Nat) (r : Nat × Nat) : Bool := decide (r.1 &&& m = r.1) && !decide (r.2 &&& m = r.2)
theorem brk_iff {m : Nat} {r : Nat × Nat} : brk m r = true ↔ r.1 &&& m = r.1 ∧ ¬ r.2 &&& m = r.2 := by
  unfold brk
  rw [Bool.and_eq_true, decide_eq_true_eq, Bool.not_eq_true', decide_eq_false_iff_not]
theorem brk_false {m : Nat} {r : Nat × Nat} : brk m r = false ↔ (r.1 &&& m = r.1 → r.2 &&& m = r.2) := by
  rw [← Bool.not_eq_true, brk_iff]
  constructor
  · intro h h1
    exact Decidable.byContradiction fun h2 => h ⟨h1, h2⟩
  · rintro h ⟨h1, h2⟩
    exact h2 (h h1)
/-- the first of the numbers below n -/
def firstI (p : Nat → Bool) (n : Nat) : Option Nat := (List.range n).find? p
theorem first_none {p : Nat → Bool} {n : Nat} (h : ∀ j, j < n → p j = false) : firstI p n = none := by
  unfold firstI
  rw [List.find?_eq_none]
  intro x hx
  rw [h x (List.mem_range.mp hx)]
  decide
theorem first_some {p : Nat → Bool} {n i : Nat} (hi : i < n) (hp : p i = true) (h : ∀ j, j < i → p j = false) : firstI p n = some i := by
  unfold firstI
  obtain ⟨d, rfl⟩ : ∃ d, n = i + (d + 1) := ⟨n - i - 1, by omega⟩
  rw [List.range_add, List.find?_append]
  have e : (List.range i).find? p = none := first_none h
  rw [e, Option.none_or, List.range_succ_eq_map, List.map_cons, List.find?_cons_of_pos (by simpa using hp)]
  rfl
theorem first_spec {p : Nat → Bool} {n i : Nat} (h : firstI p n = some i) : i < n ∧ p i = true ∧ ∀ j, j < i → p j = false := by
  unfold firstI at h
  refine ⟨List.mem_range.mp (List.mem_of_find?_eq_some h), List.find?_some h, ?_⟩
  intro j hj
  cases e : p j with
  | false => rfl
  | true =>
    exfalso
    have hi := List.mem_range.mp (List.mem_of_find?_eq_some h)
    have q : ∃ k, k ≤ j ∧ firstI p n = some k := by
      clear h
      have key : ∀ m, m ≤ n → (∃ k, k < m ∧ p k = true) → ∃ k, k < m ∧ firstI p n = some k := by
        intro m
        induction m with
        | zero => rintro _ ⟨k, hk, _⟩; omega
        | succ m ih =>
          rintro hm ⟨k, hk, hp⟩
          by_cases hq : ∃ k, k < m ∧ p k = true
          · obtain ⟨k', h1, h2⟩ := ih (by omega) hq
            exact ⟨k', by omega, h2⟩
          · have hkm : k = m := by
              apply Decidable.byContradiction
              intro hne
              exact hq ⟨k, by omega, hp⟩
            subst hkm
            refine ⟨k, by omega, first_some (by omega) hp fun j hj => ?_⟩
            cases e : p j with
            | false => rfl
            | true => exact absurd ⟨j, hj, e⟩ hq
      by_cases hjn : j < n
      · obtain ⟨k, h1, h2⟩ := key (j + 1) (by omega) ⟨j, by omega, e⟩
        exact ⟨k, by omega, h2⟩
      · exact absurd hj (by omega)
    obtain ⟨k, h1, h2⟩ := q
    have : firstI p n = some i := h
    rw [this] at h2
    have := Option.some.inj h2
    omega
theorem first_none_spec {p : Nat → Bool} {n : Nat} (h : firstI p n = none) : ∀ j, j < n → p j = false := by
  unfold firstI at h
  rw [List.find?_eq_none] at h
  intro j hj
  have := h j (List.mem_range.mpr hj)
  simpa using this
/-- the least number of a thing whose row breaks the rule -/
def firstB (rs : List Nat) (r : Nat × Nat) : Option Nat := firstI (fun i => brk (rs.getD i 0) r) rs.length
/-- the least place of a rule that the set breaks -/
def firstR (rl : List (Nat × Nat)) (m : Nat) : Option Nat := firstI (fun i => brk m (rl.getD i (0, 0))) rl.length
theorem getD_mem {α : Type} {xs : List α} {d : α} {i : Nat} (h : i < xs.length) : xs.getD i d ∈ xs := by
  rw [List.getD_eq_getElem?_getD, List.getElem?_eq_getElem h]; exact List.getElem_mem h
theorem firstB_none {rs : List Nat} {r : Nat × Nat} : firstB rs r = none ↔ ∀ x ∈ rs, brk x r = false := by
  constructor
  · intro h x hx
    obtain ⟨i, hi, e⟩ := List.mem_iff_getElem.mp hx
    have := first_none_spec h i hi
    rwa [List.getD_eq_getElem?_getD, List.getElem?_eq_getElem hi, Option.getD_some, e] at this
  · intro h
    exact first_none fun j hj => h _ (getD_mem hj)
theorem firstR_none {rl : List (Nat × Nat)} {m : Nat} : firstR rl m = none ↔ ∀ r ∈ rl, brk m r = false := by
  constructor
  · intro h x hx
    obtain ⟨i, hi, e⟩ := List.mem_iff_getElem.mp hx
    have := first_none_spec h i hi
    rwa [List.getD_eq_getElem?_getD, List.getElem?_eq_getElem hi, Option.getD_some, e] at this
  · intro h
    exact first_none fun j hj => h _ (getD_mem hj)
def keepsAll (m : Nat) (rl : List (Nat × Nat)) : Prop := ∀ r ∈ rl, brk m r = false
theorem or_holds_left (a b : Nat) : a &&& (a ||| b) = a := by
  rw [within_iff]; intro i hi; rw [Nat.testBit_or, hi]; rfl
theorem or_holds_right (a b : Nat) : b &&& (a ||| b) = b := by
  rw [within_iff]; intro i hi; rw [Nat.testBit_or, hi, Bool.or_true]
theorem or_within {a b c : Nat} (h1 : a &&& c = a) (h2 : b &&& c = b) : (a ||| b) &&& c = a ||| b := by
  rw [within_iff] at *
  intro i hi
  rw [Nat.testBit_or, Bool.or_eq_true] at hi
  rcases hi with h | h
  · exact h1 i h
  · exact h2 i h
theorem within_le {a b : Nat} (h : a &&& b = a) : a ≤ b := by
  have := Nat.and_le_right (n := a) (m := b)
  omega
theorem within_antisymm {a b : Nat} (h1 : a &&& b = a) (h2 : b &&& a = b) : a = b := by
  rw [Nat.and_comm] at h2
  exact h1.symm.trans h2
theorem within_refl (a : Nat) : a &&& a = a := Nat.and_self a
/-- one rule gone by where it is broken -/
def stepR (m : Nat) (r : Nat × Nat) : Nat := if brk m r = true then m ||| r.2 else m
theorem step_holds (m : Nat) (r : Nat × Nat) : m &&& stepR m r = m := by
  unfold stepR
  split
  · exact or_holds_left _ _
  · exact within_refl _
theorem step_within {m n : Nat} {r : Nat × Nat} (h : m &&& n = m) (hk : brk n r = false) : stepR m r &&& n = stepR m r := by
  unfold stepR
  split
  · rename_i hb
    exact or_within h (brk_false.mp hk (within_trans (brk_iff.mp hb).1 h))
  · exact h
theorem step_same {m : Nat} {r : Nat × Nat} (h : stepR m r = m) : brk m r = false := by
  unfold stepR at h
  split at h
  · rename_i hb
    have := or_holds_right m r.2
    rw [h] at this
    exact absurd this (brk_iff.mp hb).2
  · rename_i hb
    simpa using hb
theorem step_lt {m N : Nat} {r : Nat × Nat} (h : m < 2 ^ N) (hr : r.2 < 2 ^ N) : stepR m r < 2 ^ N := by
  unfold stepR
  split
  · exact Nat.or_lt_two_pow h hr
  · exact h
/-- a whole walk over the list -/
def walkR (rl : List (Nat × Nat)) (m : Nat) : Nat := rl.foldl stepR m
theorem walk_holds : ∀ (rl : List (Nat × Nat)) (m : Nat), m &&& walkR rl m = m
  | [], m => within_refl m
  | r :: rl, m => within_trans (step_holds m r) (walk_holds rl (stepR m r))
theorem walk_within : ∀ {rl : List (Nat × Nat)} {m n : Nat}, m &&& n = m → keepsAll n rl → walkR rl m &&& n = walkR rl m
  | [], _, _, h, _ => h
  | r :: rl, m, n, h, hk => walk_within (rl := rl) (m := stepR m r) (step_within h (hk r List.mem_cons_self)) fun x hx => hk x (List.mem_cons_of_mem _ hx)
theorem walk_same : ∀ {rl : List (Nat × Nat)} {m : Nat}, walkR rl m = m → keepsAll m rl
  | [], _, _ => fun _ h => nomatch h
  | r :: rl, m, h => by
    have h1 := walk_holds rl (stepR m r)
    have h : walkR rl (stepR m r) = m := h
    rw [h] at h1
    have e : stepR m r = m := within_antisymm h1 (step_holds m r)
    rw [e] at h
    intro x hx
    rcases List.mem_cons.mp hx with z | z
    · rw [z]; exact step_same e
    · exact walk_same h x z
theorem walk_lt {N : Nat} : ∀ {rl : List (Nat × Nat)} {m : Nat}, m < 2 ^ N → (∀ r ∈ rl, r.2 < 2 ^ N) → walkR rl m < 2 ^ N
  | [], _, h, _ => h
  | r :: rl, m, h, hr => walk_lt (rl := rl) (step_lt h (hr r List.mem_cons_self)) fun x hx => hr x (List.mem_cons_of_mem _ hx)
/-- the least set that holds m and keeps every rule -/
def IsGrown (rl : List (Nat × Nat)) (m g : Nat) : Prop := m &&& g = m ∧ keepsAll g rl ∧ ∀ n, m &&& n = m → keepsAll n rl → g &&& n = g
theorem grown_unique {rl : List (Nat × Nat)} {m g h : Nat} (a : IsGrown rl m g) (b : IsGrown rl m h) : g = h :=
  within_antisymm (a.2.2 h b.1 b.2.1) (b.2.2 g a.1 a.2.1)
/-- papers -/
def haveP (rl : List (Nat × Nat)) (x : Nat) (ps : List Nat) : Nat := ps.foldl (fun h k => h ||| (rl.getD k (0, 0)).2) x
theorem haveP_snoc (rl : List (Nat × Nat)) (x : Nat) (ps : List Nat) (k : Nat) : haveP rl x (ps ++ [k]) = haveP rl x ps ||| (rl.getD k (0, 0)).2 := by
  unfold haveP
  rw [List.foldl_append]; rfl
theorem haveP_holds (rl : List (Nat × Nat)) : ∀ (ps : List Nat) (x : Nat), x &&& haveP rl x ps = x
  | [], x => within_refl x
  | k :: ps, x => within_trans (or_holds_left x _) (haveP_holds rl ps (x ||| (rl.getD k (0, 0)).2))
theorem haveP_lt {rl : List (Nat × Nat)} {N : Nat} (h : ∀ r ∈ rl, r.2 < 2 ^ N) : ∀ (ps : List Nat) (x : Nat), x < 2 ^ N → (∀ k ∈ ps, k < rl.length) → haveP rl x ps < 2 ^ N
  | [], _, hx, _ => hx
  | k :: ps, x, hx, hk => haveP_lt h ps (x ||| (rl.getD k (0, 0)).2) (Nat.or_lt_two_pow hx (h _ (getD_mem (hk k List.mem_cons_self)))) fun j hj => hk j (List.mem_cons_of_mem _ hj)
theorem or_more {m : Nat} {r : Nat × Nat} (h : brk m r = true) : m < m ||| r.2 := by
  have h1 := within_le (or_holds_left m r.2)
  have h2 : m ||| r.2 ≠ m := fun e => (brk_iff.mp h).2 (by have := or_holds_right m r.2; rwa [e] at this)
  omega
def Walks (rl : List (Nat × Nat)) (x : Nat) (ps : List Nat) : Prop := ∀ i (h : i < ps.length), ps[i] < rl.length ∧ brk (haveP rl x (ps.take i)) (rl.getD ps[i] (0, 0)) = true
theorem walks_nil (rl : List (Nat × Nat)) (x : Nat) : Walks rl x [] := fun i h => absurd h (Nat.not_lt_zero i)
theorem walks_snoc {rl : List (Nat × Nat)} {x : Nat} {ps : List Nat} {k : Nat} (h : Walks rl x ps) (hk : k < rl.length) (hb : brk (haveP rl x ps) (rl.getD k (0, 0)) = true) : Walks rl x (ps ++ [k]) := by
  intro i hi
  rw [List.length_append, List.length_singleton] at hi
  by_cases e : i < ps.length
  · rw [List.getElem_append_left e, List.take_append_of_le_length (Nat.le_of_lt e)]
    exact h i e
  · have e2 : i = ps.length := by omega
    subst e2
    rw [List.getElem_append_right (Nat.le_refl _), List.take_append_of_le_length (Nat.le_refl _), List.take_length]
    simpa using ⟨hk, hb⟩
def IsPaper (rl : List (Nat × Nat)) (r : Nat × Nat) (ps : List Nat) : Prop := Walks rl r.1 ps ∧ r.2 &&& haveP rl r.1 ps = r.2 ∧ (r.2 &&& r.1 = r.2 → ps = [])
theorem paper_within {rl : List (Nat × Nat)} {x n : Nat} (hx : x &&& n = x) (hk : keepsAll n rl) : ∀ {ps : List Nat}, Walks rl x ps → haveP rl x ps &&& n = haveP rl x ps := by
  intro ps hw
  have key : ∀ i, i ≤ ps.length → haveP rl x (ps.take i) &&& n = haveP rl x (ps.take i) := by
    intro i
    induction i with
    | zero => intro _; exact hx
    | succ i ih =>
      intro hi
      have hil : i < ps.length := by omega
      have q := ih (by omega)
      obtain ⟨h1, h2⟩ := hw i hil
      rw [← List.take_append_getElem hil, haveP_snoc]
      exact or_within q (brk_false.mp (hk _ (getD_mem h1)) (within_trans (brk_iff.mp h2).1 q))
  have := key ps.length (Nat.le_refl _)
  rwa [List.take_length] at this
end My
namespace My
/-! ### the least row -/
/-- the members of a that are not in b -/
def lessN (a b : Nat) : Nat := a ^^^ (a &&& b)
theorem less_bit (a b i : Nat) : (lessN a b).testBit i = (a.testBit i && !b.testBit i) := by
  unfold lessN
  rw [Nat.testBit_xor, Nat.testBit_and]
  cases a.testBit i <;> cases b.testBit i <;> rfl
theorem less_within (a b : Nat) : lessN a b &&& a = lessN a b := by
  rw [within_iff]
  intro i hi
  rw [less_bit, Bool.and_eq_true] at hi
  exact hi.1
theorem less_in {a b c : Nat} (h1 : b &&& c = b) (h2 : lessN a b &&& c = lessN a b) : a &&& c = a := by
  rw [within_iff] at *
  intro i hi
  cases e : b.testBit i with
  | true => exact h1 i e
  | false => exact h2 i (by rw [less_bit, hi, e]; rfl)
theorem less_not {a b : Nat} (hb : b &&& a = b) (hne : a ≠ b) : ¬ lessN a b &&& b = lessN a b := by
  intro h
  exact hne (within_antisymm (less_in (within_refl b) h) hb)
theorem less_lt {a b N : Nat} (h : a < 2 ^ N) : lessN a b < 2 ^ N := Nat.lt_of_le_of_lt (within_le (less_within a b)) h
theorem less_xor {a b : Nat} (hb : b &&& a = b) : lessN a b = a ^^^ b := by
  unfold lessN
  rw [Nat.and_comm, hb]
/-- the least row, the sets below i tried -/
def leastTo (rs : List Nat) (w : Nat) : Nat → List (Nat × Nat)
  | 0 => []
  | i + 1 => if firstR (leastTo rs w i) i = none ∧ closedL rs w i ≠ i then leastTo rs w i ++ [(i, lessN (closedL rs w i) i)] else leastTo rs w i
theorem leastTo_succ (rs : List Nat) (w i : Nat) : leastTo rs w (i + 1) = if firstR (leastTo rs w i) i = none ∧ closedL rs w i ≠ i then leastTo rs w i ++ [(i, lessN (closedL rs w i) i)] else leastTo rs w i := rfl
def leastN (rs : List Nat) (w : Nat) : List (Nat × Nat) := leastTo rs w (2 ^ w)
theorem least_mem {rs : List Nat} {w : Nat} {r : Nat × Nat} : ∀ {i : Nat}, r ∈ leastTo rs w i ↔ r.1 < i ∧ r.2 = lessN (closedL rs w r.1) r.1 ∧ closedL rs w r.1 ≠ r.1 ∧ keepsAll r.1 (leastTo rs w r.1)
  | 0 => by simp [leastTo]
  | i + 1 => by
    rw [leastTo_succ]
    split
    · rename_i h
      rw [List.mem_append, List.mem_singleton, least_mem (i := i)]
      constructor
      · rintro (⟨h1, h2⟩ | e)
        · exact ⟨by omega, h2⟩
        · subst e
          exact ⟨by show i < i + 1; omega, rfl, h.2, firstR_none.mp h.1⟩
      · rintro ⟨h1, h2, h3, h4⟩
        by_cases e : r.1 = i
        · right
          rw [e] at h2
          exact Prod.ext e h2
        · left
          exact ⟨by omega, h2, h3, h4⟩
    · rename_i h
      rw [least_mem (i := i)]
      constructor
      · rintro ⟨h1, h2⟩
        exact ⟨by omega, h2⟩
      · rintro ⟨h1, h2, h3, h4⟩
        by_cases e : r.1 = i
        · exfalso
          rw [e] at h3 h4
          exact h ⟨firstR_none.mpr h4, h3⟩
        · exact ⟨by omega, h2, h3, h4⟩
theorem least_rising {rs : List Nat} {w : Nat} : ∀ {i : Nat}, ((leastTo rs w i).map (·.1)).Pairwise (· < ·)
  | 0 => by simp [leastTo]
  | i + 1 => by
    rw [leastTo_succ]
    split
    · rw [List.map_append, List.pairwise_append]
      refine ⟨least_rising, by simp, ?_⟩
      intro a ha b hb
      obtain ⟨r, hr, rfl⟩ := List.mem_map.mp ha
      have : b = i := by simpa using hb
      have := (least_mem.mp hr).1
      omega
    · exact least_rising
theorem least_len {rs : List Nat} {w : Nat} : ∀ {i : Nat}, (leastTo rs w i).length ≤ i
  | 0 => by simp [leastTo]
  | i + 1 => by
    have := least_len (rs := rs) (w := w) (i := i)
    rw [leastTo_succ]
    split
    · rw [List.length_append, List.length_singleton]; omega
    · omega
theorem least_lt {rs : List Nat} {w : Nat} {r : Nat × Nat} {i : Nat} (h : r ∈ leastTo rs w i) : r.2 < 2 ^ w := by
  rw [(least_mem.mp h).2.1]
  exact less_lt (closed_lt _ _ _)
/-- the rules that matter to a set are those of lesser starts -/
theorem keeps_less {rs : List Nat} {w m i : Nat} (h : m ≤ i) : keepsAll m (leastTo rs w m) ↔ ∀ r ∈ leastTo rs w i, r.1 ≠ m → brk m r = false := by
  constructor
  · intro hk r hr hne
    by_cases hl : r.1 < m
    · refine hk r (least_mem.mpr ⟨hl, (least_mem.mp hr).2⟩)
    · rw [brk_false]
      intro hw
      have := within_le hw
      omega
  · intro hk r hr
    have hm := least_mem.mp hr
    exact hk r (least_mem.mpr ⟨by omega, hm.2⟩) (by omega)
theorem least_start {rs : List Nat} {w m : Nat} (hm : m < 2 ^ w) : (∃ r ∈ leastN rs w, r.1 = m) ↔ closedL rs w m ≠ m ∧ ∀ r ∈ leastN rs w, r.1 ≠ m → brk m r = false := by
  constructor
  · rintro ⟨r, hr, rfl⟩
    have q := least_mem.mp hr
    exact ⟨q.2.2.1, (keeps_less (Nat.le_of_lt hm)).mp q.2.2.2⟩
  · rintro ⟨h1, h2⟩
    exact ⟨(m, lessN (closedL rs w m) m), least_mem.mpr ⟨hm, rfl, h1, (keeps_less (Nat.le_of_lt hm)).mpr h2⟩, rfl⟩
/-- a rule holds in the table just where behind lies within what is closed of ahead -/
theorem holds_closed {rs : List Nat} {w : Nat} {r : Nat × Nat} (h2 : r.2 < 2 ^ w) : (∀ x ∈ rs, brk x r = false) ↔ r.2 &&& closedL rs w r.1 = r.2 := by
  constructor
  · intro h
    rw [within_iff]
    intro i hi
    rw [closed_bit]
    refine ⟨?_, fun x hx hw => (within_iff _ _).mp (brk_false.mp (h x hx) hw) i hi⟩
    apply Nat.lt_of_not_le
    intro hle
    rw [Nat.testBit_lt_two_pow (Nat.lt_of_lt_of_le h2 (Nat.pow_le_pow_right (by omega) hle))] at hi
    cases hi
  · intro h x hx
    rw [brk_false]
    intro hw
    exact within_trans h (closed_row hx hw)
theorem least_holds {rs : List Nat} {w : Nat} {r : Nat × Nat} (h : r ∈ leastN rs w) : ∀ x ∈ rs, brk x r = false := by
  rw [holds_closed (least_lt h), (least_mem.mp h).2.1]
  exact less_within _ _
/-- what is closed keeps each rule that holds -/
theorem closed_keeps {rs : List Nat} {w m : Nat} (hm : m < 2 ^ w) {r : Nat × Nat} (h : r.2 &&& closedL rs w r.1 = r.2) : brk (closedL rs w m) r = false := by
  rw [brk_false]
  intro hw
  have := closed_mono (rs := rs) (w := w) hw
  rw [closed_closed hm] at this
  exact within_trans h this
theorem least_closed_holds {rs : List Nat} {w : Nat} {r : Nat × Nat} (h : r ∈ leastN rs w) : r.2 &&& closedL rs w r.1 = r.2 := by
  rw [(least_mem.mp h).2.1]; exact less_within _ _
/-- a set that keeps the least row is closed -/
theorem least_complete {rs : List Nat} {w m : Nat} (hm : m < 2 ^ w) (h : keepsAll m (leastN rs w)) : closedL rs w m = m := by
  apply Decidable.byContradiction
  intro hne
  obtain ⟨r, hr, e⟩ := (least_start hm).mpr ⟨hne, fun r hr _ => h r hr⟩
  have q := h r hr
  rw [brk_false] at q
  have q := q (by rw [e]; exact within_refl m)
  rw [(least_mem.mp hr).2.1, e] at q
  exact less_not (closed_holds hm) hne q
/-- what grows from a set by the least row is what is closed of it -/
theorem grown_least {rs : List Nat} {w m g : Nat} (hm : m < 2 ^ w) (h : IsGrown (leastN rs w) m g) : g = closedL rs w m := by
  have h1 := h.2.2 (closedL rs w m) (closed_holds hm) fun r hr => closed_keeps hm (least_closed_holds hr)
  have hg : g < 2 ^ w := Nat.lt_of_le_of_lt (within_le h1) (closed_lt _ _ _)
  have h2 := closed_mono (rs := rs) (w := w) h.1
  rw [least_complete hg h.2.1] at h2
  exact within_antisymm h1 h2
/-- two starts neither of which lies within the other have a closed set in common -/
theorem starts_meet {rs : List Nat} {w : Nat} {p q : Nat × Nat} (hp : p ∈ leastN rs w) (hq : q ∈ leastN rs w) (h1 : ¬ p.1 &&& q.1 = p.1) (h2 : ¬ q.1 &&& p.1 = q.1) : closedL rs w (p.1 &&& q.1) = p.1 &&& q.1 := by
  have lp := (least_mem.mp hp).1
  have lq := (least_mem.mp hq).1
  have kp := ((least_start lp).mp ⟨p, hp, rfl⟩).2
  have kq := ((least_start lq).mp ⟨q, hq, rfl⟩).2
  have wl : (p.1 &&& q.1) &&& p.1 = p.1 &&& q.1 := by
    rw [within_iff]; intro i hi; rw [Nat.testBit_and, Bool.and_eq_true] at hi; exact hi.1
  have wr : (p.1 &&& q.1) &&& q.1 = p.1 &&& q.1 := by
    rw [within_iff]; intro i hi; rw [Nat.testBit_and, Bool.and_eq_true] at hi; exact hi.2
  refine least_complete (Nat.lt_of_le_of_lt Nat.and_le_left lp) fun r hr => ?_
  rw [brk_false]
  intro hw
  have rp := within_trans hw wl
  have rq := within_trans hw wr
  have np : r.1 ≠ p.1 := fun e => h1 (e ▸ rq)
  have nq : r.1 ≠ q.1 := fun e => h2 (e ▸ rp)
  have b1 := brk_false.mp (kp r hr np) rp
  have b2 := brk_false.mp (kq r hr nq) rq
  rw [within_iff] at *
  intro i hi
  rw [Nat.testBit_and, b1 i hi, b2 i hi]; rfl
/-- no two starts break the same rule that holds -/
theorem starts_apart {rs : List Nat} {w : Nat} {p q r : Nat × Nat} (hp : p ∈ leastN rs w) (hq : q ∈ leastN rs w) (hr : r.2 &&& closedL rs w r.1 = r.2) (bp : brk p.1 r = true) (bq : brk q.1 r = true) : p.1 = q.1 := by
  have lp := (least_mem.mp hp).1
  have lq := (least_mem.mp hq).1
  have kp := ((least_start lp).mp ⟨p, hp, rfl⟩).2
  have kq := ((least_start lq).mp ⟨q, hq, rfl⟩).2
  have ep := (least_mem.mp hp).2.1
  have eq := (least_mem.mp hq).2.1
  obtain ⟨ap, np⟩ := brk_iff.mp bp
  obtain ⟨aq, nq⟩ := brk_iff.mp bq
  -- if one lies within the other, what is closed of it does so too
  have one : ∀ {p q : Nat × Nat}, p ∈ leastN rs w → (∀ r ∈ leastN rs w, r.1 ≠ q.1 → brk q.1 r = false) → p.1 < 2 ^ w → p.1 &&& q.1 = p.1 → p.1 ≠ q.1 → r.1 &&& p.1 = r.1 → ¬ r.2 &&& q.1 = r.2 → False := by
    intro p q hp kq lp hw hne ap nq
    have b := brk_false.mp (kq p hp hne) hw
    rw [(least_mem.mp hp).2.1] at b
    exact nq (within_trans hr (within_trans (closed_mono ap) (less_in hw b)))
  apply Decidable.byContradiction
  intro hne
  by_cases h1 : p.1 &&& q.1 = p.1
  · exact one hp kq lp h1 hne ap nq
  by_cases h2 : q.1 &&& p.1 = q.1
  · exact one hq kp lq h2 (Ne.symm hne) aq np
  have hc := starts_meet hp hq h1 h2
  have hrm : r.1 &&& (p.1 &&& q.1) = r.1 := by
    rw [within_iff] at *
    intro i hi
    rw [Nat.testBit_and, ap i hi, aq i hi]; rfl
  have q1 := within_trans hr (closed_mono (rs := rs) (w := w) hrm)
  rw [hc] at q1
  apply np
  rw [within_iff] at q1 ⊢
  intro i hi
  have := q1 i hi
  rw [Nat.testBit_and, Bool.and_eq_true] at this
  exact this.1
theorem nodup_len' : ∀ (n : Nat) (ks : List Nat), ks.Nodup → (∀ k ∈ ks, k < n) → ks.length ≤ n
  | 0, [], _, _ => Nat.le_refl _
  | 0, k :: _, _, h => absurd (h k List.mem_cons_self) (by omega)
  | n + 1, ks, hn, h => by
    have q := nodup_len' n (ks.erase n) (hn.erase n) (fun k hk => by
      have h1 := h k (List.mem_of_mem_erase hk)
      have h2 : k ≠ n := fun e => by rw [e] at hk; exact (List.Nodup.not_mem_erase hn) hk
      omega)
    have e := List.length_erase (a := n) (l := ks)
    split at e <;> omega
/-- no row with fewer rules that hold is enough -/
theorem fewest {rs : List Nat} {w : Nat} {L : List (Nat × Nat)} (hL : ∀ r ∈ L, r.2 &&& closedL rs w r.1 = r.2) (hlen : L.length < (leastN rs w).length) : ∃ p ∈ leastN rs w, keepsAll p.1 L := by
  apply Classical.byContradiction
  intro hno
  have hb : ∀ p ∈ leastN rs w, ∃ k, firstR L p.1 = some k := fun p hp => by
    cases e : firstR L p.1 with
    | some k => exact ⟨k, rfl⟩
    | none => exact absurd ⟨p, hp, firstR_none.mp e⟩ hno
  have hn : ((leastN rs w).map fun p => (firstR L p.1).getD 0).Nodup := by
    have hr := least_rising (rs := rs) (w := w) (i := 2 ^ w)
    rw [List.pairwise_map] at hr
    show List.Pairwise _ _
    rw [List.pairwise_map]
    refine List.Pairwise.imp_of_mem ?_ hr
    intro p q hp hq hlt e
    obtain ⟨k, ek⟩ := hb p hp
    obtain ⟨j, ej⟩ := hb q hq
    rw [ek, ej] at e
    have e : k = j := e
    subst e
    obtain ⟨k1, k2, _⟩ := first_spec ek
    obtain ⟨_, j2, _⟩ := first_spec ej
    have := starts_apart hp hq (hL _ (getD_mem k1)) k2 j2
    omega
  have := nodup_len' L.length _ hn (fun k hk => by
    obtain ⟨p, hp, rfl⟩ := List.mem_map.mp hk
    obtain ⟨k, ek⟩ := hb p hp
    rw [ek]
    exact (first_spec ek).1)
  rw [List.length_map] at this
  omega
end My
namespace My
/-! ### ideas by their masks -/
def grp (rs : List Nat) (m : Nat) : Nat := maskN (havingL rs m)
theorem grp_bit {rs : List Nat} {m i : Nat} : (grp rs m).testBit i = true ↔ i < rs.length ∧ m &&& rs.getD i 0 = m := by
  unfold grp
  rw [maskN_bit, decide_eq_true_eq, mem_having]
theorem grp_lt (rs : List Nat) (m : Nat) : grp rs m < 2 ^ rs.length := maskN_lt fun k hk => (mem_having.mp hk).1
theorem row_in {rs : List Nat} {r : Nat} (h : r ∈ rs) : ∃ i, i < rs.length ∧ rs.getD i 0 = r := by
  obtain ⟨i, hi, e⟩ := List.mem_iff_getElem.mp h
  exact ⟨i, hi, by rw [List.getD_eq_getElem?_getD, List.getElem?_eq_getElem hi]; exact e⟩
/-- the groups lie the other way round than the masks -/
theorem grp_within {rs : List Nat} {w m n : Nat} (hm : closedL rs w m = m) (hn : n < 2 ^ w) : grp rs m &&& grp rs n = grp rs m ↔ n &&& m = n := by
  constructor
  · intro h
    rw [within_iff] at h ⊢
    intro i hi
    rw [← hm, closed_bit]
    refine ⟨?_, fun r hr hw => ?_⟩
    · apply Nat.lt_of_not_le
      intro hle
      rw [Nat.testBit_lt_two_pow (Nat.lt_of_lt_of_le hn (Nat.pow_le_pow_right (by omega) hle))] at hi
      cases hi
    · obtain ⟨k, hk, e⟩ := row_in hr
      have := grp_bit.mp (h k (grp_bit.mpr ⟨hk, by rw [e]; exact hw⟩))
      rw [e] at this
      exact (within_iff _ _).mp this.2 i hi
  · intro h
    rw [within_iff]
    intro i hi
    rw [grp_bit] at hi ⊢
    exact ⟨hi.1, within_trans h hi.2⟩
/-- the things in both groups have both masks -/
theorem grp_and (rs : List Nat) (m n : Nat) : grp rs m &&& grp rs n = grp rs (m ||| n) := by
  apply Nat.eq_of_testBit_eq
  intro i
  rw [Nat.testBit_and, Bool.eq_iff_iff, Bool.and_eq_true, grp_bit, grp_bit, grp_bit]
  constructor
  · rintro ⟨⟨h1, h2⟩, _, h3⟩
    exact ⟨h1, or_within h2 h3⟩
  · rintro ⟨h1, h2⟩
    exact ⟨⟨h1, within_trans (or_holds_left m n) h2⟩, h1, within_trans (or_holds_right m n) h2⟩
theorem grp_closed {rs : List Nat} {w m : Nat} (hm : m < 2 ^ w) : grp rs (closedL rs w m) = grp rs m := by
  apply Nat.eq_of_testBit_eq
  intro i
  rw [Bool.eq_iff_iff, grp_bit, grp_bit]
  refine and_congr_right fun hi => ⟨fun h => within_trans (closed_holds hm) h, fun h => closed_row (getD_mem hi) h⟩
/-- what two closed sets have in common is closed -/
theorem closed_and {rs : List Nat} {w m n : Nat} (hm : closedL rs w m = m) (hn : closedL rs w n = n) (lm : m < 2 ^ w) : closedL rs w (m &&& n) = m &&& n := by
  have a1 : (m &&& n) &&& m = m &&& n := by
    rw [within_iff]; intro i hi; rw [Nat.testBit_and, Bool.and_eq_true] at hi; exact hi.1
  have a2 : (m &&& n) &&& n = m &&& n := by
    rw [within_iff]; intro i hi; rw [Nat.testBit_and, Bool.and_eq_true] at hi; exact hi.2
  have h1 := closed_mono (rs := rs) (w := w) a1
  have h2 := closed_mono (rs := rs) (w := w) a2
  rw [hm] at h1
  rw [hn] at h2
  refine within_antisymm ?_ (closed_holds (Nat.lt_of_le_of_lt Nat.and_le_left lm))
  rw [within_iff] at h1 h2 ⊢
  intro i hi
  rw [Nat.testBit_and, h1 i hi, h2 i hi]; rfl
theorem shared_grp (rs : List Nat) (w m : Nat) : sharedL rs w (onesN (grp rs m)) = closedL rs w m := rfl
/-- the first member of a set that is not empty -/
theorem ones_first {m : Nat} (h : m ≠ 0) : ∃ k, onesN m = k :: (onesN m).tail ∧ m.testBit k = true ∧ ∀ j, j < k → m.testBit j = false := by
  have hr : (onesN m).Pairwise (· < ·) := by
    unfold onesN
    exact List.Pairwise.sublist List.filter_sublist List.pairwise_lt_range
  cases e : onesN m with
  | nil =>
    exfalso
    apply h
    apply Nat.eq_of_testBit_eq
    intro i
    rw [Nat.zero_testBit]
    cases b : m.testBit i with
    | false => rfl
    | true =>
      have := mem_onesN.mpr b
      rw [e] at this
      exact nomatch this
  | cons k r =>
    refine ⟨k, rfl, mem_onesN.mp (by rw [e]; exact List.mem_cons_self), fun j hj => ?_⟩
    cases b : m.testBit j with
    | false => rfl
    | true =>
      have := mem_onesN.mpr b
      rw [e] at this hr
      rcases List.mem_cons.mp this with z | z
      · omega
      · have := (List.pairwise_cons.mp hr).1 j z
        omega
theorem ones_rising (m : Nat) : (onesN m).Pairwise (· < ·) := by
  unfold onesN
  exact List.Pairwise.sublist List.filter_sublist List.pairwise_lt_range
theorem ones_less {w m : Nat} : onesN (lessN (2 ^ w - 1) m) = (List.range w).filter fun i => !m.testBit i := by
  have h : lessN (2 ^ w - 1) m < 2 ^ w := by
    have := within_le (less_within (2 ^ w - 1) m)
    have := Nat.pow_pos (n := w) (show 0 < 2 by decide)
    omega
  rw [onesN_eq h]
  apply List.filter_congr
  intro i hi
  rw [less_bit, Nat.testBit_two_pow_sub_one, decide_eq_true (List.mem_range.mp hi), Bool.true_and]
end My
namespace My
/-- the first thing of a group that lacks a column -/
def Lack (rs : List Nat) (g k t : Nat) : Prop := t < rs.length ∧ g.testBit t = true ∧ (rs.getD t 0).testBit k = false ∧ ∀ j, j < t → ¬ (g.testBit j = true ∧ (rs.getD j 0).testBit k = false)
theorem pow_within {k r : Nat} : 2 ^ k &&& r = 2 ^ k ↔ r.testBit k = true := by
  rw [within_iff]
  constructor
  · intro h; exact h k (by rw [Nat.testBit_two_pow]; simp)
  · intro h i hi
    rw [Nat.testBit_two_pow, decide_eq_true_eq] at hi
    rw [← hi]; exact h
theorem lack_first {rs : List Nat} {w c k : Nat} (hk : k < w) (hc : closedL rs w c = c) (hb : c.testBit k = false) :
    ∃ t, onesN (lessN (grp rs c) (grp rs (2 ^ k))) = t :: (onesN (lessN (grp rs c) (grp rs (2 ^ k)))).tail ∧ Lack rs (grp rs c) k t := by
  have bit : ∀ t, (lessN (grp rs c) (grp rs (2 ^ k))).testBit t = true ↔ (grp rs c).testBit t = true ∧ (rs.getD t 0).testBit k = false := by
    intro t
    rw [less_bit, Bool.and_eq_true, Bool.not_eq_true', ← Bool.not_eq_true, grp_bit (m := 2 ^ k), pow_within]
    constructor
    · rintro ⟨h1, h2⟩
      refine ⟨h1, ?_⟩
      cases e : (rs.getD t 0).testBit k with
      | false => rfl
      | true => exact absurd ⟨(grp_bit.mp h1).1, e⟩ h2
    · rintro ⟨h1, h2⟩
      exact ⟨h1, fun z => by rw [h2] at z; exact nomatch z.2⟩
  have hne : lessN (grp rs c) (grp rs (2 ^ k)) ≠ 0 := by
    intro z
    have : c.testBit k = true := by
      rw [← hc, closed_bit]
      refine ⟨hk, fun r hr hw => ?_⟩
      obtain ⟨i, hi, e⟩ := row_in hr
      cases e2 : r.testBit k with
      | true => rfl
      | false =>
        have := (bit i).mpr ⟨grp_bit.mpr ⟨hi, by rw [e]; exact hw⟩, by rw [e]; exact e2⟩
        rw [z, Nat.zero_testBit] at this
        cases this
    rw [hb] at this
    cases this
  obtain ⟨t, h1, h2, h3⟩ := ones_first hne
  obtain ⟨b1, b2⟩ := (bit t).mp h2
  exact ⟨t, h1, (grp_bit.mp b1).1, b1, b2, fun j hj z => by
    have := (bit j).mpr z
    rw [h3 j hj] at this
    cases this⟩
/-- the first column of a set that a row lacks -/
def LackC (r m c : Nat) : Prop := m.testBit c = true ∧ r.testBit c = false ∧ ∀ j, j < c → ¬ (m.testBit j = true ∧ r.testBit j = false)
theorem lackC_first {r m : Nat} (h : ¬ m &&& r = m) : ∃ c, onesN (lessN m r) = c :: (onesN (lessN m r)).tail ∧ LackC r m c := by
  have hne : lessN m r ≠ 0 := by
    intro z
    apply h
    rw [within_iff]
    intro i hi
    cases e : r.testBit i with
    | true => rfl
    | false =>
      have : (lessN m r).testBit i = true := by rw [less_bit, hi, e]; rfl
      rw [z, Nat.zero_testBit] at this
      cases this
  obtain ⟨c, h1, h2, h3⟩ := ones_first hne
  rw [less_bit, Bool.and_eq_true, Bool.not_eq_true'] at h2
  exact ⟨c, h1, h2.1, h2.2, fun j hj z => by
    have := h3 j hj
    rw [less_bit, z.1, z.2] at this
    cases this⟩
end My
namespace My
/-! ### which lie right above which -/
section
variable {R : Nat → Nat → Bool} {n : Nat}
def cov (R : Nat → Nat → Bool) (low h : Nat) : Bool := R low h && !(List.range low).any fun mid => R low mid && R mid h
def covL (R : Nat → Nat → Bool) (low : Nat) : List Nat := (List.range low).filter (cov R low)
theorem cov_iff {low h : Nat} : cov R low h = true ↔ R low h = true ∧ ∀ mid, mid < low → ¬ (R low mid = true ∧ R mid h = true) := by
  unfold cov
  rw [Bool.and_eq_true, Bool.not_eq_true', ← Bool.not_eq_true, List.any_eq_true]
  refine and_congr_right fun _ => ⟨fun h mid hm z => h ⟨mid, List.mem_range.mpr hm, by rw [z.1, z.2]; rfl⟩, ?_⟩
  rintro h ⟨mid, hm, z⟩
  rw [Bool.and_eq_true] at z
  exact h mid (List.mem_range.mp hm) z
theorem mem_covL {low h : Nat} : h ∈ covL R low ↔ h < low ∧ cov R low h = true := by
  unfold covL
  rw [List.mem_filter, List.mem_range]
theorem covL_rising (low : Nat) : (covL R low).Pairwise (· < ·) := List.Pairwise.sublist List.filter_sublist List.pairwise_lt_range
/-- the greatest number below a bound -/
theorem greatest {p : Nat → Prop} [DecidablePred p] : ∀ {k : Nat}, (∃ i, i < k ∧ p i) → ∃ i, i < k ∧ p i ∧ ∀ j, j < k → p j → j ≤ i
  | 0, ⟨i, h, _⟩ => absurd h (by omega)
  | k + 1, ⟨i, h, hp⟩ => by
    by_cases e : p k
    · exact ⟨k, by omega, e, fun j hj _ => by omega⟩
    · have hik : i < k := by
        have : i ≠ k := fun z => e (z ▸ hp)
        omega
      obtain ⟨m, h1, h2, h3⟩ := greatest (k := k) ⟨i, hik, hp⟩
      refine ⟨m, by omega, h2, fun j hj hpj => ?_⟩
      have : j ≠ k := fun z => e (z ▸ hpj)
      exact h3 j (by omega) hpj
/-- what lies above is reached -/
theorem reach (hA : ∀ i j, i < n → j < n → R i j = true → j < i) (hT : ∀ i j k, i < n → j < n → k < n → R i j = true → R j k = true → R i k = true) {low high : Nat} (hl : low < n) (hh : high < n) (h : R low high = true) :
    ∃ k ∈ covL R low, k = high ∨ R k high = true := by
  have hlt := hA low high hl hh h
  obtain ⟨m, h1, ⟨h2, h3⟩, h4⟩ := greatest (p := fun m => R low m = true ∧ (m = high ∨ R m high = true)) (k := low) ⟨high, hlt, h, .inl rfl⟩
  refine ⟨m, mem_covL.mpr ⟨h1, cov_iff.mpr ⟨h2, ?_⟩⟩, h3⟩
  rintro mid hm ⟨z1, z2⟩
  have hmn : mid < n := by omega
  have hmm : m < n := by omega
  have hlt2 := hA mid m hmn hmm z2
  have : R mid high = true := by
    rcases h3 with e | e
    · rw [← e]; exact z2
    · exact hT mid m high hmn hmm hh z2 e
  have := h4 mid hm ⟨z1, .inr this⟩
  omega
/-- chosen going back from low -/
def raAcc (R : Nat → Nat → Bool) (low : Nat) : Nat → List Nat
  | 0 => []
  | i + 1 => if (R low (low - 1 - i) && !(raAcc R low i).any fun p => R p (low - 1 - i)) = true then raAcc R low i ++ [low - 1 - i] else raAcc R low i
theorem raAcc_succ (low i : Nat) : raAcc R low (i + 1) = if (R low (low - 1 - i) && !(raAcc R low i).any fun p => R p (low - 1 - i)) = true then raAcc R low i ++ [low - 1 - i] else raAcc R low i := rfl
theorem ra_mem (hA : ∀ i j, i < n → j < n → R i j = true → j < i) (hT : ∀ i j k, i < n → j < n → k < n → R i j = true → R j k = true → R i k = true) {low : Nat} (hl : low < n) :
    ∀ {i : Nat}, i ≤ low → ∀ h, h ∈ raAcc R low i ↔ low - i ≤ h ∧ h < low ∧ cov R low h = true
  | 0, _, h => by
    unfold raAcc
    constructor
    · intro z; exact nomatch z
    · rintro ⟨h1, h2, _⟩; omega
  | i + 1, hi, h => by
    have ih := ra_mem hA hT hl (i := i) (by omega)
    have hx : low - 1 - i < low := by omega
    have key : (R low (low - 1 - i) && !(raAcc R low i).any fun p => R p (low - 1 - i)) = true ↔ cov R low (low - 1 - i) = true := by
      rw [Bool.and_eq_true, cov_iff, Bool.not_eq_true', ← Bool.not_eq_true, List.any_eq_true]
      refine and_congr_right fun hr => ⟨fun z mid hm ⟨z1, z2⟩ => ?_, fun z => ?_⟩
      · -- the greatest such mid is one of the chosen
        obtain ⟨m, h1, ⟨h2, h3⟩, h4⟩ := greatest (p := fun m => R low m = true ∧ R m (low - 1 - i) = true) (k := low) ⟨mid, hm, z1, z2⟩
        have hlt := hA m (low - 1 - i) (by omega) (by omega) h3
        refine z ⟨m, (ih m).mpr ⟨by omega, h1, cov_iff.mpr ⟨h2, ?_⟩⟩, h3⟩
        rintro m2 hm2 ⟨w1, w2⟩
        have hlt2 := hA m2 m (by omega) (by omega) w2
        have := h4 m2 hm2 ⟨w1, hT m2 m (low - 1 - i) (by omega) (by omega) (by omega) w2 h3⟩
        omega
      · rintro ⟨p, hp, hr2⟩
        obtain ⟨_, p2, p3⟩ := (ih p).mp hp
        exact z p p2 ⟨(cov_iff.mp p3).1, hr2⟩
    rw [raAcc_succ]
    split
    · rename_i hc
      rw [List.mem_append, ih, List.mem_singleton]
      constructor
      · rintro (⟨a, b, c⟩ | rfl)
        · exact ⟨by omega, b, c⟩
        · exact ⟨by omega, hx, key.mp hc⟩
      · rintro ⟨a, b, c⟩
        by_cases e : h = low - 1 - i
        · exact .inr e
        · exact .inl ⟨by omega, b, c⟩
    · rename_i hc
      rw [ih]
      constructor
      · rintro ⟨a, b, c⟩
        exact ⟨by omega, b, c⟩
      · rintro ⟨a, b, c⟩
        by_cases e : h = low - 1 - i
        · rw [e] at c
          exact absurd (key.mpr c) hc
        · exact ⟨by omega, b, c⟩
theorem ra_all (hA : ∀ i j, i < n → j < n → R i j = true → j < i) (hT : ∀ i j k, i < n → j < n → k < n → R i j = true → R j k = true → R i k = true) {low : Nat} (hl : low < n) (h : Nat) : h ∈ raAcc R low low ↔ h ∈ covL R low := by
  rw [ra_mem hA hT hl (Nat.le_refl _), mem_covL]
  constructor
  · rintro ⟨_, b, c⟩; exact ⟨b, c⟩
  · rintro ⟨b, c⟩; exact ⟨by omega, b, c⟩
theorem ra_down {low : Nat} : ∀ {i : Nat}, i ≤ low → (raAcc R low i).Pairwise (· > ·) ∧ ∀ h ∈ raAcc R low i, low - i ≤ h ∧ h < low
  | 0, _ => ⟨List.Pairwise.nil, fun _ h => nomatch h⟩
  | i + 1, hi => by
    obtain ⟨h1, h2⟩ := ra_down (low := low) (i := i) (by omega)
    rw [raAcc_succ]
    split
    · refine ⟨List.pairwise_append.mpr ⟨h1, by simp, fun a ha b hb => ?_⟩, fun h hh => ?_⟩
      · have : b = low - 1 - i := by simpa using hb
        have := h2 a ha
        omega
      · rcases List.mem_append.mp hh with z | z
        · have := h2 h z; omega
        · have : h = low - 1 - i := by simpa using z
          omega
    · exact ⟨h1, fun h hh => by have := h2 h hh; omega⟩
/-- all pairs -/
def covTo (R : Nat → Nat → Bool) : Nat → List (Nat × Nat)
  | 0 => []
  | k + 1 => covTo R k ++ (covL R k).map fun h => (k, h)
theorem mem_covTo : ∀ {k : Nat} {p : Nat × Nat}, p ∈ covTo R k ↔ p.1 < k ∧ p.2 ∈ covL R p.1
  | 0, p => by
    constructor
    · intro h; exact nomatch h
    · rintro ⟨h, _⟩; omega
  | k + 1, p => by
    show p ∈ covTo R k ++ _ ↔ _
    rw [List.mem_append, mem_covTo (k := k), List.mem_map]
    constructor
    · rintro (⟨a, b⟩ | ⟨h, hh, rfl⟩)
      · exact ⟨by omega, b⟩
      · exact ⟨by show k < k + 1; omega, hh⟩
    · rintro ⟨a, b⟩
      by_cases e : p.1 = k
      · exact .inr ⟨p.2, by rw [← e]; exact b, Prod.ext e.symm rfl⟩
      · exact .inl ⟨by omega, b⟩
def LexLt (p q : Nat × Nat) : Prop := p.1 < q.1 ∨ p.1 = q.1 ∧ p.2 < q.2
theorem covTo_lex : ∀ {k : Nat}, (covTo R k).Pairwise LexLt
  | 0 => List.Pairwise.nil
  | k + 1 => by
    show (covTo R k ++ _).Pairwise LexLt
    rw [List.pairwise_append]
    refine ⟨covTo_lex, ?_, fun a ha b hb => ?_⟩
    · rw [List.pairwise_map]
      exact (covL_rising k).imp fun h => .inr ⟨rfl, h⟩
    · obtain ⟨h, _, rfl⟩ := List.mem_map.mp hb
      exact .inl (mem_covTo.mp ha).1
theorem covTo_at : ∀ {k i : Nat}, ((covTo R k).filter fun p => decide (p.1 = i)).map (·.2) = if i < k then covL R i else []
  | 0, i => by simp [covTo]
  | k + 1, i => by
    show ((covTo R k ++ _).filter _).map _ = _
    rw [List.filter_append, List.map_append, covTo_at (k := k)]
    by_cases e : i = k
    · subst e
      rw [if_neg (by omega), if_pos (by omega), List.nil_append, List.filter_eq_self.mpr, List.map_map]
      · conv => rhs; rw [← List.map_id (covL R i)]
        rfl
      · intro p hp
        obtain ⟨h, _, rfl⟩ := List.mem_map.mp hp
        simp
    · rw [List.filter_eq_nil_iff.mpr]
      · by_cases h : i < k
        · rw [if_pos h, if_pos (by omega)]; simp
        · rw [if_neg h, if_neg (by omega)]; simp
      · intro p hp
        obtain ⟨h, _, rfl⟩ := List.mem_map.mp hp
        simp
        omega
theorem covL_len (low : Nat) : (covL R low).length ≤ low := Nat.le_trans (List.length_filter_le _ _) (by rw [List.length_range]; exact Nat.le_refl _)
theorem covTo_len : ∀ (k : Nat), (covTo R k).length ≤ k * k
  | 0 => Nat.le_refl _
  | k + 1 => by
    show (covTo R k ++ _).length ≤ _
    rw [List.length_append, List.length_map]
    have h1 := covTo_len k
    have h2 := covL_len (R := R) k
    have e : (k + 1) * (k + 1) = k * k + k + (k + 1) := by rw [Nat.add_mul, Nat.mul_add]; omega
    omega
end
/-! ### ideas by their masks' places -/
def Rm (ms : List Nat) (i j : Nat) : Bool := !decide (ms.getD i 0 = ms.getD j 0) && decide (ms.getD j 0 &&& ms.getD i 0 = ms.getD j 0)
theorem Rm_iff {ms : List Nat} {i j : Nat} : Rm ms i j = true ↔ ms.getD i 0 ≠ ms.getD j 0 ∧ ms.getD j 0 &&& ms.getD i 0 = ms.getD j 0 := by
  unfold Rm
  rw [Bool.and_eq_true, Bool.not_eq_true', decide_eq_false_iff_not, decide_eq_true_eq]
theorem rise_at {ms : List Nat} (h : ms.Pairwise (· < ·)) {i j : Nat} (hij : i < j) (hj : j < ms.length) : ms.getD i 0 < ms.getD j 0 := by
  rw [List.getD_eq_getElem?_getD, List.getD_eq_getElem?_getD, List.getElem?_eq_getElem hj, List.getElem?_eq_getElem (by omega)]
  exact List.pairwise_iff_getElem.mp h i j (by omega) hj hij
theorem Rm_lt {ms : List Nat} (h : ms.Pairwise (· < ·)) : ∀ i j, i < ms.length → j < ms.length → Rm ms i j = true → j < i := by
  intro i j hi hj hr
  obtain ⟨h1, h2⟩ := Rm_iff.mp hr
  have h3 := within_le h2
  apply Nat.lt_of_not_le
  intro hle
  by_cases e : i = j
  · rw [e] at h1; exact h1 rfl
  · have := rise_at h (show i < j by omega) hj
    omega
theorem Rm_trans {ms : List Nat} : ∀ i j k, i < ms.length → j < ms.length → k < ms.length → Rm ms i j = true → Rm ms j k = true → Rm ms i k = true := by
  intro i j k _ _ _ h1 h2
  obtain ⟨a1, a2⟩ := Rm_iff.mp h1
  obtain ⟨b1, b2⟩ := Rm_iff.mp h2
  refine Rm_iff.mpr ⟨fun e => ?_, within_trans b2 a2⟩
  rw [← e] at b2
  exact a1 (within_antisymm b2 a2)
end My
namespace L2
open PySem PySem.Spec PyProof.Rows
/-! ### zip(a list, a list), unpacked by the target -/
def Itz (K : PySem.W.Frag) (a b : Addr) : It :=
  ⟨fun i H => ∃ xs ys x y, SqL K H a xs ∧ SqL K H b ys ∧ xs[i]? = some x ∧ ys[i]? = some y,
   fun i H x H' => ∃ t u v, x = .ref t ∧ H t = none ∧ (∀ xs, SqL K H a xs → xs[i]? = some u) ∧ (∀ ys, SqL K H b ys → ys[i]? = some v) ∧ H' = upd H t (.tup [u, v]),
   fun i H => ∃ xs ys, SqL K H a xs ∧ SqL K H b ys ∧ (xs.length ≤ i ∨ ys.length ≤ i)⟩
theorem Inv.turned4 {X : Cx} {pins : List (Addr × Obj)} {σ : St} {H : Hp} {s : Shared} {h' : Heap} {t' : Nat} {ch : List Addr} (I : Inv X pins σ H s) (k : ∀ b o, b ∉ ch → s.heap.get? b = some o → h'.get? b = some o) (hf : ∀ b ∈ ch, FpOk X pins H b) : Inv X pins σ H { s with heap := h', toks := t' } := by
  have nit : ∀ b u, H b = some u → b ∉ ch := fun b u e z => by rw [(hf b z).1] at e; cases e
  refine I.step (g' := s.gens) (d' := s.drawn) (ch := ch) (fun b hb => ?_) (fun b o _ _ hc e _ => k b o hc e) (fun b o _ _ hc e _ => ⟨o.slots, k b o hc e⟩) (fun _ _ _ _ n => n)
    (fun b o hc e => ⟨o, k b o hc e⟩) (fun _ _ e => e) (fun _ _ _ e => e) (fun b ps e => ⟨#[], by rw [e]; simp⟩) (fun m hm => ?_) (fun b u e => ?_) I.bare
  · obtain ⟨f0, f1, f2, f3, f4, f5⟩ := hf b hb
    exact ⟨f3, f1, f4, f5⟩
  · obtain ⟨o, es, ep, ho, r⟩ := hm
    exact ⟨o, es, ep, k _ o (fun z => (hf _ z).2.1 rfl) ho, r⟩
  · refine (I.hok b u e).stay (fun c v hc' z => k c v ?_ z) (fun c z => z) fun c ys z => z
    rcases hc' with z | z
    · rw [z]; exact nit b u e
    · exact nit c _ z
theorem turn_zip {P : Program} {w : World} {K : PySem.W.Frag} {elts : List Expr} {k : Nat} {pos : Pos} (a b z TI TO i1 i2 : Addr) (D : ZipApart z TI TO i1 i2 a b) :
    Turn P w K (.Tuple elts k pos) (Itz K a b) [z, TI, TO, i1, i2] z (fun i h => IsZip h z TI TO .none ∧ IsPair h TI (.ref i1) (.ref i2) ∧ (∃ u v, IsPair h TO u v) ∧ h.IsListIter i1 a i ∧ h.IsListIter i2 b i) where
  mem := by simp
  obj := fun i h st c hc => by
    obtain ⟨hz, hTI, ⟨u, v, hTO⟩, h1, h2⟩ := st
    have hc : c = z ∨ c = TI ∨ c = TO ∨ c = i1 ∨ c = i2 := by simpa using hc
    rcases hc with rfl | rfl | rfl | rfl | rfl
    · exact ⟨_, hz, fun v z => by cases (show Data.fields _ = Data.cell v from z)⟩
    · exact ⟨_, hTI, fun v z => by cases (show Data.seq _ _ = Data.cell v from z)⟩
    · exact ⟨_, hTO, fun v z => by cases (show Data.seq _ _ = Data.cell v from z)⟩
    · obtain ⟨o, e, c, d⟩ := h1
      exact ⟨o, e, fun v z => by rw [d] at z; cases z⟩
    · obtain ⟨o, e, c, d⟩ := h2
      exact ⟨o, e, fun v z => by rw [d] at z; cases z⟩
  keep := fun i h h' st kp => by
    obtain ⟨hz, hTI, ⟨u, v, hTO⟩, h1, h2⟩ := st
    exact ⟨kp z (by simp) _ hz, kp TI (by simp) _ hTI, ⟨u, v, kp TO (by simp) _ hTO⟩, h1.at fun o q => kp i1 (by simp) o q, h2.at fun o q => kp i2 (by simp) o q⟩
  item := by
    intro X hP hw hK hc i pins s σ H E I hf st hg
    subst hP hw hK
    obtain ⟨xs, ys, x, y, hqa, hqb, hx, hy⟩ := hg
    obtain ⟨hz, hTI, ⟨u0, v0, hTO⟩, h1, h2⟩ := st
    obtain ⟨itsa, rva, pa, hza⟩ := I.list hqa
    obtain ⟨itsb, rvb, pb, hzb⟩ := I.list hqb
    obtain ⟨u, hu, ru⟩ := rva.get hx
    obtain ⟨v, hv, rv⟩ := rvb.get hy
    have hfr : ∀ c ∈ [z, TI, TO, i1, i2], c < s.heap.objs.size := fun c hc => by
      have hc : c = z ∨ c = TI ∨ c = TO ∨ c = i1 ∨ c = i2 := by simpa using hc
      rcases hc with rfl | rfl | rfl | rfl | rfl
      · exact Heap.lt_size hz
      · exact Heap.lt_size hTI
      · exact Heap.lt_size hTO
      · obtain ⟨_, x, _⟩ := h1; exact Heap.lt_size x
      · obtain ⟨_, x, _⟩ := h2; exact Heap.lt_size x
    have hzl := hfr z (by simp)
    refine wpAny_pyNext_zip_item D hz hTI hTO h1 h2 pa.isList pb.isList (x := u) (y := v) (by simpa using hu) (by simpa using hv) fun h3 hz3 hTO3 h13 h23 hT hsz kp => ?_
    refine ⟨_, rfl, wpAny_letOwnedTupleGo_zip hz3 fun h4 hz4 sb4 => ?_⟩
    have sb4 : Heap.SameBut z h3 h4 := sb4
    have kp4 : ∀ c o, c ∉ [z, TO, i1, i2] → s.heap.get? c = some o → h4.get? c = some o := fun c o hc q => by
      have hc : c ≠ z ∧ c ≠ TO ∧ c ≠ i1 ∧ c ≠ i2 := by simpa using hc
      exact (sb4.2 c hc.1).trans (kp c o hc.1 hc.2.1 hc.2.2.1 hc.2.2.2 q)
    have hT4 : h4.get? s.heap.objs.size = some { cls := .type "tuple", data := .seq #[u, v] } := (sb4.2 _ (Nat.ne_of_gt hzl)).trans hT
    have hn : H s.heap.objs.size = none := I.hok.fresh (Nat.le_refl _)
    have hsub : ∀ c ∈ [z, TO, i1, i2], c ∈ [z, TI, TO, i1, i2] := fun c hc => by
      have hc : c = z ∨ c = TO ∨ c = i1 ∨ c = i2 := by simpa using hc
      rcases hc with rfl | rfl | rfl | rfl <;> simp
    have hf4 : ∀ c ∈ [z, TO, i1, i2], FpOk X pins H c := fun c hc => hf c (hsub c hc)
    have nf : ∀ c u, H c = some u → c ∉ [z, TO, i1, i2] := fun c u q hc => by rw [(hf4 c hc).1] at q; cases q
    have I2 : Inv X pins σ (upd H s.heap.objs.size (.tup [x, y])) { s with heap := h4 } := by
      refine I.step (g' := s.gens) (d' := s.drawn) (t' := s.toks) (ch := [z, TO, i1, i2]) (fun c hc => ?_) (fun c o _ _ hc q _ => kp4 c o hc q) (fun c o _ _ hc q _ => ⟨o.slots, kp4 c o hc q⟩) (fun c o hc q n => ?_) (fun c o hc q => ⟨o, kp4 c o hc q⟩)
        (fun c xs q => ?_) (fun c o u q => ?_) (fun c ps q => ⟨#[], ?_⟩) (fun m hm => ?_) (fun c u' q => ?_) I.bare
      · obtain ⟨f0, f1, f2, f3, f4, f5⟩ := hf4 c hc
        exact ⟨f3, f1, f4, f5⟩
      · rw [upd_ne (Nat.ne_of_lt (Heap.lt_size q))]; exact n
      · rw [upd_ne (ne_of_none q hn)]; exact q
      · rw [upd_ne (ne_of_none q hn)]; exact q
      · rw [upd_ne (ne_of_none q hn), q]; simp
      · obtain ⟨o, es, ep, q, r⟩ := hm
        exact ⟨o, es, ep, kp4 _ o (fun z => (hf4 _ z).2.1 rfl) q, r⟩
      · by_cases hb : c = s.heap.objs.size
        · subst hb
          rw [upd_same] at q
          cases q
          have hl2 : ([x, y] : List V).length ≤ sizeLine := by show 2 ≤ sizeLine; decide
          exact ⟨hl2, [u, v], .cons ru (.cons rv .nil), ⟨_, hT4, rfl, _, rfl⟩⟩
        · rw [upd_ne hb] at q
          refine (I.hok c u' q).stay (fun d v hc' z => kp4 d v ?_ z) (fun d z => by rw [upd_ne (ne_of_none z hn)]; exact z) fun d ys z => by rw [upd_ne (ne_of_none z hn)]; exact z
          rcases hc' with z | z
          · rw [z]; exact nf c u' q
          · exact nf d _ z
    refine ⟨.ref s.heap.objs.size, _, I2, rfl, ⟨_, x, y, rfl, hn, fun ys hy => by rw [I.list_inj hy hqa]; exact hx, fun ys' hy' => by rw [I.list_inj hy' hqb]; exact hy, rfl⟩, ⟨hz4, ?_, ⟨u, v, ?_⟩, ?_, ?_⟩, fun c hc => ?_⟩
    · exact (sb4.2 _ D.TIz).trans (kp _ _ D.TIz D.TITO D.TIi1 D.TIi2 hTI)
    · exact (sb4.2 _ D.TOz).trans hTO3
    · exact h13.at fun o q => (sb4.2 _ D.i1z).trans q
    · exact h23.at fun o q => (sb4.2 _ D.i2z).trans q
    · rw [upd_ne (Nat.ne_of_lt (hfr c hc))]; exact (hf c hc).1
  done := by
    intro X hP hw hK hc i pins s σ H E I hf st hg
    subst hP hw hK
    obtain ⟨xs, ys, hqa, hqb, hx⟩ := hg
    obtain ⟨hz, hTI, ⟨u0, v0, hTO⟩, h1, h2⟩ := st
    obtain ⟨itsa, rva, pa, hza⟩ := I.list hqa
    obtain ⟨itsb, rvb, pb, hzb⟩ := I.list hqb
    have la := rva.length
    have lb := rvb.length
    refine wpAny_pyNext_zip_end (I.ok.hd hc) D hz hTI hTO h1 h2 pa.isList pb.isList ?_ fun h' kp => ⟨rfl, I.turned4 (t' := s.toks) (ch := [z, TO, i1, i2]) (fun c o hc q => ?_) fun c hc => hf c ?_⟩
    · rcases hx with z | z
      · exact .inl (by simp; omega)
      · exact .inr (by simp; omega)
    · have hc : c ≠ z ∧ c ≠ TO ∧ c ≠ i1 ∧ c ≠ i2 := by simpa using hc
      exact kp c o hc.1 hc.2.1 hc.2.2.1 hc.2.2.2 q
    · have hc : c = z ∨ c = TO ∨ c = i1 ∨ c = i2 := by simpa using hc
      rcases hc with rfl | rfl | rfl | rfl <;> simp
  self := fun A i s Q E st h => wpAny_pyIter_zip st.1 h
section
variable {X : Cx} {K : PySem.W.Frag}
def iZip (K : PySem.W.Frag) (ta : TA) : TI := fun σ H R => ta σ H fun vs H1 => ∃ a b, vs = [.ref a, .ref b] ∧ (∃ xs, SqL K H1 a xs) ∧ (∃ ys, SqL K H1 b ys) ∧ R (Itz K a b) H1
theorem pi_zip {a b : Expr} {ta : TA} {p pos tpos : Pos} {elts : List Expr} {k : Nat} (hg : Gl X "zip") (hm : X.mg "zip" = none) (ha : PA X [a, b] ta) (hs : starEach [a, b] X.env = [(false, eval a X.env), (false, eval b X.env)] := by rfl) (hs2 : starEach [b] X.env = [(false, eval b X.env)] := by rfl) :
    PI X (.Tuple elts k tpos) (.Call (.Name "zip" p) [a, b] [] pos) (iZip X.K ta) := by
  intro pins s σ H R I h
  refine Call_ (ld_blt I hg hm boot_zip (PyProof.Rows.callWith_type1 (thn (ha pos pins s σ H _ I h) fun us s1 ⟨vs, H1, I1, r1, q1⟩ => ?_) (by rw [hs, hs2]) (by rw [hs2]; rfl)))
  obtain ⟨a, b, e, ⟨xs, hqa⟩, ⟨ys, hqb⟩, q⟩ := q1
  subst e
  cases r1 with
  | cons r rr =>
    cases rr with
    | cons r' rr =>
      cases rr
      cases r
      cases r'
      obtain ⟨itsa, rva, pa, hza⟩ := I1.list hqa
      obtain ⟨itsb, rvb, pb, hzb⟩ := I1.list hqb
      have la : a < s1.heap.objs.size := by obtain ⟨_, e, _⟩ := pa.isList; exact Heap.lt_size e
      have lb : b < s1.heap.objs.size := by obtain ⟨_, e, _⟩ := pb.isList; exact Heap.lt_size e
      refine call_zip_2 pa.isList pb.isList fun h' hz hTI hTO h1 h2 hsz kp => ?_
      have I2 : Inv X pins σ H1 { s1 with heap := h' } := I1.kept (t' := s1.toks) kp
      refine wpAny_pyIter_zip hz ?_
      refine ⟨s1.heap.objs.size + 4, [s1.heap.objs.size + 4, s1.heap.objs.size + 2, s1.heap.objs.size + 3, s1.heap.objs.size, s1.heap.objs.size + 1], _, _, H1, rfl, I2, turn_zip a b _ _ _ _ _ (zipApart_new la lb), ⟨hz, hTI, ⟨_, _, hTO⟩, h1, h2⟩, fun c hc => ?_, q⟩
      have hc : c = s1.heap.objs.size + 4 ∨ c = s1.heap.objs.size + 2 ∨ c = s1.heap.objs.size + 3 ∨ c = s1.heap.objs.size ∨ c = s1.heap.objs.size + 1 := by simpa using hc
      have hle : s1.heap.objs.size ≤ c := by rcases hc with z | z | z | z | z <;> rw [z] <;> first | exact Nat.le_add_right _ _ | exact Nat.le_refl _
      exact I1.fpOk hle (I1.hok.fresh hle)
theorem pi_zipK {a b : Expr} {ta : TA} {p pos tpos : Pos} {elts : List Expr} {k : Nat} (h : X.K = K) (hg : Gl X "zip") (hm : X.mg "zip" = none) (ha : PA X [a, b] ta) (hs : starEach [a, b] X.env = [(false, eval a X.env), (false, eval b X.env)] := by rfl) (hs2 : starEach [b] X.env = [(false, eval b X.env)] := by rfl) :
    PI X (.Tuple elts k tpos) (.Call (.Name "zip" p) [a, b] [] pos) (iZip K ta) := h ▸ pi_zip hg hm ha hs hs2
end
/-- over zip(two lists of one length that the body leaves as they are); the turn's tuple stands at t -/
theorem for_zip {K : PySem.W.Frag} {a b : Addr} {xs ys : List V} {g : TG} {tb : TS} {D : Ends} {σ : St} {H : Hp} (he : xs.length = ys.length) (Pv : Nat → St → Hp → Prop) (h0 : Pv 0 σ H) (hl : ∀ i σ H, i ≤ xs.length → Pv i σ H → SqL K H a xs ∧ SqL K H b ys)
    (hs : ∀ i x y σ H t, xs[i]? = some x → ys[i]? = some y → Pv i σ H → H t = none → g (.ref t) σ (upd H t (.tup [x, y])) fun σ2 H2 => tb { D with nx := Pv (i + 1), ct := Pv (i + 1), bk := D.nx } σ2 H2) (hd : ∀ σ H, Pv xs.length σ H → D.nx σ H) :
    ∃ W : Nat → Nat → St → Hp → Prop, (∃ m, W 0 m σ H) ∧ ∀ i m σ H, W i m σ H →
      ((Itz K a b).stop i H ∧ D.nx σ H) ∨ ((Itz K a b).go i H ∧ ∃ N : St → Hp → Prop, (∀ σ' H', N σ' H' → ∃ m', m' < m ∧ W (i + 1) m' σ' H') ∧ ∀ x H', (Itz K a b).yld i H x H' → g x σ H' fun σ2 H2 => tb { D with nx := N, ct := N, bk := D.nx } σ2 H2) := by
  refine ⟨fun i m σ H => m = xs.length - i ∧ i ≤ xs.length ∧ Pv i σ H, ⟨xs.length, by simp, Nat.zero_le _, h0⟩, ?_⟩
  rintro i m σ H ⟨rfl, hi, p⟩
  obtain ⟨qa, qb⟩ := hl i σ H hi p
  by_cases hlt : i < xs.length
  · refine .inr ⟨⟨xs, ys, xs[i], ys[i]'(by omega), qa, qb, by simp [hlt], by simp⟩, Pv (i + 1), fun σ' H' p' => ⟨xs.length - (i + 1), by omega, rfl, hlt, p'⟩, fun x H' y => ?_⟩
    obtain ⟨t, u, v, rfl, hn, hu, hv, rfl⟩ := y
    exact hs i u v σ H t (hu xs qa) (hv ys qb) p hn
  · have e : i = xs.length := by omega
    subst e
    exact .inl ⟨⟨xs, ys, qa, qb, .inl (Nat.le_refl _)⟩, hd σ H p⟩
section
variable {K : PySem.W.Frag} {m : Nat} {g : TG} {tc : TT} {te : TE} {σ : St} {H : Hp} {Q : VK}
theorem comp_zip {a b : Addr} {xs zs : List V} (he : xs.length = zs.length) (Pv : Nat → List V → Hp → Prop) (hz : xs.length < sizeLine) (h0 : Pv 0 [] H) (hlen : ∀ i ys H, i ≤ xs.length → Pv i ys H → ys.length ≤ i) (hl : ∀ i ys H, i ≤ xs.length → Pv i ys H → SqL K H a xs ∧ SqL K H b zs)
    (hs : ∀ i x z ys H t, xs[i]? = some x → zs[i]? = some z → Pv i ys H → H t = none → g (.ref t) (List.replicate m none ++ σ) (upd H t (.tup [x, z])) fun σ2 H2 => σ2.drop m = σ ∧ tc σ2 H2 fun b H3 => if b = true then te σ2 H3 fun y H4 => Pv (i + 1) (ys ++ [y]) H4 else Pv (i + 1) ys H3)
    (hd : ∀ ys H, Pv xs.length ys H → ∀ p, H p = none → Q (.ref p) (upd H p (.lst ys))) : CompW (Itz K a b) m g tc te σ H Q := by
  refine ⟨fun i n ys H => n = xs.length - i ∧ i ≤ xs.length ∧ Pv i ys H, ⟨xs.length, by simp, Nat.zero_le _, h0⟩, ?_⟩
  rintro i n ys H ⟨rfl, hi, p⟩
  obtain ⟨qa, qb⟩ := hl i ys H hi p
  have hy := hlen i ys H hi p
  by_cases hlt : i < xs.length
  · refine .inr ⟨⟨xs, zs, xs[i], zs[i]'(by omega), qa, qb, by simp [hlt], by simp⟩, by omega, Pv (i + 1), fun ys' H' p' => ⟨xs.length - (i + 1), by omega, rfl, hlt, p'⟩, fun x H' y => ?_⟩
    obtain ⟨t, u, v, rfl, hn, hu, hv, rfl⟩ := y
    exact hs i u v ys H t (hu xs qa) (hv zs qb) p hn
  · have e : i = xs.length := by omega
    subst e
    exact .inl ⟨⟨xs, zs, qa, qb, .inl (Nat.le_refl _)⟩, by omega, hd ys H p⟩
end
section
variable {X : Cx} {K : PySem.W.Frag}
theorem ints_of11 : ∀ {ns : List Int} {us : List Value}, Vals (ns.map V.int) us → IntsAre us ns
  | [], _, .nil => .nil
  | n :: ns, _, .cons r t => by
    obtain ⟨k, rfl⟩ := (show ∃ k, _ = Value.int n k from r)
    exact .cons n k (ints_of11 t)
/-- sum(xs) -/
theorem call_sum1K (hK : X.K = K) (hc : X.calm = true) : CallR X (.builtin "sum") (fun xs H Q => ∃ (p : Addr) (ns : List Int), xs = [.ref p] ∧ SqL K H p (ns.map V.int) ∧ Q (.int ns.sum) H) := by
  subst hK
  intro pins s σ H xs us Q I r h
  obtain ⟨p, ns, rfl, hp, q⟩ := h
  obtain ⟨u, rfl, rx⟩ := vals1 r
  cases rx
  obtain ⟨its, rel, pl, hz⟩ := I.list hp
  have hi := ints_of11 rel
  obtain ⟨xs, e⟩ := hi.allInts.items
  have hns : ns = xs.toList.map (·.1) := by rw [← hi.numsOf, ← nums_intItems, ← e]
  have hl := pl.isList
  rw [e] at hl
  refine sum_intListG (I.ok.hd hc) hl fun h tk t' kp => ?_
  refine ⟨.int ns.sum, H, I.kept kp, ⟨t', ?_⟩, q⟩
  rw [preSum_eq, List.take_of_length_le (by simp), hns]
end
/-! ### == and != of lists of lists -/
def EqJ (K : PySem.W.Frag) (H : Hp) (x y : V) : Prop :=
  EqI K H x y true ∨ ∃ p q xs ys, x = .ref p ∧ y = .ref q ∧ SqL K H p xs ∧ SqL K H q ys ∧ xs.length = ys.length ∧ ∀ j (h1 : j < xs.length) (h2 : j < ys.length), EqI K H xs[j] ys[j] true
section
variable {X : Cx} {K : PySem.W.Frag}
theorem EqJ.at {pins : List (Addr × Obj)} {σ : St} {H : Hp} {s : Shared} {A : Around} {x y : V} {u v : Value} (I : Inv X pins σ H s) (hu : A.units + 80 < cLine) (rx : RelV x u) (ry : RelV y v) (h : EqJ X.K H x y) : SeqAt.EqAt A s u v true := by
  rcases h with h | ⟨p, q, xs, ys, rfl, rfl, hp, hq, hl, he⟩
  · exact h.at I (by omega) rx ry
  · cases rx; cases ry
    by_cases e : p = q
    · subst e
      exact SeqAt.EqAt.same _
    · obtain ⟨us, r, pl, hz⟩ := I.list hp
      obtain ⟨ws, r', pl', hz'⟩ := I.list hq
      have l1 := r.length
      have l2 := r'.length
      have hsz : us.toArray.size = ws.toArray.size := by rw [List.size_toArray, List.size_toArray]; omega
      have k := SeqAt.RcAt.lists (A := A) (s := s) (e := fun _ => true) pl.isList pl'.isList hsz (by omega) (fun j h1 h2 => EqI.at I (by rw [units_in1]; omega) (vals_at r h1 (by simpa [l1] using h1)) (vals_at r' h2 (by simpa [l2] using h2)) (he j _ _))
      have e : ((List.range us.toArray.size).all fun _ => true) = true := by rw [List.all_eq_true]; intro _ _; rfl
      rw [e] at k
      exact SeqAt.EqAt.of_refs (by assumption) k
def rEqAll2 (K : PySem.W.Frag) (neg : Bool) : R2 := fun x y H Q => ∃ p q xs ys, x = .ref p ∧ y = .ref q ∧ SqL K H p xs ∧ SqL K H q ys ∧ xs.length = ys.length ∧ (∀ j (h1 : j < xs.length) (h2 : j < ys.length), EqJ K H xs[j] ys[j]) ∧ Q (.bl (!neg)) H
theorem op_eqAll2K (hK : X.K = K) (hu : X.A.units + 100 < cLine) : OpR X (compareOp .Eq) (rEqAll2 K false) := by
  subst hK
  intro pins s σ H x y v u Q I rx ry h
  obtain ⟨p, q, xs, ys, rfl, rfl, hx, hy, hl, he, k⟩ := h
  cases rx
  cases ry
  obtain ⟨us, r, pl, hz⟩ := I.list hx
  obtain ⟨ws, r', pl', hz'⟩ := I.list hy
  have l1 := r.length
  have l2 := r'.length
  have hsz : us.toArray.size = ws.toArray.size := by rw [List.size_toArray, List.size_toArray]; omega
  refine SeqAt.eq_listAt (e := fun _ => true) pl.isList pl'.isList hsz (by omega) (fun j h1 h2 => EqJ.at I (by rw [units_in1]; omega) (vals_at r h1 (by simpa [l1] using h1)) (vals_at r' h2 (by simpa [l2] using h2)) (he j _ _)) ⟨.bl _, H, I, rfl, ?_⟩
  have e : ((List.range us.toArray.size).all fun _ => true) = true := by rw [List.all_eq_true]; intro _ _; rfl
  rw [e]
  exact k
theorem op_neAll2K (hK : X.K = K) (hu : X.A.units + 100 < cLine) : OpR X (compareOp .NotEq) (rEqAll2 K true) := by
  subst hK
  intro pins s σ H x y v u Q I rx ry h
  obtain ⟨p, q, xs, ys, rfl, rfl, hx, hy, hl, he, k⟩ := h
  cases rx
  cases ry
  obtain ⟨us, r, pl, hz⟩ := I.list hx
  obtain ⟨ws, r', pl', hz'⟩ := I.list hy
  have l1 := r.length
  have l2 := r'.length
  have hsz : us.toArray.size = ws.toArray.size := by rw [List.size_toArray, List.size_toArray]; omega
  refine SeqAt.RcNeAt.lists (e := fun _ => true) pl.isList pl'.isList hsz (by omega) (fun j h1 h2 => EqJ.at I (by rw [units_in1]; omega) (vals_at r h1 (by simpa [l1] using h1)) (vals_at r' h2 (by simpa [l2] using h2)) (he j _ _)) _ _ _ _ ⟨.bl _, H, I, rfl, ?_⟩
  have e : ((List.range us.toArray.size).all fun _ => true) = true := by rw [List.all_eq_true]; intro _ _; rfl
  rw [e]
  exact k
end
end L2
namespace My
/-! ### steps, worths and gaps -/
/-- which columns a thing with these worths reaches -/
def reachL : List (List Int) → List Int → List Bool
  | marks :: sts, w :: ws => marks.map (fun s => decide (s ≤ w)) ++ reachL sts ws
  | _, _ => []
def trueIx (bs : List Bool) : List Nat := (List.range bs.length).filter fun i => bs.getD i false
def spreadN (sts : List (List Int)) (ws : List Int) : Nat := maskN (trueIx (reachL sts ws))
theorem trueIx_bit (bs : List Bool) (i : Nat) : (maskN (trueIx bs)).testBit i = bs.getD i false := by
  rw [maskN_bit]
  unfold trueIx
  rw [Bool.eq_iff_iff, decide_eq_true_eq, List.mem_filter, List.mem_range]
  constructor
  · exact fun h => h.2
  · intro h
    refine ⟨?_, h⟩
    apply Nat.lt_of_not_le
    intro hle
    rw [List.getD_eq_getElem?_getD, List.getElem?_eq_none hle] at h
    cases h
theorem spread_bit (sts : List (List Int)) (ws : List Int) (i : Nat) : (spreadN sts ws).testBit i = (reachL sts ws).getD i false := trueIx_bit _ i
def wideN (sts : List (List Int)) : Nat := (sts.map List.length).sum
theorem reach_len : ∀ {sts : List (List Int)} {ws : List Int}, sts.length = ws.length → (reachL sts ws).length = wideN sts
  | [], [], _ => rfl
  | [], _ :: _, h => by simp at h
  | _ :: _, [], h => by simp at h
  | m :: sts, w :: ws, h => by
    show (m.map _ ++ reachL sts ws).length = _
    rw [List.length_append, List.length_map, reach_len (sts := sts) (ws := ws) (by simpa using h)]
    simp [wideN]
theorem spread_lt {sts : List (List Int)} {ws : List Int} (h : sts.length = ws.length) : spreadN sts ws < 2 ^ wideN sts := by
  refine maskN_lt fun k hk => ?_
  unfold trueIx at hk
  rw [List.mem_filter, List.mem_range, reach_len h] at hk
  exact hk.1
/-- one list of worths is nowhere greater than another one -/
inductive LeW : List Int → List Int → Prop where
  | nil : LeW [] []
  | cons {a b : Int} {as bs : List Int} (h : a ≤ b) (t : LeW as bs) : LeW (a :: as) (b :: bs)
theorem getD_app {α : Type} (xs ys : List α) (d : α) (i : Nat) : (xs ++ ys).getD i d = if i < xs.length then xs.getD i d else ys.getD (i - xs.length) d := by
  by_cases h : i < xs.length
  · rw [if_pos h, List.getD_eq_getElem?_getD, List.getD_eq_getElem?_getD, List.getElem?_append_left h]
  · rw [if_neg h, List.getD_eq_getElem?_getD, List.getD_eq_getElem?_getD, List.getElem?_append_right (by omega)]
theorem reach_mono : ∀ {sts : List (List Int)} {us ws : List Int}, LeW us ws → ∀ i, (reachL sts us).getD i false = true → (reachL sts ws).getD i false = true
  | [], _, _, _, i, h => by cases ‹LeW _ _› <;> simp [reachL] at h
  | m :: sts, [], _, .nil, i, h => by simp [reachL] at h
  | m :: sts, u :: us, w :: ws, .cons huw t, i, h => by
    show (m.map (fun s => decide (s ≤ w)) ++ reachL sts ws).getD i false = true
    have h : (m.map (fun s => decide (s ≤ u)) ++ reachL sts us).getD i false = true := h
    rw [getD_app, List.length_map] at h ⊢
    split at h
    · rename_i hi
      rw [if_pos hi]
      rw [List.getD_eq_getElem?_getD, List.getElem?_map, List.getElem?_eq_getElem hi] at h ⊢
      simp only [Option.map_some, Option.getD_some, decide_eq_true_eq] at h ⊢
      omega
    · rename_i hi
      rw [if_neg hi]
      exact reach_mono t _ h
theorem spread_mono {sts : List (List Int)} {us ws : List Int} (h : LeW us ws) : spreadN sts us &&& spreadN sts ws = spreadN sts us := by
  rw [within_iff]
  intro i hi
  rw [spread_bit] at hi ⊢
  exact reach_mono h i hi
/-- a line of cells: worths within it -/
inductive InC : List Int → List (Int × Int) → Prop where
  | nil : InC [] []
  | cons {w : Int} {c : Int × Int} {ws : List Int} {cs : List (Int × Int)} (h : c.1 ≤ w ∧ w ≤ c.2) (t : InC ws cs) : InC (w :: ws) (c :: cs)
def OkC (cs : List (Int × Int)) : Prop := ∀ c ∈ cs, c.1 ≤ c.2
theorem InC.length : ∀ {ws : List Int} {cs : List (Int × Int)}, InC ws cs → ws.length = cs.length
  | _, _, .nil => rfl
  | _, _, .cons _ t => by rw [List.length_cons, List.length_cons, t.length]
theorem lows_in : ∀ {cs : List (Int × Int)}, OkC cs → InC (cs.map (·.1)) cs
  | [], _ => .nil
  | c :: cs, h => .cons ⟨Int.le_refl _, h c List.mem_cons_self⟩ (lows_in fun x hx => h x (List.mem_cons_of_mem _ hx))
theorem highs_in : ∀ {cs : List (Int × Int)}, OkC cs → InC (cs.map (·.2)) cs
  | [], _ => .nil
  | c :: cs, h => .cons ⟨h c List.mem_cons_self, Int.le_refl _⟩ (highs_in fun x hx => h x (List.mem_cons_of_mem _ hx))
theorem lows_le : ∀ {ws : List Int} {cs : List (Int × Int)}, InC ws cs → LeW (cs.map (·.1)) ws
  | _, _, .nil => .nil
  | _, _, .cons h t => .cons h.1 (lows_le t)
theorem le_highs : ∀ {ws : List Int} {cs : List (Int × Int)}, InC ws cs → LeW ws (cs.map (·.2))
  | _, _, .nil => .nil
  | _, _, .cons h t => .cons h.2 (le_highs t)
/-- the steps of each trait whose columns are in the set -/
def stepsOf : List (List Int) → Nat → List (List Int)
  | [], _ => []
  | marks :: sts, m => ((List.range marks.length).filter (m.testBit ·)).map (fun i => marks.getD i 0) :: stepsOf sts (m / 2 ^ marks.length)
theorem stepsOf_len : ∀ (sts : List (List Int)) (m : Nat), (stepsOf sts m).length = sts.length
  | [], _ => rfl
  | _ :: sts, m => by show (_ :: stepsOf sts _).length = _; rw [List.length_cons, stepsOf_len sts, List.length_cons]
def maxL (x : Int) (ms : List Int) : Int := ms.foldl max x
theorem maxL_ge (ms : List Int) : ∀ (x : Int), x ≤ maxL x ms ∧ ∀ m ∈ ms, m ≤ maxL x ms := by
  induction ms with
  | nil => intro x; exact ⟨Int.le_refl _, fun _ h => nomatch h⟩
  | cons a ms ih =>
    intro x
    have h := ih (max x a)
    refine ⟨Int.le_trans (Int.le_max_left _ _) h.1, fun m hm => ?_⟩
    rcases List.mem_cons.mp hm with z | z
    · rw [z]; exact Int.le_trans (Int.le_max_right _ _) h.1
    · exact h.2 m z
theorem maxL_le (ms : List Int) : ∀ {x y : Int}, x ≤ y → (∀ m ∈ ms, m ≤ y) → maxL x ms ≤ y := by
  induction ms with
  | nil => intro x y h _; exact h
  | cons a ms ih =>
    intro x y h hm
    exact ih (x := max x a) (Int.max_le.mpr ⟨h, hm a List.mem_cons_self⟩) fun m hm' => hm m (List.mem_cons_of_mem _ hm')
/-- the least worths that reach the steps wanted, or else the highs -/
def reachC : List (Int × Int) → List (List Int) → List Int
  | c :: cs, ms :: mss => min c.2 (maxL c.1 ms) :: reachC cs mss
  | _, _ => []
theorem reachC_in : ∀ {cs : List (Int × Int)} {mss : List (List Int)}, OkC cs → cs.length = mss.length → InC (reachC cs mss) cs
  | [], _, _, _ => by unfold reachC; exact .nil
  | _ :: _, [], _, h => by simp at h
  | c :: cs, ms :: mss, hc, h => by
    refine .cons ⟨Int.le_min.mpr ⟨hc c List.mem_cons_self, (maxL_ge ms c.1).1⟩, Int.min_le_left _ _⟩ (reachC_in (fun x hx => hc x (List.mem_cons_of_mem _ hx)) (by simpa using h))
theorem mem_pick {marks : List Int} {m : Nat} {s : Int} (h : s ∈ ((List.range marks.length).filter (m.testBit ·)).map (fun i => marks.getD i 0)) : ∃ i, i < marks.length ∧ m.testBit i = true ∧ s = marks.getD i 0 := by
  obtain ⟨i, hi, rfl⟩ := List.mem_map.mp h
  rw [List.mem_filter, List.mem_range] at hi
  exact ⟨i, hi.1, hi.2, rfl⟩
/-- ahead lies within what these worths reach: then the least such worths are no greater, and they reach ahead, too -/
theorem reachC_least : ∀ {sts : List (List Int)} {ws : List Int} {cs : List (Int × Int)} {m : Nat}, sts.length = ws.length → InC ws cs → (∀ i, m.testBit i = true → (reachL sts ws).getD i false = true) →
    LeW (reachC cs (stepsOf sts m)) ws ∧ ∀ i, m.testBit i = true → (reachL sts (reachC cs (stepsOf sts m))).getD i false = true
  | [], [], _, m, _, .nil, h => ⟨by unfold reachC; exact .nil, fun i hi => by have := h i hi; simp [reachL] at this⟩
  | _ :: _, [], _, _, h, _, _ => by simp at h
  | [], _ :: _, _, _, h, _, _ => by simp at h
  | marks :: sts, w :: ws, c :: cs, m, hl, .cons hc t, h => by
    have key : ∀ i, m.testBit i = true → (if i < marks.length then (marks.map (fun s => decide (s ≤ w))).getD i false else (reachL sts ws).getD (i - marks.length) false) = true := fun i hi => by
      have q : (marks.map (fun s => decide (s ≤ w)) ++ reachL sts ws).getD i false = true := h i hi
      rw [getD_app, List.length_map] at q
      exact q
    have hm : ∀ s ∈ ((List.range marks.length).filter (m.testBit ·)).map (fun i => marks.getD i 0), s ≤ w := fun s hs => by
      obtain ⟨i, hi, hb, rfl⟩ := mem_pick hs
      have := key i hb
      rw [if_pos hi, List.getD_eq_getElem?_getD, List.getElem?_map, List.getElem?_eq_getElem hi] at this
      rw [List.getD_eq_getElem?_getD, List.getElem?_eq_getElem hi]
      simpa using this
    have h2 : ∀ i, (m / 2 ^ marks.length).testBit i = true → (reachL sts ws).getD i false = true := fun i hi => by
      rw [Nat.testBit_div_two_pow] at hi
      have := key _ hi
      rw [if_neg (by omega)] at this
      rw [show i + marks.length - marks.length = i from by omega] at this
      exact this
    obtain ⟨i1, i2⟩ := reachC_least (sts := sts) (ws := ws) (cs := cs) (m := m / 2 ^ marks.length) (by simpa using hl) t h2
    have hmax : maxL c.1 (((List.range marks.length).filter (m.testBit ·)).map (fun i => marks.getD i 0)) ≤ w := maxL_le _ hc.1 hm
    have hmin : min c.2 (maxL c.1 (((List.range marks.length).filter (m.testBit ·)).map (fun i => marks.getD i 0))) = maxL c.1 (((List.range marks.length).filter (m.testBit ·)).map (fun i => marks.getD i 0)) := Int.min_eq_right (by omega)
    refine ⟨.cons (by rw [hmin]; exact hmax) i1, fun i hi => ?_⟩
    show (marks.map (fun s => decide (s ≤ min c.2 _)) ++ reachL sts _).getD i false = true
    rw [getD_app, List.length_map]
    split
    · rename_i hil
      rw [List.getD_eq_getElem?_getD, List.getElem?_map, List.getElem?_eq_getElem hil]
      simp only [Option.map_some, Option.getD_some, decide_eq_true_eq]
      rw [hmin]
      refine (maxL_ge _ _).2 _ (List.mem_map.mpr ⟨i, List.mem_filter.mpr ⟨List.mem_range.mpr hil, hi⟩, ?_⟩)
      rw [List.getD_eq_getElem?_getD, List.getElem?_eq_getElem hil]; rfl
    · rename_i hil
      refine i2 _ ?_
      rw [Nat.testBit_div_two_pow, show i - marks.length + marks.length = i from by omega]
      exact hi
/-- a thing's cells can break the rule just where the least worths that reach ahead do -/
theorem spoil_iff {sts : List (List Int)} {cs : List (Int × Int)} {r : Nat × Nat} (hl : sts.length = cs.length) {ws : List Int} (hw : InC ws cs) (hb : brk (spreadN sts ws) r = true) : brk (spreadN sts (reachC cs (stepsOf sts r.1))) r = true := by
  obtain ⟨h1, h2⟩ := brk_iff.mp hb
  have hlw : sts.length = ws.length := by rw [hw.length]; exact hl
  obtain ⟨i1, i2⟩ := reachC_least hlw hw fun i hi => by rw [← spread_bit]; exact (within_iff _ _).mp h1 i hi
  refine brk_iff.mpr ⟨?_, fun z => h2 (within_trans z (spread_mono i1))⟩
  rw [within_iff]
  intro i hi
  rw [spread_bit]
  exact i2 i hi
/-- where both the lows and the highs break the rule, everything between does -/
theorem never_between {sts : List (List Int)} {cs : List (Int × Int)} {r : Nat × Nat} (h1 : brk (spreadN sts (cs.map (·.1))) r = true) (h2 : brk (spreadN sts (cs.map (·.2))) r = true) {ws : List Int} (hw : InC ws cs) : brk (spreadN sts ws) r = true :=
  brk_iff.mpr ⟨within_trans (brk_iff.mp h1).1 (spread_mono (lows_le hw)), fun z => (brk_iff.mp h2).2 (within_trans z (spread_mono (le_highs hw)))⟩
end My
namespace My
/-! ### fillings, and the sets that a thing may come to have -/
theorem maxL_is {x M : Int} {ms : List Int} (h : M ∈ x :: ms) (hm : ∀ a ∈ x :: ms, a ≤ M) : M = maxL x ms := by
  have h1 : maxL x ms ≤ M := maxL_le ms (hm x List.mem_cons_self) fun m q => hm m (List.mem_cons_of_mem _ q)
  have h2 : M ≤ maxL x ms := by
    rcases List.mem_cons.mp h with z | z
    · rw [z]; exact (maxL_ge ms x).1
    · exact (maxL_ge ms x).2 M z
  omega
theorem min_if (a b : Int) : (if b < a then b else a) = min a b := by
  rw [Int.min_def]
  split <;> split <;> omega
def spoilB (sts : List (List Int)) (css : List (List (Int × Int))) (r : Nat × Nat) : Bool := css.any fun cs => brk (spreadN sts (reachC cs (stepsOf sts r.1))) r
def mendB (sts : List (List Int)) (css : List (List (Int × Int))) (r : Nat × Nat) : Bool := css.all fun cs => !(brk (spreadN sts (cs.map (·.1))) r && brk (spreadN sts (cs.map (·.2))) r)
def brokenB (sts : List (List Int)) (fl : List (List Int)) (r : Nat × Nat) : Bool := fl.any fun ws => brk (spreadN sts ws) r
def Fill (fl : List (List Int)) (css : List (List (Int × Int))) : Prop := fl.length = css.length ∧ ∀ i (h1 : i < fl.length) (h2 : i < css.length), InC fl[i] css[i]
theorem Fill.mem {fl : List (List Int)} {css : List (List (Int × Int))} (h : Fill fl css) {ws : List Int} (hw : ws ∈ fl) : ∃ cs ∈ css, InC ws cs := by
  obtain ⟨i, hi, rfl⟩ := List.getElem_of_mem hw
  exact ⟨css[i]'(by have := h.1; omega), List.getElem_mem _, h.2 i hi _⟩
theorem fill_sure {sts : List (List Int)} {fl : List (List Int)} {css : List (List (Int × Int))} {r : Nat × Nat} (h : Fill fl css) (hl : ∀ cs ∈ css, sts.length = cs.length) (hs : spoilB sts css r = false) : brokenB sts fl r = false := by
  unfold brokenB
  rw [List.any_eq_false]
  intro ws hw hb
  obtain ⟨cs, hc, hin⟩ := h.mem hw
  unfold spoilB at hs
  rw [List.any_eq_false] at hs
  exact hs cs hc (spoil_iff (hl cs hc) hin hb)
theorem fill_never {sts : List (List Int)} {fl : List (List Int)} {css : List (List (Int × Int))} {r : Nat × Nat} (h : Fill fl css) (hs : mendB sts css r = false) : brokenB sts fl r = true := by
  unfold mendB at hs
  rw [List.all_eq_false] at hs
  obtain ⟨cs, hc, hb⟩ := hs
  obtain ⟨i, hi, rfl⟩ := List.getElem_of_mem hc
  have hi1 : i < fl.length := by have := h.1; omega
  have hin := h.2 i hi1 hi
  have hb : brk (spreadN sts ((css[i]).map (·.1))) r = true ∧ brk (spreadN sts ((css[i]).map (·.2))) r = true := by
    revert hb
    cases brk (spreadN sts ((css[i]).map (·.1))) r <;> cases brk (spreadN sts ((css[i]).map (·.2))) r <;> simp
  unfold brokenB
  rw [List.any_eq_true]
  exact ⟨fl[i], List.getElem_mem _, never_between hb.1 hb.2 hin⟩
theorem InC.snoc : ∀ {ws : List Int} {cs : List (Int × Int)} {w : Int} {c : Int × Int}, InC ws cs → c.1 ≤ w ∧ w ≤ c.2 → InC (ws ++ [w]) (cs ++ [c])
  | _, _, _, _, .nil, h => .cons h .nil
  | _, _, _, _, .cons h t, q => .cons h (t.snoc q)
theorem InC.unsnoc : ∀ {cs : List (Int × Int)} {ws : List Int} {c : Int × Int}, InC ws (cs ++ [c]) → ∃ us w, ws = us ++ [w] ∧ InC us cs ∧ c.1 ≤ w ∧ w ≤ c.2
  | [], _, _, .cons h .nil => ⟨[], _, rfl, .nil, h.1, h.2⟩
  | _ :: cs, _, _, .cons h t => by
    obtain ⟨us, w, rfl, i, q⟩ := InC.unsnoc (cs := cs) t
    exact ⟨_ :: us, w, rfl, .cons h i, q⟩
theorem rise_cut : ∀ {ms : List Int} (w : Int), ms.Pairwise (· < ·) → ∃ k, k ≤ ms.length ∧ ∀ j, j < ms.length → (ms.getD j 0 ≤ w ↔ j < k)
  | [], _, _ => ⟨0, Nat.le_refl _, fun j h => absurd h (by simp)⟩
  | a :: ms, w, h => by
    rw [List.pairwise_cons] at h
    by_cases ha : a ≤ w
    · obtain ⟨k, hk, e⟩ := rise_cut (ms := ms) w h.2
      refine ⟨k + 1, by simp; omega, fun j hj => ?_⟩
      cases j with
      | zero => simp [ha]
      | succ j =>
        have := e j (by simpa using hj)
        simp only [List.getD_cons_succ]
        omega
    · refine ⟨0, Nat.zero_le _, fun j hj => ?_⟩
      cases j with
      | zero => simp; omega
      | succ j =>
        simp only [List.getD_cons_succ]
        have hj' : j < ms.length := by simpa using hj
        have := h.1 (ms.getD j 0) (by rw [List.getD_eq_getElem?_getD, List.getElem?_eq_getElem hj']; exact List.getElem_mem _)
        omega
theorem rise_lt {ms : List Int} (h : ms.Pairwise (· < ·)) {i j : Nat} (hij : i < j) (hj : j < ms.length) : ms.getD i 0 < ms.getD j 0 := by
  have hi : i < ms.length := by omega
  rw [List.getD_eq_getElem?_getD, List.getElem?_eq_getElem hi, List.getD_eq_getElem?_getD, List.getElem?_eq_getElem hj]
  exact List.pairwise_iff_getElem.mp h i j hi hj hij
/-- the first k columns of a trait whose columns begin at a place -/
def PartIs (p at0 k : Nat) : Prop := ∀ j, p.testBit j = decide (at0 ≤ j ∧ j < at0 + k)
theorem part0 (at0 : Nat) : PartIs 0 at0 0 := fun j => by
  rw [Nat.zero_testBit]
  exact (decide_eq_false (by omega)).symm
theorem part_succ {p at0 k : Nat} (h : PartIs p at0 k) : PartIs (p ||| 2 ^ (at0 + k)) at0 (k + 1) := fun j => by
  rw [Nat.testBit_or, h j, Nat.testBit_two_pow, Bool.eq_iff_iff]
  simp only [Bool.or_eq_true, decide_eq_true_eq]
  omega
theorem part_inj {p p' at0 k : Nat} (h : PartIs p at0 k) (h' : PartIs p' at0 k) : p = p' := Nat.eq_of_testBit_eq fun j => by rw [h j, h' j]
def BitsAre (m : Nat) (bs : List Bool) : Prop := ∀ j, m.testBit j = bs.getD j false
theorem bitsAre_inj {m m' : Nat} {bs : List Bool} (h : BitsAre m bs) (h' : BitsAre m' bs) : m = m' := Nat.eq_of_testBit_eq fun j => by rw [h j, h' j]
theorem bits_snoc {m : Nat} {bs : List Bool} {b : Bool} (h : BitsAre m bs) : BitsAre (if b then m ||| 2 ^ bs.length else m) (bs ++ [b]) := fun j => by
  rw [getD_app]
  cases b with
  | true =>
    rw [if_pos rfl, Nat.testBit_or, h j, Nat.testBit_two_pow]
    split
    · rename_i hj
      rw [decide_eq_false (by omega), Bool.or_false]
    · rename_i hj
      have e0 : bs.getD j false = false := by rw [List.getD_eq_getElem?_getD, List.getElem?_eq_none (by omega)]; rfl
      rw [e0, Bool.false_or]
      by_cases hjb : bs.length = j
      · rw [decide_eq_true hjb, ← hjb, Nat.sub_self]; rfl
      · rw [decide_eq_false hjb]
        obtain ⟨d, hd⟩ : ∃ d, j - bs.length = d + 1 := ⟨j - bs.length - 1, by omega⟩
        rw [hd]; rfl
  | false =>
    rw [if_neg Bool.false_ne_true, h j]
    split
    · rfl
    · rename_i hj
      have e0 : bs.getD j false = false := by rw [List.getD_eq_getElem?_getD, List.getElem?_eq_none (by omega)]; rfl
      rw [e0]
      cases e : j - bs.length with
      | zero => rfl
      | succ d => rfl
theorem bits_part {m p k : Nat} {bs : List Bool} {ms : List Int} {w : Int} (h : BitsAre m bs) (hp : PartIs p bs.length k) (hk : k ≤ ms.length) (hw : ∀ j, j < ms.length → (ms.getD j 0 ≤ w ↔ j < k)) :
    BitsAre (m ||| p) (bs ++ ms.map (fun s => decide (s ≤ w))) := fun j => by
  rw [Nat.testBit_or, h j, hp j, getD_app]
  split
  · rename_i hj
    rw [decide_eq_false (by omega), Bool.or_false]
  · rename_i hj
    have e0 : bs.getD j false = false := by rw [List.getD_eq_getElem?_getD, List.getElem?_eq_none (by omega)]; rfl
    rw [e0, Bool.false_or]
    by_cases hj2 : j - bs.length < ms.length
    · rw [List.getD_eq_getElem?_getD, List.getElem?_map, List.getElem?_eq_getElem hj2]
      have := hw _ hj2
      rw [List.getD_eq_getElem?_getD, List.getElem?_eq_getElem hj2] at this
      simp only [Option.map_some, Option.getD_some, decide_eq_decide] at this ⊢
      omega
    · rw [List.getD_eq_getElem?_getD, List.getElem?_eq_none (by rw [List.length_map]; omega)]
      exact decide_eq_false (by omega)
theorem spread_bits (sts : List (List Int)) (ws : List Int) : BitsAre (spreadN sts ws) (reachL sts ws) := spread_bit sts ws
/-- the sets that a thing with these cells may come to have -/
def SetsAre (sts : List (List Int)) (cs : List (Int × Int)) (masks : List Nat) : Prop :=
  (∀ m ∈ masks, ∃ ws, InC ws cs ∧ m = spreadN sts ws) ∧ ∀ ws, InC ws cs → spreadN sts ws ∈ masks
/-- step k of a trait is where the cell's worths may end -/
def EndAt (ms : List Int) (c : Int × Int) (k : Nat) : Prop := (k = ms.length ∨ c.1 < ms.getD k 0) ∧ (k = 0 ∨ ms.getD (k - 1) 0 ≤ c.2)
theorem endAt_of {ms : List Int} {c : Int × Int} {k : Nat} {w : Int} (hk : k ≤ ms.length) (hw : ∀ j, j < ms.length → (ms.getD j 0 ≤ w ↔ j < k)) (h1 : c.1 ≤ w) (h2 : w ≤ c.2) : EndAt ms c k := by
  refine ⟨?_, ?_⟩
  · by_cases h : k = ms.length
    · exact .inl h
    · have := hw k (by omega)
      exact .inr (by omega)
  · by_cases h : k = 0
    · exact .inl h
    · have := hw (k - 1) (by omega)
      exact .inr (by omega)
theorem endAt_worth {ms : List Int} {c : Int × Int} {k : Nat} (hr : ms.Pairwise (· < ·)) (hk : k ≤ ms.length) (hc : c.1 ≤ c.2) (h : EndAt ms c k) : ∃ w, c.1 ≤ w ∧ w ≤ c.2 ∧ ∀ j, j < ms.length → (ms.getD j 0 ≤ w ↔ j < k) := by
  obtain ⟨ha, hb⟩ := h
  by_cases h0 : k = 0
  · subst h0
    refine ⟨c.1, Int.le_refl _, hc, fun j hj => ?_⟩
    have h1 : c.1 < ms.getD 0 0 := by rcases ha with z | z; omega; exact z
    have : ms.getD 0 0 ≤ ms.getD j 0 := by
      by_cases hj0 : j = 0
      · rw [hj0]; exact Int.le_refl _
      · exact Int.le_of_lt (rise_lt hr (by omega) hj)
    omega
  · have h2 : ms.getD (k - 1) 0 ≤ c.2 := by rcases hb with z | z; exact absurd z h0; exact z
    refine ⟨max c.1 (ms.getD (k - 1) 0), Int.le_max_left _ _, Int.max_le.mpr ⟨hc, h2⟩, fun j hj => ?_⟩
    constructor
    · intro hle
      apply Nat.lt_of_not_le
      intro hkj
      have hlen : k < ms.length := by omega
      have h1 : c.1 < ms.getD k 0 := by rcases ha with z | z; omega; exact z
      have h3 : ms.getD (k - 1) 0 < ms.getD k 0 := rise_lt hr (by omega) hlen
      have h4 : ms.getD k 0 ≤ ms.getD j 0 := by
        by_cases hjk : j = k
        · rw [hjk]; exact Int.le_refl _
        · exact Int.le_of_lt (rise_lt hr (by omega) hj)
      omega
    · intro hjk
      have : ms.getD j 0 ≤ ms.getD (k - 1) 0 := by
        by_cases e : j = k - 1
        · rw [e]; exact Int.le_refl _
        · exact Int.le_of_lt (rise_lt hr (by omega) (by omega))
      exact Int.le_trans this (Int.le_max_right _ _)
theorem reach_snoc : ∀ {sts : List (List Int)} {ws : List Int} (m : List Int) (w : Int), sts.length = ws.length → reachL (sts ++ [m]) (ws ++ [w]) = reachL sts ws ++ m.map (fun s => decide (s ≤ w))
  | [], [], m, w, _ => by show m.map _ ++ [] = [] ++ _; rw [List.append_nil, List.nil_append]
  | [], _ :: _, _, _, h => by simp at h
  | _ :: _, [], _, _, h => by simp at h
  | n :: sts, u :: ws, m, w, h => by
    show n.map _ ++ reachL (sts ++ [m]) (ws ++ [w]) = (n.map _ ++ reachL sts ws) ++ _
    rw [reach_snoc m w (by simpa using h), List.append_assoc]
/-- the parts of a trait -/
def PartsAre (ms : List Int) (c : Int × Int) (at0 : Nat) (n : Nat) (parts : List Nat) : Prop :=
  (∀ p ∈ parts, ∃ k, k < n ∧ EndAt ms c k ∧ PartIs p at0 k) ∧ ∀ k, k < n → EndAt ms c k → ∀ p, PartIs p at0 k → p ∈ parts
theorem sets_grow {sts : List (List Int)} {cs : List (Int × Int)} {masks parts grow : List Nat} {ms : List Int} {c : Int × Int} (hl : sts.length = cs.length) (hr : ms.Pairwise (· < ·)) (hc : c.1 ≤ c.2) (h : SetsAre sts cs masks) (hp : PartsAre ms c (wideN sts) (ms.length + 1) parts)
    (hg : ∀ x, x ∈ grow ↔ ∃ m ∈ masks, ∃ p ∈ parts, x = m ||| p) : SetsAre (sts ++ [ms]) (cs ++ [c]) grow := by
  refine ⟨fun x hx => ?_, fun ws hw => ?_⟩
  · obtain ⟨m, hm, p, hp', rfl⟩ := (hg x).mp hx
    obtain ⟨ws, hin, rfl⟩ := h.1 m hm
    obtain ⟨k, hk, he, hpi⟩ := hp.1 p hp'
    obtain ⟨w, h1, h2, hwk⟩ := endAt_worth hr (by omega) hc he
    have hlw : sts.length = ws.length := by rw [hin.length]; exact hl
    refine ⟨ws ++ [w], hin.snoc ⟨h1, h2⟩, bitsAre_inj (bs := reachL (sts ++ [ms]) (ws ++ [w])) ?_ (spread_bits _ _)⟩
    rw [reach_snoc ms w hlw]
    exact bits_part (spread_bits sts ws) (by rw [reach_len hlw]; exact hpi) (by omega) hwk
  · obtain ⟨us, w, rfl, hin, h1, h2⟩ := hw.unsnoc
    have hlw : sts.length = us.length := by rw [hin.length]; exact hl
    obtain ⟨k, hk, hwk⟩ := rise_cut w hr
    have he := endAt_of hk hwk h1 h2
    obtain ⟨p, hpi⟩ : ∃ p, PartIs p (wideN sts) k := by
      clear hwk he hk
      induction k with
      | zero => exact ⟨0, part0 _⟩
      | succ k ih =>
        obtain ⟨p, hp⟩ := ih
        exact ⟨_, part_succ hp⟩
    refine (hg _).mpr ⟨spreadN sts us, h.2 us hin, p, hp.2 k (by omega) he p hpi, bitsAre_inj (bs := reachL (sts ++ [ms]) (us ++ [w])) (spread_bits _ _) ?_⟩
    rw [reach_snoc ms w hlw]
    exact bits_part (spread_bits sts us) (by rw [reach_len hlw]; exact hpi) hk hwk
theorem sets_nil : SetsAre [] [] [0] := by
  refine ⟨fun m hm => ⟨[], .nil, ?_⟩, fun ws hw => ?_⟩
  · have : m = 0 := by simpa using hm
    rw [this]; rfl
  · cases hw
    show spreadN [] [] ∈ [0]
    exact List.mem_cons_self
/-- may a thing break the rule: by the sets that it may come to have -/
theorem sets_break {sts : List (List Int)} {cs : List (Int × Int)} {masks : List Nat} {r : Nat × Nat} (hl : sts.length = cs.length) (ho : OkC cs) (h : SetsAre sts cs masks) : (masks.any fun m => brk m r) = brk (spreadN sts (reachC cs (stepsOf sts r.1))) r := by
  rw [Bool.eq_iff_iff, List.any_eq_true]
  constructor
  · rintro ⟨m, hm, hb⟩
    obtain ⟨ws, hin, rfl⟩ := h.1 m hm
    exact spoil_iff hl hin hb
  · intro hb
    exact ⟨_, h.2 _ (reachC_in ho (by rw [stepsOf_len, hl])), hb⟩
theorem sets_keep {sts : List (List Int)} {cs : List (Int × Int)} {masks : List Nat} {r : Nat × Nat} (ho : OkC cs) (h : SetsAre sts cs masks) : (masks.any fun m => !brk m r) = !(brk (spreadN sts (cs.map (·.1))) r && brk (spreadN sts (cs.map (·.2))) r) := by
  rw [Bool.eq_iff_iff, List.any_eq_true]
  constructor
  · rintro ⟨m, hm, hb⟩
    obtain ⟨ws, hin, rfl⟩ := h.1 m hm
    cases h1 : brk (spreadN sts (cs.map (·.1))) r with
    | false => rfl
    | true =>
      cases h2 : brk (spreadN sts (cs.map (·.2))) r with
      | false => rfl
      | true => rw [never_between h1 h2 hin] at hb; cases hb
  · intro hb
    cases h1 : brk (spreadN sts (cs.map (·.1))) r with
    | false => exact ⟨_, h.2 _ (lows_in ho), by rw [h1]; rfl⟩
    | true =>
      cases h2 : brk (spreadN sts (cs.map (·.2))) r with
      | false => exact ⟨_, h.2 _ (highs_in ho), by rw [h2]; rfl⟩
      | true => rw [h1, h2] at hb; cases hb
end My
namespace My
open PySem L2
/-! ### what the readings of every law use -/
def nv (k : Nat) : V := .int k
theorem nv_flat (ks : List Nat) : (ks.map nv).all flatV = true := by
  rw [List.all_map, List.all_eq_true]; intro _ _; rfl
theorem nv_in (k : Nat) (ks : List Nat) : inV (nv k) (ks.map nv) = ks.contains k := by
  unfold inV
  rw [List.any_map]
  show (ks.any fun y => ((y : Int) == (k : Int))) = _
  rw [Bool.eq_iff_iff]
  simp only [List.any_eq_true, beq_iff_eq, List.contains_iff_mem]
  constructor
  · rintro ⟨x, hx, e⟩
    have : x = k := by omega
    exact this ▸ hx
  · intro h
    exact ⟨k, h, rfl⟩
theorem or_pow (m k : Nat) : Builtin.bitOr (m : Int) (1 * 2 ^ (k : Int).toNat) = ((m ||| 2 ^ k : Nat) : Int) := by
  have e : (1 * 2 ^ (k : Int).toNat : Int) = ((2 ^ k : Nat) : Int) := by simp
  rw [e, PyProof.Rows.bitOr_and, PyProof.Rows.bitAnd_pp (Int.natCast_nonneg _) (Int.natCast_nonneg _)]
  simp only [Int.toNat_natCast]
  have q := or_add_and m (2 ^ k)
  omega
theorem or_nat (a b : Nat) : Builtin.bitOr (a : Int) (b : Int) = ((a ||| b : Nat) : Int) := by
  rw [PyProof.Rows.bitOr_and, PyProof.Rows.bitAnd_pp (Int.natCast_nonneg _) (Int.natCast_nonneg _)]
  simp only [Int.toNat_natCast]
  have q := or_add_and a b
  omega
theorem and_nat (a b : Nat) : Builtin.bitAnd (a : Int) (b : Int) = ((a &&& b : Nat) : Int) := by
  rw [PyProof.Rows.bitAnd_pp (Int.natCast_nonneg _) (Int.natCast_nonneg _)]
  simp only [Int.toNat_natCast]
theorem pow_one (k : Nat) : (1 * 2 ^ (k : Int).toNat : Int) = ((2 ^ k : Nat) : Int) := by simp
theorem getI {α : Type} {f : α → V} {xs : List α} {i : Nat} {y : V} (h : (xs.map f)[i]? = some y) : ∃ (hi : i < xs.length), y = f xs[i] := by
  rw [List.getElem?_map] at h
  cases e : xs[i]? with
  | none => rw [e] at h; cases h
  | some z =>
    rw [e] at h
    obtain ⟨hi, q⟩ := List.getElem?_eq_some_iff.mp e
    exact ⟨hi, by rw [q]; exact (Option.some.inj h).symm⟩
theorem atI_map {α : Type} {f : α → V} {xs : List α} {i : Nat} (h : i < xs.length) : atI (xs.map f) (i : Int) = some (f xs[i]) :=
  atI_nat (by rw [List.getElem?_map, List.getElem?_eq_getElem h]; rfl)
theorem cpow (k : Nat) (h : k < 1000) : CPow 1 (k : Int) := ⟨by omega, by omega, by decide⟩
theorem line1000 {n : Nat} (h : n ≤ 1000) : n < sizeLine := small1000 h
theorem same_new {H : Hp} {p : Addr} (h : H p = none) (o : HO) : Same H (upd H p o) := fun b u q => by rw [upd_ne (ne_of_none q h)]; exact q
theorem same_one {H H' : Hp} {p : Addr} (s : Same H H') (h : H' p = none) (o : HO) : Same H (upd H' p o) := s.trans (same_new h o)
theorem same_upd {H H' : Hp} {p : Addr} (s : Same H H') (h : H p = none) (o : HO) : Same H (upd H' p o) := fun b u q => by rw [upd_ne (ne_of_none q h)]; exact s b u q
theorem ixN_nat {n j : Nat} (h : j < n) : ixN n (j : Int) = some j := by
  unfold ixN
  rw [if_pos (by omega), if_pos (by omega)]; rfl
theorem emod_nat (x : Int) {n : Nat} (h : 0 < n) : ∃ k : Nat, x % (n : Int) = (k : Int) ∧ k < n := by
  have h0 := Int.emod_nonneg x (show (n : Int) ≠ 0 by omega)
  have h1 := Int.emod_lt_of_pos x (show (0 : Int) < (n : Int) by omega)
  exact ⟨(x % (n : Int)).toNat, by omega, by omega⟩
theorem pow_posN (w : Nat) : 0 < 2 ^ w := Nat.pow_pos (by decide)
theorem bit_eq (m k : Nat) : decide (V.int (((m : Int) / ((2 ^ k : Nat) : Int)) % 2) = V.int 1) = m.testBit k := by
  rw [Nat.testBit_eq_decide_div_mod_eq, dec_int, Bool.eq_iff_iff]
  have e : ((m : Int) / ((2 ^ k : Nat) : Int)) % 2 = ((m / 2 ^ k % 2 : Nat) : Int) := by simp
  rw [e]
  simp only [beq_iff_eq, decide_eq_true_eq]
  omega
theorem pow_pos' (k : Nat) : (0 : Int) < ((2 ^ k : Nat) : Int) := by
  have := Nat.pow_pos (n := k) (show 0 < 2 by decide)
  omega
theorem log2_pow' {k : Nat} (h : k < 1000) : (((2 ^ k : Nat) : Int)).natAbs.log2 < 9000 := by
  rw [Int.natAbs_natCast, Nat.log2_two_pow]
  omega
theorem bits_nat (m : Nat) : (Builtin.Int.intBits (m : Int)) = if m = 0 then 0 else m.log2 + 1 := by
  unfold Builtin.Int.intBits
  by_cases h : m = 0
  · subst h; rfl
  · have e : (((m : Int)) == 0) = false := by simpa using h
    rw [e, if_neg h]
    simp
/-! ### promises -/
def spCell (K : PySem.W.Frag) : Sp := fun vs H Q _ => ∃ (a : Addr) (ns : List Int) (k : Nat), vs = [.ref a, .int k] ∧ SqL K H a (ns.map V.int) ∧ Q (.int (ns.getD k 0)) H
def spMask (K : PySem.W.Frag) : Sp := fun vs H Q _ => ∃ (a : Addr) (ks : List Nat), vs = [.ref a] ∧ SqL K H a (ks.map nv) ∧ (∀ k ∈ ks, k < 1000) ∧ Q (.int (maskN ks : Nat)) H
def spWithin : Sp := fun vs H Q _ => ∃ (a b : Nat), vs = [.int a, .int b] ∧ Q (.bl (decide (a &&& b = a))) H
def spOnes : Sp := fun vs H Q _ => ∃ (m : Nat), vs = [.int m] ∧ m < 2 ^ 1000 ∧ ∀ r, H r = none → Q (.ref r) (upd H r (.lst ((onesN m).map nv)))
def spWhole : Sp := fun vs H Q _ => ∃ (i : Int), vs = [.int i] ∧ Q (.bl true) H
def spBit : Sp := fun vs H Q _ => ∃ (m k : Nat), vs = [.int m, .int k] ∧ k < 1000 ∧ Q (.bl (m.testBit k)) H
def spLaw (K : PySem.W.Frag) : Sp := fun vs H Q _ => ∃ (a : Addr) (ns : List Int), vs = [.ref a] ∧ SqL K H a (ns.map V.int) ∧ ns.length ≤ 63 ∧ ∀ H', Q (.bl true) H'
theorem xor_nat (a b : Nat) : Builtin.bitXor (a : Int) (b : Int) = ((a ^^^ b : Nat) : Int) := by
  rw [PyProof.Rows.bitXor_and, PyProof.Rows.bitAnd_pp (Int.natCast_nonneg _) (Int.natCast_nonneg _)]
  simp only [Int.toNat_natCast]
  have q := xor_add_two_and a b
  omega
theorem full_nat (w : Nat) : (1 * 2 ^ (w : Int).toNat - 1 : Int) = ((2 ^ w - 1 : Nat) : Int) := by
  rw [pow_one]
  have := Nat.pow_pos (n := w) (show 0 < 2 by decide)
  omega
theorem two_pow_pos (w : Nat) : (0 : Int) < 2 ^ w := by
  have := Nat.pow_pos (n := w) (show 0 < 2 by decide)
  have e : (2 ^ w : Int) = ((2 ^ w : Nat) : Int) := by simp
  omega
def Rows (w : Nat) (rs : List Nat) : Prop := ∀ r ∈ rs, r < 2 ^ w
def spRowBy : Sp := fun vs H Q _ => ∃ (c : Int) (w s : Nat), vs = [.int c, .int w, .int s] ∧ w ≤ 10 ∧ ∀ r : Nat, r < 2 ^ w → Q (.int r) H
def spMaskBy (K : PySem.W.Frag) : Sp := fun vs H Q _ => ∃ (c : Int) (a : Addr) (rs : List Nat) (w : Nat), vs = [.int c, .ref a, .int w] ∧ SqL K H a (rs.map nv) ∧ Rows w rs ∧ rs.length ≤ 100 ∧ w ≤ 10 ∧ ∀ m : Nat, m < 2 ^ w → Q (.int m) H
theorem cutV_ints (ns : List Int) (lo hi : Option Int) : ∃ cs : List Int, cutV (ns.map V.int) lo hi = cs.map V.int ∧ cs.length ≤ ns.length := by
  unfold cutV
  refine ⟨(ns.drop (HT.sIx (ns.map V.int).length 0 lo)).take (HT.sIx (ns.map V.int).length (ns.map V.int).length hi - HT.sIx (ns.map V.int).length 0 lo), ?_, ?_⟩
  · rw [← List.map_drop, ← List.map_take]
  · rw [List.length_take, List.length_drop]; omega
theorem eqVs_nv (ks : List Nat) : eqVs (ks.map nv) (ks.map nv) = true := by
  have e : ks.map nv = (ks.map (fun k : Nat => (k : Int))).map V.int := by rw [List.map_map]; rfl
  rw [e, eqVs_ints]
  simp
theorem rows_snoc {w : Nat} {rs : List Nat} {r : Nat} (h : Rows w rs) (hr : r < 2 ^ w) : Rows w (rs ++ [r]) := fun x hx => by
  rcases List.mem_append.mp hx with z | z
  · exact h x z
  · have : x = r := by simpa using z
    rw [this]; exact hr
theorem rows_nil {w : Nat} : Rows w [] := fun _ h => nomatch h
def spHaving (K : PySem.W.Frag) : Sp := fun vs H Q _ => ∃ (a : Addr) (rs : List Nat) (m : Nat), vs = [.ref a, .int m] ∧ SqL K H a (rs.map nv) ∧ rs.length ≤ 200 ∧ ∀ H', Same H H' → Q (.int (maskN (havingL rs m) : Nat)) H'
def spShared (K : PySem.W.Frag) : Sp := fun vs H Q _ => ∃ (a : Addr) (rs : List Nat) (w g : Nat), vs = [.ref a, .int w, .int g] ∧ SqL K H a (rs.map nv) ∧ rs.length ≤ 200 ∧ w ≤ 100 ∧ g < 2 ^ rs.length ∧ ∀ H', Same H H' → Q (.int (sharedL rs w (onesN g) : Nat)) H'
def spClosed (K : PySem.W.Frag) : Sp := fun vs H Q _ => ∃ (a : Addr) (rs : List Nat) (w m : Nat), vs = [.ref a, .int w, .int m] ∧ SqL K H a (rs.map nv) ∧ rs.length ≤ 200 ∧ w ≤ 100 ∧ ∀ H', Same H H' → Q (.int (closedL rs w m : Nat)) H'
def top (i : Nat) : Stmt := PySem.Challenge.pw_traitlattice_k33_whole_gaps.main.body.getD i (.Pass ⟨0, 0, 0, 0⟩)
abbrev s_mask_of : Stmt := top 1
abbrev s_within : Stmt := top 2
abbrev s_breaks : Stmt := top 4
abbrev s_spread : Stmt := top 6
abbrev s_steps_of : Stmt := top 7
abbrev s_lows : Stmt := top 8
abbrev s_highs : Stmt := top 9
abbrev s_lows_reaching : Stmt := top 10
abbrev s_spoiling : Stmt := top 11
abbrev s_sure : Stmt := top 12
abbrev s_keeping : Stmt := top 13
abbrev s_mending : Stmt := top 14
abbrev s_law_cell : Stmt := top 16
abbrev s_law_marks : Stmt := top 17
abbrev s_law_steps : Stmt := top 18
abbrev s_law_worth : Stmt := top 19
abbrev s_law_gap : Stmt := top 20
abbrev s_law_cells : Stmt := top 21
abbrev s_law_columns : Stmt := top 22
abbrev s_law_breaks : Stmt := top 23
abbrev s_law_filling : Stmt := top 24
abbrev s_law_broken : Stmt := top 25
abbrev s_law_side : Stmt := top 26
abbrev s_law_drawn_rule : Stmt := top 27
abbrev s_law_copy : Stmt := top 28
abbrev s_law_sets : Stmt := top 29
abbrev s_law : Stmt := top 30
theorem sc_mask_of : FnScope ["places", "mask", "place"] ["places"] (defScope s_mask_of) := ⟨rfl, rfl, rfl, by decide +kernel, rfl, by decide +kernel, by decide +kernel⟩
theorem sc_within : FnScope ["small", "large"] ["small", "large"] (defScope s_within) := ⟨rfl, rfl, rfl, by decide +kernel, rfl, by decide +kernel, by decide +kernel⟩
theorem sc_breaks : FnScope ["row", "rule"] ["row", "rule"] (defScope s_breaks) := ⟨rfl, rfl, rfl, by decide +kernel, rfl, by decide +kernel, by decide +kernel⟩
theorem sc_spread : FnScope ["steps", "worths", "reached", "marks", "worth"] ["steps", "worths"] (defScope s_spread) := ⟨rfl, rfl, rfl, by decide +kernel, rfl, by decide +kernel, by decide +kernel⟩
theorem sc_steps_of : FnScope ["steps", "mask", "chosen", "marks"] ["steps", "mask"] (defScope s_steps_of) := ⟨rfl, rfl, rfl, by decide +kernel, rfl, by decide +kernel, by decide +kernel⟩
theorem sc_lows : FnScope ["line"] ["line"] (defScope s_lows) := ⟨rfl, rfl, rfl, by decide +kernel, rfl, by decide +kernel, by decide +kernel⟩
theorem sc_highs : FnScope ["line"] ["line"] (defScope s_highs) := ⟨rfl, rfl, rfl, by decide +kernel, rfl, by decide +kernel, by decide +kernel⟩
theorem sc_lows_reaching : FnScope ["line", "wanted"] ["line", "wanted"] (defScope s_lows_reaching) := ⟨rfl, rfl, rfl, by decide +kernel, rfl, by decide +kernel, by decide +kernel⟩
theorem sc_spoiling : FnScope ["steps", "cells", "rule", "wanted", "thing", "line", "worths", "filling"] ["steps", "cells", "rule"] (defScope s_spoiling) := ⟨rfl, rfl, rfl, by decide +kernel, rfl, by decide +kernel, by decide +kernel⟩
theorem sc_sure : FnScope ["steps", "cells", "rule"] ["steps", "cells", "rule"] (defScope s_sure) := ⟨rfl, rfl, rfl, by decide +kernel, rfl, by decide +kernel, by decide +kernel⟩
theorem sc_keeping : FnScope ["steps", "line", "rule", "worths"] ["steps", "line", "rule"] (defScope s_keeping) := ⟨rfl, rfl, rfl, by decide +kernel, rfl, by decide +kernel, by decide +kernel⟩
theorem sc_mending : FnScope ["steps", "cells", "rule", "filling", "line", "worths"] ["steps", "cells", "rule"] (defScope s_mending) := ⟨rfl, rfl, rfl, by decide +kernel, rfl, by decide +kernel, by decide +kernel⟩
theorem sc_law_cell : FnScope ["_law_script", "_law_k"] ["_law_script", "_law_k"] (defScope s_law_cell) := ⟨rfl, rfl, rfl, by decide +kernel, rfl, by decide +kernel, by decide +kernel⟩
theorem sc_law_marks : FnScope ["_law_many", "_law_kind", "_law_far", "_law_number", "_law_row", "_law_k", "_law_gap_here"] ["_law_many", "_law_kind", "_law_far", "_law_number"] (defScope s_law_marks) := ⟨rfl, rfl, rfl, by decide +kernel, rfl, by decide +kernel, by decide +kernel⟩
theorem sc_law_steps : FnScope ["_law_script", "_law_many", "_law_at", "_law_made", "_law_room", "_law_k", "_law_form", "_law_size", "_law_number"] ["_law_script", "_law_many", "_law_at"] (defScope s_law_steps) := ⟨rfl, rfl, rfl, by decide +kernel, rfl, by decide +kernel, by decide +kernel⟩
theorem sc_law_worth : FnScope ["_law_row", "_law_number", "_law_mark", "_law_kind"] ["_law_row", "_law_number"] (defScope s_law_worth) := ⟨rfl, rfl, rfl, by decide +kernel, rfl, by decide +kernel, by decide +kernel⟩
theorem sc_law_gap : FnScope ["_law_row", "_law_one", "_law_other", "_law_low", "_law_high"] ["_law_row", "_law_one", "_law_other"] (defScope s_law_gap) := ⟨rfl, rfl, rfl, by decide +kernel, rfl, by decide +kernel, by decide +kernel⟩
theorem sc_law_cells : FnScope ["_law_steps_here", "_law_drawn", "_law_size", "_law_made", "_law_k", "_law_row", "_law_trait", "_law_at"] ["_law_steps_here", "_law_drawn"] (defScope s_law_cells) := ⟨rfl, rfl, rfl, by decide +kernel, rfl, by decide +kernel, by decide +kernel⟩
theorem sc_law_columns : FnScope ["_law_steps_here", "_law_worths", "_law_mask", "_law_at", "_law_trait", "_law_mark"] ["_law_steps_here", "_law_worths"] (defScope s_law_columns) := ⟨rfl, rfl, rfl, by decide +kernel, rfl, by decide +kernel, by decide +kernel⟩
theorem sc_law_breaks : FnScope ["_law_mask", "_law_rule"] ["_law_mask", "_law_rule"] (defScope s_law_breaks) := ⟨rfl, rfl, rfl, by decide +kernel, rfl, by decide +kernel, by decide +kernel⟩
theorem sc_law_filling : FnScope ["_law_told", "_law_cells_here", "_law_k", "_law_trait", "_law_worth_here"] ["_law_told", "_law_cells_here"] (defScope s_law_filling) := ⟨rfl, rfl, rfl, by decide +kernel, rfl, by decide +kernel, by decide +kernel⟩
theorem sc_law_broken : FnScope ["_law_steps_here", "_law_filling_here", "_law_rule", "_law_worths"] ["_law_steps_here", "_law_filling_here", "_law_rule"] (defScope s_law_broken) := ⟨rfl, rfl, rfl, by decide +kernel, rfl, by decide +kernel, by decide +kernel⟩
theorem sc_law_side : FnScope ["_law_number", "_law_width", "_law_single"] ["_law_number", "_law_width", "_law_single"] (defScope s_law_side) := ⟨rfl, rfl, rfl, by decide +kernel, rfl, by decide +kernel, by decide +kernel⟩
theorem sc_law_drawn_rule : FnScope ["_law_script", "_law_steps_here", "_law_width", "_law_form", "_law_ahead"] ["_law_script", "_law_steps_here"] (defScope s_law_drawn_rule) := ⟨rfl, rfl, rfl, by decide +kernel, rfl, by decide +kernel, by decide +kernel⟩
theorem sc_law_copy : FnScope ["_law_lists"] ["_law_lists"] (defScope s_law_copy) := ⟨rfl, rfl, rfl, by decide +kernel, rfl, by decide +kernel, by decide +kernel⟩
theorem sc_law_sets : FnScope ["_law_steps_here", "_law_row", "_law_masks", "_law_at", "_law_trait", "_law_some", "_law_part", "_law_k", "_law_below", "_law_grow", "_law_mask"] ["_law_steps_here", "_law_row"] (defScope s_law_sets) := ⟨rfl, rfl, rfl, by decide +kernel, rfl, by decide +kernel, by decide +kernel⟩
theorem sc_law : FnScope ["_law_script", "_law_many", "_law_steps_here", "_law_rule", "_law_cells_here", "_law_may_break", "_law_may_hold", "_law_row", "_law_broken_here", "_law_handed", "_law_spoilt", "_law_mended", "_law_kept"] ["_law_script"] (defScope s_law) := ⟨rfl, rfl, rfl, by decide +kernel, rfl, by decide +kernel, by decide +kernel⟩
theorem b_bool : bootBuiltins "bool" = some (.type "bool") := by decide +kernel
theorem b_enumerate : bootBuiltins "enumerate" = some (.type "enumerate") := by decide +kernel
theorem b_int : bootBuiltins "int" = some (.type "int") := by decide +kernel
theorem b_isinstance : bootBuiltins "isinstance" = some (.builtin "isinstance") := by decide +kernel
theorem b_list : bootBuiltins "list" = some (.type "list") := by decide +kernel
theorem b_max : bootBuiltins "max" = some (.builtin "max") := by decide +kernel
theorem b_min : bootBuiltins "min" = some (.builtin "min") := by decide +kernel
theorem b_range : bootBuiltins "range" = some (.type "range") := by decide +kernel
theorem b_sum : bootBuiltins "sum" = some (.builtin "sum") := by decide +kernel
theorem b_zip : bootBuiltins "zip" = some (.type "zip") := by decide +kernel
theorem nd_spread_0 : ((["step"] : List Str) ++ (["steps", "worths", "reached", "marks", "worth"] : List Str).map (hide ["step"])).Nodup := by decide +kernel
theorem nd_spread_1 : ((["column", "has"] : List Str) ++ (["steps", "worths", "reached", "marks", "worth"] : List Str).map (hide ["column", "has"])).Nodup := by decide +kernel
theorem nd_steps_of_2 : ((["place", "step"] : List Str) ++ (["steps", "mask", "chosen", "marks"] : List Str).map (hide ["place", "step"])).Nodup := by decide +kernel
theorem nd_lows_3 : ((["cell"] : List Str) ++ (["line"] : List Str).map (hide ["cell"])).Nodup := by decide +kernel
theorem nd_highs_4 : ((["cell"] : List Str) ++ (["line"] : List Str).map (hide ["cell"])).Nodup := by decide +kernel
theorem nd_lows_reaching_5 : ((["cell", "marks"] : List Str) ++ (["line", "wanted"] : List Str).map (hide ["cell", "marks"])).Nodup := by decide +kernel
theorem nd_spoiling_6 : ((["other"] : List Str) ++ (["steps", "cells", "rule", "wanted", "thing", "line", "worths", "filling"] : List Str).map (hide ["other"])).Nodup := by decide +kernel
theorem nd_law_marks_7 : ((["_law_mark"] : List Str) ++ (["_law_many", "_law_kind", "_law_far", "_law_number", "_law_row", "_law_k", "_law_gap_here"] : List Str).map (hide ["_law_mark"])).Nodup := by decide +kernel
theorem nd_law_cells_8 : ((["_law_cell_here"] : List Str) ++ (["_law_steps_here", "_law_drawn", "_law_size", "_law_made", "_law_k", "_law_row", "_law_trait", "_law_at"] : List Str).map (hide ["_law_cell_here"])).Nodup := by decide +kernel
theorem nd_law_drawn_rule_9 : ((["_law_row"] : List Str) ++ (["_law_script", "_law_steps_here", "_law_width", "_law_form", "_law_ahead"] : List Str).map (hide ["_law_row"])).Nodup := by decide +kernel
theorem nd_law_copy_10 : ((["_law_row"] : List Str) ++ (["_law_lists"] : List Str).map (hide ["_law_row"])).Nodup := by decide +kernel
theorem nd_law_sets_11 : ((["_law_part"] : List Str) ++ (["_law_steps_here", "_law_row", "_law_masks", "_law_at", "_law_trait", "_law_some", "_law_part", "_law_k", "_law_below", "_law_grow", "_law_mask"] : List Str).map (hide ["_law_part"])).Nodup := by decide +kernel
theorem nd_law_12 : ((["_law_mask"] : List Str) ++ (["_law_script", "_law_many", "_law_steps_here", "_law_rule", "_law_cells_here", "_law_may_break", "_law_may_hold", "_law_row", "_law_broken_here", "_law_handed", "_law_spoilt", "_law_mended", "_law_kept"] : List Str).map (hide ["_law_mask"])).Nodup := by decide +kernel
section
variable {P : Program} {w : World} {K : PySem.W.Frag} {mg : Str → Option Value} {base : Heap}
def optV : Option Nat → V
  | none => .non
  | some k => .int k
/-- rules on the heap -/
def Ruls (H : Hp) (prs : List (Addr × Nat × Nat)) : Prop := ∀ q ∈ prs, H q.1 = some (.tup [nv q.2.1, nv q.2.2])
def refs (prs : List (Addr × Nat × Nat)) : List V := prs.map fun q => V.ref q.1
def rulesOf (prs : List (Addr × Nat × Nat)) : List (Nat × Nat) := prs.map (·.2)
theorem Ruls.same {H H' : Hp} {prs : List (Addr × Nat × Nat)} (h : Ruls H prs) (g : Same H H') : Ruls H' prs := fun q hq => g _ _ (h q hq)
theorem rulesOf_len (prs : List (Addr × Nat × Nat)) : (rulesOf prs).length = prs.length := List.length_map ..
theorem rulesOf_getD {prs : List (Addr × Nat × Nat)} {i : Nat} (h : i < prs.length) : (rulesOf prs).getD i (0, 0) = prs[i].2 := by
  rw [getD_lt (by rw [rulesOf_len]; exact h)]
  exact List.getElem_map ..
theorem tup0 (x y : V) : atI [x, y] 0 = some x := rfl
theorem tup1 (x y : V) : atI [x, y] 1 = some y := rfl
theorem opt_non (o : Option Nat) : decide (optV o = .non) = o.isNone := by
  cases o with
  | none => rfl
  | some k => exact decide_eq_false (fun z => nomatch z)
theorem and_dec (a b c : Nat) : decide (V.int (Builtin.bitAnd (a : Int) (b : Int)) = V.int (c : Int)) = decide (a &&& b = c) := by
  rw [and_nat, dec_int, Bool.eq_iff_iff]; simp only [beq_iff_eq, decide_eq_true_eq]; omega
def spBreaks : Sp := fun vs H Q _ => ∃ (m : Nat) (t : Addr) (x y : Nat), vs = [.int m, .ref t] ∧ H t = some (.tup [nv x, nv y]) ∧ Q (.bl (brk m (x, y))) H
def spBreaker (K : PySem.W.Frag) : Sp := fun vs H Q _ => ∃ (a : Addr) (rs : List Nat) (t : Addr) (x y : Nat), vs = [.ref a, .ref t] ∧ SqL K H a (rs.map nv) ∧ H t = some (.tup [nv x, nv y]) ∧ ∀ H', Same H H' → Q (optV (firstB rs (x, y))) H'
def spHolds (K : PySem.W.Frag) : Sp := fun vs H Q _ => ∃ (a : Addr) (rs : List Nat) (t : Addr) (x y : Nat), vs = [.ref a, .ref t] ∧ SqL K H a (rs.map nv) ∧ H t = some (.tup [nv x, nv y]) ∧ ∀ H', Same H H' → Q (.bl (firstB rs (x, y)).isNone) H'
def spFirstR (K : PySem.W.Frag) : Sp := fun vs H Q _ => ∃ (a : Addr) (prs : List (Addr × Nat × Nat)) (m : Nat), vs = [.ref a, .int m] ∧ SqL K H a (refs prs) ∧ Ruls H prs ∧ ∀ H', Same H H' → Q (optV (firstR (rulesOf prs) m)) H'
def spGrown (K : PySem.W.Frag) : Sp := fun vs H Q _ => ∃ (a : Addr) (prs : List (Addr × Nat × Nat)) (m N : Nat), vs = [.ref a, .int m] ∧ SqL K H a (refs prs) ∧ Ruls H prs ∧ m < 2 ^ N ∧ (∀ r ∈ rulesOf prs, r.2 < 2 ^ N) ∧ ∀ g, IsGrown (rulesOf prs) m g → g < 2 ^ N → Q (.int (g : Nat)) H
def spWay (K : PySem.W.Frag) : Sp := fun vs H Q _ => ∃ (a : Addr) (prs : List (Addr × Nat × Nat)) (t : Addr) (x y N : Nat), vs = [.ref a, .ref t] ∧ SqL K H a (refs prs) ∧ Ruls H prs ∧ H t = some (.tup [nv x, nv y]) ∧ N ≤ 20 ∧ x < 2 ^ N ∧ (∀ r ∈ rulesOf prs, r.2 < 2 ^ N) ∧
  (∀ H' g, Same H H' → IsGrown (rulesOf prs) x g → ¬ y &&& g = y → Q .non H') ∧ (∀ H' p ps, Same H H' → H' p = some (.lst (ps.map nv)) → IsPaper (rulesOf prs) (x, y) ps → Q (.ref p) H')
theorem Ruls.upd_lst {H : Hp} {prs : List (Addr × Nat × Nat)} {p : Addr} {xs ys : List V} (h : Ruls H prs) (hp : H p = some (.lst xs)) : Ruls (upd H p (.lst ys)) prs := fun q hq => by
  rw [upd_ne (ne_of (h q hq) hp (by intro z; cases z))]
  exact h q hq
theorem Ruls.snoc {H : Hp} {prs : List (Addr × Nat × Nat)} {t : Addr} {x y : Nat} (h : Ruls H prs) (ht : H t = some (.tup [nv x, nv y])) : Ruls H (prs ++ [(t, x, y)]) := fun q hq => by
  rcases List.mem_append.mp hq with z | z
  · exact h q z
  · have : q = (t, x, y) := by simpa using z
    rw [this]; exact ht
theorem Ruls.nil {H : Hp} : Ruls H [] := fun _ h => nomatch h
theorem refs_snoc (prs : List (Addr × Nat × Nat)) (t : Addr) (x y : Nat) : refs (prs ++ [(t, x, y)]) = refs prs ++ [.ref t] := by
  unfold refs
  rw [List.map_append]; rfl
theorem refs_len (prs : List (Addr × Nat × Nat)) : (refs prs).length = prs.length := List.length_map ..
theorem refs_at (prs : List (Addr × Nat × Nat)) (j : Nat) (h : j < prs.length) : (refs prs)[j]'(by rw [refs_len]; exact h) = .ref prs[j].1 := List.getElem_map ..
theorem refs_same {K : PySem.W.Frag} {H : Hp} (prs : List (Addr × Nat × Nat)) (j : Nat) (h1 h2 : j < (refs prs).length) : EqI K H (refs prs)[j] (refs prs)[j] true := by
  rw [refs_at prs j (by rw [← refs_len]; exact h1)]
  exact .same _
theorem rulesOf_snoc (prs : List (Addr × Nat × Nat)) (t : Addr) (x y : Nat) : rulesOf (prs ++ [(t, x, y)]) = rulesOf prs ++ [(x, y)] := by
  unfold rulesOf
  rw [List.map_append]; rfl
theorem shl_nat (a k : Nat) : (a : Int) * 2 ^ (k : Int).toNat = ((a * 2 ^ k : Nat) : Int) := by simp
theorem cshl {a k : Nat} (ha : a < 2 ^ 64) (hk : k ≤ 1000000) : CPow (a : Int) (k : Int) := ⟨by omega, by omega, by rw [Int.natAbs_natCast]; exact ha⟩
theorem seq_join {t u : TS} {D : Ends} {σ : St} {H : Hp} (R : St → Hp → Prop) (go : ∀ σ' H', R σ' H' → u D σ' H') (h : ∀ nx' : St → Hp → Prop, (∀ σ' H', R σ' H' → nx' σ' H') → t { D with nx := nx' } σ H) : tSeq t u D σ H := h (u D) go
theorem bnd_snoc {N : Nat} {rl : List (Nat × Nat)} {x y : Nat} (h : ∀ r ∈ rl, r.2 < 2 ^ N) (hy : y < 2 ^ N) : ∀ r ∈ rl ++ [(x, y)], r.2 < 2 ^ N := fun r hr => by
  rcases List.mem_append.mp hr with z | z
  · exact h r z
  · have : r = (x, y) := by simpa using z
    rw [this]; exact hy
theorem bnd_nil {N : Nat} : ∀ r ∈ ([] : List (Nat × Nat)), r.2 < 2 ^ N := fun _ h => nomatch h
theorem cutV_map {α : Type} (f : α → V) (xs : List α) (lo hi : Option Int) : ∃ ys : List α, cutV (xs.map f) lo hi = ys.map f ∧ ys.length ≤ xs.length := by
  unfold cutV
  refine ⟨(xs.drop (HT.sIx (xs.map f).length 0 lo)).take (HT.sIx (xs.map f).length (xs.map f).length hi - HT.sIx (xs.map f).length 0 lo), ?_, ?_⟩
  · rw [← List.map_drop, ← List.map_take]
  · rw [List.length_take, List.length_drop]; omega
theorem two_line : 2 ≤ sizeLine := by rw [sizeLine_eq]; decide
theorem ok_mask_of {f_mask_of : Addr} {fd_mask_of : FuncData} (F_mask_of : Fun K "mask_of" "mask_of" s_mask_of f_mask_of fd_mask_of) :
    FnOk P w K mg base CX0 1 f_mask_of fd_mask_of ["places"] (spMask K) := by
  refine F_mask_of.ok sc_mask_of (fun vs H Q E h => ?_) (fun cdv A outer s H vs Q E hr h => ?_)
  · obtain ⟨a, ks, rfl, hS, hk, q⟩ := h
    rfl
  obtain ⟨a, ks, rfl, hS, hk, q⟩ := h
  refine ⟨_, (pss_cons (ps_set (i := 1) sc_mask_of.nd rfl (Or.inl rfl) pe_int)
      (pss_cons (ps_for PassesOwn.never rfl (pi_listK (K := K) rfl (pv 0)) (pg_name (i := 2) sc_mask_of.nd rfl (Or.inl rfl)) (pss_one (ps_set (i := 1) sc_mask_of.nd rfl (Or.inl rfl) (pe_op op_or (pv 1) (pe_op op_shl pe_int (pv 2))))))
      (pss_one (ps_ret (pv 1))))), ?_⟩
  refine ⟨_, rfl, a, rfl, ⟨_, hS⟩, for_list (K := K) (a := a) (xs := ks.map nv) (fun i σ H2 => ∃ (v : Option V), σ = [some (.ref a), some (.int ((ks.take i).foldl (fun m k => m ||| 2 ^ k) 0 : Nat)), v] ∧ H = H2)
    ⟨none, rfl, rfl⟩ (fun i σ H2 _ ⟨_, _, e⟩ => e ▸ hS) ?_ ?_⟩
  · rintro i y σ H2 hi ⟨v, rfl, rfl⟩
    obtain ⟨hil, rfl⟩ := getI hi
    refine ⟨_, rfl, _, rfl, _, _, rfl, rfl, cpow _ (hk _ (List.getElem_mem hil)), _, _, rfl, rfl, ?_⟩
    refine ⟨some (nv ks[i]), ?_, rfl⟩
    show [_, some (V.int (Builtin.bitOr _ (1 * 2 ^ ((ks[i] : Nat) : Int).toNat))), _] = _
    rw [or_pow, ← List.take_append_getElem hil, List.foldl_append]
    rfl
  · rintro σ H2 ⟨v, rfl, rfl⟩
    refine ⟨_, rfl, ?_⟩
    rw [List.length_map, List.take_length, fold_or, Nat.zero_or]
    exact q
theorem ok_within {f_within : Addr} {fd_within : FuncData} (F_within : Fun K "within" "within" s_within f_within fd_within) :
    FnOk P w K mg base CX0 1 f_within fd_within ["small", "large"] (spWithin) := by
  refine F_within.ok sc_within (fun vs H Q E h => ?_) (fun cdv A outer s H vs Q E hr h => ?_)
  · obtain ⟨a, b, rfl, q⟩ := h
    rfl
  obtain ⟨a, b, rfl, q⟩ := h
  refine ⟨_, (pss_one (ps_ret (pe_cmpR op_eq (pe_op op_and (pv 0) (pv 1)) (pv 0) (nomark _)))), ?_⟩
  refine ⟨_, rfl, _, rfl, _, _, rfl, rfl, _, rfl, rfl, ?_⟩
  show Q (.bl (decide (V.int (Builtin.bitAnd (a : Int) (b : Int)) = V.int (a : Int)))) H
  rw [and_nat]
  have e : decide (V.int ((a &&& b : Nat) : Int) = V.int (a : Int)) = decide (a &&& b = a) := by
    rw [dec_int, Bool.eq_iff_iff]; simp only [beq_iff_eq, decide_eq_true_eq]; omega
  rw [e]
  exact q
theorem ok_breaks {f_breaks : Addr} {fd_breaks : FuncData} (F_breaks : Fun K "breaks" "breaks" s_breaks f_breaks fd_breaks)
    {f_within : Addr} {fd_within : FuncData} (G_within : FnOk P w K mg base CX0 1 f_within fd_within ["small", "large"] (spWithin)) (b_within : Binds K fd_within ["small", "large"] []) (k_within : PySem.W.keepIn K (.ref f_within) = true) (m_within : mg "within" = some (.ref f_within)) :
    FnOk P w K mg base CX0 2 f_breaks fd_breaks ["row", "rule"] (spBreaks) := by
  refine F_breaks.ok sc_breaks (fun vs H Q E h => ?_) (fun cdv A outer s H vs Q E hr h => ?_)
  · obtain ⟨m, t, x, y, rfl, hT, q⟩ := h
    rfl
  obtain ⟨m, t, x, y, rfl, hT, q⟩ := h
  refine ⟨_, (pss_one (ps_ret (pe_and (pe_call G_within (hr.mono (by decide)) rfl m_within k_within b_within .nil pass0 (pa_cons (pe_ix (ix_tupK (K := K) rfl) (pv 1) pe_int (by intro _ _; rfl)) (pa_cons (pv 0) pa_nil))) (pe_one (pe_not (pe_call G_within (hr.mono (by decide)) rfl m_within k_within b_within .nil pass0 (pa_cons (pe_ix (ix_tupK (K := K) rfl) (pv 1) pe_int (by intro _ _; rfl)) (pa_cons (pv 0) pa_nil)))))))), ?_⟩
  refine ⟨_, rfl, t, _, _, _, rfl, rfl, SqT.of hT, tup0 _ _, _, rfl, x, m, rfl, _, rfl, ?_⟩
  by_cases hc : x &&& m = x
  · rw [decide_eq_true hc, if_pos rfl]
    refine ⟨_, rfl, t, _, _, _, rfl, rfl, SqT.of hT, tup1 _ _, _, rfl, y, m, rfl, _, rfl, ?_⟩
    have e : brk m (x, y) = !decide (y &&& m = y) := by
      show (decide (x &&& m = x) && _) = _
      rw [decide_eq_true hc]; rfl
    rw [e] at q
    exact q
  · rw [decide_eq_false hc, if_neg Bool.false_ne_true]
    have e : brk m (x, y) = false := by
      show (decide (x &&& m = x) && _) = _
      rw [decide_eq_false hc]; rfl
    rw [e] at q
    exact q
/-! ### lists of lists of ints on the heap -/
def Lsts (H : Hp) (ps : List (Addr × List Int)) : Prop := ∀ q ∈ ps, H q.1 = some (.lst (q.2.map V.int))
def refs1 {α : Type} (ps : List (Addr × α)) : List V := ps.map fun q => V.ref q.1
def snds {α : Type} (ps : List (Addr × α)) : List α := ps.map (·.2)
theorem Lsts.same {H H' : Hp} {ps : List (Addr × List Int)} (h : Lsts H ps) (g : Same H H') : Lsts H' ps := fun q hq => g _ _ (h q hq)
theorem Lsts.snoc {H : Hp} {ps : List (Addr × List Int)} {a : Addr} {xs : List Int} (h : Lsts H ps) (ha : H a = some (.lst (xs.map V.int))) : Lsts H (ps ++ [(a, xs)]) := fun q hq => by
  rcases List.mem_append.mp hq with z | z
  · exact h q z
  · have : q = (a, xs) := by simpa using z
    rw [this]; exact ha
theorem Lsts.nil {H : Hp} : Lsts H [] := fun _ h => nomatch h
theorem refs1_len {α : Type} (ps : List (Addr × α)) : (refs1 ps).length = ps.length := List.length_map ..
theorem snds_len {α : Type} (ps : List (Addr × α)) : (snds ps).length = ps.length := List.length_map ..
theorem refs1_snoc {α : Type} (ps : List (Addr × α)) (a : Addr) (xs : α) : refs1 (ps ++ [(a, xs)]) = refs1 ps ++ [.ref a] := by unfold refs1; rw [List.map_append]; rfl
theorem snds_snoc {α : Type} (ps : List (Addr × α)) (a : Addr) (xs : α) : snds (ps ++ [(a, xs)]) = snds ps ++ [xs] := by unfold snds; rw [List.map_append]; rfl
theorem snds_at {α : Type} {ps : List (Addr × α)} {i : Nat} (h : i < ps.length) : (snds ps)[i]'(by rw [snds_len]; exact h) = ps[i].2 := List.getElem_map ..
theorem wide_take (sts : List (List Int)) (i : Nat) : wideN (sts.take i) ≤ wideN sts := by
  unfold wideN
  have h := List.take_append_drop i sts
  have : ((sts.take i ++ sts.drop i).map List.length).sum = (sts.map List.length).sum := by rw [h]
  rw [List.map_append, List.sum_append] at this
  omega
theorem wide_mem {sts : List (List Int)} {m : List Int} (h : m ∈ sts) : m.length ≤ wideN sts := by
  unfold wideN
  induction sts with
  | nil => exact nomatch h
  | cons a sts ih =>
    rw [List.map_cons, List.sum_cons]
    rcases List.mem_cons.mp h with z | z
    · rw [z]; omega
    · have := ih z; omega
theorem intI {xs : List Int} {i : Nat} {y : V} (h : (xs.map V.int)[i]? = some y) : ∃ (hi : i < xs.length), y = .int xs[i] := getI h
theorem ref1I {α : Type} {ps : List (Addr × α)} {i : Nat} {y : V} (h : (refs1 ps)[i]? = some y) : ∃ (hi : i < ps.length), y = .ref ps[i].1 := getI h
def spSpread (K : PySem.W.Frag) : Sp := fun vs H Q _ => ∃ (p : Addr) (ps : List (Addr × List Int)) (q : Addr) (ws : List Int), vs = [.ref p, .ref q] ∧ SqL K H p (refs1 ps) ∧ Lsts H ps ∧ SqL K H q (ws.map V.int) ∧ ps.length = ws.length ∧ wideN (snds ps) ≤ 100 ∧ ∀ H', Same H H' → Q (.int (spreadN (snds ps) ws : Nat)) H'
theorem ok_spread {f_spread : Addr} {fd_spread : FuncData} (F_spread : Fun K "spread" "spread" s_spread f_spread fd_spread)
    {f_mask_of : Addr} {fd_mask_of : FuncData} (G_mask_of : FnOk P w K mg base CX0 1 f_mask_of fd_mask_of ["places"] (spMask K)) (b_mask_of : Binds K fd_mask_of ["places"] []) (k_mask_of : PySem.W.keepIn K (.ref f_mask_of) = true) (m_mask_of : mg "mask_of" = some (.ref f_mask_of))
    (z_zip : mg "zip" = none)
    (z_enumerate : mg "enumerate" = none) :
    FnOk P w K mg base CX0 2 f_spread fd_spread ["steps", "worths"] (spSpread K) := by
  refine F_spread.ok sc_spread (fun vs H Q E h => ?_) (fun cdv A outer s H vs Q E hr h => ?_)
  · obtain ⟨p, ps, qa, ws, rfl, hp, hL, hq, hlen, hwide, q⟩ := h
    rfl
  obtain ⟨p, ps, qa, ws, rfl, hp, hL, hq, hlen, hwide, q⟩ := h
  refine ⟨_, (pss_cons (ps_set (i := 2) sc_spread.nd rfl (Or.inl rfl) (pe_lst pa_nil))
      (pss_cons (ps_for PassesOwn.never rfl (pi_zipK (K := K) rfl rfl z_zip (pa_cons (pv 0) (pa_cons (pv 1) pa_nil))) (pg_tupK (K := K) (n := 2) rfl rfl (pgs_cons (pg_name (i := 3) sc_spread.nd rfl (Or.inl rfl)) (pgs_cons (pg_name (i := 4) sc_spread.nd rfl (Or.inr rfl)) pgs_nil))) (pss_one (ps_expr (pe_bmK (K := K) rfl PySem.F.plainAttrs_list PySem.F.slot_list_extend PySem.F.type_list_extend mt_extend (pv 2) (pa_cons (pe_comp (own := ["step"]) rfl (pi_listK (K := K) rfl (pv 3)) (fun _ _ _ _ _ => (pg_name (i := 0) nd_spread_0 rfl (Or.inl rfl))) (fun _ _ _ _ _ => pif_nil) (fun _ _ _ _ _ => (pe_cmpR op_ge (pv 5) (pv 0) (nomark _)))) pa_nil)))))
      (pss_one (ps_ret (pe_call G_mask_of (hr.mono (by decide)) rfl m_mask_of k_mask_of b_mask_of .nil pass0 (pa_cons (pe_comp (own := ["column", "has"]) rfl (pi_enumK (K := K) rfl rfl z_enumerate (pa_cons (pv 2) pa_nil)) (fun _ _ _ _ _ => (pg_tupK (K := K) (n := 2) rfl rfl (pgs_cons (pg_name (i := 0) nd_spread_1 rfl (Or.inl rfl)) (pgs_cons (pg_name (i := 1) nd_spread_1 rfl (Or.inl rfl)) pgs_nil)))) (fun _ _ _ _ _ => (pif_one (pt_val (pv 1)))) (fun _ _ _ _ _ => (pv 0))) pa_nil)))))), ?_⟩
  refine ⟨Nat.zero_le _, fun r hr => ?_⟩
  have k1 := same_new hr (.lst ([] : List V))
  have h1 : (upd H r (.lst ([] : List V))) r = some (.lst ((reachL ((snds ps).take 0) (ws.take 0)).map V.bl)) := by
    rw [List.take_zero, List.take_zero]; exact upd_same
  generalize upd H r (.lst ([] : List V)) = H1 at k1 h1
  refine ⟨_, rfl, _, rfl, p, qa, rfl, ⟨_, k1.seq hp⟩, ⟨_, k1.seq hq⟩, ?_⟩
  refine for_zip (K := K) (a := p) (b := qa) (xs := refs1 ps) (ys := ws.map V.int) (by rw [refs1_len, List.length_map]; exact hlen) (fun i σ H2 => ∃ (v1 v2 : Option V), σ = [some (.ref p), some (.ref qa), some (.ref r), v1, v2] ∧ H2 r = some (.lst ((reachL ((snds ps).take i) (ws.take i)).map V.bl)) ∧ Same H H2) ⟨_, _, rfl, h1, k1⟩ (fun i σ H2 _ ⟨_, _, _, _, g⟩ => ⟨g.seq hp, g.seq hq⟩) ?_ ?_
  · rintro i x y σ H2 t hx hy ⟨v1, v2, rfl, h2, g2⟩ ht
    obtain ⟨hip, rfl⟩ := ref1I hx
    obtain ⟨hiw, rfl⟩ := intI hy
    have k3 := same_new ht (.tup [.ref ps[i].1, .int ws[i]])
    have h3 : (upd H2 t (.tup [.ref ps[i].1, .int ws[i]])) t = some (.tup [.ref ps[i].1, .int ws[i]]) := upd_same
    have h23 := k3 _ _ h2
    have g3 := g2.trans k3
    generalize upd H2 t (.tup [.ref ps[i].1, .int ws[i]]) = H3 at k3 h3 h23 g3
    have hM := g3 _ _ (hL _ (List.getElem_mem hip))
    have hml : ps[i].2.length ≤ wideN (snds ps) := wide_mem (by rw [← snds_at hip]; exact List.getElem_mem _)
    refine ⟨t, _, rfl, SqT.of h3, rfl, _, _, rfl, _, _, rfl, rfl, _, rfl, .inl ⟨rfl, _, SqL.of h23⟩, _, rfl, ps[i].1, rfl, ⟨_, SqL.of hM⟩, ?_⟩
    refine comp_list (K := K) (a := ps[i].1) (xs := ps[i].2.map V.int) (fun j ys H4 => ys = ((ps[i].2.take j).map (fun s => decide (s ≤ ws[i]))).map V.bl ∧ H3 = H4) (by rw [List.length_map]; exact line1000 (by omega)) ⟨rfl, rfl⟩ (fun j ys H4 hj h => ?_) (fun j ys H4 hj h => ?_) (fun j z ys H4 hj h => ?_) (fun ys H4 h => ?_)
    · rw [h.1, List.length_map, List.length_map, List.length_take]; omega
    · rw [← h.2]; exact SqL.of hM
    · obtain ⟨rfl, rfl⟩ := h
      obtain ⟨hjl, rfl⟩ := intI hj
      refine ⟨rfl, _, rfl, _, rfl, _, _, rfl, rfl, ?_, rfl⟩
      rw [← List.take_append_getElem hjl, List.map_append, List.map_append]
      rfl
    · obtain ⟨rfl, rfl⟩ := h
      intro b hb
      rw [List.length_map, List.take_length]
      have hbr : r ≠ b := ne_of_none h23 hb
      have g4 := same_one g3 hb (.lst ((ps[i].2.map (fun s => decide (s ≤ ws[i]))).map V.bl))
      have hrl : (reachL ((snds ps).take i) (ws.take i)).length ≤ 100 := by
        rw [reach_len (by rw [List.length_take, List.length_take, snds_len, hlen])]
        exact Nat.le_trans (wide_take _ _) hwide
      refine ⟨r, b, _, _, rfl, rfl, by rw [upd_ne hbr]; exact h23, upd_same, by rw [List.length_map, List.length_map, List.length_map, sizeLine_eq]; omega, _, _, rfl, ?_, same_upd g4 hr _⟩
      rw [upd_same, ← List.take_append_getElem (show i < (snds ps).length by rw [snds_len]; exact hip), ← List.take_append_getElem hiw, reach_snoc _ _ (by rw [List.length_take, List.length_take, snds_len, hlen]), List.map_append, snds_at hip]
  rintro σ H2 ⟨v1, v2, rfl, h2, g2⟩
  have e1 : (snds ps).take (refs1 ps).length = snds ps := by rw [refs1_len, ← snds_len]; exact List.take_length
  have e2 : ws.take (refs1 ps).length = ws := by rw [refs1_len, hlen]; exact List.take_length
  rw [e1, e2] at h2
  have hrl : (reachL (snds ps) ws).length ≤ 100 := by rw [reach_len (by rw [snds_len, hlen])]; exact hwide
  have et : spreadN (snds ps) ws = maskN (trueIx (reachL (snds ps) ws)) := rfl
  rw [et] at q
  generalize reachL (snds ps) ws = bs at h2 hrl q
  refine ⟨_, rfl, r, rfl, ⟨_, SqL.of h2⟩, ?_⟩
  refine comp_enum (K := K) (a := r) (xs := bs.map V.bl) (fun i ys H3 => ys = ((List.range i).filter fun j => bs.getD j false).map nv ∧ Same H2 H3) (by rw [List.length_map]; exact line1000 (by omega)) ⟨rfl, Same.refl _⟩ (fun i ys H3 hi h => ?_) (fun i ys H3 hi h => SqL.of (h.2 _ _ h2)) (fun i x ys H3 t hi h ht => ?_) (fun ys H3 h => ?_)
  · rw [h.1, List.length_map]
    exact Nat.le_trans (List.length_filter_le _ _) (by rw [List.length_range]; exact Nat.le_refl _)
  · obtain ⟨rfl, g⟩ := h
    obtain ⟨hil, rfl⟩ := getI hi
    have g3 := same_one g ht (.tup [.int i, .bl bs[i]])
    refine ⟨t, _, rfl, SqT.of upd_same, rfl, _, _, rfl, _, _, rfl, rfl, rfl, _, rfl, _, rfl, ?_⟩
    rw [List.range_succ, List.filter_append, List.map_append]
    cases hb : bs[i] with
    | true =>
      refine iteT ⟨_, rfl, ?_, by rw [hb] at g3; exact g3⟩
      rw [List.filter_cons_of_pos (by rw [getD_lt hil]; exact hb), List.filter_nil]
      rfl
    | false =>
      refine iteF ⟨?_, by rw [hb] at g3; exact g3⟩
      rw [List.filter_cons_of_neg (by rw [getD_lt hil, hb]; decide), List.filter_nil, List.map_nil, List.append_nil]
  · obtain ⟨rfl, g⟩ := h
    intro b hb
    rw [List.length_map]
    refine ⟨b, trueIx bs, rfl, SqL.of upd_same, fun k hk => ?_, q _ (same_one (g2.trans g) hb _)⟩
    unfold trueIx at hk
    rw [List.mem_filter, List.mem_range] at hk
    omega
theorem ok_law_cell {f_law_cell : Addr} {fd_law_cell : FuncData} (F_law_cell : Fun K "_law_cell" "_law_cell" s_law_cell f_law_cell fd_law_cell)
    (z_len : mg "len" = none) :
    FnOk P w K mg base CX0 1 f_law_cell fd_law_cell ["_law_script", "_law_k"] (spCell K) := by
  refine F_law_cell.ok sc_law_cell (fun vs H Q E h => ?_) (fun cdv A outer s H vs Q E hr h => ?_)
  · obtain ⟨a, ns, k, rfl, hS, q⟩ := h
    rfl
  obtain ⟨a, ns, k, rfl, hS, q⟩ := h
  refine ⟨_, (pss_cons (ps_if (pt_cmpR op_lt (pv 1) (pe_callB (len_seqK (K := K) rfl) rfl z_len PySem.boot_len (pa_cons (pv 0) pa_nil)) (nomark _)) (pss_one (ps_ret (pe_ix (ix_listK (K := K) rfl) (pv 0) (pv 1) (by intro _ _; rfl)))) pss_nil)
      (pss_one (ps_ret pe_int))), ?_⟩
  refine ⟨_, rfl, _, rfl, a, _, rfl, .inl hS, _, _, rfl, rfl, _, rfl, ?_⟩
  rw [List.length_map]
  refine ite2 (fun c => ?_) (fun c => ?_)
  · have c' : (k : Int) < (ns.length : Int) := of_decide_eq_true c
    have hk : k < ns.length := by omega
    refine ⟨_, rfl, _, rfl, a, _, _, _, rfl, rfl, hS, atI_map hk, ?_⟩
    rw [getD_lt hk] at q
    exact q
  · have c' : ¬ (k : Int) < (ns.length : Int) := of_decide_eq_false (Bool.eq_false_iff.mpr c)
    rw [getD_ge (by omega)] at q
    exact q
/-! ### what the laws of the gaps draw -/
theorem rise_snoc {ms : List Int} {z g : Int} (h : (ms ++ [z]).Pairwise (· < ·)) (hg : 1 ≤ g) : ((ms ++ [z]) ++ [z + g]).Pairwise (· < ·) := by
  rw [List.pairwise_append]
  refine ⟨h, by simp, fun a ha b hb => ?_⟩
  have hb : b = z + g := by simpa using hb
  rcases List.mem_append.mp ha with q | q
  · have := (List.pairwise_append.mp h).2.2 a q z (by simp)
    omega
  · have : a = z := by simpa using q
    omega
def spMarks4 : Sp := fun vs H Q _ => ∃ (n : Nat) (kd : Int) (far : Bool) (nb : Int), vs = [.int n, .int kd, .bl far, .int nb] ∧ 1 ≤ n ∧ n ≤ 10 ∧ ∀ (p : Addr) (ms : List Int) (H' : Hp), Same H H' → H p = none → H' p = some (.lst (ms.map V.int)) → ms.length = n → ms.Pairwise (· < ·) → Q (.ref p) H'
theorem ok_law_marks {f_law_marks : Addr} {fd_law_marks : FuncData} (F_law_marks : Fun K "_law_marks" "_law_marks" s_law_marks f_law_marks fd_law_marks)
    (z_range : mg "range" = none) :
    FnOk P w K mg base CX0 1 f_law_marks fd_law_marks ["_law_many", "_law_kind", "_law_far", "_law_number"] (spMarks4) := by
  refine F_law_marks.ok sc_law_marks (fun vs H Q E h => ?_) (fun cdv A outer s H vs Q E hr h => ?_)
  · obtain ⟨n, kd, far, nb, rfl, h1, h10, q⟩ := h
    rfl
  obtain ⟨n, kd, far, nb, rfl, h1, h10, q⟩ := h
  refine ⟨_, (pss_cons (ps_set (i := 4) sc_law_marks.nd rfl (Or.inr rfl) (pe_lst (pa_cons (pe_op op_add pe_int (pe_op op_mod (pv 3) pe_int)) pa_nil)))
      (pss_cons (ps_for PassesOwn.never rfl (pi_range2 rfl z_range (pa_cons pe_int (pa_cons (pv 0) pa_nil))) (pg_name (i := 5) sc_law_marks.nd rfl (Or.inl rfl)) (pss_cons (ps_set (i := 6) sc_law_marks.nd rfl (Or.inl rfl) pe_int)
      (pss_cons (ps_if (pt_cmpR op_eq (pv 1) pe_int (nomark _)) (pss_one (ps_set (i := 6) sc_law_marks.nd rfl (Or.inl rfl) (pe_op op_add pe_int (pe_op op_mod (pe_op op_add (pe_op op_fdiv (pv 3) pe_int) (pe_op op_mul (pv 5) (pv 5))) pe_int)))) pss_nil)
      (pss_cons (ps_if (pt_cmpR op_eq (pv 1) pe_int (nomark _)) (pss_one (ps_set (i := 6) sc_law_marks.nd rfl (Or.inl rfl) (pe_op op_add pe_int (pe_op op_mod (pe_op op_mul (pe_op op_mul (pv 3) pe_int) (pe_op op_add (pv 5) pe_int)) pe_int)))) pss_nil)
      (pss_one (ps_expr (pe_bmK (K := K) rfl PySem.F.plainAttrs_list PySem.F.slot_list_append PySem.F.type_list_append mt_append (pv 4) (pa_cons (pe_op op_add (pe_ix (ix_listK (K := K) rfl) (pv 4) (pe_un un_neg pe_int) (by intro _ _; rfl)) (pv 6)) pa_nil))))))))
      (pss_cons (ps_if (pt_val (pv 2)) (pss_one (ps_set (i := 4) sc_law_marks.nd rfl (Or.inr rfl) (pe_comp (own := ["_law_mark"]) rfl (pi_listK (K := K) rfl (pv 4)) (fun _ _ _ _ _ => (pg_name (i := 0) nd_law_marks_7 rfl (Or.inl rfl))) (fun _ _ _ _ _ => pif_nil) (fun _ _ _ _ _ => (pe_op op_sub (pe_op op_add (pv 0) pe_int) (pe_ix (ix_listK (K := K) rfl) (pv 5) (pe_un un_neg pe_int) (by intro _ _; rfl))))))) pss_nil)
      (pss_one (ps_ret (pv 4)))))), ?_⟩
  refine ⟨_, rfl, _, _, rfl, rfl, (by show (0 : Int) < 100000000000000000; decide), _, _, rfl, rfl, by show 1 ≤ sizeLine; rw [sizeLine_eq]; decide, fun p hp => ?_⟩
  dsimp only
  generalize (1 + nb % 100000000000000000 : Int) = z0
  have k1 := same_new hp (.lst [V.int z0])
  have e1 : (upd H p (.lst [V.int z0])) p = some (.lst (([] ++ [z0] : List Int).map V.int)) := upd_same
  generalize upd H p (.lst [V.int z0]) = H1 at k1 e1
  refine seq_join (fun σ H2 => ∃ (ms : List Int) (z : Int) (v1 v2 : Option V), σ = [some (.int n), some (.int kd), some (.bl far), some (.int nb), some (.ref p), v1, v2] ∧ H2 p = some (.lst ((ms ++ [z]).map V.int)) ∧ (ms ++ [z]).length = n ∧ (ms ++ [z]).Pairwise (· < ·) ∧ Same H H2) ?_ fun nx' hnx => ?_
  case refine_1 =>
    rintro σ H2 ⟨ms, z, v1, v2, rfl, h2, hl, hr2, g2⟩
    cases far with
    | false => exact ⟨_, rfl, _, rfl, iteF ⟨_, rfl, q p _ _ g2 hp h2 hl hr2⟩⟩
    | true =>
      refine ⟨_, rfl, _, rfl, iteT ?_⟩
      have hn2 : (ms ++ [z]).length ≤ 10 := by omega
      refine ⟨_, rfl, p, rfl, ⟨_, SqL.of h2⟩, ?_⟩
      refine comp_list (K := K) (a := p) (xs := (ms ++ [z]).map V.int) (fun i ys H3 => ys = (((ms ++ [z]).take i).map (fun m => m + 999999999999999999 - z)).map V.int ∧ H2 = H3) (by rw [List.length_map]; exact line1000 (by omega)) ⟨rfl, rfl⟩ (fun i ys H3 hi h => ?_) (fun i ys H3 hi h => ?_) (fun i x ys H3 hi h => ?_) (fun ys H3 h => ?_)
      · rw [h.1, List.length_map, List.length_map, List.length_take]; omega
      · rw [← h.2]; exact SqL.of h2
      · obtain ⟨rfl, rfl⟩ := h
        obtain ⟨hil, rfl⟩ := intI hi
        have el : atI ((ms ++ [z]).map V.int) (-1) = some (.int z) := by rw [List.map_append]; exact atI_last _ _
        refine ⟨rfl, _, rfl, _, _, rfl, rfl, _, rfl, _, rfl, p, _, _, _, rfl, rfl, SqL.of h2, el, _, _, rfl, rfl, ?_, rfl⟩
        rw [← List.take_append_getElem hil, List.map_append, List.map_append]
        rfl
      · obtain ⟨rfl, rfl⟩ := h
        intro p2 hp2
        rw [List.length_map, List.take_length]
        refine ⟨_, rfl, q p2 _ _ (same_one g2 hp2 _) (g2.free hp2) upd_same (by rw [List.length_map]; exact hl) ?_⟩
        rw [List.pairwise_map]
        exact hr2.imp fun h => by omega
  refine ⟨_, rfl, _, _, rfl, ⟨by decide, by decide, by omega, by omega⟩, ?_⟩
  rw [show ((n : Int) - 1).toNat = n - 1 from by omega]
  refine for_range (lo := 1) (n := n - 1) (fun i σ H2 => ∃ (ms : List Int) (z : Int) (v1 v2 : Option V), σ = [some (.int n), some (.int kd), some (.bl far), some (.int nb), some (.ref p), v1, v2] ∧ H2 p = some (.lst ((ms ++ [z]).map V.int)) ∧ ms.length = i ∧ (ms ++ [z]).Pairwise (· < ·) ∧ Same H H2) ⟨[], z0, _, _, rfl, e1, rfl, by simp, k1⟩ ?_ ?_
  · rintro i σ H2 hi ⟨ms, z, v1, v2, rfl, h2, hl, hr2, g2⟩
    dsimp only
    refine seq_join (fun σ H3 => ∃ g : Int, σ = [some (.int n), some (.int kd), some (.bl far), some (.int nb), some (.ref p), some (.int (1 + (i : Int))), some (.int g)] ∧ 1 ≤ g ∧ H2 = H3) ?_ fun nx' hnx => hnx _ _ ⟨1, rfl, by decide, rfl⟩
    rintro σ H3 ⟨g00, rfl, hg00, rfl⟩
    refine seq_join (fun σ H3 => ∃ g : Int, σ = [some (.int n), some (.int kd), some (.bl far), some (.int nb), some (.ref p), some (.int (1 + (i : Int))), some (.int g)] ∧ 1 ≤ g ∧ H2 = H3) ?_ fun nx' hnx => ?_
    case refine_2 =>
      refine ⟨_, rfl, rfl, _, rfl, ite2 (fun _ => ?_) (fun _ => hnx _ _ ⟨g00, rfl, hg00, rfl⟩)⟩
      refine ⟨_, rfl, _, _, rfl, rfl, ⟨by decide, by decide⟩, _, rfl, _, rfl, _, _, rfl, rfl, .inl ⟨by omega, by omega⟩, _, _, rfl, rfl, _, _, rfl, rfl, (by show (0 : Int) < 50; decide), _, _, rfl, rfl, hnx _ _ ⟨_, rfl, ?_, rfl⟩⟩
      have := Int.emod_nonneg (nb / 7 + (1 + (i : Int)) * (1 + (i : Int))) (show (50 : Int) ≠ 0 by decide)
      omega
    rintro σ H3 ⟨g0, rfl, hg0, rfl⟩
    refine seq_join (fun σ H3 => ∃ g : Int, σ = [some (.int n), some (.int kd), some (.bl far), some (.int nb), some (.ref p), some (.int (1 + (i : Int))), some (.int g)] ∧ 1 ≤ g ∧ H2 = H3) ?_ fun nx' hnx => ?_
    case refine_2 =>
      refine ⟨_, rfl, rfl, _, rfl, ite2 (fun _ => ?_) (fun _ => hnx _ _ ⟨g0, rfl, hg0, rfl⟩)⟩
      refine ⟨_, rfl, _, _, rfl, rfl, .inr ⟨by decide, by decide⟩, _, rfl, _, _, rfl, rfl, _, _, rfl, rfl, .inr ⟨by omega, by omega⟩, _, _, rfl, rfl, (by show (0 : Int) < 99999999999999997; decide), _, _, rfl, rfl, hnx _ _ ⟨_, rfl, ?_, rfl⟩⟩
      have := Int.emod_nonneg (nb * 48271 * (1 + (i : Int) + 1)) (show (99999999999999997 : Int) ≠ 0 by decide)
      omega
    rintro σ H3 ⟨g, rfl, hg, rfl⟩
    have el : atI ((ms ++ [z]).map V.int) (-1) = some (.int z) := by rw [List.map_append]; exact atI_last _ _
    refine ⟨_, rfl, .inl ⟨rfl, _, SqL.of h2⟩, _, rfl, _, rfl, p, _, _, _, rfl, rfl, SqL.of h2, el, _, rfl, _, _, rfl, rfl, p, _, _, rfl, rfl, h2, by rw [List.length_map, List.length_append, List.length_singleton]; exact line1000 (by omega), ms ++ [z], z + g, _, _, rfl, ?_, by rw [List.length_append, hl]; rfl, rise_snoc hr2 hg, same_upd g2 hp _⟩
    rw [upd_same, List.map_append (l₁ := ms ++ [z])]
    rfl
  · rintro σ H2 ⟨ms, z, v1, v2, rfl, h2, hl, hr2, g2⟩
    exact hnx _ _ ⟨ms, z, _, _, rfl, h2, by rw [List.length_append, hl, List.length_singleton]; omega, hr2, g2⟩
theorem wide_snoc (sts : List (List Int)) (m : List Int) : wideN (sts ++ [m]) = wideN sts + m.length := by
  unfold wideN
  rw [List.map_append, List.sum_append]; simp
def GoodS (ps : List (Addr × List Int)) : Prop := ∀ q ∈ ps, q.2 ≠ [] ∧ q.2.Pairwise (· < ·)
theorem GoodS.snoc {ps : List (Addr × List Int)} {a : Addr} {ms : List Int} (h : GoodS ps) (h1 : ms ≠ []) (h2 : ms.Pairwise (· < ·)) : GoodS (ps ++ [(a, ms)]) := fun q hq => by
  rcases List.mem_append.mp hq with z | z
  · exact h q z
  · have : q = (a, ms) := by simpa using z
    rw [this]; exact ⟨h1, h2⟩
theorem vs2g {a : Addr} {x y : Int} (h : x = y) : [V.ref a, V.int x] = [V.ref a, V.int y] := by rw [h]
def spSteps (K : PySem.W.Frag) : Sp := fun vs H Q _ => ∃ (a : Addr) (ns : List Int) (n at0 : Nat), vs = [.ref a, .int n, .int at0] ∧ SqL K H a (ns.map V.int) ∧ n ≤ 20 ∧ at0 ≤ 20 ∧ ∀ (p : Addr) (ps : List (Addr × List Int)) (H' : Hp), Same H H' → H p = none → H' p = some (.lst (refs1 ps)) → Lsts H' ps → GoodS ps → wideN (snds ps) ≤ 6 → ps.length ≤ n → Q (.ref p) H'
theorem Lsts.upd_ne {H : Hp} {ps : List (Addr × List Int)} {p : Addr} {o : HO} (h : Lsts H ps) (n : ∀ q ∈ ps, q.1 ≠ p) : Lsts (upd H p o) ps := fun q hq => by
  rw [L2.upd_ne (n q hq)]; exact h q hq
theorem ok_law_steps {f_law_steps : Addr} {fd_law_steps : FuncData} (F_law_steps : Fun K "_law_steps" "_law_steps" s_law_steps f_law_steps fd_law_steps)
    {f_law_cell : Addr} {fd_law_cell : FuncData} (G_law_cell : FnOk P w K mg base CX0 1 f_law_cell fd_law_cell ["_law_script", "_law_k"] (spCell K)) (b_law_cell : Binds K fd_law_cell ["_law_script", "_law_k"] []) (k_law_cell : PySem.W.keepIn K (.ref f_law_cell) = true) (m_law_cell : mg "_law_cell" = some (.ref f_law_cell))
    {f_law_marks : Addr} {fd_law_marks : FuncData} (G_law_marks : FnOk P w K mg base CX0 1 f_law_marks fd_law_marks ["_law_many", "_law_kind", "_law_far", "_law_number"] (spMarks4)) (b_law_marks : Binds K fd_law_marks ["_law_many", "_law_kind", "_law_far", "_law_number"] []) (k_law_marks : PySem.W.keepIn K (.ref f_law_marks) = true) (m_law_marks : mg "_law_marks" = some (.ref f_law_marks))
    (z_range : mg "range" = none)
    (z_min : mg "min" = none) :
    FnOk P w K mg base CX0 2 f_law_steps fd_law_steps ["_law_script", "_law_many", "_law_at"] (spSteps K) := by
  refine F_law_steps.ok sc_law_steps (fun vs H Q E h => ?_) (fun cdv A outer s H vs Q E hr h => ?_)
  · obtain ⟨a, ns, n, at0, rfl, hA, hn, hat, q⟩ := h
    rfl
  obtain ⟨a, ns, n, at0, rfl, hA, hn, hat, q⟩ := h
  refine ⟨_, (pss_cons (ps_set (i := 3) sc_law_steps.nd rfl (Or.inl rfl) (pe_lst pa_nil))
      (pss_cons (ps_set (i := 4) sc_law_steps.nd rfl (Or.inl rfl) pe_int)
      (pss_cons (ps_for PassesOwn.never rfl (pi_range1 rfl z_range (pa_cons (pv 1) pa_nil)) (pg_name (i := 5) sc_law_steps.nd rfl (Or.inl rfl)) (pss_cons (ps_set (i := 6) sc_law_steps.nd rfl (Or.inl rfl) (pe_call G_law_cell (hr.mono (by decide)) rfl m_law_cell k_law_cell b_law_cell .nil pass0 (pa_cons (pv 0) (pa_cons (pe_op op_add (pv 2) (pe_op op_mul pe_int (pv 5))) pa_nil))))
      (pss_cons (ps_set (i := 7) sc_law_steps.nd rfl (Or.inl rfl) (pe_callB (call_min2 (by rfl)) rfl z_min b_min (pa_cons (pv 4) (pa_cons (pe_op op_add pe_int (pe_op op_mod (pv 6) pe_int)) pa_nil))))
      (pss_cons (ps_if (pt_cmpR op_gt (pv 7) pe_int (nomark _)) (pss_cons (ps_set (i := 8) sc_law_steps.nd rfl (Or.inl rfl) (pe_call G_law_cell (hr.mono (by decide)) rfl m_law_cell k_law_cell b_law_cell .nil pass0 (pa_cons (pv 0) (pa_cons (pe_op op_add (pe_op op_add (pv 2) (pe_op op_mul pe_int (pv 5))) pe_int) pa_nil))))
      (pss_one (ps_expr (pe_bmK (K := K) rfl PySem.F.plainAttrs_list PySem.F.slot_list_append PySem.F.type_list_append mt_append (pv 3) (pa_cons (pe_call G_law_marks (hr.mono (by decide)) rfl m_law_marks k_law_marks b_law_marks .nil pass0 (pa_cons (pv 7) (pa_cons (pe_op op_mod (pe_op op_fdiv (pv 6) pe_int) pe_int) (pa_cons (pe_cmpR op_eq (pe_op op_mod (pe_op op_fdiv (pv 6) pe_int) pe_int) pe_int (nomark _)) (pa_cons (pv 8) pa_nil))))) pa_nil))))) pss_nil)
      (pss_one (ps_set (i := 4) sc_law_steps.nd rfl (Or.inl rfl) (pe_op op_sub (pv 4) (pv 7))))))))
      (pss_one (ps_ret (pv 3)))))), ?_⟩
  refine ⟨Nat.zero_le _, fun p hp => ?_⟩
  have k1 := same_new hp (.lst ([] : List V))
  have h1 : (upd H p (.lst ([] : List V))) p = some (.lst (refs1 ([] : List (Addr × List Int)))) := upd_same
  generalize upd H p (.lst ([] : List V)) = H1 at k1 h1
  refine ⟨_, rfl, _, rfl, by omega, by omega, ?_⟩
  rw [Int.toNat_natCast]
  refine for_range (n := n) (fun i σ H2 => ∃ (ps : List (Addr × List Int)) (rm : Nat) (v1 v2 v3 v4 : Option V), σ = [some (.ref a), some (.int n), some (.int at0), some (.ref p), some (.int rm), v1, v2, v3, v4] ∧ H2 p = some (.lst (refs1 ps)) ∧ Lsts H2 ps ∧ (∀ q ∈ ps, q.1 ≠ p) ∧ GoodS ps ∧ wideN (snds ps) + rm = 6 ∧ ps.length ≤ i ∧ Same H H2) ⟨[], 6, _, _, _, _, rfl, h1, Lsts.nil, (fun _ h => nomatch h), (fun _ h => nomatch h), rfl, Nat.zero_le _, k1⟩ ?_ ?_
  · rintro i σ H2 hi ⟨ps, rm, v1, v2, v3, v4, rfl, h2, hL, hne, hG, hrm, hpl, g2⟩
    refine ⟨_, rfl, _, rfl, _, rfl, _, _, rfl, rfl, .inl ⟨by decide, by decide⟩, _, _, rfl, rfl, a, ns, at0 + 2 * i, vs2g (by omega), g2.seq hA, ?_⟩
    generalize ns.getD (at0 + 2 * i) 0 = fm
    obtain ⟨s0, es0, hs0⟩ := emod_nat fm (n := 4) (by decide)
    have es0 : fm % 4 = (s0 : Int) := es0
    refine ⟨_, rfl, _, rfl, _, _, rfl, rfl, (by show (0 : Int) < 4; decide), _, _, rfl, rfl, _, _, rfl, ?_⟩
    rw [es0]
    obtain ⟨sz, esz, hsz⟩ : ∃ sz : Nat, (if (1 + (s0 : Int)) < (rm : Int) then (1 + (s0 : Int)) else (rm : Int)) = (sz : Int) ∧ sz ≤ rm ∧ sz ≤ 4 := by
      split
      · exact ⟨1 + s0, by omega, by omega, by omega⟩
      · exact ⟨rm, rfl, Nat.le_refl _, by omega⟩
    rw [esz]
    dsimp only
    refine seq_join (fun σ H3 => ∃ (ps' : List (Addr × List Int)) (v4 : Option V), σ = [some (.ref a), some (.int n), some (.int at0), some (.ref p), some (.int rm), some (.int (0 + (i : Int))), some (.int fm), some (.int sz), v4] ∧ H3 p = some (.lst (refs1 ps')) ∧ Lsts H3 ps' ∧ (∀ q ∈ ps', q.1 ≠ p) ∧ GoodS ps' ∧ wideN (snds ps') + rm = 6 + sz ∧ ps'.length ≤ i + 1 ∧ Same H H3) ?_ fun nx' hnx => ?_
    case refine_2 =>
      refine ⟨_, rfl, _, _, rfl, rfl, _, rfl, ite2 (fun c => ?_) (fun c => ?_)⟩
      · have c : (0 : Int) < (sz : Int) := of_decide_eq_true c
        refine ⟨_, rfl, _, rfl, _, rfl, _, _, rfl, rfl, .inl ⟨by decide, by decide⟩, _, _, rfl, rfl, _, _, rfl, rfl, a, ns, at0 + 2 * i + 1, vs2g (by omega), g2.seq hA, ?_⟩
        generalize ns.getD (at0 + 2 * i + 1) 0 = nb
        refine ⟨_, rfl, .inl ⟨rfl, _, SqL.of h2⟩, _, rfl, _, rfl, _, _, rfl, rfl, ⟨by decide, by decide⟩, _, _, rfl, rfl, (by show (0 : Int) < 3; decide), _, rfl, _, _, rfl, rfl, ⟨by decide, by decide⟩, _, _, rfl, rfl, (by show (0 : Int) < 4; decide), rfl, _, rfl, sz, _, _, nb, rfl, by omega, by omega, fun b ms H3 g3 hb hb3 hml hmr => ?_⟩
        have h3 := g3 _ _ h2
        have nbp : b ≠ p := fun e => by rw [e, h2] at hb; cases hb
        have hL3 := (hL.same g3).snoc hb3
        have hne3 : ∀ q ∈ ps ++ [(b, ms)], q.1 ≠ p := fun q hq => by
          rcases List.mem_append.mp hq with z | z
          · exact hne q z
          · have : q = (b, ms) := by simpa using z
            rw [this]; exact nbp
        refine ⟨p, _, _, rfl, rfl, h3, by rw [refs1_len]; exact line1000 (by omega), hnx _ _ ⟨ps ++ [(b, ms)], _, rfl, ?_, hL3.upd_ne hne3, hne3, hG.snoc (fun e => by rw [e] at hml; simp at hml; omega) hmr, ?_, ?_, same_upd (g2.trans g3) hp _⟩⟩
        · rw [refs1_snoc]; exact upd_same
        · rw [snds_snoc, wide_snoc, hml]; omega
        · rw [List.length_append, List.length_singleton]; omega
      · have c : ¬ (0 : Int) < (sz : Int) := of_decide_eq_false (Bool.eq_false_iff.mpr c)
        exact hnx _ _ ⟨ps, _, rfl, h2, hL, hne, hG, by omega, by omega, g2⟩
    rintro σ H3 ⟨ps', v4', rfl, h3, hL3, hne3, hG3, hrm3, hpl3, g3⟩
    refine ⟨_, rfl, _, rfl, _, _, rfl, rfl, ps', rm - sz, some (.int (0 + (i : Int))), some (.int fm), some (.int sz), v4', ?_, h3, hL3, hne3, hG3, by omega, hpl3, g3⟩
    show [_, _, _, _, some (V.int ((rm : Int) - (sz : Int))), _, _, _, _] = _
    rw [show ((rm : Int) - (sz : Int)) = ((rm - sz : Nat) : Int) from by omega]
  · rintro σ H2 ⟨ps, rm, v1, v2, v3, v4, rfl, h2, hL, hne, hG, hrm, hpl, g2⟩
    exact ⟨_, rfl, q p ps _ g2 hp h2 hL hG (by omega) hpl⟩
def spWorth (K : PySem.W.Frag) : Sp := fun vs H Q _ => ∃ (a : Addr) (ms : List Int) (nb : Int), vs = [.ref a, .int nb] ∧ SqL K H a (ms.map V.int) ∧ ms ≠ [] ∧ ∀ z : Int, Q (.int z) H
theorem ok_law_worth {f_law_worth : Addr} {fd_law_worth : FuncData} (F_law_worth : Fun K "_law_worth" "_law_worth" s_law_worth f_law_worth fd_law_worth)
    (z_len : mg "len" = none)
    (z_min : mg "min" = none) :
    FnOk P w K mg base CX0 1 f_law_worth fd_law_worth ["_law_row", "_law_number"] (spWorth K) := by
  refine F_law_worth.ok sc_law_worth (fun vs H Q E h => ?_) (fun cdv A outer s H vs Q E hr h => ?_)
  · obtain ⟨a, ms, nb, rfl, hA, hne, q⟩ := h
    rfl
  obtain ⟨a, ms, nb, rfl, hA, hne, q⟩ := h
  refine ⟨_, (pss_cons (ps_set (i := 2) sc_law_worth.nd rfl (Or.inl rfl) (pe_ix (ix_listK (K := K) rfl) (pv 0) (pe_op op_mod (pv 1) (pe_callB (len_seqK (K := K) rfl) rfl z_len PySem.boot_len (pa_cons (pv 0) pa_nil))) (by intro _ _; rfl)))
      (pss_cons (ps_set (i := 3) sc_law_worth.nd rfl (Or.inl rfl) (pe_op op_mod (pe_op op_fdiv (pv 1) pe_int) pe_int))
      (pss_cons (ps_if (pt_cmpR op_lt (pv 3) pe_int (nomark _)) (pss_one (ps_ret (pe_callB (call_min2 (by rfl)) rfl z_min b_min (pa_cons pe_int (pa_cons (pe_op op_add (pe_op op_sub (pv 2) pe_int) (pv 3)) pa_nil))))) pss_nil)
      (pss_cons (ps_if (pt_cmpR op_eq (pv 3) pe_int (nomark _)) (pss_one (ps_ret pe_int)) pss_nil)
      (pss_cons (ps_if (pt_cmpR op_eq (pv 3) pe_int (nomark _)) (pss_one (ps_ret pe_int)) pss_nil)
      (pss_one (ps_ret (pe_op op_mod (pe_op op_fdiv (pv 1) pe_int) pe_int)))))))), ?_⟩
  have hpos : 0 < ms.length := List.length_pos_iff.mpr hne
  obtain ⟨j, ej, hj⟩ := emod_nat nb hpos
  refine ⟨_, rfl, _, rfl, _, rfl, a, _, rfl, .inl hA, _, _, rfl, rfl, (by rw [List.length_map]; omega), ?_⟩
  dsimp only
  rw [List.length_map, ej]
  refine ⟨a, _, _, _, rfl, rfl, hA, atI_map hj, ?_⟩
  refine ⟨_, rfl, _, _, rfl, rfl, ⟨by decide, by decide⟩, _, _, rfl, rfl, (by show (0 : Int) < 6; decide), ?_⟩
  dsimp only
  generalize (nb / 4 % 6 : Int) = kd
  refine ⟨_, rfl, _, _, rfl, rfl, _, rfl, ite2 (fun _ => ?_) (fun _ => ?_)⟩
  · exact ⟨_, rfl, _, _, rfl, rfl, _, rfl, _, _, rfl, rfl, _, _, rfl, q _⟩
  refine ⟨_, rfl, rfl, _, rfl, ite2 (fun _ => q 0) (fun _ => ?_)⟩
  refine ⟨_, rfl, rfl, _, rfl, ite2 (fun _ => q 999999999999999999) (fun _ => ?_)⟩
  exact ⟨_, rfl, _, _, rfl, rfl, ⟨by decide, by decide⟩, _, _, rfl, rfl, (by show (0 : Int) < 1000000000000000000; decide), q _⟩
/-! ### cells on the heap -/
def Lins (H : Hp) (cs : List (Addr × Int × Int)) : Prop := ∀ t ∈ cs, H t.1 = some (.tup [.int t.2.1, .int t.2.2])
def Cels (H : Hp) (cls : List (Addr × List (Addr × Int × Int))) : Prop := ∀ q ∈ cls, H q.1 = some (.lst (refs1 q.2)) ∧ Lins H q.2
def cellsOf (cls : List (Addr × List (Addr × Int × Int))) : List (List (Int × Int)) := (snds cls).map snds
def OkCls (n : Nat) (cls : List (Addr × List (Addr × Int × Int))) : Prop := ∀ q ∈ cls, q.2.length = n ∧ OkC (snds q.2)
theorem Lins.same {H H' : Hp} {cs : List (Addr × Int × Int)} (h : Lins H cs) (g : Same H H') : Lins H' cs := fun q hq => g _ _ (h q hq)
theorem Cels.same {H H' : Hp} {cls : List (Addr × List (Addr × Int × Int))} (h : Cels H cls) (g : Same H H') : Cels H' cls := fun q hq => ⟨g _ _ (h q hq).1, (h q hq).2.same g⟩
theorem cellsOf_len (cls : List (Addr × List (Addr × Int × Int))) : (cellsOf cls).length = cls.length := by unfold cellsOf; rw [List.length_map, snds_len]
theorem cellsOf_at {cls : List (Addr × List (Addr × Int × Int))} {i : Nat} (h : i < cls.length) : (cellsOf cls)[i]'(by rw [cellsOf_len]; exact h) = snds cls[i].2 := by
  unfold cellsOf
  rw [List.getElem_map, snds_at h]
theorem cellsOf_mem {cls : List (Addr × List (Addr × Int × Int))} {cs : List (Int × Int)} (h : cs ∈ cellsOf cls) : ∃ q ∈ cls, cs = snds q.2 := by
  unfold cellsOf at h
  obtain ⟨x, hx, rfl⟩ := List.mem_map.mp h
  obtain ⟨q, hq, rfl⟩ := List.mem_map.mp hx
  exact ⟨q, hq, rfl⟩
theorem snds_mem {α : Type} {ps : List (Addr × α)} {q : Addr × α} (h : q ∈ ps) : q.2 ∈ snds ps := List.mem_map.mpr ⟨q, h, rfl⟩
theorem mem_snds {α : Type} {ps : List (Addr × α)} {x : α} (h : x ∈ snds ps) : ∃ q ∈ ps, x = q.2 := by
  obtain ⟨q, hq, rfl⟩ := List.mem_map.mp h
  exact ⟨q, hq, rfl⟩
def spLows (K : PySem.W.Frag) : Sp := fun vs H Q _ => ∃ (l : Addr) (cs : List (Addr × Int × Int)), vs = [.ref l] ∧ SqL K H l (refs1 cs) ∧ Lins H cs ∧ cs.length ≤ 100 ∧ ∀ r, H r = none → Q (.ref r) (upd H r (.lst (((snds cs).map (·.1)).map V.int)))
theorem snds_take {α : Type} (ps : List (Addr × α)) (i : Nat) : (snds ps).take i = snds (ps.take i) := by unfold snds; rw [List.map_take]
theorem ok_lows {f_lows : Addr} {fd_lows : FuncData} (F_lows : Fun K "lows" "lows" s_lows f_lows fd_lows) :
    FnOk P w K mg base CX0 1 f_lows fd_lows ["line"] (spLows K) := by
  refine F_lows.ok sc_lows (fun vs H Q E h => ?_) (fun cdv A outer s H vs Q E hr h => ?_)
  · obtain ⟨l, cs, rfl, hl, hC, hn, q⟩ := h
    rfl
  obtain ⟨l, cs, rfl, hl, hC, hn, q⟩ := h
  refine ⟨_, (pss_one (ps_ret (pe_comp (own := ["cell"]) rfl (pi_listK (K := K) rfl (pv 0)) (fun _ _ _ _ _ => (pg_name (i := 0) nd_lows_3 rfl (Or.inl rfl))) (fun _ _ _ _ _ => pif_nil) (fun _ _ _ _ _ => (pe_ix (ix_tupK (K := K) rfl) (pv 0) pe_int (by intro _ _; rfl)))))), ?_⟩
  refine ⟨_, rfl, l, rfl, ⟨_, hl⟩, ?_⟩
  refine comp_list (K := K) (a := l) (xs := refs1 cs) (fun i ys H2 => ys = (((snds cs).take i).map (·.1)).map V.int ∧ H = H2) (by rw [refs1_len]; exact line1000 (by omega)) ⟨rfl, rfl⟩ (fun i ys H2 hi h => ?_) (fun i ys H2 hi h => ?_) (fun i x ys H2 hi h => ?_) (fun ys H2 h => ?_)
  · rw [h.1, List.length_map, List.length_map, List.length_take]; omega
  · rw [← h.2]; exact hl
  · obtain ⟨rfl, rfl⟩ := h
    obtain ⟨hil, rfl⟩ := ref1I hi
    refine ⟨rfl, _, rfl, cs[i].1, _, _, _, rfl, rfl, SqT.of (hC _ (List.getElem_mem hil)), tup0 _ _, ?_, rfl⟩
    rw [← List.take_append_getElem (show i < (snds cs).length by rw [snds_len]; exact hil), List.map_append, List.map_append, snds_at hil]; rfl
  · obtain ⟨rfl, rfl⟩ := h
    intro r hr
    rw [refs1_len, ← snds_len, List.take_length]
    exact q r hr
theorem shr_bitN (m i : Nat) : decide (V.int (Builtin.bitAnd ((m : Int) / 2 ^ (i : Int).toNat) 1) = V.int 1) = m.testBit i := by
  have e1 : ((m : Int) / 2 ^ (i : Int).toNat) = ((m / 2 ^ i : Nat) : Int) := by simp
  have e2 : Builtin.bitAnd ((m / 2 ^ i : Nat) : Int) 1 = ((m / 2 ^ i % 2 : Nat) : Int) := by
    have := and_nat (m / 2 ^ i) 1
    rw [Nat.and_one_is_mod] at this
    exact this
  rw [e1, e2, Nat.testBit_eq_decide_div_mod_eq, dec_int, Bool.eq_iff_iff]
  simp only [beq_iff_eq, decide_eq_true_eq]
  omega
theorem shr_natN (m i : Nat) : ((m : Int) / 2 ^ (i : Int).toNat) = ((m / 2 ^ i : Nat) : Int) := by simp
def pick (marks : List Int) (m : Nat) (j : Nat) : List Int := ((List.range j).filter (m.testBit ·)).map (fun i => marks.getD i 0)
theorem pick_succ (marks : List Int) (m j : Nat) : pick marks m (j + 1) = if m.testBit j then pick marks m j ++ [marks.getD j 0] else pick marks m j := by
  unfold pick
  rw [List.range_succ, List.filter_append, List.map_append]
  cases hb : m.testBit j with
  | true => rw [List.filter_cons_of_pos hb, if_pos rfl, List.filter_nil]; rfl
  | false => rw [List.filter_cons_of_neg (by rw [hb]; decide), if_neg Bool.false_ne_true, List.filter_nil, List.map_nil, List.append_nil]
theorem pick_len (marks : List Int) (m j : Nat) : (pick marks m j).length ≤ j := by
  unfold pick
  rw [List.length_map]
  exact Nat.le_trans (List.length_filter_le _ _) (by rw [List.length_range]; exact Nat.le_refl _)
theorem stepsOf_drop {sts : List (List Int)} {i m : Nat} (h : i < sts.length) : stepsOf (sts.drop i) m = pick sts[i] m sts[i].length :: stepsOf (sts.drop (i + 1)) (m / 2 ^ sts[i].length) := by
  rw [List.drop_eq_getElem_cons h]; rfl
def spStepsOf (K : PySem.W.Frag) : Sp := fun vs H Q _ => ∃ (p : Addr) (ps : List (Addr × List Int)) (m : Nat), vs = [.ref p, .int m] ∧ SqL K H p (refs1 ps) ∧ Lsts H ps ∧ wideN (snds ps) ≤ 100 ∧ ps.length ≤ 100 ∧ ∀ (r : Addr) (qs : List (Addr × List Int)) (H' : Hp), Same H H' → H r = none → H' r = some (.lst (refs1 qs)) → Lsts H' qs → snds qs = stepsOf (snds ps) m → Q (.ref r) H'
theorem ok_steps_of {f_steps_of : Addr} {fd_steps_of : FuncData} (F_steps_of : Fun K "steps_of" "steps_of" s_steps_of f_steps_of fd_steps_of)
    (z_enumerate : mg "enumerate" = none)
    (z_len : mg "len" = none) :
    FnOk P w K mg base CX0 2 f_steps_of fd_steps_of ["steps", "mask"] (spStepsOf K) := by
  refine F_steps_of.ok sc_steps_of (fun vs H Q E h => ?_) (fun cdv A outer s H vs Q E hr h => ?_)
  · obtain ⟨p, ps, m, rfl, hp, hL, hwide, hpl, q⟩ := h
    rfl
  obtain ⟨p, ps, m, rfl, hp, hL, hwide, hpl, q⟩ := h
  refine ⟨_, (pss_cons (ps_set (i := 2) sc_steps_of.nd rfl (Or.inl rfl) (pe_lst pa_nil))
      (pss_cons (ps_for PassesOwn.never rfl (pi_listK (K := K) rfl (pv 0)) (pg_name (i := 3) sc_steps_of.nd rfl (Or.inl rfl)) (pss_cons (ps_expr (pe_bmK (K := K) rfl PySem.F.plainAttrs_list PySem.F.slot_list_append PySem.F.type_list_append mt_append (pv 2) (pa_cons (pe_comp (own := ["place", "step"]) rfl (pi_enumK (K := K) rfl rfl z_enumerate (pa_cons (pv 3) pa_nil)) (fun _ _ _ _ _ => (pg_tupK (K := K) (n := 2) rfl rfl (pgs_cons (pg_name (i := 0) nd_steps_of_2 rfl (Or.inl rfl)) (pgs_cons (pg_name (i := 1) nd_steps_of_2 rfl (Or.inl rfl)) pgs_nil)))) (fun _ _ _ _ _ => (pif_one (pt_cmpR op_eq (pe_op op_and (pe_op op_shr (pv 3) (pv 0)) pe_int) pe_int (nomark _)))) (fun _ _ _ _ _ => (pv 1))) pa_nil)))
      (pss_one (ps_set (i := 1) sc_steps_of.nd rfl (Or.inr rfl) (pe_op op_shr (pv 1) (pe_callB (len_seqK (K := K) rfl) rfl z_len PySem.boot_len (pa_cons (pv 3) pa_nil)))))))
      (pss_one (ps_ret (pv 2))))), ?_⟩
  refine ⟨Nat.zero_le _, fun r hr => ?_⟩
  have k1 := same_new hr (.lst ([] : List V))
  have h1 : (upd H r (.lst ([] : List V))) r = some (.lst (refs1 ([] : List (Addr × List Int)))) := upd_same
  generalize upd H r (.lst ([] : List V)) = H1 at k1 h1
  refine ⟨_, rfl, p, rfl, ⟨_, k1.seq hp⟩, ?_⟩
  refine for_list (K := K) (a := p) (xs := refs1 ps) (fun i σ H2 => ∃ (qs : List (Addr × List Int)) (m2 : Nat) (v : Option V), σ = [some (.ref p), some (.int m2), some (.ref r), v] ∧ H2 r = some (.lst (refs1 qs)) ∧ Lsts H2 qs ∧ (∀ q ∈ qs, q.1 ≠ r) ∧ qs.length = i ∧ snds qs ++ stepsOf ((snds ps).drop i) m2 = stepsOf (snds ps) m ∧ Same H H2) ⟨[], m, _, rfl, h1, Lsts.nil, (fun _ h => nomatch h), rfl, rfl, k1⟩ (fun i σ H2 _ ⟨_, _, _, _, _, _, _, _, _, g⟩ => g.seq hp) ?_ ?_
  · rintro i z σ H2 hi ⟨qs, m2, v, rfl, h2, hL2, hne, hql, he, g2⟩
    obtain ⟨hil, rfl⟩ := ref1I hi
    have hM := g2 _ _ (hL _ (List.getElem_mem hil))
    have hml : ps[i].2.length ≤ 100 := Nat.le_trans (wide_mem (by rw [← snds_at hil]; exact List.getElem_mem _)) hwide
    refine ⟨_, rfl, .inl ⟨rfl, _, SqL.of h2⟩, _, rfl, ps[i].1, rfl, ⟨_, SqL.of hM⟩, ?_⟩
    refine comp_enum (K := K) (a := ps[i].1) (xs := ps[i].2.map V.int) (fun j ys H3 => ys = (pick ps[i].2 m2 j).map V.int ∧ Same H2 H3) (by rw [List.length_map]; exact line1000 (by omega)) ⟨rfl, Same.refl _⟩ (fun j ys H3 hj h => ?_) (fun j ys H3 hj h => SqL.of (h.2 _ _ hM)) (fun j z ys H3 t hj h ht => ?_) (fun ys H3 h => ?_)
    · rw [h.1, List.length_map]; exact pick_len _ _ _
    · obtain ⟨rfl, g⟩ := h
      obtain ⟨hjl, rfl⟩ := intI hj
      have g3 := same_one g ht (.tup [.int j, .int ps[i].2[j]])
      refine ⟨t, _, rfl, SqT.of upd_same, rfl, _, _, rfl, _, _, rfl, rfl, rfl, _, rfl, _, rfl, _, _, rfl, rfl, (by show (0 : Int) ≤ (j : Int); omega), _, _, rfl, rfl, rfl, _, rfl, ?_⟩
      rw [shr_bitN, pick_succ]
      cases hb : m2.testBit j with
      | true =>
        refine iteT ⟨_, rfl, ?_, g3⟩
        rw [if_pos rfl, List.map_append, getD_lt hjl]; rfl
      | false =>
        refine iteF ⟨?_, g3⟩
        rw [if_neg Bool.false_ne_true]
    · obtain ⟨rfl, g⟩ := h
      intro b hb
      rw [List.length_map]
      have k3 := same_one g hb (.lst ((pick ps[i].2 m2 ps[i].2.length).map V.int))
      have h3 : (upd H3 b (.lst ((pick ps[i].2 m2 ps[i].2.length).map V.int))) b = some (.lst ((pick ps[i].2 m2 ps[i].2.length).map V.int)) := upd_same
      have ob : H2 b = none := g.free hb
      generalize upd H3 b (.lst ((pick ps[i].2 m2 ps[i].2.length).map V.int)) = H4 at k3 h3
      have nbr : b ≠ r := fun e => by rw [e, h2] at ob; cases ob
      have hne4 : ∀ q ∈ qs ++ [(b, pick ps[i].2 m2 ps[i].2.length)], q.1 ≠ r := fun q hq => by
        rcases List.mem_append.mp hq with z | z
        · exact hne q z
        · have : q = (b, pick ps[i].2 m2 ps[i].2.length) := by simpa using z
          rw [this]; exact nbr
      have nMr : ps[i].1 ≠ r := fun e => by
        have := hL _ (List.getElem_mem hil)
        rw [e, hr] at this; cases this
      refine ⟨r, _, _, rfl, rfl, k3 _ _ h2, by rw [refs1_len]; exact line1000 (by omega), ?_⟩
      refine ⟨_, rfl, _, rfl, ps[i].1, _, rfl, .inl (SqL.of (by rw [upd_ne nMr]; exact k3 _ _ hM)), _, _, rfl, rfl, (by rw [List.length_map]; show (0 : Int) ≤ (ps[i].2.length : Int); omega), qs ++ [(b, pick ps[i].2 m2 ps[i].2.length)], m2 / 2 ^ ps[i].2.length, some (.ref ps[i].1), ?_, ?_, ((hL2.same k3).snoc h3).upd_ne hne4, hne4, by rw [List.length_append, hql]; rfl, ?_, same_upd (g2.trans k3) hr _⟩
      · rw [List.length_map]; dsimp only; rw [shr_natN]; rfl
      · rw [refs1_snoc]; exact upd_same
      · rw [snds_snoc, List.append_assoc, ← he, stepsOf_drop (show i < (snds ps).length by rw [snds_len]; exact hil), snds_at hil]; rfl
  · rintro σ H2 ⟨qs, m2, v, rfl, h2, hL2, hne, hql, he, g2⟩
    refine ⟨_, rfl, q r qs _ g2 hr h2 hL2 ?_⟩
    rw [refs1_len, ← snds_len, List.drop_length] at he
    rw [← he]
    show _ = snds qs ++ []
    rw [List.append_nil]
def spReach (K : PySem.W.Frag) : Sp := fun vs H Q _ => ∃ (l : Addr) (cs : List (Addr × Int × Int)) (w : Addr) (qs : List (Addr × List Int)), vs = [.ref l, .ref w] ∧ SqL K H l (refs1 cs) ∧ Lins H cs ∧ SqL K H w (refs1 qs) ∧ Lsts H qs ∧ cs.length = qs.length ∧ cs.length ≤ 100 ∧ (∀ q ∈ qs, q.2.length ≤ 100) ∧ ∀ (r : Addr) (H' : Hp), Same H H' → H r = none → H' r = some (.lst ((reachC (snds cs) (snds qs)).map V.int)) → Q (.ref r) H'
theorem reachC_snoc : ∀ {cs : List (Int × Int)} {mss : List (List Int)} (c : Int × Int) (ms : List Int), cs.length = mss.length → reachC (cs ++ [c]) (mss ++ [ms]) = reachC cs mss ++ [min c.2 (maxL c.1 ms)]
  | [], [], _, _, _ => rfl
  | [], _ :: _, _, _, h => by simp at h
  | _ :: _, [], _, _, h => by simp at h
  | a :: cs, b :: mss, c, ms, h => by
    show _ :: reachC (cs ++ [c]) (mss ++ [ms]) = _ :: (reachC cs mss ++ _)
    rw [reachC_snoc c ms (by simpa using h)]
theorem reachC_len : ∀ {cs : List (Int × Int)} {mss : List (List Int)}, cs.length = mss.length → (reachC cs mss).length = cs.length
  | [], [], _ => rfl
  | [], _ :: _, h => by simp at h
  | _ :: _, [], h => by simp at h
  | a :: cs, b :: mss, h => by
    show (_ :: reachC cs mss).length = _
    rw [List.length_cons, reachC_len (by simpa using h), List.length_cons]
theorem ok_lows_reaching {f_lows_reaching : Addr} {fd_lows_reaching : FuncData} (F_lows_reaching : Fun K "lows_reaching" "lows_reaching" s_lows_reaching f_lows_reaching fd_lows_reaching)
    (z_zip : mg "zip" = none)
    (z_min : mg "min" = none)
    (z_max : mg "max" = none) :
    FnOk P w K mg base CX0 1 f_lows_reaching fd_lows_reaching ["line", "wanted"] (spReach K) := by
  refine F_lows_reaching.ok sc_lows_reaching (fun vs H Q E h => ?_) (fun cdv A outer s H vs Q E hr h => ?_)
  · obtain ⟨l, cs, wa, qs, rfl, hl, hC, hw, hL, hlen, hn, hq, q⟩ := h
    rfl
  obtain ⟨l, cs, wa, qs, rfl, hl, hC, hw, hL, hlen, hn, hq, q⟩ := h
  refine ⟨_, (pss_one (ps_ret (pe_comp (own := ["cell", "marks"]) rfl (pi_zipK (K := K) rfl rfl z_zip (pa_cons (pv 0) (pa_cons (pv 1) pa_nil))) (fun _ _ _ _ _ => (pg_tupK (K := K) (n := 2) rfl rfl (pgs_cons (pg_name (i := 0) nd_lows_reaching_5 rfl (Or.inl rfl)) (pgs_cons (pg_name (i := 1) nd_lows_reaching_5 rfl (Or.inl rfl)) pgs_nil)))) (fun _ _ _ _ _ => pif_nil) (fun _ _ _ _ _ => (pe_callB (call_min2 (by rfl)) rfl z_min b_min (pa_cons (pe_ix (ix_tupK (K := K) rfl) (pv 0) pe_int (by intro _ _; rfl)) (pa_cons (pe_callB (call_max1K (K := K) rfl (by rfl)) rfl z_max b_max (pa_cons (pe_op op_cat (pe_lst (pa_cons (pe_ix (ix_tupK (K := K) rfl) (pv 0) pe_int (by intro _ _; rfl)) pa_nil)) (pv 1)) pa_nil)) pa_nil))))))), ?_⟩
  refine ⟨_, rfl, _, rfl, l, wa, rfl, ⟨_, hl⟩, ⟨_, hw⟩, ?_⟩
  refine comp_zip (K := K) (a := l) (b := wa) (xs := refs1 cs) (zs := refs1 qs) (by rw [refs1_len, refs1_len]; exact hlen) (fun i ys H2 => ys = (reachC ((snds cs).take i) ((snds qs).take i)).map V.int ∧ Same H H2) (by rw [refs1_len]; exact line1000 (by omega)) ⟨rfl, Same.refl _⟩ (fun i ys H2 hi h => ?_) (fun i ys H2 hi h => ⟨h.2.seq hl, h.2.seq hw⟩) (fun i x z ys H2 t hx hz h ht => ?_) (fun ys H2 h => ?_)
  · rw [h.1, List.length_map, reachC_len (by rw [List.length_take, List.length_take, snds_len, snds_len, hlen]), List.length_take]; omega
  · obtain ⟨rfl, g⟩ := h
    obtain ⟨hil, rfl⟩ := ref1I hx
    obtain ⟨hiq, rfl⟩ := ref1I hz
    have g3 := same_one g ht (.tup [.ref cs[i].1, .ref qs[i].1])
    have h3 : (upd H2 t (.tup [.ref cs[i].1, .ref qs[i].1])) t = some (.tup [.ref cs[i].1, .ref qs[i].1]) := upd_same
    generalize upd H2 t (.tup [.ref cs[i].1, .ref qs[i].1]) = H3 at g3 h3
    have hT := g3 _ _ (hC _ (List.getElem_mem hil))
    have hM := g3 _ _ (hL _ (List.getElem_mem hiq))
    have hml := hq _ (List.getElem_mem hiq)
    refine ⟨t, _, rfl, SqT.of h3, rfl, _, _, rfl, _, _, rfl, rfl, rfl, _, rfl, cs[i].1, _, _, _, rfl, rfl, SqT.of hT, tup1 _ _, _, rfl, cs[i].1, _, _, _, rfl, rfl, SqT.of hT, tup0 _ _, (by show 1 ≤ sizeLine; rw [sizeLine_eq]; decide), fun b hb => ?_⟩
    have g4 := same_one g3 hb (.lst [V.int cs[i].2.1])
    have h4 : (upd H3 b (.lst [V.int cs[i].2.1])) b = some (.lst [V.int cs[i].2.1]) := upd_same
    have hM4 := (same_new hb (.lst [V.int cs[i].2.1])) _ _ hM
    generalize upd H3 b (.lst [V.int cs[i].2.1]) = H4 at g4 h4 hM4
    refine ⟨_, rfl, b, qs[i].1, _, _, rfl, rfl, h4, hM4, by rw [List.length_map, sizeLine_eq]; show 1 + _ ≤ _; omega, fun d hd => ?_⟩
    have g5 := same_one g4 hd (.lst ([V.int cs[i].2.1] ++ qs[i].2.map V.int))
    refine ⟨d, cs[i].2.1 :: qs[i].2, rfl, SqL.of upd_same, by simp, fun M hM hall => ?_⟩
    refine ⟨_, _, rfl, ?_, g5⟩
    rw [maxL_is hM hall, min_if, ← List.take_append_getElem (show i < (snds cs).length by rw [snds_len]; exact hil), ← List.take_append_getElem (show i < (snds qs).length by rw [snds_len]; exact hiq), reachC_snoc _ _ (by rw [List.length_take, List.length_take, snds_len, snds_len, hlen]), List.map_append, snds_at hil, snds_at hiq]
    rfl
  · obtain ⟨rfl, g⟩ := h
    intro r hr
    have e1 : (snds cs).take (refs1 cs).length = snds cs := by rw [refs1_len, ← snds_len]; exact List.take_length
    have e2 : (snds qs).take (refs1 cs).length = snds qs := by rw [refs1_len, hlen, ← snds_len]; exact List.take_length
    rw [e1, e2]
    exact q r _ (same_one g hr _) (g.free hr) upd_same
def spSpoil (K : PySem.W.Frag) : Sp := fun vs H Q _ => ∃ (p : Addr) (ps : List (Addr × List Int)) (c : Addr) (cls : List (Addr × List (Addr × Int × Int))) (t : Addr) (x y : Nat), vs = [.ref p, .ref c, .ref t] ∧ SqL K H p (refs1 ps) ∧ Lsts H ps ∧ SqL K H c (refs1 cls) ∧ Cels H cls ∧ H t = some (.tup [nv x, nv y]) ∧ wideN (snds ps) ≤ 100 ∧ ps.length ≤ 100 ∧ cls.length ≤ 100 ∧ OkCls ps.length cls ∧
  (spoilB (snds ps) (cellsOf cls) (x, y) = false → ∀ H', Same H H' → Q .non H') ∧
  (spoilB (snds ps) (cellsOf cls) (x, y) = true → ∀ (r : Addr) (fl : List (Addr × List Int)) (H' : Hp), Same H H' → H' r = some (.lst (refs1 fl)) → Lsts H' fl → Fill (snds fl) (cellsOf cls) → brokenB (snds ps) (snds fl) (x, y) = true → Q (.ref r) H')
theorem reach_few {sts : List (List Int)} {m : Nat} {n : Nat} (h : ∀ ms ∈ sts, ms.length ≤ n) : ∀ ms ∈ stepsOf sts m, ms.length ≤ n := by
  induction sts generalizing m with
  | nil => exact fun _ h => nomatch h
  | cons a sts ih =>
    intro ms hms
    rcases List.mem_cons.mp (show ms ∈ pick a m a.length :: stepsOf sts (m / 2 ^ a.length) from hms) with z | z
    · rw [z]; exact Nat.le_trans (pick_len _ _ _) (h a List.mem_cons_self)
    · exact ih (fun x hx => h x (List.mem_cons_of_mem _ hx)) ms z
theorem Lsts.set {H : Hp} {ps : List (Addr × List Int)} {i : Nat} {a : Addr} {xs : List Int} (h : Lsts H ps) (ha : H a = some (.lst (xs.map V.int))) : Lsts H (ps.set i (a, xs)) := fun q hq => by
  rcases List.mem_or_eq_of_mem_set hq with z | z
  · exact h q z
  · rw [z]; exact ha
theorem snds_set {α : Type} (ps : List (Addr × α)) (i : Nat) (a : Addr) (x : α) : snds (ps.set i (a, x)) = (snds ps).set i x := by unfold snds; rw [List.map_set]
theorem refs1_set {α : Type} (ps : List (Addr × α)) (i : Nat) (a : Addr) (x : α) : refs1 (ps.set i (a, x)) = (refs1 ps).set i (.ref a) := by unfold refs1; rw [List.map_set]
theorem lows_fill {css : List (List (Int × Int))} {i : Nat} {ws : List Int} (ho : ∀ cs ∈ css, OkC cs) (hi : i < css.length) (hw : InC ws css[i]) : Fill ((css.map (·.map (·.1))).set i ws) css := by
  refine ⟨by rw [List.length_set, List.length_map], fun j h1 h2 => ?_⟩
  rw [List.getElem_set]
  split
  · rename_i e
    subst e
    exact hw
  · rw [List.getElem_map]
    exact lows_in (ho _ (List.getElem_mem _))
theorem ok_spoiling {f_spoiling : Addr} {fd_spoiling : FuncData} (F_spoiling : Fun K "spoiling" "spoiling" s_spoiling f_spoiling fd_spoiling)
    {f_steps_of : Addr} {fd_steps_of : FuncData} (G_steps_of : FnOk P w K mg base CX0 2 f_steps_of fd_steps_of ["steps", "mask"] (spStepsOf K)) (b_steps_of : Binds K fd_steps_of ["steps", "mask"] []) (k_steps_of : PySem.W.keepIn K (.ref f_steps_of) = true) (m_steps_of : mg "steps_of" = some (.ref f_steps_of))
    {f_lows_reaching : Addr} {fd_lows_reaching : FuncData} (G_lows_reaching : FnOk P w K mg base CX0 1 f_lows_reaching fd_lows_reaching ["line", "wanted"] (spReach K)) (b_lows_reaching : Binds K fd_lows_reaching ["line", "wanted"] []) (k_lows_reaching : PySem.W.keepIn K (.ref f_lows_reaching) = true) (m_lows_reaching : mg "lows_reaching" = some (.ref f_lows_reaching))
    {f_breaks : Addr} {fd_breaks : FuncData} (G_breaks : FnOk P w K mg base CX0 2 f_breaks fd_breaks ["row", "rule"] (spBreaks)) (b_breaks : Binds K fd_breaks ["row", "rule"] []) (k_breaks : PySem.W.keepIn K (.ref f_breaks) = true) (m_breaks : mg "breaks" = some (.ref f_breaks))
    {f_spread : Addr} {fd_spread : FuncData} (G_spread : FnOk P w K mg base CX0 2 f_spread fd_spread ["steps", "worths"] (spSpread K)) (b_spread : Binds K fd_spread ["steps", "worths"] []) (k_spread : PySem.W.keepIn K (.ref f_spread) = true) (m_spread : mg "spread" = some (.ref f_spread))
    {f_lows : Addr} {fd_lows : FuncData} (G_lows : FnOk P w K mg base CX0 1 f_lows fd_lows ["line"] (spLows K)) (b_lows : Binds K fd_lows ["line"] []) (k_lows : PySem.W.keepIn K (.ref f_lows) = true) (m_lows : mg "lows" = some (.ref f_lows))
    (z_enumerate : mg "enumerate" = none) :
    FnOk P w K mg base CX0 3 f_spoiling fd_spoiling ["steps", "cells", "rule"] (spSpoil K) := by
  refine F_spoiling.ok sc_spoiling (fun vs H Q E h => ?_) (fun cdv A outer s H vs Q E hr h => ?_)
  · obtain ⟨p, ps, c, cls, t, x, y, rfl, hp, hL, hc, hC, hT, hwide, hpl, hcl, hok, q1, q2⟩ := h
    rfl
  obtain ⟨p, ps, c, cls, t, x, y, rfl, hp, hL, hc, hC, hT, hwide, hpl, hcl, hok, q1, q2⟩ := h
  refine ⟨_, (pss_cons (ps_set (i := 3) sc_spoiling.nd rfl (Or.inl rfl) (pe_call G_steps_of (hr.mono (by decide)) rfl m_steps_of k_steps_of b_steps_of .nil pass0 (pa_cons (pv 0) (pa_cons (pe_ix (ix_tupK (K := K) rfl) (pv 2) pe_int (by intro _ _; rfl)) pa_nil))))
      (pss_cons (ps_for PassesOwn.never rfl (pi_enumK (K := K) rfl rfl z_enumerate (pa_cons (pv 1) pa_nil)) (pg_tupK (K := K) (n := 2) rfl rfl (pgs_cons (pg_name (i := 4) sc_spoiling.nd rfl (Or.inl rfl)) (pgs_cons (pg_name (i := 5) sc_spoiling.nd rfl (Or.inl rfl)) pgs_nil))) (pss_cons (ps_set (i := 6) sc_spoiling.nd rfl (Or.inl rfl) (pe_call G_lows_reaching (hr.mono (by decide)) rfl m_lows_reaching k_lows_reaching b_lows_reaching .nil pass0 (pa_cons (pv 5) (pa_cons (pv 3) pa_nil))))
      (pss_one (ps_if (pt_val (pe_call G_breaks (hr.mono (by decide)) rfl m_breaks k_breaks b_breaks .nil pass0 (pa_cons (pe_call G_spread (hr.mono (by decide)) rfl m_spread k_spread b_spread .nil pass0 (pa_cons (pv 0) (pa_cons (pv 6) pa_nil))) (pa_cons (pv 2) pa_nil)))) (pss_cons (ps_setcomp (i := 7) (own := ["other"]) rfl sc_spoiling.nd rfl (Or.inl rfl) (pi_listK (K := K) rfl (pv 1)) (fun _ _ _ _ _ => (pg_name (i := 0) nd_spoiling_6 rfl (Or.inl rfl))) (fun _ _ _ _ _ => pif_nil) (fun _ _ _ _ _ => (pe_call G_lows (hr.mono (by decide)) rfl m_lows k_lows b_lows .nil pass0 (pa_cons (pv 0) pa_nil))))
      (pss_cons (ps_asg (pv 6) (pg_sub (pv 7) (pv 4) set_list))
      (pss_one (ps_ret (pv 7))))) pss_nil))))
      (pss_one (ps_ret pe_non)))), ?_⟩
  refine ⟨_, rfl, _, rfl, t, _, _, _, rfl, rfl, SqT.of hT, tup0 _ _, p, ps, x, rfl, hp, hL, hwide, hpl, fun wq qs H1 g1 ow hw1 hLw eqs => ?_⟩
  have hqs : qs.length = ps.length := by rw [← snds_len qs, eqs, stepsOf_len, snds_len]
  have hqf : ∀ q ∈ qs, q.2.length ≤ 100 := fun q hq => reach_few (sts := snds ps) (m := x) (fun ms hms => Nat.le_trans (wide_mem hms) hwide) q.2 (by rw [← eqs]; exact snds_mem hq)
  refine ⟨_, rfl, c, rfl, ⟨_, g1.seq hc⟩, for_enum (K := K) (a := c) (xs := refs1 cls) (fun i σ H2 => ∃ (v1 v2 v3 v4 : Option V), σ = [some (.ref p), some (.ref c), some (.ref t), some (.ref wq), v1, v2, v3, v4] ∧ Same H1 H2 ∧ ∀ j (h : j < cls.length), j < i → brk (spreadN (snds ps) (reachC (snds cls[j].2) (stepsOf (snds ps) x))) (x, y) = false) ⟨_, _, _, _, rfl, Same.refl _, fun j _ h => absurd h (by omega)⟩ (fun i σ H2 _ ⟨_, _, _, _, _, g, _⟩ => (g1.trans g).seq hc) ?_ ?_⟩
  · rintro i z σ H2 u hi ⟨v1, v2, v3, v4, rfl, g, hb⟩ hu
    obtain ⟨hil, rfl⟩ := ref1I hi
    have g3 := same_one g hu (.tup [.int i, .ref cls[i].1])
    have hu3 : (upd H2 u (.tup [.int i, .ref cls[i].1])) u = some (.tup [.int i, .ref cls[i].1]) := upd_same
    generalize upd H2 u (.tup [.int i, .ref cls[i].1]) = H3 at g3 hu3
    have hC3 := (hC.same (g1.trans g3)) _ (List.getElem_mem hil)
    have hk := hok _ (List.getElem_mem hil)
    refine ⟨u, _, rfl, SqT.of hu3, rfl, _, _, rfl, _, _, rfl, rfl, _, rfl, _, rfl, cls[i].1, cls[i].2, wq, qs, rfl, SqL.of hC3.1, hC3.2, SqL.of (g3 _ _ hw1), hLw.same g3, by omega, by omega, hqf, fun r H4 g4 or hr4 => ?_⟩
    rw [eqs] at hr4
    have hrl : (reachC (snds cls[i].2) (stepsOf (snds ps) x)).length = ps.length := by rw [reachC_len (by rw [stepsOf_len, snds_len, snds_len, hk.1]), snds_len, hk.1]
    have hin : InC (reachC (snds cls[i].2) (stepsOf (snds ps) x)) (snds cls[i].2) := reachC_in hk.2 (by rw [stepsOf_len, snds_len, snds_len, hk.1])
    have hall : ∀ b, brk (spreadN (snds ps) (reachC (snds cls[i].2) (stepsOf (snds ps) x))) (x, y) = b → b = true → spoilB (snds ps) (cellsOf cls) (x, y) = true := fun b e hb => by
      unfold spoilB
      rw [List.any_eq_true]
      exact ⟨snds cls[i].2, by rw [← cellsOf_at hil]; exact List.getElem_mem _, by rw [e]; exact hb⟩
    obtain ⟨ws, ews⟩ : ∃ ws, ws = reachC (snds cls[i].2) (stepsOf (snds ps) x) := ⟨_, rfl⟩
    rw [← ews] at hr4 hrl hin hall
    have g14 := g3.trans g4
    have g04 := g1.trans g14
    refine ⟨_, rfl, _, rfl, p, ps, r, ws, rfl, g04.seq hp, hL.same g04, SqL.of hr4, hrl.symm, hwide, fun H5 g5 => ?_⟩
    have g05 := g04.trans g5
    refine ⟨_, rfl, spreadN (snds ps) ws, t, x, y, rfl, g05 _ _ hT, _, rfl, ?_⟩
    cases e : brk (spreadN (snds ps) ws) (x, y) with
    | false =>
      refine iteF ⟨_, _, _, _, rfl, g14.trans g5, fun j hj hji => ?_⟩
      by_cases h : j = i
      · subst h
        rw [← ews]; exact e
      · exact hb j hj (by omega)
    | true =>
      have hsp := hall _ e rfl
      refine iteT ⟨_, rfl, c, rfl, ⟨_, g05.seq hc⟩, ?_⟩
      refine comp_list (K := K) (a := c) (xs := refs1 cls) (fun j ys H6 => ∃ fl : List (Addr × List Int), ys = refs1 fl ∧ snds fl = ((cellsOf cls).take j).map (·.map (·.1)) ∧ Lsts H6 fl ∧ Same H5 H6) (by rw [refs1_len]; exact line1000 (by omega)) ⟨[], rfl, rfl, Lsts.nil, Same.refl _⟩ (fun j ys H6 hj h => ?_) (fun j ys H6 hj h => ?_) (fun j z ys H6 hj h => ?_) (fun ys H6 h => ?_)
      · obtain ⟨fl, rfl, e, _⟩ := h
        have e := congrArg List.length e
        rw [snds_len, List.length_map, List.length_take, cellsOf_len] at e
        rw [refs1_len]; omega
      · obtain ⟨fl, _, _, _, g⟩ := h
        exact (g05.trans g).seq hc
      · obtain ⟨fl, rfl, ef, hLf, g⟩ := h
        obtain ⟨hjl, rfl⟩ := ref1I hj
        have hC6 := (hC.same (g05.trans g)) _ (List.getElem_mem hjl)
        have hkj := hok _ (List.getElem_mem hjl)
        refine ⟨rfl, _, rfl, cls[j].1, cls[j].2, rfl, SqL.of hC6.1, hC6.2, by omega, fun b hb => ⟨fl ++ [(b, (snds cls[j].2).map (·.1))], ?_, ?_, (hLf.same (same_new hb _)).snoc upd_same, same_one g hb _⟩⟩
        · rw [refs1_snoc]
        · rw [snds_snoc, ef, ← List.take_append_getElem (show j < (cellsOf cls).length by rw [cellsOf_len]; exact hjl), List.map_append, cellsOf_at hjl]; rfl
      · obtain ⟨fl, rfl, ef, hLf, g⟩ := h
        intro f hf
        rw [refs1_len, ← cellsOf_len, List.take_length] at ef
        have g6 := same_one g hf (.lst (refs1 fl))
        have hf7 : (upd H6 f (.lst (refs1 fl))) f = some (.lst (refs1 fl)) := upd_same
        have hL7 := hLf.same (same_new hf (.lst (refs1 fl)))
        have hfl : fl.length = cls.length := by rw [← snds_len, ef, List.length_map, cellsOf_len]
        have hr7 := g6 _ _ (g5 _ _ hr4)
        have nrf : r ≠ f := fun e => by
          have := g _ _ (g5 _ _ hr4)
          rw [e, hf] at this; cases this
        have nef : ∀ q ∈ fl.set i (r, ws), q.1 ≠ f := fun q hq => by
          rcases List.mem_or_eq_of_mem_set hq with z | z
          · intro e
            have := hLf q z
            rw [e, hf] at this; cases this
          · rw [z]; exact nrf
        have of' : H f = none := (g05.trans g).free hf
        generalize upd H6 f (.lst (refs1 fl)) = H7 at g6 hf7 hL7 hr7
        refine ⟨_, rfl, _, rfl, _, rfl, f, _, _, i, rfl, rfl, hf7, ixN_nat (by rw [refs1_len, hfl]; exact hil), _, rfl, ?_⟩
        refine q2 hsp f (fl.set i (r, ws)) _ (same_upd (g05.trans g6) of' _) (by rw [refs1_set]; exact upd_same) ((hL7.set hr7).upd_ne nef) ?_ ?_
        · rw [snds_set, ef]
          refine lows_fill (fun cs hcs => ?_) (by rw [cellsOf_len]; exact hil) (by rw [cellsOf_at hil]; exact hin)
          obtain ⟨q, hq, rfl⟩ := cellsOf_mem hcs
          exact (hok q hq).2
        · unfold brokenB
          rw [List.any_eq_true]
          refine ⟨ws, ?_, e⟩
          rw [snds_set]
          exact List.mem_set (by rw [snds_len, hfl]; exact hil) ws
  · rintro σ H2 ⟨v1, v2, v3, v4, rfl, g, hb⟩
    refine q1 ?_ _ (g1.trans g)
    unfold spoilB
    rw [List.any_eq_false]
    intro cs hcs
    obtain ⟨j, hj, rfl⟩ := List.getElem_of_mem hcs
    rw [cellsOf_len] at hj
    rw [cellsOf_at hj, hb j hj (by rw [refs1_len]; exact hj)]
    exact Bool.false_ne_true
def spSure (K : PySem.W.Frag) : Sp := fun vs H Q _ => ∃ (p : Addr) (ps : List (Addr × List Int)) (c : Addr) (cls : List (Addr × List (Addr × Int × Int))) (t : Addr) (x y : Nat), vs = [.ref p, .ref c, .ref t] ∧ SqL K H p (refs1 ps) ∧ Lsts H ps ∧ SqL K H c (refs1 cls) ∧ Cels H cls ∧ H t = some (.tup [nv x, nv y]) ∧ wideN (snds ps) ≤ 100 ∧ ps.length ≤ 100 ∧ cls.length ≤ 100 ∧ OkCls ps.length cls ∧ ∀ H', Same H H' → Q (.bl (!spoilB (snds ps) (cellsOf cls) (x, y))) H'
theorem ok_sure {f_sure : Addr} {fd_sure : FuncData} (F_sure : Fun K "sure" "sure" s_sure f_sure fd_sure)
    {f_spoiling : Addr} {fd_spoiling : FuncData} (G_spoiling : FnOk P w K mg base CX0 3 f_spoiling fd_spoiling ["steps", "cells", "rule"] (spSpoil K)) (b_spoiling : Binds K fd_spoiling ["steps", "cells", "rule"] []) (k_spoiling : PySem.W.keepIn K (.ref f_spoiling) = true) (m_spoiling : mg "spoiling" = some (.ref f_spoiling)) :
    FnOk P w K mg base CX0 4 f_sure fd_sure ["steps", "cells", "rule"] (spSure K) := by
  refine F_sure.ok sc_sure (fun vs H Q E h => ?_) (fun cdv A outer s H vs Q E hr h => ?_)
  · obtain ⟨p, ps, c, cls, t, x, y, rfl, hp, hL, hc, hC, hT, hwide, hpl, hcl, hok, q⟩ := h
    rfl
  obtain ⟨p, ps, c, cls, t, x, y, rfl, hp, hL, hc, hC, hT, hwide, hpl, hcl, hok, q⟩ := h
  refine ⟨_, (pss_one (ps_ret (pe_cmpR op_isN (pe_call G_spoiling (hr.mono (by decide)) rfl m_spoiling k_spoiling b_spoiling .nil pass0 (pa_cons (pv 0) (pa_cons (pv 1) (pa_cons (pv 2) pa_nil)))) pe_non (nomark _)))), ?_⟩
  refine ⟨_, rfl, _, rfl, _, rfl, p, ps, c, cls, t, x, y, rfl, hp, hL, hc, hC, hT, hwide, hpl, hcl, hok, fun e H' g => ⟨rfl, ?_⟩, fun e r fl H' g _ _ _ _ => ⟨rfl, ?_⟩⟩
  · rw [e] at q
    exact q _ g
  · rw [e] at q
    rw [decide_eq_false (fun z => nomatch z)]
    exact q _ g
def spHighs (K : PySem.W.Frag) : Sp := fun vs H Q _ => ∃ (l : Addr) (cs : List (Addr × Int × Int)), vs = [.ref l] ∧ SqL K H l (refs1 cs) ∧ Lins H cs ∧ cs.length ≤ 100 ∧ ∀ r, H r = none → Q (.ref r) (upd H r (.lst (((snds cs).map (·.2)).map V.int)))
theorem ok_highs {f_highs : Addr} {fd_highs : FuncData} (F_highs : Fun K "highs" "highs" s_highs f_highs fd_highs) :
    FnOk P w K mg base CX0 1 f_highs fd_highs ["line"] (spHighs K) := by
  refine F_highs.ok sc_highs (fun vs H Q E h => ?_) (fun cdv A outer s H vs Q E hr h => ?_)
  · obtain ⟨l, cs, rfl, hl, hC, hn, q⟩ := h
    rfl
  obtain ⟨l, cs, rfl, hl, hC, hn, q⟩ := h
  refine ⟨_, (pss_one (ps_ret (pe_comp (own := ["cell"]) rfl (pi_listK (K := K) rfl (pv 0)) (fun _ _ _ _ _ => (pg_name (i := 0) nd_highs_4 rfl (Or.inl rfl))) (fun _ _ _ _ _ => pif_nil) (fun _ _ _ _ _ => (pe_ix (ix_tupK (K := K) rfl) (pv 0) pe_int (by intro _ _; rfl)))))), ?_⟩
  refine ⟨_, rfl, l, rfl, ⟨_, hl⟩, ?_⟩
  refine comp_list (K := K) (a := l) (xs := refs1 cs) (fun i ys H2 => ys = (((snds cs).take i).map (·.2)).map V.int ∧ H = H2) (by rw [refs1_len]; exact line1000 (by omega)) ⟨rfl, rfl⟩ (fun i ys H2 hi h => ?_) (fun i ys H2 hi h => ?_) (fun i x ys H2 hi h => ?_) (fun ys H2 h => ?_)
  · rw [h.1, List.length_map, List.length_map, List.length_take]; omega
  · rw [← h.2]; exact hl
  · obtain ⟨rfl, rfl⟩ := h
    obtain ⟨hil, rfl⟩ := ref1I hi
    refine ⟨rfl, _, rfl, cs[i].1, _, _, _, rfl, rfl, SqT.of (hC _ (List.getElem_mem hil)), tup1 _ _, ?_, rfl⟩
    rw [← List.take_append_getElem (show i < (snds cs).length by rw [snds_len]; exact hil), List.map_append, List.map_append, snds_at hil]; rfl
  · obtain ⟨rfl, rfl⟩ := h
    intro r hr
    rw [refs1_len, ← snds_len, List.take_length]
    exact q r hr
def keepB (sts : List (List Int)) (cs : List (Int × Int)) (r : Nat × Nat) : Bool := !(brk (spreadN sts (cs.map (·.1))) r && brk (spreadN sts (cs.map (·.2))) r)
def spKeeping (K : PySem.W.Frag) : Sp := fun vs H Q _ => ∃ (p : Addr) (ps : List (Addr × List Int)) (l : Addr) (cs : List (Addr × Int × Int)) (t : Addr) (x y : Nat), vs = [.ref p, .ref l, .ref t] ∧ SqL K H p (refs1 ps) ∧ Lsts H ps ∧ SqL K H l (refs1 cs) ∧ Lins H cs ∧ H t = some (.tup [nv x, nv y]) ∧ wideN (snds ps) ≤ 100 ∧ ps.length ≤ 100 ∧ cs.length = ps.length ∧ OkC (snds cs) ∧
  (keepB (snds ps) (snds cs) (x, y) = false → ∀ H', Same H H' → Q .non H') ∧
  (keepB (snds ps) (snds cs) (x, y) = true → ∀ (r : Addr) (ws : List Int) (H' : Hp), Same H H' → H r = none → H' r = some (.lst (ws.map V.int)) → InC ws (snds cs) → brk (spreadN (snds ps) ws) (x, y) = false → Q (.ref r) H')
theorem ok_keeping {f_keeping : Addr} {fd_keeping : FuncData} (F_keeping : Fun K "keeping" "keeping" s_keeping f_keeping fd_keeping)
    {f_highs : Addr} {fd_highs : FuncData} (G_highs : FnOk P w K mg base CX0 1 f_highs fd_highs ["line"] (spHighs K)) (b_highs : Binds K fd_highs ["line"] []) (k_highs : PySem.W.keepIn K (.ref f_highs) = true) (m_highs : mg "highs" = some (.ref f_highs))
    {f_lows : Addr} {fd_lows : FuncData} (G_lows : FnOk P w K mg base CX0 1 f_lows fd_lows ["line"] (spLows K)) (b_lows : Binds K fd_lows ["line"] []) (k_lows : PySem.W.keepIn K (.ref f_lows) = true) (m_lows : mg "lows" = some (.ref f_lows))
    {f_breaks : Addr} {fd_breaks : FuncData} (G_breaks : FnOk P w K mg base CX0 2 f_breaks fd_breaks ["row", "rule"] (spBreaks)) (b_breaks : Binds K fd_breaks ["row", "rule"] []) (k_breaks : PySem.W.keepIn K (.ref f_breaks) = true) (m_breaks : mg "breaks" = some (.ref f_breaks))
    {f_spread : Addr} {fd_spread : FuncData} (G_spread : FnOk P w K mg base CX0 2 f_spread fd_spread ["steps", "worths"] (spSpread K)) (b_spread : Binds K fd_spread ["steps", "worths"] []) (k_spread : PySem.W.keepIn K (.ref f_spread) = true) (m_spread : mg "spread" = some (.ref f_spread)) :
    FnOk P w K mg base CX0 3 f_keeping fd_keeping ["steps", "line", "rule"] (spKeeping K) := by
  refine F_keeping.ok sc_keeping (fun vs H Q E h => ?_) (fun cdv A outer s H vs Q E hr h => ?_)
  · obtain ⟨p, ps, l, cs, t, x, y, rfl, hp, hL, hl, hC, hT, hwide, hpl, hcl, hok, q1, q2⟩ := h
    rfl
  obtain ⟨p, ps, l, cs, t, x, y, rfl, hp, hL, hl, hC, hT, hwide, hpl, hcl, hok, q1, q2⟩ := h
  refine ⟨_, (pss_cons (ps_for PassesOwn.never rfl (pi_tupK (K := K) rfl (pe_tup (pa_cons (pe_call G_lows (hr.mono (by decide)) rfl m_lows k_lows b_lows .nil pass0 (pa_cons (pv 1) pa_nil)) (pa_cons (pe_call G_highs (hr.mono (by decide)) rfl m_highs k_highs b_highs .nil pass0 (pa_cons (pv 1) pa_nil)) pa_nil)))) (pg_name (i := 3) sc_keeping.nd rfl (Or.inl rfl)) (pss_one (ps_if (pt_not (pt_val (pe_call G_breaks (hr.mono (by decide)) rfl m_breaks k_breaks b_breaks .nil pass0 (pa_cons (pe_call G_spread (hr.mono (by decide)) rfl m_spread k_spread b_spread .nil pass0 (pa_cons (pv 0) (pa_cons (pv 3) pa_nil))) (pa_cons (pv 2) pa_nil))))) (pss_one (ps_ret (pv 3))) pss_nil)))
      (pss_one (ps_ret pe_non))), ?_⟩
  refine ⟨_, rfl, l, cs, rfl, hl, hC, by omega, fun r1 hr1 => ?_⟩
  have k1 := same_new hr1 (.lst (((snds cs).map (·.1)).map V.int))
  have e1 : (upd H r1 (.lst (((snds cs).map (·.1)).map V.int))) r1 = some (.lst (((snds cs).map (·.1)).map V.int)) := upd_same
  generalize upd H r1 (.lst (((snds cs).map (·.1)).map V.int)) = H1 at k1 e1
  refine ⟨_, rfl, l, cs, rfl, k1.seq hl, hC.same k1, by omega, fun r2 hr2 => ?_⟩
  have k2 := same_new hr2 (.lst (((snds cs).map (·.2)).map V.int))
  have e2 : (upd H1 r2 (.lst (((snds cs).map (·.2)).map V.int))) r2 = some (.lst (((snds cs).map (·.2)).map V.int)) := upd_same
  have or2 : H r2 = none := k1.free hr2
  have e12 := k2 _ _ e1
  generalize upd H1 r2 (.lst (((snds cs).map (·.2)).map V.int)) = H2 at k2 e2 e12
  refine ⟨two_line, fun u hu => ?_⟩
  obtain ⟨wl, ewl⟩ : ∃ wl : List (Addr × List Int), wl = [(r1, (snds cs).map (·.1)), (r2, (snds cs).map (·.2))] := ⟨_, rfl⟩
  have exs : ([.ref r1, .ref r2] : List V) = refs1 wl := by rw [ewl]; rfl
  have hLw2 : Lsts H2 wl := fun q hq => by
    rw [ewl] at hq
    rcases List.mem_cons.mp hq with z | z
    · rw [z]; exact e12
    · have : q = (r2, (snds cs).map (·.2)) := by simpa using z
      rw [this]; exact e2
  have hin : ∀ q ∈ wl, InC q.2 (snds cs) ∧ H q.1 = none := fun q hq => by
    rw [ewl] at hq
    rcases List.mem_cons.mp hq with z | z
    · rw [z]; exact ⟨lows_in hok, hr1⟩
    · have : q = (r2, (snds cs).map (·.2)) := by simpa using z
      rw [this]; exact ⟨highs_in hok, or2⟩
  have hkeep : (∃ q ∈ wl, brk (spreadN (snds ps) q.2) (x, y) = false) → keepB (snds ps) (snds cs) (x, y) = true := fun ⟨q, hq, hb⟩ => by
    rw [ewl] at hq
    unfold keepB
    rcases List.mem_cons.mp hq with z | z
    · rw [z] at hb
      rw [hb]; rfl
    · have : q = (r2, (snds cs).map (·.2)) := by simpa using z
      rw [this] at hb
      rw [hb, Bool.and_false]; rfl
  have hnone : (∀ q ∈ wl, brk (spreadN (snds ps) q.2) (x, y) = true) → keepB (snds ps) (snds cs) (x, y) = false := fun h => by
    have h1 := h (r1, (snds cs).map (·.1)) (by rw [ewl]; exact List.mem_cons_self)
    have h2 := h (r2, (snds cs).map (·.2)) (by rw [ewl]; exact List.mem_cons_of_mem _ List.mem_cons_self)
    unfold keepB
    rw [h1, h2]; rfl
  rw [exs]
  have k3 := same_new hu (.tup (refs1 wl))
  have hu3 : (upd H2 u (.tup (refs1 wl))) u = some (.tup (refs1 wl)) := upd_same
  have g3 := k1.trans (k2.trans k3)
  have hLw3 := hLw2.same k3
  generalize upd H2 u (.tup (refs1 wl)) = H3 at k3 hu3 g3 hLw3
  refine ⟨u, rfl, ⟨_, SqT.of hu3⟩, for_tup (K := K) (a := u) (xs := refs1 wl) (fun i σ H4 => ∃ (v : Option V), σ = [some (.ref p), some (.ref l), some (.ref t), v] ∧ Same H3 H4 ∧ ∀ j (h : j < wl.length), j < i → brk (spreadN (snds ps) wl[j].2) (x, y) = true) ⟨_, rfl, Same.refl _, fun j _ h => absurd h (by omega)⟩ (fun i σ H4 _ ⟨_, _, g, _⟩ => SqT.of (g _ _ hu3)) ?_ ?_⟩
  · rintro i z σ H4 hi ⟨v, rfl, g, hb⟩
    obtain ⟨hil, rfl⟩ := ref1I hi
    have g4 := g3.trans g
    have hw := hLw3.same g _ (List.getElem_mem hil)
    have hi2 := hin _ (List.getElem_mem hil)
    refine ⟨_, rfl, _, rfl, p, ps, wl[i].1, wl[i].2, rfl, g4.seq hp, hL.same g4, SqL.of hw, by rw [hi2.1.length, snds_len]; exact hcl.symm, hwide, fun H5 g5 => ?_⟩
    refine ⟨_, rfl, _, t, x, y, rfl, g5 _ _ (g4 _ _ hT), _, rfl, ?_⟩
    cases e : brk (spreadN (snds ps) wl[i].2) (x, y) with
    | false => exact iteT ⟨_, rfl, q2 (hkeep ⟨_, List.getElem_mem hil, e⟩) _ _ _ (g4.trans g5) hi2.2 (g5 _ _ hw) hi2.1 e⟩
    | true =>
      refine iteF ⟨_, rfl, g.trans g5, fun j hj hji => ?_⟩
      by_cases h : j = i
      · subst h; exact e
      · exact hb j hj (by omega)
  · rintro σ H4 ⟨v, rfl, g, hb⟩
    refine q1 (hnone fun q hq => ?_) _ (g3.trans g)
    obtain ⟨j, hj, rfl⟩ := List.getElem_of_mem hq
    exact hb j hj (by rw [refs1_len]; exact hj)
def spMend (K : PySem.W.Frag) : Sp := fun vs H Q _ => ∃ (p : Addr) (ps : List (Addr × List Int)) (c : Addr) (cls : List (Addr × List (Addr × Int × Int))) (t : Addr) (x y : Nat), vs = [.ref p, .ref c, .ref t] ∧ SqL K H p (refs1 ps) ∧ Lsts H ps ∧ SqL K H c (refs1 cls) ∧ Cels H cls ∧ H t = some (.tup [nv x, nv y]) ∧ wideN (snds ps) ≤ 100 ∧ ps.length ≤ 100 ∧ cls.length ≤ 100 ∧ OkCls ps.length cls ∧
  (mendB (snds ps) (cellsOf cls) (x, y) = false → ∀ H', Same H H' → Q .non H') ∧
  (mendB (snds ps) (cellsOf cls) (x, y) = true → ∀ (r : Addr) (fl : List (Addr × List Int)) (H' : Hp), Same H H' → H' r = some (.lst (refs1 fl)) → Lsts H' fl → Fill (snds fl) (cellsOf cls) → brokenB (snds ps) (snds fl) (x, y) = false → Q (.ref r) H')
theorem ok_mending {f_mending : Addr} {fd_mending : FuncData} (F_mending : Fun K "mending" "mending" s_mending f_mending fd_mending)
    {f_keeping : Addr} {fd_keeping : FuncData} (G_keeping : FnOk P w K mg base CX0 3 f_keeping fd_keeping ["steps", "line", "rule"] (spKeeping K)) (b_keeping : Binds K fd_keeping ["steps", "line", "rule"] []) (k_keeping : PySem.W.keepIn K (.ref f_keeping) = true) (m_keeping : mg "keeping" = some (.ref f_keeping)) :
    FnOk P w K mg base CX0 4 f_mending fd_mending ["steps", "cells", "rule"] (spMend K) := by
  refine F_mending.ok sc_mending (fun vs H Q E h => ?_) (fun cdv A outer s H vs Q E hr h => ?_)
  · obtain ⟨p, ps, c, cls, t, x, y, rfl, hp, hL, hc, hC, hT, hwide, hpl, hcl, hok, q1, q2⟩ := h
    rfl
  obtain ⟨p, ps, c, cls, t, x, y, rfl, hp, hL, hc, hC, hT, hwide, hpl, hcl, hok, q1, q2⟩ := h
  refine ⟨_, (pss_cons (ps_set (i := 3) sc_mending.nd rfl (Or.inl rfl) (pe_lst pa_nil))
      (pss_cons (ps_for PassesOwn.never rfl (pi_listK (K := K) rfl (pv 1)) (pg_name (i := 4) sc_mending.nd rfl (Or.inl rfl)) (pss_cons (ps_set (i := 5) sc_mending.nd rfl (Or.inl rfl) (pe_call G_keeping (hr.mono (by decide)) rfl m_keeping k_keeping b_keeping .nil pass0 (pa_cons (pv 0) (pa_cons (pv 4) (pa_cons (pv 2) pa_nil)))))
      (pss_cons (ps_if (pt_cmpR op_isN (pv 5) pe_non (nomark _)) (pss_one (ps_ret pe_non)) pss_nil)
      (pss_one (ps_expr (pe_bmK (K := K) rfl PySem.F.plainAttrs_list PySem.F.slot_list_append PySem.F.type_list_append mt_append (pv 3) (pa_cons (pv 5) pa_nil)))))))
      (pss_one (ps_ret (pv 3))))), ?_⟩
  refine ⟨Nat.zero_le _, fun f hf => ?_⟩
  have k1 := same_new hf (.lst ([] : List V))
  have h1 : (upd H f (.lst ([] : List V))) f = some (.lst (refs1 ([] : List (Addr × List Int)))) := upd_same
  generalize upd H f (.lst ([] : List V)) = H1 at k1 h1
  refine ⟨_, rfl, c, rfl, ⟨_, k1.seq hc⟩, for_list (K := K) (a := c) (xs := refs1 cls) (fun i σ H2 => ∃ (fl : List (Addr × List Int)) (v1 v2 : Option V), σ = [some (.ref p), some (.ref c), some (.ref t), some (.ref f), v1, v2] ∧ H2 f = some (.lst (refs1 fl)) ∧ Lsts H2 fl ∧ (∀ q ∈ fl, q.1 ≠ f) ∧ fl.length = i ∧ (∀ j (h1 : j < fl.length) (h2 : j < cls.length), InC fl[j].2 (snds cls[j].2)) ∧ (∀ q ∈ fl, brk (spreadN (snds ps) q.2) (x, y) = false) ∧ (∀ j (h : j < cls.length), j < i → keepB (snds ps) (snds cls[j].2) (x, y) = true) ∧ Same H H2) ⟨[], _, _, rfl, h1, Lsts.nil, (fun _ h => nomatch h), rfl, (fun j h => absurd h (by simp)), (fun _ h => nomatch h), fun j _ h => absurd h (by omega), k1⟩ (fun i σ H2 _ ⟨_, _, _, _, _, _, _, _, _, _, _, g⟩ => g.seq hc) ?_ ?_⟩
  · rintro i z σ H2 hi ⟨fl, v1, v2, rfl, h2, hL2, hne, hfl, hin, hbr, hkp, g2⟩
    obtain ⟨hil, rfl⟩ := ref1I hi
    have hC2 := (hC.same g2) _ (List.getElem_mem hil)
    have hk := hok _ (List.getElem_mem hil)
    refine ⟨_, rfl, _, rfl, _, rfl, p, ps, cls[i].1, cls[i].2, t, x, y, rfl, g2.seq hp, hL.same g2, SqL.of hC2.1, hC2.2, g2 _ _ hT, hwide, hpl, hk.1, hk.2, fun e H3 g3 => ?_, fun e r ws H3 g3 or hr3 hws hb => ?_⟩
    · refine ⟨_, rfl, rfl, _, rfl, ?_⟩
      rw [decide_eq_true (rfl : V.non = V.non)]
      refine iteT (q1 ?_ _ (g2.trans g3))
      unfold mendB
      rw [List.all_eq_false]
      refine ⟨snds cls[i].2, by rw [← cellsOf_at hil]; exact List.getElem_mem _, ?_⟩
      have e : (!(brk (spreadN (snds ps) ((snds cls[i].2).map (·.1))) (x, y) && brk (spreadN (snds ps) ((snds cls[i].2).map (·.2))) (x, y))) = false := e
      rw [e]; exact Bool.false_ne_true
    · refine ⟨_, rfl, rfl, _, rfl, ?_⟩
      rw [decide_eq_false (fun z => nomatch z)]
      have nrf : r ≠ f := fun e => by rw [e, h2] at or; cases or
      have hne3 : ∀ q ∈ fl ++ [(r, ws)], q.1 ≠ f := fun q hq => by
        rcases List.mem_append.mp hq with z | z
        · exact hne q z
        · have : q = (r, ws) := by simpa using z
          rw [this]; exact nrf
      refine iteF ⟨_, rfl, .inl ⟨rfl, _, SqL.of (g3 _ _ h2)⟩, _, rfl, f, _, _, rfl, rfl, g3 _ _ h2, by rw [refs1_len]; exact line1000 (by omega), fl ++ [(r, ws)], _, _, rfl, ?_, ((hL2.same g3).snoc hr3).upd_ne hne3, hne3, by rw [List.length_append, hfl]; rfl, fun j h1 h2 => ?_, fun q hq => ?_, fun j hj hji => ?_, same_upd (g2.trans g3) hf _⟩
      · rw [refs1_snoc]; exact upd_same
      · rw [List.getElem_append]
        split
        · exact hin j _ h2
        · rename_i hn
          have ej : j = i := by rw [List.length_append, List.length_singleton] at h1; omega
          subst ej
          simpa using hws
      · rcases List.mem_append.mp hq with z | z
        · exact hbr q z
        · have : q = (r, ws) := by simpa using z
          rw [this]; exact hb
      · by_cases h : j = i
        · subst h; exact e
        · exact hkp j hj (by omega)
  · rintro σ H2 ⟨fl, v1, v2, rfl, h2, hL2, hne, hfl, hin, hbr, hkp, g2⟩
    rw [refs1_len] at hfl
    refine ⟨_, rfl, q2 ?_ f fl _ g2 h2 hL2 ⟨?_, fun i h1 h2 => ?_⟩ ?_⟩
    · unfold mendB
      rw [List.all_eq_true]
      intro cs hcs
      obtain ⟨j, hj, rfl⟩ := List.getElem_of_mem hcs
      rw [cellsOf_len] at hj
      rw [cellsOf_at hj]
      exact hkp j hj (by rw [refs1_len]; exact hj)
    · rw [snds_len, cellsOf_len, hfl]
    · rw [snds_len] at h1
      rw [cellsOf_len] at h2
      rw [snds_at h1, cellsOf_at h2]
      exact hin i h1 h2
    · unfold brokenB
      rw [List.any_eq_false]
      intro ws hws
      obtain ⟨q, hq, rfl⟩ := mem_snds hws
      rw [hbr q hq]; exact Bool.false_ne_true
/-! ### what the laws of the gaps make and ask -/
def spGap (K : PySem.W.Frag) : Sp := fun vs H Q _ => ∃ (a : Addr) (ms : List Int) (i j : Int), vs = [.ref a, .int i, .int j] ∧ SqL K H a (ms.map V.int) ∧ ms ≠ [] ∧ ∀ (t : Addr) (lo hi : Int), lo ≤ hi → H t = none → Q (.ref t) (upd H t (.tup [.int lo, .int hi]))
theorem ok_law_gap {f_law_gap : Addr} {fd_law_gap : FuncData} (F_law_gap : Fun K "_law_gap" "_law_gap" s_law_gap f_law_gap fd_law_gap)
    {f_law_worth : Addr} {fd_law_worth : FuncData} (G_law_worth : FnOk P w K mg base CX0 1 f_law_worth fd_law_worth ["_law_row", "_law_number"] (spWorth K)) (b_law_worth : Binds K fd_law_worth ["_law_row", "_law_number"] []) (k_law_worth : PySem.W.keepIn K (.ref f_law_worth) = true) (m_law_worth : mg "_law_worth" = some (.ref f_law_worth))
    (z_max : mg "max" = none)
    (z_min : mg "min" = none) :
    FnOk P w K mg base CX0 2 f_law_gap fd_law_gap ["_law_row", "_law_one", "_law_other"] (spGap K) := by
  refine F_law_gap.ok sc_law_gap (fun vs H Q E h => ?_) (fun cdv A outer s H vs Q E hr h => ?_)
  · obtain ⟨a, ms, i, j, rfl, hA, hne, q⟩ := h
    rfl
  obtain ⟨a, ms, i, j, rfl, hA, hne, q⟩ := h
  refine ⟨_, (pss_cons (ps_set (i := 3) sc_law_gap.nd rfl (Or.inl rfl) (pe_call G_law_worth (hr.mono (by decide)) rfl m_law_worth k_law_worth b_law_worth .nil pass0 (pa_cons (pv 0) (pa_cons (pv 1) pa_nil))))
      (pss_cons (ps_if (pt_cmpR op_eq (pe_op op_mod (pv 2) pe_int) pe_int (nomark _)) (pss_one (ps_ret (pe_tup (pa_cons (pv 3) (pa_cons (pv 3) pa_nil))))) pss_nil)
      (pss_cons (ps_set (i := 4) sc_law_gap.nd rfl (Or.inl rfl) (pe_call G_law_worth (hr.mono (by decide)) rfl m_law_worth k_law_worth b_law_worth .nil pass0 (pa_cons (pv 0) (pa_cons (pv 2) pa_nil))))
      (pss_one (ps_ret (pe_tup (pa_cons (pe_callB (call_min2 (by rfl)) rfl z_min b_min (pa_cons (pv 3) (pa_cons (pv 4) pa_nil))) (pa_cons (pe_callB (call_max2 (by rfl)) rfl z_max b_max (pa_cons (pv 3) (pa_cons (pv 4) pa_nil))) pa_nil)))))))), ?_⟩
  refine ⟨_, rfl, _, rfl, a, ms, i, rfl, hA, hne, fun lo => ?_⟩
  refine ⟨_, rfl, _, _, rfl, rfl, (by show (0 : Int) < 3; decide), rfl, _, rfl, ite2 (fun _ => ?_) (fun _ => ?_)⟩
  · exact ⟨_, rfl, _, rfl, two_line, fun t ht => q t lo lo (Int.le_refl _) ht⟩
  refine ⟨_, rfl, _, rfl, a, ms, j, rfl, hA, hne, fun hi => ?_⟩
  refine ⟨_, rfl, _, rfl, _, _, rfl, _, rfl, _, rfl, _, _, rfl, two_line, fun t ht => q t _ _ ?_ ht⟩
  split <;> split <;> omega
def spLCells (K : PySem.W.Frag) : Sp := fun vs H Q _ => ∃ (p : Addr) (ps : List (Addr × List Int)) (d : Addr) (dn : List Int), vs = [.ref p, .ref d] ∧ SqL K H p (refs1 ps) ∧ Lsts H ps ∧ GoodS ps ∧ ps.length ≤ 20 ∧ SqL K H d (dn.map V.int) ∧ dn.length ≤ 80 ∧ ∀ (c : Addr) (cls : List (Addr × List (Addr × Int × Int))) (H' : Hp), Same H H' → H' c = some (.lst (refs1 cls)) → Cels H' cls → cls.length ≤ 80 → OkCls ps.length cls → Q (.ref c) H'
theorem Lins.snoc {H : Hp} {cs : List (Addr × Int × Int)} {t : Addr} {lo hi : Int} (h : Lins H cs) (ht : H t = some (.tup [.int lo, .int hi])) : Lins H (cs ++ [(t, lo, hi)]) := fun q hq => by
  rcases List.mem_append.mp hq with z | z
  · exact h q z
  · have : q = (t, lo, hi) := by simpa using z
    rw [this]; exact ht
theorem Lins.nil {H : Hp} : Lins H [] := fun _ h => nomatch h
theorem Lins.upd_lst {H : Hp} {cs : List (Addr × Int × Int)} {p : Addr} {xs ys : List V} (h : Lins H cs) (hp : H p = some (.lst xs)) : Lins (upd H p (.lst ys)) cs := fun q hq => by
  rw [upd_ne (ne_of (h q hq) hp (by intro z; cases z))]
  exact h q hq
theorem Cels.nil {H : Hp} : Cels H [] := fun _ h => nomatch h
theorem Cels.snoc {H : Hp} {cls : List (Addr × List (Addr × Int × Int))} {a : Addr} {cs : List (Addr × Int × Int)} (h : Cels H cls) (ha : H a = some (.lst (refs1 cs))) (hc : Lins H cs) : Cels H (cls ++ [(a, cs)]) := fun q hq => by
  rcases List.mem_append.mp hq with z | z
  · exact h q z
  · have : q = (a, cs) := by simpa using z
    rw [this]; exact ⟨ha, hc⟩
theorem Cels.upd_lst {H : Hp} {cls : List (Addr × List (Addr × Int × Int))} {p : Addr} {xs ys : List V} (h : Cels H cls) (hp : H p = some (.lst xs)) (n : ∀ q ∈ cls, q.1 ≠ p) : Cels (upd H p (.lst ys)) cls := fun q hq =>
  ⟨by rw [upd_ne (n q hq)]; exact (h q hq).1, (h q hq).2.upd_lst hp⟩
theorem OkCls.nil {n : Nat} : OkCls n [] := fun _ h => nomatch h
theorem OkCls.snoc {n : Nat} {cls : List (Addr × List (Addr × Int × Int))} {a : Addr} {cs : List (Addr × Int × Int)} (h : OkCls n cls) (h1 : cs.length = n) (h2 : OkC (snds cs)) : OkCls n (cls ++ [(a, cs)]) := fun q hq => by
  rcases List.mem_append.mp hq with z | z
  · exact h q z
  · have : q = (a, cs) := by simpa using z
    rw [this]; exact ⟨h1, h2⟩
theorem OkC.snoc {cs : List (Int × Int)} {c : Int × Int} (h : OkC cs) (hc : c.1 ≤ c.2) : OkC (cs ++ [c]) := fun q hq => by
  rcases List.mem_append.mp hq with z | z
  · exact h q z
  · have : q = c := by simpa using z
    rw [this]; exact hc
theorem ne_snoc {α : Type} {ps : List (Addr × α)} {a p : Addr} {x : α} (h : ∀ q ∈ ps, q.1 ≠ p) (ha : a ≠ p) : ∀ q ∈ ps ++ [(a, x)], q.1 ≠ p := fun q hq => by
  rcases List.mem_append.mp hq with z | z
  · exact h q z
  · have : q = (a, x) := by simpa using z
    rw [this]; exact ha
theorem ok_law_cells {f_law_cells : Addr} {fd_law_cells : FuncData} (F_law_cells : Fun K "_law_cells" "_law_cells" s_law_cells f_law_cells fd_law_cells)
    {f_law_gap : Addr} {fd_law_gap : FuncData} (G_law_gap : FnOk P w K mg base CX0 2 f_law_gap fd_law_gap ["_law_row", "_law_one", "_law_other"] (spGap K)) (b_law_gap : Binds K fd_law_gap ["_law_row", "_law_one", "_law_other"] []) (k_law_gap : PySem.W.keepIn K (.ref f_law_gap) = true) (m_law_gap : mg "_law_gap" = some (.ref f_law_gap))
    (z_len : mg "len" = none)
    (z_range : mg "range" = none)
    (z_min : mg "min" = none) :
    FnOk P w K mg base CX0 3 f_law_cells fd_law_cells ["_law_steps_here", "_law_drawn"] (spLCells K) := by
  refine F_law_cells.ok sc_law_cells (fun vs H Q E h => ?_) (fun cdv A outer s H vs Q E hr h => ?_)
  · obtain ⟨p, ps, d, dn, rfl, hp, hL, hG, hpl, hd, hdl, q⟩ := h
    rfl
  obtain ⟨p, ps, d, dn, rfl, hp, hL, hG, hpl, hd, hdl, q⟩ := h
  refine ⟨_, (pss_cons (ps_set (i := 2) sc_law_cells.nd rfl (Or.inl rfl) (pe_op op_mul pe_int (pe_callB (len_seqK (K := K) rfl) rfl z_len PySem.boot_len (pa_cons (pv 0) pa_nil))))
      (pss_cons (ps_if (pt_cmpR op_eq (pv 2) pe_int (nomark _)) (pss_one (ps_ret (pe_comp (own := ["_law_cell_here"]) rfl (pi_listK (K := K) rfl (pe_slice (sl_listK (K := K) rfl) (pv 1) po_none (po_some pe_int))) (fun _ _ _ _ _ => (pg_name (i := 0) nd_law_cells_8 rfl (Or.inl rfl))) (fun _ _ _ _ _ => pif_nil) (fun _ _ _ _ _ => (pe_lst pa_nil))))) pss_nil)
      (pss_cons (ps_set (i := 3) sc_law_cells.nd rfl (Or.inl rfl) (pe_lst pa_nil))
      (pss_cons (ps_for PassesOwn.never rfl (pi_range1 rfl z_range (pa_cons (pe_callB (call_min2 (by rfl)) rfl z_min b_min (pa_cons pe_int (pa_cons (pe_op op_fdiv (pe_callB (len_seqK (K := K) rfl) rfl z_len PySem.boot_len (pa_cons (pv 1) pa_nil)) (pv 2)) pa_nil))) pa_nil)) (pg_name (i := 4) sc_law_cells.nd rfl (Or.inl rfl)) (pss_cons (ps_set (i := 5) sc_law_cells.nd rfl (Or.inl rfl) (pe_lst pa_nil))
      (pss_cons (ps_for PassesOwn.never rfl (pi_range1 rfl z_range (pa_cons (pe_callB (len_seqK (K := K) rfl) rfl z_len PySem.boot_len (pa_cons (pv 0) pa_nil)) pa_nil)) (pg_name (i := 6) sc_law_cells.nd rfl (Or.inl rfl)) (pss_cons (ps_set (i := 7) sc_law_cells.nd rfl (Or.inl rfl) (pe_op op_add (pe_op op_mul (pv 4) (pv 2)) (pe_op op_mul pe_int (pv 6))))
      (pss_one (ps_expr (pe_bmK (K := K) rfl PySem.F.plainAttrs_list PySem.F.slot_list_append PySem.F.type_list_append mt_append (pv 5) (pa_cons (pe_call G_law_gap (hr.mono (by decide)) rfl m_law_gap k_law_gap b_law_gap .nil pass0 (pa_cons (pe_ix (ix_listK (K := K) rfl) (pv 0) (pv 6) (by intro _ _; rfl)) (pa_cons (pe_ix (ix_listK (K := K) rfl) (pv 1) (pv 7) (by intro _ _; rfl)) (pa_cons (pe_ix (ix_listK (K := K) rfl) (pv 1) (pe_op op_add (pv 7) pe_int) (by intro _ _; rfl)) pa_nil)))) pa_nil))))))
      (pss_one (ps_expr (pe_bmK (K := K) rfl PySem.F.plainAttrs_list PySem.F.slot_list_append PySem.F.type_list_append mt_append (pv 3) (pa_cons (pv 5) pa_nil)))))))
      (pss_one (ps_ret (pv 3))))))), ?_⟩
  refine ⟨_, rfl, p, _, rfl, .inl hp, _, _, rfl, rfl, .inl ⟨by decide, by decide⟩, ?_⟩
  rw [refs1_len]
  refine ⟨_, rfl, rfl, _, rfl, ite2 (fun c => ?_) (fun c => ?_)⟩
  · have c : V.int (2 * (ps.length : Int)) = V.int 0 := of_decide_eq_true c
    have hp0 : ps.length = 0 := by
      injection c with c
      omega
    refine ⟨_, rfl, _, rfl, d, _, rfl, hd, fun p0 hp0' => ?_⟩
    obtain ⟨cs, ecs, hcs⟩ := cutV_ints dn none (some 60)
    rw [ecs]
    have k2 := same_new hp0' (.lst (cs.map V.int))
    have h02 : (upd H p0 (.lst (cs.map V.int))) p0 = some (.lst (cs.map V.int)) := upd_same
    generalize upd H p0 (.lst (cs.map V.int)) = H2 at k2 h02
    refine ⟨p0, rfl, ⟨_, SqL.of h02⟩, ?_⟩
    refine comp_list (K := K) (a := p0) (xs := cs.map V.int) (fun i ys H3 => ∃ cls : List (Addr × List (Addr × Int × Int)), ys = refs1 cls ∧ cls.length = i ∧ Cels H3 cls ∧ OkCls ps.length cls ∧ Same H2 H3) (by rw [List.length_map]; exact line1000 (by omega)) ⟨[], rfl, rfl, Cels.nil, OkCls.nil, Same.refl _⟩ (fun i ys H3 hi h => ?_) (fun i ys H3 hi h => ?_) (fun i x ys H3 hi h => ?_) (fun ys H3 h => ?_)
    · obtain ⟨cls, rfl, e, _⟩ := h
      rw [refs1_len]; omega
    · obtain ⟨cls, _, _, _, _, g⟩ := h
      exact SqL.of (g _ _ h02)
    · obtain ⟨cls, rfl, e, hC, hO, g⟩ := h
      obtain ⟨hil, rfl⟩ := intI hi
      refine ⟨rfl, Nat.zero_le _, fun b hb => ⟨cls ++ [(b, [])], by rw [refs1_snoc], by rw [List.length_append, e]; rfl, (hC.same (same_new hb _)).snoc upd_same Lins.nil, hO.snoc hp0.symm (fun _ h => nomatch h), same_one g hb _⟩⟩
    · obtain ⟨cls, rfl, e, hC, hO, g⟩ := h
      intro r hr
      rw [List.length_map] at e
      exact q r cls _ (same_one (k2.trans g) hr _) upd_same (hC.same (same_new hr _)) (by omega) hO
  have hpos : 0 < ps.length := by
    have c : ¬ (V.int (2 * (ps.length : Int)) = V.int 0) := of_decide_eq_false (Bool.eq_false_iff.mpr c)
    apply Nat.pos_of_ne_zero
    intro e
    rw [e] at c
    exact c rfl
  refine ⟨Nat.zero_le _, fun m hm => ?_⟩
  have k1 := same_new hm (.lst ([] : List V))
  have h1 : (upd H m (.lst ([] : List V))) m = some (.lst (refs1 ([] : List (Addr × List (Addr × Int × Int))))) := upd_same
  generalize upd H m (.lst ([] : List V)) = H1 at k1 h1
  obtain ⟨n1, en1, hn1, hn60⟩ : ∃ n1 : Nat, (if ((dn.length : Int) / (2 * (ps.length : Int))) < 60 then ((dn.length : Int) / (2 * (ps.length : Int))) else 60) = (n1 : Int) ∧ (n1 : Int) ≤ (dn.length : Int) / (2 * (ps.length : Int)) ∧ n1 ≤ 60 := by
    have h0 : 0 ≤ (dn.length : Int) / (2 * (ps.length : Int)) := Int.ediv_nonneg (by omega) (by omega)
    split
    · exact ⟨((dn.length : Int) / (2 * (ps.length : Int))).toNat, by omega, by omega, by omega⟩
    · exact ⟨60, rfl, by omega, Nat.le_refl _⟩
  refine ⟨_, rfl, d, _, rfl, .inl (k1.seq hd), _, rfl, _, _, rfl, rfl, ⟨by omega, by omega⟩, _, _, rfl, ?_⟩
  rw [List.length_map, en1]
  refine ⟨_, rfl, by omega, by omega, ?_⟩
  rw [Int.toNat_natCast]
  refine for_range (n := n1) (fun i σ H2 => ∃ (cls : List (Addr × List (Addr × Int × Int))) (v1 v2 v3 v4 : Option V), σ = [some (.ref p), some (.ref d), some (.int (2 * (ps.length : Int))), some (.ref m), v1, v2, v3, v4] ∧ H2 m = some (.lst (refs1 cls)) ∧ Cels H2 cls ∧ (∀ q ∈ cls, q.1 ≠ m) ∧ cls.length = i ∧ OkCls ps.length cls ∧ Same H H2) ⟨[], _, _, _, _, rfl, h1, Cels.nil, (fun _ h => nomatch h), rfl, OkCls.nil, k1⟩ ?_ ?_
  · rintro i σ H2 hi ⟨cls, v1, v2, v3, v4, rfl, h2, hC, hne, hcl, hO, g2⟩
    refine ⟨Nat.zero_le _, fun ra hra => ?_⟩
    have k3 := same_new hra (.lst ([] : List V))
    have h3 : (upd H2 ra (.lst ([] : List V))) ra = some (.lst (refs1 ([] : List (Addr × Int × Int)))) := upd_same
    generalize upd H2 ra (.lst ([] : List V)) = H3 at k3 h3
    refine ⟨_, rfl, p, _, rfl, .inl ((g2.trans k3).seq hp), _, rfl, by omega, by rw [refs1_len]; omega, ?_⟩
    rw [refs1_len, Int.toNat_natCast]
    refine for_range (n := ps.length) (fun j σ H4 => ∃ (cs : List (Addr × Int × Int)) (v3 v4 : Option V), σ = [some (.ref p), some (.ref d), some (.int (2 * (ps.length : Int))), some (.ref m), some (.int (0 + (i : Int))), some (.ref ra), v3, v4] ∧ H4 ra = some (.lst (refs1 cs)) ∧ Lins H4 cs ∧ OkC (snds cs) ∧ cs.length = j ∧ Same H2 H4) ⟨[], _, _, rfl, h3, Lins.nil, (fun _ h => nomatch h), rfl, k3⟩ ?_ ?_
    · rintro j σ H4 hj ⟨cs, v3, v4, rfl, h4, hT4, hO4, hcsl, g4⟩
      have g04 := g2.trans g4
      have hM := g04 _ _ (hL _ (List.getElem_mem hj))
      have hq : i * (2 * ps.length) + 2 * j + 1 < dn.length := by
        have h1 : ((i + 1 : Nat) : Int) ≤ (dn.length : Int) / (2 * (ps.length : Int)) := by omega
        have h2 := (Int.le_ediv_iff_mul_le (show (0 : Int) < 2 * (ps.length : Int) by omega)).mp h1
        have h3 : ((i + 1 : Nat) : Int) * (2 * (ps.length : Int)) = ((i * (2 * ps.length) + 2 * ps.length : Nat) : Int) := by rw [show (2 * (ps.length : Int)) = ((2 * ps.length : Nat) : Int) from by omega, ← Int.natCast_mul, Nat.succ_mul]
        rw [h3] at h2
        omega
      have e4 : atI (refs1 ps) (0 + (j : Int)) = some (.ref ps[j].1) := by rw [Int.zero_add]; exact atI_map hj
      have eat : ((0 + (i : Int)) * (2 * (ps.length : Int)) + 2 * (0 + (j : Int))) = ((i * (2 * ps.length) + 2 * j : Nat) : Int) := by simp
      refine ⟨_, rfl, _, rfl, _, _, rfl, rfl, .inl ⟨by omega, by omega⟩, _, rfl, _, _, rfl, rfl, .inl ⟨by decide, by decide⟩, _, _, rfl, rfl, ?_⟩
      dsimp only
      rw [eat]
      have e5 : atI (dn.map V.int) ((i * (2 * ps.length) + 2 * j : Nat) : Int) = some (.int (dn[i * (2 * ps.length) + 2 * j])) := atI_map (by omega)
      have e6 : atI (dn.map V.int) (((i * (2 * ps.length) + 2 * j : Nat) : Int) + 1) = some (.int (dn[i * (2 * ps.length) + 2 * j + 1])) := by
        rw [show (((i * (2 * ps.length) + 2 * j : Nat) : Int) + 1) = ((i * (2 * ps.length) + 2 * j + 1 : Nat) : Int) from by omega]
        exact atI_map hq
      have hd4 := g04.seq hd
      refine ⟨_, rfl, .inl ⟨rfl, _, SqL.of h4⟩, _, rfl, _, rfl, p, _, _, _, rfl, rfl, g04.seq hp, e4, _, rfl, _, rfl, d, _, _, _, rfl, rfl, hd4, e5, _, rfl, _, rfl, _, _, rfl, rfl, d, _, _, _, rfl, rfl, hd4, e6, ps[j].1, ps[j].2, _, _, rfl, SqL.of hM, (hG _ (List.getElem_mem hj)).1, fun t lo hi hlh ht => ?_⟩
      have k5 := same_new ht (.tup [.int lo, .int hi])
      have h5 : (upd H4 t (.tup [.int lo, .int hi])) t = some (.tup [.int lo, .int hi]) := upd_same
      have h45 := k5 _ _ h4
      generalize upd H4 t (.tup [.int lo, .int hi]) = H5 at k5 h5 h45
      refine ⟨ra, _, _, rfl, rfl, h45, by rw [refs1_len]; exact line1000 (by omega), cs ++ [(t, lo, hi)], _, _, rfl, ?_, ((hT4.same k5).snoc h5).upd_lst h45, ?_, by rw [List.length_append, hcsl]; rfl, same_upd (g4.trans k5) hra _⟩
      · rw [refs1_snoc]; exact upd_same
      · rw [snds_snoc]; exact hO4.snoc hlh
    · rintro σ H4 ⟨cs, v3, v4, rfl, h4, hT4, hO4, hcsl, g4⟩
      have nrm : ra ≠ m := fun e => by rw [e, h2] at hra; cases hra
      have hm4 := g4 _ _ h2
      have hne4 : ∀ q ∈ cls ++ [(ra, cs)], q.1 ≠ m := ne_snoc hne nrm
      refine ⟨_, rfl, .inl ⟨rfl, _, SqL.of hm4⟩, _, rfl, m, _, _, rfl, rfl, hm4, by rw [refs1_len]; exact line1000 (by omega), cls ++ [(ra, cs)], _, _, _, _, rfl, ?_, ((hC.same g4).snoc h4 hT4).upd_lst hm4 hne4, hne4, by rw [List.length_append, hcl]; rfl, hO.snoc hcsl hO4, same_upd (g2.trans g4) hm _⟩
      rw [refs1_snoc]; exact upd_same
  · rintro σ H2 ⟨cls, v1, v2, v3, v4, rfl, h2, hC, hne, hcl, hO, g2⟩
    exact ⟨_, rfl, q m cls _ g2 h2 hC (by omega) hO⟩
def spLCols (K : PySem.W.Frag) : Sp := fun vs H Q _ => ∃ (p : Addr) (ps : List (Addr × List Int)) (qa : Addr) (ws : List Int), vs = [.ref p, .ref qa] ∧ SqL K H p (refs1 ps) ∧ Lsts H ps ∧ SqL K H qa (ws.map V.int) ∧ ps.length = ws.length ∧ wideN (snds ps) ≤ 100 ∧ ps.length ≤ 100 ∧ Q (.int (spreadN (snds ps) ws : Nat)) H
theorem bits_zero : BitsAre 0 [] := fun j => by rw [Nat.zero_testBit]; rfl
theorem ok_law_columns {f_law_columns : Addr} {fd_law_columns : FuncData} (F_law_columns : Fun K "_law_columns" "_law_columns" s_law_columns f_law_columns fd_law_columns)
    (z_range : mg "range" = none)
    (z_len : mg "len" = none) :
    FnOk P w K mg base CX0 1 f_law_columns fd_law_columns ["_law_steps_here", "_law_worths"] (spLCols K) := by
  refine F_law_columns.ok sc_law_columns (fun vs H Q E h => ?_) (fun cdv A outer s H vs Q E hr h => ?_)
  · obtain ⟨p, ps, qa, ws, rfl, hp, hL, hq, hlen, hwide, hpl, q⟩ := h
    rfl
  obtain ⟨p, ps, qa, ws, rfl, hp, hL, hq, hlen, hwide, hpl, q⟩ := h
  refine ⟨_, (pss_cons (ps_set (i := 2) sc_law_columns.nd rfl (Or.inl rfl) pe_int)
      (pss_cons (ps_set (i := 3) sc_law_columns.nd rfl (Or.inl rfl) pe_int)
      (pss_cons (ps_for PassesOwn.never rfl (pi_range1 rfl z_range (pa_cons (pe_callB (len_seqK (K := K) rfl) rfl z_len PySem.boot_len (pa_cons (pv 0) pa_nil)) pa_nil)) (pg_name (i := 4) sc_law_columns.nd rfl (Or.inl rfl)) (pss_one (ps_for PassesOwn.never rfl (pi_listK (K := K) rfl (pe_ix (ix_listK (K := K) rfl) (pv 0) (pv 4) (by intro _ _; rfl))) (pg_name (i := 5) sc_law_columns.nd rfl (Or.inl rfl)) (pss_cons (ps_if (pt_cmpR op_ge (pe_ix (ix_listK (K := K) rfl) (pv 1) (pv 4) (by intro _ _; rfl)) (pv 5) (nomark _)) (pss_one (ps_set (i := 2) sc_law_columns.nd rfl (Or.inl rfl) (pe_op op_or (pv 2) (pe_op op_shl pe_int (pv 3))))) pss_nil)
      (pss_one (ps_set (i := 3) sc_law_columns.nd rfl (Or.inl rfl) (pe_op op_add (pv 3) pe_int)))))))
      (pss_one (ps_ret (pv 2)))))), ?_⟩
  refine ⟨_, rfl, p, _, rfl, .inl hp, _, rfl, by omega, by rw [refs1_len]; omega, ?_⟩
  rw [refs1_len, Int.toNat_natCast]
  have hrl : ∀ i, (reachL ((snds ps).take i) (ws.take i)).length ≤ 100 := fun i => by
    rw [reach_len (by rw [List.length_take, List.length_take, snds_len, hlen])]
    exact Nat.le_trans (wide_take _ _) hwide
  refine for_range (n := ps.length) (fun i σ H2 => ∃ (m : Nat) (v1 v2 : Option V), σ = [some (.ref p), some (.ref qa), some (.int m), some (.int ((reachL ((snds ps).take i) (ws.take i)).length : Nat)), v1, v2] ∧ BitsAre m (reachL ((snds ps).take i) (ws.take i)) ∧ H = H2) ⟨0, _, _, by rw [List.take_zero, List.take_zero]; rfl, by rw [List.take_zero, List.take_zero]; exact bits_zero, rfl⟩ ?_ ?_
  · rintro i σ H2 hi ⟨m, v1, v2, rfl, hm, rfl⟩
    have hiw : i < ws.length := by omega
    have hM := hL _ (List.getElem_mem hi)
    have hml : ps[i].2.length ≤ 100 := Nat.le_trans (wide_mem (by rw [← snds_at hi]; exact List.getElem_mem _)) hwide
    have e4 : atI (refs1 ps) (0 + (i : Int)) = some (.ref ps[i].1) := by rw [Int.zero_add]; exact atI_map hi
    have e5 : atI (ws.map V.int) (0 + (i : Int)) = some (.int ws[i]) := by rw [Int.zero_add]; exact atI_map hiw
    refine ⟨_, rfl, _, rfl, p, _, _, _, rfl, rfl, hp, e4, ps[i].1, rfl, ⟨_, SqL.of hM⟩, ?_⟩
    have hri := hrl i
    have enext : reachL ((snds ps).take (i + 1)) (ws.take (i + 1)) = reachL ((snds ps).take i) (ws.take i) ++ ps[i].2.map (fun s => decide (s ≤ ws[i])) := by
      rw [← List.take_append_getElem (show i < (snds ps).length by rw [snds_len]; exact hi), ← List.take_append_getElem hiw, reach_snoc _ _ (by rw [List.length_take, List.length_take, snds_len, hlen]), snds_at hi]
    rw [enext]
    generalize reachL ((snds ps).take i) (ws.take i) = bs at hm hri
    refine for_list (K := K) (a := ps[i].1) (xs := ps[i].2.map V.int) (fun j σ H3 => ∃ (m : Nat) (v2 : Option V), σ = [some (.ref p), some (.ref qa), some (.int m), some (.int ((bs ++ (ps[i].2.take j).map (fun s => decide (s ≤ ws[i]))).length : Nat)), some (.int (0 + (i : Int))), v2] ∧ BitsAre m (bs ++ (ps[i].2.take j).map (fun s => decide (s ≤ ws[i]))) ∧ H = H3) ⟨m, v2, by rw [List.take_zero, List.map_nil, List.append_nil]; rfl, by rw [List.take_zero, List.map_nil, List.append_nil]; exact hm, rfl⟩ (fun j σ H3 _ ⟨_, _, _, _, e⟩ => e ▸ SqL.of hM) ?_ ?_
    · rintro j z σ H3 hj ⟨m, v2, rfl, hm, rfl⟩
      obtain ⟨hjl, rfl⟩ := intI hj
      have es : (bs ++ (ps[i].2.take (j + 1)).map (fun s => decide (s ≤ ws[i]))) = (bs ++ (ps[i].2.take j).map (fun s => decide (s ≤ ws[i]))) ++ [decide (ps[i].2[j] ≤ ws[i])] := by
        rw [← List.take_append_getElem hjl, List.map_append, List.append_assoc]; rfl
      rw [es]
      have hbl : (bs ++ (ps[i].2.take j).map (fun s => decide (s ≤ ws[i]))).length < 1000 := by rw [List.length_append, List.length_map, List.length_take]; omega
      generalize (bs ++ (ps[i].2.take j).map (fun s => decide (s ≤ ws[i]))) = cs at hm hbl
      have hm2 := bits_snoc (b := decide (ps[i].2[j] ≤ ws[i])) hm
      refine seq_join (fun σ H3 => σ = [some (.ref p), some (.ref qa), some (.int ((if decide (ps[i].2[j] ≤ ws[i]) = true then m ||| 2 ^ cs.length else m : Nat) : Int)), some (.int (cs.length : Nat)), some (.int (0 + (i : Int))), some (.int ps[i].2[j])] ∧ H = H3) ?_ fun nx' hnx => ?_
      case refine_2 =>
        refine ⟨_, rfl, _, rfl, qa, _, _, _, rfl, rfl, hq, e5, _, rfl, _, _, rfl, rfl, _, rfl, ite2 (fun c => ?_) (fun c => ?_)⟩
        · refine ⟨_, rfl, _, rfl, _, _, rfl, rfl, cpow _ hbl, _, _, rfl, rfl, hnx _ _ ⟨?_, rfl⟩⟩
          have c : decide (ps[i].2[j] ≤ ws[i]) = true := c
          show [_, _, some (V.int (Builtin.bitOr _ (1 * 2 ^ ((cs.length : Nat) : Int).toNat))), _, _, _] = _
          rw [or_pow, if_pos c]
        · have c : ¬ decide (ps[i].2[j] ≤ ws[i]) = true := c
          refine hnx _ _ ⟨?_, rfl⟩
          rw [if_neg c]; rfl
      rintro σ H3 ⟨rfl, rfl⟩
      refine ⟨_, rfl, _, _, rfl, rfl, _, some (.int ps[i].2[j]), ?_, hm2, rfl⟩
      rw [List.length_append, List.length_singleton]; rfl
    · rintro σ H3 ⟨m, v2, rfl, hm, rfl⟩
      rw [List.length_map, List.take_length] at hm ⊢
      exact ⟨m, _, _, rfl, hm, rfl⟩
  · rintro σ H2 ⟨m, v1, v2, rfl, hm, rfl⟩
    have e1 : (snds ps).take ps.length = snds ps := by rw [← snds_len]; exact List.take_length
    have e2 : ws.take ps.length = ws := by rw [hlen]; exact List.take_length
    rw [e1, e2] at hm
    rw [bitsAre_inj (spread_bits (snds ps) ws) hm] at q
    exact ⟨_, rfl, q⟩
theorem ok_law_breaks {f_law_breaks : Addr} {fd_law_breaks : FuncData} (F_law_breaks : Fun K "_law_breaks" "_law_breaks" s_law_breaks f_law_breaks fd_law_breaks) :
    FnOk P w K mg base CX0 1 f_law_breaks fd_law_breaks ["_law_mask", "_law_rule"] (spBreaks) := by
  refine F_law_breaks.ok sc_law_breaks (fun vs H Q E h => ?_) (fun cdv A outer s H vs Q E hr h => ?_)
  · obtain ⟨m, t, x, y, rfl, hT, q⟩ := h
    rfl
  obtain ⟨m, t, x, y, rfl, hT, q⟩ := h
  refine ⟨_, (pss_one (ps_ret (pe_and (pe_cmpR op_eq (pe_op op_and (pe_ix (ix_tupK (K := K) rfl) (pv 1) pe_int (by intro _ _; rfl)) (pv 0)) (pe_ix (ix_tupK (K := K) rfl) (pv 1) pe_int (by intro _ _; rfl)) (nomark _)) (pe_one (pe_cmpR op_ne (pe_op op_and (pe_ix (ix_tupK (K := K) rfl) (pv 1) pe_int (by intro _ _; rfl)) (pv 0)) (pe_ix (ix_tupK (K := K) rfl) (pv 1) pe_int (by intro _ _; rfl)) (nomark _)))))), ?_⟩
  refine ⟨_, rfl, t, _, _, _, rfl, rfl, SqT.of hT, tup0 _ _, _, rfl, _, _, rfl, rfl, _, rfl, t, _, _, _, rfl, rfl, SqT.of hT, tup0 _ _, rfl, _, rfl, ?_⟩
  show if (decide (V.int (Builtin.bitAnd (x : Int) (m : Int)) = V.int (x : Int))) = true then _ else _
  rw [and_dec]
  by_cases h1 : x &&& m = x
  · rw [decide_eq_true h1]
    refine iteT ⟨_, rfl, t, _, _, _, rfl, rfl, SqT.of hT, tup1 _ _, _, rfl, _, _, rfl, rfl, _, rfl, t, _, _, _, rfl, rfl, SqT.of hT, tup1 _ _, rfl, ?_⟩
    show Q (.bl (!decide (V.int (Builtin.bitAnd (y : Int) (m : Int)) = V.int (y : Int)))) H
    rw [and_dec]
    have e : brk m (x, y) = !decide (y &&& m = y) := by
      show (decide (x &&& m = x) && _) = _
      rw [decide_eq_true h1]; rfl
    rw [e] at q
    exact q
  · rw [decide_eq_false h1]
    have e : brk m (x, y) = false := brk_false.mpr fun z => absurd z h1
    rw [e] at q
    exact iteF q
def spLFill (K : PySem.W.Frag) : Sp := fun vs H Q _ => ∃ (r : Addr) (fl : List (Addr × List Int)) (c : Addr) (cls : List (Addr × List (Addr × Int × Int))), vs = [.ref r, .ref c] ∧ H r = some (.lst (refs1 fl)) ∧ Lsts H fl ∧ SqL K H c (refs1 cls) ∧ Cels H cls ∧ cls.length ≤ 100 ∧ (∀ q ∈ cls, q.2.length ≤ 100) ∧ Fill (snds fl) (cellsOf cls) ∧ Q (.bl true) H
theorem InC.at : ∀ {ws : List Int} {cs : List (Int × Int)}, InC ws cs → ∀ i (h1 : i < ws.length) (h2 : i < cs.length), cs[i].1 ≤ ws[i] ∧ ws[i] ≤ cs[i].2
  | _, _, .nil, i, h, _ => absurd h (by simp)
  | _, _, .cons h t, 0, _, _ => h
  | _, _, .cons h t, i + 1, h1, h2 => t.at i (by simpa using h1) (by simpa using h2)
theorem ok_law_filling {f_law_filling : Addr} {fd_law_filling : FuncData} (F_law_filling : Fun K "_law_filling" "_law_filling" s_law_filling f_law_filling fd_law_filling)
    (z_len : mg "len" = none)
    (z_isinstance : mg "isinstance" = none)
    (z_list : mg "list" = none)
    (z_range : mg "range" = none)
    (z_bool : mg "bool" = none)
    (z_int : mg "int" = none) :
    FnOk P w K mg base CX0 1 f_law_filling fd_law_filling ["_law_told", "_law_cells_here"] (spLFill K) := by
  refine F_law_filling.ok sc_law_filling (fun vs H Q E h => ?_) (fun cdv A outer s H vs Q E hr h => ?_)
  · obtain ⟨r, fl, c, cls, rfl, hr, hL, hc, hC, hcl, hcw, hF, q⟩ := h
    rfl
  obtain ⟨r, fl, c, cls, rfl, hr, hL, hc, hC, hcl, hcw, hF, q⟩ := h
  refine ⟨_, (pss_cons (ps_if (PW.pt (pw_or (pt_not (pt_val (pe_callB (isiK (K := K) rfl) rfl z_isinstance b_isinstance (pa_cons (pv 0) (pa_cons (pe_ty rfl z_list b_list) pa_nil))))) (pw_or1 (pt_cmpR op_ne (pe_callB (len_seqK (K := K) rfl) rfl z_len PySem.boot_len (pa_cons (pv 0) pa_nil)) (pe_callB (len_seqK (K := K) rfl) rfl z_len PySem.boot_len (pa_cons (pv 1) pa_nil)) (nomark _))))) (pss_one (ps_ret pe_bl)) pss_nil)
      (pss_cons (ps_for PassesOwn.never rfl (pi_range1 rfl z_range (pa_cons (pe_callB (len_seqK (K := K) rfl) rfl z_len PySem.boot_len (pa_cons (pv 1) pa_nil)) pa_nil)) (pg_name (i := 2) sc_law_filling.nd rfl (Or.inl rfl)) (pss_cons (ps_if (PW.pt (pw_or (pt_not (pt_val (pe_callB (isiK (K := K) rfl) rfl z_isinstance b_isinstance (pa_cons (pe_ix (ix_listK (K := K) rfl) (pv 0) (pv 2) (by intro _ _; rfl)) (pa_cons (pe_ty rfl z_list b_list) pa_nil))))) (pw_or1 (pt_cmpR op_ne (pe_callB (len_seqK (K := K) rfl) rfl z_len PySem.boot_len (pa_cons (pe_ix (ix_listK (K := K) rfl) (pv 0) (pv 2) (by intro _ _; rfl)) pa_nil)) (pe_callB (len_seqK (K := K) rfl) rfl z_len PySem.boot_len (pa_cons (pe_ix (ix_listK (K := K) rfl) (pv 1) (pv 2) (by intro _ _; rfl)) pa_nil)) (nomark _))))) (pss_one (ps_ret pe_bl)) pss_nil)
      (pss_one (ps_for PassesOwn.never rfl (pi_range1 rfl z_range (pa_cons (pe_callB (len_seqK (K := K) rfl) rfl z_len PySem.boot_len (pa_cons (pe_ix (ix_listK (K := K) rfl) (pv 1) (pv 2) (by intro _ _; rfl)) pa_nil)) pa_nil)) (pg_name (i := 3) sc_law_filling.nd rfl (Or.inl rfl)) (pss_cons (ps_set (i := 4) sc_law_filling.nd rfl (Or.inl rfl) (pe_ix (ix_listK (K := K) rfl) (pe_ix (ix_listK (K := K) rfl) (pv 0) (pv 2) (by intro _ _; rfl)) (pv 3) (by intro _ _; rfl)))
      (pss_cons (ps_if (PW.pt (pw_or (pt_not (pt_val (pe_callB (isiK (K := K) rfl) rfl z_isinstance b_isinstance (pa_cons (pv 4) (pa_cons (pe_ty rfl z_int b_int) pa_nil))))) (pw_or1 (pt_val (pe_callB (isiK (K := K) rfl) rfl z_isinstance b_isinstance (pa_cons (pv 4) (pa_cons (pe_ty rfl z_bool b_bool) pa_nil))))))) (pss_one (ps_ret pe_bl)) pss_nil)
      (pss_one (ps_if (PW.pt (pw_or (pt_cmpR op_lt (pv 4) (pe_ix (ix_tupK (K := K) rfl) (pe_ix (ix_listK (K := K) rfl) (pe_ix (ix_listK (K := K) rfl) (pv 1) (pv 2) (by intro _ _; rfl)) (pv 3) (by intro _ _; rfl)) pe_int (by intro _ _; rfl)) (nomark _)) (pw_or1 (pt_cmpR op_gt (pv 4) (pe_ix (ix_tupK (K := K) rfl) (pe_ix (ix_listK (K := K) rfl) (pe_ix (ix_listK (K := K) rfl) (pv 1) (pv 2) (by intro _ _; rfl)) (pv 3) (by intro _ _; rfl)) pe_int (by intro _ _; rfl)) (nomark _))))) (pss_one (ps_ret pe_bl)) pss_nil))))))))
      (pss_one (ps_ret pe_bl)))), ?_⟩
  have hfl : fl.length = cls.length := by have := hF.1; rwa [snds_len, cellsOf_len] at this
  refine ⟨_, rfl, _, _, _, _, _, rfl, rfl, TyOf.lst hr, rfl, _, rfl, iteF ?_⟩
  refine ⟨_, rfl, r, _, rfl, .inl (SqL.of hr), _, rfl, c, _, rfl, .inl hc, rfl, _, rfl, ?_⟩
  rw [refs1_len, refs1_len, hfl]
  refine iteNS rfl ?_
  refine ⟨_, rfl, c, _, rfl, .inl hc, _, rfl, by omega, by rw [refs1_len]; omega, ?_⟩
  rw [refs1_len, Int.toNat_natCast]
  refine for_range (n := cls.length) (fun i σ H2 => ∃ (v1 v2 v3 : Option V), σ = [some (.ref r), some (.ref c), v1, v2, v3] ∧ H = H2) ⟨_, _, _, rfl, rfl⟩ ?_ (fun σ H2 ⟨_, _, _, e, e2⟩ => by subst e e2; exact q)
  rintro i σ H2 hi ⟨v1, v2, v3, rfl, rfl⟩
  have hif : i < fl.length := by omega
  have e1 : atI (refs1 fl) (0 + (i : Int)) = some (.ref fl[i].1) := by rw [Int.zero_add]; exact atI_map hif
  have e2 : atI (refs1 cls) (0 + (i : Int)) = some (.ref cls[i].1) := by rw [Int.zero_add]; exact atI_map hi
  have hfi := hL _ (List.getElem_mem hif)
  have hci := hC _ (List.getElem_mem hi)
  have hin : InC fl[i].2 (snds cls[i].2) := by
    have := hF.2 i (by rw [snds_len]; exact hif) (by rw [cellsOf_len]; exact hi)
    rwa [snds_at hif, cellsOf_at hi] at this
  have hil := hin.length
  rw [snds_len] at hil
  have hw := hcw _ (List.getElem_mem hi)
  refine ⟨_, rfl, _, rfl, r, _, _, _, rfl, rfl, SqL.of hr, e1, _, _, _, _, _, rfl, rfl, TyOf.lst hfi, rfl, _, rfl, iteF ?_⟩
  refine ⟨_, rfl, _, rfl, r, _, _, _, rfl, rfl, SqL.of hr, e1, fl[i].1, _, rfl, .inl (SqL.of hfi), _, rfl, _, rfl, c, _, _, _, rfl, rfl, hc, e2, cls[i].1, _, rfl, .inl (SqL.of hci.1), rfl, _, rfl, ?_⟩
  rw [List.length_map, refs1_len, hil]
  refine iteNS rfl ?_
  refine ⟨_, rfl, _, rfl, c, _, _, _, rfl, rfl, hc, e2, cls[i].1, _, rfl, .inl (SqL.of hci.1), _, rfl, by omega, by rw [refs1_len]; omega, ?_⟩
  rw [refs1_len, Int.toNat_natCast]
  refine for_range (n := cls[i].2.length) (fun j σ H2 => ∃ (v2 v3 : Option V), σ = [some (.ref r), some (.ref c), some (.int (0 + (i : Int))), v2, v3] ∧ H = H2) ⟨_, _, rfl, rfl⟩ ?_ (fun σ H2 ⟨_, _, e, e2⟩ => ⟨_, _, _, e, e2⟩)
  rintro j σ H2 hj ⟨v2, v3, rfl, rfl⟩
  have hjf : j < fl[i].2.length := by omega
  have e3 : atI (fl[i].2.map V.int) (0 + (j : Int)) = some (.int fl[i].2[j]) := by rw [Int.zero_add]; exact atI_map hjf
  have e4 : atI (refs1 cls[i].2) (0 + (j : Int)) = some (.ref cls[i].2[j].1) := by rw [Int.zero_add]; exact atI_map hj
  have hT := hci.2 _ (List.getElem_mem hj)
  have hin2 := hin.at j hjf (by rw [snds_len]; exact hj)
  rw [snds_at hj] at hin2
  refine ⟨_, rfl, _, rfl, r, _, _, _, rfl, rfl, SqL.of hr, e1, _, rfl, fl[i].1, _, _, _, rfl, rfl, SqL.of hfi, e3, ?_⟩
  refine ⟨_, rfl, _, _, _, _, _, rfl, rfl, TyOf.int _, rfl, _, rfl, iteF ?_⟩
  refine ⟨_, rfl, _, _, _, _, _, rfl, rfl, TyOf.int _, rfl, _, rfl, iteF ?_⟩
  refine ⟨_, rfl, _, rfl, _, rfl, c, _, _, _, rfl, rfl, hc, e2, _, rfl, cls[i].1, _, _, _, rfl, rfl, SqL.of hci.1, e4, cls[i].2[j].1, _, _, _, rfl, rfl, SqT.of hT, tup0 _ _, _, _, rfl, rfl, _, rfl, ?_⟩
  rw [decide_eq_false (show ¬ fl[i].2[j] < cls[i].2[j].2.1 by omega)]
  refine iteF ⟨_, rfl, _, rfl, _, rfl, c, _, _, _, rfl, rfl, hc, e2, _, rfl, cls[i].1, _, _, _, rfl, rfl, SqL.of hci.1, e4, cls[i].2[j].1, _, _, _, rfl, rfl, SqT.of hT, tup1 _ _, _, _, rfl, rfl, _, rfl, ?_⟩
  rw [decide_eq_false (show ¬ fl[i].2[j] > cls[i].2[j].2.2 by omega)]
  exact iteF ⟨_, _, rfl, rfl⟩
def spLBroken (K : PySem.W.Frag) : Sp := fun vs H Q _ => ∃ (p : Addr) (ps : List (Addr × List Int)) (f : Addr) (fl : List (Addr × List Int)) (t : Addr) (x y : Nat), vs = [.ref p, .ref f, .ref t] ∧ SqL K H p (refs1 ps) ∧ Lsts H ps ∧ SqL K H f (refs1 fl) ∧ Lsts H fl ∧ H t = some (.tup [nv x, nv y]) ∧ (∀ q ∈ fl, q.2.length = ps.length) ∧ wideN (snds ps) ≤ 100 ∧ ps.length ≤ 100 ∧ Q (.bl (brokenB (snds ps) (snds fl) (x, y))) H
theorem ok_law_broken {f_law_broken : Addr} {fd_law_broken : FuncData} (F_law_broken : Fun K "_law_broken" "_law_broken" s_law_broken f_law_broken fd_law_broken)
    {f_law_breaks : Addr} {fd_law_breaks : FuncData} (G_law_breaks : FnOk P w K mg base CX0 1 f_law_breaks fd_law_breaks ["_law_mask", "_law_rule"] (spBreaks)) (b_law_breaks : Binds K fd_law_breaks ["_law_mask", "_law_rule"] []) (k_law_breaks : PySem.W.keepIn K (.ref f_law_breaks) = true) (m_law_breaks : mg "_law_breaks" = some (.ref f_law_breaks))
    {f_law_columns : Addr} {fd_law_columns : FuncData} (G_law_columns : FnOk P w K mg base CX0 1 f_law_columns fd_law_columns ["_law_steps_here", "_law_worths"] (spLCols K)) (b_law_columns : Binds K fd_law_columns ["_law_steps_here", "_law_worths"] []) (k_law_columns : PySem.W.keepIn K (.ref f_law_columns) = true) (m_law_columns : mg "_law_columns" = some (.ref f_law_columns)) :
    FnOk P w K mg base CX0 2 f_law_broken fd_law_broken ["_law_steps_here", "_law_filling_here", "_law_rule"] (spLBroken K) := by
  refine F_law_broken.ok sc_law_broken (fun vs H Q E h => ?_) (fun cdv A outer s H vs Q E hr h => ?_)
  · obtain ⟨p, ps, f, fl, t, x, y, rfl, hp, hL, hf, hLf, hT, hlen, hwide, hpl, q⟩ := h
    rfl
  obtain ⟨p, ps, f, fl, t, x, y, rfl, hp, hL, hf, hLf, hT, hlen, hwide, hpl, q⟩ := h
  refine ⟨_, (pss_cons (ps_for PassesOwn.never rfl (pi_listK (K := K) rfl (pv 1)) (pg_name (i := 3) sc_law_broken.nd rfl (Or.inl rfl)) (pss_one (ps_if (pt_val (pe_call G_law_breaks (hr.mono (by decide)) rfl m_law_breaks k_law_breaks b_law_breaks .nil pass0 (pa_cons (pe_call G_law_columns (hr.mono (by decide)) rfl m_law_columns k_law_columns b_law_columns .nil pass0 (pa_cons (pv 0) (pa_cons (pv 3) pa_nil))) (pa_cons (pv 2) pa_nil)))) (pss_one (ps_ret pe_bl)) pss_nil)))
      (pss_one (ps_ret pe_bl))), ?_⟩
  refine ⟨_, rfl, f, rfl, ⟨_, hf⟩, for_list (K := K) (a := f) (xs := refs1 fl) (fun i σ H2 => ∃ (v : Option V), σ = [some (.ref p), some (.ref f), some (.ref t), v] ∧ H = H2 ∧ ∀ j (h : j < fl.length), j < i → brk (spreadN (snds ps) fl[j].2) (x, y) = false) ⟨_, rfl, rfl, fun j _ h => absurd h (by omega)⟩ (fun i σ H2 _ ⟨_, _, e, _⟩ => e ▸ hf) ?_ ?_⟩
  · rintro i z σ H2 hi ⟨v, rfl, rfl, hb⟩
    obtain ⟨hil, rfl⟩ := ref1I hi
    have hw := hLf _ (List.getElem_mem hil)
    refine ⟨_, rfl, _, rfl, p, ps, fl[i].1, fl[i].2, rfl, hp, hL, SqL.of hw, (hlen _ (List.getElem_mem hil)).symm, hwide, hpl, _, rfl, spreadN (snds ps) fl[i].2, t, x, y, rfl, hT, _, rfl, ?_⟩
    cases e : brk (spreadN (snds ps) fl[i].2) (x, y) with
    | true =>
      have eb : brokenB (snds ps) (snds fl) (x, y) = true := by
        unfold brokenB
        rw [List.any_eq_true]
        exact ⟨fl[i].2, snds_mem (List.getElem_mem hil), e⟩
      rw [eb] at q
      exact iteT q
    | false =>
      refine iteF ⟨_, rfl, rfl, fun j hj hji => ?_⟩
      by_cases h : j = i
      · subst h; exact e
      · exact hb j hj (by omega)
  · rintro σ H2 ⟨v, rfl, rfl, hb⟩
    have eb : brokenB (snds ps) (snds fl) (x, y) = false := by
      unfold brokenB
      rw [List.any_eq_false]
      intro ws hws
      obtain ⟨q, hq, rfl⟩ := mem_snds hws
      obtain ⟨j, hj, rfl⟩ := List.getElem_of_mem hq
      rw [hb j hj (by rw [refs1_len]; exact hj)]; exact Bool.false_ne_true
    rw [eb] at q
    exact q
def spSide : Sp := fun vs H Q _ => ∃ (n : Int) (w : Nat) (b : Bool), vs = [.int n, .int w, .bl b] ∧ w ≤ 100 ∧ ∀ m : Nat, m < 2 ^ w → Q (.int m) H
theorem ok_law_side {f_law_side : Addr} {fd_law_side : FuncData} (F_law_side : Fun K "_law_side" "_law_side" s_law_side f_law_side fd_law_side) :
    FnOk P w K mg base CX0 1 f_law_side fd_law_side ["_law_number", "_law_width", "_law_single"] (spSide) := by
  refine F_law_side.ok sc_law_side (fun vs H Q E h => ?_) (fun cdv A outer s H vs Q E hr h => ?_)
  · obtain ⟨n, w, b, rfl, hw, q⟩ := h
    rfl
  obtain ⟨n, w, b, rfl, hw, q⟩ := h
  refine ⟨_, (pss_cons (ps_if (PW.pt (pw_and (pt_val (pv 2)) (pw_and1 (pt_cmpR op_gt (pv 1) pe_int (nomark _))))) (pss_one (ps_ret (pe_op op_shl pe_int (pe_op op_mod (pv 0) (pv 1))))) pss_nil)
      (pss_one (ps_ret (pe_op op_mod (pv 0) (pe_op op_shl pe_int (pv 1)))))), ?_⟩
  refine seq_join (fun σ H2 => σ = [some (.int n), some (.int w), some (.bl b)] ∧ H = H2) ?_ fun nx' hnx => ?_
  case refine_2 =>
    refine ⟨_, rfl, _, rfl, ?_⟩
    cases b with
    | false => exact iteF (iteF (hnx _ _ ⟨rfl, rfl⟩))
    | true =>
      refine iteT ⟨_, rfl, _, _, rfl, rfl, _, rfl, ite2 (fun c => ?_) (fun c => hnx _ _ ⟨rfl, rfl⟩)⟩
      have c : (0 : Int) < (w : Int) := of_decide_eq_true c
      obtain ⟨j, ej, hj⟩ := emod_nat n (n := w) (by omega)
      refine ⟨_, rfl, _, rfl, _, _, rfl, rfl, c, ?_⟩
      dsimp only
      rw [ej]
      refine ⟨_, _, rfl, rfl, cpow _ (by omega), ?_⟩
      dsimp only
      rw [pow_one]
      exact q _ (Nat.pow_lt_pow_right (by decide) hj)
  rintro σ H2 ⟨rfl, rfl⟩
  refine ⟨_, rfl, _, rfl, _, _, rfl, rfl, cpow _ (by omega), ?_⟩
  dsimp only
  rw [pow_one]
  obtain ⟨j, ej, hj⟩ := emod_nat n (pow_posN w)
  refine ⟨_, _, rfl, rfl, pow_pos' w, ?_⟩
  dsimp only
  rw [ej]
  exact q j hj
def spDRule (K : PySem.W.Frag) : Sp := fun vs H Q _ => ∃ (a : Addr) (ns : List Int) (p : Addr) (ps : List (Addr × List Int)), vs = [.ref a, .ref p] ∧ SqL K H a (ns.map V.int) ∧ SqL K H p (refs1 ps) ∧ Lsts H ps ∧ wideN (snds ps) ≤ 100 ∧ ps.length ≤ 100 ∧ ∀ (t : Addr) (x y : Nat) (H' : Hp), Same H H' → H' t = some (.tup [nv x, nv y]) → Q (.ref t) H'
theorem sum_wide (sts : List (List Int)) : (sts.map fun m => (m.length : Int)).sum = (wideN sts : Int) := by
  unfold wideN
  induction sts with
  | nil => rfl
  | cons a sts ih => rw [List.map_cons, List.map_cons, List.sum_cons, List.sum_cons, ih]; omega
theorem ok_law_drawn_rule {f_law_drawn_rule : Addr} {fd_law_drawn_rule : FuncData} (F_law_drawn_rule : Fun K "_law_drawn_rule" "_law_drawn_rule" s_law_drawn_rule f_law_drawn_rule fd_law_drawn_rule)
    {f_law_cell : Addr} {fd_law_cell : FuncData} (G_law_cell : FnOk P w K mg base CX0 1 f_law_cell fd_law_cell ["_law_script", "_law_k"] (spCell K)) (b_law_cell : Binds K fd_law_cell ["_law_script", "_law_k"] []) (k_law_cell : PySem.W.keepIn K (.ref f_law_cell) = true) (m_law_cell : mg "_law_cell" = some (.ref f_law_cell))
    {f_law_side : Addr} {fd_law_side : FuncData} (G_law_side : FnOk P w K mg base CX0 1 f_law_side fd_law_side ["_law_number", "_law_width", "_law_single"] (spSide)) (b_law_side : Binds K fd_law_side ["_law_number", "_law_width", "_law_single"] []) (k_law_side : PySem.W.keepIn K (.ref f_law_side) = true) (m_law_side : mg "_law_side" = some (.ref f_law_side))
    (z_sum : mg "sum" = none)
    (z_len : mg "len" = none) :
    FnOk P w K mg base CX0 2 f_law_drawn_rule fd_law_drawn_rule ["_law_script", "_law_steps_here"] (spDRule K) := by
  refine F_law_drawn_rule.ok sc_law_drawn_rule (fun vs H Q E h => ?_) (fun cdv A outer s H vs Q E hr h => ?_)
  · obtain ⟨a, ns, p, ps, rfl, hA, hp, hL, hwide, hpl, q⟩ := h
    rfl
  obtain ⟨a, ns, p, ps, rfl, hA, hp, hL, hwide, hpl, q⟩ := h
  refine ⟨_, (pss_cons (ps_set (i := 2) sc_law_drawn_rule.nd rfl (Or.inl rfl) (pe_callB (call_sum1K (K := K) rfl (by rfl)) rfl z_sum b_sum (pa_cons (pe_comp (own := ["_law_row"]) rfl (pi_listK (K := K) rfl (pv 1)) (fun _ _ _ _ _ => (pg_name (i := 0) nd_law_drawn_rule_9 rfl (Or.inl rfl))) (fun _ _ _ _ _ => pif_nil) (fun _ _ _ _ _ => (pe_callB (len_seqK (K := K) rfl) rfl z_len PySem.boot_len (pa_cons (pv 0) pa_nil)))) pa_nil)))
      (pss_cons (ps_set (i := 3) sc_law_drawn_rule.nd rfl (Or.inl rfl) (pe_op op_mod (pe_call G_law_cell (hr.mono (by decide)) rfl m_law_cell k_law_cell b_law_cell .nil pass0 (pa_cons (pv 0) (pa_cons pe_int pa_nil))) pe_int))
      (pss_cons (ps_set (i := 4) sc_law_drawn_rule.nd rfl (Or.inl rfl) (pe_call G_law_side (hr.mono (by decide)) rfl m_law_side k_law_side b_law_side .nil pass0 (pa_cons (pe_call G_law_cell (hr.mono (by decide)) rfl m_law_cell k_law_cell b_law_cell .nil pass0 (pa_cons (pv 0) (pa_cons pe_int pa_nil))) (pa_cons (pv 2) (pa_cons (pe_cmpR op_eq (pe_op op_mod (pv 3) pe_int) pe_int (nomark _)) pa_nil)))))
      (pss_one (ps_ret (pe_tup (pa_cons (pv 4) (pa_cons (pe_call G_law_side (hr.mono (by decide)) rfl m_law_side k_law_side b_law_side .nil pass0 (pa_cons (pe_call G_law_cell (hr.mono (by decide)) rfl m_law_cell k_law_cell b_law_cell .nil pass0 (pa_cons (pv 0) (pa_cons pe_int pa_nil))) (pa_cons (pv 2) (pa_cons (pe_cmpR op_lt (pv 3) pe_int (nomark _)) pa_nil)))) pa_nil)))))))), ?_⟩
  refine ⟨_, rfl, p, rfl, ⟨_, hp⟩, ?_⟩
  refine comp_list (K := K) (a := p) (xs := refs1 ps) (fun i ys H2 => ys = (((snds ps).take i).map (fun m => (m.length : Int))).map V.int ∧ H = H2) (by rw [refs1_len]; exact line1000 (by omega)) ⟨rfl, rfl⟩ (fun i ys H2 hi h => ?_) (fun i ys H2 hi h => ?_) (fun i x ys H2 hi h => ?_) (fun ys H2 h => ?_)
  · rw [h.1, List.length_map, List.length_map, List.length_take]; omega
  · rw [← h.2]; exact hp
  · obtain ⟨rfl, rfl⟩ := h
    obtain ⟨hil, rfl⟩ := ref1I hi
    refine ⟨rfl, _, rfl, ps[i].1, _, rfl, .inl (SqL.of (hL _ (List.getElem_mem hil))), ?_, rfl⟩
    rw [← List.take_append_getElem (show i < (snds ps).length by rw [snds_len]; exact hil), List.map_append, List.map_append, snds_at hil, List.length_map]; rfl
  · obtain ⟨rfl, rfl⟩ := h
    intro b hb
    rw [refs1_len, ← snds_len, List.take_length]
    have k2 := same_new hb (.lst (((snds ps).map (fun m => (m.length : Int))).map V.int))
    refine ⟨b, _, rfl, SqL.of upd_same, ?_⟩
    rw [sum_wide]
    generalize upd H b (.lst (((snds ps).map (fun m => (m.length : Int))).map V.int)) = H2 at k2
    generalize wideN (snds ps) = wd at hwide
    refine ⟨_, rfl, a, ns, 1, rfl, k2.seq hA, _, _, rfl, rfl, (by show (0 : Int) < 4; decide), ?_⟩
    dsimp only
    generalize (ns.getD 1 0 % 4 : Int) = fm
    refine ⟨_, rfl, a, ns, 2, rfl, k2.seq hA, _, rfl, _, rfl, _, _, rfl, rfl, (by show (0 : Int) < 2; decide), rfl, _, wd, _, rfl, hwide, fun x hx => ?_⟩
    refine ⟨_, rfl, _, rfl, a, ns, 3, rfl, k2.seq hA, _, rfl, _, rfl, _, _, rfl, rfl, _, wd, _, rfl, hwide, fun y hy => ?_⟩
    exact ⟨two_line, fun t ht => q t x y _ (same_one k2 ht _) upd_same⟩
def GL {α : Type} (H : Hp) (f : α → List V) (ps : List (Addr × α)) : Prop := ∀ q ∈ ps, H q.1 = some (.lst (f q.2))
def spCopy (K : PySem.W.Frag) : Sp := fun vs H Q _ => ∃ (α : Type) (f : α → List V) (p : Addr) (ps : List (Addr × α)), vs = [.ref p] ∧ SqL K H p (refs1 ps) ∧ GL H f ps ∧ ps.length ≤ 100 ∧ ∀ (r : Addr) (ps' : List (Addr × α)) (H' : Hp), Same H H' → H' r = some (.lst (refs1 ps')) → GL H' f ps' → snds ps' = snds ps → Q (.ref r) H'
theorem ok_law_copy {f_law_copy : Addr} {fd_law_copy : FuncData} (F_law_copy : Fun K "_law_copy" "_law_copy" s_law_copy f_law_copy fd_law_copy)
    (z_list : mg "list" = none) :
    FnOk P w K mg base CX0 1 f_law_copy fd_law_copy ["_law_lists"] (spCopy K) := by
  refine F_law_copy.ok sc_law_copy (fun vs H Q E h => ?_) (fun cdv A outer s H vs Q E hr h => ?_)
  · obtain ⟨α, f, p, ps, rfl, hp, hL, hpl, q⟩ := h
    rfl
  obtain ⟨α, f, p, ps, rfl, hp, hL, hpl, q⟩ := h
  refine ⟨_, (pss_one (ps_ret (pe_comp (own := ["_law_row"]) rfl (pi_listK (K := K) rfl (pv 0)) (fun _ _ _ _ _ => (pg_name (i := 0) nd_law_copy_10 rfl (Or.inl rfl))) (fun _ _ _ _ _ => pif_nil) (fun _ _ _ _ _ => (pe_callTy (list_ofK (K := K) rfl) rfl z_list b_list (pa_cons (pv 0) pa_nil)))))), ?_⟩
  refine ⟨_, rfl, p, rfl, ⟨_, hp⟩, ?_⟩
  refine comp_list (K := K) (a := p) (xs := refs1 ps) (fun i ys H2 => ∃ ps' : List (Addr × α), ys = refs1 ps' ∧ snds ps' = (snds ps).take i ∧ GL H2 f ps' ∧ Same H H2) (by rw [refs1_len]; exact line1000 (by omega)) ⟨[], rfl, rfl, (fun _ h => nomatch h), Same.refl _⟩ (fun i ys H2 hi h => ?_) (fun i ys H2 hi h => ?_) (fun i x ys H2 hi h => ?_) (fun ys H2 h => ?_)
  · obtain ⟨ps', rfl, e, _⟩ := h
    have e := congrArg List.length e
    rw [snds_len, List.length_take, snds_len] at e
    rw [refs1_len]; omega
  · obtain ⟨ps', _, _, _, g⟩ := h
    exact g.seq hp
  · obtain ⟨ps', rfl, e, hL', g⟩ := h
    obtain ⟨hil, rfl⟩ := ref1I hi
    refine ⟨rfl, _, rfl, ps[i].1, _, rfl, .inl (SqL.of (g _ _ (hL _ (List.getElem_mem hil)))), fun b hb => ⟨ps' ++ [(b, ps[i].2)], ?_, ?_, fun q hq => ?_, same_one g hb _⟩⟩
    · rw [refs1_snoc]
    · rw [snds_snoc, e, ← List.take_append_getElem (show i < (snds ps).length by rw [snds_len]; exact hil), snds_at hil]
    · rcases List.mem_append.mp hq with z | z
      · exact same_new hb _ _ _ (hL' q z)
      · have : q = (b, ps[i].2) := by simpa using z
        rw [this]; exact upd_same
  obtain ⟨ps', rfl, e, hL', g2⟩ := h
  rw [refs1_len, ← snds_len, List.take_length] at e
  intro r hr
  exact q r ps' _ (same_one g2 hr _) upd_same (fun q hq => same_new hr _ _ _ (hL' q hq)) e
/-- a copy of a list of lists of ints -/
theorem copy_eqJ {H : Hp} {ps ps' : List (Addr × List Int)} (e : snds ps' = snds ps) (h : Lsts H ps) (h' : Lsts H ps') (j : Nat) (h1 : j < (refs1 ps').length) (h2 : j < (refs1 ps).length) : EqJ K H (refs1 ps')[j] (refs1 ps)[j] := by
  have l1 : j < ps'.length := by rw [← refs1_len]; exact h1
  have l2 : j < ps.length := by rw [← refs1_len]; exact h2
  have e1 : (refs1 ps')[j] = .ref ps'[j].1 := List.getElem_map ..
  have e2 : (refs1 ps)[j] = .ref ps[j].1 := List.getElem_map ..
  have ex : ps'[j].2 = ps[j].2 := by
    rw [← snds_at l1, ← snds_at l2]
    exact List.getElem_of_eq e _
  rw [e1, e2]
  have t1 := h' _ (List.getElem_mem l1)
  have t2 := h _ (List.getElem_mem l2)
  rw [ex] at t1
  refine .inr ⟨_, _, _, _, rfl, rfl, SqL.of t1, SqL.of t2, rfl, fun i h1 h2 => ?_⟩
  rw [List.getElem_map]
  have := EqI.flat (K := K) (H := H) (x := V.int (ps[j].2[i]'(by rw [List.length_map] at h1; exact h1))) (y := V.int (ps[j].2[i]'(by rw [List.length_map] at h1; exact h1))) rfl rfl
  rwa [eqV_refl rfl] at this
/-- a copy of a list of lists of the same objects -/
theorem copy_eqR {H : Hp} {ps ps' : List (Addr × List (Addr × Int × Int))} (e : snds ps' = snds ps) (h : Cels H ps) (h' : Cels H ps') (j : Nat) (h1 : j < (refs1 ps').length) (h2 : j < (refs1 ps).length) : EqJ K H (refs1 ps')[j] (refs1 ps)[j] := by
  have l1 : j < ps'.length := by rw [← refs1_len]; exact h1
  have l2 : j < ps.length := by rw [← refs1_len]; exact h2
  have e1 : (refs1 ps')[j] = .ref ps'[j].1 := List.getElem_map ..
  have e2 : (refs1 ps)[j] = .ref ps[j].1 := List.getElem_map ..
  have ex : ps'[j].2 = ps[j].2 := by
    rw [← snds_at l1, ← snds_at l2]
    exact List.getElem_of_eq e _
  rw [e1, e2]
  have t1 := (h' _ (List.getElem_mem l1)).1
  have t2 := (h _ (List.getElem_mem l2)).1
  rw [ex] at t1
  refine .inr ⟨_, _, _, _, rfl, rfl, SqL.of t1, SqL.of t2, rfl, fun i h1 h2 => ?_⟩
  have e3 : (refs1 ps[j].2)[i] = .ref (ps[j].2[i]'(by rw [← refs1_len]; exact h1)).1 := List.getElem_map ..
  rw [e3]
  exact .same _
theorem copy_cels {H : Hp} {cls cls' : List (Addr × List (Addr × Int × Int))} (e : snds cls' = snds cls) (h : Cels H cls) (h' : GL H refs1 cls') : Cels H cls' := fun q hq => by
  have : q.2 ∈ snds cls := by rw [← e]; exact snds_mem hq
  obtain ⟨q2, hq2, e2⟩ := mem_snds this
  refine ⟨h' q hq, ?_⟩
  rw [e2]
  exact (h q2 hq2).2
theorem copy_ok {n : Nat} {cls cls' : List (Addr × List (Addr × Int × Int))} (e : snds cls' = snds cls) (h : OkCls n cls) : OkCls n cls' := fun q hq => by
  have : q.2 ∈ snds cls := by rw [← e]; exact snds_mem hq
  obtain ⟨q2, hq2, e2⟩ := mem_snds this
  rw [e2]
  exact h q2 hq2
theorem copy_len {α : Type} {ps ps' : List (Addr × α)} (e : snds ps' = snds ps) : ps'.length = ps.length := by rw [← snds_len, e, snds_len]
theorem fill_len {n : Nat} {fl : List (Addr × List Int)} {cls : List (Addr × List (Addr × Int × Int))} (h : Fill (snds fl) (cellsOf cls)) (hO : OkCls n cls) : ∀ q ∈ fl, q.2.length = n := fun q hq => by
  obtain ⟨cs, hcs, hin⟩ := h.mem (snds_mem hq)
  obtain ⟨q2, hq2, rfl⟩ := cellsOf_mem hcs
  rw [hin.length, snds_len, (hO q2 hq2).1]
theorem parts_yes {ms : List Int} {c : Int × Int} {at0 k p : Nat} {parts : List Nat} (h : PartsAre ms c at0 k parts) (he : EndAt ms c k) (hp : PartIs p at0 k) : PartsAre ms c at0 (k + 1) (parts ++ [p]) := by
  refine ⟨fun x hx => ?_, fun j hj hej x hx => ?_⟩
  · rcases List.mem_append.mp hx with z | z
    · obtain ⟨j, hj, q⟩ := h.1 x z
      exact ⟨j, by omega, q⟩
    · have : x = p := by simpa using z
      rw [this]; exact ⟨k, by omega, he, hp⟩
  · by_cases e : j = k
    · subst e
      rw [part_inj hx hp]; simp
    · exact List.mem_append_left _ (h.2 j (by omega) hej x hx)
theorem parts_no {ms : List Int} {c : Int × Int} {at0 k : Nat} {parts : List Nat} (h : PartsAre ms c at0 k parts) (he : ¬ EndAt ms c k) : PartsAre ms c at0 (k + 1) parts := by
  refine ⟨fun x hx => ?_, fun j hj hej x hx => ?_⟩
  · obtain ⟨j, hj, q⟩ := h.1 x hx
    exact ⟨j, by omega, q⟩
  · by_cases e : j = k
    · subst e
      exact absurd hej he
    · exact h.2 j (by omega) hej x hx
theorem nvI {xs : List Nat} {i : Nat} {y : V} (h : (xs.map nv)[i]? = some y) : ∃ (hi : i < xs.length), y = .int (xs[i] : Nat) := getI h
theorem grow_snoc {masks parts grow : List Nat} {j : Nat} (hj : j < masks.length) (h : ∀ x, x ∈ grow ↔ ∃ m ∈ masks.take j, ∃ p ∈ parts, x = m ||| p) : ∀ x, x ∈ grow ++ parts.map (masks[j] ||| ·) ↔ ∃ m ∈ masks.take (j + 1), ∃ p ∈ parts, x = m ||| p := fun x => by
  rw [List.mem_append, h x, ← List.take_append_getElem hj]
  constructor
  · rintro (⟨m, hm, p, hp, rfl⟩ | hx)
    · exact ⟨m, List.mem_append_left _ hm, p, hp, rfl⟩
    · obtain ⟨p, hp, rfl⟩ := List.mem_map.mp hx
      exact ⟨masks[j], List.mem_append_right _ (by simp), p, hp, rfl⟩
  · rintro ⟨m, hm, p, hp, rfl⟩
    rcases List.mem_append.mp hm with z | z
    · exact .inl ⟨m, z, p, hp, rfl⟩
    · have : m = masks[j] := by simpa using z
      rw [this]
      exact .inr (List.mem_map.mpr ⟨p, hp, rfl⟩)
def spSets (K : PySem.W.Frag) : Sp := fun vs H Q _ => ∃ (p : Addr) (ps : List (Addr × List Int)) (l : Addr) (cs : List (Addr × Int × Int)), vs = [.ref p, .ref l] ∧ SqL K H p (refs1 ps) ∧ Lsts H ps ∧ GoodS ps ∧ wideN (snds ps) ≤ 6 ∧ ps.length ≤ 20 ∧ SqL K H l (refs1 cs) ∧ Lins H cs ∧ cs.length = ps.length ∧ OkC (snds cs) ∧
  ∀ (r : Addr) (masks : List Nat) (H' : Hp), Same H H' → H' r = some (.lst (masks.map nv)) → SetsAre (snds ps) (snds cs) masks → masks.length ≤ 64 → Q (.ref r) H'
theorem ok_law_sets {f_law_sets : Addr} {fd_law_sets : FuncData} (F_law_sets : Fun K "_law_sets" "_law_sets" s_law_sets f_law_sets fd_law_sets)
    (z_range : mg "range" = none)
    (z_len : mg "len" = none) :
    FnOk P w K mg base CX0 1 f_law_sets fd_law_sets ["_law_steps_here", "_law_row"] (spSets K) := by
  refine F_law_sets.ok sc_law_sets (fun vs H Q E h => ?_) (fun cdv A outer s H vs Q E hr h => ?_)
  · obtain ⟨p, ps, l, cs, rfl, hp, hL, hG, hwide, hpl, hl, hC, hcl, hok, q⟩ := h
    rfl
  obtain ⟨p, ps, l, cs, rfl, hp, hL, hG, hwide, hpl, hl, hC, hcl, hok, q⟩ := h
  refine ⟨_, (pss_cons (ps_set (i := 2) sc_law_sets.nd rfl (Or.inl rfl) (pe_lst (pa_cons pe_int pa_nil)))
      (pss_cons (ps_set (i := 3) sc_law_sets.nd rfl (Or.inl rfl) pe_int)
      (pss_cons (ps_for PassesOwn.never rfl (pi_range1 rfl z_range (pa_cons (pe_callB (len_seqK (K := K) rfl) rfl z_len PySem.boot_len (pa_cons (pv 0) pa_nil)) pa_nil)) (pg_name (i := 4) sc_law_sets.nd rfl (Or.inl rfl)) (pss_cons (ps_set (i := 5) sc_law_sets.nd rfl (Or.inl rfl) (pe_lst pa_nil))
      (pss_cons (ps_set (i := 6) sc_law_sets.nd rfl (Or.inl rfl) pe_int)
      (pss_cons (ps_for PassesOwn.never rfl (pi_range1 rfl z_range (pa_cons (pe_op op_add (pe_callB (len_seqK (K := K) rfl) rfl z_len PySem.boot_len (pa_cons (pe_ix (ix_listK (K := K) rfl) (pv 0) (pv 4) (by intro _ _; rfl)) pa_nil)) pe_int) pa_nil)) (pg_name (i := 7) sc_law_sets.nd rfl (Or.inl rfl)) (pss_cons (ps_if (pt_cmpR op_gt (pv 7) pe_int (nomark _)) (pss_one (ps_set (i := 6) sc_law_sets.nd rfl (Or.inl rfl) (pe_op op_or (pv 6) (pe_op op_shl pe_int (pe_op op_sub (pe_op op_add (pv 3) (pv 7)) pe_int))))) pss_nil)
      (pss_cons (ps_set (i := 8) sc_law_sets.nd rfl (Or.inl rfl) (pe_or (pe_cmpR op_eq (pv 7) (pe_callB (len_seqK (K := K) rfl) rfl z_len PySem.boot_len (pa_cons (pe_ix (ix_listK (K := K) rfl) (pv 0) (pv 4) (by intro _ _; rfl)) pa_nil)) (nomark _)) (pe_one (pe_cmpR op_lt (pe_ix (ix_tupK (K := K) rfl) (pe_ix (ix_listK (K := K) rfl) (pv 1) (pv 4) (by intro _ _; rfl)) pe_int (by intro _ _; rfl)) (pe_ix (ix_listK (K := K) rfl) (pe_ix (ix_listK (K := K) rfl) (pv 0) (pv 4) (by intro _ _; rfl)) (pv 7) (by intro _ _; rfl)) (nomark _)))))
      (pss_one (ps_if (PW.pt (pw_and (pt_val (pv 8)) (pw_and1 (PW.pt (pw_or (pt_cmpR op_eq (pv 7) pe_int (nomark _)) (pw_or1 (pt_cmpR op_ge (pe_ix (ix_tupK (K := K) rfl) (pe_ix (ix_listK (K := K) rfl) (pv 1) (pv 4) (by intro _ _; rfl)) pe_int (by intro _ _; rfl)) (pe_ix (ix_listK (K := K) rfl) (pe_ix (ix_listK (K := K) rfl) (pv 0) (pv 4) (by intro _ _; rfl)) (pe_op op_sub (pv 7) pe_int) (by intro _ _; rfl)) (nomark _)))))))) (pss_one (ps_expr (pe_bmK (K := K) rfl PySem.F.plainAttrs_list PySem.F.slot_list_append PySem.F.type_list_append mt_append (pv 5) (pa_cons (pv 6) pa_nil)))) pss_nil)))))
      (pss_cons (ps_set (i := 3) sc_law_sets.nd rfl (Or.inl rfl) (pe_op op_add (pv 3) (pe_callB (len_seqK (K := K) rfl) rfl z_len PySem.boot_len (pa_cons (pe_ix (ix_listK (K := K) rfl) (pv 0) (pv 4) (by intro _ _; rfl)) pa_nil))))
      (pss_cons (ps_set (i := 9) sc_law_sets.nd rfl (Or.inl rfl) (pe_lst pa_nil))
      (pss_cons (ps_for PassesOwn.never rfl (pi_listK (K := K) rfl (pv 2)) (pg_name (i := 10) sc_law_sets.nd rfl (Or.inr rfl)) (pss_one (ps_set (i := 9) sc_law_sets.nd rfl (Or.inl rfl) (pe_op op_cat (pv 9) (pe_comp (own := ["_law_part"]) rfl (pi_listK (K := K) rfl (pv 5)) (fun _ _ _ _ _ => (pg_name (i := 0) nd_law_sets_11 rfl (Or.inl rfl))) (fun _ _ _ _ _ => pif_nil) (fun _ _ _ _ _ => (pe_op op_or (pv 11) (pv 0))))))))
      (pss_one (ps_set (i := 2) sc_law_sets.nd rfl (Or.inl rfl) (pv 9))))))))))
      (pss_one (ps_ret (pv 2)))))), ?_⟩
  refine ⟨(by show 1 ≤ sizeLine; rw [sizeLine_eq]; decide), fun ma0 hma0 => ?_⟩
  have k1 := same_new hma0 (.lst [V.int 0])
  have h1 : (upd H ma0 (.lst [V.int 0])) ma0 = some (.lst ([0].map nv)) := upd_same
  generalize upd H ma0 (.lst [V.int 0]) = H1 at k1 h1
  refine ⟨_, rfl, p, _, rfl, .inl (k1.seq hp), _, rfl, by omega, by rw [refs1_len]; omega, ?_⟩
  rw [refs1_len, Int.toNat_natCast]
  refine for_range (n := ps.length) (fun i σ H2 => ∃ (ma : Addr) (masks : List Nat) (v4 v5 v6 v7 v8 v9 v10 : Option V), σ = [some (.ref p), some (.ref l), some (.ref ma), some (.int (wideN ((snds ps).take i) : Nat)), v4, v5, v6, v7, v8, v9, v10] ∧ H2 ma = some (.lst (masks.map nv)) ∧ SetsAre ((snds ps).take i) ((snds cs).take i) masks ∧ masks.length ≤ 2 ^ wideN ((snds ps).take i) ∧ Same H H2) ⟨ma0, [0], _, _, _, _, _, _, _, by rw [List.take_zero]; rfl, h1, by rw [List.take_zero, List.take_zero]; exact sets_nil, by rw [List.take_zero]; decide, k1⟩ ?_ ?_
  · rintro i σ H2 hi ⟨ma, masks, v4, v5, v6, v7, v8, v9, v10, rfl, h2, hS, hml, g2⟩
    have hic : i < cs.length := by omega
    have hwi : wideN ((snds ps).take i) ≤ 6 := Nat.le_trans (wide_take _ _) hwide
    have hwn : wideN ((snds ps).take (i + 1)) = wideN ((snds ps).take i) + ps[i].2.length := by
      rw [← List.take_append_getElem (show i < (snds ps).length by rw [snds_len]; exact hi), wide_snoc, snds_at hi]
    have hwn6 : wideN ((snds ps).take (i + 1)) ≤ 6 := Nat.le_trans (wide_take _ _) hwide
    have esn : (snds ps).take (i + 1) = (snds ps).take i ++ [ps[i].2] := by rw [← List.take_append_getElem (show i < (snds ps).length by rw [snds_len]; exact hi), snds_at hi]
    have ecn : (snds cs).take (i + 1) = (snds cs).take i ++ [cs[i].2] := by rw [← List.take_append_getElem (show i < (snds cs).length by rw [snds_len]; exact hic), snds_at hic]
    have hrise := (hG _ (List.getElem_mem hi)).2
    have hlh : cs[i].2.1 ≤ cs[i].2.2 := hok _ (snds_mem (List.getElem_mem hic))
    have hM0 := hL _ (List.getElem_mem hi)
    have hT0 := hC _ (List.getElem_mem hic)
    have e4 : atI (refs1 ps) (0 + (i : Int)) = some (.ref ps[i].1) := by rw [Int.zero_add]; exact atI_map hi
    have e5 : atI (refs1 cs) (0 + (i : Int)) = some (.ref cs[i].1) := by rw [Int.zero_add]; exact atI_map hic
    have hlt : ((snds ps).take i).length = ((snds cs).take i).length := by rw [List.length_take, List.length_take, snds_len, snds_len, hcl]
    rw [esn, ecn]
    rw [esn] at hwn
    have hwn6 : wideN ((snds ps).take i) + ps[i].2.length ≤ 6 := by rw [esn] at hwn6; omega
    rw [hwn]
    generalize (snds ps).take i = sts at hS hml hwi hwn hwn6 hlt
    generalize (snds cs).take i = css at hS hlt
    have hpart : ∀ parts : List Nat, PartsAre ps[i].2 cs[i].2 (wideN sts) (ps[i].2.length + 1) parts → ∀ grow : List Nat, (∀ x, x ∈ grow ↔ ∃ m ∈ masks, ∃ p ∈ parts, x = m ||| p) → SetsAre (sts ++ [ps[i].2]) (css ++ [cs[i].2]) grow := fun parts hp grow hg => sets_grow hlt hrise hlh hS hp hg
    generalize wideN sts = at0 at hml hwi hwn hwn6 hpart
    refine ⟨Nat.zero_le _, fun sa hsa => ?_⟩
    have k3 := same_new hsa (.lst ([] : List V))
    have h3 : (upd H2 sa (.lst ([] : List V))) sa = some (.lst (([] : List Nat).map nv)) := upd_same
    generalize upd H2 sa (.lst ([] : List V)) = H3 at k3 h3
    have g3 := g2.trans k3
    refine ⟨_, rfl, _, rfl, p, _, _, _, rfl, rfl, g3.seq hp, e4, ps[i].1, _, rfl, .inl (SqL.of (g3 _ _ hM0)), _, _, rfl, rfl, ((ps[i].2.length : Int) + 1), (by rw [List.length_map]), by omega, by omega, ?_⟩
    rw [show (((ps[i].2.length : Int) + 1).toNat) = ps[i].2.length + 1 from by omega]
    refine for_range (n := ps[i].2.length + 1) (fun k σ H4 => ∃ (part : Nat) (parts : List Nat) (v7 v8 : Option V), σ = [some (.ref p), some (.ref l), some (.ref ma), some (.int (at0 : Nat)), some (.int (0 + (i : Int))), some (.ref sa), some (.int part), v7, v8, v9, v10] ∧ H4 sa = some (.lst (parts.map nv)) ∧ PartIs part at0 (k - 1) ∧ PartsAre ps[i].2 cs[i].2 at0 k parts ∧ parts.length ≤ k ∧ Same H2 H4) ⟨0, [], _, _, rfl, h3, part0 _, ⟨(fun _ h => nomatch h), fun _ h => absurd h (by omega)⟩, Nat.zero_le _, k3⟩ ?_ ?_
    · rintro k σ H4 hk ⟨part, parts, v7, v8, rfl, h4, hP, hPs, hpsl, g4⟩
      have g04 := g2.trans g4
      have hM := g04 _ _ hM0
      have hT := g04 _ _ hT0
      have hp4 := g04.seq hp
      have hl4 := g04.seq hl
      refine seq_join (fun σ H5 => ∃ part2 : Nat, σ = [some (.ref p), some (.ref l), some (.ref ma), some (.int (at0 : Nat)), some (.int (0 + (i : Int))), some (.ref sa), some (.int part2), some (.int (0 + (k : Int))), v8, v9, v10] ∧ PartIs part2 at0 k ∧ H4 = H5) ?_ fun nx' hnx => ?_
      case refine_2 =>
        refine ⟨_, rfl, _, _, rfl, rfl, _, rfl, ite2 (fun c => ?_) (fun c => ?_)⟩
        · have c : (0 : Int) < 0 + (k : Int) := of_decide_eq_true c
          refine ⟨_, rfl, _, rfl, _, rfl, _, _, rfl, rfl, _, _, rfl, rfl, ?_⟩
          dsimp only
          rw [show ((at0 : Int) + (0 + (k : Int)) - 1) = ((at0 + (k - 1) : Nat) : Int) from by omega]
          refine ⟨_, _, rfl, rfl, cpow _ (by omega), _, _, rfl, rfl, ?_⟩
          dsimp only
          rw [or_pow]
          refine hnx _ _ ⟨_, rfl, ?_, rfl⟩
          have := part_succ hP
          rwa [show k - 1 + 1 = k from by omega] at this
        · have c : ¬ (0 : Int) < 0 + (k : Int) := of_decide_eq_false (Bool.eq_false_iff.mpr c)
          have k0 : k = 0 := by omega
          subst k0
          exact hnx _ _ ⟨part, rfl, hP, rfl⟩
      rintro σ H5 ⟨part2, rfl, hP2, rfl⟩
      refine seq_join (fun σ H5 => ∃ b : Bool, σ = [some (.ref p), some (.ref l), some (.ref ma), some (.int (at0 : Nat)), some (.int (0 + (i : Int))), some (.ref sa), some (.int part2), some (.int (0 + (k : Int))), some (.bl b), v9, v10] ∧ (b = true ↔ (k = ps[i].2.length ∨ cs[i].2.1 < ps[i].2.getD k 0)) ∧ H4 = H5) ?_ fun nx' hnx => ?_
      case refine_2 =>
        refine ⟨_, rfl, _, rfl, _, rfl, p, _, _, _, rfl, rfl, hp4, e4, ps[i].1, _, rfl, .inl (SqL.of hM), rfl, _, rfl, ?_⟩
        rw [List.length_map]
        refine ite2 (fun c => ?_) (fun c => ?_)
        · have c : V.int (0 + (k : Int)) = V.int (ps[i].2.length : Int) := of_decide_eq_true c
          injection c with c
          exact hnx _ _ ⟨true, rfl, ⟨fun _ => .inl (by omega), fun _ => rfl⟩, rfl⟩
        · have c : ¬ V.int (0 + (k : Int)) = V.int (ps[i].2.length : Int) := of_decide_eq_false (Bool.eq_false_iff.mpr c)
          have hkl : k < ps[i].2.length := by
            apply Nat.lt_of_not_le
            intro hle
            exact c (by rw [show (0 + (k : Int)) = (ps[i].2.length : Int) from by omega])
          have e6 : atI (ps[i].2.map V.int) (0 + (k : Int)) = some (.int ps[i].2[k]) := by rw [Int.zero_add]; exact atI_map hkl
          refine ⟨_, rfl, _, rfl, l, _, _, _, rfl, rfl, hl4, e5, cs[i].1, _, _, _, rfl, rfl, SqT.of hT, tup0 _ _, _, rfl, _, rfl, p, _, _, _, rfl, rfl, hp4, e4, _, rfl, ps[i].1, _, _, _, rfl, rfl, SqL.of hM, e6, _, _, rfl, rfl, hnx _ _ ⟨_, rfl, ?_, rfl⟩⟩
          rw [decide_eq_true_eq, getD_lt hkl]
          exact ⟨fun h => .inr h, fun h => by rcases h with z | z; omega; exact z⟩
      rintro σ H5 ⟨b, rfl, hb, rfl⟩
      have hyes : EndAt ps[i].2 cs[i].2 k → ∀ H6, H6 = H4 → ∃ (part : Nat) (parts' : List Nat) (v7' v8' : Option V), [some (V.ref p), some (.ref l), some (.ref ma), some (.int (at0 : Nat)), some (.int (0 + (i : Int))), some (.ref sa), some (.int part2), some (.int (0 + (k : Int))), some (.bl b), v9, v10] = [some (.ref p), some (.ref l), some (.ref ma), some (.int (at0 : Nat)), some (.int (0 + (i : Int))), some (.ref sa), some (.int part), v7', v8', v9, v10] ∧ (upd H6 sa (.lst (parts.map nv ++ [.int part2]))) sa = some (.lst (parts'.map nv)) ∧ PartIs part at0 (k + 1 - 1) ∧ PartsAre ps[i].2 cs[i].2 at0 (k + 1) parts' ∧ parts'.length ≤ k + 1 ∧ Same H2 (upd H6 sa (.lst (parts.map nv ++ [.int part2]))) := fun he H6 e6 => by
        subst e6
        refine ⟨part2, parts ++ [part2], _, _, rfl, ?_, hP2, parts_yes hPs he hP2, by rw [List.length_append]; simp; omega, same_upd g4 hsa _⟩
        rw [List.map_append]; exact upd_same
      have hno : ¬ EndAt ps[i].2 cs[i].2 k → ∃ (part : Nat) (parts' : List Nat) (v7' v8' : Option V), [some (V.ref p), some (.ref l), some (.ref ma), some (.int (at0 : Nat)), some (.int (0 + (i : Int))), some (.ref sa), some (.int part2), some (.int (0 + (k : Int))), some (.bl b), v9, v10] = [some (.ref p), some (.ref l), some (.ref ma), some (.int (at0 : Nat)), some (.int (0 + (i : Int))), some (.ref sa), some (.int part), v7', v8', v9, v10] ∧ H4 sa = some (.lst (parts'.map nv)) ∧ PartIs part at0 (k + 1 - 1) ∧ PartsAre ps[i].2 cs[i].2 at0 (k + 1) parts' ∧ parts'.length ≤ k + 1 ∧ Same H2 H4 := fun he =>
        ⟨part2, parts, _, _, rfl, h4, hP2, parts_no hPs he, by omega, g4⟩
      refine ⟨_, rfl, _, rfl, ?_⟩
      cases b with
      | false =>
        refine iteF (iteF (hno fun he => ?_))
        have := hb.mpr he.1
        cases this
      | true =>
        have hb1 := hb.mp rfl
        refine iteT ⟨_, rfl, rfl, _, rfl, ?_⟩
        refine ite2 (fun c => ?_) (fun c => ?_)
        · have c : V.int (0 + (k : Int)) = V.int 0 := of_decide_eq_true c
          injection c with c
          refine iteT ⟨_, rfl, .inl ⟨rfl, _, SqL.of h4⟩, _, rfl, sa, _, _, rfl, rfl, h4, by rw [List.length_map]; exact line1000 (by omega), hyes ⟨hb1, .inl (by omega)⟩ _ rfl⟩
        · have c : ¬ V.int (0 + (k : Int)) = V.int 0 := of_decide_eq_false (Bool.eq_false_iff.mpr c)
          have hk0 : k ≠ 0 := fun e => c (by rw [e]; rfl)
          have hkl : k - 1 < ps[i].2.length := by omega
          have e6 : atI (ps[i].2.map V.int) (0 + (k : Int) - 1) = some (.int ps[i].2[k - 1]) := by
            rw [show (0 + (k : Int) - 1) = ((k - 1 : Nat) : Int) from by omega]; exact atI_map hkl
          refine ⟨_, rfl, _, rfl, l, _, _, _, rfl, rfl, hl4, e5, cs[i].1, _, _, _, rfl, rfl, SqT.of hT, tup1 _ _, _, rfl, _, rfl, p, _, _, _, rfl, rfl, hp4, e4, _, rfl, _, _, rfl, rfl, ps[i].1, _, _, _, rfl, rfl, SqL.of hM, e6, _, _, rfl, rfl, _, rfl, ite2 (fun c => ?_) (fun c => ?_)⟩
          · have c : ps[i].2[k - 1] ≤ cs[i].2.2 := of_decide_eq_true c
            refine ⟨_, rfl, .inl ⟨rfl, _, SqL.of h4⟩, _, rfl, sa, _, _, rfl, rfl, h4, by rw [List.length_map]; exact line1000 (by omega), hyes ⟨hb1, .inr (by rw [getD_lt hkl]; exact c)⟩ _ rfl⟩
          · have c : ¬ ps[i].2[k - 1] ≤ cs[i].2.2 := of_decide_eq_false (Bool.eq_false_iff.mpr c)
            refine hno fun he => ?_
            rcases he.2 with z | z
            · exact hk0 z
            · rw [getD_lt hkl] at z; exact c z
    · rintro σ H4 ⟨part, parts, v7, v8, rfl, h4, hP, hPs, hpsl, g4⟩
      have g04 := g2.trans g4
      refine ⟨_, rfl, _, rfl, _, rfl, p, _, _, _, rfl, rfl, g04.seq hp, e4, ps[i].1, _, rfl, .inl (SqL.of (g04 _ _ hM0)), _, _, rfl, rfl, ?_⟩
      dsimp only
      rw [List.length_map]
      refine ⟨Nat.zero_le _, fun ga0 hga0 => ?_⟩
      have k5 := same_new hga0 (.lst ([] : List V))
      have h5 : (upd H4 ga0 (.lst ([] : List V))) ga0 = some (.lst (([] : List Nat).map nv)) := upd_same
      generalize upd H4 ga0 (.lst ([] : List V)) = H5 at k5 h5
      have hm4 := g4 _ _ h2
      refine ⟨_, rfl, ma, rfl, ⟨_, SqL.of (k5 _ _ hm4)⟩, ?_⟩
      have hml64 : masks.length ≤ 64 := Nat.le_trans hml (Nat.le_trans (Nat.pow_le_pow_right (by decide) hwi) (by decide))
      refine for_list (K := K) (a := ma) (xs := masks.map nv) (fun j σ H6 => ∃ (ga : Addr) (grow : List Nat) (v10 : Option V), σ = [some (.ref p), some (.ref l), some (.ref ma), some (.int ((at0 : Int) + (ps[i].2.length : Int))), some (.int (0 + (i : Int))), some (.ref sa), some (.int part), v7, v8, some (.ref ga), v10] ∧ H6 ga = some (.lst (grow.map nv)) ∧ (∀ x, x ∈ grow ↔ ∃ m ∈ masks.take j, ∃ p ∈ parts, x = m ||| p) ∧ grow.length = j * parts.length ∧ Same H4 H6) ⟨ga0, [], _, rfl, h5, (fun x => ⟨(fun h => nomatch h), fun ⟨m, hm, _⟩ => by rw [List.take_zero] at hm; exact nomatch hm⟩), by rw [Nat.zero_mul]; rfl, k5⟩ (fun j σ H6 _ ⟨_, _, _, _, _, _, _, g⟩ => SqL.of (g _ _ hm4)) ?_ ?_
      · rintro j z σ H6 hj ⟨ga, grow, v10, rfl, h6, hg, hgl, g6⟩
        obtain ⟨hjl, rfl⟩ := nvI hj
        have hs6 := g6 _ _ h4
        refine ⟨_, rfl, _, rfl, sa, rfl, ⟨_, SqL.of hs6⟩, ?_⟩
        refine comp_list (K := K) (a := sa) (xs := parts.map nv) (fun i2 ys H7 => ys = ((parts.take i2).map (masks[j] ||| ·)).map nv ∧ H6 = H7) (by rw [List.length_map]; exact line1000 (by omega)) ⟨rfl, rfl⟩ (fun i2 ys H7 hi h => ?_) (fun i2 ys H7 hi h => ?_) (fun i2 x ys H7 hi h => ?_) (fun ys H7 h => ?_)
        · rw [h.1, List.length_map, List.length_map, List.length_take]; omega
        · rw [← h.2]; exact SqL.of hs6
        · obtain ⟨rfl, rfl⟩ := h
          obtain ⟨hil, rfl⟩ := nvI hi
          refine ⟨rfl, _, rfl, _, rfl, _, _, rfl, rfl, ?_, rfl⟩
          dsimp only
          rw [or_nat, ← List.take_append_getElem hil, List.map_append, List.map_append]; rfl
        · obtain ⟨rfl, rfl⟩ := h
          intro b hb
          rw [List.length_map, List.take_length]
          have k7 := same_new hb (.lst ((parts.map (masks[j] ||| ·)).map nv))
          have h7 : (upd H6 b (.lst ((parts.map (masks[j] ||| ·)).map nv))) b = some (.lst ((parts.map (masks[j] ||| ·)).map nv)) := upd_same
          have h67 := k7 _ _ h6
          generalize upd H6 b (.lst ((parts.map (masks[j] ||| ·)).map nv)) = H7 at k7 h7 h67
          have hb1 : j * parts.length ≤ 64 * 7 := Nat.mul_le_mul (by omega) (by omega)
          refine ⟨ga, b, _, _, rfl, rfl, h67, h7, by rw [List.length_map, List.length_map, List.length_map, hgl, sizeLine_eq]; omega, fun g hg' => ⟨g, grow ++ parts.map (masks[j] ||| ·), _, rfl, ?_, grow_snoc hjl hg, ?_, same_one (g6.trans k7) hg' _⟩⟩
          · rw [List.map_append]; exact upd_same
          · rw [List.length_append, hgl, List.length_map, Nat.succ_mul]
      · rintro σ H6 ⟨ga, grow, v10, rfl, h6, hg, hgl, g6⟩
        rw [List.length_map, List.take_length] at hg
        rw [List.length_map] at hgl
        refine ⟨_, rfl, ga, grow, _, _, _, _, _, _, _, rfl, h6, hpart parts hPs grow hg, ?_, g04.trans g6⟩
        rw [hgl, Nat.pow_add]
        exact Nat.mul_le_mul hml (Nat.le_trans hpsl Nat.lt_two_pow_self)
  · rintro σ H2 ⟨ma, masks, v4, v5, v6, v7, v8, v9, v10, rfl, h2, hS, hml, g2⟩
    have e1 : (snds ps).take ps.length = snds ps := by rw [← snds_len]; exact List.take_length
    have e2 : (snds cs).take ps.length = snds cs := by rw [← hcl, ← snds_len]; exact List.take_length
    rw [e1] at hml
    rw [e1, e2] at hS
    exact ⟨_, rfl, q ma masks _ g2 h2 hS (Nat.le_trans hml (Nat.le_trans (Nat.pow_le_pow_right (by decide) hwide) (by decide)))⟩
def TellS (H : Hp) (sts : List (List Int)) (css : List (List (Int × Int))) (r : Nat × Nat) (v : V) : Prop :=
  (v = .non ∧ spoilB sts css r = false) ∨ ∃ (a : Addr) (fl : List (Addr × List Int)), v = .ref a ∧ spoilB sts css r = true ∧ H a = some (.lst (refs1 fl)) ∧ Lsts H fl ∧ Fill (snds fl) css ∧ brokenB sts (snds fl) r = true
def TellM (H : Hp) (sts : List (List Int)) (css : List (List (Int × Int))) (r : Nat × Nat) (v : V) : Prop :=
  (v = .non ∧ mendB sts css r = false) ∨ ∃ (a : Addr) (fl : List (Addr × List Int)), v = .ref a ∧ mendB sts css r = true ∧ H a = some (.lst (refs1 fl)) ∧ Lsts H fl ∧ Fill (snds fl) css ∧ brokenB sts (snds fl) r = false
theorem TellS.same {H H' : Hp} {sts : List (List Int)} {css : List (List (Int × Int))} {r : Nat × Nat} {v : V} (h : TellS H sts css r v) (g : Same H H') : TellS H' sts css r v := by
  rcases h with h | ⟨a, fl, h1, h2, h3, h4, h5⟩
  · exact .inl h
  · exact .inr ⟨a, fl, h1, h2, g _ _ h3, h4.same g, h5⟩
theorem TellM.same {H H' : Hp} {sts : List (List Int)} {css : List (List (Int × Int))} {r : Nat × Nat} {v : V} (h : TellM H sts css r v) (g : Same H H') : TellM H' sts css r v := by
  rcases h with h | ⟨a, fl, h1, h2, h3, h4, h5⟩
  · exact .inl h
  · exact .inr ⟨a, fl, h1, h2, g _ _ h3, h4.same g, h5⟩
theorem in_bls (b : Bool) (bs : List Bool) : inV (.bl b) (bs.map V.bl) = bs.any (fun x => x == b) := by
  unfold inV
  rw [List.any_map]
  rfl
theorem bl_flat (bs : List Bool) : (bs.map V.bl).all flatV = true := by
  rw [List.all_map, List.all_eq_true]; intro _ _; rfl
theorem any_true (f : Nat → Bool) (ms : List Nat) : ((ms.map f).any fun x => x == true) = ms.any f := by
  rw [List.any_map]; congr 1; funext x; show (f x == true) = f x; cases f x <;> rfl
theorem any_false (f : Nat → Bool) (ms : List Nat) : ((ms.map f).any fun x => x == false) = ms.any fun m => !f m := by
  rw [List.any_map]; congr 1; funext x; show (f x == false) = !f x; cases f x <;> rfl
theorem ok_law {f_law : Addr} {fd_law : FuncData} (F_law : Fun K "law" "law" s_law f_law fd_law)
    {f_law_cell : Addr} {fd_law_cell : FuncData} (G_law_cell : FnOk P w K mg base CX0 1 f_law_cell fd_law_cell ["_law_script", "_law_k"] (spCell K)) (b_law_cell : Binds K fd_law_cell ["_law_script", "_law_k"] []) (k_law_cell : PySem.W.keepIn K (.ref f_law_cell) = true) (m_law_cell : mg "_law_cell" = some (.ref f_law_cell))
    {f_law_steps : Addr} {fd_law_steps : FuncData} (G_law_steps : FnOk P w K mg base CX0 2 f_law_steps fd_law_steps ["_law_script", "_law_many", "_law_at"] (spSteps K)) (b_law_steps : Binds K fd_law_steps ["_law_script", "_law_many", "_law_at"] []) (k_law_steps : PySem.W.keepIn K (.ref f_law_steps) = true) (m_law_steps : mg "_law_steps" = some (.ref f_law_steps))
    {f_law_drawn_rule : Addr} {fd_law_drawn_rule : FuncData} (G_law_drawn_rule : FnOk P w K mg base CX0 2 f_law_drawn_rule fd_law_drawn_rule ["_law_script", "_law_steps_here"] (spDRule K)) (b_law_drawn_rule : Binds K fd_law_drawn_rule ["_law_script", "_law_steps_here"] []) (k_law_drawn_rule : PySem.W.keepIn K (.ref f_law_drawn_rule) = true) (m_law_drawn_rule : mg "_law_drawn_rule" = some (.ref f_law_drawn_rule))
    {f_law_cells : Addr} {fd_law_cells : FuncData} (G_law_cells : FnOk P w K mg base CX0 3 f_law_cells fd_law_cells ["_law_steps_here", "_law_drawn"] (spLCells K)) (b_law_cells : Binds K fd_law_cells ["_law_steps_here", "_law_drawn"] []) (k_law_cells : PySem.W.keepIn K (.ref f_law_cells) = true) (m_law_cells : mg "_law_cells" = some (.ref f_law_cells))
    {f_law_sets : Addr} {fd_law_sets : FuncData} (G_law_sets : FnOk P w K mg base CX0 1 f_law_sets fd_law_sets ["_law_steps_here", "_law_row"] (spSets K)) (b_law_sets : Binds K fd_law_sets ["_law_steps_here", "_law_row"] []) (k_law_sets : PySem.W.keepIn K (.ref f_law_sets) = true) (m_law_sets : mg "_law_sets" = some (.ref f_law_sets))
    {f_law_breaks : Addr} {fd_law_breaks : FuncData} (G_law_breaks : FnOk P w K mg base CX0 1 f_law_breaks fd_law_breaks ["_law_mask", "_law_rule"] (spBreaks)) (b_law_breaks : Binds K fd_law_breaks ["_law_mask", "_law_rule"] []) (k_law_breaks : PySem.W.keepIn K (.ref f_law_breaks) = true) (m_law_breaks : mg "_law_breaks" = some (.ref f_law_breaks))
    {f_law_copy : Addr} {fd_law_copy : FuncData} (G_law_copy : FnOk P w K mg base CX0 1 f_law_copy fd_law_copy ["_law_lists"] (spCopy K)) (b_law_copy : Binds K fd_law_copy ["_law_lists"] []) (k_law_copy : PySem.W.keepIn K (.ref f_law_copy) = true) (m_law_copy : mg "_law_copy" = some (.ref f_law_copy))
    {f_spoiling : Addr} {fd_spoiling : FuncData} (G_spoiling : FnOk P w K mg base CX0 3 f_spoiling fd_spoiling ["steps", "cells", "rule"] (spSpoil K)) (b_spoiling : Binds K fd_spoiling ["steps", "cells", "rule"] []) (k_spoiling : PySem.W.keepIn K (.ref f_spoiling) = true) (m_spoiling : mg "spoiling" = some (.ref f_spoiling))
    {f_mending : Addr} {fd_mending : FuncData} (G_mending : FnOk P w K mg base CX0 4 f_mending fd_mending ["steps", "cells", "rule"] (spMend K)) (b_mending : Binds K fd_mending ["steps", "cells", "rule"] []) (k_mending : PySem.W.keepIn K (.ref f_mending) = true) (m_mending : mg "mending" = some (.ref f_mending))
    {f_sure : Addr} {fd_sure : FuncData} (G_sure : FnOk P w K mg base CX0 4 f_sure fd_sure ["steps", "cells", "rule"] (spSure K)) (b_sure : Binds K fd_sure ["steps", "cells", "rule"] []) (k_sure : PySem.W.keepIn K (.ref f_sure) = true) (m_sure : mg "sure" = some (.ref f_sure))
    {f_law_broken : Addr} {fd_law_broken : FuncData} (G_law_broken : FnOk P w K mg base CX0 2 f_law_broken fd_law_broken ["_law_steps_here", "_law_filling_here", "_law_rule"] (spLBroken K)) (b_law_broken : Binds K fd_law_broken ["_law_steps_here", "_law_filling_here", "_law_rule"] []) (k_law_broken : PySem.W.keepIn K (.ref f_law_broken) = true) (m_law_broken : mg "_law_broken" = some (.ref f_law_broken))
    {f_law_filling : Addr} {fd_law_filling : FuncData} (G_law_filling : FnOk P w K mg base CX0 1 f_law_filling fd_law_filling ["_law_told", "_law_cells_here"] (spLFill K)) (b_law_filling : Binds K fd_law_filling ["_law_told", "_law_cells_here"] []) (k_law_filling : PySem.W.keepIn K (.ref f_law_filling) = true) (m_law_filling : mg "_law_filling" = some (.ref f_law_filling))
    (z_isinstance : mg "isinstance" = none)
    (z_bool : mg "bool" = none) :
    FnOk P w K mg base CX0 5 f_law fd_law ["_law_script"] (spLaw K) := by
  refine F_law.ok sc_law (fun vs H Q E h => ?_) (fun cdv A outer s H vs Q E hr h => ?_)
  · obtain ⟨a0, ns, rfl, hA, hn, q⟩ := h
    rfl
  obtain ⟨a0, ns, rfl, hA, hn, q⟩ := h
  refine ⟨_, (pss_cons (ps_set (i := 1) sc_law.nd rfl (Or.inl rfl) (pe_op op_mod (pe_call G_law_cell (hr.mono (by decide)) rfl m_law_cell k_law_cell b_law_cell .nil pass0 (pa_cons (pv 0) (pa_cons pe_int pa_nil))) pe_int))
      (pss_cons (ps_set (i := 2) sc_law.nd rfl (Or.inl rfl) (pe_call G_law_steps (hr.mono (by decide)) rfl m_law_steps k_law_steps b_law_steps .nil pass0 (pa_cons (pv 0) (pa_cons (pv 1) (pa_cons pe_int pa_nil)))))
      (pss_cons (ps_set (i := 3) sc_law.nd rfl (Or.inr rfl) (pe_call G_law_drawn_rule (hr.mono (by decide)) rfl m_law_drawn_rule k_law_drawn_rule b_law_drawn_rule .nil pass0 (pa_cons (pv 0) (pa_cons (pv 2) pa_nil))))
      (pss_cons (ps_set (i := 4) sc_law.nd rfl (Or.inl rfl) (pe_call G_law_cells (hr.mono (by decide)) rfl m_law_cells k_law_cells b_law_cells .nil pass0 (pa_cons (pv 2) (pa_cons (pe_slice (sl_listK (K := K) rfl) (pv 0) (po_some (pe_op op_add (pe_op op_mul pe_int (pv 1)) pe_int)) po_none) pa_nil))))
      (pss_cons (ps_set (i := 5) sc_law.nd rfl (Or.inl rfl) pe_bl)
      (pss_cons (ps_set (i := 6) sc_law.nd rfl (Or.inl rfl) pe_bl)
      (pss_cons (ps_for PassesOwn.never rfl (pi_listK (K := K) rfl (pv 4)) (pg_name (i := 7) sc_law.nd rfl (Or.inl rfl)) (pss_cons (ps_setcomp (i := 8) (own := ["_law_mask"]) rfl sc_law.nd rfl (Or.inl rfl) (pi_listK (K := K) rfl (by exact (pe_call G_law_sets (hr.mono (by decide)) rfl m_law_sets k_law_sets b_law_sets .nil pass0 (pa_cons (pv 2) (pa_cons (pv 7) pa_nil))))) (fun _ _ _ _ _ => (pg_name (i := 0) nd_law_12 rfl (Or.inl rfl))) (fun _ _ _ _ _ => pif_nil) (fun _ _ _ _ _ => (pe_call G_law_breaks (hr.mono (by decide)) rfl m_law_breaks k_law_breaks b_law_breaks .nil pass0 (pa_cons (pv 0) (pa_cons (pv 4) pa_nil)))))
      (pss_cons (ps_set (i := 5) sc_law.nd rfl (Or.inl rfl) (pe_or (pv 5) (pe_one (pe_cmpR (op_inK (K := K) rfl) pe_bl (pv 8) (by with_unfolding_all rfl)))))
      (pss_one (ps_set (i := 6) sc_law.nd rfl (Or.inl rfl) (pe_and (pv 6) (pe_one (pe_cmpR (op_inK (K := K) rfl) pe_bl (pv 8) (by with_unfolding_all rfl)))))))))
      (pss_cons (ps_set (i := 9) sc_law.nd rfl (Or.inl rfl) (pe_lst (pa_cons (pe_call G_law_copy (hr.mono (by decide)) rfl m_law_copy k_law_copy b_law_copy .nil pass0 (pa_cons (pv 2) pa_nil)) (pa_cons (pe_call G_law_copy (hr.mono (by decide)) rfl m_law_copy k_law_copy b_law_copy .nil pass0 (pa_cons (pv 4) pa_nil)) pa_nil))))
      (pss_cons (ps_set (i := 10) sc_law.nd rfl (Or.inl rfl) (pe_call G_spoiling (hr.mono (by decide)) rfl m_spoiling k_spoiling b_spoiling .nil pass0 (pa_cons (pe_ix (ix_listK (K := K) rfl) (pv 9) pe_int (by intro _ _; rfl)) (pa_cons (pe_ix (ix_listK (K := K) rfl) (pv 9) pe_int (by intro _ _; rfl)) (pa_cons (pv 3) pa_nil)))))
      (pss_cons (ps_set (i := 11) sc_law.nd rfl (Or.inl rfl) (pe_call G_mending (hr.mono (by decide)) rfl m_mending k_mending b_mending .nil pass0 (pa_cons (pe_ix (ix_listK (K := K) rfl) (pv 9) pe_int (by intro _ _; rfl)) (pa_cons (pe_ix (ix_listK (K := K) rfl) (pv 9) pe_int (by intro _ _; rfl)) (pa_cons (pv 3) pa_nil)))))
      (pss_cons (ps_set (i := 12) sc_law.nd rfl (Or.inl rfl) (pe_call G_sure (hr.mono (by decide)) rfl m_sure k_sure b_sure .nil pass0 (pa_cons (pe_ix (ix_listK (K := K) rfl) (pv 9) pe_int (by intro _ _; rfl)) (pa_cons (pe_ix (ix_listK (K := K) rfl) (pv 9) pe_int (by intro _ _; rfl)) (pa_cons (pv 3) pa_nil)))))
      (pss_cons (ps_if (PW.pt (pw_or (pt_not (pt_val (pe_callB (isiK (K := K) rfl) rfl z_isinstance b_isinstance (pa_cons (pv 12) (pa_cons (pe_ty rfl z_bool b_bool) pa_nil))))) (pw_or (pt_cmpR op_eq (pv 12) (pv 5) (nomark _)) (pw_or1 (pt_cmpR op_eq (pe_cmpR op_isN (pv 10) pe_non (nomark _)) (pv 5) (nomark _)))))) (pss_one (ps_ret pe_bl)) pss_nil)
      (pss_cons (ps_if (pt_cmpR op_notN (pv 10) pe_non (nomark _)) (pss_one (ps_if (PW.pt (pw_or (pt_not (pt_val (pe_call G_law_filling (hr.mono (by decide)) rfl m_law_filling k_law_filling b_law_filling .nil pass0 (pa_cons (pv 10) (pa_cons (pv 4) pa_nil))))) (pw_or1 (pt_not (pt_val (pe_call G_law_broken (hr.mono (by decide)) rfl m_law_broken k_law_broken b_law_broken .nil pass0 (pa_cons (pv 2) (pa_cons (pv 10) (pa_cons (pv 3) pa_nil))))))))) (pss_one (ps_ret pe_bl)) pss_nil)) pss_nil)
      (pss_cons (ps_if (pt_cmpR op_eq (pe_cmpR op_isN (pv 11) pe_non (nomark _)) (pv 6) (nomark _)) (pss_one (ps_ret pe_bl)) pss_nil)
      (pss_cons (ps_if (pt_cmpR op_notN (pv 11) pe_non (nomark _)) (pss_one (ps_if (PW.pt (pw_or (pt_not (pt_val (pe_call G_law_filling (hr.mono (by decide)) rfl m_law_filling k_law_filling b_law_filling .nil pass0 (pa_cons (pv 11) (pa_cons (pv 4) pa_nil))))) (pw_or1 (pt_val (pe_call G_law_broken (hr.mono (by decide)) rfl m_law_broken k_law_broken b_law_broken .nil pass0 (pa_cons (pv 2) (pa_cons (pv 11) (pa_cons (pv 3) pa_nil)))))))) (pss_one (ps_ret pe_bl)) pss_nil)) pss_nil)
      (pss_one (ps_ret (pe_and (pe_cmpR (op_eqAll2K (K := K) rfl hr.units100) (pe_ix (ix_listK (K := K) rfl) (pv 9) pe_int (by intro _ _; rfl)) (pv 2) (nomark _)) (pe_one (pe_cmpR (op_eqAll2K (K := K) rfl hr.units100) (pe_ix (ix_listK (K := K) rfl) (pv 9) pe_int (by intro _ _; rfl)) (pv 4) (nomark _))))))))))))))))))))), ?_⟩
  refine ⟨_, rfl, a0, ns, 0, rfl, hA, _, _, rfl, rfl, (by show (0 : Int) < 6; decide), ?_⟩
  dsimp only
  obtain ⟨mn, emn, hmn⟩ := emod_nat (ns.getD 0 0) (n := 6) (by decide)
  have emn : ns.getD 0 0 % 6 = (mn : Int) := emn
  rw [emn]
  refine ⟨_, rfl, _, rfl, a0, ns, mn, 4, rfl, hA, by omega, by omega, fun p ps H1 g1 op hp hL hG hwd hpl => ?_⟩
  refine ⟨_, rfl, _, rfl, a0, ns, p, ps, rfl, g1.seq hA, SqL.of hp, hL, by omega, by omega, fun t x y H2 g2 hT => ?_⟩
  have g02 := g1.trans g2
  refine ⟨_, rfl, _, rfl, _, rfl, _, _, rfl, rfl, .inl ⟨by decide, by decide⟩, _, _, rfl, rfl, _, rfl, a0, _, rfl, g02.seq hA, fun p0 hp0 => ?_⟩
  obtain ⟨dn, edn, hdn⟩ := cutV_ints ns (some (2 * (mn : Int) + 4)) none
  dsimp only
  rw [edn]
  have k3 := same_new hp0 (.lst (dn.map V.int))
  have h03 : (upd H2 p0 (.lst (dn.map V.int))) p0 = some (.lst (dn.map V.int)) := upd_same
  have g13 := g2.trans k3
  have hT3 := k3 _ _ hT
  generalize upd H2 p0 (.lst (dn.map V.int)) = H3 at k3 h03 g13 hT3
  refine ⟨p, ps, p0, dn, rfl, SqL.of (g13 _ _ hp), hL.same g13, hG, by omega, SqL.of h03, by omega, fun c cls H4 g4 hc hC hcl hO => ?_⟩
  have g14 := g13.trans g4
  have hp4 := g14 _ _ hp
  have hL4 := hL.same g14
  have hT4 := g4 _ _ hT3
  refine ⟨_, rfl, c, rfl, ⟨_, SqL.of hc⟩, ?_⟩
  refine for_list (K := K) (a := c) (xs := refs1 cls) (fun i σ H5 => ∃ (v7 v8 : Option V), σ = [some (.ref a0), some (.int mn), some (.ref p), some (.ref t), some (.ref c), some (.bl (spoilB (snds ps) ((cellsOf cls).take i) (x, y))), some (.bl (mendB (snds ps) ((cellsOf cls).take i) (x, y))), v7, v8, none, none, none, none] ∧ Same H4 H5) ⟨_, _, rfl, Same.refl _⟩ (fun i σ H5 _ ⟨_, _, _, g⟩ => SqL.of (g _ _ hc)) ?_ ?_
  · rintro i z σ H5 hi ⟨v7, v8, rfl, g5⟩
    obtain ⟨hil, rfl⟩ := ref1I hi
    have hCi := (hC.same g5) _ (List.getElem_mem hil)
    have hOi := hO _ (List.getElem_mem hil)
    have etk : (cellsOf cls).take (i + 1) = (cellsOf cls).take i ++ [snds cls[i].2] := by rw [← List.take_append_getElem (show i < (cellsOf cls).length by rw [cellsOf_len]; exact hil), cellsOf_at hil]
    refine ⟨_, rfl, _, rfl, p, ps, cls[i].1, cls[i].2, rfl, SqL.of (g5 _ _ hp4), hL4.same g5, hG, hwd, by omega, SqL.of hCi.1, hCi.2, hOi.1, hOi.2, fun r masks H6 g6 hr6 hS hml => ?_⟩
    have hb1 := sets_break (r := (x, y)) (by rw [snds_len, snds_len, hOi.1]) hOi.2 hS
    have hb2 := sets_keep (r := (x, y)) hOi.2 hS
    have es1 : spoilB (snds ps) ((cellsOf cls).take (i + 1)) (x, y) = (spoilB (snds ps) ((cellsOf cls).take i) (x, y) || masks.any fun m => brk m (x, y)) := by
      rw [etk, hb1]; unfold spoilB; rw [List.any_append]; simp
    have es2 : mendB (snds ps) ((cellsOf cls).take (i + 1)) (x, y) = (mendB (snds ps) ((cellsOf cls).take i) (x, y) && masks.any fun m => !brk m (x, y)) := by
      rw [etk, hb2]; unfold mendB; rw [List.all_append]; simp
    rw [es1, es2]
    refine ⟨r, rfl, ⟨_, SqL.of hr6⟩, ?_⟩
    have hT6 := (g5.trans g6) _ _ hT4
    refine comp_list (K := K) (a := r) (xs := masks.map nv) (fun j ys H7 => ys = ((masks.take j).map (fun m => brk m (x, y))).map V.bl ∧ H6 = H7) (by rw [List.length_map]; exact line1000 (by omega)) ⟨rfl, rfl⟩ (fun j ys H7 hj h => ?_) (fun j ys H7 hj h => ?_) (fun j z ys H7 hj h => ?_) (fun ys H7 h => ?_)
    · rw [h.1, List.length_map, List.length_map, List.length_take]; omega
    · rw [← h.2]; exact SqL.of hr6
    · obtain ⟨rfl, rfl⟩ := h
      obtain ⟨hjl, rfl⟩ := nvI hj
      refine ⟨rfl, _, rfl, _, rfl, masks[j], t, x, y, rfl, hT6, ?_, rfl⟩
      rw [← List.take_append_getElem hjl, List.map_append, List.map_append]; rfl
    · obtain ⟨rfl, rfl⟩ := h
      intro ba hba
      rw [List.length_map, List.take_length]
      have k7 := same_new hba (.lst ((masks.map (fun m => brk m (x, y))).map V.bl))
      have h7 : (upd H6 ba (.lst ((masks.map (fun m => brk m (x, y))).map V.bl))) ba = some (.lst ((masks.map (fun m => brk m (x, y))).map V.bl)) := upd_same
      generalize upd H6 ba (.lst ((masks.map (fun m => brk m (x, y))).map V.bl)) = H7 at k7 h7
      have g47 := g5.trans (g6.trans k7)
      dsimp only
      refine seq_join (fun σ H8 => σ = [some (.ref a0), some (.int mn), some (.ref p), some (.ref t), some (.ref c), some (.bl (spoilB (snds ps) ((cellsOf cls).take i) (x, y) || masks.any fun m => brk m (x, y))), some (.bl (mendB (snds ps) ((cellsOf cls).take i) (x, y))), some (.ref cls[i].1), some (.ref ba), none, none, none, none] ∧ H7 = H8) ?_ fun nx' hnx => ?_
      case refine_2 =>
        refine ⟨_, rfl, _, rfl, ?_⟩
        generalize spoilB (snds ps) ((cellsOf cls).take i) (x, y) = sb at hnx
        cases sb with
        | true => exact iteT (hnx _ _ ⟨rfl, rfl⟩)
        | false =>
          refine iteF ⟨_, rfl, ba, _, rfl, .inl (SqL.of h7), rfl, bl_flat _, hnx _ _ ⟨?_, rfl⟩⟩
          rw [in_bls, any_true]; rfl
      rintro σ H8 ⟨rfl, rfl⟩
      refine ⟨_, rfl, _, rfl, ?_⟩
      generalize mendB (snds ps) ((cellsOf cls).take i) (x, y) = mb
      cases mb with
      | false => exact iteF ⟨_, _, rfl, g47⟩
      | true =>
        refine iteT ⟨_, rfl, ba, _, rfl, .inl (SqL.of h7), rfl, bl_flat _, some (.ref cls[i].1), some (.ref ba), ?_, g47⟩
        rw [in_bls, any_false]; rfl
  rintro σ H5 ⟨v7, v8, rfl, g45⟩
  rw [refs1_len, ← cellsOf_len, List.take_length]
  have hp4 := g45 _ _ hp4
  have hL4 := hL4.same g45
  have hT4 := g45 _ _ hT4
  have hc := g45 _ _ hc
  have hC := hC.same g45
  clear g45
  refine ⟨_, rfl, List Int, (·.map V.int), p, ps, rfl, SqL.of hp4, hL4, by omega, fun r1 ps1 H5' g5 hr1 hL1 e1 => ?_⟩
  have hC5 := hC.same g5
  refine ⟨_, rfl, List (Addr × Int × Int), refs1, c, cls, rfl, SqL.of (g5 _ _ hc), fun q hq => (hC5 q hq).1, by omega, fun r2 cls1 H6 g6 hr2 hG2 e2 => ?_⟩
  have hC6 : Cels H6 cls1 := copy_cels e2 (hC5.same g6) hG2
  have hL16 : Lsts H6 ps1 := Lsts.same (H := H5') hL1 g6
  have hO1 : OkCls ps.length cls1 := copy_ok e2 hO
  have hcl1 := copy_len e2
  have hpl1 := copy_len e1
  have ecs : cellsOf cls1 = cellsOf cls := by unfold cellsOf; rw [e2]
  have hr16 := g6 _ _ hr1
  refine ⟨two_line, fun hd hhd => ?_⟩
  have k7 := same_new hhd (.lst [.ref r1, .ref r2])
  have hh : (upd H6 hd (.lst [.ref r1, .ref r2])) hd = some (.lst [.ref r1, .ref r2]) := upd_same
  have g47 := g5.trans (g6.trans k7)
  have hC7 := hC6.same k7
  have hL17 := hL16.same k7
  have hr17 := k7 _ _ hr16
  have hr27 := k7 _ _ hr2
  generalize upd H6 hd (.lst [.ref r1, .ref r2]) = H7 at k7 hh g47 hC7 hL17 hr17 hr27
  have hOp : OkCls ps1.length cls1 := by rw [hpl1]; exact hO1
  have hwd1 : wideN (snds ps1) ≤ 100 := by rw [e1]; omega
  obtain ⟨mb, emb⟩ : ∃ mb, mb = spoilB (snds ps) (cellsOf cls) (x, y) := ⟨_, rfl⟩
  obtain ⟨mh, emh⟩ : ∃ mh, mh = mendB (snds ps) (cellsOf cls) (x, y) := ⟨_, rfl⟩
  rw [← emb, ← emh]
  dsimp only
  refine seq_join (fun σ H8 => ∃ v : V, σ = [some (.ref a0), some (.int mn), some (.ref p), some (.ref t), some (.ref c), some (.bl mb), some (.bl mh), v7, v8, some (.ref hd), some v, none, none] ∧ TellS H8 (snds ps) (cellsOf cls) (x, y) v ∧ Same H7 H8) ?_ fun nx' hnx => ?_
  case refine_2 =>
    refine ⟨_, rfl, hd, _, _, _, rfl, rfl, SqL.of hh, tup0 _ _, _, rfl, hd, _, _, _, rfl, rfl, SqL.of hh, tup1 _ _, _, rfl, r1, ps1, r2, cls1, t, x, y, rfl, SqL.of hr17, hL17, SqL.of hr27, hC7, g47 _ _ hT4, hwd1, by omega, by omega, hOp, fun e H9 g9 => ?_, fun e r fl H9 g9 hr9 hL9 hF hbr => ?_⟩
    · rw [e1, ecs] at e
      exact hnx _ _ ⟨_, rfl, .inl ⟨rfl, e⟩, g9⟩
    · rw [e1, ecs] at e
      rw [ecs] at hF
      rw [e1] at hbr
      exact hnx _ _ ⟨_, rfl, .inr ⟨r, fl, rfl, e, hr9, hL9, hF, hbr⟩, g9⟩
  rintro σ H8 ⟨vS, rfl, hS, g8⟩
  have hh8 := g8 _ _ hh
  refine seq_join (fun σ H9 => ∃ v : V, σ = [some (.ref a0), some (.int mn), some (.ref p), some (.ref t), some (.ref c), some (.bl mb), some (.bl mh), v7, v8, some (.ref hd), some vS, some v, none] ∧ TellM H9 (snds ps) (cellsOf cls) (x, y) v ∧ Same H8 H9) ?_ fun nx' hnx => ?_
  case refine_2 =>
    refine ⟨_, rfl, hd, _, _, _, rfl, rfl, SqL.of hh8, tup0 _ _, _, rfl, hd, _, _, _, rfl, rfl, SqL.of hh8, tup1 _ _, _, rfl, r1, ps1, r2, cls1, t, x, y, rfl, SqL.of (g8 _ _ hr17), hL17.same g8, SqL.of (g8 _ _ hr27), hC7.same g8, (g47.trans g8) _ _ hT4, hwd1, by omega, by omega, hOp, fun e H9 g9 => ?_, fun e r fl H9 g9 hr9 hL9 hF hbr => ?_⟩
    · rw [e1, ecs] at e
      exact hnx _ _ ⟨_, rfl, .inl ⟨rfl, e⟩, g9⟩
    · rw [e1, ecs] at e
      rw [ecs] at hF
      rw [e1] at hbr
      exact hnx _ _ ⟨_, rfl, .inr ⟨r, fl, rfl, e, hr9, hL9, hF, hbr⟩, g9⟩
  rintro σ H9 ⟨vM, rfl, hM, g9⟩
  have g79 := g8.trans g9
  have hh9 := g79 _ _ hh
  refine ⟨_, rfl, hd, _, _, _, rfl, rfl, SqL.of hh9, tup0 _ _, _, rfl, hd, _, _, _, rfl, rfl, SqL.of hh9, tup1 _ _, _, rfl, r1, ps1, r2, cls1, t, x, y, rfl, SqL.of (g79 _ _ hr17), hL17.same g79, SqL.of (g79 _ _ hr27), hC7.same g79, (g47.trans g79) _ _ hT4, hwd1, by omega, by omega, hOp, fun H10 g10 => ?_⟩
  rw [e1, ecs, ← emb]
  have hS := hS.same (g9.trans g10)
  have hM := hM.same g10
  unfold TellS at hS
  unfold TellM at hM
  rw [← emb] at hS
  rw [← emh] at hM
  have g710 := g79.trans g10
  have g410 := g47.trans g710
  have ec : SqL K H10 c (refs1 cls) := SqL.of (g410 _ _ hc)
  have eC : Cels H10 cls := hC.same g410
  have ep : SqL K H10 p (refs1 ps) := SqL.of (g410 _ _ hp4)
  have eL : Lsts H10 ps := hL4.same g410
  have eT := g410 _ _ hT4
  have eh := g710 _ _ hh
  have ecw : ∀ q ∈ cls, q.2.length ≤ 100 := fun q hq => by rw [(hO q hq).1]; omega
  have hd1 : decide (V.bl (!mb) = V.bl mb) = false := by cases mb <;> exact decide_eq_false (fun z => by injection z with z; cases z)
  refine ⟨_, rfl, _, _, _, _, _, rfl, rfl, TyOf.bl _, rfl, _, rfl, iteF ?_⟩
  refine ⟨_, rfl, _, rfl, rfl, _, rfl, ?_⟩
  rw [hd1]
  refine iteF ⟨_, rfl, rfl, _, rfl, rfl, _, rfl, ?_⟩
  have hd2 : decide (V.bl (decide (vS = .non)) = V.bl mb) = false := by
    rcases hS with ⟨rfl, e⟩ | ⟨a, fl, rfl, e, _⟩
    · rw [e]; exact decide_eq_false (fun z => by injection z with z; cases z)
    · rw [e, decide_eq_false (fun z => nomatch z)]
  rw [hd2]
  refine iteF ?_
  dsimp only [tNext]
  refine seq_join (fun σ H11 => σ = [some (.ref a0), some (.int mn), some (.ref p), some (.ref t), some (.ref c), some (.bl mb), some (.bl mh), v7, v8, some (.ref hd), some vS, some vM, some (.bl (!mb))] ∧ H10 = H11) ?_ fun nx' hnx => ?_
  case refine_2 =>
    refine ⟨_, rfl, rfl, _, rfl, ?_⟩
    rcases hS with ⟨rfl, e⟩ | ⟨a, fl, rfl, e, ha, hLf, hF, hbr⟩
    · exact iteF (hnx _ _ ⟨rfl, rfl⟩)
    · refine iteT ?_
      refine ⟨_, rfl, _, rfl, a, fl, c, cls, rfl, ha, hLf, ec, eC, by omega, ecw, hF, _, rfl, iteF ?_⟩
      refine ⟨_, rfl, _, rfl, _, rfl, p, ps, a, fl, t, x, y, rfl, ep, eL, SqL.of ha, hLf, eT, fill_len hF hO, by omega, by omega, _, rfl, ?_⟩
      rw [hbr]
      exact iteF (hnx _ _ ⟨rfl, rfl⟩)
  rintro σ H11 ⟨rfl, rfl⟩
  refine ⟨_, rfl, rfl, _, rfl, rfl, _, rfl, ?_⟩
  have hd3 : decide (V.bl (decide (vM = .non)) = V.bl mh) = false := by
    rcases hM with ⟨rfl, e⟩ | ⟨a, fl, rfl, e, _⟩
    · rw [e]; exact decide_eq_false (fun z => by injection z with z; cases z)
    · rw [e, decide_eq_false (fun z => nomatch z)]
  rw [hd3]
  refine iteF ?_
  dsimp only [tNext]
  refine seq_join (fun σ H11 => σ = [some (.ref a0), some (.int mn), some (.ref p), some (.ref t), some (.ref c), some (.bl mb), some (.bl mh), v7, v8, some (.ref hd), some vS, some vM, some (.bl (!mb))] ∧ H10 = H11) ?_ fun nx' hnx => ?_
  case refine_2 =>
    refine ⟨_, rfl, rfl, _, rfl, ?_⟩
    rcases hM with ⟨rfl, e⟩ | ⟨a, fl, rfl, e, ha, hLf, hF, hbr⟩
    · exact iteF (hnx _ _ ⟨rfl, rfl⟩)
    · refine iteT ?_
      refine ⟨_, rfl, _, rfl, a, fl, c, cls, rfl, ha, hLf, ec, eC, by omega, ecw, hF, _, rfl, iteF ?_⟩
      refine ⟨_, rfl, _, rfl, _, rfl, p, ps, a, fl, t, x, y, rfl, ep, eL, SqL.of ha, hLf, eT, fill_len hF hO, by omega, by omega, _, rfl, ?_⟩
      rw [hbr]
      exact iteF (hnx _ _ ⟨rfl, rfl⟩)
  rintro σ H11 ⟨rfl, rfl⟩
  refine ⟨_, rfl, hd, _, _, _, rfl, rfl, SqL.of eh, tup0 _ _, _, rfl, r1, p, _, _, rfl, rfl, SqL.of (g710 _ _ hr17), ep, by rw [refs1_len, refs1_len, hpl1], copy_eqJ e1 eL (hL17.same g710), _, rfl, iteT ?_⟩
  refine ⟨_, rfl, hd, _, _, _, rfl, rfl, SqL.of eh, tup1 _ _, _, rfl, r2, c, _, _, rfl, rfl, SqL.of (g710 _ _ hr27), ec, by rw [refs1_len, refs1_len, hcl1], copy_eqR e2 eC (hC7.same g710), q _⟩
end
theorem all_mk {l : PySem.W.OpenLaw} {w : World} {K : PySem.W.Frag} {h : Heap} {mg : Str → Option Value} {fa f1 f2 f3 f4 f5 f6 f7 f8 f9 f10 f11 f12 f13 f14 f15 f16 f17 f18 f19 f20 f21 f22 f23 f24 f25 f26 f27 : Addr} (X : K.In h) (G : h.Ns mainGlobals mg) (hfa : mg "law" = some (.ref fa))
    {od1 od2 od3 od4 od5 od6 od7 od8 od9 od10 od11 od12 od13 od14 od15 od16 od17 od18 od19 od20 od21 od22 od23 od24 od25 od26 od27 an1 an2 an3 an4 an5 an6 an7 an8 an9 an10 an11 an12 an13 an14 an15 an16 an17 an18 an19 an20 an21 an22 an23 an24 an25 an26 an27 : Option Addr} {sl1 sl2 sl3 sl4 sl5 sl6 sl7 sl8 sl9 sl10 sl11 sl12 sl13 sl14 sl15 sl16 sl17 sl18 sl19 sl20 sl21 sl22 sl23 sl24 sl25 sl26 sl27 : Array (Option Value)} {oc1 oc2 oc3 oc4 oc5 oc6 oc7 oc8 oc9 oc10 oc11 oc12 oc13 oc14 oc15 oc16 oc17 oc18 oc19 oc20 oc21 oc22 oc23 oc24 oc25 oc26 oc27 kV1 kV2 kV3 kV4 kV5 kV6 kV7 kV8 kV9 kV10 kV11 kV12 kV13 kV14 kV15 kV16 kV17 kV18 kV19 kV20 kV21 kV22 kV23 kV24 kV25 kV26 kV27 dc1 dc2 dc3 dc4 dc5 dc6 dc7 dc8 dc9 dc10 dc11 dc12 dc13 dc14 dc15 dc16 dc17 dc18 dc19 dc20 dc21 dc22 dc23 dc24 dc25 dc26 dc27 pm1 pm2 pm3 pm4 pm5 pm6 pm7 pm8 pm9 pm10 pm11 pm12 pm13 pm14 pm15 pm16 pm17 pm18 pm19 pm20 pm21 pm22 pm23 pm24 pm25 pm26 pm27 cd1 cd2 cd3 cd4 cd5 cd6 cd7 cd8 cd9 cd10 cd11 cd12 cd13 cd14 cd15 cd16 cd17 cd18 cd19 cd20 cd21 cd22 cd23 cd24 cd25 cd26 cd27 ct1 ct2 ct3 ct4 ct5 ct6 ct7 ct8 ct9 ct10 ct11 ct12 ct13 ct14 ct15 ct16 ct17 ct18 ct19 ct20 ct21 ct22 ct23 ct24 ct25 ct26 ct27 : Value}
    (a1 : PySem.W.nsIn K mainGlobals "mask_of" = some (some (.ref f1))) (l1 : K.lookup f1 = some ⟨oc1, od1, .func (PySem.W.fnOf "mask_of" "mask_of" (defArgs s_mask_of) (defBody s_mask_of) (defScope s_mask_of) .none kV1 dc1 pm1 an1 cd1 ct1), sl1⟩) (c1 : PySem.W.codeIn K cd1 "mask_of" = true) (k1 : PySem.W.keepIn K (.ref f1) = true)
    (a2 : PySem.W.nsIn K mainGlobals "within" = some (some (.ref f2))) (l2 : K.lookup f2 = some ⟨oc2, od2, .func (PySem.W.fnOf "within" "within" (defArgs s_within) (defBody s_within) (defScope s_within) .none kV2 dc2 pm2 an2 cd2 ct2), sl2⟩) (c2 : PySem.W.codeIn K cd2 "within" = true) (k2 : PySem.W.keepIn K (.ref f2) = true)
    (a3 : PySem.W.nsIn K mainGlobals "breaks" = some (some (.ref f3))) (l3 : K.lookup f3 = some ⟨oc3, od3, .func (PySem.W.fnOf "breaks" "breaks" (defArgs s_breaks) (defBody s_breaks) (defScope s_breaks) .none kV3 dc3 pm3 an3 cd3 ct3), sl3⟩) (c3 : PySem.W.codeIn K cd3 "breaks" = true) (k3 : PySem.W.keepIn K (.ref f3) = true)
    (a4 : PySem.W.nsIn K mainGlobals "spread" = some (some (.ref f4))) (l4 : K.lookup f4 = some ⟨oc4, od4, .func (PySem.W.fnOf "spread" "spread" (defArgs s_spread) (defBody s_spread) (defScope s_spread) .none kV4 dc4 pm4 an4 cd4 ct4), sl4⟩) (c4 : PySem.W.codeIn K cd4 "spread" = true) (k4 : PySem.W.keepIn K (.ref f4) = true)
    (a5 : PySem.W.nsIn K mainGlobals "steps_of" = some (some (.ref f5))) (l5 : K.lookup f5 = some ⟨oc5, od5, .func (PySem.W.fnOf "steps_of" "steps_of" (defArgs s_steps_of) (defBody s_steps_of) (defScope s_steps_of) .none kV5 dc5 pm5 an5 cd5 ct5), sl5⟩) (c5 : PySem.W.codeIn K cd5 "steps_of" = true) (k5 : PySem.W.keepIn K (.ref f5) = true)
    (a6 : PySem.W.nsIn K mainGlobals "lows" = some (some (.ref f6))) (l6 : K.lookup f6 = some ⟨oc6, od6, .func (PySem.W.fnOf "lows" "lows" (defArgs s_lows) (defBody s_lows) (defScope s_lows) .none kV6 dc6 pm6 an6 cd6 ct6), sl6⟩) (c6 : PySem.W.codeIn K cd6 "lows" = true) (k6 : PySem.W.keepIn K (.ref f6) = true)
    (a7 : PySem.W.nsIn K mainGlobals "highs" = some (some (.ref f7))) (l7 : K.lookup f7 = some ⟨oc7, od7, .func (PySem.W.fnOf "highs" "highs" (defArgs s_highs) (defBody s_highs) (defScope s_highs) .none kV7 dc7 pm7 an7 cd7 ct7), sl7⟩) (c7 : PySem.W.codeIn K cd7 "highs" = true) (k7 : PySem.W.keepIn K (.ref f7) = true)
    (a8 : PySem.W.nsIn K mainGlobals "lows_reaching" = some (some (.ref f8))) (l8 : K.lookup f8 = some ⟨oc8, od8, .func (PySem.W.fnOf "lows_reaching" "lows_reaching" (defArgs s_lows_reaching) (defBody s_lows_reaching) (defScope s_lows_reaching) .none kV8 dc8 pm8 an8 cd8 ct8), sl8⟩) (c8 : PySem.W.codeIn K cd8 "lows_reaching" = true) (k8 : PySem.W.keepIn K (.ref f8) = true)
    (a9 : PySem.W.nsIn K mainGlobals "spoiling" = some (some (.ref f9))) (l9 : K.lookup f9 = some ⟨oc9, od9, .func (PySem.W.fnOf "spoiling" "spoiling" (defArgs s_spoiling) (defBody s_spoiling) (defScope s_spoiling) .none kV9 dc9 pm9 an9 cd9 ct9), sl9⟩) (c9 : PySem.W.codeIn K cd9 "spoiling" = true) (k9 : PySem.W.keepIn K (.ref f9) = true)
    (a10 : PySem.W.nsIn K mainGlobals "sure" = some (some (.ref f10))) (l10 : K.lookup f10 = some ⟨oc10, od10, .func (PySem.W.fnOf "sure" "sure" (defArgs s_sure) (defBody s_sure) (defScope s_sure) .none kV10 dc10 pm10 an10 cd10 ct10), sl10⟩) (c10 : PySem.W.codeIn K cd10 "sure" = true) (k10 : PySem.W.keepIn K (.ref f10) = true)
    (a11 : PySem.W.nsIn K mainGlobals "keeping" = some (some (.ref f11))) (l11 : K.lookup f11 = some ⟨oc11, od11, .func (PySem.W.fnOf "keeping" "keeping" (defArgs s_keeping) (defBody s_keeping) (defScope s_keeping) .none kV11 dc11 pm11 an11 cd11 ct11), sl11⟩) (c11 : PySem.W.codeIn K cd11 "keeping" = true) (k11 : PySem.W.keepIn K (.ref f11) = true)
    (a12 : PySem.W.nsIn K mainGlobals "mending" = some (some (.ref f12))) (l12 : K.lookup f12 = some ⟨oc12, od12, .func (PySem.W.fnOf "mending" "mending" (defArgs s_mending) (defBody s_mending) (defScope s_mending) .none kV12 dc12 pm12 an12 cd12 ct12), sl12⟩) (c12 : PySem.W.codeIn K cd12 "mending" = true) (k12 : PySem.W.keepIn K (.ref f12) = true)
    (a13 : PySem.W.nsIn K mainGlobals "_law_cell" = some (some (.ref f13))) (l13 : K.lookup f13 = some ⟨oc13, od13, .func (PySem.W.fnOf "_law_cell" "_law_cell" (defArgs s_law_cell) (defBody s_law_cell) (defScope s_law_cell) .none kV13 dc13 pm13 an13 cd13 ct13), sl13⟩) (c13 : PySem.W.codeIn K cd13 "_law_cell" = true) (k13 : PySem.W.keepIn K (.ref f13) = true)
    (a14 : PySem.W.nsIn K mainGlobals "_law_marks" = some (some (.ref f14))) (l14 : K.lookup f14 = some ⟨oc14, od14, .func (PySem.W.fnOf "_law_marks" "_law_marks" (defArgs s_law_marks) (defBody s_law_marks) (defScope s_law_marks) .none kV14 dc14 pm14 an14 cd14 ct14), sl14⟩) (c14 : PySem.W.codeIn K cd14 "_law_marks" = true) (k14 : PySem.W.keepIn K (.ref f14) = true)
    (a15 : PySem.W.nsIn K mainGlobals "_law_steps" = some (some (.ref f15))) (l15 : K.lookup f15 = some ⟨oc15, od15, .func (PySem.W.fnOf "_law_steps" "_law_steps" (defArgs s_law_steps) (defBody s_law_steps) (defScope s_law_steps) .none kV15 dc15 pm15 an15 cd15 ct15), sl15⟩) (c15 : PySem.W.codeIn K cd15 "_law_steps" = true) (k15 : PySem.W.keepIn K (.ref f15) = true)
    (a16 : PySem.W.nsIn K mainGlobals "_law_worth" = some (some (.ref f16))) (l16 : K.lookup f16 = some ⟨oc16, od16, .func (PySem.W.fnOf "_law_worth" "_law_worth" (defArgs s_law_worth) (defBody s_law_worth) (defScope s_law_worth) .none kV16 dc16 pm16 an16 cd16 ct16), sl16⟩) (c16 : PySem.W.codeIn K cd16 "_law_worth" = true) (k16 : PySem.W.keepIn K (.ref f16) = true)
    (a17 : PySem.W.nsIn K mainGlobals "_law_gap" = some (some (.ref f17))) (l17 : K.lookup f17 = some ⟨oc17, od17, .func (PySem.W.fnOf "_law_gap" "_law_gap" (defArgs s_law_gap) (defBody s_law_gap) (defScope s_law_gap) .none kV17 dc17 pm17 an17 cd17 ct17), sl17⟩) (c17 : PySem.W.codeIn K cd17 "_law_gap" = true) (k17 : PySem.W.keepIn K (.ref f17) = true)
    (a18 : PySem.W.nsIn K mainGlobals "_law_cells" = some (some (.ref f18))) (l18 : K.lookup f18 = some ⟨oc18, od18, .func (PySem.W.fnOf "_law_cells" "_law_cells" (defArgs s_law_cells) (defBody s_law_cells) (defScope s_law_cells) .none kV18 dc18 pm18 an18 cd18 ct18), sl18⟩) (c18 : PySem.W.codeIn K cd18 "_law_cells" = true) (k18 : PySem.W.keepIn K (.ref f18) = true)
    (a19 : PySem.W.nsIn K mainGlobals "_law_columns" = some (some (.ref f19))) (l19 : K.lookup f19 = some ⟨oc19, od19, .func (PySem.W.fnOf "_law_columns" "_law_columns" (defArgs s_law_columns) (defBody s_law_columns) (defScope s_law_columns) .none kV19 dc19 pm19 an19 cd19 ct19), sl19⟩) (c19 : PySem.W.codeIn K cd19 "_law_columns" = true) (k19 : PySem.W.keepIn K (.ref f19) = true)
    (a20 : PySem.W.nsIn K mainGlobals "_law_breaks" = some (some (.ref f20))) (l20 : K.lookup f20 = some ⟨oc20, od20, .func (PySem.W.fnOf "_law_breaks" "_law_breaks" (defArgs s_law_breaks) (defBody s_law_breaks) (defScope s_law_breaks) .none kV20 dc20 pm20 an20 cd20 ct20), sl20⟩) (c20 : PySem.W.codeIn K cd20 "_law_breaks" = true) (k20 : PySem.W.keepIn K (.ref f20) = true)
    (a21 : PySem.W.nsIn K mainGlobals "_law_filling" = some (some (.ref f21))) (l21 : K.lookup f21 = some ⟨oc21, od21, .func (PySem.W.fnOf "_law_filling" "_law_filling" (defArgs s_law_filling) (defBody s_law_filling) (defScope s_law_filling) .none kV21 dc21 pm21 an21 cd21 ct21), sl21⟩) (c21 : PySem.W.codeIn K cd21 "_law_filling" = true) (k21 : PySem.W.keepIn K (.ref f21) = true)
    (a22 : PySem.W.nsIn K mainGlobals "_law_broken" = some (some (.ref f22))) (l22 : K.lookup f22 = some ⟨oc22, od22, .func (PySem.W.fnOf "_law_broken" "_law_broken" (defArgs s_law_broken) (defBody s_law_broken) (defScope s_law_broken) .none kV22 dc22 pm22 an22 cd22 ct22), sl22⟩) (c22 : PySem.W.codeIn K cd22 "_law_broken" = true) (k22 : PySem.W.keepIn K (.ref f22) = true)
    (a23 : PySem.W.nsIn K mainGlobals "_law_side" = some (some (.ref f23))) (l23 : K.lookup f23 = some ⟨oc23, od23, .func (PySem.W.fnOf "_law_side" "_law_side" (defArgs s_law_side) (defBody s_law_side) (defScope s_law_side) .none kV23 dc23 pm23 an23 cd23 ct23), sl23⟩) (c23 : PySem.W.codeIn K cd23 "_law_side" = true) (k23 : PySem.W.keepIn K (.ref f23) = true)
    (a24 : PySem.W.nsIn K mainGlobals "_law_drawn_rule" = some (some (.ref f24))) (l24 : K.lookup f24 = some ⟨oc24, od24, .func (PySem.W.fnOf "_law_drawn_rule" "_law_drawn_rule" (defArgs s_law_drawn_rule) (defBody s_law_drawn_rule) (defScope s_law_drawn_rule) .none kV24 dc24 pm24 an24 cd24 ct24), sl24⟩) (c24 : PySem.W.codeIn K cd24 "_law_drawn_rule" = true) (k24 : PySem.W.keepIn K (.ref f24) = true)
    (a25 : PySem.W.nsIn K mainGlobals "_law_copy" = some (some (.ref f25))) (l25 : K.lookup f25 = some ⟨oc25, od25, .func (PySem.W.fnOf "_law_copy" "_law_copy" (defArgs s_law_copy) (defBody s_law_copy) (defScope s_law_copy) .none kV25 dc25 pm25 an25 cd25 ct25), sl25⟩) (c25 : PySem.W.codeIn K cd25 "_law_copy" = true) (k25 : PySem.W.keepIn K (.ref f25) = true)
    (a26 : PySem.W.nsIn K mainGlobals "_law_sets" = some (some (.ref f26))) (l26 : K.lookup f26 = some ⟨oc26, od26, .func (PySem.W.fnOf "_law_sets" "_law_sets" (defArgs s_law_sets) (defBody s_law_sets) (defScope s_law_sets) .none kV26 dc26 pm26 an26 cd26 ct26), sl26⟩) (c26 : PySem.W.codeIn K cd26 "_law_sets" = true) (k26 : PySem.W.keepIn K (.ref f26) = true)
    (a27 : PySem.W.nsIn K mainGlobals "law" = some (some (.ref f27))) (l27 : K.lookup f27 = some ⟨oc27, od27, .func (PySem.W.fnOf "law" "law" (defArgs s_law) (defBody s_law) (defScope s_law) .none kV27 dc27 pm27 an27 cd27 ct27), sl27⟩) (c27 : PySem.W.codeIn K cd27 "law" = true) (k27 : PySem.W.keepIn K (.ref f27) = true)
    (z_bool : PySem.W.nsIn K mainGlobals "bool" = some none)
    (z_enumerate : PySem.W.nsIn K mainGlobals "enumerate" = some none)
    (z_int : PySem.W.nsIn K mainGlobals "int" = some none)
    (z_isinstance : PySem.W.nsIn K mainGlobals "isinstance" = some none)
    (z_len : PySem.W.nsIn K mainGlobals "len" = some none)
    (z_list : PySem.W.nsIn K mainGlobals "list" = some none)
    (z_max : PySem.W.nsIn K mainGlobals "max" = some none)
    (z_min : PySem.W.nsIn K mainGlobals "min" = some none)
    (z_range : PySem.W.nsIn K mainGlobals "range" = some none)
    (z_sum : PySem.W.nsIn K mainGlobals "sum" = some none)
    (z_zip : PySem.W.nsIn K mainGlobals "zip" = some none) :
    ∃ fd : FuncData, (∀ (s : Shared) (v : Value), BindsTo s fd ⟨[v], []⟩ [("_law_script", v)]) ∧ ∀ base : Heap, K.In base → base.Ns mainGlobals mg → FnOk l.prog w K mg base CX0 5 fa fd ["_law_script"] (spLaw K) := by
  have e := hfa.symm.trans (PySem.W.mg_of X G a27)
  cases e
  have F1 := fun_mk (st := s_mask_of) l1 c1 k1
  have b1 := F1.binds (ps := ["places"]) fun _ _ _ _ _ _ us hl => match us, hl with | [_], _ => rfl
  have m1 := PySem.W.mg_of X G a1
  have F2 := fun_mk (st := s_within) l2 c2 k2
  have b2 := F2.binds (ps := ["small", "large"]) fun _ _ _ _ _ _ us hl => match us, hl with | [_, _], _ => rfl
  have m2 := PySem.W.mg_of X G a2
  have F3 := fun_mk (st := s_breaks) l3 c3 k3
  have b3 := F3.binds (ps := ["row", "rule"]) fun _ _ _ _ _ _ us hl => match us, hl with | [_, _], _ => rfl
  have m3 := PySem.W.mg_of X G a3
  have F4 := fun_mk (st := s_spread) l4 c4 k4
  have b4 := F4.binds (ps := ["steps", "worths"]) fun _ _ _ _ _ _ us hl => match us, hl with | [_, _], _ => rfl
  have m4 := PySem.W.mg_of X G a4
  have F5 := fun_mk (st := s_steps_of) l5 c5 k5
  have b5 := F5.binds (ps := ["steps", "mask"]) fun _ _ _ _ _ _ us hl => match us, hl with | [_, _], _ => rfl
  have m5 := PySem.W.mg_of X G a5
  have F6 := fun_mk (st := s_lows) l6 c6 k6
  have b6 := F6.binds (ps := ["line"]) fun _ _ _ _ _ _ us hl => match us, hl with | [_], _ => rfl
  have m6 := PySem.W.mg_of X G a6
  have F7 := fun_mk (st := s_highs) l7 c7 k7
  have b7 := F7.binds (ps := ["line"]) fun _ _ _ _ _ _ us hl => match us, hl with | [_], _ => rfl
  have m7 := PySem.W.mg_of X G a7
  have F8 := fun_mk (st := s_lows_reaching) l8 c8 k8
  have b8 := F8.binds (ps := ["line", "wanted"]) fun _ _ _ _ _ _ us hl => match us, hl with | [_, _], _ => rfl
  have m8 := PySem.W.mg_of X G a8
  have F9 := fun_mk (st := s_spoiling) l9 c9 k9
  have b9 := F9.binds (ps := ["steps", "cells", "rule"]) fun _ _ _ _ _ _ us hl => match us, hl with | [_, _, _], _ => rfl
  have m9 := PySem.W.mg_of X G a9
  have F10 := fun_mk (st := s_sure) l10 c10 k10
  have b10 := F10.binds (ps := ["steps", "cells", "rule"]) fun _ _ _ _ _ _ us hl => match us, hl with | [_, _, _], _ => rfl
  have m10 := PySem.W.mg_of X G a10
  have F11 := fun_mk (st := s_keeping) l11 c11 k11
  have b11 := F11.binds (ps := ["steps", "line", "rule"]) fun _ _ _ _ _ _ us hl => match us, hl with | [_, _, _], _ => rfl
  have m11 := PySem.W.mg_of X G a11
  have F12 := fun_mk (st := s_mending) l12 c12 k12
  have b12 := F12.binds (ps := ["steps", "cells", "rule"]) fun _ _ _ _ _ _ us hl => match us, hl with | [_, _, _], _ => rfl
  have m12 := PySem.W.mg_of X G a12
  have F13 := fun_mk (st := s_law_cell) l13 c13 k13
  have b13 := F13.binds (ps := ["_law_script", "_law_k"]) fun _ _ _ _ _ _ us hl => match us, hl with | [_, _], _ => rfl
  have m13 := PySem.W.mg_of X G a13
  have F14 := fun_mk (st := s_law_marks) l14 c14 k14
  have b14 := F14.binds (ps := ["_law_many", "_law_kind", "_law_far", "_law_number"]) fun _ _ _ _ _ _ us hl => match us, hl with | [_, _, _, _], _ => rfl
  have m14 := PySem.W.mg_of X G a14
  have F15 := fun_mk (st := s_law_steps) l15 c15 k15
  have b15 := F15.binds (ps := ["_law_script", "_law_many", "_law_at"]) fun _ _ _ _ _ _ us hl => match us, hl with | [_, _, _], _ => rfl
  have m15 := PySem.W.mg_of X G a15
  have F16 := fun_mk (st := s_law_worth) l16 c16 k16
  have b16 := F16.binds (ps := ["_law_row", "_law_number"]) fun _ _ _ _ _ _ us hl => match us, hl with | [_, _], _ => rfl
  have m16 := PySem.W.mg_of X G a16
  have F17 := fun_mk (st := s_law_gap) l17 c17 k17
  have b17 := F17.binds (ps := ["_law_row", "_law_one", "_law_other"]) fun _ _ _ _ _ _ us hl => match us, hl with | [_, _, _], _ => rfl
  have m17 := PySem.W.mg_of X G a17
  have F18 := fun_mk (st := s_law_cells) l18 c18 k18
  have b18 := F18.binds (ps := ["_law_steps_here", "_law_drawn"]) fun _ _ _ _ _ _ us hl => match us, hl with | [_, _], _ => rfl
  have m18 := PySem.W.mg_of X G a18
  have F19 := fun_mk (st := s_law_columns) l19 c19 k19
  have b19 := F19.binds (ps := ["_law_steps_here", "_law_worths"]) fun _ _ _ _ _ _ us hl => match us, hl with | [_, _], _ => rfl
  have m19 := PySem.W.mg_of X G a19
  have F20 := fun_mk (st := s_law_breaks) l20 c20 k20
  have b20 := F20.binds (ps := ["_law_mask", "_law_rule"]) fun _ _ _ _ _ _ us hl => match us, hl with | [_, _], _ => rfl
  have m20 := PySem.W.mg_of X G a20
  have F21 := fun_mk (st := s_law_filling) l21 c21 k21
  have b21 := F21.binds (ps := ["_law_told", "_law_cells_here"]) fun _ _ _ _ _ _ us hl => match us, hl with | [_, _], _ => rfl
  have m21 := PySem.W.mg_of X G a21
  have F22 := fun_mk (st := s_law_broken) l22 c22 k22
  have b22 := F22.binds (ps := ["_law_steps_here", "_law_filling_here", "_law_rule"]) fun _ _ _ _ _ _ us hl => match us, hl with | [_, _, _], _ => rfl
  have m22 := PySem.W.mg_of X G a22
  have F23 := fun_mk (st := s_law_side) l23 c23 k23
  have b23 := F23.binds (ps := ["_law_number", "_law_width", "_law_single"]) fun _ _ _ _ _ _ us hl => match us, hl with | [_, _, _], _ => rfl
  have m23 := PySem.W.mg_of X G a23
  have F24 := fun_mk (st := s_law_drawn_rule) l24 c24 k24
  have b24 := F24.binds (ps := ["_law_script", "_law_steps_here"]) fun _ _ _ _ _ _ us hl => match us, hl with | [_, _], _ => rfl
  have m24 := PySem.W.mg_of X G a24
  have F25 := fun_mk (st := s_law_copy) l25 c25 k25
  have b25 := F25.binds (ps := ["_law_lists"]) fun _ _ _ _ _ _ us hl => match us, hl with | [_], _ => rfl
  have m25 := PySem.W.mg_of X G a25
  have F26 := fun_mk (st := s_law_sets) l26 c26 k26
  have b26 := F26.binds (ps := ["_law_steps_here", "_law_row"]) fun _ _ _ _ _ _ us hl => match us, hl with | [_, _], _ => rfl
  have m26 := PySem.W.mg_of X G a26
  have F27 := fun_mk (st := s_law) l27 c27 k27
  have m27 := PySem.W.mg_of X G a27
  have y_bool := PySem.W.mg_none_of X G z_bool
  have y_enumerate := PySem.W.mg_none_of X G z_enumerate
  have y_int := PySem.W.mg_none_of X G z_int
  have y_isinstance := PySem.W.mg_none_of X G z_isinstance
  have y_len := PySem.W.mg_none_of X G z_len
  have y_list := PySem.W.mg_none_of X G z_list
  have y_max := PySem.W.mg_none_of X G z_max
  have y_min := PySem.W.mg_none_of X G z_min
  have y_range := PySem.W.mg_none_of X G z_range
  have y_sum := PySem.W.mg_none_of X G z_sum
  have y_zip := PySem.W.mg_none_of X G z_zip
  refine ⟨PySem.W.fnOf "law" "law" (defArgs s_law) (defBody s_law) (defScope s_law) .none kV27 dc27 pm27 an27 cd27 ct27, fun s v => .of_eq rfl, fun base _ _ => ?_⟩
  have G13 := ok_law_cell (P := l.prog) (w := w) (mg := mg) (base := base) F13 y_len
  have G14 := ok_law_marks (P := l.prog) (w := w) (mg := mg) (base := base) F14 y_range
  have G15 := ok_law_steps (P := l.prog) (w := w) (mg := mg) (base := base) F15 G13 b13 k13 m13 G14 b14 k14 m14 y_range y_min
  have G23 := ok_law_side (P := l.prog) (w := w) (mg := mg) (base := base) F23
  have G24 := ok_law_drawn_rule (P := l.prog) (w := w) (mg := mg) (base := base) F24 G13 b13 k13 m13 G23 b23 k23 m23 y_sum y_len
  have G16 := ok_law_worth (P := l.prog) (w := w) (mg := mg) (base := base) F16 y_len y_min
  have G17 := ok_law_gap (P := l.prog) (w := w) (mg := mg) (base := base) F17 G16 b16 k16 m16 y_max y_min
  have G18 := ok_law_cells (P := l.prog) (w := w) (mg := mg) (base := base) F18 G17 b17 k17 m17 y_len y_range y_min
  have G26 := ok_law_sets (P := l.prog) (w := w) (mg := mg) (base := base) F26 y_range y_len
  have G20 := ok_law_breaks (P := l.prog) (w := w) (mg := mg) (base := base) F20
  have G25 := ok_law_copy (P := l.prog) (w := w) (mg := mg) (base := base) F25 y_list
  have G5 := ok_steps_of (P := l.prog) (w := w) (mg := mg) (base := base) F5 y_enumerate y_len
  have G8 := ok_lows_reaching (P := l.prog) (w := w) (mg := mg) (base := base) F8 y_zip y_min y_max
  have G2 := ok_within (P := l.prog) (w := w) (mg := mg) (base := base) F2
  have G3 := ok_breaks (P := l.prog) (w := w) (mg := mg) (base := base) F3 G2 b2 k2 m2
  have G1 := ok_mask_of (P := l.prog) (w := w) (mg := mg) (base := base) F1
  have G4 := ok_spread (P := l.prog) (w := w) (mg := mg) (base := base) F4 G1 b1 k1 m1 y_zip y_enumerate
  have G6 := ok_lows (P := l.prog) (w := w) (mg := mg) (base := base) F6
  have G9 := ok_spoiling (P := l.prog) (w := w) (mg := mg) (base := base) F9 G5 b5 k5 m5 G8 b8 k8 m8 G3 b3 k3 m3 G4 b4 k4 m4 G6 b6 k6 m6 y_enumerate
  have G7 := ok_highs (P := l.prog) (w := w) (mg := mg) (base := base) F7
  have G11 := ok_keeping (P := l.prog) (w := w) (mg := mg) (base := base) F11 G7 b7 k7 m7 G6 b6 k6 m6 G3 b3 k3 m3 G4 b4 k4 m4
  have G12 := ok_mending (P := l.prog) (w := w) (mg := mg) (base := base) F12 G11 b11 k11 m11
  have G10 := ok_sure (P := l.prog) (w := w) (mg := mg) (base := base) F10 G9 b9 k9 m9
  have G19 := ok_law_columns (P := l.prog) (w := w) (mg := mg) (base := base) F19 y_range y_len
  have G22 := ok_law_broken (P := l.prog) (w := w) (mg := mg) (base := base) F22 G20 b20 k20 m20 G19 b19 k19 m19
  have G21 := ok_law_filling (P := l.prog) (w := w) (mg := mg) (base := base) F21 y_len y_isinstance y_list y_range y_bool y_int
  have G27 := ok_law (P := l.prog) (w := w) (mg := mg) (base := base) F27 G13 b13 k13 m13 G15 b15 k15 m15 G24 b24 k24 m24 G18 b18 k18 m18 G26 b26 k26 m26 G20 b20 k20 m20 G25 b25 k25 m25 G9 b9 k9 m9 G12 b12 k12 m12 G10 b10 k10 m10 G22 b22 k22 m22 G21 b21 k21 m21 y_isinstance y_bool
  exact G27
theorem walk {l : PySem.W.OpenLaw} {q : Program} {loose : List Str} {XP : (Str → Option Value) → Heap → Prop} {YP : World → Heap → Prop} {d : DefRec} {K : Params → PySem.W.Frag} (hn : l.most = some 63) (hdf : d.params.defaults = [])
    (hY : ∀ (w : World) (h : Heap), YP w h → (K w.params).In h)
    (F : ∀ (w : World) (mg : Str → Option Value) (fa : Addr) (h : Heap), (K w.params).In h → h.Ns mainGlobals mg → mg d.name = some (.ref fa) →
      ∃ fd : FuncData, (∀ (s : Shared) (u : Value), BindsTo s fd ⟨[u], []⟩ [("_law_script", u)]) ∧ ∀ base : Heap, (K w.params).In base → base.Ns mainGlobals mg → FnOk l.prog w (K w.params) mg base CX0 5 fa fd ["_law_script"] (spLaw (K w.params))) :
    PySem.W.WalkO q loose XP YP l.row.toRowW d [] (fun f vs => PySem.call f vs) :=
  L2.walk_of (n := 63) (k := 5) (x := "_law_script") (CX := fun _ => CX0) (sp := fun w => spLaw (K w.params)) hn (by decide) hdf ⟨rfl, by decide, by decide⟩ hY F (fun _ _ a ns hl _ hS => ⟨a, ns, rfl, hS, hl, fun _ => rfl⟩) fun _ _ _ _ _ h => h.elim
end My
open PySem PySem.W PyProof.Rows
set_option maxRecDepth 100000 in
set_option maxHeartbeats 0 in
theorem PySem.Challenge.cw_traitlattice_k33_whole_gaps_holds : PySem.Challenge.rw_traitlattice_k33_whole_gaps.Holds := by
  w_on; o_law; k_head; (case hw => w_witness2)
  k_fill
  refine My.walk (l := PySem.Challenge.rw_traitlattice_k33_whole_gaps) rfl rfl (fun w h Y => PySem.W.kIn_of Y) ?F
  case F =>
    intro w mg fa h KX G hmg
    refine' My.all_mk KX G hmg ?a1 ?l1 ?c1 ?k1 ?a2 ?l2 ?c2 ?k2 ?a3 ?l3 ?c3 ?k3 ?a4 ?l4 ?c4 ?k4 ?a5 ?l5 ?c5 ?k5 ?a6 ?l6 ?c6 ?k6 ?a7 ?l7 ?c7 ?k7 ?a8 ?l8 ?c8 ?k8 ?a9 ?l9 ?c9 ?k9 ?a10 ?l10 ?c10 ?k10 ?a11 ?l11 ?c11 ?k11 ?a12 ?l12 ?c12 ?k12 ?a13 ?l13 ?c13 ?k13 ?a14 ?l14 ?c14 ?k14 ?a15 ?l15 ?c15 ?k15 ?a16 ?l16 ?c16 ?k16 ?a17 ?l17 ?c17 ?k17 ?a18 ?l18 ?c18 ?k18 ?a19 ?l19 ?c19 ?k19 ?a20 ?l20 ?c20 ?k20 ?a21 ?l21 ?c21 ?k21 ?a22 ?l22 ?c22 ?k22 ?a23 ?l23 ?c23 ?k23 ?a24 ?l24 ?c24 ?k24 ?a25 ?l25 ?c25 ?k25 ?a26 ?l26 ?c26 ?k26 ?a27 ?l27 ?c27 ?k27 ?z_bool ?z_enumerate ?z_int ?z_isinstance ?z_len ?z_list ?z_max ?z_min ?z_range ?z_sum ?z_zip
    (case a1 => k_is)
    (case l1 => k_is)
    (case c1 => k_is)
    (case k1 => k_is)
    (case a2 => k_is)
    (case l2 => k_is)
    (case c2 => k_is)
    (case k2 => k_is)
    (case a3 => k_is)
    (case l3 => k_is)
    (case c3 => k_is)
    (case k3 => k_is)
    (case a4 => k_is)
    (case l4 => k_is)
    (case c4 => k_is)
    (case k4 => k_is)
    (case a5 => k_is)
    (case l5 => k_is)
    (case c5 => k_is)
    (case k5 => k_is)
    (case a6 => k_is)
    (case l6 => k_is)
    (case c6 => k_is)
    (case k6 => k_is)
    (case a7 => k_is)
    (case l7 => k_is)
    (case c7 => k_is)
    (case k7 => k_is)
    (case a8 => k_is)
    (case l8 => k_is)
    (case c8 => k_is)
    (case k8 => k_is)
    (case a9 => k_is)
    (case l9 => k_is)
    (case c9 => k_is)
    (case k9 => k_is)
    (case a10 => k_is)
    (case l10 => k_is)
    (case c10 => k_is)
    (case k10 => k_is)
    (case a11 => k_is)
    (case l11 => k_is)
    (case c11 => k_is)
    (case k11 => k_is)
    (case a12 => k_is)
    (case l12 => k_is)
    (case c12 => k_is)
    (case k12 => k_is)
    (case a13 => k_is)
    (case l13 => k_is)
    (case c13 => k_is)
    (case k13 => k_is)
    (case a14 => k_is)
    (case l14 => k_is)
    (case c14 => k_is)
    (case k14 => k_is)
    (case a15 => k_is)
    (case l15 => k_is)
    (case c15 => k_is)
    (case k15 => k_is)
    (case a16 => k_is)
    (case l16 => k_is)
    (case c16 => k_is)
    (case k16 => k_is)
    (case a17 => k_is)
    (case l17 => k_is)
    (case c17 => k_is)
    (case k17 => k_is)
    (case a18 => k_is)
    (case l18 => k_is)
    (case c18 => k_is)
    (case k18 => k_is)
    (case a19 => k_is)
    (case l19 => k_is)
    (case c19 => k_is)
    (case k19 => k_is)
    (case a20 => k_is)
    (case l20 => k_is)
    (case c20 => k_is)
    (case k20 => k_is)
    (case a21 => k_is)
    (case l21 => k_is)
    (case c21 => k_is)
    (case k21 => k_is)
    (case a22 => k_is)
    (case l22 => k_is)
    (case c22 => k_is)
    (case k22 => k_is)
    (case a23 => k_is)
    (case l23 => k_is)
    (case c23 => k_is)
    (case k23 => k_is)
    (case a24 => k_is)
    (case l24 => k_is)
    (case c24 => k_is)
    (case k24 => k_is)
    (case a25 => k_is)
    (case l25 => k_is)
    (case c25 => k_is)
    (case k25 => k_is)
    (case a26 => k_is)
    (case l26 => k_is)
    (case c26 => k_is)
    (case k26 => k_is)
    (case a27 => k_is)
    (case l27 => k_is)
    (case c27 => k_is)
    (case k27 => k_is)
    (case z_bool => k_is)
    (case z_enumerate => k_is)
    (case z_int => k_is)
    (case z_isinstance => k_is)
    (case z_len => k_is)
    (case z_list => k_is)
    (case z_max => k_is)
    (case z_min => k_is)
    (case z_range => k_is)
    (case z_sum => k_is)
    (case z_zip => k_is)
