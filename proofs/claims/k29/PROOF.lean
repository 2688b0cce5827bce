import PyProof.Rows.All
import Wide.All
import OpenK.AllK
import Wide.FinOn
import Lean
import PyProof.EqAt
import PyProof.EqKinds
import PyProof.TupleCall
import PySem.Challenge.RW_traitlattice_k29_deeds_refused
set_option Elab.async false
set_option bootstrap.genMatcherCode false
set_option linter.all false
set_option maxRecDepth 100000
namespace L2
open PySem PySem.Spec PyProof.Rows
noncomputable abbrev Key := Sum Int Str
noncomputable def keyIs : Key → Value → Bool
  | .inl k, v => Value.isInt k v
  | .inr x, v => Value.isStrOf x v
noncomputable def keyH (w : World) : Key → Int
  | .inl k => hashInt k
  | .inr x => hashStr w x
theorem keyIs_shape : ∀ {k : Key} {v : Value}, keyIs k v = true → (∃ i t, k = Sum.inl i ∧ v = Value.int i t) ∨ (∃ x t, k = Sum.inr x ∧ v = Value.str x t)
  | .inl i, v, h => by
    obtain ⟨t, e⟩ := Value.isInt_shape (k := i) (v := v) h
    exact .inl ⟨i, t, rfl, e⟩
  | .inr x, v, h => by
    obtain ⟨t, e⟩ := Value.isStrOf_shape (x := x) (v := v) h
    exact .inr ⟨x, t, rfl, e⟩
theorem keyIs_int (i : Int) (t : Tok) : keyIs (.inl i) (.int i t) = true := by simp [keyIs, Value.isInt]
theorem keyIs_str (x : Str) (t : Tok) : keyIs (.inr x) (.str x t) = true := by simp [keyIs, Value.isStrOf]
theorem key_ll (a b : Int) : decide ((Sum.inl a : Key) = Sum.inl b) = (a == b) := by
  by_cases e : a = b
  · subst e; simp
  · have h : ¬ (Sum.inl a : Key) = Sum.inl b := fun q => e (Sum.inl.inj q)
    rw [decide_eq_false h]
    exact (beq_eq_false_iff_ne.mpr e).symm
theorem key_rr (a b : Str) : decide ((Sum.inr a : Key) = Sum.inr b) = decide (a = b) := by
  by_cases e : a = b
  · subst e; simp
  · have h : ¬ (Sum.inr a : Key) = Sum.inr b := fun q => e (Sum.inr.inj q)
    rw [decide_eq_false h, decide_eq_false e]
theorem key_lr (a : Int) (b : Str) : decide ((Sum.inl a : Key) = Sum.inr b) = false := decide_eq_false (fun q => nomatch q)
theorem key_rl (a : Str) (b : Int) : decide ((Sum.inr a : Key) = Sum.inl b) = false := decide_eq_false (fun q => nomatch q)
noncomputable def mixKind (prog : Program) (w : World) : PySem.KeyKind prog w Key where
  is := keyIs
  hash := keyH w
  inj := fun v a b ha hb => by
    rcases keyIs_shape ha with ⟨i, t, rfl, rfl⟩ | ⟨x, t, rfl, rfl⟩
    · rcases keyIs_shape hb with ⟨j, u, rfl, e⟩ | ⟨y, u, rfl, e⟩
      · injection e with e1 _; rw [e1]
      · exact nomatch e
    · rcases keyIs_shape hb with ⟨j, u, rfl, e⟩ | ⟨y, u, rfl, e⟩
      · exact nomatch e
      · injection e with e1 _; rw [e1]
  byValue := fun k v h => by
    rcases keyIs_shape h with ⟨i, t, rfl, rfl⟩ | ⟨x, t, rfl, rfl⟩ <;> rfl
  pyHash := fun hv h => by
    rcases keyIs_shape hv with ⟨i, t, rfl, rfl⟩ | ⟨x, t, rfl, rfl⟩
    · exact wpAny_pyHash_int h
    · exact wpAny_pyHash_str h
  eqBool := fun hu hv h => by
    rcases keyIs_shape hu with ⟨i, t, rfl, rfl⟩ | ⟨x, t, rfl, rfl⟩
    · rcases keyIs_shape hv with ⟨j, u, rfl, rfl⟩ | ⟨y, u, rfl, rfl⟩
      · rw [key_ll] at h; exact wpAny_eqBool_int h
      · rw [key_lr] at h; exact SeqAt.EqAt.int_str i t y u _ _ _ _ h
    · rcases keyIs_shape hv with ⟨j, u, rfl, rfl⟩ | ⟨y, u, rfl, rfl⟩
      · rw [key_rl] at h; exact SeqAt.EqAt.str_int x t j u _ _ _ _ h
      · rw [key_rr] at h; exact wpAny_eqBool_str h
  «strs» := fun k x t v h => by
    rcases keyIs_shape h with ⟨i, u, rfl, e⟩ | ⟨y, u, rfl, e⟩
    · exact nomatch e
    · injection e with e1 _
      subst e1
      cases v <;> rfl
theorem mixKind_int (prog : Program) (w : World) (i : Int) (t : Tok) : (mixKind prog w).is (.inl i) (.int i t) = true := keyIs_int i t
theorem mixKind_str (prog : Program) (w : World) (x : Str) (t : Tok) : (mixKind prog w).is (.inr x) (.str x t) = true := keyIs_str x t
end L2
namespace L2
open PySem PySem.Spec PyProof.Rows
inductive V where
  | non | bl (b : Bool) | int (i : Int) | str (x : Str) | byt (b : Array UInt8) | flt (b : UInt64) | ref (a : Addr) | ty (n : String)
  deriving DecidableEq
noncomputable def RelV : V → Value → Prop
  | .non, u => u = Value.none
  | .bl b, u => u = Value.bool b
  | .int i, u => ∃ t, u = Value.int i t
  | .str x, u => ∃ t, u = Value.str x t
  | .byt b, u => ∃ t, u = Value.bytes b t
  | .flt b, u => ∃ t, u = Value.float b t
  | .ref a, u => u = Value.ref a
  | .ty n, u => u = Value.type n
noncomputable abbrev Vals : List V → List Value → Prop := Paired RelV
theorem Vals.length {xs : List V} {us : List Value} (r : Vals xs us) : xs.length = us.length := Paired.length r
theorem Vals.get : ∀ {xs : List V} {us : List Value} {i : Nat} {x : V}, Vals xs us → xs[i]? = some x → ∃ u, us[i]? = some u ∧ RelV x u
  | _, _, _, _, .nil, e => by simp at e
  | _, _, 0, _, .cons r _, e => by simp at e; subst e; exact ⟨_, rfl, r⟩
  | _, _, i + 1, x, .cons _ t, e => by
    obtain ⟨u, h1, h2⟩ := Vals.get (i := i) (x := x) t (by simpa using e)
    exact ⟨u, by simpa using h1, h2⟩
theorem Vals.set {x : V} {u : Value} (r : RelV x u) : ∀ {xs : List V} {us : List Value} (i : Nat), Vals xs us → Vals (xs.set i x) (us.set i u)
  | _, _, _, .nil => .nil
  | _, _, 0, .cons _ t => .cons r t
  | _, _, i + 1, .cons q t => .cons q (Vals.set r i t)
theorem Vals.append : ∀ {xs ys : List V} {us ws : List Value}, Vals xs us → Vals ys ws → Vals (xs ++ ys) (us ++ ws)
  | _, _, _, _, .nil, s => s
  | _, _, _, _, .cons r t, s => .cons r (Vals.append t s)
theorem Vals.take : ∀ {xs : List V} {us : List Value} (n : Nat), Vals xs us → Vals (xs.take n) (us.take n)
  | _, _, 0, _ => .nil
  | _, _, _ + 1, .nil => .nil
  | _, _, n + 1, .cons r t => .cons r (Vals.take n t)
theorem Vals.drop : ∀ {xs : List V} {us : List Value} (n : Nat), Vals xs us → Vals (xs.drop n) (us.drop n)
  | _, _, 0, r => r
  | _, _, _ + 1, .nil => .nil
  | _, _, n + 1, .cons _ t => Vals.drop n t
theorem Vals.none_of : ∀ {xs : List V} {us : List Value} {i : Nat}, Vals xs us → xs[i]? = none → us[i]? = none := fun {xs us i} r e => by
  have h1 := r.length
  have h2 : xs.length ≤ i := List.getElem?_eq_none_iff.mp e
  exact List.getElem?_eq_none_iff.mpr (by omega)
noncomputable def RelO : Option V → Option Value → Prop
  | some v, some u => RelV v u
  | none, none => True
  | _, _ => False
noncomputable def KV {κ : Type} : List (κ × V) → List (κ × Value) → Prop := Paired fun (p : κ × V) (q : κ × Value) => p.1 = q.1 ∧ RelV p.2 q.2
noncomputable def kV : Key → V
  | .inl i => .int i
  | .inr x => .str x
inductive HO where
  | lst (xs : List V)
  | tup (xs : List V)
  | dK (kvs : List (Key × V)) | dT (kvs : List (List Key × V))
  | set (S : Int → Bool) (n : Nat)
  | ins (C dx : Addr) (fs : List (Str × V))
  | own (x : Addr)
  | xd (fs : List (Str × V))
  | met (f x : Addr)
  | rng (lo hi : Int)
  | frz (o : Obj) (u : HO)
  | tbl (ps : Array Value)
  | ext (φ : Heap → Prop)
noncomputable abbrev Hp := Addr → Option HO
noncomputable def upd (H : Hp) (a : Addr) (o : HO) : Hp := fun b => if b = a then some o else H b
theorem upd_same {H : Hp} {a : Addr} {o : HO} : upd H a o a = some o := by unfold upd; rw [if_pos rfl]
theorem upd_ne {H : Hp} {a b : Addr} {o : HO} (h : b ≠ a) : upd H a o b = H b := by unfold upd; rw [if_neg h]
theorem upd_upd {H : Hp} {a : Addr} {o u : HO} : upd (upd H a o) a u = upd H a u := by
  funext b; unfold upd; split <;> rfl
theorem ne_of {H : Hp} {a b : Addr} {o u : HO} (h : H a = some o) (h' : H b = some u) (d : o ≠ u) : a ≠ b := by
  intro e; subst e; rw [h] at h'; exact d (Option.some.inj h')
theorem ne_of_none {H : Hp} {a b : Addr} {o : HO} (h : H a = some o) (h' : H b = none) : a ≠ b := by
  intro e; subst e; rw [h] at h'; cases h'
section
variable (P : Program) (w : World)
noncomputable def ObjOk (H : Hp) (h : Heap) (a : Addr) : HO → Prop
  | .lst xs => xs.length ≤ sizeLine ∧ ∃ (its : List Value) (n : Nat), Vals xs its ∧ h.get? a = some { cls := .type "list", data := .seq its.toArray n }
  | .tup xs => xs.length ≤ sizeLine ∧ ∃ its : List Value, Vals xs its ∧ IsTup h a its.toArray
  | .dK kvs => kvs.length ≤ sizeLine ∧ (a == sysModules) = false ∧ ∃ vs, KV kvs vs ∧ h.DictOf (mixKind P w) a vs
  | .dT kvs => kvs.length ≤ sizeLine ∧ (a == sysModules) = false ∧ ∃ xs : List (List Key × Addr × Value),
      Paired (fun (p : List Key × V) (q : List Key × Addr × Value) => p.1 = q.1 ∧ H q.2.1 = some (.tup (p.1.map kV)) ∧ RelV p.2 q.2.2) kvs xs ∧
      ∃ o es ep, h.get? a = some o ∧ o.ExactDict ∧ o.data = .dict es ep ∧ es.toList = xs.map (entryOfKey (tupleKind (mixKind P w))) ∧ (xs.map (·.1)).Nodup
  | .set S n => h.SetOf (intKind P w) a S n
  | .ins C dx fs => H dx = some (.own a) ∧ fs.length ≤ 1000 ∧ dx ≠ a ∧ h.get? a = some (PySem.W.instObj C dx) ∧
      ∃ mA, h.Ns1 dx mA ∧ (∀ f, RelO (fs.lookup f) (mA f)) ∧ PySem.Within mA (fs.map (·.1))
  | .own _ => ∃ o, h.get? a = some o
  | .xd fs => ∃ mA, h.Ns1 a mA ∧ ∀ f, RelO (fs.lookup f) (mA f)
  | .rng lo hi => ∃ t u v, h.get? a = some { cls := .type "range", data := .fields #[.int lo t, .int hi u, .int 1 v] }
  | .frz o u => h.get? a = some o ∧ ObjOk H h a u
  | .tbl ps => h.get? a = some { cls := .none, data := .fields ps }
  | .met f x => h.get? a = some (PySem.W.methodObj (.ref f) (.ref x))
  | .ext φ => φ h ∧ (∃ o, h.get? a = some o) ∧ ∀ h1 h2 : Heap, φ h1 → (∀ o, h1.get? a = some o → h2.get? a = some o) → φ h2
noncomputable def HOk (H : Hp) (h : Heap) : Prop := ∀ a o, H a = some o → ObjOk P w H h a o
end
section
variable {P : Program} {w : World} {H H' : Hp} {h h' : Heap} {a : Addr} {o : HO}
theorem ObjOk.lt (x : ObjOk P w H h a o) : a < h.objs.size := by
  cases o with
  | lst xs => obtain ⟨_, _, _, _, e⟩ := x; exact Heap.lt_size e
  | tup xs => obtain ⟨_, _, _, p⟩ := x; exact p.lt
  | dK kvs => obtain ⟨_, _, _, _, o, _, _, e, _⟩ := x; exact Heap.lt_size e
  | dT kvs => obtain ⟨_, _, _, _, o, _, _, e, _⟩ := x; exact Heap.lt_size e
  | set S n => obtain ⟨o, _, _, _, e, _⟩ := x; exact Heap.lt_size e
  | ins C dx fs => obtain ⟨_, _, _, e, _⟩ := x; exact Heap.lt_size e
  | own y => obtain ⟨_, e⟩ := x; exact Heap.lt_size e
  | xd fs => obtain ⟨_, ⟨_, _, _, e, _⟩, _⟩ := x; exact Heap.lt_size e
  | rng lo hi => obtain ⟨_, _, _, e⟩ := x; exact Heap.lt_size e
  | frz ob u => obtain ⟨e, _⟩ := x; exact Heap.lt_size e
  | tbl ps => exact Heap.lt_size (show h.get? a = some _ from x)
  | met f y => exact Heap.lt_size (show h.get? a = some _ from x)
  | ext φ => obtain ⟨_, ⟨_, e⟩, _⟩ := x; exact Heap.lt_size e
theorem Paired.mapP {α β : Type} {F G : α → β → Prop} : ∀ {l₁ : List α} {l₂ : List β}, Paired F l₁ l₂ → (∀ a b, F a b → G a b) → Paired G l₁ l₂
  | _, _, .nil, _ => .nil
  | _, _, .cons r t, f => .cons (f _ _ r) (Paired.mapP t f)
theorem ObjOk.stay (x : ObjOk P w H h a o) (k : ∀ b u, (b = a ∨ H b = some (.own a)) → h.get? b = some u → h'.get? b = some u)
    (ho : ∀ b, H b = some (.own a) → H' b = some (.own a)) (ht : ∀ b xs, H b = some (.tup xs) → H' b = some (.tup xs)) : ObjOk P w H' h' a o := by
  induction o with
  | lst xs => obtain ⟨z, its, n, r, e⟩ := x; exact ⟨z, its, n, r, k _ _ (.inl rfl) e⟩
  | tup xs => obtain ⟨z, its, r, ob, e, c⟩ := x; exact ⟨z, its, r, ob, k _ _ (.inl rfl) e, c⟩
  | dK kvs => obtain ⟨z, y, vs, r, ob, es, ep, e, c⟩ := x; exact ⟨z, y, vs, r, ob, es, ep, k _ _ (.inl rfl) e, c⟩
  | dT kvs =>
    obtain ⟨z, y, xs, r, ob, es, ep, e, c⟩ := x
    exact ⟨z, y, xs, Paired.mapP r fun p q z => ⟨z.1, ht _ _ z.2.1, z.2.2⟩, ob, es, ep, k _ _ (.inl rfl) e, c⟩
  | set S n => obtain ⟨ob, es, ep, t, e, c⟩ := x; exact ⟨ob, es, ep, t, k _ _ (.inl rfl) e, c⟩
  | ins C dx fs =>
    obtain ⟨d, z, ne, e, mA, ⟨od, es, ep, e2, c⟩, r⟩ := x
    exact ⟨ho _ d, z, ne, k _ _ (.inl rfl) e, mA, ⟨od, es, ep, k _ _ (.inr d) e2, c⟩, r⟩
  | own y => obtain ⟨ob, e⟩ := x; exact ⟨ob, k _ _ (.inl rfl) e⟩
  | xd fs => obtain ⟨mA, ⟨od, es, ep, e, c⟩, r⟩ := x; exact ⟨mA, ⟨od, es, ep, k _ _ (.inl rfl) e, c⟩, r⟩
  | rng lo hi => obtain ⟨t, u, v, e⟩ := x; exact ⟨t, u, v, k _ _ (.inl rfl) e⟩
  | frz ob u ih => obtain ⟨e, q⟩ := x; exact ⟨k _ _ (.inl rfl) e, ih q⟩
  | tbl ps =>
    have e : h.get? a = some { cls := .none, data := .fields ps } := x
    show h'.get? a = some { cls := .none, data := .fields ps }
    exact k a _ (.inl rfl) e
  | met f y =>
    have e : h.get? a = some (PySem.W.methodObj (.ref f) (.ref y)) := x
    show h'.get? a = some (PySem.W.methodObj (.ref f) (.ref y))
    exact k a _ (.inl rfl) e
  | ext φ => obtain ⟨p, ⟨o, e⟩, st⟩ := x; exact ⟨st _ _ p fun o q => k _ _ (.inl rfl) q, ⟨o, k _ _ (.inl rfl) e⟩, st⟩
theorem HOk.lt (x : HOk P w H h) (e : H a = some o) : a < h.objs.size := (x a o e).lt
theorem HOk.fresh (x : HOk P w H h) (e : h.objs.size ≤ a) : H a = none := by
  cases q : H a with
  | none => rfl
  | some u => exact absurd (Nat.lt_of_lt_of_le (x.lt q) e) (Nat.lt_irrefl _)
theorem HOk.kept (x : HOk P w H h) (k : ∀ b u, h.get? b = some u → h'.get? b = some u) : HOk P w H h' := fun a o e =>
  (x a o e).stay (fun b u _ q => k b u q) (fun _ q => q) fun _ _ q => q
theorem HOk.laid (x : HOk P w H h) (k : ∀ b u, h.get? b = some u → h'.get? b = some u) (hp : h.objs.size ≤ a) (new : ObjOk P w (upd H a o) h' a o) : HOk P w (upd H a o) h' := fun b u e => by
  have hn := x.fresh hp
  by_cases hb : b = a
  · subst hb; rw [upd_same] at e; cases e; exact new
  · rw [upd_ne hb] at e
    exact (x b u e).stay (fun c v _ q => k c v q) (fun c q => by rw [upd_ne (ne_of_none q hn)]; exact q) fun c xs q => by rw [upd_ne (ne_of_none q hn)]; exact q
end
noncomputable def Rd (H : Hp) (a : Addr) (u : HO) : Prop := H a = some u ∨ ∃ o, H a = some (.frz o u)
theorem Rd.of {H : Hp} {a : Addr} {u : HO} (h : H a = some u) : Rd H a u := .inl h
theorem Rd.ok {P : Program} {w : World} {H : Hp} {h : Heap} {a : Addr} {u : HO} (r : Rd H a u) (x : HOk P w H h) : ObjOk P w H h a u := by
  rcases r with r | ⟨o, r⟩
  · exact x a u r
  · obtain ⟨_, q⟩ := x a _ r
    exact q
noncomputable def Mut : Option HO → Prop
  | some (.lst _) => True
  | some (.dK _) => True
  | some (.dT _) => True
  | some (.set _ _) => True
  | some (.ins _ _ _) => True
  | some (.ext _) => True
  | _ => False
section
variable {P : Program} {w : World} {H : Hp} {h h' : Heap} {x e : Addr} {o' : HO}
theorem HOk.write (ok : HOk P w H h) (mu : Mut (H x)) (he : e = x ∨ H e = some (.own x)) (k : ∀ b u, b ≠ e → h.get? b = some u → h'.get? b = some u) (heo : ∃ u, h'.get? e = some u)
    (new : ObjOk P w (upd H x o') h' x o') : HOk P w (upd H x o') h' := fun b u q => by
  have nown : ∀ c y, H c = some (.own y) → c ≠ x := fun c y r z => by subst z; rw [r] at mu; exact mu
  have ntup : ∀ c xs, H c = some (.tup xs) → c ≠ x := fun c xs r z => by subst z; rw [r] at mu; exact mu
  by_cases hb : b = x
  · subst hb; rw [upd_same] at q; cases q; exact new
  · rw [upd_ne hb] at q
    by_cases hbe : b = e
    · have q' : H b = some (.own x) := by
        rcases he with z | z
        · exact absurd (hbe.trans z) hb
        · rw [hbe]; exact z
      rw [q] at q'; cases q'
      obtain ⟨v, hv⟩ := heo
      exact ⟨v, by rw [hbe]; exact hv⟩
    · refine (ok b u q).stay (fun c v hc r => k c v ?_ r) (fun c r => by rw [upd_ne (nown c b r)]; exact r) fun c xs r => by rw [upd_ne (ntup c xs r)]; exact r
      rcases hc with rfl | hc
      · exact hbe
      · rintro rfl
        rcases he with z | z
        · exact nown c b hc z
        · rw [hc] at z; cases z; exact hb rfl
end
structure Un (fs ex : List Addr) (H H' : Hp) (h h' : Heap) : Prop where
  keep : ∀ b o, h.get? b = some o → H b = none → b ∉ fs → b ∉ ex → h'.get? b = some o
  slot : ∀ b o, h.get? b = some o → H b = none → b ∈ fs → b ∉ ex → ∃ sl, h'.get? b = some { o with slots := sl }
  free : ∀ b o, h.get? b = some o → H b = none → b ∉ ex → H' b = none
  there : ∀ b o, h.get? b = some o → b ∉ ex → ∃ o', h'.get? b = some o'
  tups : ∀ b xs, H b = some (.tup xs) → H' b = some (.tup xs)
  frzs : ∀ b o u, H b = some (.frz o u) → H' b = some (.frz o u)
  tbls : ∀ b ps, H b = some (.tbl ps) → ∃ more, H' b = some (.tbl (ps ++ more))
section
variable {fs fs' ex ex' : List Addr} {H H1 H2 : Hp} {h h1 h2 h' : Heap} {a x e : Addr} {o : HO}
theorem Un.any (u : Un fs ex H H1 h h1) {b : Addr} {ob : Obj} (q : h.get? b = some ob) (n : H b = none) (hx : b ∉ ex) : ∃ sl, h1.get? b = some { ob with slots := sl } := by
  by_cases hb : b ∈ fs
  · exact u.slot b ob q n hb hx
  · exact ⟨ob.slots, u.keep b ob q n hb hx⟩
theorem Un.trans (a : Un fs ex H H1 h h1) (b : Un fs ex H1 H2 h1 h2) : Un fs ex H H2 h h2 where
  keep := fun c ob q n hc hx => b.keep c ob (a.keep c ob q n hc hx) (a.free c ob q n hx) hc hx
  slot := fun c ob q n hc hx => by
    obtain ⟨sl, e1⟩ := a.slot c ob q n hc hx
    obtain ⟨sl', e2⟩ := b.slot c _ e1 (a.free c ob q n hx) hc hx
    exact ⟨sl', e2⟩
  free := fun c ob q n hx => by
    obtain ⟨o', e1⟩ := a.there c ob q hx
    exact b.free c o' e1 (a.free c ob q n hx) hx
  there := fun c ob q hx => by
    obtain ⟨o', e1⟩ := a.there c ob q hx
    exact b.there c o' e1 hx
  tups := fun c xs q => b.tups c xs (a.tups c xs q)
  frzs := fun c ob xs q => b.frzs c ob xs (a.frzs c ob xs q)
  tbls := fun c ps q => by
    obtain ⟨m1, e1⟩ := a.tbls c ps q
    obtain ⟨m2, e2⟩ := b.tbls c _ e1
    exact ⟨m1 ++ m2, by rw [e2, Array.append_assoc]⟩
theorem Un.kept (k : ∀ b u, h.get? b = some u → h'.get? b = some u) : Un fs ex H H h h' :=
  ⟨fun b ob q _ _ _ => k b ob q, fun b ob q _ _ _ => ⟨ob.slots, k b ob q⟩, fun _ _ _ n _ => n, fun b ob q _ => ⟨ob, k b ob q⟩, fun _ _ q => q, fun _ _ _ q => q, fun _ ps q => ⟨#[], by rw [q]; simp⟩⟩
theorem Un.refl : Un fs ex H H h h := Un.kept fun _ _ q => q
theorem Un.laid (k : ∀ b u, h.get? b = some u → h'.get? b = some u) (hp : h.objs.size ≤ a) (hn : H a = none) : Un fs ex H (upd H a o) h h' where
  keep := fun b u q _ _ _ => k b u q
  slot := fun b u q _ _ _ => ⟨u.slots, k b u q⟩
  free := fun b u q n _ => by rw [upd_ne (Nat.ne_of_lt (Nat.lt_of_lt_of_le (Heap.lt_size q) hp))]; exact n
  there := fun b u q _ => ⟨u, k b u q⟩
  tups := fun b xs q => by rw [upd_ne (ne_of_none q hn)]; exact q
  frzs := fun b u xs q => by rw [upd_ne (ne_of_none q hn)]; exact q
  tbls := fun b ps q => ⟨#[], by rw [upd_ne (ne_of_none q hn), q]; simp⟩
theorem Un.write (mu : Mut (H x)) (he : e = x ∨ H e = some (.own x)) (k : ∀ b u, b ≠ e → h.get? b = some u → h'.get? b = some u) (heo : ∃ u, h'.get? e = some u) : Un fs ex H (upd H x o) h h' := by
  have hx : ∀ b, H b = none → b ≠ x := fun b n z => by subst z; rw [n] at mu; exact mu
  have hb : ∀ b, H b = none → b ≠ e := fun b n z => by
    subst z
    rcases he with r | r
    · exact hx b n r
    · rw [n] at r; cases r
  have hm : ∀ b u, H b = some u → ¬ Mut (some u) → b ≠ x := fun b u q nm z => by subst z; rw [q] at mu; exact nm mu
  refine ⟨fun b u q n _ _ => k b u (hb b n) q, fun b u q n _ _ => ⟨u.slots, k b u (hb b n) q⟩, fun b u q n _ => by rw [upd_ne (hx b n)]; exact n, fun b u q _ => ?_,
    fun b xs q => by rw [upd_ne (hm b _ q fun z => z)]; exact q, fun b u xs q => by rw [upd_ne (hm b _ q fun z => z)]; exact q, fun b ps q => ⟨#[], by rw [upd_ne (hm b _ q fun z => z), q]; simp⟩⟩
  by_cases hbe : b = e
  · subst hbe; exact heo
  · exact ⟨u, k b u hbe q⟩
theorem Un.mono (u : Un fs ex H H1 h h1) (hs : ∀ b ∈ fs, b ∈ fs') (hx : ∀ b ∈ ex, b ∈ ex') : Un fs' ex' H H1 h h1 :=
  ⟨fun b ob q n hb he => u.keep b ob q n (fun z => hb (hs b z)) fun z => he (hx b z), fun _ _ q n _ he => u.any q n fun z => he (hx _ z), fun b ob q n he => u.free b ob q n fun z => he (hx b z), fun b ob q he => u.there b ob q fun z => he (hx b z), u.tups, u.frzs, u.tbls⟩
end
noncomputable def trk (h : Heap) (H : Hp) : List Addr := (List.range h.objs.size).filter fun a => (H a).isSome
noncomputable def hidT (h : Heap) (H : Hp) : Heap := PySem.W.hideAll h (trk h H)
theorem hidT_size (h : Heap) (H : Hp) : (hidT h H).objs.size = h.objs.size := PySem.W.hideAll_size _ _
theorem hidT_get {h : Heap} {H : Hp} {b : Addr} {o : Obj} (e : h.get? b = some o) (n : H b = none) : (hidT h H).get? b = some o :=
  PySem.W.hideAll_get _ e fun hm => by
    have q : (H b).isSome = true := (List.mem_filter.mp hm).2
    rw [n] at q; simp at q
theorem of_hidT {h : Heap} {H : Hp} {b : Addr} {o : Obj} (e : (hidT h H).get? b = some o) : h.get? b = some o ∧ H b = none := by
  have e' : h.get? b = some o := PySem.W.of_hideAll (trk h H) e
  refine ⟨e', ?_⟩
  cases q : H b with
  | none => rfl
  | some x =>
    have hm : b ∈ trk h H := List.mem_filter.mpr ⟨List.mem_range.mpr (Heap.lt_size e'), by simp [q]⟩
    have z : (hidT h H).get? b = none := PySem.W.hideAll_none (trk h H) hm
    rw [z] at e; cases e
noncomputable def allNews (g h : Heap) (L : Addr) : List (Addr × Obj) := (List.range h.objs.size).filterMap fun a => if a = L ∨ (g.get? a).isSome = true then none else (h.get? a).map fun o => (a, o)
noncomputable def rest (g h : Heap) (L d : Addr) : List (Addr × Obj) := (allNews g h L).filter fun p => decide (p.1 ≠ d)
end L2
namespace L2
open PySem PySem.Spec PyProof.Rows
structure Mod (K : PySem.W.Frag) (mg : Str → Option Value) (base : Heap) : Prop where
  kin : K.In base
  glob : base.Ns mainGlobals mg
  blt : ∃ mb, base.Ns builtinsNs mb ∧ ∀ x : Str, x ≠ "__name__" → mb x = bootBuiltins x
  nolimit : base.NoLimit
structure Cx where
  prog : Program
  w : World
  K : PySem.W.Frag
  mg : Str → Option Value
  base : Heap
  A : Around
  N : List Str
  s₀ : Shared
  H₀ : Hp
  env : Env
  outer : List Env
  stack : List Env
  ex : List Addr
  fn : Str → Bool
  calm : Bool
  pn : List (Addr × Obj)
  xe : Value → Shared → Prop
noncomputable def frs (l : List Env) : List Addr := l.filterMap (·.frame)
noncomputable abbrev Cx.fs (X : Cx) : List Addr := frs X.outer
noncomputable def Vis (sc : Scope) (x : Str) : Prop := sc.names.lookup x = some .local ∨ sc.names.lookup x = some .cell ∨ sc.names.lookup x = some .free
noncomputable def Loc (sc : Scope) (x : Str) : Prop := sc.names.lookup x = some .local ∨ sc.names.lookup x = some .cell
noncomputable def Look (env : Env) (h : Heap) (m : Str → Option Value) (x : Str) (u : Value) : Prop :=
  (env.kindOf x = some .local ∧ m x = some u) ∨ ((env.kindOf x = some .cell ∨ env.kindOf x = some .free) ∧ ∃ c, env.cells.lookup x = some c ∧ h.IsCell c (some u))
structure Cx.Ok (X : Cx) : Prop where
  mod : Mod X.K X.mg X.base
  kind : X.env.scope.kind = .function
  glob : X.env.globals = mainGlobals
  blt : X.env.builtins = builtinsNs
  above : X.s₀.heap.objs.size ≤ X.env.locals
  inj : ∀ x y c, X.env.cells.lookup x = some c → X.env.cells.lookup y = some c → x = y
  has : ∀ x, (X.env.kindOf x = some .cell ∨ X.env.kindOf x = some .free) → ∃ c, X.env.cells.lookup x = some c
  cab : ∀ x c, X.fn x = true → X.env.cells.lookup x = some c → X.s₀.heap.objs.size ≤ c
  hd : X.calm = true → X.A.handled = none
  frames : X.A.frames = some X.stack
  stk : X.stack = X.outer ∨ (X.stack = X.env :: X.outer ∧ X.env.frame = some X.env.locals)
  exf : ∀ b ∈ X.ex, b ≠ X.env.locals ∧ ∀ x c, X.env.cells.lookup x = some c → c ≠ b
  bs : ∀ b o, X.base.get? b = some o → X.s₀.heap.get? b = some o ∧ X.H₀ b = none
  bsz : X.base.objs.size ≤ X.s₀.heap.objs.size
  noex : ∀ b o, X.base.get? b = some o → b ∉ X.ex
  exfs : ∀ b ∈ X.ex, b ∉ X.fs
  funs : X.s₀.heap.FunFrames X.base X.outer
  frf : ∀ b ∈ X.fs, X.H₀ b = none
structure Inv (X : Cx) (pins : List (Addr × Obj)) (σ : List (Option V)) (H : Hp) (s : Shared) : Prop where
  ok : X.Ok
  os : s.os = X.s₀.os
  bare : AllBare s.gens
  base : Un X.fs X.ex X.H₀ H X.s₀.heap s.heap
  loc : ∃ m, s.heap.Ns X.env.locals m ∧ ∀ (i : Nat) (x : Str) (v : V), X.N[i]? = some x → σ[i]? = some (some v) → Vis X.env.scope x → ∃ u, RelV v u ∧ Look X.env s.heap m x u
  cell : ∀ x c, X.env.cells.lookup x = some c → ∃ v, s.heap.IsCell c v
  free : H X.env.locals = none
  freeC : ∀ x c, X.env.cells.lookup x = some c → H c = none
  pin : ∀ p ∈ X.pn ++ pins, s.heap.get? p.1 = some p.2 ∧ H p.1 = none ∧ p.1 ≠ X.env.locals ∧ p.1 ∉ X.fs ∧ ∀ v, p.2.data ≠ .cell v
  hok : HOk X.prog X.w H s.heap
  len : σ.length = X.N.length
section
variable {X : Cx} {pins : List (Addr × Obj)} {σ : List (Option V)} {H H' : Hp} {s : Shared} {h' : Heap}
theorem Cx.Ok.nofr (ok : X.Ok) {b : Addr} {o : Obj} (e : X.base.get? b = some o) : b ∉ X.fs := fun hb => by
  have := (ok.funs.mem hb).1
  rw [e] at this; cases this
theorem Inv.bs (I : Inv X pins σ H s) : ∀ b o, X.base.get? b = some o → s.heap.get? b = some o ∧ H b = none := fun b o e =>
  ⟨I.base.keep b o (I.ok.bs b o e).1 (I.ok.bs b o e).2 (I.ok.nofr e) (I.ok.noex b o e), I.base.free b o (I.ok.bs b o e).1 (I.ok.bs b o e).2 (I.ok.noex b o e)⟩
theorem Inv.bk (I : Inv X pins σ H s) : ∀ b o, X.base.get? b = some o → s.heap.get? b = some o := fun b o e => (I.bs b o e).1
theorem Inv.mod (I : Inv X pins σ H s) : Mod X.K X.mg X.base := I.ok.mod
theorem Inv.kIn (I : Inv X pins σ H s) : X.K.In s.heap := I.ok.mod.kin.keeps I.bk
theorem Inv.nolimit (I : Inv X pins σ H s) : s.heap.NoLimit := I.ok.mod.nolimit.keeps I.bk
theorem Inv.fr (I : Inv X pins σ H s) : ∃ m, Fr X.base X.env.locals s.heap m :=
  let ⟨m, hn, _⟩ := I.loc
  ⟨m, hn, I.bk, Nat.le_trans I.ok.bsz I.ok.above⟩
theorem Inv.lt (I : Inv X pins σ H s) : X.env.locals < s.heap.objs.size := let ⟨_, hn, _⟩ := I.loc; hn.lt
theorem Inv.sz (I : Inv X pins σ H s) : X.s₀.heap.objs.size ≤ s.heap.objs.size := Nat.le_trans I.ok.above (Nat.le_of_lt I.lt)
theorem Inv.nofs (I : Inv X pins σ H s) {a : Addr} (h : s.heap.objs.size ≤ a) : a ∉ X.fs := fun hb => by
  obtain ⟨_, o, ho, _⟩ := I.ok.funs.mem hb
  exact absurd (Nat.lt_of_lt_of_le (Heap.lt_size ho) (Nat.le_trans I.sz h)) (Nat.lt_irrefl _)
theorem Inv.cne (I : Inv X pins σ H s) : ∀ x c, X.env.cells.lookup x = some c → c ≠ X.env.locals := fun x c e z => by
  obtain ⟨v, o, ho, hd⟩ := I.cell x c e
  obtain ⟨m, ⟨o', es, ep, ho', hd', _⟩, _⟩ := I.loc
  rw [z, ho'] at ho; cases ho; rw [hd'] at hd; cases hd
theorem Inv.funs (I : Inv X pins σ H s) : s.heap.FunFrames X.base X.outer := by
  have all : ∀ (l : List Env), (∀ b ∈ frs l, b ∈ X.fs) → X.s₀.heap.FunFrames X.base l → s.heap.FunFrames X.base l := by
    intro l
    induction l with
    | nil => intro _ _; trivial
    | cons env r ih =>
      intro hs hl
      obtain ⟨hk, ⟨L, o, hf, hn, ho, hd⟩, hr⟩ := hl
      have hL : L ∈ X.fs := hs L (by unfold frs; rw [List.filterMap_cons, hf]; exact List.mem_cons_self)
      obtain ⟨sl, e⟩ := I.base.slot L o ho (I.ok.frf L hL) hL fun z => I.ok.exfs L z hL
      exact ⟨hk, ⟨L, _, hf, hn, e, hd⟩, ih (fun b hb => hs b (by unfold frs; rw [List.filterMap_cons, hf]; exact List.mem_cons_of_mem _ hb)) hr⟩
  exact all X.outer (fun _ hb => hb) I.ok.funs
theorem Inv.stack (I : Inv X pins σ H s) : s.heap.FunFrames X.base X.stack := by
  rcases I.ok.stk with e | ⟨e, hf⟩
  · rw [e]; exact I.funs
  · rw [e]
    obtain ⟨m, hn, _⟩ := I.loc
    refine .cons (by rw [I.ok.kind]; decide) hf hn ?_ I.funs
    exact Heap.get?_none_of_le (Nat.le_trans I.ok.bsz I.ok.above)
theorem Inv.stkSub (I : Inv X pins σ H s) : ∀ b ∈ frs X.stack, b ∈ X.env.locals :: X.fs := fun b hb => by
  rcases I.ok.stk with e | ⟨e, hf⟩
  · rw [e] at hb; exact List.mem_cons_of_mem _ hb
  · rw [e] at hb
    unfold frs at hb
    rw [List.filterMap_cons, hf] at hb
    exact hb
theorem Inv.stkFree (I : Inv X pins σ H s) : ∀ b ∈ frs X.stack, H b = none := fun b hb => by
  rcases List.mem_cons.mp (I.stkSub b hb) with e | hb
  · rw [e]; exact I.free
  · obtain ⟨_, o, ho, _⟩ := I.ok.funs.mem hb
    exact I.base.free b o ho (I.ok.frf b hb) fun z => I.ok.exfs b z hb
theorem Inv.step {g' : Array GenState} {t' : Nat} {d' : Drawn} {ch : List Addr} (I : Inv X pins σ H s)
    (hch : ∀ b ∈ ch, (b ∈ X.ex ∨ X.s₀.heap.objs.size ≤ b) ∧ b ≠ X.env.locals ∧ (∀ x c, X.env.cells.lookup x = some c → c ≠ b) ∧ ∀ p ∈ X.pn ++ pins, p.1 ≠ b)
    (keep : ∀ b o, b ≠ X.env.locals → b ∉ X.fs → b ∉ ch → s.heap.get? b = some o → H b = none → h'.get? b = some o)
    (slot : ∀ b o, b ≠ X.env.locals → b ∈ X.fs → b ∉ ch → s.heap.get? b = some o → H b = none → ∃ sl, h'.get? b = some { o with slots := sl }) (free : ∀ b o, b ∉ ch → s.heap.get? b = some o → H b = none → H' b = none)
    (there : ∀ b o, b ∉ ch → s.heap.get? b = some o → ∃ o', h'.get? b = some o')
    (tups : ∀ b xs, H b = some (.tup xs) → H' b = some (.tup xs)) (frzs : ∀ b o u, H b = some (.frz o u) → H' b = some (.frz o u)) (tbls : ∀ b ps, H b = some (.tbl ps) → ∃ more, H' b = some (.tbl (ps ++ more)))
    (ns : ∀ m, s.heap.Ns X.env.locals m → h'.Ns X.env.locals m) (hok : HOk X.prog X.w H' h') (hg : AllBare g') :
    Inv X pins σ H' { s with heap := h', gens := g', drawn := d', toks := t' } := by
  have neL : ∀ b o, X.s₀.heap.get? b = some o → b ≠ X.env.locals := fun b o e => Nat.ne_of_lt (Nat.lt_of_lt_of_le (Heap.lt_size e) I.ok.above)
  have neC : ∀ b o, X.s₀.heap.get? b = some o → b ∉ X.ex → b ∉ ch := fun b o e hx hb => by
    rcases (hch b hb).1 with z | z
    · exact hx z
    · exact absurd (Nat.lt_of_lt_of_le (Heap.lt_size e) z) (Nat.lt_irrefl _)
  have cellK : ∀ x c, X.env.cells.lookup x = some c → ∀ v, s.heap.IsCell c v → h'.IsCell c v := fun x c e v ⟨o, ho, hd⟩ => by
    have nch : c ∉ ch := fun z => (hch c z).2.2.1 x c e rfl
    by_cases hc : c ∈ X.fs
    · obtain ⟨sl, q⟩ := slot c o (I.cne x c e) hc nch ho (I.freeC x c e)
      exact ⟨_, q, hd⟩
    · exact ⟨o, keep c o (I.cne x c e) hc nch ho (I.freeC x c e), hd⟩
  refine ⟨I.ok, I.os, hg, ⟨fun b o e n hb hx => ?_, fun b o e n hb hx => ?_, fun b o e n hx => ?_, fun b o e hx => ?_, fun b xs e => tups b xs (I.base.tups b xs e), fun b o xs e => frzs b o xs (I.base.frzs b o xs e), fun b ps e => ?_⟩, ?_, fun x c e => ?_, ?_, fun x c e => ?_, fun p hp => ?_, hok, I.len⟩
  · exact keep b o (neL b o e) hb (neC b o e hx) (I.base.keep b o e n hb hx) (I.base.free b o e n hx)
  · obtain ⟨sl, e1⟩ := I.base.slot b o e n hb hx
    obtain ⟨sl', e2⟩ := slot b _ (neL b o e) hb (neC b o e hx) e1 (I.base.free b o e n hx)
    exact ⟨sl', e2⟩
  · obtain ⟨o', e1⟩ := I.base.there b o e hx
    exact free b o' (neC b o e hx) e1 (I.base.free b o e n hx)
  · obtain ⟨o', e1⟩ := I.base.there b o e hx
    exact there b o' (neC b o e hx) e1
  · obtain ⟨m1, e1⟩ := I.base.tbls b ps e
    obtain ⟨m2, e2⟩ := tbls b _ e1
    exact ⟨m1 ++ m2, by rw [e2, Array.append_assoc]⟩
  · obtain ⟨m, hn, hl⟩ := I.loc
    refine ⟨m, ns m hn, fun i x v e1 e2 e3 => ?_⟩
    obtain ⟨u, r, l⟩ := hl i x v e1 e2 e3
    refine ⟨u, r, ?_⟩
    rcases l with l | ⟨k, c, e, z⟩
    · exact .inl l
    · exact .inr ⟨k, c, e, cellK x c e _ z⟩
  · obtain ⟨v, z⟩ := I.cell x c e
    exact ⟨v, cellK x c e v z⟩
  · obtain ⟨m, ⟨o, _, _, ho, _⟩, _⟩ := I.loc
    exact free _ o (fun z => (hch _ z).2.1 rfl) ho I.free
  · obtain ⟨v, o, ho, hd⟩ := I.cell x c e
    exact free c o (fun z => (hch c z).2.2.1 x c e rfl) ho (I.freeC x c e)
  · obtain ⟨e, n, ne, nf, d⟩ := I.pin p hp
    have nch : p.1 ∉ ch := fun z => (hch p.1 z).2.2.2 p hp rfl
    exact ⟨keep p.1 p.2 ne nf nch e n, free p.1 p.2 nch e n, ne, nf, d⟩
theorem Inv.un {t' : Nat} (I : Inv X pins σ H s) (u : Un X.fs [] H H' s.heap h') (hok : HOk X.prog X.w H' h') : Inv X pins σ H' { s with heap := h', toks := t' } := by
  obtain ⟨m, ⟨o, es, ep, ho, r⟩, _⟩ := id I.loc
  obtain ⟨sl, hL⟩ := u.any ho I.free (by simp)
  exact I.step (g' := s.gens) (d' := s.drawn) (ch := []) (fun _ z => nomatch z) (fun b o _ hb _ e n => u.keep b o e n hb (by simp)) (fun b o _ hb _ e n => u.slot b o e n hb (by simp)) (fun b o _ e n => u.free b o e n (by simp)) (fun b o _ e => u.there b o e (by simp)) u.tups u.frzs u.tbls (fun m' hm => by
    obtain ⟨o', es', ep', ho', r'⟩ := hm
    rw [ho] at ho'; cases ho'
    exact ⟨_, es', ep', hL, r'⟩) hok I.bare
theorem Inv.call {g' : Array GenState} {t' : Nat} {d' : Drawn} {ch : List Addr} (I : Inv X pins σ H s) (u : Un (frs X.stack) ch H H' s.heap h') (hok : HOk X.prog X.w H' h') (hg : AllBare g')
    (hch : ∀ b ∈ ch, (b ∈ X.ex ∨ X.s₀.heap.objs.size ≤ b) ∧ b ≠ X.env.locals ∧ (∀ x c, X.env.cells.lookup x = some c → c ≠ b) ∧ ∀ p ∈ X.pn ++ pins, p.1 ≠ b) :
    Inv X pins σ H' { s with heap := h', gens := g', drawn := d', toks := t' } := by
  obtain ⟨m, ⟨o, es, ep, ho, r⟩, _⟩ := id I.loc
  obtain ⟨sl, hL⟩ := u.any ho I.free fun z => (hch _ z).2.1 rfl
  exact I.step (ch := ch) hch (fun b o hL hb hc e n => u.keep b o e n (fun z => (List.mem_cons.mp (I.stkSub b z)).elim hL hb) hc) (fun b o _ _ hc e n => u.any e n hc) (fun b o hc e n => u.free b o e n hc) (fun b o hc e => u.there b o e hc) u.tups u.frzs u.tbls (fun m' hm => by
    obtain ⟨o', es', ep', ho', r'⟩ := hm
    rw [ho] at ho'; cases ho'
    exact ⟨_, es', ep', hL, r'⟩) hok hg
theorem Inv.turned {t' : Nat} {it : Addr} (I : Inv X pins σ H s) (k : ∀ b o, b ≠ it → s.heap.get? b = some o → h'.get? b = some o) (hn : H it = none) (hL : it ≠ X.env.locals)
    (h1 : it ∈ X.ex ∨ X.s₀.heap.objs.size ≤ it) (h2 : ∀ x c, X.env.cells.lookup x = some c → c ≠ it) (h3 : ∀ p ∈ X.pn ++ pins, p.1 ≠ it) : Inv X pins σ H { s with heap := h', toks := t' } := by
  have nit : ∀ b u, H b = some u → b ≠ it := fun b u e z => by rw [z, hn] at e; cases e
  refine I.step (g' := s.gens) (d' := s.drawn) (ch := [it]) (fun b hb => ?_) (fun b o _ _ hc e _ => k b o (fun z => hc (by simp [z])) e) (fun b o _ _ hc e _ => ⟨o.slots, k b o (fun z => hc (by simp [z])) e⟩) (fun _ _ _ _ n => n)
    (fun b o hc e => ⟨o, k b o (fun z => hc (by simp [z])) e⟩) (fun _ _ e => e) (fun _ _ _ e => e) (fun b ps e => ⟨#[], by rw [e]; simp⟩) (fun m hm => ?_) (fun b u e => ?_) I.bare
  · have e : b = it := by simpa using hb
    subst e
    exact ⟨h1, hL, h2, h3⟩
  · obtain ⟨o, es, ep, ho, r⟩ := hm
    exact ⟨o, es, ep, k _ o (Ne.symm hL) ho, r⟩
  · refine (I.hok b u e).stay (fun c v hc q => k c v ?_ q) (fun _ q => q) fun _ _ q => q
    rcases hc with z | z
    · rw [z]; exact nit b u e
    · exact nit c _ z
theorem Inv.tok (I : Inv X pins σ H s) (t : Nat) : Inv X pins σ H { s with toks := t } := I.un (h' := s.heap) (t' := t) Un.refl I.hok
theorem Inv.kept {t' : Nat} (I : Inv X pins σ H s) (k : ∀ b u, s.heap.get? b = some u → h'.get? b = some u) : Inv X pins σ H { s with heap := h', toks := t' } := I.un (Un.kept k) (I.hok.kept k)
theorem Inv.laid {a : Addr} {o : HO} {t' : Nat} (I : Inv X pins σ H s) (k : ∀ b u, s.heap.get? b = some u → h'.get? b = some u) (hp : s.heap.objs.size ≤ a) (new : ObjOk X.prog X.w (upd H a o) h' a o) :
    Inv X pins σ (upd H a o) { s with heap := h', toks := t' } := I.un (Un.laid k hp (I.hok.fresh hp)) (I.hok.laid k hp new)
theorem Inv.write {x e : Addr} {o : HO} {t' : Nat} (I : Inv X pins σ H s) (mu : Mut (H x)) (he : e = x ∨ H e = some (.own x)) (k : ∀ b u, b ≠ e → s.heap.get? b = some u → h'.get? b = some u) (heo : ∃ u, h'.get? e = some u)
    (new : ObjOk X.prog X.w (upd H x o) h' x o) : Inv X pins σ (upd H x o) { s with heap := h', toks := t' } := I.un (Un.write mu he k heo) (I.hok.write mu he k heo new)
theorem Inv.weak {σ' : List (Option V)} (I : Inv X pins σ H s) (hl : σ'.length = σ.length) (w : ∀ (i : Nat) v, σ'[i]? = some (some v) → σ[i]? = some (some v)) : Inv X pins σ' H s :=
  ⟨I.ok, I.os, I.bare, I.base, let ⟨m, hn, hl'⟩ := I.loc; ⟨m, hn, fun i x v e1 e2 e3 => hl' i x v e1 (w i v e2) e3⟩, I.cell, I.free, I.freeC, I.pin, I.hok, hl.trans I.len⟩
theorem Inv.pins_of {pins' : List (Addr × Obj)} (I : Inv X pins σ H s) (h : ∀ p ∈ pins', s.heap.get? p.1 = some p.2 ∧ H p.1 = none ∧ p.1 ≠ X.env.locals ∧ p.1 ∉ X.fs ∧ ∀ v, p.2.data ≠ .cell v) : Inv X pins' σ H s :=
  ⟨I.ok, I.os, I.bare, I.base, I.loc, I.cell, I.free, I.freeC, fun p hp => (List.mem_append.mp hp).elim (fun z => I.pin p (List.mem_append_left _ z)) (h p), I.hok, I.len⟩
theorem nodup_ix {N : List Str} (hN : N.Nodup) {i j : Nat} {x : Str} (a : N[i]? = some x) (b : N[j]? = some x) : i = j := by
  obtain ⟨h1, e1⟩ := List.getElem?_eq_some_iff.mp a
  obtain ⟨h2, e2⟩ := List.getElem?_eq_some_iff.mp b
  exact (List.getElem_inj hN).mp (e1.trans e2.symm)
theorem store_ok2 {M : Model} {A : Around} {E : Value → Shared → Prop} {i : Nat} {x : Str} {v : V} {u : Value} {Q : Unit → Shared → Prop} (I : Inv X pins σ H s) (hN : X.N.Nodup) (hi : X.N[i]? = some x) (hx : Loc X.env.scope x) (r : RelV v u)
    (h : ∀ s', Inv X pins (σ.set i (some v)) H s' → (∃ a, Heap.SameBut a s.heap s'.heap ∧ (a = X.env.locals ∨ X.env.cells.lookup x = some a)) → Q () s') (hf : X.fn x = true ∨ X.env.scope.names.lookup x = some .local := by first | exact .inl rfl | exact .inr rfl | assumption) : wpAny M A (storeName X.env x u) Q E s := by
  obtain ⟨m, hn, hl⟩ := id I.loc
  have hcls : (X.env.scope.kind == .class || (X.env.scope.kind == .module && X.env.locals != X.env.globals)) = false := by rw [I.ok.kind]; rfl
  have hiσ : i < σ.length := by rw [I.len]; exact (List.getElem?_eq_some_iff.mp hi).1
  have cne := I.cne
  have tracked : ∀ {a : Addr} {h' : Heap}, (∃ o, s.heap.get? a = some o ∧ H a = none) → Heap.SameBut a s.heap h' → HOk X.prog X.w H h' := fun {a h'} ha hs b ob e => by
    obtain ⟨_, _, hfree⟩ := ha
    refine (I.hok b ob e).stay (fun c w' hc q => (hs.2 c ?_).trans q) (fun _ q => q) fun _ _ q => q
    rintro rfl
    rcases hc with rfl | hc
    · rw [hfree] at e; cases e
    · rw [hfree] at hc; cases hc
  rcases hx with hk | hk
  · refine wpAny_storeName_local hk hn (fun h' hn' hs => ?_) hcls
    obtain ⟨oL, _, _, hoL, _⟩ := id hn
    refine h _ ⟨I.ok, I.os, I.bare, ⟨fun b o e n hb hx => ?_, fun b o e n hb hx => ?_, I.base.free, fun b o e hx => ?_, I.base.tups, I.base.frzs, I.base.tbls⟩, ⟨_, hn', fun j y v' e1 e2 e3 => ?_⟩, fun y c e => ?_, I.free, I.freeC, fun p hp => ?_, tracked ⟨oL, hoL, I.free⟩ hs, by simpa using I.len⟩ ⟨_, hs, .inl rfl⟩
    · exact (hs.2 b (Nat.ne_of_lt (Nat.lt_of_lt_of_le (Heap.lt_size e) I.ok.above))).trans (I.base.keep b o e n hb hx)
    · obtain ⟨sl, e1⟩ := I.base.slot b o e n hb hx
      exact ⟨sl, (hs.2 b (Nat.ne_of_lt (Nat.lt_of_lt_of_le (Heap.lt_size e) I.ok.above))).trans e1⟩
    · obtain ⟨o', e1⟩ := I.base.there b o e hx
      exact ⟨o', (hs.2 b (Nat.ne_of_lt (Nat.lt_of_lt_of_le (Heap.lt_size e) I.ok.above))).trans e1⟩
    · by_cases hj : j = i
      · subst hj
        rw [hi] at e1; cases e1
        rw [List.getElem?_set_self hiσ] at e2
        cases e2
        exact ⟨u, r, .inl ⟨hk, by simp⟩⟩
      · rw [List.getElem?_set_ne (Ne.symm hj)] at e2
        obtain ⟨u', r', q⟩ := hl j y v' e1 e2 e3
        refine ⟨u', r', ?_⟩
        rcases q with ⟨k, e⟩ | ⟨k, c, e, z⟩
        · refine .inl ⟨k, ?_⟩
          have : y ≠ x := fun e => hj (nodup_ix hN e1 (e ▸ hi))
          simp [this, e]
        · exact .inr ⟨k, c, e, z.sameBut hs (cne y c e)⟩
    · obtain ⟨w', z⟩ := I.cell y c e
      exact ⟨w', z.sameBut hs (cne y c e)⟩
    · obtain ⟨e, n, ne, nf, d⟩ := I.pin p hp
      exact ⟨(hs.2 p.1 ne).trans e, n, ne, nf, d⟩
  · have hfn : X.fn x = true := by
      rcases hf with z | z
      · exact z
      · rw [z] at hk; cases hk
    obtain ⟨c, hc⟩ := I.ok.has x (.inl hk)
    obtain ⟨w', z⟩ := I.cell x c hc
    refine wpAny_storeName_cell I.ok.kind hk hc z (fun h' hc' hs => ?_)
    obtain ⟨oc, hoc, hocd⟩ := id z
    refine h { s with heap := h' } ⟨I.ok, I.os, I.bare, ⟨fun b o e n hb hx => ?_, fun b o e n hb hx => ?_, I.base.free, fun b o e hx => ?_, I.base.tups, I.base.frzs, I.base.tbls⟩, ⟨m, hn.sameBut hs (Ne.symm (cne x c hc)), fun j y v' e1 e2 e3 => ?_⟩, fun y c' e => ?_, I.free, I.freeC, fun p hp => ?_, tracked ⟨oc, hoc, I.freeC x c hc⟩ hs, by simpa using I.len⟩ ⟨c, hs, .inr hc⟩
    · exact (hs.2 b (Nat.ne_of_lt (Nat.lt_of_lt_of_le (Heap.lt_size e) (I.ok.cab x c hfn hc)))).trans (I.base.keep b o e n hb hx)
    · obtain ⟨sl, e1⟩ := I.base.slot b o e n hb hx
      exact ⟨sl, (hs.2 b (Nat.ne_of_lt (Nat.lt_of_lt_of_le (Heap.lt_size e) (I.ok.cab x c hfn hc)))).trans e1⟩
    · obtain ⟨o', e1⟩ := I.base.there b o e hx
      exact ⟨o', (hs.2 b (Nat.ne_of_lt (Nat.lt_of_lt_of_le (Heap.lt_size e) (I.ok.cab x c hfn hc)))).trans e1⟩
    · by_cases hj : j = i
      · subst hj
        rw [hi] at e1; cases e1
        rw [List.getElem?_set_self hiσ] at e2
        cases e2
        exact ⟨u, r, .inr ⟨.inl hk, c, hc, hc'⟩⟩
      · rw [List.getElem?_set_ne (Ne.symm hj)] at e2
        obtain ⟨u', r', q⟩ := hl j y v' e1 e2 e3
        refine ⟨u', r', ?_⟩
        rcases q with q | ⟨k, c', e, z'⟩
        · exact .inl q
        · refine .inr ⟨k, c', e, z'.sameBut hs ?_⟩
          rintro rfl
          exact hj (nodup_ix hN e1 (I.ok.inj _ _ _ e hc ▸ hi))
    · by_cases hcc : c' = c
      · subst hcc; exact ⟨_, hc'⟩
      · obtain ⟨w2, z2⟩ := I.cell y c' e
        exact ⟨w2, z2.sameBut hs hcc⟩
    · obtain ⟨e, n, ne, nf, d⟩ := I.pin p hp
      refine ⟨(hs.2 p.1 ?_).trans e, n, ne, nf, d⟩
      intro q
      rw [q, hoc] at e
      have q' : oc = p.2 := Option.some.inj e
      exact d w' (by rw [← q']; exact hocd)
theorem store_ok {M : Model} {A : Around} {E : Value → Shared → Prop} {i : Nat} {x : Str} {v : V} {u : Value} {Q : Unit → Shared → Prop} (I : Inv X pins σ H s) (hN : X.N.Nodup) (hi : X.N[i]? = some x) (hx : Loc X.env.scope x) (r : RelV v u)
    (h : ∀ s', Inv X pins (σ.set i (some v)) H s' → Q () s') (hf : X.fn x = true ∨ X.env.scope.names.lookup x = some .local := by first | exact .inl rfl | exact .inr rfl | assumption) : wpAny M A (storeName X.env x u) Q E s :=
  store_ok2 I hN hi hx r (fun s' I' _ => h s' I') hf
theorem Inv.call' {s' : Shared} {ch : List Addr} (I : Inv X pins σ H s) (ho : s'.os = s.os) (u : Un (frs X.stack) ch H H' s.heap s'.heap) (hok : HOk X.prog X.w H' s'.heap) (hg : AllBare s'.gens)
    (hch : ∀ b ∈ ch, (b ∈ X.ex ∨ X.s₀.heap.objs.size ≤ b) ∧ b ≠ X.env.locals ∧ (∀ x c, X.env.cells.lookup x = some c → c ≠ b) ∧ ∀ p ∈ X.pn ++ pins, p.1 ≠ b) : Inv X pins σ H' s' := by
  obtain ⟨h', g', d', t', o'⟩ := s'
  have e : o' = s.os := ho
  subst e
  exact I.call (g' := g') (t' := t') (d' := d') u hok hg hch
end
noncomputable abbrev XK := Value → Option Addr → Hp → Prop
noncomputable abbrev St := List (Option V)
noncomputable abbrev VK := V → Hp → Prop
noncomputable abbrev TE := St → Hp → VK → Prop
noncomputable abbrev TT := St → Hp → (Bool → Hp → Prop) → Prop
noncomputable abbrev TA := St → Hp → (List V → Hp → Prop) → Prop
structure Ends where
  nx : St → Hp → Prop
  rt : VK
  bk : St → Hp → Prop := fun _ _ => False
  ct : St → Hp → Prop := fun _ _ => False
noncomputable abbrev TS := Ends → St → Hp → Prop
noncomputable def EP (X : Cx) (pins : List (Addr × Obj)) (σ : St) (Q : VK) (u : Value) (s' : Shared) : Prop := ∃ v H', Inv X pins σ H' s' ∧ RelV v u ∧ Q v H'
noncomputable def TP (X : Cx) (pins : List (Addr × Obj)) (σ : St) (Q : Bool → Hp → Prop) (b : Bool) (s' : Shared) : Prop := ∃ H', Inv X pins σ H' s' ∧ Q b H'
noncomputable def AP (X : Cx) (pins : List (Addr × Obj)) (σ : St) (Q : List V → Hp → Prop) (us : List Value) (s' : Shared) : Prop := ∃ vs H', Inv X pins σ H' s' ∧ Vals vs us ∧ Q vs H'
noncomputable def SP (X : Cx) (pins : List (Addr × Obj)) (D : Ends) (f : Flow) (s' : Shared) : Prop :=
  match f with
  | .next => ∃ σ' H', Inv X pins σ' H' s' ∧ D.nx σ' H'
  | .brk => ∃ σ' H', Inv X pins σ' H' s' ∧ D.bk σ' H'
  | .cont => ∃ σ' H', Inv X pins σ' H' s' ∧ D.ct σ' H'
  | .ret u => ∃ v σ' H', Inv X pins σ' H' s' ∧ RelV v u ∧ D.rt v H'
noncomputable def PE (X : Cx) (e : Expr) (t : TE) : Prop :=
  ∀ (pins : List (Addr × Obj)) (s : Shared) (σ : St) (H : Hp) (Q : VK), Inv X pins σ H s → t σ H Q → wpAny (model X.prog X.w) X.A (eval e X.env) (EP X pins σ Q) X.xe s
noncomputable def PT (X : Cx) (e : Expr) (t : TT) : Prop :=
  ∀ (pins : List (Addr × Obj)) (s : Shared) (σ : St) (H : Hp) (Q : Bool → Hp → Prop), Inv X pins σ H s → t σ H Q → wpAny (model X.prog X.w) X.A (isTrue e X.env (eval e X.env)) (TP X pins σ Q) X.xe s
noncomputable def PW (X : Cx) (e : Expr) (t : TT) : Prop :=
  ∀ (whole : Sem Value) (pins : List (Addr × Obj)) (s : Shared) (σ : St) (H : Hp) (Q : Bool → Hp → Prop), Inv X pins σ H s → t σ H Q → wpAny (model X.prog X.w) X.A (isTrue e X.env whole) (TP X pins σ Q) X.xe s
theorem PW.pt {X : Cx} {e : Expr} {t : TT} (h : PW X e t) : PT X e t := h _
noncomputable def PA (X : Cx) (es : List Expr) (t : TA) : Prop :=
  ∀ (pos : Pos) (pins : List (Addr × Obj)) (s : Shared) (σ : St) (H : Hp) (Q : List V → Hp → Prop), Inv X pins σ H s → t σ H Q → wpAny (model X.prog X.w) X.A (spliced (backTo pos (starEach es X.env))) (AP X pins σ Q) X.xe s
noncomputable def PS (X : Cx) (st : Stmt) (t : TS) : Prop :=
  ∀ (pins : List (Addr × Obj)) (s : Shared) (σ : St) (H : Hp) (D : Ends), Inv X pins σ H s → t D σ H → wpAny (model X.prog X.w) X.A (exec st X.env) (SP X pins D) X.xe s
noncomputable def PSs (X : Cx) (st : List Stmt) (t : TS) : Prop :=
  ∀ (pins : List (Addr × Obj)) (s : Shared) (σ : St) (H : Hp) (D : Ends), Inv X pins σ H s → t D σ H → wpAny (model X.prog X.w) X.A (execs st X.env) (SP X pins D) X.xe s
theorem thn {α : Type} {t : Sem α} {Q Q' : α → Shared → Prop} {M : Model} {A : Around} {E : Value → Shared → Prop} {s : Shared} (h : wpAny M A t Q E s) (hQ : ∀ a s, Q a s → Q' a s) : wpAny M A t Q' E s := wpAny_mono h hQ fun _ _ x => x
end L2
namespace L2
open PySem PySem.Spec PyProof.Rows
section
variable {X : Cx}
inductive IVar (i : Nat) (σ : St) (H : Hp) (Q : VK) : Prop where
  | mk (v : V) (e : σ[i]? = some (some v)) (q : Q v H) : IVar i σ H Q
noncomputable def tVar (i : Nat) : TE := fun σ H Q => IVar i σ H Q
noncomputable def tC (v : V) : TE := fun _ H Q => Q v H
theorem pe_var {i : Nat} {x : Str} {pos : Pos} (hN : X.N[i]? = some x) (hv : Vis X.env.scope x) (hd : (x == ("__debug__" : Str)) = false := by decide) (hcd : (x == ("__classdict__" : Str)) = false := by decide) : PE X (.Name x pos) (tVar i) := by
  intro pins s σ H Q I h
  obtain ⟨v, e, h⟩ := h
  obtain ⟨m, hn, hl⟩ := I.loc
  obtain ⟨u, r, l⟩ := hl i x v hN e hv
  have fin : EP X pins σ Q u s := ⟨v, H, I, r, h⟩
  rcases l with ⟨hk, hm⟩ | ⟨hk, c, hc, hcell⟩
  · exact wpAny_Name (wpAny_loadName_local I.ok.kind hk hn hm fin) hd
  · rcases hk with hk | hk
    · exact wpAny_Name (wpAny_loadName_cell I.ok.kind hk hc hcell fin) hd
    · exact wpAny_Name (wpAny_loadName_free I.ok.kind hk hc hcell fin hcd) hd
theorem pe_int {i j pos} : PE X (.Constant (.int i) j pos) (tC (.int i)) := fun _ _ _ H _ I h => wpAny_Constant_int ⟨.int i, H, I.tok _, ⟨_, rfl⟩, h⟩
theorem pe_bl {b j pos} : PE X (.Constant (.bool b) j pos) (tC (.bl b)) := fun _ _ _ H _ I h => Constant_bool ⟨.bl b, H, I, rfl, h⟩
theorem pe_non {j pos} : PE X (.Constant .none j pos) (tC .non) := fun _ _ _ H _ I h => Constant_none ⟨.non, H, I, rfl, h⟩
theorem pe_str {x j pos} : PE X (.Constant (.str x) j pos) (tC (.str x)) := fun _ _ _ H _ I h => Calls.Constant_str ⟨.str x, H, I.tok _, ⟨_, rfl⟩, h⟩
noncomputable def Gl (X : Cx) (x : Str) : Prop := X.env.kindOf x = some .globalImplicit
theorem ld_glob {E : Value → Shared → Prop} {pins : List (Addr × Obj)} {s : Shared} {σ : St} {H : Hp} {x : Str} {u : Value} {pos : Pos} {Q : Value → Shared → Prop} (I : Inv X pins σ H s) (hg : Gl X x) (hm : X.mg x = some u) (h : Q u s)
    (hd : (x == ("__debug__" : Str)) = false := by decide) : wpAny (model X.prog X.w) X.A (eval (.Name x pos) X.env) Q E s :=
  Calls.Name_function_global I.ok.kind hg (Calls.loadGlobal_global (by rw [I.ok.glob]; exact I.mod.glob.keeps I.bk) hm h) hd
theorem ld_blt {E : Value → Shared → Prop} {pins : List (Addr × Obj)} {s : Shared} {σ : St} {H : Hp} {x : Str} {u : Value} {pos : Pos} {Q : Value → Shared → Prop} (I : Inv X pins σ H s) (hg : Gl X x) (hm : X.mg x = none) (hv : bootBuiltins x = some u) (h : Q u s)
    (hn : x ≠ "__name__" := by decide) (hd : (x == ("__debug__" : Str)) = false := by decide) : wpAny (model X.prog X.w) X.A (eval (.Name x pos) X.env) Q E s := by
  obtain ⟨mb, h1, h2⟩ := I.mod.blt
  exact Calls.Name_function_global I.ok.kind hg (Calls.loadGlobal_builtin (by rw [I.ok.glob]; exact I.mod.glob.keeps I.bk) hm (by rw [I.ok.blt]; exact h1.keeps I.bk) ((h2 x hn).trans hv) h) hd
theorem pe_glob {x : Str} {v : V} {u : Value} {pos : Pos} (hg : Gl X x) (hm : X.mg x = some u) (r : RelV v u) (hd : (x == ("__debug__" : Str)) = false := by decide) : PE X (.Name x pos) (tC v) :=
  fun _ _ _ H _ I h => ld_glob I hg hm ⟨v, H, I, r, h⟩ hd
theorem pe_bltn {x : Str} {v : V} {u : Value} {pos : Pos} (hg : Gl X x) (hm : X.mg x = none) (hv : bootBuiltins x = some u) (r : RelV v u) (hn : x ≠ "__name__" := by decide) (hd : (x == ("__debug__" : Str)) = false := by decide) : PE X (.Name x pos) (tC v) :=
  fun _ _ _ H _ I h => ld_blt I hg hm hv ⟨v, H, I, r, h⟩ hn hd
variable {a b : Expr} {ta tb : TE} {pos : Pos}
noncomputable def PC (X : Cx) (op : CmpOp) (a b : Expr) (t : TE) : Prop :=
  ∀ (pins : List (Addr × Obj)) (s : Shared) (σ : St) (H : Hp) (Q : VK), Inv X pins σ H s → t σ H Q →
    wpAny (model X.prog X.w) X.A (eval a X.env) (fun v s₁ => wpAny (model X.prog X.w) X.A (eval b X.env) (fun u s₂ => wpAny (model X.prog X.w) X.A (compareOp op v u) (EP X pins σ Q) X.xe s₂) X.xe s₁) X.xe s
theorem nobehind (b : Expr) {op : CmpOp} (h : op ≠ .In) (h2 : op ≠ .NotIn) : behindInMarks op b = false := by
  have e1 : (op == CmpOp.In) = false := by cases op <;> first | rfl | exact absurd rfl h
  have e2 : (op == CmpOp.NotIn) = false := by cases op <;> first | rfl | exact absurd rfl h2
  cases b <;> simp [behindInMarks, e1, e2]
inductive IT (x : V) (H : Hp) (Q : Bool → Hp → Prop) : Prop where
  | mk (k : Bool) (e : x = .bl k) (q : Q k H) : IT x H Q
noncomputable def tB (t : TE) : TT := fun σ H Q => t σ H fun x H1 => IT x H1 Q
theorem pt_cmp {op : CmpOp} {t : TE} (h : PC X op a b t) (h1 : behindInMarks op b = false := by first | exact nobehind _ (by decide) (by decide) | rfl) : PT X (.Compare a [op] [b] pos) (tB t) := by
  intro pins s σ H Q I hw
  refine wpAny_isTrue_Compare1 (thn (h pins s σ H _ I hw) fun v s1 h1 => thn h1 fun u s2 h2 => thn h2 fun c s3 zpat => ?_) h1
  obtain ⟨x, H1, I1, r1, q1⟩ := zpat
  obtain ⟨d, rfl, q⟩ := q1
  cases r1
  exact wpAny_truthy_bool ⟨H1, I1, q⟩
theorem pt_val {e : Expr} {t : TE} (h : PE X e t) (he : ∀ whole, isTrue e X.env whole = (do let v ← whole; standAt e.pos; holding [v] (truthy v)) := by intro _; rfl) : PT X e (tB t) := by
  intro pins s σ H Q I hw
  refine isTrue_plain (thn (h pins s σ H _ I hw) fun v s1 zpat => ?_) (he _)
  obtain ⟨x, H1, I1, r1, q1⟩ := zpat
  obtain ⟨d, rfl, q⟩ := q1
  cases r1
  exact wpAny_truthy_bool ⟨H1, I1, q⟩
variable {tA tB' : TT} {rest : List Expr}
noncomputable def tAnd (t u : TT) : TT := fun σ H Q => t σ H fun c H1 => if c = true then u σ H1 Q else Q false H1
noncomputable def tOr (t u : TT) : TT := fun σ H Q => t σ H fun c H1 => if c = true then Q true H1 else u σ H1 Q
noncomputable def tNot (t : TT) : TT := fun σ H Q => t σ H fun c H1 => Q (!c) H1
theorem pw_and1 (ha : PT X a tA) : PW X (.BoolOp .And [a] pos) tA := by
  intro wh pins s σ H Q I h
  refine isTrue_and (thn (ha pins s σ H Q I h) fun c s1 e => ?_)
  cases c with
  | true => exact isTrue_and_nil e
  | false => exact e
theorem pw_or1 (ha : PT X a tA) : PW X (.BoolOp .Or [a] pos) tA := by
  intro wh pins s σ H Q I h
  refine isTrue_or (thn (ha pins s σ H Q I h) fun c s1 e => ?_)
  cases c with
  | false => exact isTrue_or_nil e
  | true => exact e
theorem pw_and (ha : PT X a tA) (hb : PW X (.BoolOp .And (b :: rest) pos) tB') : PW X (.BoolOp .And (a :: b :: rest) pos) (tAnd tA tB') := by
  intro wh pins s σ H Q I h
  refine isTrue_and (thn (ha pins s σ H _ I h) fun c s1 zpat => ?_)
  obtain ⟨H1, I1, q1⟩ := zpat
  cases c with
  | true => exact hb wh pins s1 σ H1 Q I1 q1
  | false => exact ⟨H1, I1, q1⟩
theorem pw_or (ha : PT X a tA) (hb : PW X (.BoolOp .Or (b :: rest) pos) tB') : PW X (.BoolOp .Or (a :: b :: rest) pos) (tOr tA tB') := by
  intro wh pins s σ H Q I h
  refine isTrue_or (thn (ha pins s σ H _ I h) fun c s1 zpat => ?_)
  obtain ⟨H1, I1, q1⟩ := zpat
  cases c with
  | true => exact ⟨H1, I1, q1⟩
  | false => exact hb wh pins s1 σ H1 Q I1 q1
theorem pt_not (ha : PT X a tA) : PT X (.UnaryOp .Not a pos) (tNot tA) := by
  intro pins s σ H Q I h
  exact isTrue_not (ha pins s σ H (fun c H1 => Q (!c) H1) I h)
noncomputable def tAndV (ta tb : TE) : TE := fun σ H Q => ta σ H fun x H1 => ∃ c, x = .bl c ∧ if c = true then tb σ H1 Q else Q (.bl false) H1
noncomputable def tOrV (ta tb : TE) : TE := fun σ H Q => ta σ H fun x H1 => ∃ c, x = .bl c ∧ if c = true then Q (.bl true) H1 else tb σ H1 Q
noncomputable def tNotV (ta : TE) : TE := fun σ H Q => ta σ H fun x H1 => ∃ c, x = .bl c ∧ Q (.bl (!c)) H1
theorem pe_one {op} {t : TE} (h : PE X a t) : PE X (.BoolOp op [a] pos) t := fun pins s σ H Q I hw => BoolOp_one (h pins s σ H Q I hw)
theorem pe_and (ha : PE X a ta) (hb : PE X (.BoolOp .And (b :: rest) pos) tb) : PE X (.BoolOp .And (a :: b :: rest) pos) (tAndV ta tb) := by
  intro pins s σ H Q I h
  refine BoolOp_and (thn (ha pins s σ H _ I h) fun v s1 zpat => ?_)
  obtain ⟨x, H1, I1, r1, q1⟩ := zpat
  obtain ⟨c, rfl, q1⟩ := q1
  cases r1
  refine wpAny_truthy_bool ?_
  cases c with
  | true => exact hb pins s1 σ H1 Q I1 q1
  | false => exact ⟨.bl false, H1, I1, rfl, q1⟩
theorem pe_or (ha : PE X a ta) (hb : PE X (.BoolOp .Or (b :: rest) pos) tb) : PE X (.BoolOp .Or (a :: b :: rest) pos) (tOrV ta tb) := by
  intro pins s σ H Q I h
  refine BoolOp_or (thn (ha pins s σ H _ I h) fun v s1 zpat => ?_)
  obtain ⟨x, H1, I1, r1, q1⟩ := zpat
  obtain ⟨c, rfl, q1⟩ := q1
  cases r1
  refine wpAny_truthy_bool ?_
  cases c with
  | false => exact hb pins s1 σ H1 Q I1 q1
  | true => exact ⟨.bl true, H1, I1, rfl, q1⟩
theorem pe_not (ha : PE X a ta) : PE X (.UnaryOp .Not a pos) (tNotV ta) := by
  intro pins s σ H Q I h
  refine UnaryOp_ (thn (ha pins s σ H _ I h) fun v s1 zpat => ?_)
  obtain ⟨x, H1, I1, r1, q1⟩ := zpat
  obtain ⟨c, rfl, q1⟩ := q1
  cases r1
  exact not_of (wpAny_truthy_bool ⟨.bl (!c), H1, I1, rfl, q1⟩)
end
end L2
namespace L2
open PySem PySem.Spec PyProof.Rows
noncomputable def SqL (K : PySem.W.Frag) (H : Hp) (a : Addr) (xs : List V) : Prop :=
  Rd H a (.lst xs) ∨
    ∃ (o : Obj) (its : Array Value) (n : Nat), K.lookup a = some o ∧ o.cls = .type "list" ∧ o.dict = none ∧ o.data = .seq its n ∧ its.size ≤ sizeLine ∧ Vals xs its.toList
noncomputable def SqT (K : PySem.W.Frag) (H : Hp) (a : Addr) (xs : List V) : Prop :=
  Rd H a (.tup xs) ∨
    ∃ (o : Obj) (its : Array Value) (n : Nat), K.lookup a = some o ∧ o.cls = .type "tuple" ∧ o.data = .seq its n ∧ its.size ≤ sizeLine ∧ Vals xs its.toList
noncomputable def absV : Value → Option V
  | .none => some .non
  | .bool b => some (.bl b)
  | .int i _ => some (.int i)
  | .str x _ => some (.str x)
  | .bytes b _ => some (.byt b)
  | .float b _ => some (.flt b)
  | .ref a => some (.ref a)
  | .type n => some (.ty n)
  | _ => none
theorem RelV.abs {x : V} {u : Value} (r : RelV x u) : absV u = some x := by
  cases x with
  | non => cases r; rfl
  | bl _ => cases r; rfl
  | int _ => obtain ⟨t, rfl⟩ := r; rfl
  | str _ => obtain ⟨t, rfl⟩ := r; rfl
  | byt _ => obtain ⟨t, rfl⟩ := r; rfl
  | flt _ => obtain ⟨t, rfl⟩ := r; rfl
  | ref _ => cases r; rfl
  | ty _ => cases r; rfl
theorem RelV.inj {x y : V} {u : Value} (r : RelV x u) (q : RelV y u) : x = y := Option.some.inj (r.abs.symm.trans q.abs)
theorem Vals.inj : ∀ {xs ys : List V} {us : List Value}, Vals xs us → Vals ys us → xs = ys
  | _, _, _, .nil, .nil => rfl
  | _, _, _, .cons r t, .cons r' t' => by rw [r.inj r', Vals.inj t t']
section
variable {X : Cx} {pins : List (Addr × Obj)} {σ : St} {H : Hp} {s : Shared} {a : Addr} {xs ys : List V}
theorem SqL.of {K : PySem.W.Frag} (h : H a = some (.lst xs)) : SqL K H a xs := .inl (.inl h)
theorem SqT.of {K : PySem.W.Frag} (h : H a = some (.tup xs)) : SqT K H a xs := .inl (.inl h)
theorem Inv.list (I : Inv X pins σ H s) (h : SqL X.K H a xs) : ∃ its : List Value, Vals xs its ∧ PlainL s.heap a its.toArray ∧ xs.length ≤ sizeLine := by
  rcases h with h | ⟨o, its, n, hk, hc, hd, hs, hz, r⟩
  · obtain ⟨z, its, n, r, e⟩ := h.ok I.hok
    exact ⟨its, r, ⟨_, n, e, rfl, rfl, rfl⟩, z⟩
  · refine ⟨its.toList, r, ⟨o, n, I.kIn a o hk, hc, hd, by simpa using hs⟩, ?_⟩
    have e := r.length
    simp only [Array.length_toList] at e
    omega
theorem Inv.tuple (I : Inv X pins σ H s) (h : SqT X.K H a xs) : ∃ its : List Value, Vals xs its ∧ IsTup s.heap a its.toArray ∧ xs.length ≤ sizeLine := by
  rcases h with h | ⟨o, its, n, hk, hc, hs, hz, r⟩
  · obtain ⟨z, its, r, p⟩ := h.ok I.hok
    exact ⟨its, r, p, z⟩
  · refine ⟨its.toList, r, ⟨o, I.kIn a o hk, hc, n, by simpa using hs⟩, ?_⟩
    have e := r.length
    simp only [Array.length_toList] at e
    omega
theorem Inv.list_inj (I : Inv X pins σ H s) (h : SqL X.K H a xs) (h' : SqL X.K H a ys) : xs = ys := by
  obtain ⟨its, r, ⟨o, n, e, _, _, d⟩, _⟩ := I.list h
  obtain ⟨its', r', ⟨o', n', e', _, _, d'⟩, _⟩ := I.list h'
  rw [e] at e'; cases e'
  rw [d] at d'
  injection d' with d1 _
  have : its = its' := by simpa using congrArg Array.toList d1
  subst this
  exact r.inj r'
theorem Inv.tuple_inj (I : Inv X pins σ H s) (h : SqT X.K H a xs) (h' : SqT X.K H a ys) : xs = ys := by
  obtain ⟨its, r, ⟨o, e, _, n, d⟩, _⟩ := I.tuple h
  obtain ⟨its', r', ⟨o', e', _, n', d'⟩, _⟩ := I.tuple h'
  rw [e] at e'; cases e'
  rw [d] at d'
  injection d' with d1 _
  have : its = its' := by simpa using congrArg Array.toList d1
  subst this
  exact r.inj r'
end
noncomputable abbrev Cx.wish (X : Cx) (E : Value → Shared → Prop) : Cx := { X with xe := E }
noncomputable abbrev Cx.nox (X : Cx) : Cx := X.wish fun _ _ => False
theorem Cx.Ok.wish {X : Cx} (ok : X.Ok) (E : Value → Shared → Prop) : (X.wish E).Ok :=
  ⟨ok.mod, ok.kind, ok.glob, ok.blt, ok.above, ok.inj, ok.has, ok.cab, ok.hd, ok.frames, ok.stk, ok.exf, ok.bs, ok.bsz, ok.noex, ok.exfs, ok.funs, ok.frf⟩
theorem Cx.Ok.unwish {X : Cx} {E : Value → Shared → Prop} (ok : (X.wish E).Ok) : X.Ok :=
  ⟨ok.mod, ok.kind, ok.glob, ok.blt, ok.above, ok.inj, ok.has, ok.cab, ok.hd, ok.frames, ok.stk, ok.exf, ok.bs, ok.bsz, ok.noex, ok.exfs, ok.funs, ok.frf⟩
section
variable {X : Cx} {pins : List (Addr × Obj)} {σ : St} {H : Hp} {s : Shared} {E : Value → Shared → Prop}
theorem Inv.wish (I : Inv X pins σ H s) (E : Value → Shared → Prop) : Inv (X.wish E) pins σ H s := ⟨I.ok.wish E, I.os, I.bare, I.base, I.loc, I.cell, I.free, I.freeC, I.pin, I.hok, I.len⟩
theorem Inv.unwish (I : Inv (X.wish E) pins σ H s) : Inv X pins σ H s := ⟨I.ok.unwish, I.os, I.bare, I.base, I.loc, I.cell, I.free, I.freeC, I.pin, I.hok, I.len⟩
theorem SP.unwish {D : Ends} {f : Flow} {s' : Shared} (h : SP (X.wish E) pins D f s') : SP X pins D f s' := by
  cases f with
  | next => obtain ⟨σ', H', I, q⟩ := h; exact ⟨σ', H', I.unwish, q⟩
  | brk => obtain ⟨σ', H', I, q⟩ := h; exact ⟨σ', H', I.unwish, q⟩
  | cont => obtain ⟨σ', H', I, q⟩ := h; exact ⟨σ', H', I.unwish, q⟩
  | ret u => obtain ⟨v, σ', H', I, r, q⟩ := h; exact ⟨v, σ', H', I.unwish, r, q⟩
theorem PE.nox {e : Expr} {t : TE} (h : PE X.nox e t) : PE X e t := fun pins s σ H Q I hw =>
  wpAny_mono (h pins s σ H Q (I.wish _) hw) (fun _ _ ⟨v, H', I', r, q⟩ => ⟨v, H', I'.unwish, r, q⟩) fun _ _ z => False.elim z
theorem PT.nox {e : Expr} {t : TT} (h : PT X.nox e t) : PT X e t := fun pins s σ H Q I hw =>
  wpAny_mono (h pins s σ H Q (I.wish _) hw) (fun _ _ ⟨H', I', q⟩ => ⟨H', I'.unwish, q⟩) fun _ _ z => False.elim z
theorem PSs.nox {st : List Stmt} {t : TS} (h : PSs X.nox st t) : PSs X st t := fun pins s σ H D I hw =>
  wpAny_mono (h pins s σ H D (I.wish _) hw) (fun _ _ q => q.unwish) fun _ _ z => False.elim z
end
section
variable {X : Cx} {st : Stmt} {rest : List Stmt} {t u : TS} {e : Expr} {te : TE} {pos : Pos}
noncomputable def tNext : TS := fun D σ H => D.nx σ H
noncomputable def tSeq (t u : TS) : TS := fun D σ H => t { D with nx := u D } σ H
theorem pss_nil : PSs X [] tNext := fun _ _ σ H _ I h => wpAny_execs_nil ⟨σ, H, I, h⟩
theorem pss_cons (h1 : PS X st t) (h2 : PSs X rest u) : PSs X (st :: rest) (tSeq t u) := by
  intro pins s σ H D I h
  refine wpAny_execs_cons (thn (h1 pins s σ H { D with nx := u D } I h) fun f s1 q => ?_)
  cases f with
  | next =>
    obtain ⟨σ', H', I', q⟩ := q
    exact h2 pins s1 σ' H' D I' q
  | ret v => exact q
  | brk => exact q
  | cont => exact q
theorem pss_one (h1 : PS X st t) : PSs X [st] t := by
  intro pins s σ H D I h
  refine wpAny_execs_cons (thn (h1 pins s σ H D I h) fun f s1 q => ?_)
  cases f with
  | next => exact wpAny_execs_nil q
  | ret v => exact q
  | brk => exact q
  | cont => exact q
theorem Inv.quiet {pins : List (Addr × Obj)} {σ : St} {H : Hp} {s : Shared} (I : Inv X pins σ H s) : interactive X.env = false := by simp [interactive, I.ok.kind]
noncomputable def tDrop (te : TE) : TS := fun D σ H => te σ H fun _ H1 => D.nx σ H1
theorem ps_expr (he : PE X e te) (hs : swapsWith e none pos.line X.env = pure false := by rfl) : PS X (.Expr e pos) (tDrop te) := by
  intro pins s σ H D I h
  exact wpAny_Expr_any (thn (he pins s σ H _ I h) fun v s1 ⟨x, H1, I1, r1, q1⟩ => ⟨σ, H1, I1, q1⟩) I.quiet hs
noncomputable def tRet (te : TE) : TS := fun D σ H => te σ H D.rt
theorem ps_ret (he : PE X e te) : PS X (.Return (some e) pos) (tRet te) := by
  intro pins s σ H D I h
  exact wpAny_Return_some (thn (he pins s σ H _ I h) fun v s1 ⟨x, H1, I1, r1, q1⟩ => ⟨x, σ, H1, I1, r1, q1⟩)
noncomputable def tIfS (c : TT) (t u : TS) : TS := fun D σ H => c σ H fun b H1 => if b = true then t D σ H1 else u D σ H1
theorem ps_if {c : Expr} {a b : List Stmt} {tc : TT} (hc : PT X c tc) (ha : PSs X a t) (hb : PSs X b u) : PS X (.If c a b pos) (tIfS tc t u) := by
  intro pins s σ H D I h
  refine wpAny_If (thn (hc pins s σ H _ I h) fun d s1 zpat => ?_)
  obtain ⟨H1, I1, q1⟩ := zpat
  cases d with
  | true => exact ha pins s1 σ H1 D I1 q1
  | false => exact hb pins s1 σ H1 D I1 q1
end
noncomputable abbrev TG := V → St → Hp → (St → Hp → Prop) → Prop
noncomputable abbrev TGs := List V → St → Hp → (St → Hp → Prop) → Prop
noncomputable def PG (X : Cx) (target : Expr) (t : TG) : Prop :=
  ∀ (pins : List (Addr × Obj)) (s : Shared) (σ : St) (H : Hp) (v : V) (u : Value) (Q : St → Hp → Prop), Inv X pins σ H s → RelV v u → t v σ H Q →
    wpAny (model X.prog X.w) X.A (assign target X.env u) (fun _ s' => ∃ σ' H', Inv X pins σ' H' s' ∧ Q σ' H') X.xe s
noncomputable def PGs (X : Cx) (ts : List Expr) (t : TGs) : Prop :=
  ∀ (pins : List (Addr × Obj)) (s : Shared) (σ : St) (H : Hp) (vs : List V) (us : List Value) (Q : St → Hp → Prop), Inv X pins σ H s → Vals vs us → t vs σ H Q →
    wpAny (model X.prog X.w) X.A (assignInOrder ((assignEach ts X.env).map (·.2)) us) (fun _ s' => ∃ σ' H', Inv X pins σ' H' s' ∧ Q σ' H') X.xe s
section
variable {X : Cx} {pos : Pos}
noncomputable def gName (i : Nat) : TG := fun v σ H Q => Q (σ.set i (some v)) H
theorem pg_name {i : Nat} {x : Str} (hN : X.N.Nodup) (hi : X.N[i]? = some x) (hx : Loc X.env.scope x) (hf : X.fn x = true ∨ X.env.scope.names.lookup x = some .local := by first | exact .inl rfl | exact .inr rfl | assumption) : PG X (.Name x pos) (gName i) := by
  intro pins s σ H v u Q I r h
  exact wpAny_assign_Name (store_ok I hN hi hx r (fun s' I' => ⟨_, H, I', h⟩) hf)
noncomputable def gNil : TGs := fun vs σ H Q => vs = [] ∧ Q σ H
noncomputable def gCons (t : TG) (u : TGs) : TGs := fun vs σ H Q => ∃ v r, vs = v :: r ∧ t v σ H fun σ' H' => u r σ' H' Q
theorem pgs_nil : PGs X [] gNil := by
  intro pins s σ H vs us Q I r h
  obtain ⟨e, h⟩ := h
  subst e
  cases r
  exact assignInOrder_nil ⟨σ, H, I, h⟩
theorem pgs_cons {e : Expr} {es : List Expr} {t : TG} {u : TGs} (h1 : PG X e t) (h2 : PGs X es u)
    (hs : (assignEach (e :: es) X.env).map (·.2) = assign e X.env :: (assignEach es X.env).map (·.2) := by rfl) : PGs X (e :: es) (gCons t u) := by
  intro pins s σ H vs us Q I r h
  obtain ⟨v, vr, e1, h⟩ := h
  subst e1
  cases r with
  | cons r rr =>
    rw [hs]
    refine assignInOrder_cons (thn (h1 pins s σ H _ _ _ I r h) fun _ s1 zpat => ?_)
    obtain ⟨σ1, H1, I1, q1⟩ := zpat
    exact h2 pins s1 σ1 H1 _ _ Q I1 rr q1
noncomputable def gTup (K : PySem.W.Frag) (n : Nat) (t : TGs) : TG := fun v σ H Q => ∃ a xs, v = .ref a ∧ SqT K H a xs ∧ xs.length = n ∧ t xs σ H Q
theorem pg_tup {es : List Expr} {k : Nat} {t : TGs} {n : Nat} (hc : X.calm = true) (h : PGs X es t)
    (hn : (assignEach es X.env).length = n := by rfl) (hst : (assignEach es X.env).findIdx? (·.1) = none := by rfl) : PG X (.Tuple es k pos) (gTup X.K n t) := by
  intro pins s σ H v u Q I r hw
  obtain ⟨a, xs, e1, hq, hl, hw⟩ := hw
  subst e1
  cases r
  obtain ⟨its, rv, ht, hz⟩ := I.tuple hq
  refine assign_Tuple_tuple (I.ok.hd hc) ht (by simp [hn, ← hl, rv.length]) hst fun h' hx => ?_
  have I1 : Inv X pins σ H { s with heap := h' } := I.kept (t' := s.toks) fun b o e => hx b o (Nat.ne_of_lt (Heap.lt_size e)) e
  exact h pins _ σ H xs _ Q I1 (by simpa using rv) hw
noncomputable def tAsg (te : TE) (g : TG) : TS := fun D σ H => te σ H fun x H1 => g x σ H1 D.nx
theorem ps_set {i : Nat} {x : Str} {e : Expr} {te : TE} {pos' : Pos} (hN : X.N.Nodup) (hi : X.N[i]? = some x) (hx : Loc X.env.scope x) (he : PE X e te) (hs : swapsWith e (some (.Name x pos')) pos.line X.env = pure false := by rfl) (hf : X.fn x = true ∨ X.env.scope.names.lookup x = some .local := by first | exact .inl rfl | exact .inr rfl | assumption) :
    PS X (.Assign [.Name x pos'] e pos) (tAsg te (gName i)) := by
  intro pins s σ H D I h
  refine wpAny_Assign_Name (thn (he pins s σ H _ I h) fun v s1 zpat => ?_) hs
  obtain ⟨y, H1, I1, r1, q1⟩ := zpat
  exact store_ok I1 hN hi hx r1 (fun s2 I2 => ⟨_, H1, I2, q1⟩) hf
end
section
variable {X : Cx} {pos : Pos}
end
structure It where
  go : Nat → Hp → Prop
  yld : Nat → Hp → V → Hp → Prop
  stop : Nat → Hp → Prop
noncomputable def FpOk (X : Cx) (pins : List (Addr × Obj)) (H : Hp) (b : Addr) : Prop :=
  H b = none ∧ b ≠ X.env.locals ∧ b ∉ X.fs ∧ (b ∈ X.ex ∨ X.s₀.heap.objs.size ≤ b) ∧ (∀ x c, X.env.cells.lookup x = some c → c ≠ b) ∧ ∀ p ∈ X.pn ++ pins, p.1 ≠ b
theorem Inv.fpOk {X : Cx} {pins : List (Addr × Obj)} {σ : St} {H H' : Hp} {s : Shared} {b : Addr} (I : Inv X pins σ H s) (hb : s.heap.objs.size ≤ b) (hn : H' b = none) : FpOk X pins H' b := by
  refine ⟨hn, Nat.ne_of_gt (Nat.lt_of_lt_of_le I.lt hb), I.nofs hb, .inr (Nat.le_trans I.sz hb), fun x c e z => ?_, fun p hp z => ?_⟩
  · obtain ⟨v, q⟩ := I.cell x c e
    exact absurd (Nat.lt_of_lt_of_le q.lt (by rw [z]; exact hb)) (Nat.lt_irrefl _)
  · exact absurd (Nat.lt_of_lt_of_le (Heap.lt_size (I.pin p hp).1) (by rw [z]; exact hb)) (Nat.lt_irrefl _)
structure Turn (P : Program) (w : World) (K : PySem.W.Frag) (tg : Expr) (J : It) (fp : List Addr) (it : Addr) (tn : Nat → Heap → Prop) : Prop where
  mem : it ∈ fp
  obj : ∀ i h, tn i h → ∀ b ∈ fp, ∃ o, h.get? b = some o ∧ ∀ v, o.data ≠ .cell v
  keep : ∀ i h h', tn i h → (∀ b ∈ fp, ∀ o, h.get? b = some o → h'.get? b = some o) → tn i h'
  item : ∀ (X : Cx), X.prog = P → X.w = w → X.K = K → X.calm = true → ∀ (i : Nat) (pins : List (Addr × Obj)) (s : Shared) (σ : St) (H : Hp) (E : Value → Shared → Prop), Inv X pins σ H s → (∀ b ∈ fp, FpOk X pins H b) → tn i s.heap → J.go i H →
    wpAny (model P w) X.A (pyNext (.ref it)) (fun r s1 => ∃ u, r = some u ∧
      wpAny (model P w) X.A (letOwnedTupleGo tg (.ref it) u) (fun _ s2 => ∃ x H', Inv X pins σ H' s2 ∧ RelV x u ∧ J.yld i H x H' ∧ tn (i + 1) s2.heap ∧ ∀ b ∈ fp, H' b = none) E s1) E s
  done : ∀ (X : Cx), X.prog = P → X.w = w → X.K = K → X.calm = true → ∀ (i : Nat) (pins : List (Addr × Obj)) (s : Shared) (σ : St) (H : Hp) (E : Value → Shared → Prop), Inv X pins σ H s → (∀ b ∈ fp, FpOk X pins H b) → tn i s.heap → J.stop i H →
    wpAny (model P w) X.A (pyNext (.ref it)) (fun r s1 => r = none ∧ Inv X pins σ H s1) E s
  self : ∀ (A : Around) (i : Nat) (s : Shared) (Q : Value → Shared → Prop) (E : Value → Shared → Prop), tn i s.heap → Q (.ref it) s → wpAny (model P w) A (pyIter (.ref it)) Q E s
noncomputable abbrev TI := St → Hp → (It → Hp → Prop) → Prop
noncomputable def PIE (X : Cx) (pins : List (Addr × Obj)) (σ : St) (tg : Expr) (R : It → Hp → Prop) (itv : Value) (s2 : Shared) : Prop :=
  ∃ (it : Addr) (fp : List Addr) (tn : Nat → Heap → Prop) (J : It) (H' : Hp), itv = .ref it ∧ Inv X pins σ H' s2 ∧ Turn X.prog X.w X.K tg J fp it tn ∧ tn 0 s2.heap ∧ (∀ b ∈ fp, FpOk X pins H' b) ∧ R J H'
noncomputable def PI (X : Cx) (tg iter : Expr) (wi : TI) : Prop :=
  ∀ (pins : List (Addr × Obj)) (s : Shared) (σ : St) (H : Hp) (R : It → Hp → Prop), Inv X pins σ H s → wi σ H R →
    wpAny (model X.prog X.w) X.A (eval iter X.env) (fun v s1 => wpAny (model X.prog X.w) X.A (pyIter v) (PIE X pins σ tg R) X.xe s1) X.xe s
theorem go_of {M : Model} {A : Around} {E : Value → Shared → Prop} {s : Shared} {tg : Expr} {it : Addr} {u : Value} {o : Obj} {n : String} {vs : Array Value} {Q : Unit → Shared → Prop} (ho : s.heap.get? it = some o) (hc : o.cls = .type n) (hd : o.data = .fields vs)
    (hn : ["enumerate", "zip", "dict_itemiterator", "dict_reverseitemiterator", "odict_iterator", "itertools.zip_longest", "itertools.pairwise"].contains n = false) (hQ : Q () s) : wpAny M A (letOwnedTupleGo tg (.ref it) u) Q E s := by
  unfold letOwnedTupleGo
  cases tg <;> first
    | exact wpAny_pure hQ
    | (cases u <;> first
        | exact wpAny_pure hQ
        | (refine wpAny_bind (wpAny_load ho ?_)
           rw [hc, hd]
           show wpAny M A (if (["enumerate", "zip", "dict_itemiterator", "dict_reverseitemiterator", "odict_iterator", "itertools.zip_longest", "itertools.pairwise"].contains n && vs[0]? == some (rawInt _)) = true then _ else _) Q E s
           rw [if_neg (by intro h; rw [hn, Bool.false_and] at h; cases h)]
           exact wpAny_pure hQ))
noncomputable def Itl (K : PySem.W.Frag) (a : Addr) : It :=
  ⟨fun i H => ∃ xs x, SqL K H a xs ∧ xs[i]? = some x, fun i H x H' => H' = H ∧ ∀ xs, SqL K H a xs → xs[i]? = some x, fun i H => ∃ xs, SqL K H a xs ∧ xs.length ≤ i⟩
noncomputable def Itr (lo : Int) (n : Nat) : It := ⟨fun i _ => i < n, fun i H x H' => H' = H ∧ x = .int (lo + i), fun i _ => n ≤ i⟩
theorem turn_list {P : Program} {w : World} {K : PySem.W.Frag} {tg : Expr} (a it : Addr) : Turn P w K tg (Itl K a) [it] it (fun i h => h.IsListIter it a i) where
  mem := by simp
  obj := fun i h st b hb => by
    have e : b = it := by simpa using hb
    subst e
    obtain ⟨o, e, c, d⟩ := st
    exact ⟨o, e, fun v z => by rw [d] at z; cases z⟩
  keep := fun i h h' st k => st.at fun o e => k it (by simp) o e
  item := by
    intro X hP hw hK hc i pins s σ H E I hf st hg
    subst hP hw hK
    obtain ⟨xs, x, hq, hx⟩ := hg
    obtain ⟨its, rv, p, hz⟩ := I.list hq
    obtain ⟨u, hu, ru⟩ := rv.get hx
    obtain ⟨f0, f1, f2, f3, f4, f5⟩ := hf it (by simp)
    refine wpAny_pyNext_list_item st p.isList (x := u) (by simpa using hu) fun h' st' sb => ?_
    have I1 : Inv X pins σ H { s with heap := h' } := I.turned (t' := s.toks) (fun b o hb e => (sb.2 b hb).trans e) f0 f1 f3 f4 f5
    obtain ⟨o, e, c, d⟩ := id st'
    exact ⟨u, rfl, go_of (s := { s with heap := h' }) e c d (by decide) ⟨x, H, I1, ru, ⟨rfl, fun ys hy => by rw [I.list_inj hy hq]; exact hx⟩, st', fun b hb => (hf b hb).1⟩⟩
  done := by
    intro X hP hw hK hc i pins s σ H E I hf st hg
    subst hP hw hK
    obtain ⟨xs, hq, hx⟩ := hg
    obtain ⟨its, rv, p, hz⟩ := I.list hq
    obtain ⟨f0, f1, f2, f3, f4, f5⟩ := hf it (by simp)
    have hl := rv.length
    exact wpAny_pyNext_list_end (I.ok.hd hc) st p.isList (by simp; omega) fun h' eb => ⟨rfl, I.turned (t' := s.toks) (fun b o hb e => eb b o hb e) f0 f1 f3 f4 f5⟩
  self := fun _ _ _ _ _ st h => wpAny_pyIter_listiter st h
theorem turn_range {P : Program} {w : World} {K : PySem.W.Frag} {tg : Expr} (it : Addr) (lo : Int) (n : Nat) : Turn P w K tg (Itr lo n) [it] it (fun i h => IsRangeIter h it (lo + (i : Nat) * 1) ((n : Int) - (i : Nat)) 1) where
  mem := by simp
  obj := fun i h st b hb => by
    have e : b = it := by simpa using hb
    subst e
    exact ⟨_, st, fun v z => by
      have z' : Data.fields _ = Data.cell v := z
      cases z'⟩
  keep := fun i h h' st k => k it (by simp) _ st
  item := by
    intro X hP hw hK hc i pins s σ H E I hf st hg
    subst hP hw hK
    obtain ⟨f0, f1, f2, f3, f4, f5⟩ := hf it (by simp)
    have W := Walks.range (prog := X.prog) (w := X.w) (I.ok.hd hc) it lo 1 n
    refine W.item i s _ _ hg st fun v h' tk hv st' kk => ?_
    obtain ⟨t, rfl⟩ := hv
    have I1 : Inv X pins σ H { s with heap := h', toks := tk } := I.turned (fun b o hb e => kk b o (by simpa using hb) e) f0 f1 f3 f4 f5
    refine ⟨_, rfl, go_of (s := { s with heap := h', toks := tk }) (n := "range_iterator") st' rfl rfl (by decide) ⟨.int (lo + i), H, I1, ⟨t, ?_⟩, ⟨rfl, rfl⟩, st', fun b hb => (hf b hb).1⟩⟩
    rw [Int.mul_one]
  done := by
    intro X hP hw hK hc i pins s σ H E I hf st hg
    subst hP hw hK
    obtain ⟨f0, f1, f2, f3, f4, f5⟩ := hf it (by simp)
    exact wpAny_pyNext_range_end (I.ok.hd hc) st (by have : n ≤ i := hg; omega) fun h' eb => ⟨rfl, I.turned (t' := s.toks) (fun b o hb e => eb b o hb e) f0 f1 f3 f4 f5⟩
  self := fun _ _ _ _ _ st h => wpAny_pyIter_rangeiter st h
end L2
namespace L2
open PySem PySem.Spec PyProof.Rows
section
variable {X : Cx} {tg : Expr}
noncomputable def iList (K : PySem.W.Frag) (tl : TE) : TI := fun σ H R => tl σ H fun x H1 => ∃ a, x = .ref a ∧ (∃ xs, SqL K H1 a xs) ∧ R (Itl K a) H1
theorem pi_list {l : Expr} {tl : TE} (hl : PE X l tl) : PI X tg l (iList X.K tl) := by
  intro pins s σ H R I h
  refine thn (hl pins s σ H _ I h) fun v s1 zpat => ?_
  obtain ⟨x, H1, I1, r1, q1⟩ := zpat
  obtain ⟨a, e, ⟨xs, hq⟩, q⟩ := q1
  subst e
  cases r1
  obtain ⟨its, rv, p, hz⟩ := I1.list hq
  refine wpAny_pyIter_list p.isList ?_
  refine ⟨s1.heap.objs.size, [s1.heap.objs.size], _, _, H1, rfl, I1.kept (t' := s1.toks) fun b o e => Heap.get?_push_of_some _ e, turn_list a _, ⟨_, Heap.get?_push_size _ rfl, rfl, rfl⟩, fun b hb => ?_, q⟩
  have e : b = s1.heap.objs.size := by simpa using hb
  subst e
  exact I1.fpOk (Nat.le_refl _) (I1.hok.fresh (Nat.le_refl _))
theorem range_it {pins : List (Addr × Obj)} {σ : St} {H : Hp} {s : Shared} {R : It → Hp → Prop} {E : Value → Shared → Prop} {lo hi : Int} {t u v : Tok} {tk : Nat} (I : Inv X pins σ H s) (h1 : -(2 ^ 62) ≤ lo) (h2 : lo < 2 ^ 62) (h3 : -(2 ^ 62) ≤ hi) (h4 : hi < 2 ^ 62)
    (q : R (Itr lo (hi - lo).toNat) H) : wpAny (model X.prog X.w) X.A (pyIter (.ref s.heap.objs.size)) (PIE X pins σ tg R) E { s with heap := s.heap.push { cls := .type "range", data := .fields #[.int lo t, .int hi u, .int 1 v] }, toks := tk } := by
  refine wpAny_pyIter_range (IsRange.new ..) (small_one h1 h2 h3 h4) ?_
  have I1 : Inv X pins σ H { s with heap := s.heap.push { cls := .type "range", data := .fields #[.int lo t, .int hi u, .int 1 v] }, toks := tk } := I.kept fun b o e => Heap.get?_push_of_some _ e
  refine ⟨(s.heap.push { cls := .type "range", data := .fields #[.int lo t, .int hi u, .int 1 v] }).objs.size, [(s.heap.push { cls := .type "range", data := .fields #[.int lo t, .int hi u, .int 1 v] }).objs.size], _, _, H, rfl,
    I1.kept (t' := tk) fun b o e => Heap.get?_push_of_some _ e, turn_range _ lo (hi - lo).toNat, ?_, fun b hb => ?_, q⟩
  · have e1 : lo + ((0 : Nat) : Int) * 1 = lo := by simp
    have e2 : (((hi - lo).toNat : Nat) : Int) - ((0 : Nat) : Int) = Builtin.Range.rangeSize lo hi 1 := by rw [rangeSize_one]; split <;> omega
    show IsRangeIter _ _ (lo + ((0 : Nat) : Int) * 1) ((((hi - lo).toNat : Nat) : Int) - ((0 : Nat) : Int)) 1
    rw [e1, e2]
    exact Heap.get?_push_size _ rfl
  · have e : b = (s.heap.push { cls := .type "range", data := .fields #[.int lo t, .int hi u, .int 1 v] }).objs.size := by simpa using hb
    subst e
    exact I1.fpOk (Nat.le_refl _) (I1.hok.fresh (Nat.le_refl _))
noncomputable def iRng1 (ta : TA) : TI := fun σ H R => ta σ H fun vs H1 => ∃ j : Int, vs = [.int j] ∧ -(2 ^ 62) ≤ j ∧ j < 2 ^ 62 ∧ R (Itr 0 j.toNat) H1
theorem pi_range1 {a : Expr} {ta : TA} {p pos : Pos} (hg : Gl X "range") (hm : X.mg "range" = none) (ha : PA X [a] ta) (hs : starEach [a] X.env = [(false, eval a X.env)] := by rfl) : PI X tg (.Call (.Name "range" p) [a] [] pos) (iRng1 ta) := by
  intro pins s σ H R I h
  refine Call_ (ld_blt I hg hm boot_range (PyProof.Rows.callWith_type1 (thn (ha pos pins s σ H _ I h) fun us s1 zpat => ?_) hs rfl))
  obtain ⟨vs, H1, I1, r1, q1⟩ := zpat
  obtain ⟨j, e, q1, q2, q⟩ := q1
  subst e
  cases r1 with
  | cons r rr =>
    cases rr
    obtain ⟨t, rfl⟩ := r
    exact call_range_1 (range_it I1 (by omega) (by omega) q1 q2 (by simpa using q))
noncomputable def tFor (wi : TI) (g : TG) (tb : TS) : TS := fun D σ H => wi σ H fun J H1 => ∃ W : Nat → Nat → St → Hp → Prop, (∃ m, W 0 m σ H1) ∧ ∀ i m σ H, W i m σ H →
  (J.stop i H ∧ D.nx σ H) ∨ (J.go i H ∧ ∃ N : St → Hp → Prop, (∀ σ' H', N σ' H' → ∃ m', m' < m ∧ W (i + 1) m' σ' H') ∧ ∀ x H', J.yld i H x H' → g x σ H' fun σ2 H2 => tb { D with nx := N, ct := N, bk := D.nx } σ2 H2)
noncomputable def pinsAt (fp : List Addr) (h : Heap) : List (Addr × Obj) := fp.filterMap fun b => (h.get? b).map fun o => (b, o)
theorem mem_pinsAt {fp : List Addr} {h : Heap} {b : Addr} {o : Obj} (hb : b ∈ fp) (e : h.get? b = some o) : (b, o) ∈ pinsAt fp h := List.mem_filterMap.mpr ⟨b, hb, by rw [e]; rfl⟩
theorem of_pinsAt {fp : List Addr} {h : Heap} {p : Addr × Obj} (hp : p ∈ pinsAt fp h) : p.1 ∈ fp ∧ h.get? p.1 = some p.2 := by
  obtain ⟨b, hb, e⟩ := List.mem_filterMap.mp hp
  cases q : h.get? b with
  | none => rw [q] at e; cases e
  | some o =>
    rw [q] at e
    have e' : (b, o) = p := Option.some.inj e
    subst e'
    exact ⟨hb, q⟩
theorem Inv.pinned {pins : List (Addr × Obj)} {σ : St} {H : Hp} {s : Shared} {fp : List Addr} (I : Inv X pins σ H s) (hf : ∀ b ∈ fp, FpOk X pins H b) (ho : ∀ b ∈ fp, ∃ o, s.heap.get? b = some o ∧ ∀ v, o.data ≠ .cell v) : Inv X (pins ++ pinsAt fp s.heap) σ H s :=
  I.pins_of fun p hp => (List.mem_append.mp hp).elim (fun z => I.pin p (List.mem_append_right _ z)) fun z => by
    obtain ⟨hb, e⟩ := of_pinsAt z
    obtain ⟨f0, f1, f2, _⟩ := hf p.1 hb
    obtain ⟨o, e', d⟩ := ho p.1 hb
    rw [e] at e'; cases e'
    exact ⟨e, f0, f1, f2, d⟩
theorem Inv.unpinned {pins pl : List (Addr × Obj)} {σ : St} {H : Hp} {s : Shared} (I : Inv X (pins ++ pl) σ H s) : Inv X pins σ H s := I.pins_of fun p hp => I.pin p (List.mem_append_right _ (List.mem_append_left _ hp))
theorem ps_for {iter : Expr} {body : List Stmt} {wi : TI} {g : TG} {tb : TS} {pos : Pos} (hp : PassesOwn (model X.prog X.w) X.A X.env X.xe) (hc : X.calm = true) (hi : PI X tg iter wi) (hg : PG X tg g) (hb : PSs X body tb)
    (hs : ∀ x, foldedSetIterable iter X.env x = pure x := by intro _; rfl) : PS X (.For tg iter body [] pos) (tFor wi g tb) := by
  intro pins s σ H D I h
  refine wpAny_For (thn (hi pins s σ H _ I h) fun v s1 h1 => thn h1 fun itv s2 h2 => ?_) hs
  obtain ⟨it, fp, tn, J, H2, e, I2, T, st2, f2, W, ⟨m0, w0⟩, turn⟩ := h2
  subst e
  -- what stays true of the iterator's objects through the loop
  have stat : ∀ {H' : Hp}, (∀ b ∈ fp, H' b = none) → ∀ b ∈ fp, FpOk X pins H' b := fun hn b hb => ⟨hn b hb, (f2 b hb).2⟩
  refine codeAny_forLoop_any (fun n s' => ∃ i σ' H', Inv X pins σ' H' s' ∧ tn i s'.heap ∧ (∀ b ∈ fp, H' b = none) ∧ W i n σ' H') ?_ m0 ⟨0, σ, H2, I2, st2, fun b hb => (f2 b hb).1, w0⟩
  rintro n s3 ⟨i, σ3, H3, I3, st3, fr3, w3⟩
  rcases turn i n σ3 H3 w3 with ⟨stop, qn⟩ | ⟨go, N, hN, step⟩
  · refine wpAny_passesOwn hp (thn (T.done X rfl rfl rfl hc i pins s3 σ3 H3 X.xe I3 (stat fr3) st3 stop) fun r s4 zpat => ?_)
    obtain ⟨hr, I4⟩ := zpat
    subst hr
    exact wpAny_execs_nil ⟨σ3, H3, I4, qn⟩
  · refine wpAny_passesOwn hp (thn (T.item X rfl rfl rfl hc i pins s3 σ3 H3 X.xe I3 (stat fr3) st3 go) fun r s4 zpat => ?_)
    obtain ⟨u, hr, h4⟩ := zpat
    subst hr
    refine wpAny_passesOwn hp (thn h4 fun _ s5 zpat => ?_)
    obtain ⟨x, H5, I5, r5, y5, st5, fr5⟩ := zpat
    have I5' := I5.pinned (stat fr5) (T.obj _ _ st5)
    refine wpAny_passesOwn hp (thn (hg _ s5 σ3 H5 x u _ I5' r5 (step x H5 y5)) fun _ s6 zpat => ?_)
    obtain ⟨σ6, H6, I6, q6⟩ := zpat
    refine wpAny_passesOwn hp (thn (hb _ s6 σ6 H6 _ I6 q6) fun f s7 q7 => ?_)
    have again : ∀ {σ7 : St} {H7 : Hp}, Inv X (pins ++ pinsAt fp s5.heap) σ7 H7 s7 → N σ7 H7 → ∃ m, m < n ∧ ∃ i σ' H', Inv X pins σ' H' s7 ∧ tn i s7.heap ∧ (∀ b ∈ fp, H' b = none) ∧ W i m σ' H' := fun {σ7 H7} I7 n7 => by
      obtain ⟨m', hm, w7⟩ := hN σ7 H7 n7
      refine ⟨m', hm, i + 1, σ7, H7, I7.unpinned, T.keep _ _ _ st5 fun b hb o e => (I7.pin (b, o) (List.mem_append_right _ (List.mem_append_right _ (mem_pinsAt hb e)))).1, fun b hb => ?_, w7⟩
      obtain ⟨o, e, d⟩ := T.obj _ _ st5 b hb
      exact (I7.pin (b, o) (List.mem_append_right _ (List.mem_append_right _ (mem_pinsAt hb e)))).2.1
    cases f with
    | next => obtain ⟨σ7, H7, I7, n7⟩ := q7; exact again I7 n7
    | cont => obtain ⟨σ7, H7, I7, n7⟩ := q7; exact again I7 n7
    | brk => obtain ⟨σ7, H7, I7, q7⟩ := q7; exact ⟨σ7, H7, I7.unpinned, q7⟩
    | ret v => obtain ⟨x7, σ7, H7, I7, r7, q7⟩ := q7; exact ⟨x7, σ7, H7, I7.unpinned, r7, q7⟩
end
theorem for_list {K : PySem.W.Frag} {a : Addr} {xs : List V} {g : TG} {tb : TS} {D : Ends} {σ : St} {H : Hp} (Pv : Nat → St → Hp → Prop) (h0 : Pv 0 σ H) (hl : ∀ i σ H, i ≤ xs.length → Pv i σ H → SqL K H a xs)
    (hs : ∀ i x σ H, xs[i]? = some x → Pv i σ H → g x σ H fun σ2 H2 => tb { D with nx := Pv (i + 1), ct := Pv (i + 1), bk := D.nx } σ2 H2) (hd : ∀ σ H, Pv xs.length σ H → D.nx σ H) :
    ∃ W : Nat → Nat → St → Hp → Prop, (∃ m, W 0 m σ H) ∧ ∀ i m σ H, W i m σ H →
      ((Itl K a).stop i H ∧ D.nx σ H) ∨ ((Itl K a).go i H ∧ ∃ N : St → Hp → Prop, (∀ σ' H', N σ' H' → ∃ m', m' < m ∧ W (i + 1) m' σ' H') ∧ ∀ x H', (Itl K a).yld i H x H' → g x σ H' fun σ2 H2 => tb { D with nx := N, ct := N, bk := D.nx } σ2 H2) := by
  refine ⟨fun i m σ H => m = xs.length - i ∧ i ≤ xs.length ∧ Pv i σ H, ⟨xs.length, by simp, Nat.zero_le _, h0⟩, ?_⟩
  rintro i m σ H ⟨rfl, hi, p⟩
  have q := hl i σ H hi p
  by_cases hlt : i < xs.length
  · refine .inr ⟨⟨xs, xs[i], q, by simp [hlt]⟩, Pv (i + 1), fun σ' H' p' => ⟨xs.length - (i + 1), by omega, rfl, hlt, p'⟩, fun x H' y => ?_⟩
    obtain ⟨e, y⟩ := y
    subst e
    exact hs i x σ _ (y xs q) p
  · have e : i = xs.length := by omega
    subst e
    exact .inl ⟨⟨xs, q, Nat.le_refl _⟩, hd σ H p⟩
end L2
namespace L2
open PySem PySem.Spec PyProof.Rows
noncomputable abbrev R2 := V → V → Hp → VK → Prop
noncomputable def OpR (X : Cx) (f : Value → Value → Sem Value) (r : R2) : Prop :=
  ∀ (pins : List (Addr × Obj)) (s : Shared) (σ : St) (H : Hp) (x y : V) (v u : Value) (Q : VK), Inv X pins σ H s → RelV x v → RelV y u → r x y H Q →
    wpAny (model X.prog X.w) X.A (f v u) (EP X pins σ Q) X.xe s
noncomputable def UnR (X : Cx) (f : Value → Sem Value) (r : V → Hp → VK → Prop) : Prop :=
  ∀ (pins : List (Addr × Obj)) (s : Shared) (σ : St) (H : Hp) (x : V) (v : Value) (Q : VK), Inv X pins σ H s → RelV x v → r x H Q →
    wpAny (model X.prog X.w) X.A (f v) (EP X pins σ Q) X.xe s
noncomputable def CallR (X : Cx) (f : Value) (r : List V → Hp → VK → Prop) : Prop :=
  ∀ (pins : List (Addr × Obj)) (s : Shared) (σ : St) (H : Hp) (xs : List V) (us : List Value) (Q : VK), Inv X pins σ H s → Vals xs us → r xs H Q →
    wpAny (model X.prog X.w) X.A (call f us) (EP X pins σ Q) X.xe s
noncomputable def tOp (r : R2) (ta tb : TE) : TE := fun σ H Q => ta σ H fun x H1 => tb σ H1 fun y H2 => r x y H2 Q
noncomputable def tUn (r : V → Hp → VK → Prop) (ta : TE) : TE := fun σ H Q => ta σ H fun x H1 => r x H1 Q
inductive II (C : Int → Int → Prop) (g : Int → Int → V) (x y : V) (H : Hp) (Q : VK) : Prop where
  | mk (i j : Int) (ex : x = .int i) (ey : y = .int j) (c : C i j) (q : Q (g i j) H) : II C g x y H Q
noncomputable def rI (C : Int → Int → Prop) (g : Int → Int → V) : R2 := fun x y H Q => II C g x y H Q
inductive II0 (g : Int → Int → V) (x y : V) (H : Hp) (Q : VK) : Prop where
  | mk (i j : Int) (ex : x = .int i) (ey : y = .int j) (q : Q (g i j) H) : II0 g x y H Q
noncomputable def rI0 (g : Int → Int → V) : R2 := fun x y H Q => II0 g x y H Q
noncomputable def rU (g : Int → V) : V → Hp → VK → Prop := fun x H Q => ∃ i, x = .int i ∧ Q (g i) H
section
variable {X : Cx} {a b c : Expr} {ta tb tc : TE} {pos : Pos}
theorem binT (ha : PE X a ta) (hb : PE X b tb) {pins : List (Addr × Obj)} {s : Shared} {σ : St} {H : Hp} {R : V → V → Hp → Prop} (I : Inv X pins σ H s)
    (h : ta σ H fun x H1 => tb σ H1 fun y H2 => R x y H2) {Q : Value → Shared → Prop} {f : Value → Value → Sem Value}
    (hf : ∀ v u s2 x y H2, Inv X pins σ H2 s2 → RelV x v → RelV y u → R x y H2 → wpAny (model X.prog X.w) X.A (f v u) Q X.xe s2) :
    wpAny (model X.prog X.w) X.A (eval a X.env) (fun v s₁ => wpAny (model X.prog X.w) X.A (eval b X.env) (fun u s₂ => wpAny (model X.prog X.w) X.A (f v u) Q X.xe s₂) X.xe s₁) X.xe s := by
  refine thn (ha pins s σ H _ I h) fun v s1 zpat => ?_
  obtain ⟨x, H1, I1, r1, q1⟩ := zpat
  refine thn (hb pins s1 σ H1 _ I1 q1) fun u s2 zpat => ?_
  obtain ⟨y, H2, I2, r2, q2⟩ := zpat
  exact hf v u s2 x y H2 I2 r1 r2 q2
theorem pe_op {op : Operator} {r : R2} (ho : OpR X (binaryOp op) r) (ha : PE X a ta) (hb : PE X b tb) : PE X (.BinOp a op b pos) (tOp r ta tb) := by
  intro pins s σ H Q I h
  exact wpAny_BinOp (binT ha hb I h fun v u s2 x y H2 I2 rx ry q => ho pins s2 σ H2 x y v u Q I2 rx ry q)
theorem pe_un {op : UnaryOp} {r : V → Hp → VK → Prop} (ho : UnR X (unaryOp op) r) (ha : PE X a ta) : PE X (.UnaryOp op a pos) (tUn r ta) := by
  intro pins s σ H Q I h
  exact UnaryOp_ (thn (ha pins s σ H _ I h) fun v s1 ⟨x, H1, I1, r1, q1⟩ => ho pins s1 σ H1 x v Q I1 r1 q1)
theorem opI {f : Value → Value → Sem Value} {C : Int → Int → Prop} {g : Int → Int → Int}
    (rule : ∀ (i j : Int) (t u : Tok) (s : Shared) (Q : Value → Shared → Prop) (E : Value → Shared → Prop), C i j → Q (.int (g i j) s.toks) { s with toks := s.toks + 1 } → wpAny (model X.prog X.w) X.A (f (.int i t) (.int j u)) Q E s) :
    OpR X f (rI C fun i j => .int (g i j)) := by
  intro pins s σ H x y v u Q I rx ry h
  obtain ⟨i, j, rfl, rfl, hc, q⟩ := h
  obtain ⟨t, rfl⟩ := rx
  obtain ⟨t', rfl⟩ := ry
  exact rule i j t t' s _ _ hc ⟨.int (g i j), H, I.tok _, ⟨_, rfl⟩, q⟩
theorem opI0 {f : Value → Value → Sem Value} {g : Int → Int → Int}
    (rule : ∀ (i j : Int) (t u : Tok) (s : Shared) (Q : Value → Shared → Prop) (E : Value → Shared → Prop), Q (.int (g i j) s.toks) { s with toks := s.toks + 1 } → wpAny (model X.prog X.w) X.A (f (.int i t) (.int j u)) Q E s) :
    OpR X f (rI0 fun i j => .int (g i j)) := by
  intro pins s σ H x y v u Q I rx ry h
  obtain ⟨i, j, rfl, rfl, q⟩ := h
  obtain ⟨t, rfl⟩ := rx
  obtain ⟨t', rfl⟩ := ry
  exact rule i j t t' s _ _ ⟨.int (g i j), H, I.tok _, ⟨_, rfl⟩, q⟩
theorem opB0 {f : Value → Value → Sem Value} {g : Int → Int → Bool}
    (rule : ∀ (i j : Int) (t u : Tok) (s : Shared) (Q : Value → Shared → Prop) (E : Value → Shared → Prop), Q (.bool (g i j)) s → wpAny (model X.prog X.w) X.A (f (.int i t) (.int j u)) Q E s) :
    OpR X f (rI0 fun i j => .bl (g i j)) := by
  intro pins s σ H x y v u Q I rx ry h
  obtain ⟨i, j, rfl, rfl, q⟩ := h
  obtain ⟨t, rfl⟩ := rx
  obtain ⟨t', rfl⟩ := ry
  exact rule i j t t' s _ _ ⟨.bl (g i j), H, I, rfl, q⟩
noncomputable def CDiv (i j : Int) : Prop := 0 < j ∧ j < 1073741824
noncomputable def CPow (i j : Int) : Prop := 0 ≤ j ∧ j ≤ 1000000 ∧ i.natAbs < 2 ^ 64
noncomputable def CMul (i j : Int) : Prop := (-(2 ^ 64) < i ∧ i < 2 ^ 64) ∨ (-(2 ^ 64) < j ∧ j < 2 ^ 64)
theorem CMul.ok {i j : Int} (h : CMul i j) : IntMulOk i j := by
  rcases h with ⟨h1, h2⟩ | ⟨h1, h2⟩
  · exact .of_left (intBits_le_64 h1 h2)
  · exact .of_right (intBits_le_64 h1 h2)
theorem two_pow_nn (k : Nat) : (0 : Int) ≤ 2 ^ k := by
  rw [two_pow_cast]
  exact Int.natCast_nonneg _
theorem op_add : OpR X (binaryOp .Add) (rI0 fun i j => .int (i + j)) := opI0 fun _ _ _ _ _ _ _ q => add_int q
theorem op_sub : OpR X (binaryOp .Sub) (rI0 fun i j => .int (i - j)) := opI0 fun _ _ _ _ _ _ _ q => sub_int q
theorem op_mul : OpR X (binaryOp .Mult) (rI CMul fun i j => .int (i * j)) := opI fun _ _ _ _ _ _ _ hc q => mul_int q hc.ok
theorem op_fdiv : OpR X (binaryOp .FloorDiv) (rI CDiv fun i j => .int (i / j)) := opI fun i j _ _ _ _ _ hc q => by
  have h1 : (0 : Int) < j := hc.1
  have h2 : j < 1073741824 := hc.2
  exact floordiv_int (by omega) (by rw [Int.fdiv_eq_ediv_of_nonneg i (by omega)]; exact q) (.inl (PyProof.noPylong_small (by omega)))
theorem op_mod : OpR X (binaryOp .Mod) (rI (fun _ j => 0 < j) fun i j => .int (i % j)) := opI fun i j _ _ _ _ _ hc q => by
  have h1 : (0 : Int) < j := hc
  exact mod_int' (by omega) (by rw [Int.fmod_eq_emod_of_nonneg i (by omega)]; exact q)
theorem op_pow : OpR X (binaryOp .Pow) (rI CPow fun i j => .int (i ^ j.toNat)) := opI fun _ _ _ _ _ _ _ hc q => pow_int_small hc.1 hc.2.1 hc.2.2 q
theorem op_shl : OpR X (binaryOp .LShift) (rI CPow fun i j => .int (i * 2 ^ j.toNat)) := opI fun _ _ _ _ _ _ _ hc q => lshift_int_small hc.1 hc.2.1 hc.2.2 q
theorem op_shr : OpR X (binaryOp .RShift) (rI (fun _ j => 0 ≤ j) fun i j => .int (i / 2 ^ j.toNat)) := opI fun i j _ _ _ _ _ hc q =>
  rshift_int hc (by rw [Int.fdiv_eq_ediv_of_nonneg i (two_pow_nn _)]; exact q)
theorem op_and : OpR X (binaryOp .BitAnd) (rI0 fun i j => .int (Builtin.bitAnd i j)) := opI0 fun _ _ _ _ _ _ _ q => and_int q
theorem op_or : OpR X (binaryOp .BitOr) (rI0 fun i j => .int (Builtin.bitOr i j)) := opI0 fun _ _ _ _ _ _ _ q => or_int q
theorem unI {f : Value → Sem Value} {g : Int → Int}
    (rule : ∀ (i : Int) (t : Tok) (s : Shared) (Q : Value → Shared → Prop) (E : Value → Shared → Prop), Q (.int (g i) s.toks) { s with toks := s.toks + 1 } → wpAny (model X.prog X.w) X.A (f (.int i t)) Q E s) :
    UnR X f (rU fun i => .int (g i)) := by
  intro pins s σ H x v Q I rx h
  obtain ⟨i, rfl, q⟩ := h
  obtain ⟨t, rfl⟩ := rx
  exact rule i t s _ _ ⟨.int (g i), H, I.tok _, ⟨_, rfl⟩, q⟩
theorem un_neg : UnR X (unaryOp .USub) (rU fun i => .int (-i)) := unI fun _ _ _ _ _ q => neg_int q
end
noncomputable def scal : V → V → Bool
  | .non, .non => true | .non, .int _ => true | .int _, .non => true | .non, .bl _ => true | .bl _, .non => true | .non, .str _ => true | .str _, .non => true
  | .int _, .int _ => true | .bl _, .bl _ => true | .str _, .str _ => true | .byt _, .byt _ => true
  | .int _, .str _ => true | .str _, .int _ => true | .bl _, .str _ => true | .str _, .bl _ => true
  | _, _ => false
noncomputable def rEq : R2 := fun x y H Q => scal x y = true ∧ Q (.bl (decide (x = y))) H
noncomputable def rNe : R2 := fun x y H Q => scal x y = true ∧ Q (.bl (!decide (x = y))) H
theorem dec_int {i j : Int} : decide (V.int i = V.int j) = (i == j) := by
  rw [Bool.eq_iff_iff]
  simp
theorem dec_bl {i j : Bool} : decide (V.bl i = V.bl j) = (i == j) := by
  rw [Bool.eq_iff_iff]
  simp
theorem dec_str {i j : Str} : decide (V.str i = V.str j) = (i == j) := by
  rw [Bool.eq_iff_iff]
  simp
theorem dec_byt {i j : Array UInt8} : decide (V.byt i = V.byt j) = (i.toList == j.toList) := by
  rw [Bool.eq_iff_iff]
  cases i
  cases j
  simp
section
variable {X : Cx} {a b c : Expr} {ta tb tc : TE} {pos : Pos}
theorem fin_bl {pins : List (Addr × Obj)} {σ : St} {H : Hp} {s : Shared} {Q : VK} {k k' : Bool} (I : Inv X pins σ H s) (q : Q (.bl k) H) (e : k = k') : EP X pins σ Q (.bool k') s := by
  subst e
  exact ⟨.bl k, H, I, rfl, q⟩
theorem op_eq : OpR X (compareOp .Eq) rEq := by
  intro pins s σ H x y v u Q I rx ry h
  obtain ⟨hs, q⟩ := h
  cases x with
  | non =>
    cases rx
    cases y with
    | non => cases ry; exact PySem.EqNone.eq_none_none (fin_bl I q (by simp))
    | bl j => cases ry; exact PySem.EqNone.eq_none_bool (fin_bl I q (by simp))
    | int j => obtain ⟨t', rfl⟩ := ry; exact PySem.EqNone.eq_none_int (fin_bl I q (by simp))
    | str j => obtain ⟨t', rfl⟩ := ry; exact PySem.EqNone.eq_none_str (fin_bl I q (by simp))
    | _ => exact absurd (show false = true from hs) Bool.false_ne_true
  | bl i =>
    cases rx
    cases y with
    | non => cases ry; exact PySem.EqNone.eq_bool_none (fin_bl I q (by simp))
    | bl j => cases ry; exact eq_bool (fin_bl I q dec_bl)
    | str j => obtain ⟨t', rfl⟩ := ry; exact PySem.EqMixed.eq_bool_str (fin_bl I q (by simp))
    | _ => exact absurd (show false = true from hs) Bool.false_ne_true
  | int i =>
    obtain ⟨t, rfl⟩ := rx
    cases y with
    | non => cases ry; exact PySem.EqNone.eq_int_none (fin_bl I q (by simp))
    | int j => obtain ⟨t', rfl⟩ := ry; exact eq_int (fin_bl I q dec_int)
    | str j => obtain ⟨t', rfl⟩ := ry; exact PySem.EqMixed.eq_int_str (fin_bl I q (by simp))
    | _ => exact absurd (show false = true from hs) Bool.false_ne_true
  | str i =>
    obtain ⟨t, rfl⟩ := rx
    cases y with
    | non => cases ry; exact PySem.EqNone.eq_str_none (fin_bl I q (by simp))
    | bl j => cases ry; exact PySem.EqMixed.eq_str_bool (fin_bl I q (by simp))
    | int j => obtain ⟨t', rfl⟩ := ry; exact PySem.EqMixed.eq_str_int (fin_bl I q (by simp))
    | str j => obtain ⟨t', rfl⟩ := ry; exact eq_str (fin_bl I q dec_str)
    | _ => exact absurd (show false = true from hs) Bool.false_ne_true
  | byt i =>
    obtain ⟨t, rfl⟩ := rx
    cases y with
    | byt j => obtain ⟨t', rfl⟩ := ry; exact PySem.W.eq_bytes (fin_bl I q dec_byt)
    | _ => exact absurd (show false = true from hs) Bool.false_ne_true
  | _ => cases y <;> exact absurd (show false = true from hs) Bool.false_ne_true
theorem op_ne : OpR X (compareOp .NotEq) rNe := by
  intro pins s σ H x y v u Q I rx ry h
  obtain ⟨hs, q⟩ := h
  cases x with
  | non =>
    cases rx
    cases y with
    | non => cases ry; exact PySem.EqNone.ne_none_none (fin_bl I q (by simp))
    | bl j => cases ry; exact PySem.EqNone.ne_none_bool (fin_bl I q (by simp))
    | int j => obtain ⟨t', rfl⟩ := ry; exact PySem.EqNone.ne_none_int (fin_bl I q (by simp))
    | str j => obtain ⟨t', rfl⟩ := ry; exact PySem.EqNone.ne_none_str (fin_bl I q (by simp))
    | _ => exact absurd (show false = true from hs) Bool.false_ne_true
  | bl i =>
    cases rx
    cases y with
    | non => cases ry; exact PySem.EqNone.ne_bool_none (fin_bl I q (by simp))
    | bl j => cases ry; exact ne_bool (fin_bl I q (congrArg not dec_bl))
    | str j => obtain ⟨t', rfl⟩ := ry; exact PySem.EqMixed.ne_bool_str (fin_bl I q (by simp))
    | _ => exact absurd (show false = true from hs) Bool.false_ne_true
  | int i =>
    obtain ⟨t, rfl⟩ := rx
    cases y with
    | non => cases ry; exact PySem.EqNone.ne_int_none (fin_bl I q (by simp))
    | int j => obtain ⟨t', rfl⟩ := ry; exact ne_int (fin_bl I q (congrArg not dec_int))
    | str j => obtain ⟨t', rfl⟩ := ry; exact PySem.EqMixed.ne_int_str (fin_bl I q (by simp))
    | _ => exact absurd (show false = true from hs) Bool.false_ne_true
  | str i =>
    obtain ⟨t, rfl⟩ := rx
    cases y with
    | non => cases ry; exact PySem.EqNone.ne_str_none (fin_bl I q (by simp))
    | bl j => cases ry; exact PySem.EqMixed.ne_str_bool (fin_bl I q (by simp))
    | int j => obtain ⟨t', rfl⟩ := ry; exact PySem.EqMixed.ne_str_int (fin_bl I q (by simp))
    | str j => obtain ⟨t', rfl⟩ := ry; exact ne_str (fin_bl I q (congrArg not dec_str))
    | _ => exact absurd (show false = true from hs) Bool.false_ne_true
  | byt i =>
    obtain ⟨t, rfl⟩ := rx
    cases y with
    | byt j => obtain ⟨t', rfl⟩ := ry; exact PySem.W.ne_bytes (fin_bl I q (congrArg not dec_byt))
    | _ => exact absurd (show false = true from hs) Bool.false_ne_true
  | _ => cases y <;> exact absurd (show false = true from hs) Bool.false_ne_true
theorem op_lt : OpR X (compareOp .Lt) (rI0 fun i j => .bl (decide (i < j))) := opB0 fun _ _ _ _ _ _ _ q => lt_int q
theorem op_le : OpR X (compareOp .LtE) (rI0 fun i j => .bl (decide (i ≤ j))) := opB0 fun _ _ _ _ _ _ _ q => le_int q
theorem op_gt : OpR X (compareOp .Gt) (rI0 fun i j => .bl (decide (j < i))) := opB0 fun _ _ _ _ _ _ _ q => gt_int q
theorem op_ge : OpR X (compareOp .GtE) (rI0 fun i j => .bl (decide (j ≤ i))) := opB0 fun _ _ _ _ _ _ _ q => ge_int q
theorem op_isN : OpR X (compareOp .Is) (fun x y H Q => y = .non ∧ Q (.bl (decide (x = .non))) H) := by
  intro pins s σ H x y v u Q I rx ry h
  obtain ⟨rfl, q⟩ := h
  cases ry
  refine is_none_gen (fin_bl I q ?_)
  cases x <;> first
    | (cases rx; rfl)
    | (obtain ⟨t, rfl⟩ := rx; rfl)
theorem nomark (b : Expr) {op : CmpOp} (h : op ≠ .In := by decide) (h2 : op ≠ .NotIn := by decide) : behindInMarks op b = false := by
  have e1 : (op == CmpOp.In) = false := by cases op <;> first | rfl | exact absurd rfl h
  have e2 : (op == CmpOp.NotIn) = false := by cases op <;> first | rfl | exact absurd rfl h2
  cases b <;> simp [behindInMarks, e1, e2]
theorem pe_cmpR {op : CmpOp} {r : R2} (ho : OpR X (compareOp op) r) (ha : PE X a ta) (hb : PE X b tb) (hm : behindInMarks op b = false) : PE X (.Compare a [op] [b] pos) (tOp r ta tb) := by
  intro pins s σ H Q I h
  exact wpAny_Compare1 (binT ha hb I h fun v u s2 x y H2 I2 rx ry q => ho pins s2 σ H2 x y v u Q I2 rx ry q) hm
noncomputable def tTest (t : TE) : TT := fun σ H Q => t σ H fun x H' => IT x H' Q
theorem pt_cmpR {op : CmpOp} {r : R2} (ho : OpR X (compareOp op) r) (ha : PE X a ta) (hb : PE X b tb) (hm : behindInMarks op b = false) : PT X (.Compare a [op] [b] pos) (tTest (tOp r ta tb)) := by
  intro pins s σ H Q I h
  refine wpAny_isTrue_Compare1 (thn (ha pins s σ H _ I h) fun v s1 ⟨x, H1, I1, r1, q1⟩ => thn (hb pins s1 σ H1 _ I1 q1) fun u s2 ⟨y, H2, I2, r2, q2⟩ =>
    thn (ho pins s2 σ H2 x y v u _ I2 r1 r2 q2) fun c s3 ⟨z, H3, I3, r3, k, e, q3⟩ => ?_) hm
  subst e
  cases r3
  exact wpAny_truthy_bool ⟨H3, I3, q3⟩
noncomputable def tChain (r r' : R2) (ta tb tc : TE) : TE := fun σ H Q => ta σ H fun x H1 => tb σ H1 fun y H2 => r x y H2 fun z H3 => ∃ k, z = .bl k ∧
  (if k = true then tc σ H3 fun w' H4 => r' y w' H4 Q else Q (.bl false) H3)
theorem pe_chain {op op' : CmpOp} {r r' : R2} (ho : OpR X (compareOp op) r) (ho' : OpR X (compareOp op') r') (ha : PE X a ta) (hb : PE X b tb) (hc : PE X c tc)
    (hm : lastMarks [op, op'] [b, c] = false := by with_unfolding_all rfl) : PE X (.Compare a [op, op'] [b, c] pos) (tChain r r' ta tb tc) := by
  intro pins s σ H Q I h
  refine Compare_chain (thn (ha pins s σ H _ I h) fun v s1 ⟨x, H1, I1, r1, q1⟩ => chain_link (thn (hb pins s1 σ H1 _ I1 q1) fun u s2 ⟨y, H2, I2, r2, q2⟩ =>
    thn (ho pins s2 σ H2 x y v u _ I2 r1 r2 q2) fun d s3 ⟨z, H3, I3, r3, k, e, q3⟩ => ?_)) hm
  subst e
  cases r3
  refine wpAny_truthy_bool ?_
  cases k with
  | false => exact ite_ff ⟨.bl false, H3, I3, rfl, q3⟩
  | true => exact ite_tt (chain_last (thn (hc pins s3 σ H3 _ I3 q3) fun w' s4 ⟨z', H4, I4, r4, q4⟩ => ho' pins s4 σ H4 y z' u w' Q I4 r2 r4 q4))
theorem pt_chain {op op' : CmpOp} {r r' : R2} (ho : OpR X (compareOp op) r) (ho' : OpR X (compareOp op') r') (ha : PE X a ta) (hb : PE X b tb) (hc : PE X c tc)
    (hm : lastMarks [op, op'] [b, c] = false := by with_unfolding_all rfl) : PT X (.Compare a [op, op'] [b, c] pos) (tTest (tChain r r' ta tb tc)) := by
  intro pins s σ H Q I h
  refine isTrue_chain (thn (ha pins s σ H _ I h) fun v s1 ⟨x, H1, I1, r1, q1⟩ => test_link (thn (hb pins s1 σ H1 _ I1 q1) fun u s2 ⟨y, H2, I2, r2, q2⟩ =>
    thn (ho pins s2 σ H2 x y v u _ I2 r1 r2 q2) fun d s3 ⟨z, H3, I3, r3, k, e, q3⟩ => ?_)) hm
  subst e
  cases r3
  refine wpAny_truthy_bool ?_
  cases k with
  | false =>
    obtain ⟨k', e', q'⟩ := q3
    cases e'
    exact ite_ff ⟨H3, I3, q'⟩
  | true =>
    refine ite_tt (test_last (thn (hc pins s3 σ H3 _ I3 q3) fun w' s4 ⟨z', H4, I4, r4, q4⟩ => thn (ho' pins s4 σ H4 y z' u w' _ I4 r2 r4 q4) fun d' s5 zpat => ?_))
    obtain ⟨z2, H5, I5, r5, k2, e2, q5⟩ := zpat
    subst e2
    cases r5
    exact wpAny_truthy_bool ⟨H5, I5, q5⟩
theorem line63 : (sizeLine : Nat) < 2 ^ 63 := by rw [sizeLine_eq]; decide
theorem vals1 {x : V} {us : List Value} (r : Vals [x] us) : ∃ u, us = [u] ∧ RelV x u := by
  cases r with
  | cons r1 r2 => cases r2; exact ⟨_, rfl, r1⟩
theorem vals2 {x y : V} {us : List Value} (r : Vals [x, y] us) : ∃ u w', us = [u, w'] ∧ RelV x u ∧ RelV y w' := by
  cases r with
  | cons r1 r2 =>
    cases r2 with
    | cons r3 r4 => cases r4; exact ⟨_, _, rfl, r1, r3⟩
theorem call_int1 : CallR X (.type "int") (fun xs H Q => (∃ i, xs = [.int i] ∧ Q (.int i) H) ∨ ∃ k, xs = [.bl k] ∧ Q (.int (if k then 1 else 0)) H) := by
  intro pins s σ H xs us Q I r h
  rcases h with ⟨i, rfl, q⟩ | ⟨k, rfl, q⟩
  · obtain ⟨u, rfl, t, rfl⟩ := vals1 r
    exact call_int_int ⟨.int i, H, I, ⟨_, rfl⟩, q⟩
  · obtain ⟨u, rfl, r1⟩ := vals1 r
    cases r1
    exact call_int_bool ⟨.int (if k then 1 else 0), H, I.tok _, ⟨_, rfl⟩, q⟩
end
end L2
namespace L2
open PySem PySem.Spec PyProof.Rows
structure ObjM (h : Heap) (x dx C : Addr) (mA : Str → Option Value) : Prop where
  obj : h.get? x = some (PySem.W.instObj C dx)
  ns : h.Ns1 dx mA
  ne : dx ≠ x
theorem lookIn_ns {h : Heap} {dx : Addr} {mA : Str → Option Value} (n : h.Ns1 dx mA) : ∃ od, h.get? dx = some od ∧ ∀ name, PySem.W.lookIn name od = some (mA name) := by
  obtain ⟨o, es, ep, ho, hd, hk, _, hm⟩ := n
  refine ⟨o, ho, fun name => ?_⟩
  have e := hm name
  unfold nsFind findBy at e
  rw [← Array.find?_toList] at e
  unfold PySem.W.lookIn
  rw [hd]
  try dsimp only
  split
  · rename_i y q
    rw [q] at e
    exact congrArg some e
  · rename_i q
    rw [q] at e
    have a : es.toList.any (·.refKey) = false := by
      rw [List.any_eq_false]
      intro y hy
      obtain ⟨z, t, hkey⟩ := hk y (Array.mem_toList_iff.mp hy)
      simp [DictEntry.refKey, hkey]
    have a' : ¬ es.toList.any (·.refKey) = true := by rw [a]; exact Bool.false_ne_true
    rw [if_neg a']
    exact congrArg some e
theorem ObjM.look {h : Heap} {x dx C : Addr} {mA : Str → Option Value} (I : ObjM h x dx C mA) : ∃ od, PySem.W.InstAt h x (PySem.W.instObj C dx) C (some od) ∧ ∀ name, PySem.W.lookIn name od = some (mA name) :=
  let ⟨od, ho, hl⟩ := lookIn_ns I.ns
  ⟨od, ⟨I.obj, rfl, rfl, ho⟩, hl⟩
section
variable {prog : Program} {w : World} {A : Around} {E : Value → Shared → Prop} {s : Shared} {K : PySem.W.Frag} {x dx C f : Addr} {mA : Str → Option Value} {name : Str} {v : Value}
theorem get_map {expr : Bool} {Q : Value → Shared → Prop} (X : K.In s.heap) (I : ObjM s.heap x dx C mA) (hg : PySem.W.plainGet K C name = true) (hh : PySem.W.hasDictIn K C = true)
    (ha : PySem.W.findIn K (.ref C) name = some none) (hv : mA name = some v) (hv' : PySem.W.handedIn v = true) (h : Q v { s with toks := s.toks + 1 }) :
    wpAny (model prog w) A (getAttr (.ref x) name expr) Q E s := by
  obtain ⟨od, J, hl⟩ := I.look
  exact PySem.W.get_value X J (PySem.W.plainGet_of hg).1 (PySem.W.findObj_own hh ha rfl (by rw [hl, hv])) hv' h
theorem get_meth {pl : Sem Bool} {Q : Value × List Value → Shared → Prop} (X : K.In s.heap) (I : ObjM s.heap x dx C mA) (hg : PySem.W.plainGet K C name = true)
    (hf : PySem.W.findIn K (.ref C) name = some (some (.ref f))) (ht : PySem.W.isFn K (.ref f) = true) (hv : mA name = none) (h : Q (.ref f, [.ref x]) s) :
    wpAny (model prog w) A (getMethod (.ref x) name pl) Q E s := by
  obtain ⟨od, J, hl⟩ := I.look
  exact PySem.W.method_fn X J (PySem.W.plainGet_of hg).1 (PySem.W.plainGet_of hg).2 hf (beq_iff_eq.mp ht) (by show (PySem.W.lookIn name od).map (·.isSome) = some false; rw [hl, hv]; rfl) h
theorem set_map {ns : List Str} {Q : Unit → Shared → Prop} (X : K.In s.heap) (I : ObjM s.heap x dx C mA)
    (hs : PySem.W.findIn K (.ref C) "__setattr__" = some (some (.builtin "object.__setattr__"))) (hp : PySem.W.plainOver K C = true) (ht : PySem.W.takerIn K C name = some none) (hh : PySem.W.hasDictIn K C = true)
    (hw : PySem.Within mA ns) (hsz : ns.length ≤ sizeLine)
    (h : ∀ h', ObjM h' x dx C (fun y => if y = name then some v else mA y) → Heap.SameBut dx s.heap h' → Q () { s with heap := h', toks := s.toks + 2 }) :
    wpAny (model prog w) A (setAttr (.ref x) name v) Q E s := by
  obtain ⟨od, J, hl⟩ := I.look
  refine PySem.W.set_plain X J hs (PySem.W.osa_open (s := { s with toks := s.toks + 1 }) (r := none) X J hp ht fun b => ?_)
  obtain ⟨cd, hc, hd'⟩ := PySem.W.any_some hh
  have hx : s.heap.get? x = some ⟨.ref C, some dx, .plain, #[]⟩ := I.obj
  refine wpAny_bind (wpAny_pure (wpAny_bind (wpAny_bind (wpAny_loadPart hx (wpAny_bind (PySem.W.Looks.here (s := { s with toks := s.toks + 1 }) (PySem.W.looks_clsIn X hc) ?_))))))
  rw [hd']
  refine wpAny_pure (a := some dx) (wpAny_bind (wpAny_pure (wpAny_bind ?_)))
  refine wpAny_nsSet1 (s := { s with toks := s.toks + 1 }) I.ns fun h' hn2 hs2 => ?_
  obtain ⟨oD, esD, epD, hoD, hdD, hcD⟩ := hn2.count (PySem.Within.cons name v hw)
  refine wpAny_bind (wpAny_lookBehind hoD (by rw [hdD]; exact pastItsLine_dict (Nat.le_trans hcD (by rw [List.length_cons]; omega))) ?_)
  exact wpAny_pure (h _ ⟨(hs2.2 _ (Ne.symm I.ne)).trans I.obj, hn2, I.ne⟩ hs2)
theorem make_map {R : Result → Shared → Prop} {vs : List Value} {kw : List (Str × Value)} (X : K.In s.heap) (hm : PySem.W.makesIn K C = true)
    (hi : PySem.W.findIn K (.ref C) "__init__" = some (some (.ref f))) (hf : PySem.W.typeIn K (.ref f) = some (.type "function"))
    (h : codeAny (model prog w) (A.under (.builtin "type.__call__" ⟨.ref C :: vs, kw⟩)) (.call (.ref f) ⟨.ref (s.heap.objs.size + 1) :: vs, kw⟩) (PySem.W.InitBack (s.heap.objs.size + 1) R)
      { s with heap := (s.heap.push PySem.W.emptyDict).push (PySem.W.instObj C s.heap.objs.size) }) :
    codeAny (model prog w) A (.call (.ref C) ⟨vs, kw⟩) R s := by
  obtain ⟨hh, g, d, t, os⟩ := s
  exact PySem.W.make_core (PySem.W.makes_of X hm) (PySem.W.looks_findIn X hi) (fun self => PySem.W.bind_fn X self hf) (.inl rfl) h
end
noncomputable def putF (f : Str) (v : V) : List (Str × V) → List (Str × V)
  | [] => [(f, v)]
  | (g, x) :: r => if g = f then (g, v) :: r else (g, x) :: putF f v r
theorem lookup_putF (f g : Str) (v : V) : ∀ fs : List (Str × V), (putF f v fs).lookup g = if g = f then some v else fs.lookup g
  | [] => by
    show List.lookup g [(f, v)] = _
    by_cases h : g = f
    · have hb : (g == f) = true := beq_iff_eq.mpr h
      simp only [List.lookup, hb, if_pos h]
    · have hb : (g == f) = false := beq_eq_false_iff_ne.mpr h
      simp only [List.lookup, hb, if_neg h]
  | (k, x) :: r => by
    have ih := lookup_putF f g v r
    rw [show putF f v ((k, x) :: r) = (if k = f then (k, v) :: r else (k, x) :: putF f v r) from rfl]
    by_cases hk : k = f
    · rw [if_pos hk]
      by_cases h : g = k
      · have hb : (g == k) = true := beq_iff_eq.mpr h
        simp only [List.lookup, hb, if_pos (h.trans hk)]
      · have hb : (g == k) = false := beq_eq_false_iff_ne.mpr h
        simp only [List.lookup, hb, if_neg (fun e : g = f => h (e.trans hk.symm))]
    · rw [if_neg hk]
      by_cases h : g = k
      · have hb : (g == k) = true := beq_iff_eq.mpr h
        simp only [List.lookup, hb, if_neg (fun e : g = f => hk (h.symm.trans e))]
      · have hb : (g == k) = false := beq_eq_false_iff_ne.mpr h
        simp only [List.lookup, hb]
        exact ih
theorem keys_putF (f : Str) (v : V) : ∀ fs : List (Str × V), f ∈ (putF f v fs).map (·.1) ∧ ∀ g, g ∈ fs.map (·.1) → g ∈ (putF f v fs).map (·.1)
  | [] => ⟨by simp [putF], fun g h => by simp at h⟩
  | (k, x) :: r => by
    obtain ⟨i1, i2⟩ := keys_putF f v r
    rw [show putF f v ((k, x) :: r) = (if k = f then (k, v) :: r else (k, x) :: putF f v r) from rfl]
    by_cases hk : k = f
    · rw [if_pos hk]
      subst hk
      exact ⟨by simp, fun g h => by simpa using h⟩
    · rw [if_neg hk]
      refine ⟨?_, fun g h => ?_⟩
      · rw [List.map_cons]
        exact List.mem_cons_of_mem _ i1
      · rw [List.map_cons] at h ⊢
        rcases List.mem_cons.mp h with e | e
        · exact List.mem_cons.mpr (.inl e)
        · exact List.mem_cons_of_mem _ (i2 g e)
theorem length_putF (f : Str) (v : V) : ∀ fs : List (Str × V), (putF f v fs).length ≤ fs.length + 1
  | [] => by simp [putF]
  | (k, x) :: r => by
    have ih := length_putF f v r
    rw [show putF f v ((k, x) :: r) = (if k = f then (k, v) :: r else (k, x) :: putF f v r) from rfl]
    by_cases hk : k = f
    · rw [if_pos hk, List.length_cons, List.length_cons]; omega
    · rw [if_neg hk, List.length_cons, List.length_cons]; omega
theorem RelO.some_of {v : V} {o : Option Value} (r : RelO (some v) o) : ∃ u, o = some u ∧ RelV v u := by
  cases o with
  | none => exact (show False from r).elim
  | some u => exact ⟨u, rfl, r⟩
theorem RelO.none_of {o : Option Value} (r : RelO none o) : o = none := by
  cases o with
  | none => rfl
  | some u => exact (show False from r).elim
theorem handed_of {v : V} {u : Value} (r : RelV v u) : PySem.W.handedIn u = true := by
  cases v with
  | non => cases (show u = Value.none from r); rfl
  | bl b => cases (show u = Value.bool b from r); rfl
  | int i => obtain ⟨t, e⟩ := (show ∃ t, u = Value.int i t from r); cases e; rfl
  | str x => obtain ⟨t, e⟩ := (show ∃ t, u = Value.str x t from r); cases e; rfl
  | byt b => obtain ⟨t, e⟩ := (show ∃ t, u = Value.bytes b t from r); cases e; rfl
  | flt b => obtain ⟨t, e⟩ := (show ∃ t, u = Value.float b t from r); cases e; rfl
  | ref a => cases (show u = Value.ref a from r); rfl
  | ty n => cases (show u = Value.type n from r); rfl
section
variable {P : Program} {w : World} {H H' : Hp} {h h' : Heap} {a C dx : Addr} {fs fs' : List (Str × V)}
theorem ins_get (hok : HOk P w H h) (e : H a = some (.ins C dx fs)) : ∃ mA, ObjM h a dx C mA ∧ (∀ f, RelO (fs.lookup f) (mA f)) ∧ PySem.Within mA (fs.map (·.1)) ∧ fs.length ≤ 1000 ∧ H dx = some (.own a) := by
  obtain ⟨d, z, ne, ob, mA, n, r, q⟩ := (show ObjOk P w H h a (.ins C dx fs) from hok a _ e)
  exact ⟨mA, ⟨ob, n, ne⟩, r, q, z, d⟩
end
structure Cls (K : PySem.W.Frag) (C : Addr) : Prop where
  pg : PySem.W.plainGet K C Str.empty = true
  hd : PySem.W.hasDictIn K C = true
  po : PySem.W.plainOver K C = true
  sa : PySem.W.findIn K (.ref C) "__setattr__" = some (some (.builtin "object.__setattr__"))
theorem Cls.get {K : PySem.W.Frag} {C : Addr} (c : Cls K C) (f : Str) : PySem.W.plainGet K C f = true := c.pg
noncomputable def NoAttr (K : PySem.W.Frag) (C : Addr) (f : Str) : Prop := PySem.W.findIn K (.ref C) f = some none
theorem NoAttr.taker {K : PySem.W.Frag} {C : Addr} {f : Str} (n : NoAttr K C f) : PySem.W.takerIn K C f = some none := by
  unfold PySem.W.takerIn
  rw [show PySem.W.findIn K (.ref C) f = some none from n]
  rfl
structure Meth (K : PySem.W.Frag) (C : Addr) (m : Str) (f : Addr) : Prop where
  at_ : PySem.W.findIn K (.ref C) m = some (some (.ref f))
  fn : PySem.W.isFn K (.ref f) = true
  kp : PySem.W.keepIn K (.ref f) = true
section
variable {X : Cx} {pins : List (Addr × Obj)} {σ : St} {H : Hp} {s : Shared} {a C dx : Addr} {fs : List (Str × V)} {f : Str} {v : V} {A : Around} {E : Value → Shared → Prop}
theorem getattr_ok {b : Bool} {Q : Value → Shared → Prop} (I : Inv X pins σ H s) (e : H a = some (.ins C dx fs)) (c : Cls X.K C) (n : NoAttr X.K C f) (l : fs.lookup f = some v)
    (h : ∀ u s', Inv X pins σ H s' → RelV v u → Q u s') : wpAny (model X.prog X.w) A (getAttr (.ref a) f b) Q E s := by
  obtain ⟨mA, O, r, _, _, _⟩ := ins_get I.hok e
  obtain ⟨u, hu, ru⟩ := RelO.some_of (v := v) (o := mA f) (by rw [← l]; exact r f)
  exact get_map I.kIn O (c.get f) c.hd n hu (handed_of ru) (h u _ (I.tok _) ru)
theorem getmeth_ok {m : Str} {g : Addr} {pl : Sem Bool} {Q : Value × List Value → Shared → Prop} (I : Inv X pins σ H s) (e : H a = some (.ins C dx fs)) (c : Cls X.K C) (k : Meth X.K C m g) (l : fs.lookup m = none)
    (h : Q (.ref g, [.ref a]) s) : wpAny (model X.prog X.w) A (getMethod (.ref a) m pl) Q E s := by
  obtain ⟨mA, O, r, _, _, _⟩ := ins_get I.hok e
  have hn : mA m = none := RelO.none_of (by rw [← l]; exact r m)
  exact get_meth I.kIn O (c.get m) k.at_ k.fn hn h
theorem setattr_ok {y : V} {u : Value} {Q : Unit → Shared → Prop} (I : Inv X pins σ H s) (e : H a = some (.ins C dx fs)) (c : Cls X.K C) (n : NoAttr X.K C f) (hl : fs.length < 1000) (ry : RelV y u)
    (h : ∀ s', Inv X pins σ (upd H a (.ins C dx (putF f y fs))) s' → Q () s') : wpAny (model X.prog X.w) A (setAttr (.ref a) f u) Q E s := by
  obtain ⟨mA, O, r, wi, _, ho⟩ := ins_get I.hok e
  have hz : (fs.map (·.1)).length ≤ sizeLine := by rw [List.length_map, sizeLine_eq]; omega
  refine set_map I.kIn O c.sa c.po n.taker c.hd wi hz fun h' O' sb => h _ ?_
  have hd : ∃ o, h'.get? dx = some o := let ⟨o, _, _, e', _⟩ := O'.ns; ⟨o, e'⟩
  refine I.write (x := a) (e := dx) (by rw [e]; exact True.intro) (.inr ho) (fun b q hb z => (sb.2 b hb).trans z) hd ?_
  refine ⟨by rw [upd_ne O.ne]; exact ho, ?_, O.ne, O'.obj, _, O'.ns, fun g => ?_, fun g hg => ?_⟩
  · have := length_putF f y fs; omega
  · show RelO ((putF f y fs).lookup g) (if g = f then some u else mA g)
    rw [lookup_putF]
    by_cases q : g = f
    · rw [if_pos q, if_pos q]; exact ry
    · rw [if_neg q, if_neg q]; exact r g
  · by_cases q : g = f
    · rw [q]; exact (keys_putF f y fs).1
    · refine (keys_putF f y fs).2 g (wi g fun z => hg ?_)
      show (if g = f then some u else mA g) = none
      rw [if_neg q]; exact z
theorem Inv.made (I : Inv X pins σ H s) : Inv X pins σ (upd (upd H s.heap.objs.size (.own (s.heap.objs.size + 1))) (s.heap.objs.size + 1) (.ins C s.heap.objs.size []))
    { s with heap := (s.heap.push PySem.W.emptyDict).push (PySem.W.instObj C s.heap.objs.size) } := by
  have e1 : (s.heap.push PySem.W.emptyDict).get? s.heap.objs.size = some PySem.W.emptyDict := Heap.get?_push_size s.heap rfl
  have e2 : ((s.heap.push PySem.W.emptyDict).push (PySem.W.instObj C s.heap.objs.size)).get? (s.heap.objs.size + 1) = some (PySem.W.instObj C s.heap.objs.size) := by
    have := Heap.get?_push_size (s.heap.push PySem.W.emptyDict) (o := PySem.W.instObj C s.heap.objs.size) rfl
    rwa [Heap.size_push] at this
  have e3 : (s.heap.push PySem.W.emptyDict).Ns s.heap.objs.size (fun _ => none) := ⟨PySem.W.emptyDict, #[], _, e1, rfl, (fun e he => absurd he (by simp)), fun _ => rfl⟩
  have I1 := I.laid (a := s.heap.objs.size) (o := .own (s.heap.objs.size + 1)) (h' := s.heap.push PySem.W.emptyDict) (t' := s.toks) (fun b u q => Heap.get?_push_of_some _ q) (Nat.le_refl _) ⟨_, e1⟩
  refine I1.laid (a := s.heap.objs.size + 1) (o := .ins C s.heap.objs.size []) (t' := s.toks) (fun b u q => Heap.get?_push_of_some _ q) (Nat.le_of_eq (Heap.size_push _ _)) ?_
  have ne : s.heap.objs.size ≠ s.heap.objs.size + 1 := Nat.ne_of_lt (Nat.lt_succ_self _)
  refine ⟨by rw [upd_ne ne, upd_same], Nat.zero_le _, ne, e2, fun _ => none, (Heap.Ns1.of_empty e3).at fun o q => Heap.get?_push_of_some _ q, fun _ => True.intro, fun y hy => absurd rfl hy⟩
theorem attr_of {prog : Program} {w : World} {env : Env} {e : Expr} {f : Str} {pos : Pos} {s : Shared} {Q : Value → Shared → Prop} (hb : attributeBase e f env (eval e env) = eval e env)
    (h : wpAny (model prog w) A (eval e env) (fun o s₁ => wpAny (model prog w) A (getAttr o f true) Q E s₁) E s) : wpAny (model prog w) A (eval (.Attribute e f pos) env) Q E s :=
  Attribute_any_ h (by rw [arm_eval_Attribute, hb])
end
inductive IFld (K : PySem.W.Frag) (f : Str) (x : V) (H : Hp) (Q : VK) : Prop where
  | mk (a C dx : Addr) (fs : List (Str × V)) (v : V) (ex : x = .ref a) (ea : H a = some (.ins C dx fs)) (c : Cls K C) (n : NoAttr K C f) (l : fs.lookup f = some v) (q : Q v H) : IFld K f x H Q
noncomputable def tFld (K : PySem.W.Frag) (ta : TE) (f : Str) : TE := fun σ H Q => ta σ H fun x H1 => IFld K f x H1 Q
noncomputable def sFld (K : PySem.W.Frag) (ta tv : TE) (f : Str) : TS := fun D σ H => tv σ H fun y H1 => ta σ H1 fun x H2 => ∃ a C dx fs, x = .ref a ∧ H2 a = some (.ins C dx fs) ∧ Cls K C ∧ NoAttr K C f ∧ fs.length < 1000 ∧
  D.nx σ (upd H2 a (.ins C dx (putF f y fs)))
section
variable {X : Cx} {o e value : Expr} {f : Str} {pos pos' tpos : Pos} {ta tv : TE}
theorem pe_fld (he : PE X e ta) (hb : attributeBase e f X.env (eval e X.env) = eval e X.env) : PE X (.Attribute e f pos) (tFld X.K ta f) := by
  intro pins s σ H Q I h
  refine attr_of hb (thn (he pins s σ H _ I h) fun u s1 zpat => ?_)
  obtain ⟨x, H1, I1, rx, a, C, dx, fs, v, ex, ea, c, n, l, q⟩ := zpat
  subst ex
  obtain rfl : u = Value.ref a := rx
  exact getattr_ok I1 ea c n l fun u' s2 I2 ru => ⟨v, H1, I2, ru, q⟩
theorem ps_fld (ha : PE X o ta) (hv : PE X value tv) (hs : swapsWith value (some (.Attribute o f pos')) pos.line X.env = pure false) : PS X (.Assign [.Attribute o f pos'] value pos) (sFld X.K ta tv f) := by
  intro pins s σ H D I h
  refine plainObj_wpAny_Assign_Attribute (thn (hv pins s σ H _ I h) fun u s1 ⟨y, H1, I1, ry, q⟩ => thn (ha pins s1 σ H1 _ I1 q) fun ov s2 zpat => ?_) hs
  obtain ⟨x, H2, I2, rx, a, C, dx, fs, ex, ea, c, n, l, q2⟩ := zpat
  subst ex
  obtain rfl : ov = Value.ref a := rx
  exact setattr_ok I2 ea c n l ry fun s3 I3 => ⟨σ, _, I3, q2⟩
end
section
variable {X : Cx} {pins : List (Addr × Obj)} {σ : St} {H : Hp} {s : Shared} {A : Around} {E : Value → Shared → Prop} {Q : Value → Shared → Prop} {c : Value} {b : Bool}
inductive TyOf (K : PySem.W.Frag) (H : Hp) : V → Value → Prop where
  | non : TyOf K H .non (.type "NoneType")
  | bl (x : Bool) : TyOf K H (.bl x) (.type "bool")
  | int (i : Int) : TyOf K H (.int i) (.type "int")
  | str (x : Str) : TyOf K H (.str x) (.type "str")
  | flt (x : UInt64) : TyOf K H (.flt x) (.type "float")
  | lst {a : Addr} {xs : List V} (e : H a = some (.lst xs)) : TyOf K H (.ref a) (.type "list")
  | frz {a : Addr} {o : Obj} {xs : List V} (e : H a = some (.frz o (.lst xs))) : TyOf K H (.ref a) (.type "list")
  | tup {a : Addr} {xs : List V} (e : H a = some (.tup xs)) : TyOf K H (.ref a) (.type "tuple")
  | dK {a : Addr} {kvs : List (Key × V)} (e : H a = some (.dK kvs)) : TyOf K H (.ref a) (.type "dict")
  | dT {a : Addr} {kvs : List (List Key × V)} (e : H a = some (.dT kvs)) : TyOf K H (.ref a) (.type "dict")
  | ins {a C dx : Addr} {fs : List (Str × V)} (e : H a = some (.ins C dx fs)) (cl : Cls K C) (ha : PySem.W.findIn K (.ref C) "__class__" = some (some (.builtin "object.__class__")))
      (hn : PySem.W.specialIn K (.builtin "object.__class__") "__get__" = some (some (.builtin "getset_descriptor.__get__"))) (htk : PySem.W.takesIn K (.builtin "object.__class__") = some true)
      (hm : PySem.W.mroIn K C (.type "object") = some true) : TyOf K H (.ref a) (.ref C)
theorem isinst_ok {x : V} {u t : Value} (I : Inv X pins σ H s) (rx : RelV x u) (ty : TyOf X.K H x t) (e : PySem.W.kitOne X.K t c = some b) (h : ∀ tk, Q (.bool b) { s with toks := tk }) :
    wpAny (model X.prog X.w) A (call (.builtin "isinstance") [u, c]) Q E s := by
  cases ty with
  | non => cases (show u = Value.none from rx); exact PySem.W.kia_one PySem.W.kitx_none I.kIn True.intro e (fun z => nomatch z) h
  | bl y => cases (show u = Value.bool y from rx); exact PySem.W.kia_one PySem.W.kitx_bool I.kIn True.intro e (fun z => nomatch z) h
  | int i => obtain ⟨t, q⟩ := (show ∃ t, u = Value.int i t from rx); cases q; exact PySem.W.kia_one PySem.W.kitx_int I.kIn True.intro e (fun z => nomatch z) h
  | str y => obtain ⟨t, q⟩ := (show ∃ t, u = Value.str y t from rx); cases q; exact PySem.W.kia_one PySem.W.kitx_str I.kIn True.intro e (fun z => nomatch z) h
  | flt y => obtain ⟨t, q⟩ := (show ∃ t, u = Value.float y t from rx); cases q; exact PySem.W.kia_one PySem.W.kitx_float I.kIn True.intro e (fun z => nomatch z) h
  | @lst a xs ea =>
    cases (show u = Value.ref a from rx)
    obtain ⟨_, _, n, _, h1⟩ := (show ObjOk X.prog X.w H s.heap a (.lst xs) from I.hok a _ ea)
    exact PySem.W.kia_one PySem.W.kitx_list I.kIn ⟨_, h1, rfl⟩ e (fun z => nomatch z) h
  | @frz a ob xs ea =>
    cases (show u = Value.ref a from rx)
    obtain ⟨_, _, _, n, _, h1⟩ := (show ObjOk X.prog X.w H s.heap a (.frz ob (.lst xs)) from I.hok a _ ea)
    exact PySem.W.kia_one PySem.W.kitx_list I.kIn ⟨_, h1, rfl⟩ e (fun z => nomatch z) h
  | @tup a xs ea =>
    cases (show u = Value.ref a from rx)
    obtain ⟨_, _, _, p⟩ := (show ObjOk X.prog X.w H s.heap a (.tup xs) from I.hok a _ ea)
    obtain ⟨o, h1, h2, _⟩ := p
    exact PySem.W.kia_one PySem.W.kitx_tuple I.kIn ⟨o, h1, h2⟩ e (fun z => nomatch z) h
  | @dK a kvs ea =>
    cases (show u = Value.ref a from rx)
    obtain ⟨_, _, vs, _, p⟩ := (show ObjOk X.prog X.w H s.heap a (.dK kvs) from I.hok a _ ea)
    obtain ⟨o, es, ep, h1, h2, _⟩ := p
    exact PySem.W.kia_one PySem.W.kitx_dict I.kIn ⟨o, h1, h2.1⟩ e (fun z => nomatch z) h
  | @dT a kvs ea =>
    cases (show u = Value.ref a from rx)
    obtain ⟨_, _, xs, _, o, es, ep, h1, h2, _⟩ := (show ObjOk X.prog X.w H s.heap a (.dT kvs) from I.hok a _ ea)
    exact PySem.W.kia_one PySem.W.kitx_dict I.kIn ⟨o, h1, h2.1⟩ e (fun z => nomatch z) h
  | @ins a C dx fs ea cl ha hn htk hm =>
    cases (show u = Value.ref a from rx)
    obtain ⟨mA, O, _⟩ := ins_get I.hok ea
    obtain ⟨od, J, _⟩ := O.look
    exact PySem.W.kia_one (PySem.W.kitx_own (cl.get _) cl.hd ha hn htk hm) I.kIn J e (fun z => nomatch z) h
end
end L2
namespace L2
open PySem PySem.Spec PyProof.Rows
structure Room (k : Nat) (A : Around) : Prop where
  hd : A.handled = none
  dp : A.depth + 3 * k + 5 < recursionLimit
  un : A.units + 16 * k + 200 < cLine
theorem Room.mono {j k : Nat} {A : Around} (r : Room k A) (h : j ≤ k) : Room j A := ⟨r.hd, by have := r.dp; omega, by have := r.un; omega⟩
theorem Room.deeper {k : Nat} {A : Around} (r : Room (k + 1) A) (env : Env) : Room k (A.deeper env) :=
  ⟨r.hd, by have := r.dp; show A.depth + 1 + 3 * k + 5 < _; omega, by have := r.un; show A.units + 3 + 16 * k + 200 < _; omega⟩
theorem Room.in1 {k : Nat} {A : Around} (r : Room (k + 1) A) : Room k A.in1 :=
  ⟨r.hd, by have := r.dp; show A.depth + 3 * k + 5 < _; omega, by have := r.un; show A.units + 1 + 16 * k + 200 < _; omega⟩
theorem make_depth {A : Around} {C : Addr} {us : List Value} {kw : List (Str × Value)} : (A.under (.builtin "type.__call__" ⟨.ref C :: us, kw⟩)).depth = A.depth + 1 := by
  first | rfl | simp [Around.under, Code.weight, Code.isCreation, Code.isGuard, Code.isCaller, Code.frames, Code.isFrame, guardIds]
theorem make_units {A : Around} {C : Addr} {us : List Value} {kw : List (Str × Value)} : (A.under (.builtin "type.__call__" ⟨.ref C :: us, kw⟩)).units = A.units + 1 := by
  first | rfl | simp [Around.under, Code.cUnits, Code.frames, Code.isFrame]
theorem Room.make {k : Nat} {A : Around} (r : Room (k + 1) A) (C : Addr) (us : List Value) (kw : List (Str × Value)) : Room k (A.under (.builtin "type.__call__" ⟨.ref C :: us, kw⟩)) :=
  ⟨r.hd, by have := r.dp; rw [make_depth]; omega, by have := r.un; rw [make_units]; omega⟩
theorem Room.depth {k : Nat} {A : Around} (r : Room k A) : A.depth < recursionLimit := by have := r.dp; omega
theorem Room.units {k : Nat} {A : Around} (r : Room k A) : A.units + 64 < cLine := by have := r.un; omega
theorem Room.units0 {k : Nat} {A : Around} (r : Room k A) : A.units < cLine := by have := r.un; omega
noncomputable def tNil : TA := fun _ H Q => Q [] H
noncomputable def tCons (ta : TE) (tr : TA) : TA := fun σ H Q => ta σ H fun x H1 => tr σ H1 fun xs H2 => Q (x :: xs) H2
section
variable {X : Cx} {e : Expr} {es : List Expr} {te : TE} {t : TA} {pos : Pos}
theorem pa_nil : PA X [] tNil := fun _ _ _ _ H Q I h => Calls.spliced_nil ⟨[], H, I, .nil, h⟩
theorem pa_cons (ha : PE X e te) (hr : PA X es t) (hs : starEach (e :: es) X.env = (false, eval e X.env) :: starEach es X.env := by rfl) : PA X (e :: es) (tCons te t) := by
  intro pos pins s σ H Q I h
  rw [hs]
  show wpAny _ _ (spliced ((false, eval e X.env) :: backTo pos (starEach es X.env))) _ _ s
  refine Calls.spliced_cons (thn (ha pins s σ H _ I h) fun u s1 zpat => ?_)
  obtain ⟨x, H1, I1, r1, q1⟩ := zpat
  exact thn (hr pos pins s1 σ H1 _ I1 q1) fun us s2 ⟨xs, H2, I2, r2, q2⟩ => ⟨x :: xs, H2, I2, .cons r1 r2, q2⟩
noncomputable def tTup (t : TA) : TE := fun σ H Q => t σ H fun xs H1 => xs.length ≤ sizeLine ∧ ∀ p, H1 p = none → Q (.ref p) (upd H1 p (.tup xs))
noncomputable def tLst (t : TA) : TE := fun σ H Q => t σ H fun xs H1 => xs.length ≤ sizeLine ∧ ∀ p, H1 p = none → Q (.ref p) (upd H1 p (.lst xs))
theorem pe_tup {x1} (h : PA X es t) : PE X (.Tuple es x1 pos) (tTup t) := by
  intro pins s σ H Q I hq
  refine wpAny_Tuple_spliced (thn (h pos pins s σ H _ I hq) fun us s1 ⟨xs, H1, I1, r, z, q⟩ => ⟨by rw [← r.length]; exact z, ?_⟩)
  have hf : H1 s1.heap.objs.size = none := I1.hok.fresh (Nat.le_refl _)
  refine ⟨.ref s1.heap.objs.size, upd H1 s1.heap.objs.size (.tup xs), I1.laid (t' := s1.toks) (fun b u e => Heap.get?_push_of_some _ e) (Nat.le_refl _) ?_, rfl, q _ hf⟩
  exact ⟨z, us, r, ⟨_, Heap.get?_push_size _ rfl, rfl, _, rfl⟩⟩
theorem pe_lst (h : PA X es t) : PE X (.List es pos) (tLst t) := by
  intro pins s σ H Q I hq
  refine wpAny_List_spliced (thn (h pos pins s σ H _ I hq) fun us s1 ⟨xs, H1, I1, r, z, q⟩ => ⟨by rw [← r.length]; exact z, ?_⟩)
  have hf : H1 s1.heap.objs.size = none := I1.hok.fresh (Nat.le_refl _)
  refine ⟨.ref s1.heap.objs.size, upd H1 s1.heap.objs.size (.lst xs), I1.laid (t' := s1.toks) (fun b u e => Heap.get?_push_of_some _ e) (Nat.le_refl _) ?_, rfl, q _ hf⟩
  exact ⟨z, us, 0, r, Heap.get?_push_size _ rfl⟩
end
noncomputable abbrev Sp := List V → Hp → VK → XK → Prop
noncomputable abbrev CXT := List Env → Hp → Shared → XK → Value → Shared → Prop
structure Env0 (P : Program) (w : World) (K : PySem.W.Frag) (mg : Str → Option Value) (base : Heap) (A : Around) (outer : List Env) (s : Shared) (H : Hp) : Prop where
  frames : A.frames = some outer
  mod : Mod K mg base
  bs : ∀ b o, base.get? b = some o → s.heap.get? b = some o ∧ H b = none
  bsz : base.objs.size ≤ s.heap.objs.size
  funs : s.heap.FunFrames base outer
  frf : ∀ b ∈ frs outer, H b = none
  hok : HOk P w H s.heap
  bare : AllBare s.gens
noncomputable def CE (outer : List Env) (P : Program) (w : World) (H : Hp) (s : Shared) (Q : VK) (u : Value) (s' : Shared) : Prop :=
  ∃ v H', s'.os = s.os ∧ AllBare s'.gens ∧ Un (frs outer) [] H H' s.heap s'.heap ∧ HOk P w H' s'.heap ∧ RelV v u ∧ Q v H'
noncomputable def CR (CX : CXT) (outer : List Env) (P : Program) (w : World) (H : Hp) (s : Shared) (Q : VK) (E : XK) (r : Result) (s' : Shared) : Prop :=
  match r with
  | .ok (.ret u) => CE outer P w H s Q u s'
  | .ok _ => False
  | .error e => CX outer H s E e s'
structure FnOk (P : Program) (w : World) (K : PySem.W.Frag) (mg : Str → Option Value) (base : Heap) (CX : CXT) (k : Nat) (f : Addr) (fd : FuncData) (ps : List Str) (sp : Sp) : Prop where
  len : ∀ vs H Q E, sp vs H Q E → vs.length = ps.length
  run : ∀ (A : Around) (outer : List Env) (s : Shared) (H : Hp) (args : Args) (us : List Value) (vs : List V) (Q : VK) (E : XK), Room k A → Env0 P w K mg base A outer s H → BindsTo s fd args (ps.zip us) → Vals vs us → sp vs H Q E →
    codeAny (model P w) A (.call (.ref f) args) (CR CX outer P w H s Q E) s
theorem FnOk.mono {P : Program} {w : World} {K : PySem.W.Frag} {mg : Str → Option Value} {base : Heap} {CX : CXT} {j k : Nat} {f : Addr} {fd : FuncData} {ps : List Str} {sp : Sp} (F : FnOk P w K mg base CX j f fd ps sp) (h : j ≤ k) :
    FnOk P w K mg base CX k f fd ps sp := ⟨F.len, fun A outer s H args us vs Q E hr => F.run A outer s H args us vs Q E (hr.mono h)⟩
theorem FnOk.imp {P : Program} {w : World} {K : PySem.W.Frag} {mg : Str → Option Value} {base : Heap} {CX : CXT} {k : Nat} {f : Addr} {fd : FuncData} {ps : List Str} {sp sp' : Sp} (F : FnOk P w K mg base CX k f fd ps sp)
    (h : ∀ vs H Q E, sp' vs H Q E → sp vs H Q E) : FnOk P w K mg base CX k f fd ps sp' :=
  ⟨fun vs H Q E q => F.len vs H Q E (h _ _ _ _ q), fun A outer s H args us vs Q E hr he hb hv hs => F.run A outer s H args us vs Q E hr he hb hv (h _ _ _ _ hs)⟩
theorem Env0.make {P : Program} {w : World} {K : PySem.W.Frag} {mg : Str → Option Value} {base : Heap} {A : Around} {outer : List Env} {s : Shared} {H : Hp} (e : Env0 P w K mg base A outer s H) (C : Addr) (us : List Value) (kw : List (Str × Value)) :
    Env0 P w K mg base (A.under (.builtin "type.__call__" ⟨.ref C :: us, kw⟩)) outer s H := ⟨by first | exact e.frames | (simpa [Around.under, Code.envs, Code.isFrame, pushEnvs] using e.frames), e.mod, e.bs, e.bsz, e.funs, e.frf, e.hok, e.bare⟩
theorem Env0.in1 {P : Program} {w : World} {K : PySem.W.Frag} {mg : Str → Option Value} {base : Heap} {A : Around} {outer : List Env} {s : Shared} {H : Hp} (e : Env0 P w K mg base A outer s H) :
    Env0 P w K mg base A.in1 outer s H := ⟨e.frames, e.mod, e.bs, e.bsz, e.funs, e.frf, e.hok, e.bare⟩
section
variable {X : Cx} {pins : List (Addr × Obj)} {σ : St} {H : Hp} {s s' : Shared}
theorem Inv.env0 (I : Inv X pins σ H s) : Env0 X.prog X.w X.K X.mg X.base X.A X.stack s H :=
  ⟨I.ok.frames, I.ok.mod, I.bs, Nat.le_trans I.ok.bsz I.sz, I.stack, I.stkFree, I.hok, I.bare⟩
theorem Inv.after {Q : VK} {u : Value} (I : Inv X pins σ H s) (h : CE X.stack X.prog X.w H s Q u s') : EP X pins σ Q u s' := by
  obtain ⟨v, H', os, bare, un, hok, r, q⟩ := h
  obtain ⟨hh, g, d, t, os'⟩ := s'
  obtain rfl : os' = s.os := os
  exact ⟨v, H', I.call (h' := hh) (g' := g) (d' := d) (t' := t) (ch := []) un hok bare (fun b z => absurd z (by simp)), r, q⟩
end
noncomputable def tCall (sp : Sp) (dvs : List V) (E : XK) (t : TA) : TE := fun σ H Q => t σ H fun vs H1 => sp (vs ++ dvs) H1 Q E
inductive IMeth (C : Addr) (m : Str) (x : V) (H : Hp) (R : Prop) : Prop where
  | mk (a dx : Addr) (fs : List (Str × V)) (ex : x = .ref a) (ea : H a = some (.ins C dx fs)) (l : fs.lookup m = none) (q : R) : IMeth C m x H R
noncomputable def tMeth (C : Addr) (m : Str) (sp : Sp) (dvs : List V) (E : XK) (ta : TE) (t : TA) : TE := fun σ H Q => ta σ H fun x H1 => IMeth C m x H1 (
  t σ H1 fun vs H2 => sp (x :: (vs ++ dvs)) H2 Q E)
noncomputable def tMake (C : Addr) (sp : Sp) (dvs : List V) (E : XK) (t : TA) : TE := fun σ H Q => t σ H fun vs H1 => ∀ x dx, H1 x = none → H1 dx = none → dx ≠ x →
  sp (.ref x :: (vs ++ dvs)) (upd (upd H1 dx (.own x)) x (.ins C dx [])) (fun v H2 => v = .non ∧ Q (.ref x) H2) E
noncomputable def Binds (K : PySem.W.Frag) (fd : FuncData) (ps : List Str) (ds : List Value) : Prop :=
  ∀ (s : Shared) (us : List Value), K.In s.heap → (us ++ ds).length = ps.length → BindsTo s fd ⟨us, []⟩ (ps.zip (us ++ ds))
theorem Binds.all {K : PySem.W.Frag} {fd : FuncData} {ps : List Str} (h : ∀ us : List Value, us.length = ps.length → bindArgs fd ⟨us, []⟩ = pure (ps.zip us)) : Binds K fd ps [] := fun s us _ hl => by
  rw [List.append_nil] at hl ⊢
  exact .of_eq (h us hl)
noncomputable def Passes (CX : CXT) (X : Cx) (E : XK) : Prop := ∀ (pins : List (Addr × Obj)) (σ : St) (H : Hp) (s : Shared) (e : Value) (s' : Shared), Inv X pins σ H s → CX X.stack H s E e s' → X.xe e s'
section
variable {X : Cx} {CX : CXT} {k : Nat} {f C : Addr} {fd : FuncData} {ps : List Str} {sp : Sp} {dvs : List V} {ds : List Value} {E : XK} {x m : Str} {p pos apos : Pos} {e o : Expr} {es : List Expr} {ta : TE} {t : TA}
theorem run_fn {pins : List (Addr × Obj)} {σ : St} {H : Hp} {s : Shared} {Q : VK} {us : List Value} {vs : List V} (F : FnOk X.prog X.w X.K X.mg X.base CX k f fd ps sp) (hr : Room k X.A) (hb : Binds X.K fd ps ds) (hd : Vals dvs ds) (hx : Passes CX X E)
    (I : Inv X pins σ H s) (r : Vals vs us) (h : sp (vs ++ dvs) H Q E) : wpAny (model X.prog X.w) X.A (call (.ref f) us) (EP X pins σ Q) X.xe s := by
  have r2 : Vals (vs ++ dvs) (us ++ ds) := r.append hd
  have hl : (us ++ ds).length = ps.length := by rw [← r2.length]; exact F.len _ _ _ _ h
  refine wpAny_call (codeAny_mono (F.run X.A X.stack s H ⟨us, []⟩ (us ++ ds) (vs ++ dvs) Q E hr I.env0 (hb s us I.kIn hl) r2 h) fun r s' hq => ?_)
  cases r with
  | error e => exact hx pins σ H s e s' I hq
  | ok fl =>
    cases fl with
    | ret u => exact I.after hq
    | next => exact False.elim hq
    | brk => exact False.elim hq
    | cont => exact False.elim hq
theorem pe_call (F : FnOk X.prog X.w X.K X.mg X.base CX k f fd ps sp) (hr : Room k X.A) (hg : Gl X x) (hm : X.mg x = some (.ref f)) (hk : PySem.W.keepIn X.K (.ref f) = true) (hb : Binds X.K fd ps ds) (hd : Vals dvs ds) (hx : Passes CX X E)
    (ha : PA X (e :: es) t) (hdb : (x == ("__debug__" : Str)) = false := by decide) (he : starEach (e :: es) X.env = (false, eval e X.env) :: starEach es X.env := by rfl) (hpl : (backTo pos (starEach es X.env)).any (·.1) = false := by rfl) :
    PE X (.Call (.Name x p) (e :: es) [] pos) (tCall sp dvs E t) := by
  intro pins s σ H Q I h
  refine wpAny_Call_Name_kw (ld_glob I hg hm ?_ hdb)
  refine PySem.W.callWith_K (h₀ := X.base) I.ok.mod.kin hk (thn (ha pos pins s σ H _ I h) fun us s1 ⟨vs, H1, I1, r, q⟩ => ⟨I1.kIn, ?_⟩) he hpl
  exact run_fn F hr hb hd hx I1 r q
theorem pe_meth {pl : Sem Bool} (he : PE X o ta) (c : Cls X.K C) (hm : Meth X.K C m f) (F : FnOk X.prog X.w X.K X.mg X.base CX k f fd ps sp) (hr : Room k X.A) (hb : Binds X.K fd ps ds) (hd : Vals dvs ds) (hx : Passes CX X E) (ha : PA X (e :: es) t)
    (hst : starEach (e :: es) X.env = (false, eval e X.env) :: starEach es X.env := by rfl) (hpl : (backTo pos (starEach es X.env)).any (·.1) = false := by rfl)
    (ht : eval (.Call (.Attribute o m apos) (e :: es) [] pos) X.env = (do
      let ov ← eval o X.env
      standAt apos.atName
      let (f, first) ← holding [ov] (getMethod ov m pl)
      callWith pos f first (backTo pos (starEach (e :: es) X.env)) (backToKw pos (keywordEach [] X.env))) := by rfl) :
    PE X (.Call (.Attribute o m apos) (e :: es) [] pos) (tMeth C m sp dvs E ta t) := by
  intro pins s σ H Q I h
  refine PySem.W.methodCall_KW (pl := pl) (thn (he pins s σ H _ I h) fun u s1 zpat => ?_) ht
  obtain ⟨x, H1, I1, rx, a, dx, fs, ex, ea, l, q⟩ := zpat
  subst ex
  obtain rfl : u = Value.ref a := rx
  refine getmeth_ok I1 ea c hm l ?_
  refine PySem.W.callWith_K (first := [.ref a]) (h₀ := X.base) I.ok.mod.kin hm.kp (thn (ha pos pins s1 σ H1 _ I1 q) fun us s2 ⟨vs, H2, I2, r, q2⟩ => ⟨I2.kIn, ?_⟩) hst hpl
  exact run_fn (us := .ref a :: us) (vs := .ref a :: vs) F hr hb hd hx I2 (.cons rfl r) q2
theorem pe_meth0 {pl : Sem Bool} (he : PE X o ta) (c : Cls X.K C) (hm : Meth X.K C m f) (F : FnOk X.prog X.w X.K X.mg X.base CX k f fd ps sp) (hr : Room k X.A) (hb : Binds X.K fd ps ds) (hd : Vals dvs ds) (hx : Passes CX X E)
    (ht : eval (.Call (.Attribute o m apos) [] [] pos) X.env = (do
      let ov ← eval o X.env
      standAt apos.atName
      let (f, first) ← holding [ov] (getMethod ov m pl)
      callWith pos f first (backTo pos (starEach [] X.env)) (backToKw pos (keywordEach [] X.env))) := by rfl) :
    PE X (.Call (.Attribute o m apos) [] [] pos) (tMeth C m sp dvs E ta tNil) := by
  intro pins s σ H Q I h
  refine PySem.W.methodCall_KW (pl := pl) (thn (he pins s σ H _ I h) fun u s1 zpat => ?_) ht
  obtain ⟨x, H1, I1, rx, a, dx, fs, ex, ea, l, q⟩ := zpat
  subst ex
  obtain rfl : u = Value.ref a := rx
  refine getmeth_ok I1 ea c hm l ?_
  exact PySem.W.callWith_K0 (first := [.ref a]) I1.kIn hm.kp (run_fn (us := [.ref a]) (vs := [.ref a]) F hr hb hd hx I1 (.cons rfl .nil) q)
structure Mk (K : PySem.W.Frag) (C f : Addr) : Prop where
  makes : PySem.W.makesIn K C = true
  init : PySem.W.findIn K (.ref C) "__init__" = some (some (.ref f))
  fn : PySem.W.isFn K (.ref f) = true
  kp : PySem.W.keepIn K (.ref C) = true
theorem run_make {pins : List (Addr × Obj)} {σ : St} {H : Hp} {s : Shared} {Q : VK} {us : List Value} {vs : List V} (M : Mk X.K C f) (F : FnOk X.prog X.w X.K X.mg X.base CX k f fd ps sp) (hr : Room (k + 1) X.A) (hb : Binds X.K fd ps ds) (hd : Vals dvs ds)
    (hx : Passes CX X E) (I : Inv X pins σ H s) (r : Vals vs us)
    (h : ∀ x dx, H x = none → H dx = none → dx ≠ x → sp (.ref x :: (vs ++ dvs)) (upd (upd H dx (.own x)) x (.ins C dx [])) (fun v H2 => v = .non ∧ Q (.ref x) H2) E) :
    wpAny (model X.prog X.w) X.A (call (.ref C) us) (EP X pins σ Q) X.xe s := by
  have hq := h (s.heap.objs.size + 1) s.heap.objs.size (I.hok.fresh (Nat.le_succ _)) (I.hok.fresh (Nat.le_refl _)) (Nat.ne_of_lt (Nat.lt_succ_self _))
  have I2 := Inv.made (C := C) I
  have r2 : Vals (V.ref (s.heap.objs.size + 1) :: (vs ++ dvs)) (Value.ref (s.heap.objs.size + 1) :: (us ++ ds)) := .cons rfl (r.append hd)
  have hl : (Value.ref (s.heap.objs.size + 1) :: us ++ ds).length = ps.length := by
    have e := r2.length
    rw [F.len _ _ _ _ hq] at e
    exact e.symm
  refine wpAny_call (make_map (f := f) I.kIn M.makes M.init (beq_iff_eq.mp M.fn) (codeAny_mono (F.run _ X.stack _ _ ⟨Value.ref (s.heap.objs.size + 1) :: us, []⟩ (Value.ref (s.heap.objs.size + 1) :: (us ++ ds)) _ _ E (hr.make C us [])
    (I2.env0.make C us []) (hb _ (Value.ref (s.heap.objs.size + 1) :: us) I2.kIn hl) r2 hq) fun r s' hq' => ?_))
  cases r with
  | error e => exact hx pins σ _ _ e s' I2 hq'
  | ok fl =>
    cases fl with
    | ret u =>
      obtain ⟨v, H', I3, rv, ev, q3⟩ := I2.after hq'
      subst ev
      exact ⟨rv, ⟨V.ref (s.heap.objs.size + 1), H', I3, rfl, q3⟩⟩
    | next => exact False.elim hq'
    | brk => exact False.elim hq'
    | cont => exact False.elim hq'
theorem pe_make (M : Mk X.K C f) (F : FnOk X.prog X.w X.K X.mg X.base CX k f fd ps sp) (hr : Room (k + 1) X.A) (hg : Gl X x) (hm : X.mg x = some (.ref C)) (hb : Binds X.K fd ps ds) (hd : Vals dvs ds) (hx : Passes CX X E)
    (ha : PA X (e :: es) t) (hdb : (x == ("__debug__" : Str)) = false := by decide) (he : starEach (e :: es) X.env = (false, eval e X.env) :: starEach es X.env := by rfl) (hpl : (backTo pos (starEach es X.env)).any (·.1) = false := by rfl) :
    PE X (.Call (.Name x p) (e :: es) [] pos) (tMake C sp dvs E t) := by
  intro pins s σ H Q I h
  refine wpAny_Call_Name_kw (ld_glob I hg hm ?_ hdb)
  refine PySem.W.callWith_K (h₀ := X.base) I.ok.mod.kin M.kp (thn (ha pos pins s σ H _ I h) fun us s1 ⟨vs, H1, I1, r, q⟩ => ⟨I1.kIn, ?_⟩) he hpl
  exact run_make M F hr hb hd hx I1 r q
end
section
variable {X : Cx} {CX : CXT} {k : Nat} {f C : Addr} {fd : FuncData} {ps ks : List Str} {sp : Sp} {E : XK} {x m : Str} {p pos apos kpos : Pos} {e o : Expr} {es : List Expr} {kws : List Keyword} {te ta : TE} {t tk : TA} {nm : Option Str}
variable {g : List Value → List Value → List Value} {gV : List V → List V → List V}
end
structure FnScope (N P : List Str) (sc : Scope) : Prop where
  kind : sc.kind = .function
  co : sc.isCoroutine = false
  gen : sc.isGenerator = false
  nd : N.Nodup
  pre : N.take P.length = P
  par : ∀ x ∈ P, sc.names.lookup x = some .local ∨ sc.names.lookup x = some .cell
  nofree : ∀ y ∈ sc.names, y.2 ≠ .free
theorem bindL_out {kindOf : Str → Option NameKind} {x : Str} : ∀ {binds : List (Str × Value)} {m : Str → Option Value}, (∀ v, (x, v) ∉ binds) → bindL kindOf binds m x = m x
  | [], _, _ => rfl
  | (n, v) :: r, m, h => by
    unfold bindL
    rw [bindL_out fun w hw => h w (List.mem_cons_of_mem _ hw)]
    split
    · have : x ≠ n := by rintro rfl; exact h v List.mem_cons_self
      simp [this]
    · rfl
theorem bindC_out {kindOf : Str → Option NameKind} {x : Str} : ∀ {binds : List (Str × Value)} {m : Str → Option Value}, (∀ v, (x, v) ∉ binds) → bindC kindOf binds m x = m x
  | [], _, _ => rfl
  | (n, v) :: r, m, h => by
    unfold bindC
    rw [bindC_out fun w hw => h w (List.mem_cons_of_mem _ hw)]
    split
    · rfl
    · have : x ≠ n := by rintro rfl; exact h v List.mem_cons_self
      simp [this]
theorem bindL_get {kindOf : Str → Option NameKind} {x : Str} {v : Value} : ∀ {P : List Str} {vs : List Value} {i : Nat} {m : Str → Option Value}, P.Nodup → P[i]? = some x → vs[i]? = some v → kindOf x = some .local →
    bindL kindOf (P.zip vs) m x = some v
  | [], _, _, _, _, h, _, _ => by simp at h
  | _ :: _, [], _, _, _, _, h, _ => by simp at h
  | p :: P, w :: vs, 0, m, nd, h1, h2, hk => by
    simp at h1 h2; subst h1; subst h2
    show bindL kindOf ((p, w) :: P.zip vs) m p = _
    unfold bindL
    rw [bindL_out fun v hv => (List.nodup_cons.mp nd).1 (List.of_mem_zip hv).1, if_pos hk]
    simp
  | p :: P, w :: vs, i + 1, m, nd, h1, h2, hk => by
    show bindL kindOf ((p, w) :: P.zip vs) m x = _
    unfold bindL
    exact bindL_get (i := i) (List.nodup_cons.mp nd).2 (by simpa using h1) (by simpa using h2) hk
theorem bindC_get {kindOf : Str → Option NameKind} {x : Str} {v : Value} : ∀ {P : List Str} {vs : List Value} {i : Nat} {m : Str → Option Value}, P.Nodup → P[i]? = some x → vs[i]? = some v → kindOf x ≠ some .local →
    bindC kindOf (P.zip vs) m x = some v
  | [], _, _, _, _, h, _, _ => by simp at h
  | _ :: _, [], _, _, _, _, h, _ => by simp at h
  | p :: P, w :: vs, 0, m, nd, h1, h2, hk => by
    simp at h1 h2; subst h1; subst h2
    show bindC kindOf ((p, w) :: P.zip vs) m p = _
    unfold bindC
    rw [bindC_out fun v hv => (List.nodup_cons.mp nd).1 (List.of_mem_zip hv).1, if_neg hk]
    simp
  | p :: P, w :: vs, i + 1, m, nd, h1, h2, hk => by
    show bindC kindOf ((p, w) :: P.zip vs) m x = _
    unfold bindC
    exact bindC_get (i := i) (List.nodup_cons.mp nd).2 (by simpa using h1) (by simpa using h2) hk
noncomputable def start (N : List Str) (vs : List V) : St := vs.map some ++ List.replicate (N.length - vs.length) none
noncomputable def cxOf (CX : CXT) (P : Program) (w : World) (K : PySem.W.Frag) (mg : Str → Option Value) (base : Heap) (N : List Str) (qual : Str) (scope : Scope) (f : Addr) (cd : Value) (A : Around) (outer : List Env) (s : Shared) (H : Hp) (E : XK) : Cx where
  prog := P
  w := w
  K := K
  mg := mg
  base := base
  A := A.deeper (envOfC qual scope s.heap.objs.size f cd)
  N := N
  s₀ := s
  H₀ := H
  env := envOfC qual scope s.heap.objs.size f cd
  outer := outer
  stack := envOfC qual scope s.heap.objs.size f cd :: outer
  ex := []
  calm := true
  fn := fun _ => true
  pn := []
  xe := fun e s' => wpAny (model P w) (A.deeper (envOfC qual scope s.heap.objs.size f cd)) (leaving (envOfC qual scope s.heap.objs.size f cd) e) (fun _ s'' => CX outer H s E e s'') (fun e' s'' => CX outer H s E e' s'') s'
theorem cell_has {sc : Scope} {n : Nat} {x : Str} (h : sc.names.lookup x = some .cell) : ∃ c, (cellsFrom n sc.names []).lookup x = some c := by
  have q := PySem.W.cellsFrom_some sc.names n [] (.inl h)
  exact Option.isSome_iff_exists.mp q
theorem inv_start {CX : CXT} {P : Program} {w : World} {K : PySem.W.Frag} {mg : Str → Option Value} {base : Heap} {N ps : List Str} {qual : Str} {scope : Scope} {f : Addr} {cd : Value} {A : Around} {outer : List Env} {s s1 : Shared} {H : Hp} {E : XK} {us : List Value} {vs : List V}
    (S : FnScope N ps scope) (hd : A.handled = none) (e0 : Env0 P w K mg base A outer s H) (hl : vs.length = ps.length) (r : Vals vs us)
    (x : InCallC s s.heap.objs.size (bindL (envOfC qual scope s.heap.objs.size f cd).kindOf (ps.zip us) fun _ => none) (cellsFrom (s.heap.objs.size + 1) scope.names []) (bindC (envOfC qual scope s.heap.objs.size f cd).kindOf (ps.zip us) fun _ => none) s1) :
    Inv (cxOf CX P w K mg base N qual scope f cd A outer s H E) [] (start N vs) H s1 := by
  have hpl : ps.length ≤ N.length := by have := congrArg List.length S.pre; rw [List.length_take] at this; omega
  obtain ⟨h1, tk, rfl, hk⟩ := x.done
  have noA : ∀ b : Addr, b ∉ (cxOf CX P w K mg base N qual scope f cd A outer s H E).ex := fun b z => absurd (show b ∈ ([] : List Addr) from z) (by simp)
  refine ⟨⟨e0.mod, S.kind, rfl, rfl, Nat.le_refl _, fun y z c h1 h2 => ?_, fun y hy => ?_, fun y c _ h => ?_, fun _ => hd, Around.frames_deeper e0.frames, .inr ⟨rfl, rfl⟩, fun b z => absurd z (noA b), e0.bs, e0.bsz, fun b _ _ => noA b, fun b z => absurd z (noA b), e0.funs, e0.frf⟩,
    rfl, e0.bare, Un.kept hk, ⟨_, x.toInCall.ns, fun i y v h1 h2 h3 => ?_⟩, fun y c h => ⟨_, x.cell y c h⟩, e0.hok.fresh (Nat.le_refl _), fun y c h => ?_, fun p hp => absurd (show p ∈ ([] : List (Addr × Obj)) from hp) (by simp), e0.hok.kept hk, ?_⟩
  · exact name_of_addr x.apart (PySem.mem_of_lookup h1) (PySem.mem_of_lookup h2)
  · have hy : scope.names.lookup y = some .cell ∨ scope.names.lookup y = some .free := hy
    rcases hy with hy | hy
    · exact cell_has hy
    · exact absurd rfl (S.nofree _ (PySem.mem_of_lookup hy))
  · exact Nat.le_of_lt (x.above y c (PySem.mem_of_lookup h))
  · have hi : i < vs.length := by
      unfold start at h2
      by_cases hi : i < vs.length
      · exact hi
      · rw [List.getElem?_append_right (by simpa using hi)] at h2
        rw [List.getElem?_replicate] at h2
        split at h2 <;> cases h2
    have ha : vs[i]? = some v := by
      unfold start at h2
      rw [List.getElem?_append_left (by simpa using hi), List.getElem?_map] at h2
      cases e : vs[i]? with
      | none => rw [e] at h2; cases h2
      | some a => rw [e] at h2; cases h2; rfl
    obtain ⟨u, hu, rv⟩ := r.get ha
    have hp : ps[i]? = some y := by
      rw [← S.pre, List.getElem?_take_of_lt (by omega)]; exact h1
    have ndP : ps.Nodup := by rw [← S.pre]; exact S.nd.sublist (List.take_sublist _ _)
    refine ⟨u, rv, ?_⟩
    rcases S.par y (List.mem_of_getElem? hp) with k | k
    · exact .inl ⟨k, bindL_get ndP hp hu k⟩
    · obtain ⟨c, e⟩ := cell_has (n := s.heap.objs.size + 1) k
      refine .inr ⟨.inl k, c, e, ?_⟩
      have q := x.cell y c e
      rw [bindC_get ndP hp hu (by show scope.names.lookup y ≠ _; rw [k]; decide)] at q
      exact q
  · exact e0.hok.fresh (Nat.le_of_lt (x.above y c (PySem.mem_of_lookup h)))
  · unfold start
    show _ = N.length
    rw [List.length_append, List.length_map, List.length_replicate]
    omega
theorem fn_of {CX : CXT} {P : Program} {w : World} {K : PySem.W.Frag} {mg : Str → Option Value} {base : Heap} {k : Nat} {f : Addr} {name qual : Str} {params : Arguments} {body : List Stmt} {scope : Scope} {dV kV doc pm cdv ct oc : Value} {an od : Option Addr}
    {osl : Array (Option Value)} {N ps : List Str} {sp : Sp} (lk : K.lookup f = some ⟨oc, od, .func (PySem.W.fnOf name qual params body scope dV kV doc pm an cdv ct), osl⟩) (hcd : PySem.W.codeIn K cdv qual = true) (S : FnScope N ps scope)
    (len : ∀ vs H Q E, sp vs H Q E → vs.length = ps.length)
    (hbody : ∀ (A : Around) (outer : List Env) (s : Shared) (H : Hp) (vs : List V) (Q : VK) (E : XK), Room k (A.deeper (envOfC qual scope s.heap.objs.size f cdv)) → sp vs H Q E →
      ∃ t, PSs (cxOf CX P w K mg base N qual scope f cdv A outer s H E) body t ∧ t { nx := fun _ H' => Q .non H', rt := Q } (start N vs) H) :
    FnOk P w K mg base CX (k + 1) f (PySem.W.fnOf name qual params body scope dV kV doc pm an cdv ct) ps sp := by
  refine ⟨len, fun A outer s H args us vs Q E hr e0 hb r hsp => ?_⟩
  have hl := len _ _ _ _ hsp
  have KX : K.In s.heap := e0.mod.kin.keeps fun b o e => (e0.bs b o e).1
  have lim : s.heap.NoLimit := e0.mod.nolimit.keeps fun b o e => (e0.bs b o e).1
  have hkind : ∀ y ∈ ps.zip us, scope.names.lookup y.1 = some .local ∨ (scope.names.lookup y.1 = some .cell ∧ ((cellsFrom (s.heap.objs.size + 1) scope.names []).lookup y.1).isSome = true) := fun ⟨n, v⟩ hy => by
    rcases S.par n (List.of_mem_zip hy).1 with q | q
    · exact .inl q
    · exact .inr ⟨q, PySem.W.cellsFrom_some _ _ _ (.inl q)⟩
  refine codeAny_call_function hr.depth (KX _ _ lk) rfl S.co S.gen rfl (PySem.W.codeRec_of KX hcd) (hb _ _ _ _ ?_)
  refine wpAny_newFunctionEnv_cells S.kind hkind fun env he s1 x => ?_
  subst he
  refine ⟨lim.keeps x.toInCall.keep, codeAny_func ?_⟩
  obtain ⟨t, ht, hq⟩ := hbody A outer s H vs Q E (hr.deeper _) hsp
  have I : Inv (cxOf CX P w K mg base N qual scope f cdv A outer s H E) [] (start N vs) H s1 := inv_start S hr.hd e0 hl r x
  refine wpAny_mono (ht [] s1 (start N vs) H _ I hq) (fun fl s' hs => ?_) fun e s' hs => hs
  have fin : ∀ {σ' : St} {H' : Hp} {v : V} {u : Value}, Inv (cxOf CX P w K mg base N qual scope f cdv A outer s H E) [] σ' H' s' → RelV v u → Q v H' → CE outer P w H s Q u s' :=
    fun {σ' H' v u} J rv q => ⟨v, H', J.os, J.bare, J.base, J.hok, rv, q⟩
  cases fl with
  | ret u =>
    obtain ⟨v, σ', H', J, rv, q⟩ := hs
    exact fin J rv q
  | next =>
    obtain ⟨σ', H', J, q⟩ := hs
    exact fin (v := V.non) (u := Value.none) J rfl q
  | brk =>
    obtain ⟨_, _, _, q⟩ := hs
    exact False.elim q
  | cont =>
    obtain ⟨_, _, _, q⟩ := hs
    exact False.elim q
end L2
namespace L2
open PySem PySem.Spec PyProof.Rows
section
variable {X : Cx} {x : Str} {p pos : Pos} {e : Expr} {es : List Expr} {t : TA} {id T : String} {r : List V → Hp → VK → Prop}
noncomputable def tCB (r : List V → Hp → VK → Prop) (t : TA) : TE := fun σ H Q => t σ H fun vs H1 => r vs H1 Q
theorem pe_callB (hc : CallR X (.builtin id) r) (hg : Gl X x) (hm : X.mg x = none) (hv : bootBuiltins x = some (.builtin id)) (ha : PA X (e :: es) t) (hn : x ≠ "__name__" := by decide) (hdb : (x == ("__debug__" : Str)) = false := by decide)
    (he : starEach (e :: es) X.env = (false, eval e X.env) :: starEach es X.env := by rfl) (hpl : (backTo pos (starEach es X.env)).any (·.1) = false := by rfl) : PE X (.Call (.Name x p) (e :: es) [] pos) (tCB r t) := by
  intro pins s σ H Q I h
  refine wpAny_Call_Name_kw (ld_blt I hg hm hv ?_ hn hdb)
  exact PyProof.Rows.callWith_builtin1 (thn (ha pos pins s σ H _ I h) fun us s1 ⟨vs, H1, I1, r1, q1⟩ => hc pins s1 σ H1 vs us Q I1 r1 q1) he hpl
theorem pe_callTy (hc : CallR X (.type T) r) (hg : Gl X x) (hm : X.mg x = none) (hv : bootBuiltins x = some (.type T)) (ha : PA X (e :: es) t) (hn : x ≠ "__name__" := by decide) (hdb : (x == ("__debug__" : Str)) = false := by decide)
    (he : starEach (e :: es) X.env = (false, eval e X.env) :: starEach es X.env := by rfl) (hpl : (backTo pos (starEach es X.env)).any (·.1) = false := by rfl) : PE X (.Call (.Name x p) (e :: es) [] pos) (tCB r t) := by
  intro pins s σ H Q I h
  refine wpAny_Call_Name_kw (ld_blt I hg hm hv ?_ hn hdb)
  exact PyProof.Rows.callWith_type1 (thn (ha pos pins s σ H _ I h) fun us s1 ⟨vs, H1, I1, r1, q1⟩ => hc pins s1 σ H1 vs us Q I1 r1 q1) he hpl
end
end L2
namespace HT
open PySem PyProof.Rows
section
open PySem.SeqAt
open PySem.AutoSeq1 (wpAny_loadPart')
open PySem.MeetsSeq PySem.MeetsSeq2 PySem.MeetsSeq3
end
section
variable {prog : Program} {w : World} {A : Around} {E : Value → Shared → Prop} {s : Shared}
noncomputable def sIx (n d : Nat) : Option Int → Nat
  | none => d
  | some v => if v < 0 then (v + (n : Int)).toNat else min v.toNat n
theorem sIx_none (n d : Nat) : sIx n d none = d := rfl
theorem sIx_nat (n d k : Nat) : sIx n d (some (k : Int)) = min k n := by
  show (if (k : Int) < 0 then ((k : Int) + (n : Int)).toNat else min (k : Int).toNat n) = min k n
  rw [if_neg (by omega), Int.toNat_natCast]
end
end HT
namespace L2
open PySem PySem.Spec PyProof.Rows
noncomputable abbrev TO := St → Hp → (Option Int → Hp → Prop) → Prop
noncomputable def PO (X : Cx) (e : Option Expr) (t : TO) : Prop :=
  ∀ (pins : List (Addr × Obj)) (s : Shared) (σ : St) (H : Hp) (Q : Option Int → Hp → Prop), Inv X pins σ H s → t σ H Q →
    wpAny (model X.prog X.w) X.A (evalPart e X.env) (fun u s' => ∃ o H', Inv X pins σ H' s' ∧ IsPart u o ∧ Q o H') X.xe s
noncomputable def tNoPart : TO := fun _ H Q => Q none H
noncomputable def tPart (t : TE) : TO := fun σ H Q => t σ H fun x H1 => ∃ i, x = .int i ∧ Q (some i) H1
section
variable {X : Cx} {e : Expr} {te : TE} {lo hi : Option Expr} {tl th : TO} {pos p2 : Pos}
theorem po_none : PO X none tNoPart := by
  intro pins s σ H Q I h
  rw [evalPart_none]
  exact wpAny_pure ⟨none, H, I, .none, h⟩
theorem po_some (h : PE X e te) : PO X (some e) (tPart te) := by
  intro pins s σ H Q I hw
  rw [evalPart_some]
  refine thn (h pins s σ H _ I hw) fun u s1 zpat => ?_
  obtain ⟨x, H1, I1, r1, q1⟩ := zpat
  obtain ⟨i, rfl, q⟩ := q1
  obtain ⟨t, rfl⟩ := r1
  exact ⟨some i, H1, I1, .int i t, q⟩
noncomputable def SlR (X : Cx) (r : V → Option Int → Option Int → Hp → VK → Prop) : Prop :=
  ∀ (pins : List (Addr × Obj)) (s : Shared) (σ : St) (H : Hp) (x : V) (v vl vu : Value) (lo hi : Option Int) (sl : Addr) (Q : VK), Inv X pins σ H s → RelV x v → s.heap.IsSliceOf sl vl vu .none → IsPart vl lo → IsPart vu hi → r x lo hi H Q →
    ∃ T id, typeLookup (.type T) "__getitem__" = pure (some (.builtin id)) ∧ s.TypeIs v T ∧ wpAny (model X.prog X.w) X.A (getItem v (.ref sl)) (EP X pins σ Q) X.xe s
noncomputable def tSl (r : V → Option Int → Option Int → Hp → VK → Prop) (te : TE) (tl th : TO) : TE := fun σ H Q => te σ H fun x H1 => tl σ H1 fun l H2 => th σ H2 fun u H3 => r x l u H3 Q
theorem pe_slice {r : V → Option Int → Option Int → Hp → VK → Prop} (hr : SlR X r) (he : PE X e te) (hl : PO X lo tl) (hu : PO X hi th) : PE X (.Subscript e (.Slice lo hi none p2) pos) (tSl r te tl th) := by
  intro pins s σ H Q I h
  refine Subscript_ (thn (he pins s σ H _ I h) fun v s1 zpat => ?_)
  obtain ⟨x, H1, I1, r1, q1⟩ := zpat
  refine wpAny_Slice (thn (hl pins s1 σ H1 _ I1 q1) fun vl s2 ⟨l, H2, I2, pl, q2⟩ => thn (hu pins s2 σ H2 _ I2 q2) fun vu s3 zpat => ?_)
  obtain ⟨u, H3, I3, pu, q3⟩ := zpat
  rw [evalPart_none]
  refine wpAny_pure ?_
  have I4 : Inv X pins σ H3 { s3 with heap := s3.heap.push { cls := .type "slice", data := .fields #[vl, vu, .none] } } := I3.kept (t' := s3.toks) fun b ob q => Heap.get?_push_of_some _ q
  obtain ⟨T, id, hT, ht, hg⟩ := hr pins { s3 with heap := s3.heap.push { cls := .type "slice", data := .fields #[vl, vu, .none] } } σ H3 x v vl vu l u s3.heap.objs.size Q I4 r1 (Heap.IsSliceOf.new ..) pl pu q3
  show wpAny (model X.prog X.w) X.A (subscriptTail e (.Slice lo hi none p2) v (.ref s3.heap.objs.size)) (EP X pins σ Q) X.xe { s3 with heap := s3.heap.push { cls := .type "slice", data := .fields #[vl, vu, .none] } }
  exact tail_any (ops := [.ref s3.heap.objs.size, v]) ht hT hg (by with_unfolding_all rfl)
noncomputable def cutV (xs : List V) (lo hi : Option Int) : List V := (xs.drop (HT.sIx xs.length 0 lo)).take (HT.sIx xs.length xs.length hi - HT.sIx xs.length 0 lo)
theorem cutV_length (xs : List V) (lo hi : Option Int) : (cutV xs lo hi).length ≤ xs.length := by
  unfold cutV
  rw [List.length_take, List.length_drop]
  omega
end
end L2
namespace L2
open PySem PySem.Spec PyProof.Rows
noncomputable def ixN (n : Nat) (i : Int) : Option Nat := if 0 ≤ i then (if i < n then some i.toNat else none) else if -(n : Int) ≤ i then some (i + n).toNat else none
noncomputable def atI {α : Type} (xs : List α) (i : Int) : Option α := (ixN xs.length i).bind fun j => xs[j]?
theorem ixN_seq {n : Nat} {i : Int} {j : Nat} (h : ixN n i = some j) : seqIndex? i n = some j ∧ j < n ∧ -(n : Int) ≤ i ∧ i < n := by
  unfold ixN at h
  by_cases h0 : 0 ≤ i
  · rw [if_pos h0] at h
    by_cases h1 : i < n
    · rw [if_pos h1] at h
      have e : i.toNat = j := Option.some.inj h
      exact ⟨by rw [seqIndex_of h0 h1, e], by omega, by omega, h1⟩
    · rw [if_neg h1] at h; cases h
  · rw [if_neg h0] at h
    by_cases h1 : -(n : Int) ≤ i
    · rw [if_pos h1] at h
      have e : (i + n).toNat = j := Option.some.inj h
      exact ⟨by rw [seqIndex_neg (by omega) h1, e], by omega, h1, by omega⟩
    · rw [if_neg h1] at h; cases h
theorem atI_get {α : Type} {xs : List α} {i : Int} {v : α} (h : atI xs i = some v) : ∃ j, seqIndex? i xs.length = some j ∧ xs[j]? = some v ∧ j < xs.length ∧ -(xs.length : Int) ≤ i ∧ i < xs.length := by
  unfold atI at h
  cases e : ixN xs.length i with
  | none => rw [e] at h; cases h
  | some j =>
    rw [e] at h
    obtain ⟨h1, h2, h3, h4⟩ := ixN_seq e
    exact ⟨j, h1, h, h2, h3, h4⟩
theorem atI_nat {α : Type} {xs : List α} {j : Nat} {v : α} (h : xs[j]? = some v) : atI xs (j : Int) = some v := by
  have hj : j < xs.length := (List.getElem?_eq_some_iff.mp h).1
  have e : ixN xs.length (j : Int) = some j := by
    unfold ixN
    rw [if_pos (by omega), if_pos (by omega)]; simp
  unfold atI; rw [e]; exact h
noncomputable def PlainIx (b : Expr) : Prop := ∀ o i, subscripted b false o i = operate [o, i] (getItem o i)
noncomputable def IxR (X : Cx) (r : R2) : Prop :=
  ∀ (value slice : Expr) (pins : List (Addr × Obj)) (s : Shared) (σ : St) (H : Hp) (x y : V) (v u : Value) (Q : VK), Inv X pins σ H s → RelV x v → RelV y u → r x y H Q →
    subscripted slice false v u = operate [v, u] (getItem v u) → wpAny (model X.prog X.w) X.A (subscriptTail value slice v u) (EP X pins σ Q) X.xe s
noncomputable def MtR (X : Cx) (id : String) (r : V → List V → Hp → VK → Prop) : Prop :=
  ∀ (pins : List (Addr × Obj)) (s : Shared) (σ : St) (H : Hp) (x : V) (xs : List V) (v : Value) (us : List Value) (Q : VK), Inv X pins σ H s → RelV x v → Vals xs us → r x xs H Q →
    wpAny (model X.prog X.w) X.A (call (.builtin id) (v :: us)) (EP X pins σ Q) X.xe s
section
variable {X : Cx} {a b : Expr} {ta tb : TE} {pos : Pos}
theorem pe_ix {r : R2} (hr : IxR X r) (ha : PE X a ta) (hb : PE X b tb) (hs : PlainIx b) : PE X (.Subscript a b pos) (tOp r ta tb) := by
  intro pins s σ H Q I h
  exact Subscript_ (binT ha hb I h fun v u s2 x y H2 I2 rx ry q => hr a b pins s2 σ H2 x y v u Q I2 rx ry q (hs _ _))
inductive IIxL (K : PySem.W.Frag) (x y : V) (H : Hp) (Q : VK) : Prop where
  | mk (p : Addr) (xs : List V) (i : Int) (v : V) (ex : x = .ref p) (ey : y = .int i) (s : SqL K H p xs) (e : atI xs i = some v) (q : Q v H) : IIxL K x y H Q
noncomputable def rIxL (K : PySem.W.Frag) : R2 := fun x y H Q => IIxL K x y H Q
inductive IIxT (K : PySem.W.Frag) (x y : V) (H : Hp) (Q : VK) : Prop where
  | mk (p : Addr) (xs : List V) (i : Int) (v : V) (ex : x = .ref p) (ey : y = .int i) (s : SqT K H p xs) (e : atI xs i = some v) (q : Q v H) : IIxT K x y H Q
noncomputable def rIxT (K : PySem.W.Frag) : R2 := fun x y H Q => IIxT K x y H Q
theorem ix_list : IxR X (rIxL X.K) := by
  intro value slice pins s σ H x y v u Q I rx ry h hs
  obtain ⟨p, xs, i, z, rfl, rfl, hq, he, q⟩ := h
  cases rx
  obtain ⟨t, rfl⟩ := ry
  obtain ⟨its, r, pl, hz⟩ := I.list hq
  obtain ⟨j, h1, h2, h3, h4, h5⟩ := atI_get he
  obtain ⟨w, ew, rw'⟩ := r.get h2
  have hl := r.length
  have hn := line63
  have fin : EP X pins σ Q w s := ⟨z, H, I, rw', q⟩
  by_cases h0 : 0 ≤ i
  · have hj : i.toNat = j := by
      rw [seqIndex_of h0 h5] at h1
      exact Option.some.inj h1
    exact item_listR pl.isList h0 (by omega) (by rw [hj]; simpa using ew) fin hs
  · have hj : (i + (its.toArray.size : Int)).toNat = j := by
      rw [seqIndex_neg (by omega) h4] at h1
      rw [List.size_toArray, ← hl]
      exact Option.some.inj h1
    exact subscriptTail_builtinR (x := w) pl.isList.typeIs slot_list_getitem.lookup
      (wpAny_getItem_list_neg (Q := fun r s' => r = w ∧ EP X pins σ Q r s') pl.isList (by omega) (by rw [List.size_toArray] <;> omega) (by omega) (by rw [hj]; simpa using ew) ⟨rfl, fin⟩) hs
theorem ix_tup : IxR X (rIxT X.K) := by
  intro value slice pins s σ H x y v u Q I rx ry h hs
  obtain ⟨p, xs, i, z, rfl, rfl, hq, he, q⟩ := h
  cases rx
  obtain ⟨t, rfl⟩ := ry
  obtain ⟨its, r, pl, hz⟩ := I.tuple hq
  obtain ⟨j, h1, h2, h3, h4, h5⟩ := atI_get he
  obtain ⟨w, ew, rw'⟩ := r.get h2
  have hl := r.length
  have hn := line63
  have fin : EP X pins σ Q w s := ⟨z, H, I, rw', q⟩
  exact subscriptTail_builtinR (x := w) pl.typeIs slot_tuple_getitem.lookup
    (getItem_tuple (j := j) (Q := fun r s' => r = w ∧ EP X pins σ Q r s') pl (by omega) (by omega) (by rw [List.size_toArray, ← hl]; exact h1) (by simpa using ew) ⟨rfl, fin⟩) hs
theorem Inv.lst {pins : List (Addr × Obj)} {σ : St} {H : Hp} {s : Shared} {p : Addr} {xs : List V} (I : Inv X pins σ H s) (h : H p = some (.lst xs)) :
    ∃ (its : List Value) (n : Nat), Vals xs its ∧ s.heap.get? p = some { cls := .type "list", data := .seq its.toArray n } ∧ xs.length ≤ sizeLine := by
  obtain ⟨z, its, n, r, e⟩ := I.hok p _ h
  exact ⟨its, n, r, e, z⟩
theorem slice_bounds (lo hi : Option Int) (n : Nat) : (sliceBounds lo hi none n).1 = ((HT.sIx n 0 lo : Nat) : Int) ∧ (sliceBounds lo hi none n).2.1 = ((HT.sIx n n hi : Nat) : Int) ∧ (sliceBounds lo hi none n).2.2 = 1 := by
  refine ⟨?_, ?_, rfl⟩
  · cases lo with
    | none => simp [sliceBounds, HT.sIx]
    | some i =>
      simp only [sliceBounds, HT.sIx, Option.getD_none, show (1 : Int) > 0 by decide, if_true]
      by_cases h : i < 0
      · simp only [h, if_true] <;> omega
      · simp only [h, if_false] <;> omega
  · cases hi with
    | none => simp [sliceBounds, HT.sIx]
    | some i =>
      simp only [sliceBounds, HT.sIx, Option.getD_none, show (1 : Int) > 0 by decide, if_true]
      by_cases h : i < 0
      · simp only [h, if_true] <;> omega
      · simp only [h, if_false] <;> omega
theorem slicePick_cut (its : List Value) (lo hi : Option Int) : slicePick its.toArray lo hi none = ((its.drop (HT.sIx its.length 0 lo)).take (HT.sIx its.length its.length hi - HT.sIx its.length 0 lo)).toArray := by
  obtain ⟨h1, h2, h3⟩ := slice_bounds lo hi its.toArray.size
  unfold slicePick
  rw [h1, h2, h3]
  simp only [sliceRange_one, pick_run, List.size_toArray] <;> rfl
noncomputable def rSlL (K : PySem.W.Frag) : V → Option Int → Option Int → Hp → VK → Prop := fun x lo hi H Q => ∃ a xs, x = .ref a ∧ SqL K H a xs ∧ ∀ p, H p = none → Q (.ref p) (upd H p (.lst (cutV xs lo hi)))
theorem sl_list : SlR X (rSlL X.K) := by
  intro pins s σ H x v vl vu lo hi sl Q I rx hs pl pu h
  obtain ⟨a, xs, rfl, hx, q⟩ := h
  cases rx
  obtain ⟨its, r, ht, hz⟩ := I.list hx
  have hlen := r.length
  refine ⟨"list", _, slot_list_getitem.lookup, ht.isList.typeIs, ?_⟩
  refine wpAny_getItem_list_slice ht.isList hs pl pu .none (by simp) ?_ (by rw [List.size_toArray] <;> omega)
  rw [slicePick_cut, ← hlen]
  refine ⟨.ref s.heap.objs.size, _, I.laid (t' := s.toks) (o := .lst (cutV xs lo hi)) (fun b ob q => Heap.get?_push_of_some _ q) (Nat.le_refl _) ?_, rfl, q _ (I.hok.fresh (Nat.le_refl _))⟩
  exact ⟨Nat.le_trans (cutV_length xs lo hi) hz, _, 0, (r.drop (HT.sIx xs.length 0 lo)).take (HT.sIx xs.length xs.length hi - HT.sIx xs.length 0 lo), Heap.get?_push_size _ rfl⟩
noncomputable def flatV : V → Bool
  | .non => true
  | .bl _ => true
  | .int _ => true
  | .str _ => true
  | _ => false
noncomputable def eqV : V → V → Bool
  | .non, .non => true
  | .bl a, .bl b => a == b
  | .bl a, .int b => (if a then 1 else 0) == b
  | .int a, .bl b => a == (if b then 1 else 0)
  | .int a, .int b => a == b
  | .str a, .str b => a == b
  | _, _ => false
theorem eqAt_V {A : Around} {s : Shared} {y x : V} {u v : Value} (ry : RelV y u) (rx : RelV x v) (fy : flatV y = true) (fx : flatV x = true) : SeqAt.EqAt A s u v (eqV y x) := by
  cases y with
  | non =>
    cases ry
    cases x with
    | non => cases rx; exact SeqAt.EqAt.same _
    | bl b => cases rx; exact SeqAt.EqAt.none_bool b
    | int b => obtain ⟨t, rfl⟩ := rx; exact SeqAt.EqAt.none_int b t
    | str b => obtain ⟨t, rfl⟩ := rx; exact SeqAt.EqAt.none_str b t
    | _ => exact absurd (show false = true from fx) Bool.false_ne_true
  | bl a =>
    cases ry
    cases x with
    | non => cases rx; exact SeqAt.EqAt.bool_none a
    | bl b => cases rx; exact SeqAt.EqAt.bool_bool a b
    | int b => obtain ⟨t, rfl⟩ := rx; exact SeqAt.EqAt.bool_int a b t
    | str b => obtain ⟨t, rfl⟩ := rx; exact SeqAt.EqAt.bool_str a b t
    | _ => exact absurd (show false = true from fx) Bool.false_ne_true
  | int a =>
    obtain ⟨t', rfl⟩ := ry
    cases x with
    | non => cases rx; exact SeqAt.EqAt.int_none a t'
    | bl b => cases rx; exact SeqAt.EqAt.int_bool a t' b
    | int b => obtain ⟨t, rfl⟩ := rx; exact SeqAt.EqAt.int_int a t' b t
    | str b => obtain ⟨t, rfl⟩ := rx; exact SeqAt.EqAt.int_str a t' b t
    | _ => exact absurd (show false = true from fx) Bool.false_ne_true
  | str a =>
    obtain ⟨t', rfl⟩ := ry
    cases x with
    | non => cases rx; exact SeqAt.EqAt.str_none a t'
    | bl b => cases rx; exact SeqAt.EqAt.str_bool a t' b
    | int b => obtain ⟨t, rfl⟩ := rx; exact SeqAt.EqAt.str_int a t' b t
    | str b => obtain ⟨t, rfl⟩ := rx; exact SeqAt.EqAt.str_str a t' b t
    | _ => exact absurd (show false = true from fx) Bool.false_ne_true
  | _ => exact absurd (show false = true from fy) Bool.false_ne_true
noncomputable def eqU (x : V) (u : Value) : Bool := match u with
  | .none => eqV .non x
  | .bool b => eqV (.bl b) x
  | .int i _ => eqV (.int i) x
  | .str z _ => eqV (.str z) x
  | _ => false
theorem eqU_of {x y : V} {u : Value} (r : RelV y u) (f : flatV y = true) : eqU x u = eqV y x := by
  cases y with
  | non => cases r; rfl
  | bl b => cases r; rfl
  | int i => obtain ⟨t, rfl⟩ := r; rfl
  | str z => obtain ⟨t, rfl⟩ := r; rfl
  | _ => exact absurd (show false = true from f) Bool.false_ne_true
theorem any_eqU {x : V} : ∀ {xs : List V} {us : List Value}, Vals xs us → xs.all flatV = true → us.any (eqU x) = xs.any fun y => eqV y x
  | _, _, .nil, _ => rfl
  | y :: xs, u :: us, .cons r t, f => by
    rw [List.all_cons, Bool.and_eq_true] at f
    rw [List.any_cons, List.any_cons, eqU_of r f.1, any_eqU t f.2]
theorem mem_eqAt {A : Around} {s : Shared} {x : V} {v : Value} (rx : RelV x v) (fx : flatV x = true) : ∀ {xs : List V} {us : List Value}, Vals xs us → xs.all flatV = true → ∀ u ∈ us, SeqAt.EqAt A s u v (eqU x u)
  | _, _, .nil, _ => fun u hu => by cases hu
  | y :: xs, u :: us, .cons r t, f => fun u' hu => by
    rw [List.all_cons, Bool.and_eq_true] at f
    rcases List.mem_cons.mp hu with rfl | hu
    · rw [eqU_of r f.1]; exact eqAt_V r rx f.1 fx
    · exact mem_eqAt rx fx t f.2 u' hu
noncomputable def inV (x : V) (xs : List V) : Bool := xs.any fun y => eqV y x
inductive IIn (K : PySem.W.Frag) (neg : Bool) (x y : V) (H : Hp) (Q : VK) : Prop where
  | mk (p : Addr) (xs : List V) (ey : y = .ref p) (s : SqL K H p xs ∨ SqT K H p xs) (fx : flatV x = true) (fs : xs.all flatV = true) (k : Q (.bl (if neg then !inV x xs else inV x xs)) H) : IIn K neg x y H Q
noncomputable def rIn (K : PySem.W.Frag) (neg : Bool) : R2 := fun x y H Q => IIn K neg x y H Q
theorem op_in_seq : OpR X (compareOp .In) (rIn X.K false) := by
  intro pins s σ H x y v u Q I rx ry h
  obtain ⟨p, xs, rfl, hq, fx, fs, q⟩ := h
  cases ry
  rcases hq with hq | hq
  · obtain ⟨its, r, pl, hz⟩ := I.list hq
    refine SeqAt.in_listAt (eqU x) pl.isList (fun w hw => mem_eqAt rx fx r fs w (by simpa using hw)) ⟨.bl _, H, I, rfl, ?_⟩
    rw [show its.toArray.any (eqU x) = its.any (eqU x) by simp, any_eqU r fs]
    exact q
  · obtain ⟨its, r, pl, hz⟩ := I.tuple hq
    refine SeqAt.in_tupleAt (eqU x) pl (fun w hw => mem_eqAt rx fx r fs w (by simpa using hw)) ⟨.bl _, H, I, rfl, ?_⟩
    rw [show its.toArray.any (eqU x) = its.any (eqU x) by simp, any_eqU r fs]
    exact q
theorem call_len_seq : CallR X (.builtin "len") (fun xs H Q => ∃ p ys, xs = [.ref p] ∧ (SqL X.K H p ys ∨ SqT X.K H p ys) ∧ Q (.int ys.length) H) := by
  intro pins s σ H xs us Q I r h
  obtain ⟨p, ys, rfl, hq, q⟩ := h
  obtain ⟨u, rfl, rx⟩ := vals1 r
  cases rx
  have hn := line63
  rcases hq with hq | hq
  · obtain ⟨its, r', pl, hz⟩ := I.list hq
    have hlen := r'.length
    exact Calls.call_len_list pl.isList (by simp only [List.size_toArray] <;> omega) ⟨.int ys.length, H, I.tok _, ⟨s.toks + 1, by rw [List.size_toArray, hlen]⟩, q⟩
  · obtain ⟨its, r', pl, hz⟩ := I.tuple hq
    have hlen := r'.length
    exact len_tuple pl (by simp only [List.size_toArray] <;> omega) ⟨.int ys.length, H, I.tok _, ⟨s.toks + 1, by rw [List.size_toArray, hlen]⟩, q⟩
theorem call_list_of : CallR X (.type "list") (fun xs H Q => ∃ p ys, xs = [.ref p] ∧ (SqL X.K H p ys ∨ SqT X.K H p ys) ∧ ∀ l, H l = none → Q (.ref l) (upd H l (.lst ys))) := by
  intro pins s σ H xs us Q I r h
  obtain ⟨p, ys, rfl, hq, q⟩ := h
  obtain ⟨u, rfl, rx⟩ := vals1 r
  cases rx
  have fin : ∀ (its : List Value), Vals ys its → ys.length ≤ sizeLine → ∀ (h' : Heap) (c' : Nat), (∀ b o', s.heap.get? b = some o' → h'.get? b = some o') →
      h'.get? s.heap.objs.size = some { cls := .type "list", dict := none, data := .seq its.toArray c', slots := #[] } → EP X pins σ Q (.ref s.heap.objs.size) { s with heap := h' } := fun its r' hz h' c' kp e =>
    ⟨.ref s.heap.objs.size, _, I.laid (t' := s.toks) kp (Nat.le_refl _) (show ObjOk X.prog X.w _ h' _ (.lst ys) from ⟨hz, its, c', r', e⟩), rfl, q _ (I.hok.fresh (Nat.le_refl _))⟩
  rcases hq with hq | hq
  · obtain ⟨its, r', pl, hz⟩ := I.list hq
    have hlen := r'.length
    obtain ⟨o, ho, hc, n, hd⟩ := pl.isList
    exact call_list_seq p (.inl rfl) ho hc hd (fun h' c' kp e => fin its r' hz h' c' kp e) (by simp only [List.size_toArray] <;> omega)
  · obtain ⟨its, r', pl, hz⟩ := I.tuple hq
    have hlen := r'.length
    obtain ⟨o, ho, hc, n, hd⟩ := pl
    exact call_list_seq p (.inr rfl) ho hc hd (fun h' c' kp e => fin its r' hz h' c' kp e) (by simp only [List.size_toArray] <;> omega)
noncomputable def tyV (K : PySem.W.Frag) (T : String) (x : V) (H : Hp) : Prop := match x with
  | .str _ => T = "str"
  | .int _ => T = "int"
  | .ref p => (T = "list" ∧ ∃ xs, SqL K H p xs) ∨ (T = "tuple" ∧ ∃ o, K.lookup p = some o ∧ o.cls = .type "tuple" ∧ o.dict = none) ∨
      (T = "dict" ∧ ((∃ kvs, H p = some (.dK kvs)) ∨ ∃ kvs, H p = some (.dT kvs))) ∨ (T = "set" ∧ ∃ S n, H p = some (.set S n))
  | _ => False
theorem tyV_is {pins : List (Addr × Obj)} {σ : St} {H : Hp} {s : Shared} {T : String} {x : V} {v : Value} (I : Inv X pins σ H s) (r : RelV x v) (ty : tyV X.K T x H) :
    s.TypeIs v T ∧ ∀ a, v = .ref a → ∃ ob, s.heap.get? a = some ob ∧ ob.dict = none := by
  cases x with
  | str z =>
    obtain ⟨t, rfl⟩ := r
    cases (show T = "str" from ty)
    exact ⟨typeIs_str s z t, fun _ e => nomatch e⟩
  | int i =>
    obtain ⟨t, rfl⟩ := r
    cases (show T = "int" from ty)
    exact ⟨typeIs_int s i t, fun _ e => nomatch e⟩
  | ref p =>
    cases r
    rcases ty with ⟨rfl, xs, hq⟩ | ⟨rfl, o, hk, hc, hd⟩ | ⟨rfl, hk⟩ | ⟨rfl, S, n, hk⟩
    · obtain ⟨its, _, pl, _⟩ := I.list hq
      refine ⟨pl.isList.typeIs, fun a e => ?_⟩
      cases e
      obtain ⟨o, n, e, c, hd, _⟩ := pl
      exact ⟨o, e, hd⟩
    · refine ⟨⟨o, I.kIn p o hk, hc⟩, fun a e => ?_⟩
      cases e
      exact ⟨o, I.kIn _ o hk, hd⟩
    · have z : ∃ o, s.heap.get? p = some o ∧ o.ExactDict := by
        rcases hk with ⟨kvs, hk⟩ | ⟨kvs, hk⟩
        · obtain ⟨_, _, _, _, o, _, _, e, ex, _⟩ := I.hok p _ hk
          exact ⟨o, e, ex⟩
        · obtain ⟨_, _, _, _, o, _, _, e, ex, _⟩ := I.hok p _ hk
          exact ⟨o, e, ex⟩
      obtain ⟨o, e, ex⟩ := z
      refine ⟨⟨o, e, ex.1⟩, fun a e2 => ?_⟩
      cases e2
      exact ⟨o, e, ex.2.1⟩
    · obtain ⟨o, _, _, _, e, ex, _⟩ := I.hok p _ hk
      refine ⟨⟨o, e, ex.1⟩, fun a e2 => ?_⟩
      cases e2
      exact ⟨o, e, ex.2.1⟩
  | _ => exact False.elim ty
noncomputable def tBM (K : PySem.W.Frag) (T : String) (r : V → List V → Hp → VK → Prop) (to : TE) (t : TA) : TE := fun σ H Q => to σ H fun x H1 => tyV K T x H1 ∧ t σ H1 fun xs H2 => r x xs H2 Q
variable {o e : Expr} {es : List Expr} {to : TE} {t : TA} {name : Str} {apos cpos : Pos} {T id : String} {r : V → List V → Hp → VK → Prop}
theorem pe_bm (pa : PlainAttrs T) (slot : Slot T name id) (hty : typeOf (.builtin id) = pure (.type "method_descriptor")) (hm : MtR X id r) (ho : PE X o to) (ha : PA X (e :: es) t)
    (hbase : attributeBase o name X.env (eval o X.env) = eval o X.env := by rfl)
    (hfew : ((backTo cpos (starEach (e :: es) X.env)).all (fun x => !x.1) && (backToKw cpos (keywordEach [] X.env)).all (fun x => x.1.isSome)
      && decide ((e :: es).length + ([] : List Keyword).length + (if ([] : List Keyword).isEmpty then 0 else 1) < 30)) = true := by rfl)
    (hline : (apos.endLine == cpos.line) = true := by rfl) (hs : starEach (e :: es) X.env = (false, eval e X.env) :: starEach es X.env := by rfl) (hplain : (backTo cpos (starEach es X.env)).any (·.1) = false := by rfl) :
    PE X (.Call (.Attribute o name apos) (e :: es) [] cpos) (tBM X.K T r to t) := by
  intro pins s σ H Q I h
  refine wpAny_Call_method_late hbase hfew hline rfl (thn (ho pins s σ H _ I h) fun v s1 zpat => ?_)
  obtain ⟨x, H1, I1, r1, ty, q1⟩ := zpat
  obtain ⟨h1, h2⟩ := tyV_is I1 r1 ty
  refine ⟨T, id, pa, slot, hty, h1, h2, ?_⟩
  have hA := ha cpos pins s1 σ H1 _ I1 q1
  rw [hs] at hA ⊢
  refine Calls.callWith_builtin (by show (false || (backTo cpos (starEach es X.env)).any (·.1)) = false; rw [hplain] <;> rfl) (Calls.evalArgs_plain ?_)
  exact thn hA fun us s2 ⟨vs, H2, I2, r2, q2⟩ => hm pins s2 σ H2 x vs v us Q I2 r1 r2 q2
end
end L2
namespace L2
open PySem PySem.Spec PyProof.Rows
noncomputable def MtM (X : Cx) (id : String) (r : V → List V → Hp → VK → Prop) : Prop :=
  ∀ (pins : List (Addr × Obj)) (s : Shared) (σ : St) (H : Hp) (x : V) (xs : List V) (v : Value) (us : List Value) (Q : VK), Inv X pins σ H s → RelV x v → Vals xs us → r x xs H Q →
    wpAny (model X.prog X.w) X.A (call (.builtin id) (v :: us)) (EP X pins σ Q) X.xe s
theorem Vals.one : ∀ {x : V} {us : List Value}, Vals [x] us → ∃ u, us = [u] ∧ RelV x u
  | _, _, .cons r .nil => ⟨_, rfl, r⟩
theorem Vals.zero : ∀ {us : List Value}, Vals [] us → us = []
  | _, .nil => rfl
theorem Vals.eraseIdx : ∀ {xs : List V} {us : List Value} (i : Nat), Vals xs us → Vals (xs.eraseIdx i) (us.eraseIdx i)
  | _, _, _, .nil => .nil
  | _, _, 0, .cons _ t => t
  | _, _, i + 1, .cons r t => .cons r (Vals.eraseIdx i t)
theorem Vals.reverse {xs : List V} {us : List Value} (h : Vals xs us) : Vals xs.reverse us.reverse := by
  induction h with
  | nil => exact .nil
  | cons r t ih => rw [List.reverse_cons, List.reverse_cons]; exact Vals.append ih (.cons r .nil)
theorem len_erase {α : Type} : ∀ (l : List α) (i : Nat), (l.eraseIdx i).length ≤ l.length
  | [], _ => Nat.le_refl _
  | _ :: _, 0 => Nat.le_succ _
  | _ :: r, i + 1 => Nat.succ_le_succ (len_erase r i)
section
variable {X : Cx} {pins : List (Addr × Obj)} {σ : St} {H : Hp} {s : Shared} {l b : Addr} {xs ys zs : List V}
theorem Inv.lset {its its' : List Value} {n : Nat} {f : Array Value → Array Value} {t' : Nat} (I : Inv X pins σ H s) (hH : H l = some (.lst xs))
    (e : s.heap.get? l = some { cls := .type "list", data := .seq its.toArray n }) (hf : f its.toArray = its'.toArray) (hv : Vals ys its') (hz : ys.length ≤ sizeLine) :
    Inv X pins σ (upd H l (.lst ys)) { s with heap := s.heap.update l (Obj.mapSeq f), toks := t' } := by
  have q := PySem.IsL.update e f
  rw [hf] at q
  refine I.write (x := l) (e := l) (by rw [hH]; exact trivial) (.inl rfl) (fun b' u hb hu => (Heap.get?_update_other s.heap (Obj.mapSeq f) (Ne.symm hb)).trans hu) ⟨_, q⟩ ?_
  exact ⟨hz, its', _, hv, q⟩
theorem Inv.lnew {its : List Value} {t' : Nat} (I : Inv X pins σ H s) (hv : Vals ys its) (hz : ys.length ≤ sizeLine) :
    Inv X pins σ (upd H s.heap.objs.size (.lst ys)) { s with heap := s.heap.push { cls := .type "list", data := .seq its.toArray }, toks := t' } :=
  I.laid (fun _ _ q => Heap.get?_push_of_some _ q) (Nat.le_refl _) ⟨hz, its, 0, hv, Heap.get?_push_size _ rfl⟩
theorem Inv.fresh (I : Inv X pins σ H s) : H s.heap.objs.size = none := I.hok.fresh (Nat.le_refl _)
theorem Inv.lstM (I : Inv X pins σ H s) (hH : H l = some (.lst xs)) : xs.length ≤ sizeLine ∧ ∃ (its : List Value) (n : Nat), Vals xs its ∧ xs.length = its.length ∧ s.heap.get? l = some { cls := .type "list", data := .seq its.toArray n } := by
  obtain ⟨z, its, n, r, e⟩ := I.hok l _ hH
  exact ⟨z, its, n, r, r.length, e⟩
end
section
variable {X : Cx}
inductive IApp (x : V) (vs : List V) (H : Hp) (Q : VK) : Prop where
  | mk (l : Addr) (xs : List V) (y : V) (ex : x = .ref l) (ev : vs = [y]) (eh : H l = some (.lst xs)) (z : xs.length < sizeLine) (q : Q .non (upd H l (.lst (xs ++ [y])))) : IApp x vs H Q
noncomputable def rAppend : V → List V → Hp → VK → Prop := fun x vs H Q => IApp x vs H Q
theorem mt_append : MtM X "list.append" rAppend := by
  intro pins s σ H x vs v us Q I rx rv h
  obtain ⟨l, xs, y, rfl, rfl, hH, hz, q⟩ := h
  cases rx
  obtain ⟨u, rfl, ru⟩ := rv.one
  obtain ⟨z, its, n, r, hl, e⟩ := I.lstM hH
  refine call_meets F.slot_list_append ⟨_, e, rfl⟩ F.entry_list_append (F.args_list_append_2 _ _) (PySem.list_append l its.toArray n u (by rw [List.size_toArray]; omega)) ⟨e, ?_⟩
  refine ⟨.non, _, I.lset (its' := its ++ [u]) hH e (by simp) (r.append (.cons ru .nil)) ?_, rfl, q⟩
  rw [List.length_append, List.length_singleton]
  omega
noncomputable def rPopAt : V → List V → Hp → VK → Prop := fun x vs H Q => ∃ l xs i k y, x = .ref l ∧ vs = [.int i] ∧ H l = some (.lst xs) ∧ -(2 ^ 63) ≤ i ∧ i < 2 ^ 63 ∧ seqIndex? i xs.length = some k ∧ xs[k]? = some y ∧ Q y (upd H l (.lst (xs.eraseIdx k)))
theorem mt_popAt : MtM X "list.pop" rPopAt := by
  intro pins s σ H x vs v us Q I rx rv h
  obtain ⟨l, xs, i, k, y, rfl, rfl, hH, h1, h2, hk, hy, q⟩ := h
  cases rx
  obtain ⟨u, rfl, ru⟩ := rv.one
  obtain ⟨t, rfl⟩ := ru
  obtain ⟨z, its, n, r, hl, e⟩ := I.lstM hH
  obtain ⟨w, hw, rw'⟩ := r.get hy
  refine call_meets F.slot_list_pop ⟨_, e, rfl⟩ F.entry_list_pop (F.args_list_pop_2 _ _)
    (MeetsSeq.list_pop_at l its.toArray n i t k w (fitsIndex_both h1 h2) (by rw [List.size_toArray, ← hl]; exact hk) (by rw [← Array.getElem?_toList]; exact hw) (by rw [List.size_toArray]; omega)) ⟨e, ?_⟩
  refine ⟨y, _, I.lset (its' := its.eraseIdx k) hH e ?_ (r.eraseIdx k) ?_, rw', q⟩
  · show its.toArray.eraseIdxIfInBounds k = (its.eraseIdx k).toArray
    rw [List.eraseIdxIfInBounds_toArray]
  · have := len_erase xs k
    omega
noncomputable def rCat : R2 := fun x y H Q => ∃ l b xs zs, x = .ref l ∧ y = .ref b ∧ H l = some (.lst xs) ∧ H b = some (.lst zs) ∧ xs.length + zs.length ≤ sizeLine ∧ ∀ p, H p = none → Q (.ref p) (upd H p (.lst (xs ++ zs)))
theorem op_cat : OpR X (binaryOp .Add) rCat := by
  intro pins s σ H x y v u Q I rx ry h
  obtain ⟨l, b, xs, zs, rfl, rfl, hH, hB, hz, q⟩ := h
  cases rx
  cases ry
  obtain ⟨z, its, n, r, hl, e⟩ := I.lstM hH
  obtain ⟨z2, its2, n2, r2, hl2, e2⟩ := I.lstM hB
  refine PySem.P.add_list e e2 ?_ (by rw [List.size_toArray, List.size_toArray]; omega)
  have ea : its.toArray ++ its2.toArray = (its ++ its2).toArray := by simp
  rw [ea]
  exact ⟨.ref _, _, I.lnew (t' := s.toks) (r.append r2) (by rw [List.length_append]; omega), rfl, q _ I.fresh⟩
end
section
variable {prog : Program} {w : World} {A : Around} {E : Value → Shared → Prop} {s : Shared}
end
section
variable {X : Cx}
end
end L2
namespace L2
open PySem PySem.Spec PyProof.Rows
section
variable {κ : Type} [DecidableEq κ]
noncomputable def valV (kvs : List (κ × V)) (k : κ) : Option V := (kvs.find? fun kv => decide (kv.1 = k)).map (·.2)
noncomputable def putK (kvs : List (κ × V)) (k : κ) (v : V) : List (κ × V) :=
  if (kvs.any fun kv => decide (kv.1 = k)) = true then kvs.map (fun kv => if kv.1 = k then (kv.1, v) else kv) else kvs ++ [(k, v)]
noncomputable def dropK (kvs : List (κ × V)) (k : κ) : List (κ × V) := kvs.filter fun kv => decide (kv.1 ≠ k)
theorem valV_pos {p : κ × V} {r : List (κ × V)} {k : κ} (e : p.1 = k) : valV (p :: r) k = some p.2 := by simp [valV, List.find?_cons, e]
theorem valV_neg {p : κ × V} {r : List (κ × V)} {k : κ} (e : ¬ p.1 = k) : valV (p :: r) k = valV r k := by simp [valV, List.find?_cons, e]
theorem valV_any (k : κ) : ∀ kvs : List (κ × V), (kvs.any fun kv => decide (kv.1 = k)) = (valV kvs k).isSome
  | [] => rfl
  | p :: r => by
    rw [List.any_cons]
    by_cases e : p.1 = k
    · simp only [valV_pos e, decide_eq_true e, Bool.true_or, Option.isSome_some]
    · rw [valV_neg e, decide_eq_false e, Bool.false_or]; exact valV_any k r
theorem length_putK (kvs : List (κ × V)) (k : κ) (v : V) : (putK kvs k v).length ≤ kvs.length + 1 := by
  unfold putK
  split
  · rw [List.length_map]; omega
  · rw [List.length_append, List.length_cons, List.length_nil]; omega
theorem RelO.isSome_eq {o : Option V} {u : Option Value} (r : RelO o u) : o.isSome = u.isSome := by
  cases o with
  | none => cases u with
    | none => rfl
    | some _ => exact (show False from r).elim
  | some _ => cases u with
    | none => exact (show False from r).elim
    | some _ => rfl
theorem RelO.getD {o : Option V} {u : Option Value} {d : V} {d' : Value} (r : RelO o u) (rd : RelV d d') : RelV (o.getD d) (u.getD d') := by
  cases o with
  | none => cases u with
    | none => exact rd
    | some _ => exact (show False from r).elim
  | some _ => cases u with
    | none => exact (show False from r).elim
    | some _ => exact r
theorem KV.val {kvs : List (κ × V)} {vs : List (κ × Value)} (r : KV kvs vs) (k : κ) : RelO (valV kvs k) (valueAt vs k) := by
  unfold KV at r
  induction r with
  | nil => exact True.intro
  | @cons p q ps qs h t ih =>
    obtain ⟨h1, h2⟩ := h
    by_cases e : p.1 = k
    · have e' : q.1 = k := h1.symm.trans e
      have b : valueAt (q :: qs) k = some q.2 := by simp [valueAt, List.find?_cons, e']
      rw [valV_pos e, b]; exact h2
    · have e' : ¬ q.1 = k := fun z => e (h1.trans z)
      have b : valueAt (q :: qs) k = valueAt qs k := by simp [valueAt, List.find?_cons, e']
      rw [valV_neg e, b]; exact ih
theorem KV.any {kvs : List (κ × V)} {vs : List (κ × Value)} (r : KV kvs vs) (k : κ) : (kvs.any fun kv => decide (kv.1 = k)) = vs.any fun kv => decide (kv.1 = k) := by
  unfold KV at r
  induction r with
  | nil => rfl
  | cons h t ih => rw [List.any_cons, List.any_cons, ih, h.1]
theorem KV.repl {kvs : List (κ × V)} {vs : List (κ × Value)} (r : KV kvs vs) (k : κ) {y : V} {u : Value} (ry : RelV y u) :
    KV (kvs.map fun kv => if kv.1 = k then (kv.1, y) else kv) (vs.map fun kv => if kv.1 = k then (kv.1, u) else kv) := by
  unfold KV at r ⊢
  induction r with
  | nil => exact .nil
  | @cons p q ps qs h t ih =>
    rw [List.map_cons, List.map_cons]
    refine .cons ?_ ih
    obtain ⟨h1, h2⟩ := h
    by_cases e : p.1 = k
    · rw [if_pos e, if_pos (h1.symm.trans e)]; exact ⟨h1, ry⟩
    · rw [if_neg e, if_neg (fun z => e (h1.trans z))]; exact ⟨h1, h2⟩
theorem KV.put {kvs : List (κ × V)} {vs : List (κ × Value)} (r : KV kvs vs) (k : κ) {y : V} {u : Value} (ry : RelV y u) : KV (putK kvs k y) (stored vs k u) := by
  unfold putK stored
  rw [r.any k]
  by_cases e : (vs.any fun kv => decide (kv.1 = k)) = true
  · rw [if_pos e, if_pos e]; exact r.repl k ry
  · rw [if_neg e, if_neg e]; exact Paired.snoc r ⟨rfl, ry⟩
theorem KV.drop {kvs : List (κ × V)} {vs : List (κ × Value)} (r : KV kvs vs) (k : κ) : KV (dropK kvs k) (without vs k) := by
  unfold KV at r ⊢
  unfold dropK without
  induction r with
  | nil => exact .nil
  | @cons p q ps qs h t ih =>
    obtain ⟨h1, h2⟩ := h
    rw [List.filter_cons, List.filter_cons]
    by_cases e : p.1 = k
    · have a : ¬ decide (p.1 ≠ k) = true := by simp [e]
      have b : ¬ decide (q.1 ≠ k) = true := by simp [h1.symm.trans e]
      rw [if_neg a, if_neg b]; exact ih
    · have e' : ¬ q.1 = k := fun z => e (h1.trans z)
      have a : decide (p.1 ≠ k) = true := by simp [e]
      have b : decide (q.1 ≠ k) = true := by simp [e']
      rw [if_pos a, if_pos b]; exact .cons ⟨h1, h2⟩ ih
theorem KV.keys {kvs : List (κ × V)} {vs : List (κ × Value)} (r : KV kvs vs) : kvs.map (·.1) = vs.map (·.1) := by
  unfold KV at r
  induction r with
  | nil => rfl
  | cons h t ih => rw [List.map_cons, List.map_cons, ih, h.1]
theorem KV.length {kvs : List (κ × V)} {vs : List (κ × Value)} (r : KV kvs vs) : kvs.length = vs.length := Paired.length r
end
theorem kV_is {P : Program} {w : World} {k : Key} {u : Value} (r : RelV (kV k) u) : (mixKind P w).is k u = true := by
  cases k with
  | inl i => obtain ⟨t, e⟩ := (show ∃ t, u = Value.int i t from r); subst e; exact mixKind_int P w i t
  | inr x => obtain ⟨t, e⟩ := (show ∃ t, u = Value.str x t from r); subst e; exact mixKind_str P w x t
theorem items_are {P : Program} {w : World} : ∀ {ks : List Key} {us : List Value}, Vals (ks.map kV) us → ItemsAre (mixKind P w) ks us
  | [], _, r => by rw [List.map_nil] at r; cases r; exact .nil
  | k :: ks, _, r => by
    rw [List.map_cons] at r
    cases r with
    | cons h t => exact .cons (kV_is h) (items_are t)
noncomputable abbrev KT (H : Hp) : List (List Key × V) → List (List Key × Addr × Value) → Prop := Paired fun p q => p.1 = q.1 ∧ H q.2.1 = some (.tup (p.1.map kV)) ∧ RelV p.2 q.2.2
theorem KT.val {H : Hp} {kvs : List (List Key × V)} {xs : List (List Key × Addr × Value)} (r : KT H kvs xs) (k : List Key) : RelO (valV kvs k) ((atKey xs k).map (·.2)) := by
  induction r with
  | nil => exact True.intro
  | @cons p q ps qs h t ih =>
    obtain ⟨h1, _, h2⟩ := h
    by_cases e : p.1 = k
    · have e' : q.1 = k := h1.symm.trans e
      have b : atKey (q :: qs) k = some q.2 := by simp [atKey, List.find?_cons, e']
      rw [valV_pos e, b]; exact h2
    · have e' : ¬ q.1 = k := fun z => e (h1.trans z)
      have b : atKey (q :: qs) k = atKey qs k := by simp [atKey, List.find?_cons, e']
      rw [valV_neg e, b]; exact ih
theorem KT.repl {H : Hp} {kvs : List (List Key × V)} {xs : List (List Key × Addr × Value)} (r : KT H kvs xs) (k : List Key) {y : V} {u : Value} (ry : RelV y u) :
    KT H (kvs.map fun kv => if kv.1 = k then (kv.1, y) else kv) (xs.map (putAt k u)) := by
  induction r with
  | nil => exact .nil
  | @cons p q ps qs h t ih =>
    rw [List.map_cons, List.map_cons]
    refine .cons ?_ ih
    obtain ⟨h1, h2, h3⟩ := h
    unfold putAt
    by_cases e : p.1 = k
    · rw [if_pos e, if_pos (h1.symm.trans e)]; exact ⟨h1, h2, ry⟩
    · rw [if_neg e, if_neg (fun z => e (h1.trans z))]; exact ⟨h1, h2, h3⟩
theorem KT.put {H : Hp} {kvs : List (List Key × V)} {xs : List (List Key × Addr × Value)} (r : KT H kvs xs) (k : List Key) {b : Addr} {y : V} {u : Value} (hb : H b = some (.tup (k.map kV))) (ry : RelV y u) :
    KT H (putK kvs k y) (storedH xs k b u) := by
  have e : (kvs.any fun kv => decide (kv.1 = k)) = (atKey xs k).isSome := by
    rw [valV_any, (r.val k).isSome_eq, Option.isSome_map]
  unfold putK storedH
  rw [e]
  by_cases q : (atKey xs k).isSome = true
  · rw [if_pos q, if_pos q]; exact r.repl k ry
  · rw [if_neg q, if_neg q]; exact Paired.snoc r ⟨rfl, hb, ry⟩
theorem KT.keeps {H H' : Hp} {kvs : List (List Key × V)} {xs : List (List Key × Addr × Value)} (r : KT H kvs xs) (ht : ∀ b ys, H b = some (.tup ys) → H' b = some (.tup ys)) : KT H' kvs xs :=
  Paired.mapP r fun _ _ z => ⟨z.1, ht _ _ z.2.1, z.2.2⟩
section
variable {P : Program} {w : World} {H : Hp} {h : Heap} {a : Addr}
theorem rd_of {u : HO} (ok : HOk P w H h) (e : Rd H a u) : ObjOk P w H h a u := e.ok ok
theorem dk_rd {kvs : List (Key × V)} (ok : HOk P w H h) (e : Rd H a (.dK kvs)) : kvs.length ≤ sizeLine ∧ (a == sysModules) = false ∧ ∃ vs, KV kvs vs ∧ h.DictOf (mixKind P w) a vs :=
  show ObjOk P w H h a (.dK kvs) from rd_of ok e
theorem dk_of {kvs : List (Key × V)} (ok : HOk P w H h) (e : H a = some (.dK kvs)) : kvs.length ≤ sizeLine ∧ (a == sysModules) = false ∧ ∃ vs, KV kvs vs ∧ h.DictOf (mixKind P w) a vs := dk_rd ok (.inl e)
theorem key_of {ks : List Key} (ok : HOk P w H h) (e : H a = some (.tup (ks.map kV))) : (tupleKind (mixKind P w)).is h ks a := by
  obtain ⟨_, its, r, o, h1, h2, n, h3⟩ := (show ObjOk P w H h a (.tup (ks.map kV)) from ok a _ e)
  exact ⟨o, its.toArray, n, h1, h2, h3, by simpa using items_are r⟩
theorem dt_rd {kvs : List (List Key × V)} (ok : HOk P w H h) (e : Rd H a (.dT kvs)) : kvs.length ≤ sizeLine ∧ (a == sysModules) = false ∧
    ∃ xs, KT H kvs xs ∧ h.DictOfH (tupleKind (mixKind P w)) a xs := by
  obtain ⟨z, y, xs, r, o, es, ep, h1, h2, h3, h4, h5⟩ := (show ObjOk P w H h a (.dT kvs) from rd_of ok e)
  refine ⟨z, y, xs, r, o, es, ep, h1, h2, h3, h4, fun x hx => ?_, h5⟩
  have all : ∀ {l : List (List Key × V)} {m : List (List Key × Addr × Value)}, KT H l m → ∀ x ∈ m, (tupleKind (mixKind P w)).is h x.1 x.2.1 := by
    intro l m q
    induction q with
    | nil => intro x hx; exact nomatch hx
    | @cons p q ps qs hq t ih =>
      intro x hx
      rcases List.mem_cons.mp hx with e | hx
      · subst e
        exact key_of ok (by rw [← hq.1]; exact hq.2.1)
      · exact ih x hx
  exact all r x hx
theorem dt_of {kvs : List (List Key × V)} (ok : HOk P w H h) (e : H a = some (.dT kvs)) : kvs.length ≤ sizeLine ∧ (a == sysModules) = false ∧
    ∃ xs, KT H kvs xs ∧ h.DictOfH (tupleKind (mixKind P w)) a xs := dt_rd ok (.inl e)
end
noncomputable def DGet (H : Hp) (a : Addr) (y : V) (r : Option V) : Prop :=
  (∃ kvs k, Rd H a (.dK kvs) ∧ y = kV k ∧ r = valV kvs k) ∨ ∃ kvs k b, Rd H a (.dT kvs) ∧ y = .ref b ∧ H b = some (.tup (k.map kV)) ∧ r = valV kvs k
noncomputable def DPut (H : Hp) (a : Addr) (y v : V) (H' : Hp) : Prop :=
  (∃ kvs k, H a = some (.dK kvs) ∧ y = kV k ∧ kvs.length < sizeLine ∧ H' = upd H a (.dK (putK kvs k v))) ∨
  ∃ kvs k b, H a = some (.dT kvs) ∧ y = .ref b ∧ H b = some (.tup (k.map kV)) ∧ kvs.length < sizeLine ∧ H' = upd H a (.dT (putK kvs k v))
theorem DGet.k {H : Hp} {a : Addr} {kvs : List (Key × V)} {k : Key} (e : H a = some (.dK kvs)) : DGet H a (kV k) (valV kvs k) := .inl ⟨kvs, k, .inl e, rfl, rfl⟩
theorem DGet.t {H : Hp} {a b : Addr} {kvs : List (List Key × V)} {k : List Key} (e : H a = some (.dT kvs)) (eb : H b = some (.tup (k.map kV))) : DGet H a (.ref b) (valV kvs k) := .inr ⟨kvs, k, b, .inl e, rfl, eb, rfl⟩
theorem DPut.k {H : Hp} {a : Addr} {kvs : List (Key × V)} {k : Key} {v : V} (e : H a = some (.dK kvs)) (hl : kvs.length < sizeLine) : DPut H a (kV k) v (upd H a (.dK (putK kvs k v))) := .inl ⟨kvs, k, e, rfl, hl, rfl⟩
theorem DPut.t {H : Hp} {a b : Addr} {kvs : List (List Key × V)} {k : List Key} {v : V} (e : H a = some (.dT kvs)) (eb : H b = some (.tup (k.map kV))) (hl : kvs.length < sizeLine) :
    DPut H a (.ref b) v (upd H a (.dT (putK kvs k v))) := .inr ⟨kvs, k, b, e, rfl, eb, hl, rfl⟩
section
variable {X : Cx} {pins : List (Addr × Obj)} {σ : St} {H : Hp} {s : Shared} {a : Addr} {y v : V} {u r : Value} {o : Option V} {A : Around} {E : Value → Shared → Prop}
theorem Inv.big (I : Inv X pins σ H s) : sysModules < s.heap.objs.size := by
  have h : mainGlobals < s.heap.objs.size := (I.mod.glob.keeps I.bk).lt
  exact Nat.lt_trans (by decide) h
theorem d_notIn {Q : Value → Shared → Prop} (hu : A.units + 1 < cLine) (I : Inv X pins σ H s) (g : DGet H a y o) (ry : RelV y u) (h : ∀ s', Inv X pins σ H s' → Q (.bool (!o.isSome)) s') :
    wpAny (model X.prog X.w) A (compareOp .NotIn u (.ref a)) Q E s := by
  rcases g with ⟨kvs, k, e, ey, l⟩ | ⟨kvs, k, b, e, ey, eb, l⟩
  · subst ey
    obtain ⟨z, hd, vs, rel, dd⟩ := dk_rd I.hok e
    refine wpAny_notIn_of (kV_is ry) hd dd.mapOf ?_
    rw [← (rel.val k).isSome_eq, ← l]
    exact h _ (I.tok _)
  · subst ey
    cases (show u = Value.ref b from ry)
    obtain ⟨z, hd, xs, rel, dd⟩ := dt_rd I.hok e
    refine wpAny_notIn_heap (tupleKind_room_in1 hu) (key_of I.hok eb) hd dd ?_
    have q := (rel.val k).isSome_eq
    rw [Option.isSome_map] at q
    rw [← q, ← l]
    exact h _ (I.tok _)
theorem d_write {h' : Heap} {t' : Nat} {ob : HO} (I : Inv X pins σ H s) (mu : Mut (H a)) (hs : Heap.SameBut a s.heap h') (he : ∃ q, h'.get? a = some q) (new : ObjOk X.prog X.w (upd H a ob) h' a ob) :
    Inv X pins σ (upd H a ob) { s with heap := h', toks := t' } :=
  I.write (x := a) (e := a) mu (.inl rfl) (fun b q hb z => (hs.2 b hb).trans z) he new
theorem dk_new {P : Program} {w : World} {H' : Hp} {h' : Heap} {kvs : List (Key × V)} {vs : List (Key × Value)} (z : kvs.length ≤ sizeLine) (hd : (a == sysModules) = false) (rel : KV kvs vs) (dd : h'.DictOf (mixKind P w) a vs) :
    ObjOk P w H' h' a (.dK kvs) := ⟨z, hd, vs, rel, dd⟩
theorem d_setItem {H' : Hp} {Q : Unit → Shared → Prop} (hu : A.units + 1 < cLine) (I : Inv X pins σ H s) (g : DPut H a y v H') (ry : RelV y u) (rv : RelV v r) (h : ∀ s', Inv X pins σ H' s' → Q () s') :
    wpAny (model X.prog X.w) A (setItem (.ref a) u r) Q E s := by
  rcases g with ⟨kvs, k, e, ey, l, eH⟩ | ⟨kvs, k, b, e, ey, eb, l, eH⟩
  · subst ey eH
    obtain ⟨z, hd, vs, rel, dd⟩ := dk_of I.hok e
    have hz : vs.length ≤ sizeLine := by rw [← rel.length]; exact z
    have hl : (putK kvs k v).length ≤ sizeLine := by have := length_putK kvs k v; omega
    refine wpAny_setItem_pairs (hsz := hz) (kV_is ry) dd fun h' dd' hs => h _ ?_
    have he : ∃ q, h'.get? a = some q := let ⟨q, _, _, hq, _⟩ := dd'; ⟨q, hq⟩
    exact d_write I (by rw [e]; exact True.intro) hs he (dk_new hl hd (rel.put k rv) dd')
  · subst ey eH
    cases (show u = Value.ref b from ry)
    obtain ⟨z, hd, xs, rel, dd⟩ := dt_of I.hok e
    have hz : xs.length ≤ sizeLine := by rw [← Paired.length rel]; exact z
    have hl : (putK kvs k v).length ≤ sizeLine := by have := length_putK kvs k v; omega
    refine wpAny_setItem_heap (hsz := hz) (tupleKind_room_in1 hu) (key_of I.hok eb) dd fun h' dd' hs => h _ ?_
    obtain ⟨q, es, ep, hq, h2, h3, h4, _, h5⟩ := dd'
    refine d_write I (by rw [e]; exact True.intro) hs ⟨q, hq⟩ ⟨hl, hd, _, (rel.put k eb rv).keeps fun c ys ec => ?_, q, es, ep, hq, h2, h3, h4, h5⟩
    rw [upd_ne (ne_of ec e (fun z => nomatch z))]
    exact ec
end
section
variable {X : Cx} {pins : List (Addr × Obj)} {σ : St} {H : Hp} {s : Shared} {a : Addr} {kvs : List (Key × V)} {k : Key} {u : Value} {A : Around} {E : Value → Shared → Prop}
end
noncomputable def tDNotIn (ty td : TE) : TE := fun σ H Q => ty σ H fun y H1 => td σ H1 fun x H2 => ∃ a o, x = .ref a ∧ DGet H2 a y o ∧ Q (.bl (!o.isSome)) H2
noncomputable def sDPut (td ty tv : TE) : TS := fun D σ H => tv σ H fun v H1 => td σ H1 fun x H2 => ty σ H2 fun y H3 => ∃ a H4, x = .ref a ∧ DPut H3 a y v H4 ∧ D.nx σ H4
section
variable {X : Cx} {o i e value : Expr} {pos pos' tpos : Pos} {td ty tv : TE}
theorem pc_dnotin (hu : X.A.units + 1 < cLine) (hi : PE X i ty) (ho : PE X o td) : PC X .NotIn i o (tDNotIn ty td) := by
  intro pins s σ H Q I h
  refine thn (hi pins s σ H _ I h) fun iv s1 ⟨y, H1, I1, ry, q1⟩ => thn (ho pins s1 σ H1 _ I1 q1) fun u s2 zpat => ?_
  obtain ⟨x, H2, I2, rx, a, ov, ex, g, q2⟩ := zpat
  subst ex
  obtain rfl : u = Value.ref a := rx
  exact d_notIn hu I2 g ry fun s3 I3 => ⟨.bl (!ov.isSome), H2, I3, rfl, q2⟩
theorem ps_dput (hu : X.A.units + 1 < cLine) (ho : PE X o td) (hi : PE X i ty) (hv : PE X value tv) (hs : swapsWith value (some (.Subscript o i pos')) pos.line X.env = pure false) :
    PS X (.Assign [.Subscript o i pos'] value pos) (sDPut td ty tv) := by
  intro pins s σ H D I h
  refine wpAny_Assign_Subscript (thn (hv pins s σ H _ I h) fun r s1 ⟨v, H1, I1, rv, q1⟩ => thn (ho pins s1 σ H1 _ I1 q1) fun u s2 ⟨x, H2, I2, rx, q2⟩ => thn (hi pins s2 σ H2 _ I2 q2) fun iv s3 zpat => ?_) hs
  obtain ⟨y, H3, I3, ry, a, H4, ex, g, q3⟩ := zpat
  subst ex
  obtain rfl : u = Value.ref a := rx
  exact d_setItem hu I3 g ry rv fun s4 I4 => ⟨σ, H4, I4, q3⟩
end
theorem dk_empty {P : Program} {w : World} {H : Hp} (h : Heap) (hb : sysModules < h.objs.size) : ObjOk P w H (h.push { cls := .type "dict", data := .dict #[] }) h.objs.size (.dK []) :=
  ⟨Nat.zero_le _, beq_eq_false_iff_ne.mpr (Ne.symm (Nat.ne_of_lt hb)), [], .nil, Heap.DictOf.new h⟩
noncomputable def tDNewK : TE := fun _ H Q => ∀ p, H p = none → Q (.ref p) (upd H p (.dK []))
section
variable {X : Cx} {pos : Pos}
theorem pe_dnewK : PE X (.Dict [] [] pos) tDNewK := fun pins s σ H Q I h =>
  wpAny_Dict_empty ⟨.ref s.heap.objs.size, _, I.laid (a := s.heap.objs.size) (o := .dK []) (t' := s.toks) (fun _ _ q => Heap.get?_push_of_some _ q) (Nat.le_refl _) (dk_empty s.heap I.big), rfl, h _ (I.hok.fresh (Nat.le_refl _))⟩
end
noncomputable def tPairs : List (TE × TE) → St → Hp → (List (V × V) → Hp → Prop) → Prop
  | [], _, H, Q => Q [] H
  | (tk, tv) :: r, σ, H, Q => tk σ H fun x H1 => tv σ H1 fun y H2 => tPairs r σ H2 fun ps H3 => Q ((x, y) :: ps) H3
noncomputable abbrev VV : List (V × V) → List (Value × Value) → Prop := Paired fun p q => RelV p.1 q.1 ∧ RelV p.2 q.2
noncomputable def PPs (X : Cx) (pos : Pos) (keys : List (Option Expr)) (values : List Expr) (trs : List (TE × TE)) : Prop :=
  ∀ (pins : List (Addr × Obj)) (s : Shared) (σ : St) (H : Hp) (Q : List (V × V) → Hp → Prop), Inv X pins σ H s → tPairs trs σ H Q →
    wpAny (model X.prog X.w) X.A (evalPairs (pairTrees keys values X.env pos)) (fun vs s' => ∃ ps H', Inv X pins σ H' s' ∧ VV ps vs ∧ Q ps H') X.xe s
theorem pps_nil {X : Cx} {pos : Pos} : PPs X pos [] [] [] := fun pins s σ H Q I h => pairTrees_nil_walk ⟨[], H, I, .nil, h⟩
theorem pps_cons {X : Cx} {pos : Pos} {k v : Expr} {ks : List (Option Expr)} {vs : List Expr} {tk tv : TE} {trs : List (TE × TE)} (hk : PE X k tk) (hv : PE X v tv) (hr : PPs X pos ks vs trs) :
    PPs X pos (some k :: ks) (v :: vs) ((tk, tv) :: trs) := fun pins s σ H Q I h =>
  pairTrees_cons_walk (thn (hk pins s σ H _ I h) fun u s1 ⟨x, H1, I1, rx, q1⟩ => thn (hv pins s1 σ H1 _ I1 q1) fun w2 s2 ⟨y, H2, I2, ry, q2⟩ =>
    thn (hr pins s2 σ H2 _ I2 q2) fun ws s3 ⟨ps, H3, I3, rel, q3⟩ => ⟨(x, y) :: ps, H3, I3, .cons ⟨rx, ry⟩ rel, q3⟩)
noncomputable def mergeK (kvs more : List (Key × V)) : List (Key × V) := more.foldl (fun acc kv => putK acc kv.1 kv.2) kvs
theorem KV.merge : ∀ {more : List (Key × V)} {rs : List (Key × Value)} {kvs : List (Key × V)} {vs : List (Key × Value)}, KV more rs → KV kvs vs → KV (mergeK kvs more) (merged vs rs) := by
  intro more rs kvs vs r
  unfold KV at r
  induction r generalizing kvs vs with
  | nil => intro q; exact q
  | @cons p q ps qs h t ih =>
    intro r0
    have e : KV (putK kvs p.1 p.2) (stored vs q.1 q.2) := by
      have := r0.put p.1 h.2
      rw [← h.1]; exact this
    exact ih e
theorem length_mergeK : ∀ (more kvs : List (Key × V)), (mergeK kvs more).length ≤ kvs.length + more.length
  | [], kvs => by show kvs.length ≤ kvs.length + 0; omega
  | p :: r, kvs => by
    have h1 := length_mergeK r (putK kvs p.1 p.2)
    have h2 := length_putK kvs p.1 p.2
    show (mergeK (putK kvs p.1 p.2) r).length ≤ _
    rw [List.length_cons]; omega
theorem carries_of {P : Program} {w : World} : ∀ {kvs : List (Key × V)} {ws : List (Value × Value)}, VV (kvs.map fun kv => (kV kv.1, kv.2)) ws → ∃ rs, Carries (mixKind P w) ws rs ∧ KV kvs rs
  | [], _, r => by rw [List.map_nil] at r; cases r; exact ⟨[], True.intro, .nil⟩
  | p :: kvs, _, r => by
    rw [List.map_cons] at r
    cases r with
    | @cons a b as bs h t =>
      obtain ⟨rs, c, q⟩ := carries_of (P := P) (w := w) t
      obtain ⟨b1, b2⟩ := b
      exact ⟨(p.1, b2) :: rs, ⟨kV_is h.1, rfl, c⟩, .cons ⟨rfl, h.2⟩ q⟩
noncomputable def tDisp (trs : List (TE × TE)) : TE := fun σ H Q => ∀ p, H p = none → tPairs trs σ (upd H p (.dK [])) fun ps H2 => H2 p = some (.dK []) ∧ ∃ kvs : List (Key × V), ps = kvs.map (fun kv => (kV kv.1, kv.2)) ∧ kvs.length ≤ 15 ∧ Q (.ref p) (upd H2 p (.dK (mergeK [] kvs)))
theorem pe_disp {X : Cx} {pos : Pos} {keys : List (Option Expr)} {values : List Expr} {trs : List (TE × TE)} (h : PPs X pos keys values trs) (hall : keys.all (·.isSome) = true) (hl : keys.length = values.length) (h0 : keys ≠ [])
    (h15 : keys.length ≤ 15) : PE X (.Dict keys values pos) (tDisp trs) := by
  intro pins s σ H Q I q
  have hn := I.hok.fresh (Nat.le_refl s.heap.objs.size)
  have I1 := I.laid (a := s.heap.objs.size) (o := .dK []) (h' := s.heap.push { cls := .type "dict", data := .dict #[] }) (t' := s.toks) (fun _ _ q => Heap.get?_push_of_some _ q) (Nat.le_refl _) (dk_empty s.heap I.big)
  refine wpAny_Dict_walk (knd := mixKind X.prog X.w) hall hl h0 h15 (thn (h pins _ σ _ _ I1 (q _ hn)) fun ws s2 zpat => ?_)
  obtain ⟨ps, H2, I2, rel, e, kvs, ep, lk, q2⟩ := zpat
  subst ep
  obtain ⟨rs, c, rk⟩ := carries_of (P := X.prog) (w := X.w) rel
  obtain ⟨z, hd, vs0, r0, dd⟩ := dk_of I2.hok e
  cases r0
  refine ⟨rs, c, dd, fun h' dd' hs => ⟨.ref s.heap.objs.size, _, ?_, rfl, q2⟩⟩
  have hz : (mergeK [] kvs).length ≤ sizeLine := by
    have h1 := length_mergeK kvs []
    rw [List.length_nil] at h1
    rw [sizeLine_eq]; omega
  have he : ∃ q, h'.get? s.heap.objs.size = some q := let ⟨q, _, _, hq, _⟩ := dd'; ⟨q, hq⟩
  exact d_write I2 (by rw [e]; exact True.intro) hs he (dk_new hz hd (rk.merge .nil) dd')
section
variable {X : Cx} {pins : List (Addr × Obj)} {σ : St} {H : Hp} {s : Shared} {a : Addr} {y d : V} {u r : Value} {o : Option V} {A : Around} {E : Value → Shared → Prop}
end
section
variable {X : Cx} {o e f : Expr} {apos cpos : Pos} {td ty tx : TE}
end
section
variable {X : Cx} {pins : List (Addr × Obj)} {σ : St} {H : Hp} {s : Shared} {a : Addr} {kvs : List (Key × V)} {A : Around} {E : Value → Shared → Prop}
end
section
variable {X : Cx} {pins : List (Addr × Obj)} {σ : St} {H : Hp} {s : Shared} {a : Addr} {y : V} {u : Value} {A : Around} {E : Value → Shared → Prop}
end
end L2
namespace Att
open PySem PySem.W PySem.Calls PyProof.Rows
theorem ints_of_wellAll {P : Params} {h : Heap} : ∀ (ns : List Int) (vs : List Value), WellAll P h vs (ns.map WData.int) → IntsAre vs ns := by
  intro ns
  induction ns with
  | nil =>
    intro vs w
    rw [List.map_nil] at w
    cases w
    exact .nil
  | cons n ns ih =>
    intro vs w
    rw [List.map_cons] at w
    cases w with
    | cons a b =>
      cases a
      exact .cons _ _ (ih _ b)
theorem script_of {l : OpenLaw} {n : Nat} (hn : l.most = some n) {P : Params} {h : Heap} {args : List WData} {vals : List Value}
    (hpre : l.row.toRowW.claim.pre args = true) (hwl : WellAll P h vals args) :
    ∃ a vs ns, vals = [Value.ref a] ∧ args = [WData.list (ns.map WData.int)] ∧ h.get? a = some { cls := .type "list", data := .seq vs.toArray } ∧ IntsAre vs ns ∧ ns.length ≤ n := by
  have hsh : WShape.hasAll [] args [.list .int] = true := (pre_splitW hpre).1
  have hc : l.pre.holds [] { args := args } = true := (pre_splitW hpre).2
  obtain ⟨d, r, rfl, h1, h2⟩ := hasAllW_cons hsh
  obtain rfl := hasAllW_nil h2
  obtain ⟨xs, rfl, h3⟩ := hasW_list h1
  obtain ⟨ns, rfl⟩ := items_int h3
  have hlen : ns.length ≤ n := by
    unfold OpenLaw.pre at hc
    have h4 : (WTm.not (.lt (.lit (.int (n : Int))) (.len (.arg 0)))).holds [] { args := [.list (ns.map .int)] } = true := by
      have h4 := (holds_andW hc).1
      rw [hn] at h4
      exact h4
    have h5 := condW_of h4 (w_not (w_lt w_lit (w_len_list (w_arg rfl))))
    rw [List.length_map] at h5
    refine Nat.le_of_not_lt fun q => ?_
    have q' : (n : Int) < ((ns.length : Nat) : Int) := by omega
    first
      | (rw [decide_eq_true q'] at h5; exact absurd h5 (by decide))
      | (simp at h5; omega)
  cases hwl with
  | cons w1 w2 =>
    cases w2
    cases w1 with
    | list ho hall => exact ⟨_, _, ns, rfl, rfl, ho, ints_of_wellAll ns _ hall, hlen⟩
theorem post_true (l : OpenLaw) (args : List WData) : l.row.toRowW.claim.post args (.bool true) args = true :=
  postW_of (r := l.row.toRowW) (X := (true == true))
    (show WShape.has [] (.bool true) .bool = true by first | rfl | decide | simp [WShape.has, WShape.arms, WShape.armsAll])
    (show (WTm.eq .res (.lit (.bool true))).value [] { args := args, res := some (.bool true), after := args } = some (.bool (true == true)) from w_eq_bool (w_res rfl) w_lit) rfl
theorem attach_call {l : OpenLaw} {n : Nat} {q : Program} {loose : List Str} {XP : (Str → Option Value) → Heap → Prop} {YP : World → Heap → Prop} {d : DefRec}
    (hn : l.most = some n) (hdf : d.params.defaults = [])
    (call : ∀ (w : World) (s₀ s₁ : Shared) (mg mb : Str → Option Value) (fa : Addr) (o : Obj) (pm cd doc : Value) (a : Addr) (vs : List Value) (ns : List Int),
      Ground q loose [] XP w s₀ mg mb s₁.heap → YP w s₁.heap →
      s₁.heap.get? fa = some o → o.data = .func (docDef d.name d.params d.body d.scope pm cd doc) → s₁.heap.CodeRec cd d.name → mg d.name = some (.ref fa) →
      s₁.heap.get? a = some { cls := .type "list", data := .seq vs.toArray } → IntsAre vs ns → ns.length ≤ n → s₁.gens = #[] →
      codeAny (model l.prog w) callerA (.call (.ref fa) ⟨[.ref a], []⟩) (fun r s' => r = .ok (.ret (.bool true)) ∧ OldK s₁.heap s'.heap ∧ s'.os = s₁.os ∧ AllBare s'.gens) s₁) :
    WalkO q loose XP YP l.row.toRowW d [] (fun f vs => PySem.call f vs) := by
  intro w s₀ s₁ mg mb G Y fa o pm cd doc dV kV ho hd hcd hD hmg hg args vals as hpre hlay hrd hwl hlo
  obtain rfl : dV = .none := Dflts.none hD hdf
  obtain rfl : kV = .none := Dflts.noKw hD
  obtain ⟨a, vs, ns, rfl, rfl, hobj, hints, hlen⟩ := script_of hn hpre hwl
  refine enter_call (codeAny_mono (call w s₀ s₁ mg mb fa o pm cd doc a vs ns G Y ho (fd_plain hd) hcd hmg hobj hints hlen hg) fun r s' hq => ?_)
  obtain ⟨rfl, h2, h3, h4⟩ := hq
  exact ⟨.inl ⟨.bool true, .bool true, [], rfl, fun _ => rfl, .bool true, post_true l _, fun _ => ⟨List.Pairwise.nil, fun _ hm => (nomatch hm)⟩⟩, h2, h3, h4⟩
section
variable {prog : Program} {w : World} {A : Around} {E : Value → Shared → Prop} {s : Shared} {K : Frag}
end
end Att
namespace L2
open PySem PySem.Spec PyProof.Rows
theorem vals_ints : ∀ {vs : List Value} {ns : List Int}, IntsAre vs ns → Vals (ns.map V.int) vs
  | _, _, .nil => .nil
  | _, _, .cons n t h => .cons ⟨t, rfl⟩ (vals_ints h)
noncomputable def Only (H : Hp) : Prop := ∀ b, H b = none ∨ ∃ o xs, H b = some (.frz o (.lst xs))
theorem law_call {P : Program} {w : World} {K : PySem.W.Frag} {mg mb : Str → Option Value} {CX : CXT} {k : Nat} {fa a : Addr} {fd : FuncData} {x : Str} {sp : Sp} {s₁ : Shared} {vs : List Value} {ns : List Int}
    (KX : K.In s₁.heap) (hns : s₁.heap.Ns mainGlobals mg) (hb : s₁.heap.Ns builtinsNs mb) (hbb : ∀ x : Str, x ≠ "__name__" → mb x = bootBuiltins x) (hlim : s₁.heap.NoLimit) (hg : s₁.gens = #[])
    (ha : s₁.heap.get? a = some { cls := .type "list", data := .seq vs.toArray }) (hi : IntsAre vs ns) (hl : ns.length ≤ sizeLine) (hr : Room k callerA)
    (F : ∀ base : Heap, K.In base → base.Ns mainGlobals mg → FnOk P w K mg base CX k fa fd [x] sp) (hbind : ∀ (s : Shared) (u : Value), BindsTo s fd ⟨[u], []⟩ [(x, u)])
    (hsp : ∀ H : Hp, Only H → SqL K H a (ns.map V.int) → sp [.ref a] H (fun v _ => v = .bl true) fun _ _ _ => False)
    (hCX : ∀ H e s', CX [] H s₁ (fun _ _ _ => False) e s' → False) :
    codeAny (model P w) callerA (.call (.ref fa) ⟨[.ref a], []⟩) (fun r s' => r = .ok (.ret (.bool true)) ∧ OldK s₁.heap s'.heap ∧ s'.os = s₁.os ∧ AllBare s'.gens) s₁ := by
  have rv := vals_ints hi
  have lenV := hi.length
  -- from an abstract heap in which nothing but the script may be tracked
  have core : ∀ H : Hp, Only H → SqL K H a (ns.map V.int) → HOk P w H s₁.heap → (∀ b, H b ≠ none → b = a) → (H a ≠ none → K.lookup a = none) →
      codeAny (model P w) callerA (.call (.ref fa) ⟨[.ref a], []⟩) (fun r s' => r = .ok (.ret (.bool true)) ∧ OldK s₁.heap s'.heap ∧ s'.os = s₁.os ∧ AllBare s'.gens) s₁ := by
    intro H hO hS hok hA hK
    have base_of : ∀ {b : Addr} {o : Obj}, s₁.heap.get? b = some o → H b = none → (hidT s₁.heap H).get? b = some o := fun e n => hidT_get e n
    have noA : ∀ {b : Addr} {o : Obj} {es : Array DictEntry} {ep : Nat}, s₁.heap.get? b = some o → o.data = .dict es ep → H b = none := fun {b o es ep} e d => by
      cases q : H b with
      | none => rfl
      | some u =>
        have e' : b = a := hA b (by rw [q]; simp)
        subst e'
        rw [ha] at e; cases e
        have d' : Data.seq vs.toArray _ = Data.dict es ep := d
        cases d'
    have nsK : ∀ {b : Addr} {m : Str → Option Value}, s₁.heap.Ns b m → (hidT s₁.heap H).Ns b m := fun {b m} ⟨o, es, ep, e, d, r⟩ => ⟨o, es, ep, base_of e (noA e d), d, r⟩
    have hKb : K.In (hidT s₁.heap H) := fun b o e => base_of (KX b o e) (by
      cases q : H b with
      | none => rfl
      | some u =>
        have e' : b = a := hA b (by rw [q]; simp)
        subst e'
        rw [hK (by rw [q]; simp)] at e; cases e)
    have hM : Mod K mg (hidT s₁.heap H) := ⟨hKb, nsK hns, ⟨mb, nsK hb, hbb⟩, let ⟨mc, h1, h2⟩ := hlim; ⟨mc, nsK h1, h2⟩⟩
    have e0 : Env0 P w K mg (hidT s₁.heap H) callerA [] s₁ H := ⟨rfl, hM, fun b o e => of_hidT e, Nat.le_of_eq (hidT_size _ _), trivial, fun b hb => absurd (show b ∈ ([] : List Addr) from hb) (by simp), hok, .of_eq hg⟩
    refine codeAny_mono ((F _ hKb (nsK hns)).run callerA [] s₁ H ⟨[.ref a], []⟩ [.ref a] [.ref a] _ _ hr e0 (hbind s₁ (.ref a)) (.cons rfl .nil) (hsp H hO hS)) fun r s' h => ?_
    cases r with
    | error e => exact (hCX H e s' h).elim
    | ok fl =>
      cases fl with
      | next => exact False.elim h
      | brk => exact False.elim h
      | cont => exact False.elim h
      | ret u =>
        obtain ⟨v, H', os, bare, un, hok', r', q⟩ := h
        have q' : v = .bl true := q
        subst q'
        obtain rfl : u = Value.bool true := r'
        refine ⟨rfl, OldK.of_keep fun b o e => ?_, os, bare⟩
        cases q : H b with
        | none => exact un.keep b o e q (by intro z; exact absurd (show b ∈ ([] : List Addr) from z) (by simp)) (by simp)
        | some u =>
          rcases hO b with z | ⟨ob, xs, z⟩
          · rw [q] at z; cases z
          · have z2 := un.frzs b ob _ z
            obtain ⟨e1, _⟩ := hok b _ z
            obtain ⟨e2, _⟩ := hok' b _ z2
            rw [e] at e1; cases e1
            exact e2
  cases hk : K.lookup a with
  | some o =>
    -- the script is one of the module's own objects
    have e := KX a o hk
    rw [ha] at e
    cases e
    refine core (fun _ => none) (fun _ => .inl rfl) (.inr ⟨_, vs.toArray, _, hk, rfl, rfl, rfl, by rw [List.size_toArray, lenV]; exact hl, by simpa using rv⟩) (fun b u z => by have z' : (none : Option HO) = some u := z; cases z') (fun b z => absurd rfl z) fun z => absurd rfl z
  | none =>
    refine core (fun b => if b = a then some (.frz { cls := .type "list", data := .seq vs.toArray } (.lst (ns.map V.int))) else none) (fun b => ?_) (.inl (.inr ⟨{ cls := .type "list", data := .seq vs.toArray }, if_pos rfl⟩)) (fun b u z => ?_) (fun b z => ?_) fun _ => hk
    · by_cases hb : b = a
      · exact .inr ⟨_, _, if_pos hb⟩
      · exact .inl (if_neg hb)
    · by_cases hb : b = a
      · have z' := (if_pos hb).symm.trans z
        cases z'
        subst hb
        exact ⟨ha, by rw [List.length_map]; exact hl, vs, _, rv, ha⟩
      · have z' := (if_neg hb).symm.trans z
        cases z'
    · by_cases hb : b = a
      · exact hb
      · exact absurd (if_neg hb) z
end L2
namespace L2
open PySem PySem.Spec PyProof.Rows
theorem walk_of {l : PySem.W.OpenLaw} {n k : Nat} {q : Program} {loose : List Str} {XP : (Str → Option Value) → Heap → Prop} {YP : World → Heap → Prop} {d : DefRec} {K : Params → PySem.W.Frag} {CX : World → CXT} {sp : World → Sp} {x : Str}
    (hn : l.most = some n) (hn2 : n ≤ sizeLine) (hdf : d.params.defaults = []) (hr : Room k callerA)
    (hY : ∀ (w : World) (h : Heap), YP w h → (K w.params).In h)
    (F : ∀ (w : World) (mg : Str → Option Value) (fa : Addr) (h : Heap), (K w.params).In h → h.Ns mainGlobals mg → mg d.name = some (.ref fa) →
      ∃ fd : FuncData, (∀ (s : Shared) (u : Value), BindsTo s fd ⟨[u], []⟩ [(x, u)]) ∧
        ∀ base : Heap, (K w.params).In base → base.Ns mainGlobals mg → FnOk l.prog w (K w.params) mg base (CX w) k fa fd [x] (sp w))
    (hsp : ∀ (w : World) (H : Hp) (a : Addr) (ns : List Int), ns.length ≤ n → Only H → SqL (K w.params) H a (ns.map V.int) → sp w [.ref a] H (fun v _ => v = .bl true) fun _ _ _ => False)
    (hCX : ∀ (w : World) (H : Hp) (s : Shared) (e : Value) (s' : Shared), CX w [] H s (fun _ _ _ => False) e s' → False) :
    PySem.W.WalkO q loose XP YP l.row.toRowW d [] (fun f vs => PySem.call f vs) := by
  refine Att.attach_call hn hdf fun w s₀ s₁ mg mb fa o pm cd doc a vs ns G Y ho hd hcd hmg hobj hints hlen hg => ?_
  have KX := hY w _ Y
  obtain ⟨fd, hb, hF⟩ := F w mg fa _ KX G.T.g hmg
  exact law_call KX G.T.g G.T.b G.T.builtins G.T.nolimit hg hobj hints (Nat.le_trans hlen hn2) hr hF hb (fun H hO hS => hsp w H a ns hlen hO hS) fun H e s' => hCX w H s₁ e s'
end L2
namespace L2
open PySem PySem.Spec PyProof.Rows
noncomputable def inClass (s : Stmt) (j : Nat) : Stmt := match s with
  | .ClassDef _ _ _ body _ _ _ _ _ _ _ => body.getD j (.Pass ⟨0, 0, 0, 0⟩)
  | _ => .Pass ⟨0, 0, 0, 0⟩
noncomputable def defArgs (s : Stmt) : Arguments := match s with
  | .FunctionDef _ a _ _ _ _ _ _ _ _ => a
  | _ => { posonlyargs := [], args := [], vararg := none, kwonlyargs := [], kw_defaults := [], kwarg := none, defaults := [] }
noncomputable def defBody (s : Stmt) : List Stmt := match s with
  | .FunctionDef _ _ b _ _ _ _ _ _ _ => b
  | _ => []
noncomputable def defScope (s : Stmt) : Scope := match s with
  | .FunctionDef _ _ _ _ _ _ sc _ _ _ => sc
  | _ => { kind := .function, names := [], isGenerator := false, isCoroutine := false }
noncomputable abbrev CX0 : CXT := fun _ _ _ _ _ _ => False
noncomputable abbrev E0 : XK := fun _ _ _ => False
theorem pass0 {X : Cx} : Passes CX0 X E0 := fun _ _ _ _ _ _ _ h => h.elim
structure Fun (K : PySem.W.Frag) (x qual : Str) (st : Stmt) (f : Addr) (fd : FuncData) : Prop where
  ex : ∃ (oc : Value) (od : Option Addr) (kV doc pm : Value) (an : Option Addr) (cdv ct : Value) (osl : Array (Option Value)),
    fd = PySem.W.fnOf x qual (defArgs st) (defBody st) (defScope st) .none kV doc pm an cdv ct ∧ K.lookup f = some ⟨oc, od, .func fd, osl⟩ ∧ PySem.W.codeIn K cdv qual = true
  kp : PySem.W.keepIn K (.ref f) = true
section
variable {P : Program} {w : World} {K : PySem.W.Frag} {mg : Str → Option Value} {base : Heap}
theorem Fun.ok {x qual : Str} {st : Stmt} {f : Addr} {fd : FuncData} {N ps : List Str} {k : Nat} {sp : Sp} (F : Fun K x qual st f fd) (S : FnScope N ps (defScope st)) (len : ∀ vs H Q E, sp vs H Q E → vs.length = ps.length)
    (hbody : ∀ (cdv : Value) (A : Around) (outer : List Env) (s : Shared) (H : Hp) (vs : List V) (Q : VK) (E : XK), Room k (A.deeper (envOfC qual (defScope st) s.heap.objs.size f cdv)) → sp vs H Q E →
      ∃ t, PSs (cxOf CX0 P w K mg base N qual (defScope st) f cdv A outer s H E).nox (defBody st) t ∧ t { nx := fun _ H' => Q .non H', rt := Q } (start N vs) H) : FnOk P w K mg base CX0 (k + 1) f fd ps sp := by
  obtain ⟨oc, od, kV, doc, pm, an, cdv, ct, osl, rfl, lk, hcd⟩ := F.ex
  refine fn_of lk hcd S len fun A outer s H vs Q E hr hsp => ?_
  obtain ⟨t, h, q⟩ := hbody cdv A outer s H vs Q E hr hsp
  exact ⟨t, h.nox, q⟩
theorem Fun.binds {x qual : Str} {st : Stmt} {f : Addr} {fd : FuncData} {ps : List Str} (F : Fun K x qual st f fd)
    (h : ∀ (kV doc pm : Value) (an : Option Addr) (cdv ct : Value) (us : List Value), us.length = ps.length → bindArgs (PySem.W.fnOf x qual (defArgs st) (defBody st) (defScope st) .none kV doc pm an cdv ct) ⟨us, []⟩ = pure (ps.zip us)) : Binds K fd ps [] := by
  obtain ⟨oc, od, kV, doc, pm, an, cdv, ct, osl, rfl, lk, hcd⟩ := F.ex
  exact .all (h kV doc pm an cdv ct)
theorem fun_mk {x qual : Str} {st : Stmt} {f : Addr} {oc : Value} {od an : Option Addr} {osl : Array (Option Value)} {kV doc pm cdv ct : Value} (l : K.lookup f = some ⟨oc, od, .func (PySem.W.fnOf x qual (defArgs st) (defBody st) (defScope st) .none kV doc pm an cdv ct), osl⟩)
    (c : PySem.W.codeIn K cdv qual = true) (k : PySem.W.keepIn K (.ref f) = true) : Fun K x qual st f (PySem.W.fnOf x qual (defArgs st) (defBody st) (defScope st) .none kV doc pm an cdv ct) := ⟨⟨oc, od, kV, doc, pm, an, cdv, ct, osl, rfl, l, c⟩, k⟩
end
theorem hu_of {A : Around} {k : Nat} (hr : Room k A) : A.units + 1 < cLine := Nat.lt_of_le_of_lt (Nat.add_le_add_left (by decide : 1 ≤ 64) _) hr.units
theorem small1000 {n : Nat} (h : n ≤ 1000) : n < sizeLine := Nat.lt_of_le_of_lt h (by decide)
section
variable {X : Cx}
theorem pv (i : Nat) {x : Str} {pos : Pos} (hN : X.N[i]? = some x := by rfl) (hv : Vis X.env.scope x := by first | exact Or.inl rfl | exact Or.inr (Or.inl rfl) | exact Or.inr (Or.inr rfl)) (hd : (x == ("__debug__" : Str)) = false := by decide)
    (hcd : (x == ("__classdict__" : Str)) = false := by decide) : PE X (.Name x pos) (tVar i) := pe_var hN hv hd hcd
end
theorem iteF {A B : Prop} (h : B) : if false = true then A else B := by
  rw [if_neg Bool.false_ne_true]
  exact h
theorem iteT {A B : Prop} (h : A) : if true = true then A else B := by
  rw [if_pos rfl]
  exact h
theorem ite2 {c A B : Prop} [Decidable c] (h1 : c → A) (h2 : ¬ c → B) : if c then A else B := by
  by_cases h : c
  · rw [if_pos h]
    exact h1 h
  · rw [if_neg h]
    exact h2 h
theorem iteNS {c A B : Prop} [Decidable c] (hc : c) (h : B) : if (!decide c) = true then A else B := by
  rw [decide_eq_true hc]
  exact iteF h
noncomputable def Same (H H' : Hp) : Prop := ∀ b o, H b = some o → H' b = some o
theorem Same.refl (H : Hp) : Same H H := fun _ _ h => h
theorem Same.trans {H H1 H2 : Hp} (a : Same H H1) (b : Same H1 H2) : Same H H2 := fun c o h => b c o (a c o h)
theorem Same.free {H H' : Hp} (e : Same H H') {l : Addr} (h : H' l = Option.none) : H l = Option.none := by
  cases q : H l with
  | none => rfl
  | some o =>
    rw [e l o q] at h
    cases h
theorem Same.seq {K : PySem.W.Frag} {H H' : Hp} {a : Addr} {xs : List V} (e : Same H H') (h : SqL K H a xs) : SqL K H' a xs := by
  rcases h with (h | ⟨o, h⟩) | h
  · exact .inl (.inl (e _ _ h))
  · exact .inl (.inr ⟨o, e _ _ h⟩)
  · exact .inr h
end L2
namespace L2
open PySem PySem.Spec PyProof.Rows
section
variable {X : Cx}
end
section
variable {κ : Type} [DecidableEq κ]
end
end L2
set_option maxHeartbeats 4000000
namespace L2
open PySem PySem.Spec PyProof.Rows
noncomputable def clOf : List (Str × NameKind) → List (Str × Addr) → List (Str × Addr) → List (Str × Addr)
  | [], _, acc => acc
  | (n, k) :: r, cells, acc => if k == .free then clOf r cells ((n, (cells.lookup n).getD 0) :: acc) else clOf r cells acc
noncomputable def cmpChk (N own : List Str) (scope : Scope) (env : Env) : Bool := (scope.names.all fun y => match y.2 with
  | .local => scope.names.lookup y.1 == some .local && (own.contains y.1 || !N.contains y.1)
  | .free => scope.names.lookup y.1 == some .free && (env.kindOf y.1 == some .cell || env.kindOf y.1 == some .free)
  | .cell => false
  | _ => true) && own.all fun y => (scope.names.lookup (".0." ++ y)).isNone
theorem clOf_pure {env : Env} : ∀ (l : List (Str × NameKind)) (acc : List (Str × Addr)), (∀ y ∈ l, y.2 = .free → ∃ c, env.cells.lookup y.1 = some c) →
    (forIn l acc (fun (x : Str × NameKind) (r : List (Str × Addr)) => if (x.2 == NameKind.free) = true then do let c ← cellOf env x.1; pure (ForInStep.yield ((x.1, c) :: r)) else pure (ForInStep.yield r)) : Sem (List (Str × Addr))) = pure (clOf l env.cells acc)
  | [], acc, _ => rfl
  | (n, k) :: r, acc, h => by
    rw [List.forIn_cons]
    unfold clOf
    by_cases hk : (k == NameKind.free) = true
    · have hk' : k = .free := by simpa using hk
      obtain ⟨c, hc⟩ := h (n, k) List.mem_cons_self hk'
      rw [if_pos hk, if_pos hk]
      have e1 : cellOf env n = pure c := by unfold cellOf; rw [hc]
      rw [e1, hc]
      show (forIn r ((n, c) :: acc) _ : Sem _) = _
      exact clOf_pure r _ fun y hy => h y (List.mem_cons_of_mem _ hy)
    · rw [if_neg hk, if_neg hk]
      show (forIn r acc _ : Sem _) = _
      exact clOf_pure r _ fun y hy => h y (List.mem_cons_of_mem _ hy)
theorem closure_is {scope : Scope} {env : Env} (h : ∀ y ∈ scope.names, y.2 = .free → ∃ c, env.cells.lookup y.1 = some c) : closureFor scope env = pure (clOf scope.names env.cells []) := by
  have q := clOf_pure (env := env) scope.names [] h
  unfold closureFor
  show (forIn scope.names [] _ >>= fun r => pure r : Sem _) = _
  rw [← q]
  simp only [bind_pure]
theorem clOf_sub {cells : List (Str × Addr)} {x : Str} {c : Addr} : ∀ (l : List (Str × NameKind)) (acc : List (Str × Addr)), (∀ y ∈ l, y.2 = .free → ∃ c, cells.lookup y.1 = some c) → (∀ c, acc.lookup x = some c → cells.lookup x = some c) →
    (clOf l cells acc).lookup x = some c → cells.lookup x = some c
  | [], acc, _, ha, h => ha c h
  | (n, k) :: r, acc, hl, ha, h => by
    unfold clOf at h
    by_cases hk : (k == NameKind.free) = true
    · rw [if_pos hk] at h
      refine clOf_sub r _ (fun y hy => hl y (List.mem_cons_of_mem _ hy)) (fun c' hc' => ?_) h
      obtain ⟨d, hd⟩ := hl (n, k) List.mem_cons_self (by simpa using hk)
      rw [hd] at hc'
      rw [List.lookup_cons] at hc'
      cases e : x == n with
      | true =>
        rw [e] at hc'
        have e' : x = n := by simpa using e
        rw [e', hd]
        exact hc'
      | false =>
        rw [e] at hc'
        exact ha c' hc'
    · rw [if_neg hk] at h
      exact clOf_sub r acc (fun y hy => hl y (List.mem_cons_of_mem _ hy)) ha h
theorem clOf_has {cells : List (Str × Addr)} {x : Str} : ∀ (l : List (Str × NameKind)) (acc : List (Str × Addr)), ((∃ c, acc.lookup x = some c) ∨ (x, NameKind.free) ∈ l) → ∃ c, (clOf l cells acc).lookup x = some c
  | [], acc, h => by
    rcases h with h | h
    · exact h
    · cases h
  | (n, k) :: r, acc, h => by
    unfold clOf
    by_cases hk : (k == NameKind.free) = true
    · rw [if_pos hk]
      refine clOf_has r _ ?_
      by_cases e : x = n
      · subst e
        exact .inl ⟨_, by rw [List.lookup_cons, beq_self_eq_true]⟩
      · rcases h with ⟨c, h⟩ | h
        · refine .inl ⟨c, ?_⟩
          rw [List.lookup_cons]
          have : (x == n) = false := by simpa using e
          rw [this]; exact h
        · rcases List.mem_cons.mp h with h | h
          · exact absurd (congrArg Prod.fst h) e
          · exact .inr h
    · rw [if_neg hk]
      refine clOf_has r _ ?_
      rcases h with h | h
      · exact .inl h
      · rcases List.mem_cons.mp h with h | h
        · have : k = .free := (congrArg Prod.snd h).symm
          rw [this] at hk
          exact absurd rfl hk
        · exact .inr h
noncomputable def hide (own : List Str) (x : Str) : Str := if own.contains x then ".0." ++ x else x
noncomputable def cxComp (X : Cx) (scope : Scope) (own : List Str) (ex : List Addr) (pn : List (Addr × Obj)) (C : Addr) (s₀ : Shared) (H₀ : Hp) : Cx where
  prog := X.prog
  w := X.w
  K := X.K
  mg := X.mg
  base := X.base
  A := X.A
  N := own ++ X.N.map (hide own)
  s₀ := s₀
  H₀ := H₀
  env := compEnvC scope (clOf scope.names X.env.cells []) C X.env
  outer := X.stack
  stack := X.stack
  ex := ex
  fn := fun _ => false
  calm := X.calm
  pn := pn
  xe := fun _ _ => False
theorem lookup_relabel {env : Env} : ∀ {names : List (Str × NameKind)} {x : Str} {k : NameKind},
    (names.map fun (n, k) => if (k == NameKind.free && env.scope.kind == .function && env.kindOf n == some .cell) then (n, NameKind.cell) else (n, k)).lookup x = some k →
    names.lookup x = some k ∨ (k = .cell ∧ names.lookup x = some .free ∧ env.kindOf x = some .cell)
  | [], _, _, h => by simp at h
  | (n, k') :: r, x, k, h => by
    have ih := @lookup_relabel env r x k
    have h : List.lookup x ((if (k' == NameKind.free && env.scope.kind == .function && env.kindOf n == some .cell) = true then (n, NameKind.cell) else (n, k')) :: _) = some k := h
    cases hx : x == n with
    | true =>
      have e : x = n := by simpa using hx
      by_cases hc : (k' == NameKind.free && env.scope.kind == .function && env.kindOf n == some .cell) = true
      · rw [if_pos hc, List.lookup_cons, hx] at h
        simp only [Bool.and_eq_true, beq_iff_eq] at hc
        have hk : NameKind.cell = k := Option.some.inj h
        refine .inr ⟨hk.symm, ?_, by rw [e]; exact hc.2⟩
        rw [List.lookup_cons, hx, hc.1.1]
      · rw [if_neg hc, List.lookup_cons, hx] at h
        refine .inl ?_
        rw [List.lookup_cons, hx]
        exact h
    | false =>
      have q : List.lookup x (r.map fun (n, k) => if (k == NameKind.free && env.scope.kind == .function && env.kindOf n == some .cell) then (n, NameKind.cell) else (n, k)) = some k := by
        by_cases hc : (k' == NameKind.free && env.scope.kind == .function && env.kindOf n == some .cell) = true
        · rw [if_pos hc, List.lookup_cons, hx] at h; exact h
        · rw [if_neg hc, List.lookup_cons, hx] at h; exact h
      rcases ih q with z | z
      · exact .inl (by rw [List.lookup_cons, hx]; exact z)
      · exact .inr ⟨z.1, by rw [List.lookup_cons, hx]; exact z.2.1, z.2.2⟩
structure CmpOk (X : Cx) (scope : Scope) (own : List Str) : Prop where
  kind : scope.kind = .function
  nocell : ∀ y ∈ scope.names, y.2 ≠ .cell
  loc : ∀ y ∈ scope.names, y.2 = .local → scope.names.lookup y.1 = some .local
  free : ∀ y ∈ scope.names, y.2 = .free → X.env.kindOf y.1 = some .cell ∨ X.env.kindOf y.1 = some .free
  rest : ∀ x, scope.names.lookup x = some .local → x ∈ X.N → x ∈ own
  hid : ∀ y ∈ own, scope.names.lookup (".0." ++ y) = none
theorem cmpOk {X : Cx} {scope : Scope} {own : List Str} (hk : scope.kind = .function) (h : cmpChk X.N own scope X.env = true) : CmpOk X scope own := by
  unfold cmpChk at h
  rw [Bool.and_eq_true, List.all_eq_true, List.all_eq_true] at h
  obtain ⟨h, h2⟩ := h
  have hl : ∀ y ∈ scope.names, y.2 = .local → scope.names.lookup y.1 = some .local ∧ (y.1 ∈ own ∨ y.1 ∉ X.N) := fun y hy e => by
    have q := h y hy
    rw [e] at q
    have q2 : (scope.names.lookup y.1 == some .local && (own.contains y.1 || !X.N.contains y.1)) = true := q
    simp only [Bool.and_eq_true, Bool.or_eq_true, beq_iff_eq, List.contains_iff_mem, Bool.not_eq_true', ← Bool.not_eq_true] at q2
    exact q2
  refine ⟨hk, fun y hy e => ?_, fun y hy e => (hl y hy e).1, fun y hy e => ?_, fun x e hx => ?_, fun y hy => ?_⟩
  · have q := h y hy
    rw [e] at q
    exact absurd q Bool.false_ne_true
  · have q := h y hy
    rw [e] at q
    have q2 : (scope.names.lookup y.1 == some .free && (X.env.kindOf y.1 == some .cell || X.env.kindOf y.1 == some .free)) = true := q
    simp only [Bool.and_eq_true, Bool.or_eq_true, beq_iff_eq] at q2
    exact q2.2
  · rcases (hl (x, .local) (PySem.mem_of_lookup e) rfl).2 with z | z
    · exact z
    · exact absurd hx z
  · exact Option.isNone_iff_eq_none.mp (h2 y hy)
section
variable {X : Cx} {scope : Scope} {own : List Str} {pins : List (Addr × Obj)} {σ : St} {H : Hp} {s : Shared}
theorem CmpOk.cells (c : CmpOk X scope own) (ok : X.Ok) : ∀ y ∈ scope.names, y.2 = .free → ∃ c, X.env.cells.lookup y.1 = some c := fun y hy e => ok.has y.1 (c.free y hy e)
theorem CmpOk.sub (c : CmpOk X scope own) (ok : X.Ok) {x : Str} {a : Addr} (h : (clOf scope.names X.env.cells []).lookup x = some a) : X.env.cells.lookup x = some a :=
  clOf_sub scope.names [] (c.cells ok) (fun _ z => nomatch z) h
theorem CmpOk.kindOf (c : CmpOk X scope own) {C : Addr} {cl : List (Str × Addr)} {x : Str} {k : NameKind} (h : (compEnvC scope cl C X.env).kindOf x = some k) :
    scope.names.lookup x = some k ∨ (k = .cell ∧ scope.names.lookup x = some .free ∧ X.env.kindOf x = some .cell) := lookup_relabel h
theorem CmpOk.free_of (c : CmpOk X scope own) {C : Addr} {cl : List (Str × Addr)} {x : Str} (h : (compEnvC scope cl C X.env).kindOf x = some .cell ∨ (compEnvC scope cl C X.env).kindOf x = some .free) : scope.names.lookup x = some .free := by
  rcases h with h | h
  · rcases c.kindOf h with z | z
    · exact absurd rfl (c.nocell _ (PySem.mem_of_lookup z))
    · exact z.2.1
  · rcases c.kindOf h with z | z
    · exact z
    · exact nomatch z.1
theorem Inv.compOk {fp : List Addr} {C : Addr} (I : Inv X pins σ H s) (c : CmpOk X scope own) (hC : s.heap.objs.size ≤ C) (hf : ∀ b ∈ fp, FpOk X pins H b) (ho : ∀ b ∈ fp, ∃ o, s.heap.get? b = some o) :
    (cxComp X scope own fp (X.pn ++ pins) C s H).Ok where
  mod := I.ok.mod
  kind := c.kind
  glob := I.ok.glob
  blt := I.ok.blt
  above := hC
  inj := fun x y a h1 h2 => I.ok.inj x y a (c.sub I.ok h1) (c.sub I.ok h2)
  has := fun x h => clOf_has scope.names [] (.inr (PySem.mem_of_lookup (c.free_of h)))
  cab := fun x a z _ => absurd z Bool.false_ne_true
  hd := I.ok.hd
  frames := I.ok.frames
  stk := .inl rfl
  exf := fun b hb => by
    obtain ⟨o, e⟩ := ho b hb
    exact ⟨Nat.ne_of_lt (Nat.lt_of_lt_of_le (Heap.lt_size e) hC), fun x a h => (hf b hb).2.2.2.2.1 x a (c.sub I.ok h)⟩
  bs := I.bs
  bsz := Nat.le_trans I.ok.bsz I.sz
  noex := fun b o e hb => by
    rcases (hf b hb).2.2.2.1 with z | z
    · exact I.ok.noex b o e z
    · exact absurd (Nat.lt_of_lt_of_le (Heap.lt_size e) (Nat.le_trans I.ok.bsz z)) (Nat.lt_irrefl _)
  exfs := fun b hb z => by
    rcases List.mem_cons.mp (I.stkSub b z) with e | e
    · exact (hf b hb).2.1 e
    · exact (hf b hb).2.2.1 e
  funs := I.stack
  frf := I.stkFree
noncomputable def turnσ (own : List Str) (σ : St) : St := List.replicate own.length none ++ σ
theorem Inv.compIn {fp : List Addr} {h₁ : Heap} {t' : Nat} {C : Addr} (I : Inv X pins σ H s) (c : CmpOk X scope own) (hC : s.heap.objs.size ≤ C) (hf : ∀ b ∈ fp, FpOk X pins H b) (ho : ∀ b ∈ fp, ∃ o, s.heap.get? b = some o)
    (kp : ∀ b o, s.heap.get? b = some o → h₁.get? b = some o) (hn : h₁.Ns C (fun _ => none)) :
    Inv (cxComp X scope own fp (X.pn ++ pins) C s H) [] (turnσ own σ) H { s with heap := h₁, toks := t' } where
  ok := I.compOk c hC hf ho
  os := rfl
  bare := I.bare
  base := (Un.kept kp : Un (frs X.stack) [] H H s.heap h₁).mono (fun _ z => z) (fun _ z => nomatch z)
  loc := by
    obtain ⟨m, hm, hl⟩ := I.loc
    refine ⟨_, hn, fun i x v e1 e2 e3 => ?_⟩
    have e1 : (own ++ X.N.map (hide own))[i]? = some x := e1
    have e2 : (List.replicate own.length none ++ σ)[i]? = some (some v) := e2
    by_cases hi : i < own.length
    · rw [List.getElem?_append_left (by simpa using hi), List.getElem?_replicate, if_pos hi] at e2
      cases e2
    · have hi : own.length ≤ i := Nat.le_of_not_lt hi
      rw [List.getElem?_append_right (by simpa using hi), List.length_replicate] at e2
      rw [List.getElem?_append_right hi, List.getElem?_map] at e1
      cases e : X.N[i - own.length]? with
      | none => rw [e] at e1; cases e1
      | some y =>
        rw [e] at e1
        have e1 : hide own y = x := Option.some.inj e1
        have vis : scope.names.lookup x = some .free ∨ scope.names.lookup x = some .local := by
          rcases e3 with z | z | z
          · rcases c.kindOf (C := C) (cl := clOf scope.names X.env.cells []) z with z | z
            · exact .inr z
            · exact nomatch z.1
          · exact .inl (c.free_of (C := C) (cl := clOf scope.names X.env.cells []) (.inl z))
          · exact .inl (c.free_of (C := C) (cl := clOf scope.names X.env.cells []) (.inr z))
        have hxy : y = x ∧ ¬ y ∈ own := by
          unfold hide at e1
          by_cases hy : y ∈ own
          · rw [if_pos (by simpa using hy)] at e1
            have := c.hid y hy
            rw [e1] at this
            rcases vis with z | z
            · rw [this] at z; cases z
            · rw [this] at z; cases z
          · rw [if_neg (by simpa using hy)] at e1
            exact ⟨e1, hy⟩
        obtain ⟨rfl, hy⟩ := hxy
        rcases vis with z | z
        · have hk := c.free _ (PySem.mem_of_lookup z) rfl
          obtain ⟨u, ru, lk⟩ := hl _ y v e e2 (by
            rcases hk with q | q
            · exact .inr (.inl q)
            · exact .inr (.inr q))
          refine ⟨u, ru, .inr ?_⟩
          rcases lk with ⟨q, _⟩ | ⟨_, a, ha, hc⟩
          · rcases hk with q' | q'
            · exact nomatch (show some NameKind.local = some NameKind.cell from q.symm.trans q')
            · exact nomatch (show some NameKind.local = some NameKind.free from q.symm.trans q')
          · obtain ⟨a', ha'⟩ := clOf_has (cells := X.env.cells) scope.names [] (.inr (PySem.mem_of_lookup z))
            have e4 := c.sub I.ok ha'
            rw [ha] at e4
            obtain rfl : a = a' := Option.some.inj e4
            refine ⟨?_, a, ha', ?_⟩
            · rcases e3 with q | q | q
              · rcases c.kindOf (C := C) (cl := clOf scope.names X.env.cells []) q with q | q
                · rw [z] at q; cases q
                · exact nomatch q.1
              · exact .inl q
              · exact .inr q
            · obtain ⟨o, e, d⟩ := hc
              exact ⟨o, kp _ _ e, d⟩
        · exact absurd (c.rest y z (List.mem_of_getElem? e)) hy
  cell := fun x a h => by
    obtain ⟨v, z⟩ := I.cell x a (c.sub I.ok h)
    obtain ⟨o, e, d⟩ := z
    exact ⟨v, o, kp _ _ e, d⟩
  free := I.hok.fresh hC
  freeC := fun x a h => I.freeC x a (c.sub I.ok h)
  pin := fun p hp => by
    have hp : p ∈ (X.pn ++ pins) ++ [] := hp
    rw [List.append_nil] at hp
    obtain ⟨e, n, ne, nf, d⟩ := I.pin p hp
    refine ⟨kp _ _ e, n, Nat.ne_of_lt (Nat.lt_of_lt_of_le (Heap.lt_size e) hC), fun z => ?_, d⟩
    rcases List.mem_cons.mp (I.stkSub p.1 z) with q | q
    · exact ne q
    · exact nf q
  hok := I.hok.kept kp
  len := by
    show (List.replicate own.length none ++ σ).length = (own ++ X.N.map (hide own)).length
    rw [List.length_append, List.length_append, List.length_replicate, List.length_map, I.len]
end
end L2
namespace L2
open PySem PySem.Spec PyProof.Rows
section
variable {prog : Program} {w : World} {A : Around} {R : Result → Shared → Prop} {s : Shared}
theorem codeAny_compLoop_gen {elt target iter : Expr} {ifs : List Expr} {scope : Scope} {pos : Pos} {it acc : Value} {env : Env} (I : Nat → Shared → Prop)
    (turn : ∀ n s, I n s → wpAny (model prog w) A (pyNext it) (fun r s₁ => match r with
      | none => R (.ok .next) s₁
      | some v => wpAny (model prog w) A (letOwnedTupleGo target it v) (fun _ s₀ => wpAny (model prog w) A (assign target env v) (fun _ s₂ =>
          wpAny (model prog w) A (forIn ifs true fun c r => if r = true then do let ok ← isTrue c env (eval c env); pure (ForInStep.yield ok) else pure (ForInStep.yield r)) (fun ok s₃ =>
            if ok = true then wpAny (model prog w) A (eval elt env) (fun x s₄ =>
              wpAny (model prog w) A (call (.builtin "list.append") [acc, x]) (fun _ s₅ => ∃ m, m < n ∧ I m s₅) (fun _ _ => False) s₄) (fun _ _ => False) s₃
            else ∃ m, m < n ∧ I m s₃) (fun _ _ => False) s₂) (fun _ _ => False) s₀) (fun _ _ => False) s₁) (fun _ _ => False) s)
    (n : Nat) (h : I n s) :
    codeAny (model prog w) A (.compLoop (.ListComp elt [⟨target, iter, ifs, 0⟩] scope pos) 0 it acc env) R s := by
  refine codeAny_loop rfl I (fun n s hI => ?_) n h
  show wpAny _ A ((compTurn (.ListComp elt [⟨target, iter, ifs, 0⟩] scope pos) 0 it acc env).onRaise (fun x => do noteFrame x env; theTreesLotGoes x)) _ _ s
  refine wpAny_noted ?_
  rw [compTurn_list]
  refine wpAny_bind (wpAny_standAt (wpAny_bind (wpAny_mono (turn n s hI) (fun r s₁ h₁ => ?_) fun _ _ h' => h'.elim)))
  cases r with
  | none => exact wpAny_pure h₁
  | some v =>
    refine wpAny_bind (wpAny_mono h₁ (fun _ s₀ h₀ => ?_) fun _ _ h' => h'.elim)
    refine wpAny_bind (wpAny_mono h₀ (fun _ s₂ h₂ => wpAny_bind (wpAny_mono h₂ (fun ok s₃ h₃ => ?_) fun _ _ h' => h'.elim)) fun _ _ h' => h'.elim)
    cases ok with
    | false => exact wpAny_pure ⟨rfl, h₃⟩
    | true =>
      exact wpAny_bind (wpAny_bind (wpAny_mono h₃ (fun x s₄ h₄ => wpAny_bind (wpAny_mono h₄ (fun _ s₅ h₅ => wpAny_pure (wpAny_pure ⟨rfl, h₅⟩)) fun _ _ h' => h'.elim)) fun _ _ h' => h'.elim))
end
noncomputable def PIf (X : Cx) (ifs : List Expr) (t : TT) : Prop :=
  ∀ (pins : List (Addr × Obj)) (s : Shared) (σ : St) (H : Hp) (Q : Bool → Hp → Prop), Inv X pins σ H s → t σ H Q →
    wpAny (model X.prog X.w) X.A (forIn ifs true fun c r => if r = true then do let ok ← isTrue c X.env (eval c X.env); pure (ForInStep.yield ok) else pure (ForInStep.yield r)) (TP X pins σ Q) X.xe s
noncomputable def tYes : TT := fun _ H Q => Q true H
theorem pif_nil {X : Cx} : PIf X [] tYes := fun _ _ _ H _ I h => wpAny_tests_nil ⟨H, I, h⟩
theorem pif_one {X : Cx} {c : Expr} {t : TT} (h : PT X c t) : PIf X [c] t := fun pins s σ H Q I q => wpAny_tests_one (h pins s σ H Q I q)
noncomputable def lsto (its : List Value) (k : Nat) : Obj := { cls := .type "list", data := .seq its.toArray k }
section
variable {X : Cx} {scope : Scope} {own : List Str} {pins : List (Addr × Obj)} {σ σ' : St} {H H' : Hp} {s s' : Shared} {fp : List Addr} {C D : Addr} {its : List Value} {k : Nat} {ys : List V}
theorem Inv.compOut {h'' : Heap} (I : Inv X pins σ H s) (hf : ∀ b ∈ fp, FpOk X pins H b) (hD : s.heap.objs.size ≤ D) (hC : s.heap.objs.size ≤ C) (hDC : D ≠ C)
    (J : Inv (cxComp X scope own fp (X.pn ++ pins) C s H) [(D, lsto its k)] σ' H' s') (r : Vals ys its) (hz : ys.length ≤ sizeLine) (sb : Heap.SameBut C s'.heap h'') :
    Inv X pins σ (upd H' D (.lst ys)) { s' with heap := h'' } := by
  have pD := J.pin (D, lsto its k) (List.mem_append_right _ List.mem_cons_self)
  have ltD : ∀ b o, s.heap.get? b = some o → b ≠ D := fun b o e => Nat.ne_of_lt (Nat.lt_of_lt_of_le (Heap.lt_size e) hD)
  have ltC : ∀ b o, s.heap.get? b = some o → b ≠ C := fun b o e => Nat.ne_of_lt (Nat.lt_of_lt_of_le (Heap.lt_size e) hC)
  have trD : ∀ b o, H b = some o → b ≠ D := fun b o e => Nat.ne_of_lt (Nat.lt_of_lt_of_le (I.hok.lt e) hD)
  have hCn : H' C = none := J.free
  have hDn : H' D = none := pD.2.1
  have B : Un (frs X.stack) fp H H' s.heap s'.heap := J.base
  have U : Un (frs X.stack) fp H (upd H' D (.lst ys)) s.heap h'' :=
    ⟨fun b o e n hb hx => (sb.2 b (ltC b o e)).trans (B.keep b o e n hb hx), fun b o e n hb hx => by
        obtain ⟨sl, q⟩ := B.slot b o e n hb hx
        exact ⟨sl, (sb.2 b (ltC b o e)).trans q⟩,
      fun b o e n hx => by rw [upd_ne (ltD b o e)]; exact B.free b o e n hx,
      fun b o e hx => by
        obtain ⟨o', q⟩ := B.there b o e hx
        exact ⟨o', (sb.2 b (ltC b o e)).trans q⟩,
      fun b xs e => by rw [upd_ne (trD b _ e)]; exact B.tups b xs e,
      fun b o u e => by rw [upd_ne (trD b _ e)]; exact B.frzs b o u e,
      fun b ps e => by rw [upd_ne (trD b _ e)]; exact B.tbls b ps e⟩
  have hok : HOk X.prog X.w (upd H' D (.lst ys)) h'' := fun b u e => by
    by_cases hb : b = D
    · subst hb
      rw [upd_same] at e
      cases e
      exact ⟨hz, its, k, r, (sb.2 b hDC).trans pD.1⟩
    · rw [upd_ne hb] at e
      have nC : ∀ c v, H' c = some v → c ≠ C := fun c v q z => by rw [z, hCn] at q; cases q
      have nD : ∀ c v, H' c = some v → c ≠ D := fun c v q z => by rw [z, hDn] at q; cases q
      refine (J.hok b u e).stay (fun c v hc q => (sb.2 c ?_).trans q) (fun c q => by rw [upd_ne (nD c _ q)]; exact q) fun c xs q => by rw [upd_ne (nD c _ q)]; exact q
      rcases hc with z | z
      · rw [z]; exact nC b u e
      · exact nC c _ z
  exact I.call' (s' := { s' with heap := h'' }) (ch := fp) J.os U hok J.bare fun b hb => ⟨(hf b hb).2.2.2.1, (hf b hb).2.1, (hf b hb).2.2.2.2.1, (hf b hb).2.2.2.2.2⟩
end
noncomputable def CompW (J : It) (m : Nat) (g : TG) (tc : TT) (te : TE) (σ : St) (H1 : Hp) (Q : VK) : Prop := ∃ W : Nat → Nat → List V → Hp → Prop, (∃ n, W 0 n [] H1) ∧ ∀ i n ys H, W i n ys H →
  (J.stop i H ∧ ys.length ≤ sizeLine ∧ ∀ p, H p = none → Q (.ref p) (upd H p (.lst ys))) ∨
  (J.go i H ∧ ys.length < sizeLine ∧ ∃ N : List V → Hp → Prop, (∀ ys' H', N ys' H' → ∃ n', n' < n ∧ W (i + 1) n' ys' H') ∧ ∀ x H', J.yld i H x H' →
    g x (List.replicate m none ++ σ) H' fun σ2 H2 => σ2.drop m = σ ∧ tc σ2 H2 fun b H3 => if b = true then te σ2 H3 fun y H4 => N (ys ++ [y]) H4 else N ys H3)
noncomputable def tComp (m : Nat) (wi : TI) (g : TG) (tc : TT) (te : TE) : TE := fun σ H Q => wi σ H fun J H1 => CompW J m g tc te σ H1 Q
section
variable {X : Cx} {scope : Scope} {own : List Str} {tg iter elt : Expr} {ifs : List Expr} {g : TG} {tc : TT} {te : TE} {wi : TI} {pos : Pos}
theorem comp_block (hcal : X.calm = true) (c : CmpOk X scope own) (hg : ∀ ex pn C s₀ H₀, PG (cxComp X scope own ex pn C s₀ H₀) tg g) (ht : ∀ ex pn C s₀ H₀, PIf (cxComp X scope own ex pn C s₀ H₀) ifs tc)
    (he : ∀ ex pn C s₀ H₀, PE (cxComp X scope own ex pn C s₀ H₀) elt te) {pins : List (Addr × Obj)} {σ : St} {H : Hp} {s : Shared} {E : Value → Shared → Prop} {RR : Value → Addr → Result → Shared → Prop}
    {it : Addr} {fp : List Addr} {tn : Nat → Heap → Prop} {J : It} (I : Inv X pins σ H s) (T : Turn X.prog X.w X.K tg J fp it tn) (t0 : tn 0 s.heap) (hf : ∀ b ∈ fp, FpOk X pins H b) {Fin : List V → Hp → Prop}
    (W : Nat → Nat → List V → Hp → Prop) (w0 : ∃ n, W 0 n [] H) (turn : ∀ i n ys H, W i n ys H → (J.stop i H ∧ ys.length ≤ sizeLine ∧ Fin ys H) ∨
      (J.go i H ∧ ys.length < sizeLine ∧ ∃ N : List V → Hp → Prop, (∀ ys' H', N ys' H' → ∃ n', n' < n ∧ W (i + 1) n' ys' H') ∧ ∀ x H', J.yld i H x H' →
        g x (List.replicate own.length none ++ σ) H' fun σ2 H2 => σ2.drop own.length = σ ∧ tc σ2 H2 fun b H3 => if b = true then te σ2 H3 fun y H4 => N (ys ++ [y]) H4 else N ys H3))
    (hRR : ∀ D C s' ys H', s.heap.objs.size ≤ D → s.heap.objs.size ≤ C → D ≠ C → H' D = none → H' C = none → (∃ m, s'.heap.Ns C m) → (∀ h'', Heap.SameBut C s'.heap h'' → Inv X pins σ (upd H' D (.lst ys)) { s' with heap := h'' }) → Fin ys H' → RR (.ref D) C (.ok .next) s') :
    wpAny (model X.prog X.w) X.A (newList []) (fun acc s₃ => wpAny (model X.prog X.w) X.A (newFunctionEnv scope X.env.globals (clOf scope.names X.env.cells []) [] X.env.qual none .none (some X.env)) (fun cenv s₄ =>
      codeAny (model X.prog X.w) X.A (.compStart (.ListComp elt [⟨tg, iter, ifs, 0⟩] scope pos) 0 (.ref it) acc { cenv with scope := relabel scope X.env }) (RR acc cenv.locals) s₄) E s₃) E s := by
  refine wpAny_newObj_type (wpAny_newFunctionEnv c.nocell (by intro y hy; simp at hy) (fun h₁ hns₁ hsb₁ => ?_) c.kind)
  dsimp only at hns₁ hsb₁ ⊢
  generalize hH2 : s.heap.push { cls := .type "list", dict := none, data := .seq ([] : List Value).toArray } = H2 at hns₁ hsb₁ ⊢
  have hCs : H2.objs.size = s.heap.objs.size + 1 := by rw [← hH2, Heap.size_push]
  generalize hDd : s.heap.objs.size = D at hCs ⊢
  generalize hCd : H2.objs.size = C at hCs hns₁ hsb₁ ⊢
  have hDC : D ≠ C := by rw [hCs]; exact Nat.ne_of_lt (Nat.lt_succ_self _)
  have hD : s.heap.objs.size ≤ D := Nat.le_of_eq hDd
  have hC : s.heap.objs.size ≤ C := by rw [hDd, hCs]; exact Nat.le_succ _
  have lt2 : ∀ b o, s.heap.get? b = some o → b ≠ D ∧ b ≠ C := fun b o e => ⟨Nat.ne_of_lt (Nat.lt_of_lt_of_le (Heap.lt_size e) hD), Nat.ne_of_lt (Nat.lt_of_lt_of_le (Heap.lt_size e) hC)⟩
  have old : ∀ b o, s.heap.get? b = some o → h₁.get? b = some o := fun b o e => hsb₁.extBut b o (lt2 b o e).2 (Heap.get?_push_of_some _ (hH2 ▸ Heap.get?_push_of_some _ e))
  have hacc : h₁.get? D = some (lsto [] 0) := hsb₁.extBut _ _ hDC (Heap.get?_push_of_some _ (by rw [← hH2, ← hDd]; exact Heap.get?_push_size _ rfl))
  have ho : ∀ b ∈ fp, ∃ o, s.heap.get? b = some o := fun b hb => let ⟨o, e, _⟩ := T.obj 0 _ t0 b hb; ⟨o, e⟩
  have nfD : ∀ b ∈ fp, b ≠ D := fun b hb => let ⟨o, e⟩ := ho b hb; (lt2 b o e).1
  have hDn : H D = none := I.hok.fresh hD
  have I1 : Inv (cxComp X scope own fp (X.pn ++ pins) C s H) [(D, lsto [] 0)] (turnσ own σ) H { s with heap := h₁, toks := s.toks + ([] : List (Str × Value)).length } := by
    refine (I.compIn c hC hf ho old (by simpa using hns₁)).pins_of fun p hp => ?_
    have e : p = (D, lsto [] 0) := by simpa using hp
    subst e
    refine ⟨hacc, hDn, hDC, fun z => ?_, fun v z => by cases (show Data.seq _ _ = Data.cell v from z)⟩
    obtain ⟨_, o, e, _⟩ := (I.stack).mem (show D ∈ frs X.stack from z)
    exact (lt2 D o e).1 rfl
  have cellD : ∀ x a, (clOf scope.names X.env.cells []).lookup x = some a → a ≠ D := fun x a h => by
    obtain ⟨v, o, e, _⟩ := I.cell x a (c.sub I.ok h)
    exact (lt2 a o e).1
  have pinD : ∀ p ∈ X.pn ++ pins, p.1 ≠ D := fun p hp => (lt2 _ _ (I.pin p hp).1).1
  have stat : ∀ {H' : Hp} {its : List Value} {k : Nat}, (∀ b ∈ fp, H' b = none) → ∀ b ∈ fp, FpOk (cxComp X scope own fp (X.pn ++ pins) C s H) [(D, lsto its k)] H' b := fun {H' its k} hn b hb => by
    obtain ⟨o, e⟩ := ho b hb
    obtain ⟨f0, f1, f2, f3, f4, f5⟩ := hf b hb
    refine ⟨hn b hb, (lt2 b o e).2, fun z => ?_, .inl hb, fun x a h => f4 x a (c.sub I.ok h), fun p hp => ?_⟩
    · rcases List.mem_cons.mp (I.stkSub b z) with q | q
      · exact f1 q
      · exact f2 q
    · rcases List.mem_append.mp hp with q | q
      · exact f5 p q
      · have : p = (D, lsto its k) := by simpa using q
        subst this
        exact Ne.symm (nfD b hb)
  have weak : ∀ {σ' : St} {H' : Hp} {s' : Shared} {pp : List (Addr × Obj)}, Inv (cxComp X scope own fp (X.pn ++ pins) C s H) pp σ' H' s' → σ'.drop own.length = σ → Inv (cxComp X scope own fp (X.pn ++ pins) C s H) pp (turnσ own σ) H' s' := fun {σ' H' s' pp} I' hd => by
    have hl := I'.len
    have hl1 := I1.len
    refine I'.weak (hl1.trans hl.symm) fun i v e => ?_
    have e : (List.replicate own.length none ++ σ)[i]? = some (some v) := e
    by_cases hi : i < own.length
    · rw [List.getElem?_append_left (by simpa using hi), List.getElem?_replicate, if_pos hi] at e
      cases e
    · have hi : own.length ≤ i := Nat.le_of_not_lt hi
      rw [List.getElem?_append_right (by simpa using hi), List.length_replicate, ← hd, List.getElem?_drop] at e
      rw [show own.length + (i - own.length) = i by omega] at e
      exact e
  obtain ⟨n0, w0⟩ := w0
  have loop : ∀ s₃ : Shared, s₃ = { s with heap := h₁, toks := s.toks + ([] : List (Str × Value)).length } →
      codeAny (model X.prog X.w) X.A (.compLoop (.ListComp elt [⟨tg, iter, ifs, 0⟩] scope pos) 0 (.ref it) (.ref D) (compEnvC scope (clOf scope.names X.env.cells []) C X.env)) (RR (.ref D) C) s₃ := by
    rintro s₃ rfl
    refine codeAny_compLoop_gen (fun n s' => ∃ i σ' H' ys its k, Inv (cxComp X scope own fp (X.pn ++ pins) C s H) [(D, lsto its k)] σ' H' s' ∧ σ'.drop own.length = σ ∧ Vals ys its ∧ tn i s'.heap ∧ (∀ b ∈ fp, H' b = none) ∧ W i n ys H') ?_ n0
      ⟨0, _, H, [], [], 0, I1, by simp [turnσ], .nil, T.keep _ _ _ t0 fun b _ o e => old b o e, fun b hb => (hf b hb).1, w0⟩
    rintro n s3 ⟨i, σ3, H3, ys, its, k, I3, hd3, rv, st3, fr3, w3⟩
    have hlen := rv.length
    rcases turn i n ys H3 w3 with ⟨stop, hz, fin⟩ | ⟨go, hz, N, hN, step⟩
    · refine thn (T.done (cxComp X scope own fp (X.pn ++ pins) C s H) rfl rfl rfl hcal i _ s3 σ3 H3 _ I3 (stat fr3) st3 stop) fun r s4 zpat => ?_
      obtain ⟨hr, I4⟩ := zpat
      subst hr
      obtain ⟨m, hm, _⟩ := id I4.loc
      exact hRR D C s4 ys H3 hD hC hDC (I4.pin (D, lsto its k) (List.mem_append_right _ List.mem_cons_self)).2.1 I4.free ⟨m, hm⟩ (fun h'' sb => I.compOut hf hD hC hDC I4 rv hz sb) fin
    · refine thn (T.item (cxComp X scope own fp (X.pn ++ pins) C s H) rfl rfl rfl hcal i _ s3 σ3 H3 _ I3 (stat fr3) st3 go) fun r s4 zpat => ?_
      obtain ⟨u, hr, h4⟩ := zpat
      subst hr
      refine thn h4 fun _ s5 zpat => ?_
      obtain ⟨x, H5, I5, r5, y5, st5, fr5⟩ := zpat
      have I5' := weak (I5.pinned (stat fr5) (T.obj _ _ st5)) hd3
      refine thn (hg fp (X.pn ++ pins) C s H _ s5 _ H5 x u _ I5' r5 (step x H5 y5)) fun _ s6 zpat => ?_
      obtain ⟨σ6, H6, I6, hd6, q6⟩ := zpat
      refine thn (ht fp (X.pn ++ pins) C s H _ s6 σ6 H6 _ I6 q6) fun b s7 zpat => ?_
      obtain ⟨H7, I7, q7⟩ := zpat
      have tnk : ∀ {σ7 : St} {H7 : Hp} {s7 : Shared}, Inv (cxComp X scope own fp (X.pn ++ pins) C s H) ([(D, lsto its k)] ++ pinsAt fp s5.heap) σ7 H7 s7 → tn (i + 1) s7.heap ∧ ∀ b ∈ fp, H7 b = none := fun {σ7 H7 s7} I7 => by
        refine ⟨T.keep _ _ _ st5 fun b hb o e => (I7.pin (b, o) (List.mem_append_right _ (List.mem_append_right _ (mem_pinsAt hb e)))).1, fun b hb => ?_⟩
        obtain ⟨o, e, d⟩ := T.obj _ _ st5 b hb
        exact (I7.pin (b, o) (List.mem_append_right _ (List.mem_append_right _ (mem_pinsAt hb e)))).2.1
      cases b with
      | false =>
        rw [if_neg Bool.false_ne_true] at q7 ⊢
        obtain ⟨n', hn', w7⟩ := hN _ _ q7
        exact ⟨n', hn', i + 1, σ6, H7, ys, its, k, I7.unpinned, hd6, rv, (tnk I7).1, (tnk I7).2, w7⟩
      | true =>
        rw [if_pos rfl] at q7 ⊢
        refine thn (he fp (X.pn ++ pins) C s H _ s7 σ6 H7 _ I7 q7) fun u8 s8 zpat => ?_
        obtain ⟨y, H8, I8, r8, q8⟩ := zpat
        obtain ⟨n', hn', w8⟩ := hN _ _ q8
        have pD := I8.pin (D, lsto its k) (List.mem_append_right _ (List.mem_append_left _ List.mem_cons_self))
        refine append_at (hsz := by rw [List.size_toArray]; omega) pD.1 fun h9 sb9 hD9 => ?_
        have I8' : Inv (cxComp X scope own fp (X.pn ++ pins) C s H) [] σ6 H8 s8 := I8.pins_of fun p hp => absurd hp (by simp)
        have I9 : Inv (cxComp X scope own fp (X.pn ++ pins) C s H) [] σ6 H8 { s8 with heap := h9 } :=
          I8'.turned (it := D) (t' := s8.toks) (fun b o hb e => (sb9.2 b hb).trans e) pD.2.1 hDC (.inr hD) (fun x a h => cellD x a h) fun p hp => pinD p (by
            have hp : p ∈ (X.pn ++ pins) ++ [] := hp
            rwa [List.append_nil] at hp)
        have I10 : Inv (cxComp X scope own fp (X.pn ++ pins) C s H) [(D, lsto (its ++ [u8]) (k + 1))] σ6 H8 { s8 with heap := h9 } := I9.pins_of fun p hp => by
          have e : p = (D, lsto (its ++ [u8]) (k + 1)) := by simpa using hp
          subst e
          refine ⟨?_, pD.2.1, hDC, pD.2.2.2.1, fun v z => by cases (show Data.seq _ _ = Data.cell v from z)⟩
          rw [hD9, List.push_toArray]
          rfl
        exact ⟨n', hn', i + 1, σ6, H8, ys ++ [y], its ++ [u8], k + 1, I10, hd6, rv.append (.cons r8 .nil),
          T.keep _ _ _ (tnk I8).1 fun b hb o e => (sb9.2 b (nfD b hb)).trans e, (tnk I8).2, w8⟩
  exact codeAny_compStart_list (loop _ rfl) (T.self _ 0 _ _ _ (T.keep _ _ _ t0 fun b _ o e => old b o e) (loop _ rfl))
theorem pe_comp (hcal : X.calm = true) (hi : PI X tg iter wi) (hg : ∀ ex pn C s₀ H₀, PG (cxComp X scope own ex pn C s₀ H₀) tg g) (ht : ∀ ex pn C s₀ H₀, PIf (cxComp X scope own ex pn C s₀ H₀) ifs tc)
    (he : ∀ ex pn C s₀ H₀, PE (cxComp X scope own ex pn C s₀ H₀) elt te) (hk : scope.kind = .function := by rfl) (hch : cmpChk X.N own scope X.env = true := by rfl)
    (hs : ∀ x, foldedSetIterable iter X.env x = pure x := by intro _; rfl) : PE X (.ListComp elt [⟨tg, iter, ifs, 0⟩] scope pos) (tComp own.length wi g tc te) := by
  intro pins s σ H Q I h
  have c : CmpOk X scope own := cmpOk hk hch
  rw [eval_ListComp]
  refine wpAny_comprehension_free (use := none) rfl hs (closure_is (c.cells I.ok)) hk c.loc (thn (hi pins s σ H _ I h) fun v s1 h1 => thn h1 fun itv s2 h2 => ?_)
  obtain ⟨it, fp, tn, J, H2, e, I2, T, st2, f2, W, w0, turn⟩ := h2
  subst e
  refine comp_block (RR := fun acc C => compPost (model X.prog X.w) X.A X.xe none (EP X pins σ Q) acc C) hcal c hg ht he I2 T st2 f2 (Fin := fun ys H => ∀ p, H p = none → Q (.ref p) (upd H p (.lst ys))) W w0 turn ?_
  intro D C s' ys H' hD hC hDC hDn hCn ⟨m, hm⟩ inv fin
  exact ⟨m, hm, fun h'' sb => ⟨.ref D, _, inv h'' sb, rfl, fin D hDn⟩⟩
theorem ps_setcomp {i : Nat} {x : Str} {px spos : Pos} (hcal : X.calm = true) (hN : X.N.Nodup) (hx : X.N[i]? = some x) (hl : Loc X.env.scope x) (hi : PI X tg iter wi) (hg : ∀ ex pn C s₀ H₀, PG (cxComp X scope own ex pn C s₀ H₀) tg g)
    (ht : ∀ ex pn C s₀ H₀, PIf (cxComp X scope own ex pn C s₀ H₀) ifs tc)
    (he : ∀ ex pn C s₀ H₀, PE (cxComp X scope own ex pn C s₀ H₀) elt te) (hk : scope.kind = .function := by rfl) (hch : cmpChk X.N own scope X.env = true := by rfl)
    (hsw : swapsWith (.ListComp elt [⟨tg, iter, ifs, 0⟩] scope pos) (some (.Name x px)) spos.line X.env = pure true := by rfl)
    (hs : ∀ x, foldedSetIterable iter X.env x = pure x := by intro _; rfl) (hf : X.fn x = true ∨ X.env.scope.names.lookup x = some .local := by first | exact .inl rfl | exact .inr rfl | assumption) :
    PS X (.Assign [.Name x px] (.ListComp elt [⟨tg, iter, ifs, 0⟩] scope pos) spos) (tAsg (tComp own.length wi g tc te) (gName i)) := by
  intro pins s σ H D I h
  have c : CmpOk X scope own := cmpOk hk hch
  rw [exec_Assign_Name_used _ _ _ _ hsw]
  refine wpAny_bind (wpAny_standAt (wpAny_bind ?_))
  show wpAny _ X.A (do let _ ← comprehension (.ListComp elt [⟨tg, iter, ifs, 0⟩] scope pos) scope X.env _ (newList []) false (eval iter X.env) (some (assign (.Name x px) X.env))) _ _ s
  refine wpAny_bind (wpAny_mono (wpAny_comprehension_free (use := some (assign (.Name x px) X.env)) (Q := fun _ s' => SP X pins D .next s') rfl hs (closure_is (c.cells I.ok)) hk c.loc
    (thn (hi pins s σ H _ I h) fun v s1 h1 => thn h1 fun itv s2 h2 => ?_)) (fun _ s' hq => wpAny_pure (wpAny_pure hq)) fun _ _ e => e)
  obtain ⟨it, fp, tn, J, H2, e, I2, T, st2, f2, W, w0, turn⟩ := h2
  subst e
  refine comp_block (RR := fun acc C => compPost (model X.prog X.w) X.A X.xe (some (assign (.Name x px) X.env)) (fun _ s' => SP X pins D .next s') acc C) hcal c hg ht he I2 T st2 f2
    (Fin := fun ys H => ∀ p, H p = none → gName i (.ref p) σ (upd H p (.lst ys)) D.nx) W w0 turn ?_
  intro L C s' ys H' hL hC hLC hLn hCn ⟨m, hm⟩ inv fin
  show wpAny _ X.A (assign (.Name x px) X.env (.ref L)) _ _ s'
  have I3 : Inv X pins σ (upd H' L (.lst ys)) s' := inv s'.heap (.refl _ _)
  have lt2 : ∀ b o, s2.heap.get? b = some o → b ≠ C := fun b o e => Nat.ne_of_lt (Nat.lt_of_lt_of_le (Heap.lt_size e) hC)
  have hCL : C ≠ X.env.locals := by
    obtain ⟨m', ⟨o, _, _, e, _⟩, _⟩ := I2.loc
    exact Ne.symm (lt2 _ o e)
  have hCc : ∀ y a, X.env.cells.lookup y = some a → a ≠ C := fun y a e => by
    obtain ⟨v, o, e', _⟩ := I2.cell y a e
    exact lt2 a o e'
  refine wpAny_assign_Name (store_ok2 I3 hN hx hl (v := .ref L) rfl (fun s4 I4 sb4 => ?_) hf)
  obtain ⟨a, sb, ha⟩ := sb4
  have haC : C ≠ a := by
    rcases ha with z | z
    · rw [z]; exact hCL
    · exact Ne.symm (hCc x a z)
  refine ⟨m, hm.sameBut sb haC, fun h'' sb'' => ⟨_, _, I4.turned (it := C) (t' := s4.toks) (fun b o hb e => (sb''.2 b hb).trans e) ?_ hCL (.inr (Nat.le_trans I2.sz hC)) hCc fun p hp => lt2 _ _ (I2.pin p hp).1, fin L hLn⟩⟩
  rw [upd_ne (Ne.symm hLC)]
  exact hCn
end
end L2
namespace L2
open PySem PySem.Spec PyProof.Rows
noncomputable def Ite (K : PySem.W.Frag) (a : Addr) : It :=
  ⟨fun i H => ∃ xs x, SqL K H a xs ∧ xs[i]? = some x, fun i H x H' => ∃ t v, x = .ref t ∧ H t = none ∧ (∀ xs, SqL K H a xs → xs[i]? = some v) ∧ H' = upd H t (.tup [.int i, v]), fun i H => ∃ xs, SqL K H a xs ∧ xs.length ≤ i⟩
theorem turn_enum {P : Program} {w : World} {K : PySem.W.Frag} {elts : List Expr} {k : Nat} {pos : Pos} (a e it : Addr) (hei : e ≠ it) : Turn P w K (.Tuple elts k pos) (Ite K a) [e, it] e (fun i h => (∃ old, IsEnum h e it i old) ∧ h.IsListIter it a i) where
  mem := by simp
  obj := fun i h st b hb => by
    obtain ⟨⟨old, he⟩, hit⟩ := st
    have hb : b = e ∨ b = it := by simpa using hb
    rcases hb with rfl | rfl
    · exact ⟨_, he, fun v z => by cases (show Data.fields _ = Data.cell v from z)⟩
    · obtain ⟨o, e, c, d⟩ := hit
      exact ⟨o, e, fun v z => by rw [d] at z; cases z⟩
  keep := fun i h h' st kp => by
    obtain ⟨⟨old, he⟩, hit⟩ := st
    exact ⟨⟨old, kp e (by simp) _ he⟩, hit.at fun o q => kp it (by simp) o q⟩
  item := by
    intro X hP hw hK hc i pins s σ H E I hf st hg
    subst hP hw hK
    obtain ⟨xs, x, hq, hx⟩ := hg
    obtain ⟨⟨old, he⟩, hit⟩ := st
    obtain ⟨its, rv, p, hz⟩ := I.list hq
    obtain ⟨u, hu, ru⟩ := rv.get hx
    obtain ⟨f0, f1, f2, f3, f4, f5⟩ := hf e (by simp)
    obtain ⟨g0, g1, g2, g3, g4, g5⟩ := hf it (by simp)
    have hel : e < s.heap.objs.size := Heap.lt_size he
    have hil : it < s.heap.objs.size := by obtain ⟨_, x, _⟩ := hit; exact Heap.lt_size x
    refine wpAny_pyNext_enum_item he hit p.isList (x := u) (by simpa using hu) hei fun h1 ho hit1 hT hsz kp => ?_
    refine ⟨_, rfl, wpAny_letOwnedTupleGo_enum ho fun h2 he2 sb2 => ?_⟩
    have sb2 : Heap.SameBut e h1 h2 := sb2
    have kp2 : ∀ b o, b ≠ e → b ≠ it → s.heap.get? b = some o → h2.get? b = some o := fun b o h1 h2 q => (sb2.2 b h1).trans (kp b o h1 h2 q)
    have hT2 : h2.get? s.heap.objs.size = some { cls := .type "tuple", data := .seq #[.int i s.toks, u] } := (sb2.2 _ (Nat.ne_of_gt hel)).trans hT
    have hit2 : h2.IsListIter it a (i + 1) := hit1.at fun o q => (sb2.2 it hei.symm).trans q
    have hn : H s.heap.objs.size = none := I.hok.fresh (Nat.le_refl _)
    have nf : ∀ b u, H b = some u → b ≠ e ∧ b ≠ it := fun b u q => ⟨fun z => (by rw [z, f0] at q; cases q), fun z => (by rw [z, g0] at q; cases q)⟩
    have I2 : Inv X pins σ (upd H s.heap.objs.size (.tup [.int i, x])) { s with heap := h2, toks := s.toks + 1 } := by
      refine I.step (g' := s.gens) (d' := s.drawn) (t' := s.toks + 1) (ch := [e, it]) (fun b hb => ?_) (fun b o _ _ hc q _ => kp2 b o (fun z => hc (by simp [z])) (fun z => hc (by simp [z])) q)
        (fun b o _ _ hc q _ => ⟨o.slots, kp2 b o (fun z => hc (by simp [z])) (fun z => hc (by simp [z])) q⟩) (fun b o hc q n => ?_) (fun b o hc q => ⟨o, kp2 b o (fun z => hc (by simp [z])) (fun z => hc (by simp [z])) q⟩)
        (fun b xs q => ?_) (fun b o u q => ?_) (fun b ps q => ⟨#[], ?_⟩) (fun m hm => ?_) (fun b u' q => ?_) I.bare
      · have hb : b = e ∨ b = it := by simpa using hb
        rcases hb with rfl | rfl
        · exact ⟨f3, f1, f4, f5⟩
        · exact ⟨g3, g1, g4, g5⟩
      · rw [upd_ne (Nat.ne_of_lt (Heap.lt_size q))]; exact n
      · rw [upd_ne (ne_of_none q hn)]; exact q
      · rw [upd_ne (ne_of_none q hn)]; exact q
      · rw [upd_ne (ne_of_none q hn), q]; simp
      · obtain ⟨o, es, ep, q, r⟩ := hm
        exact ⟨o, es, ep, kp2 _ o (Ne.symm f1) (Ne.symm g1) q, r⟩
      · by_cases hb : b = s.heap.objs.size
        · subst hb
          rw [upd_same] at q
          cases q
          have hl2 : ([V.int i, x] : List V).length ≤ sizeLine := by show 2 ≤ sizeLine; decide
          exact ⟨hl2, [.int i s.toks, u], .cons ⟨_, rfl⟩ (.cons ru .nil), ⟨_, hT2, rfl, _, rfl⟩⟩
        · rw [upd_ne hb] at q
          refine (I.hok b u' q).stay (fun c v hc' z => kp2 c v ?_ ?_ z) (fun c z => by rw [upd_ne (ne_of_none z hn)]; exact z) fun c ys z => by rw [upd_ne (ne_of_none z hn)]; exact z
          · rcases hc' with z | z
            · rw [z]; exact (nf b u' q).1
            · exact (nf c _ z).1
          · rcases hc' with z | z
            · rw [z]; exact (nf b u' q).2
            · exact (nf c _ z).2
    refine ⟨.ref s.heap.objs.size, _, I2, rfl, ⟨_, x, rfl, hn, fun ys hy => by rw [I.list_inj hy hq]; exact hx, rfl⟩, ⟨⟨_, by simpa using he2⟩, hit2⟩, fun b hb => ?_⟩
    have hb : b = e ∨ b = it := by simpa using hb
    rcases hb with rfl | rfl
    · rw [upd_ne (Nat.ne_of_lt hel)]; exact f0
    · rw [upd_ne (Nat.ne_of_lt hil)]; exact g0
  done := by
    intro X hP hw hK hc i pins s σ H E I hf st hg
    subst hP hw hK
    obtain ⟨xs, hq, hx⟩ := hg
    obtain ⟨⟨old, he⟩, hit⟩ := st
    obtain ⟨its, rv, p, hz⟩ := I.list hq
    obtain ⟨g0, g1, g2, g3, g4, g5⟩ := hf it (by simp)
    have hl := rv.length
    exact wpAny_pyNext_enum_end (I.ok.hd hc) he hit p.isList (by simp; omega) fun h' eb => ⟨rfl, I.turned (t' := s.toks) (fun b o hb q => eb b o hb q) g0 g1 g3 g4 g5⟩
  self := fun A i s Q E st h => by
    obtain ⟨⟨old, he⟩, _⟩ := st
    exact wpAny_pyIter_enum he h
section
variable {X : Cx}
noncomputable def iEnum (K : PySem.W.Frag) (ta : TA) : TI := fun σ H R => ta σ H fun vs H1 => ∃ a, vs = [.ref a] ∧ (∃ xs, SqL K H1 a xs) ∧ R (Ite K a) H1
theorem pi_enum {a : Expr} {ta : TA} {p pos tpos : Pos} {elts : List Expr} {k : Nat} (hg : Gl X "enumerate") (hm : X.mg "enumerate" = none) (ha : PA X [a] ta) (hs : starEach [a] X.env = [(false, eval a X.env)] := by rfl) :
    PI X (.Tuple elts k tpos) (.Call (.Name "enumerate" p) [a] [] pos) (iEnum X.K ta) := by
  intro pins s σ H R I h
  refine Call_ (ld_blt I hg hm boot_enumerate (PyProof.Rows.callWith_type1 (thn (ha pos pins s σ H _ I h) fun us s1 zpat => ?_) hs rfl))
  obtain ⟨vs, H1, I1, r1, q1⟩ := zpat
  obtain ⟨a, e, ⟨xs, hq⟩, q⟩ := q1
  subst e
  cases r1 with
  | cons r rr =>
    cases rr
    cases r
    obtain ⟨its, rv, pl, hz⟩ := I1.list hq
    refine call_enumerate_list pl.isList fun h' he hit hsz kp => ?_
    have I2 : Inv X pins σ H1 { s1 with heap := h' } := I1.kept (t' := s1.toks) kp
    refine wpAny_pyIter_enum he ?_
    refine ⟨s1.heap.objs.size + 1, [s1.heap.objs.size + 1, s1.heap.objs.size], _, _, H1, rfl, I2, turn_enum a _ _ (Nat.ne_of_gt (Nat.lt_succ_self _)), ⟨⟨_, by simpa using he⟩, hit⟩, fun b hb => ?_, q⟩
    have hb : b = s1.heap.objs.size + 1 ∨ b = s1.heap.objs.size := by simpa using hb
    have hle : s1.heap.objs.size ≤ b := by
      rcases hb with z | z
      · rw [z]; exact Nat.le_succ _
      · rw [z]; exact Nat.le_refl _
    have F1 := I1.fpOk hle (I1.hok.fresh hle)
    exact F1
end
theorem for_enum {K : PySem.W.Frag} {a : Addr} {xs : List V} {g : TG} {tb : TS} {D : Ends} {σ : St} {H : Hp} (Pv : Nat → St → Hp → Prop) (h0 : Pv 0 σ H) (hl : ∀ i σ H, i ≤ xs.length → Pv i σ H → SqL K H a xs)
    (hs : ∀ i x σ H t, xs[i]? = some x → Pv i σ H → H t = none → g (.ref t) σ (upd H t (.tup [.int i, x])) fun σ2 H2 => tb { D with nx := Pv (i + 1), ct := Pv (i + 1), bk := D.nx } σ2 H2) (hd : ∀ σ H, Pv xs.length σ H → D.nx σ H) :
    ∃ W : Nat → Nat → St → Hp → Prop, (∃ m, W 0 m σ H) ∧ ∀ i m σ H, W i m σ H →
      ((Ite K a).stop i H ∧ D.nx σ H) ∨ ((Ite K a).go i H ∧ ∃ N : St → Hp → Prop, (∀ σ' H', N σ' H' → ∃ m', m' < m ∧ W (i + 1) m' σ' H') ∧ ∀ x H', (Ite K a).yld i H x H' → g x σ H' fun σ2 H2 => tb { D with nx := N, ct := N, bk := D.nx } σ2 H2) := by
  refine ⟨fun i m σ H => m = xs.length - i ∧ i ≤ xs.length ∧ Pv i σ H, ⟨xs.length, by simp, Nat.zero_le _, h0⟩, ?_⟩
  rintro i m σ H ⟨rfl, hi, p⟩
  have q := hl i σ H hi p
  by_cases hlt : i < xs.length
  · refine .inr ⟨⟨xs, xs[i], q, by simp [hlt]⟩, Pv (i + 1), fun σ' H' p' => ⟨xs.length - (i + 1), by omega, rfl, hlt, p'⟩, fun x H' y => ?_⟩
    obtain ⟨t, v, rfl, hn, hv, rfl⟩ := y
    exact hs i v σ H t (hv xs q) p hn
  · have e : i = xs.length := by omega
    subst e
    exact .inl ⟨⟨xs, q, Nat.le_refl _⟩, hd σ H p⟩
end L2
namespace L2
open PySem PySem.Spec PyProof.Rows
section
variable {X : Cx}
noncomputable def valOf : V → Option Value
  | .ty n => some (.type n)
  | .ref a => some (.ref a)
  | _ => none
theorem call_isi : CallR X (.builtin "isinstance") (fun xs H Q => ∃ x c cv t b, xs = [x, c] ∧ valOf c = some cv ∧ TyOf X.K H x t ∧ PySem.W.kitOne X.K t cv = some b ∧ Q (.bl b) H) := by
  intro pins s σ H xs us Q I r h
  obtain ⟨x, c, cv, t, b, rfl, hc, ty, e, q⟩ := h
  obtain ⟨u, u2, rfl, rx, rc⟩ := vals2 r
  have ec : u2 = cv := by
    cases c with
    | ty n => cases rc; exact Option.some.inj hc
    | ref a => cases rc; exact Option.some.inj hc
    | _ => cases hc
  subst ec
  exact isinst_ok I rx ty e fun tk => ⟨.bl b, H, I.tok _, rfl, q⟩
noncomputable def eqVs : List V → List V → Bool
  | [], [] => true
  | x :: xs, y :: ys => eqV x y && eqVs xs ys
  | _, _ => false
theorem eqVs_len : ∀ {xs ys : List V}, eqVs xs ys = true → xs.length = ys.length
  | [], [], _ => rfl
  | _ :: xs, _ :: ys, h => by
    rw [eqVs, Bool.and_eq_true] at h
    rw [List.length_cons, List.length_cons, eqVs_len h.2]
  | [], _ :: _, h => nomatch h
  | _ :: _, [], h => nomatch h
theorem eqVs_range : ∀ {xs ys : List V}, xs.length = ys.length → (List.range xs.length).all (fun j => eqV (xs.getD j .non) (ys.getD j .non)) = eqVs xs ys
  | [], [], _ => rfl
  | x :: xs, y :: ys, h => by
    have h' : xs.length = ys.length := by simpa using h
    rw [List.length_cons, List.range_succ_eq_map, List.all_cons, List.all_map, eqVs, ← eqVs_range h']
    rfl
  | [], _ :: _, h => nomatch h
  | _ :: _, [], h => nomatch h
theorem eqVs_ints : ∀ (ns ms : List Int), eqVs (ns.map V.int) (ms.map V.int) = decide (ns = ms)
  | [], [] => rfl
  | n :: ns, m :: ms => by
    rw [List.map_cons, List.map_cons, eqVs, eqVs_ints ns ms]
    show ((n == m) && decide (ns = ms)) = decide (n :: ns = m :: ms)
    by_cases h1 : n = m <;> by_cases h2 : ns = ms <;> simp [h1, h2]
  | [], _ :: _ => rfl
  | _ :: _, [] => rfl
theorem getD_lt {α : Type} {xs : List α} {j : Nat} {d : α} (h : j < xs.length) : xs.getD j d = xs[j] := by
  rw [List.getD_eq_getElem?_getD, List.getElem?_eq_getElem h]; rfl
theorem getD_ge {α : Type} {xs : List α} {j : Nat} {d : α} (h : xs.length ≤ j) : xs.getD j d = d := by
  rw [List.getD_eq_getElem?_getD, List.getElem?_eq_none h]; rfl
theorem eqAt_list {A : Around} {s : Shared} {xs ys : List V} {us ws : List Value} (r : Vals xs us) (q : Vals ys ws) (fx : xs.all flatV = true) (fy : ys.all flatV = true) (j : Nat) (h1 : j < us.toArray.size) (h2 : j < ws.toArray.size) :
    SeqAt.EqAt A s us.toArray[j] ws.toArray[j] (eqV (xs.getD j .non) (ys.getD j .non)) := by
  have l1 : j < xs.length := by rw [r.length]; simpa using h1
  have l2 : j < ys.length := by rw [q.length]; simpa using h2
  obtain ⟨u, eu, ru⟩ := r.get (List.getElem?_eq_getElem l1)
  obtain ⟨w, ew, rw'⟩ := q.get (List.getElem?_eq_getElem l2)
  have e1 : us.toArray[j] = u := by
    have : us[j]? = some u := eu
    rw [List.getElem?_eq_getElem (by simpa using h1)] at this
    simpa using Option.some.inj this
  have e2 : ws.toArray[j] = w := by
    have : ws[j]? = some w := ew
    rw [List.getElem?_eq_getElem (by simpa using h2)] at this
    simpa using Option.some.inj this
  rw [e1, e2, getD_lt l1, getD_lt l2]
  exact eqAt_V ru rw' (List.all_eq_true.mp fx _ (List.getElem_mem l1)) (List.all_eq_true.mp fy _ (List.getElem_mem l2))
inductive IEqL (K : PySem.W.Frag) (neg : Bool) (x y : V) (H : Hp) (Q : VK) : Prop where
  | mk (p q : Addr) (xs ys : List V) (ex : x = .ref p) (ey : y = .ref q) (sx : SqL K H p xs) (sy : SqL K H q ys) (fx : xs.all flatV = true) (fy : ys.all flatV = true) (k : Q (.bl (if neg then !eqVs xs ys else eqVs xs ys)) H) : IEqL K neg x y H Q
noncomputable def rEqL (K : PySem.W.Frag) (neg : Bool) : R2 := fun x y H Q => IEqL K neg x y H Q
theorem op_neL (hu : X.A.units < cLine) : OpR X (compareOp .NotEq) (rEqL X.K true) := by
  intro pins s σ H x y v u Q I rx ry h
  obtain ⟨p, q, xs, ys, rfl, rfl, hx, hy, fx, fy, k⟩ := h
  cases rx
  cases ry
  obtain ⟨us, r, pl, hz⟩ := I.list hx
  obtain ⟨ws, r', pl', hz'⟩ := I.list hy
  have l1 := r.length
  have l2 := r'.length
  by_cases hl : xs.length = ys.length
  · have hsz : us.toArray.size = ws.toArray.size := by rw [List.size_toArray, List.size_toArray]; omega
    refine SeqAt.RcNeAt.lists pl.isList pl'.isList hsz hu (fun j h1 h2 => eqAt_list r r' fx fy j h1 h2) _ _ _ _ ⟨.bl _, H, I, rfl, ?_⟩
    rw [List.size_toArray, ← l1, eqVs_range hl]
    exact k
  · refine SeqAt.RcNeAt.lists_lengths pl.isList pl'.isList (by rw [List.size_toArray, List.size_toArray]; simpa using (by omega : us.length ≠ ws.length)) hu _ _ _ _ ⟨.bl _, H, I, rfl, ?_⟩
    have e : eqVs xs ys = false := by
      cases e : eqVs xs ys with
      | false => rfl
      | true => exact absurd (eqVs_len e) hl
    rw [e] at k
    exact k
theorem pe_ty {x : Str} {n : String} {pos : Pos} (hg : Gl X x) (hm : X.mg x = none) (hv : bootBuiltins x = some (.type n)) (hn : x ≠ "__name__" := by decide) (hd : (x == ("__debug__" : Str)) = false := by decide) : PE X (.Name x pos) (tC (.ty n)) :=
  pe_bltn hg hm hv (v := .ty n) rfl hn hd
end
section
variable {K : PySem.W.Frag} {m : Nat} {g : TG} {tc : TT} {te : TE} {σ : St} {H : Hp} {Q : VK}
theorem comp_list {a : Addr} {xs : List V} (Pv : Nat → List V → Hp → Prop) (hz : xs.length < sizeLine) (h0 : Pv 0 [] H) (hlen : ∀ i ys H, i ≤ xs.length → Pv i ys H → ys.length ≤ i) (hl : ∀ i ys H, i ≤ xs.length → Pv i ys H → SqL K H a xs)
    (hs : ∀ i x ys H, xs[i]? = some x → Pv i ys H → g x (List.replicate m none ++ σ) H fun σ2 H2 => σ2.drop m = σ ∧ tc σ2 H2 fun b H3 => if b = true then te σ2 H3 fun y H4 => Pv (i + 1) (ys ++ [y]) H4 else Pv (i + 1) ys H3)
    (hd : ∀ ys H, Pv xs.length ys H → ∀ p, H p = none → Q (.ref p) (upd H p (.lst ys))) : CompW (Itl K a) m g tc te σ H Q := by
  refine ⟨fun i n ys H => n = xs.length - i ∧ i ≤ xs.length ∧ Pv i ys H, ⟨xs.length, by simp, Nat.zero_le _, h0⟩, ?_⟩
  rintro i n ys H ⟨rfl, hi, p⟩
  have q := hl i ys H hi p
  have hy := hlen i ys H hi p
  by_cases hlt : i < xs.length
  · refine .inr ⟨⟨xs, xs[i], q, by simp [hlt]⟩, by omega, Pv (i + 1), fun ys' H' p' => ⟨xs.length - (i + 1), by omega, rfl, hlt, p'⟩, fun x H' y => ?_⟩
    obtain ⟨e, y⟩ := y
    subst e
    exact hs i x ys _ (y xs q) p
  · have e : i = xs.length := by omega
    subst e
    exact .inl ⟨⟨xs, q, Nat.le_refl _⟩, by omega, hd ys H p⟩
theorem comp_range {lo : Int} {k : Nat} (Pv : Nat → List V → Hp → Prop) (hz : k < sizeLine) (h0 : Pv 0 [] H) (hlen : ∀ i ys H, i ≤ k → Pv i ys H → ys.length ≤ i)
    (hs : ∀ i ys H, i < k → Pv i ys H → g (.int (lo + i)) (List.replicate m none ++ σ) H fun σ2 H2 => σ2.drop m = σ ∧ tc σ2 H2 fun b H3 => if b = true then te σ2 H3 fun y H4 => Pv (i + 1) (ys ++ [y]) H4 else Pv (i + 1) ys H3)
    (hd : ∀ ys H, Pv k ys H → ∀ p, H p = none → Q (.ref p) (upd H p (.lst ys))) : CompW (Itr lo k) m g tc te σ H Q := by
  refine ⟨fun i n ys H => n = k - i ∧ i ≤ k ∧ Pv i ys H, ⟨k, by simp, Nat.zero_le _, h0⟩, ?_⟩
  rintro i n ys H ⟨rfl, hi, p⟩
  have hy := hlen i ys H hi p
  by_cases hlt : i < k
  · refine .inr ⟨hlt, by omega, Pv (i + 1), fun ys' H' p' => ⟨k - (i + 1), by omega, rfl, hlt, p'⟩, fun x H' y => ?_⟩
    obtain ⟨e, y⟩ := y
    subst e y
    exact hs i ys _ hlt p
  · have e : i = k := by omega
    subst e
    exact .inl ⟨Nat.le_refl _, by omega, hd ys H p⟩
theorem comp_enum {a : Addr} {xs : List V} (Pv : Nat → List V → Hp → Prop) (hz : xs.length < sizeLine) (h0 : Pv 0 [] H) (hlen : ∀ i ys H, i ≤ xs.length → Pv i ys H → ys.length ≤ i) (hl : ∀ i ys H, i ≤ xs.length → Pv i ys H → SqL K H a xs)
    (hs : ∀ i x ys H t, xs[i]? = some x → Pv i ys H → H t = none → g (.ref t) (List.replicate m none ++ σ) (upd H t (.tup [.int i, x])) fun σ2 H2 => σ2.drop m = σ ∧ tc σ2 H2 fun b H3 => if b = true then te σ2 H3 fun y H4 => Pv (i + 1) (ys ++ [y]) H4 else Pv (i + 1) ys H3)
    (hd : ∀ ys H, Pv xs.length ys H → ∀ p, H p = none → Q (.ref p) (upd H p (.lst ys))) : CompW (Ite K a) m g tc te σ H Q := by
  refine ⟨fun i n ys H => n = xs.length - i ∧ i ≤ xs.length ∧ Pv i ys H, ⟨xs.length, by simp, Nat.zero_le _, h0⟩, ?_⟩
  rintro i n ys H ⟨rfl, hi, p⟩
  have q := hl i ys H hi p
  have hy := hlen i ys H hi p
  by_cases hlt : i < xs.length
  · refine .inr ⟨⟨xs, xs[i], q, by simp [hlt]⟩, by omega, Pv (i + 1), fun ys' H' p' => ⟨xs.length - (i + 1), by omega, rfl, hlt, p'⟩, fun x H' y => ?_⟩
    obtain ⟨t, v, rfl, hn, hv, rfl⟩ := y
    exact hs i v ys H t (hv xs q) p hn
  · have e : i = xs.length := by omega
    subst e
    exact .inl ⟨⟨xs, q, Nat.le_refl _⟩, by omega, hd ys H p⟩
end
end L2
namespace L2
open PySem PySem.Spec PyProof.Rows
section
variable {X : Cx} {K : PySem.W.Frag}
theorem op_inK (h : X.K = K) : OpR X (compareOp .In) (rIn K false) := h ▸ op_in_seq
theorem ix_listK (h : X.K = K) : IxR X (rIxL K) := h ▸ ix_list
theorem ix_tupK (h : X.K = K) : IxR X (rIxT K) := h ▸ ix_tup
theorem len_seqK (h : X.K = K) : CallR X (.builtin "len") (fun xs H Q => ∃ p ys, xs = [.ref p] ∧ (SqL K H p ys ∨ SqT K H p ys) ∧ Q (.int ys.length) H) := h ▸ call_len_seq
theorem list_ofK (h : X.K = K) : CallR X (.type "list") (fun xs H Q => ∃ p ys, xs = [.ref p] ∧ (SqL K H p ys ∨ SqT K H p ys) ∧ ∀ l, H l = none → Q (.ref l) (upd H l (.lst ys))) := h ▸ call_list_of
theorem sl_listK (h : X.K = K) : SlR X (rSlL K) := h ▸ sl_list
theorem isiK (h : X.K = K) : CallR X (.builtin "isinstance") (fun xs H Q => ∃ x c cv t b, xs = [x, c] ∧ valOf c = some cv ∧ TyOf K H x t ∧ PySem.W.kitOne K t cv = some b ∧ Q (.bl b) H) := h ▸ call_isi
theorem op_neLK (h : X.K = K) (hu : X.A.units < cLine) : OpR X (compareOp .NotEq) (rEqL K true) := h ▸ op_neL hu
theorem pi_listK {tg l : Expr} {tl : TE} (h : X.K = K) (hl : PE X l tl) : PI X tg l (iList K tl) := h ▸ pi_list hl
theorem pi_enumK {a : Expr} {ta : TA} {p pos tpos : Pos} {elts : List Expr} {k : Nat} (h : X.K = K) (hg : Gl X "enumerate") (hm : X.mg "enumerate" = none) (ha : PA X [a] ta) (hs : starEach [a] X.env = [(false, eval a X.env)] := by rfl) :
    PI X (.Tuple elts k tpos) (.Call (.Name "enumerate" p) [a] [] pos) (iEnum K ta) := h ▸ pi_enum hg hm ha hs
theorem pg_tupK {pos : Pos} {es : List Expr} {k : Nat} {t : TGs} {n : Nat} (hK : X.K = K) (hc : X.calm = true) (h : PGs X es t)
    (hn : (assignEach es X.env).length = n := by rfl) (hst : (assignEach es X.env).findIdx? (·.1) = none := by rfl) : PG X (.Tuple es k pos) (gTup K n t) := hK ▸ pg_tup hc h hn hst
variable {o e : Expr} {es : List Expr} {to : TE} {t : TA} {name : Str} {apos cpos : Pos} {T id : String} {r : V → List V → Hp → VK → Prop}
theorem pe_bmK (hK : X.K = K) (pa : PlainAttrs T) (slot : Slot T name id) (hty : typeOf (.builtin id) = pure (.type "method_descriptor")) (hm : MtR X id r) (ho : PE X o to) (ha : PA X (e :: es) t)
    (hbase : attributeBase o name X.env (eval o X.env) = eval o X.env := by rfl)
    (hfew : ((backTo cpos (starEach (e :: es) X.env)).all (fun x => !x.1) && (backToKw cpos (keywordEach [] X.env)).all (fun x => x.1.isSome)
      && decide ((e :: es).length + ([] : List Keyword).length + (if ([] : List Keyword).isEmpty then 0 else 1) < 30)) = true := by rfl)
    (hline : (apos.endLine == cpos.line) = true := by rfl) (hs : starEach (e :: es) X.env = (false, eval e X.env) :: starEach es X.env := by rfl) (hplain : (backTo cpos (starEach es X.env)).any (·.1) = false := by rfl) :
    PE X (.Call (.Attribute o name apos) (e :: es) [] cpos) (tBM K T r to t) := hK ▸ pe_bm pa slot hty hm ho ha hbase hfew hline hs hplain
end
end L2
namespace L2
open PySem PySem.Spec PySem.W PySem.Calls PyProof.Rows Builtin Builtin.ObjectAttr
theorem bga_kind : builtinKind "BaseException.__getattribute__" = some .slot := by decide +kernel
theorem bga_split : splitId "BaseException.__getattribute__" = some ("BaseException", "__getattribute__") := by decide +kernel
theorem bga_slot : Slot "ValueError" "__getattribute__" "BaseException.__getattribute__" :=
  Slot.of (owner := "BaseException") (n := "__getattribute__") (by rw [typeLookup_type, builtinLookup_eq_fast]; kernel_rfl) (by decide +kernel) (by decide +kernel) (by decide +kernel) (.inl (by decide +kernel)) (by rw [isSubtype_type]; kernel_rfl)
theorem check_bga {M : Model} {A : Around} {E : Value → Shared → Prop} {s : Shared} {x : Value} {nameV : Value} {Q : Unit → Shared → Prop} (LB : Looks M s.heap (isInstance x (.type "BaseException")) true) (q : Q () s) :
    wpAny M A (checkBuiltinCall "BaseException.__getattribute__" ⟨[x, nameV], []⟩) Q E s := by
  have ha : argsOk "BaseException.__getattribute__" ⟨[x, nameV], []⟩ := PySem.F.args_bexc_ga x nameV
  exact check_slot (i := "BaseException.__getattribute__") (owner := "BaseException") (n := "__getattribute__") (self := x) (rest := [nameV]) (kw := []) bga_kind bga_split LB ha q
structure XCls (K : PySem.W.Frag) (C : Addr) : Prop where
  ga : findIn K (.ref C) "__getattribute__" = some (some (.builtin "BaseException.__getattribute__"))
  no : findIn K (.ref C) "__getattr__" = some none
  be : mroIn K C (.type "BaseException") = some true
  ob : mroIn K C (.type "object") = some true
  hd : hasDictIn K C = true
  sa : findIn K (.ref C) "__setattr__" = some (some (.builtin "object.__setattr__"))
  cl : findIn K (.ref C) "__class__" = some (some (.builtin "object.__class__"))
  gs : specialIn K (.builtin "object.__class__") "__get__" = some (some (.builtin "getset_descriptor.__get__"))
  tk : takesIn K (.builtin "object.__class__") = some true
section
variable {prog : Program} {w : World} {A : Around} {E : Value → Shared → Prop} {K : PySem.W.Frag} {x C : Addr} {ox : Obj} {od : Option Obj} {name : Str} {fill expr : Bool} {tk : Tok} {Q : Value → Shared → Prop} {hh : Heap} {g : Array GenState} {d : Drawn} {t : Nat} {os : OsState}
theorem getX_by (X : K.In hh) (I : InstAt hh x ox C od) (c : XCls K C)
    (h : wpAny (model prog w) A.in1 (Builtin.«object.__getattribute__» ⟨[.ref x, .str name tk], []⟩)
      (fun fin s' => match fin with | .done (.ret v) => wpAny (model prog w) A (handedOut v) Q E s' | _ => False) (fun _ _ => False) ⟨hh, g, d, t, os⟩) :
    wpAny (model prog w) A (getAttrBy (.ref x) (.str name tk) fill expr) Q E ⟨hh, g, d, t, os⟩ := by
  have L0 := I.type (M := model prog w)
  have L1 := looks_findIn (M := model prog w) X c.ga
  have L2 := looks_findIn (M := model prog w) X c.no
  have LB : Looks (model prog w) hh (isInstance (.ref x) (.type "BaseException")) true := L0.andThen (looks_mroIn X c.be)
  unfold getAttrBy
  refine wpAny_holding (wpAny_bind (L0.at (wpAny_bind (L1.at ?_))))
  have e0 : (onTheHeap (Value.ref C) && Value.builtin "BaseException.__getattribute__" == Value.builtin "object.__getattribute__") = false := by
    have hx2 : (Value.builtin "BaseException.__getattribute__" == Value.builtin "object.__getattribute__") = false := by decide +kernel
    rw [hx2, Bool.and_false]
  simp only [e0, Bool.false_eq_true, if_false]
  unfold getAttrByItsOwn
  refine wpAny_bind (L2.at ?_)
  have e1 : (expr && onTheHeap (Value.builtin "BaseException.__getattribute__")) = false := by cases expr <;> rfl
  unfold callGetattribute
  simp only [e1, Bool.false_eq_true, if_false]
  unfold boundAndCalled
  refine wpAny_bind (wpAny_attempt (wpAny_holding (wpAny_bind (wpAny_of_eq (bga_slot.bind (.ref x)) ?_))))
  refine wpAny_call ?_
  refine codeAny_call_builtin bga_slot.plain F.entry_bexc_ga ?_
  refine check_bga LB ?_
  refine wpAny_mono h (fun fin s' z => ?_) fun _ _ z => z.elim
  rcases fin with (_ | _ | _ | _) | _ <;> first | exact z | exact z.elim
theorem getX_value {v : Value} (X : K.In hh) (I : InstAt hh x ox C od) (c : XCls K C) (hf : findObj K C od name = some (.value v)) (hv : handedIn v = true) (h : Q v ⟨hh, g, d, t, os⟩) :
    wpAny (model prog w) A (getAttrBy (.ref x) (.str name tk) fill expr) Q E ⟨hh, g, d, t, os⟩ := by
  have L0 := I.type (M := model prog w)
  have L3 := looks_find (M := model prog w) X I hf
  refine getX_by X I c ?_
  refine wpAny_bind (wpAny_pure (wpAny_bind (wpAny_pure (wpAny_bind (L0.at (wpAny_bind (L3.at ?_)))))))
  refine wpAny_pure ?_
  show wpAny _ _ (handedOut v) _ _ _
  rw [handedOut_of hv]; exact wpAny_pure h
theorem getX_class {Q : Option Value → Shared → Prop} (X : K.In hh) (I : InstAt hh x ox C od) (c : XCls K C) (hf : findObj K C od "__class__" = some (.bind (.builtin "getset_descriptor.__get__") (.builtin "object.__class__")))
    (h : Q (some (.ref C)) ⟨hh, g, d, t + 1, os⟩) : wpAny (model prog w) A (getAttr? (.ref x) "__class__") Q E ⟨hh, g, d, t, os⟩ := by
  have L0 := I.type (M := model prog w)
  have L3 := looks_find (M := model prog w) X I hf
  unfold getAttr? getAttrBy?
  refine wpAny_bind (wpAny_mkText (wpAny_bind (wpAny_attempt (getX_by X I c ?_))))
  refine wpAny_bind (wpAny_pure (wpAny_bind (wpAny_pure (wpAny_bind (L0.at (wpAny_bind (L3.at ?_)))))))
  show wpAny _ _ (holding [.builtin "object.__class__"] (call (.builtin "getset_descriptor.__get__") [.builtin "object.__class__", .ref x, .ref C]) >>= ret) _ _ _
  refine wpAny_bind (wpAny_holding (wpAny_call (class_get (s := ⟨hh, g, d, t + 1, os⟩) (ox := ox) (od := od) X I c.ob ?_)))
  refine wpAny_pure ?_
  exact wpAny_pure (wpAny_pure h)
theorem kitx_exc (c : XCls K C) (hf : ∀ od, findObj K C od "__class__" = some (.bind (.builtin "getset_descriptor.__get__") (.builtin "object.__class__"))) : KitX K (.ref x) (.ref C) (fun h => ∃ ox od, InstAt h x ox C od) where
  ty := fun _ _ _ ⟨_, _, I⟩ => I.type
  it := fun _ _ X _ => by
    obtain ⟨cdD, hcD, _⟩ := any_some c.hd
    unfold clsIn at hcD
    split at hcD
    · rename_i c' d' cd' sl' ho
      intro A' Q' E' s' k q
      unfold isType loadHead
      exact wpAny_bind (wpAny_loadPart (k _ _ (X _ _ ho)) (wpAny_pure q))
    · cases hcD
  ne := fun h tp dd its n sl X htp => by
    obtain ⟨cdD, hcD, _⟩ := any_some c.hd
    refine Bool.eq_false_iff.mpr fun q => ?_
    have e : C = tp := Value.ref.inj (beq_iff_eq.mp q)
    subst e
    unfold clsIn at hcD
    split at hcD
    · rename_i c' d' cd' sl' ho
      have z := (X _ _ ho).symm.trans htp
      cases z
    · cases hcD
  ca := fun {prog w A E Q s} X I k => by
    obtain ⟨ox, od, I⟩ := I
    obtain ⟨h0, g, d, tt, os⟩ := s
    exact getX_class X I c (hf od) k
theorem XCls.cls_find (c : XCls K C) (od : Option Obj) : findObj K C od "__class__" = some (.bind (.builtin "getset_descriptor.__get__") (.builtin "object.__class__")) := by
  obtain ⟨cd, hc, _⟩ := any_some c.hd
  unfold findObj
  rw [hc, Option.bind_some, c.cl, Option.bind_some]
  simp [c.gs, c.tk]
end
end L2
namespace L2
open PySem PySem.Spec PySem.W PySem.Calls PyProof.Rows Builtin Builtin.ObjectAttr
noncomputable abbrev excO (C : Addr) (dx : Option Addr) (tp : Addr) : Obj := { cls := .ref C, dict := dx, data := .fields #[.ref tp, .none, .none, .none, .bool false, .none] }
noncomputable abbrev tupO (vs : List Value) : Obj := { cls := .type "tuple", data := .seq vs.toArray }
noncomputable def excInI (K : PySem.W.Frag) (C : Addr) (bmB : List Value) (newId : String) (f : Addr) : Bool := match K.lookup C with
  | some ⟨.type "type", _, .cls cd, sl⟩ => (match cd.mro, sl.toList with
    | .ref C' :: bm, [_, _, _, _, some (.builtin n), _] => C' == C && n == newId && !cd.hasDel && tailIn K bmB bm && nsOkIn K cd.ns && nsIn K cd.ns "__init__" == some (some (.ref f))
    | _, _ => false)
  | _ => false
theorem ns_some_of {K : PySem.W.Frag} {h : Heap} {N : Addr} {mg : Str → Option Value} {n : Str} {v : Value} (X : K.In h) (G : h.Ns N mg) (e : nsIn K N n = some (some v)) : mg n = some v := by
  obtain ⟨o, es, ep, ho, hd, _, hf⟩ := G
  unfold nsIn at e
  split at e
  · rename_i c d es' n' sl q
    have := X _ _ q
    rw [ho] at this
    cases this
    cases hd
    split at e
    · rename_i y he
      rw [← hf]
      unfold nsFind findBy
      rw [← Array.find?_toList, he]
      exact Option.some.inj e
    · split at e <;> cases e
  · cases e
theorem exc_of_in {K : PySem.W.Frag} {h : Heap} {C : Addr} {bmB : List Value} {newId : String} {f : Addr} (X : K.In h) (q : excInI K C bmB newId f = true) :
    ∃ (nm qn : Str) (N : Addr) (bs bm : List Value) (hdct : Bool) (sn : List Str) (sub : List Value) (ab : Bool) (col : Option Bool) (dd : Option Addr) (k0 k1 k2 k3 k5 : Option Value) (mN : Str → Option Value),
      h.get? C = some (excClassObj nm qn C N bs bm hdct sn sub ab col dd k0 k1 k2 k3 k5 newId) ∧ h.Ns N mN ∧ mN "__init__" = some (.ref f) ∧ OwnTail h bmB bm := by
  unfold excInI at q
  split at q
  · rename_i dd cd sl ho
    split at q
    · rename_i C' bm k0 k1 k2 k3 n k5 hm hs
      simp only [Bool.and_eq_true, beq_iff_eq, Bool.not_eq_true'] at q
      obtain ⟨⟨⟨⟨⟨rfl, rfl⟩, hdel⟩, ht⟩, hok⟩, hni⟩ := q
      obtain ⟨nm, bs, mro, ns, qn, hd, sn, sub, ab, col, del⟩ := cd
      dsimp only at hm hdel hok hni
      subst hm hdel
      have hsl : sl = #[k0, k1, k2, k3, some (.builtin n), k5] := by
        obtain ⟨l⟩ := sl
        simp only at hs
        rw [hs]
      subst hsl
      exact ⟨nm, qn, ns, bs, bm, hd, sn, sub, ab, col, dd, k0, k1, k2, k3, k5, _, X _ _ ho, .of_isNs (isNs_of_in X hok), ns_some_of X (.of_isNs (isNs_of_in X hok)) hni, tail_of_in X ht⟩
    · cases q
  · cases q
section
variable {prog : Program} {w : World} {A : Around} {E : Value → Shared → Prop} {K : PySem.W.Frag} {h : Heap} {g : Array GenState} {d : Drawn} {t : Nat} {os : OsState}
variable {C f : Addr} {rest : List Value} {R : Result → Shared → Prop} {bmB : List Value} {B newId initId : String}
theorem type_call_excI (F : ExcBaseFacts B newId initId bmB) (X : K.In h) (q : excInI K C bmB newId f = true) (hf : typeIn K (.ref f) = some (.type "function")) {Q : Fin → Shared → Prop}
    (hq : wpAny (model prog w) A (call (.ref f) (.ref (h.objs.size + 1) :: rest)) (fun v s' => v = .none ∧ Q (.done (.ret (.ref (h.objs.size + 1)))) s') E ⟨(h.push (tupO rest)).push (excO C none h.objs.size), g, d, t, os⟩) (hrest : rest.length ≤ sizeLine) :
    wpAny (model prog w) A (Builtin.«type.__call__» ⟨.ref C :: rest, []⟩) Q E ⟨h, g, d, t, os⟩ := by
  obtain ⟨nm, qn, N, bs, bm, hdct, sn, sub, ab, col, dd, k0, k1, k2, k3, k5, mN, hC, hn, hni, T⟩ := exc_of_in X q
  have hBn := F.hasB
  have k : ∀ b o, h.get? b = some o → ((h.push (tupO rest)).push (excO C none h.objs.size)).get? b = some o := fun b o e => Heap.get?_push_of_some _ (Heap.get?_push_of_some _ e)
  have LF := (bind_fn (M := model prog w) (K := K) (X.keeps k) (.ref (h.objs.size + 1)) hf)
  repeat (first | with_reducible refine wpAny_loadPart_at hC ?_ | with_reducible refine wpAny_madeBy_exc hC ?_ | wp_step)
  refine codeAny_call_builtin_code (Code.quiet_builtin _ F.quiet) (wpAny_check_new_subU F hBn T hC ?_)
  refine codeAny_exc_new_subU F hBn F T hC ?_ hrest
  show wpAny _ _ _ _ _ _
  have hC₁ := k _ _ hC
  have hn₁ : ((h.push (tupO rest)).push (excO C none h.objs.size)).Ns N mN := let ⟨o, es, ep, e, r⟩ := hn; ⟨o, es, ep, k _ _ e, r⟩
  have hget : ((h.push (tupO rest)).push (excO C none h.objs.size)).get? (h.objs.size + 1) = some (excO C none h.objs.size) := by
    have := Heap.get?_push_size (h.push (tupO rest)) (o := excO C none h.objs.size) rfl
    rwa [Heap.size_push] at this
  have hcC : (Value.ref C :: bm).contains (.ref C) = true := by simp
  have T₁ := T.keeps (h' := (h.push (tupO rest)).push (excO C none h.objs.size)) k
  change wpAny (model prog w) A _ Q E ⟨(h.push (tupO rest)).push (excO C none h.objs.size), g, d, t, os⟩
  unfold isInstance
  repeat (first | with_reducible refine wpAny_loadPart_at hget ?_ | (with_reducible refine wpAny_isSubtype_exc hC₁ ?_; rw [hcC]) | wp_step)
  show wpAny _ _ (typeLookup (.ref C) _) _ _ _
  refine wpAny_typeLookup_tail hC₁ hn₁ T₁ F.mroIs F.init.lookup ?_
  rw [hni]
  refine wpAny_holding (wpAny_bind (LF.at ?_))
  refine wpAny_bind (wpAny_mono hq (fun v s' z => ?_) fun _ _ z => z)
  obtain ⟨rfl, z⟩ := z
  exact wpAny_pure (wpAny_pure z)
theorem call_excI (F : ExcBaseFacts B newId initId bmB) (X : K.In h) (q : excInI K C bmB newId f = true) (hf : typeIn K (.ref f) = some (.type "function")) {Q : Value → Shared → Prop}
    (hq : wpAny (model prog w) (A.under (.builtin "type.__call__" ⟨.ref C :: rest, []⟩)) (call (.ref f) (.ref (h.objs.size + 1) :: rest)) (fun v s' => v = .none ∧ Q (.ref (h.objs.size + 1)) s') E ⟨(h.push (tupO rest)).push (excO C none h.objs.size), g, d, t, os⟩)
    (hrest : rest.length ≤ sizeLine) : wpAny (model prog w) A (call (.ref C) rest) Q E ⟨h, g, d, t, os⟩ := by
  obtain ⟨nm, qn, N, bs, bm, hdct, sn, sub, ab, col, dd, k0, k1, k2, k3, k5, mN, hC, hn, hni, T⟩ := exc_of_in X q
  have f1 := tc_lookup
  have f2 := tc_bind (.ref C)
  have hT : (⟨h, g, d, t, os⟩ : Shared).TypeIs (.ref C) "type" := ⟨_, hC, rfl⟩
  refine wpAny_call (codeAny_of_tree ?_)
  show wpAny _ _ (callAny (.ref C) _) _ _ _
  repeat (any_goals (first | assumption | with_reducible refine wpAny_loadPart_at hC ?_ | wp_step))
  refine ⟨rfl, ?_⟩
  refine codeAny_call_builtin_at (Code.quiet_builtin _ (by decide +kernel)) entry_typeCall (wpAny_check_type_call_sub hC (type_call_excI F X q hf ?_ hrest))
  exact hq
end
noncomputable def XO (a C : Addr) (dx : Option Addr) : HO := .ext fun h => ∃ tp, h.get? a = some (excO C dx tp)
theorem XO.ok {P : Program} {w : World} {H : Hp} {h : Heap} {a C tp : Addr} {dx : Option Addr} (e : h.get? a = some (excO C dx tp)) : ObjOk P w H h a (XO a C dx) :=
  ⟨⟨tp, e⟩, ⟨_, e⟩, fun _ _ ⟨tp, q⟩ k => ⟨tp, k _ q⟩⟩
theorem XO.get {P : Program} {w : World} {H : Hp} {h : Heap} {a C : Addr} {dx : Option Addr} (ok : HOk P w H h) (e : H a = some (XO a C dx)) : ∃ tp, h.get? a = some (excO C dx tp) := (ok a _ e).1
structure XMk (K : PySem.W.Frag) (C f : Addr) : Prop where
  ex : excInI K C [.type "ValueError", .type "Exception", .type "BaseException", .type "object"] "ValueError.__new__" f = true
  fn : PySem.W.isFn K (.ref f) = true
  kp : PySem.W.keepIn K (.ref C) = true
noncomputable def tMakeX (C : Addr) (sp : Sp) (E : XK) (t : TA) : TE := fun σ H Q => t σ H fun vs H1 => vs.length ≤ sizeLine ∧ ∀ x, H1 x = none → sp (.ref x :: vs) (upd H1 x (XO x C none)) (fun v H2 => v = .non ∧ Q (.ref x) H2) E
section
variable {X : Cx} {CX : CXT} {k : Nat} {f C : Addr} {fd : FuncData} {ps : List Str} {sp : Sp} {E : XK} {x : Str} {p pos : Pos} {e : Expr} {es : List Expr} {t : TA}
theorem run_makeX {pins : List (Addr × Obj)} {σ : St} {H : Hp} {s : Shared} {Q : VK} {us : List Value} {vs : List V} (M : XMk X.K C f) (F : FnOk X.prog X.w X.K X.mg X.base CX k f fd ps sp) (hr : Room (k + 1) X.A) (hb : Binds X.K fd ps [])
    (hx : Passes CX X E) (I : Inv X pins σ H s) (r : Vals vs us) (hz : vs.length ≤ sizeLine)
    (h : ∀ x, H x = none → sp (.ref x :: vs) (upd H x (XO x C none)) (fun v H2 => v = .non ∧ Q (.ref x) H2) E) :
    wpAny (model X.prog X.w) X.A (call (.ref C) us) (EP X pins σ Q) X.xe s := by
  obtain ⟨hh, g, d, tt, os⟩ := s
  have hq := h (hh.objs.size + 1) (I.hok.fresh (Nat.le_succ _))
  have e2 : ((hh.push (tupO us)).push (excO C none hh.objs.size)).get? (hh.objs.size + 1) = some (excO C none hh.objs.size) := by
    have := Heap.get?_push_size (hh.push (tupO us)) (o := excO C none hh.objs.size) rfl
    rwa [Heap.size_push] at this
  have I1 : Inv X pins σ H ⟨hh.push (tupO us), g, d, tt, os⟩ := I.kept (t' := tt) fun b u q => Heap.get?_push_of_some _ q
  have I2 : Inv X pins σ (upd H (hh.objs.size + 1) (XO (hh.objs.size + 1) C none)) ⟨(hh.push (tupO us)).push (excO C none hh.objs.size), g, d, tt, os⟩ :=
    I1.laid (a := hh.objs.size + 1) (t' := tt) (fun b u q => Heap.get?_push_of_some _ q) (Nat.le_of_eq (Heap.size_push _ _)) (XO.ok e2)
  have r2 : Vals (V.ref (hh.objs.size + 1) :: vs) (Value.ref (hh.objs.size + 1) :: us) := .cons rfl r
  have hl : (Value.ref (hh.objs.size + 1) :: us ++ []).length = ps.length := by
    rw [List.append_nil]
    have e := r2.length
    rw [F.len _ _ _ _ hq] at e
    exact e.symm
  refine call_excI PySem.F.excBase_ValueError I.kIn M.ex (beq_iff_eq.mp M.fn) ?_ (by rw [← r.length]; exact hz)
  refine wpAny_call (codeAny_mono (F.run _ X.stack _ _ ⟨Value.ref (hh.objs.size + 1) :: us, []⟩ (Value.ref (hh.objs.size + 1) :: us) _ _ E (hr.make C us [])
    (I2.env0.make C us []) (by have := hb _ (Value.ref (hh.objs.size + 1) :: us) I2.kIn hl; rwa [List.append_nil] at this) r2 hq) fun r s' hq' => ?_)
  cases r with
  | error e => exact hx pins σ _ _ e s' I2 hq'
  | ok fl =>
    cases fl with
    | ret u =>
      obtain ⟨v, H', I3, rv, ev, q3⟩ := I2.after hq'
      subst ev
      exact ⟨rv, ⟨V.ref (hh.objs.size + 1), H', I3, rfl, q3⟩⟩
    | next => exact False.elim hq'
    | brk => exact False.elim hq'
    | cont => exact False.elim hq'
theorem pe_makeX (M : XMk X.K C f) (F : FnOk X.prog X.w X.K X.mg X.base CX k f fd ps sp) (hr : Room (k + 1) X.A) (hg : Gl X x) (hm : X.mg x = some (.ref C)) (hb : Binds X.K fd ps []) (hx : Passes CX X E)
    (ha : PA X (e :: es) t) (hdb : (x == ("__debug__" : Str)) = false := by decide) (he : starEach (e :: es) X.env = (false, eval e X.env) :: starEach es X.env := by rfl) (hpl : (backTo pos (starEach es X.env)).any (·.1) = false := by rfl) :
    PE X (.Call (.Name x p) (e :: es) [] pos) (tMakeX C sp E t) := by
  intro pins s σ H Q I h
  refine wpAny_Call_Name_kw (ld_glob I hg hm ?_ hdb)
  refine PySem.W.callWith_K (h₀ := X.base) I.ok.mod.kin M.kp (thn (ha pos pins s σ H _ I h) fun us s1 ⟨vs, H1, I1, r, hz, q⟩ => ⟨I1.kIn, ?_⟩) he hpl
  exact run_makeX M F hr hb hx I1 r hz q
end
noncomputable def excTail : List Value → Bool
  | .ref _ :: r => excTail r
  | l => l == [.type "ValueError", .type "Exception", .type "BaseException", .type "object"]
theorem refuse_exc (self : Value) : ∀ {l : List Value}, excTail l = true → refuseLoop self "__setattr__" l = pure ()
  | .ref c :: r, e => by rw [refuseLoop_ref]; exact refuse_exc self (l := r) e
  | [], e => nomatch e
  | .type n :: r, e => by
    have q : (.type n :: r) = [Value.type "ValueError", .type "Exception", .type "BaseException", .type "object"] := by
      unfold excTail at e
      exact beq_iff_eq.mp e
    rw [q]
    kernel_rfl
  | .none :: r, e => by unfold excTail at e; exact nomatch (beq_iff_eq.mp e)
  | .bool _ :: r, e => by unfold excTail at e; exact nomatch (beq_iff_eq.mp e)
  | .int _ _ :: r, e => by unfold excTail at e; exact nomatch (beq_iff_eq.mp e)
  | .str _ _ :: r, e => by unfold excTail at e; exact nomatch (beq_iff_eq.mp e)
  | .bytes _ _ :: r, e => by unfold excTail at e; exact nomatch (beq_iff_eq.mp e)
  | .float _ _ :: r, e => by unfold excTail at e; exact nomatch (beq_iff_eq.mp e)
  | .builtin _ :: r, e => by unfold excTail at e; exact nomatch (beq_iff_eq.mp e)
end L2
namespace L2
open PySem PySem.Spec PySem.W PySem.Calls PyProof.Rows Builtin Builtin.ObjectAttr
noncomputable def excOver (K : PySem.W.Frag) (C : Addr) : Bool := (clsIn K C).any fun cd => excTail cd.mro
section
variable {prog : Program} {w : World} {A : Around} {K : PySem.W.Frag} {x C : Addr} {s : Shared} {R : Result → Shared → Prop}
theorem osa_openX {ox : Obj} {od : Option Obj} {name : Str} {tk : Tok} {v : Value} (X : K.In s.heap) (I : InstAt s.heap x ox C od) (c : XCls K C) (hp : excOver K C = true) (ht : findIn K (.ref C) name = some none)
    (h : wpAny (model prog w) A.in1 (storeInOwnDict (.ref x) (.ref C) (.str name tk) name v false)
      (fun fin s' => match fin with | .done f => R (.ok f) s' | .again c' => c'.quiet = true ∧ codeAny (model prog w) A c' R s') (fun e s' => R (.error e) s') s) :
    codeAny (model prog w) A (.call (.builtin "object.__setattr__") ⟨[.ref x, .str name tk, v], []⟩) R s := by
  have SF := PySem.F.store_object
  obtain ⟨cd, hc, ho⟩ := any_some hp
  have sub : Looks (model prog w) s.heap (isInstance (.ref x) (.type "object")) true := I.type.andThen (looks_mroIn X c.ob)
  refine codeAny_call_builtin SF.slot.plain SF.entry (@check_slot (model prog w) _ _ s "object.__setattr__" "object" "__setattr__" (.ref x) [.str name tk, v] [] _ SF.kind SF.split sub (SF.args (.ref x) (.str name tk) v) ?_)
  have hm : Looks (model prog w) s.heap (mroOf (.ref C)) cd.mro := (looks_clsIn X hc).andThen .now
  rw [osa_eq, refuse_eq]
  refine wpAny_bind (wpAny_bind (I.type.here (wpAny_bind (hm.here ?_))))
  rw [refuse_exc _ ho]
  refine wpAny_pure (wpAny_bind (I.type.here (wpAny_bind ((looks_findIn X ht).here (wpAny_bind (wpAny_pure ?_))))))
  exact h
end
section
variable {X : Cx} {pins : List (Addr × Obj)} {σ : St} {H : Hp} {s : Shared} {a C : Addr} {f : Str} {v : V} {A : Around} {E : Value → Shared → Prop}
theorem XO.inst0 {h : Heap} {tp : Addr} (e : h.get? a = some (excO C none tp)) : InstAt h a (excO C none tp) C none := ⟨e, rfl, rfl, trivial⟩
theorem setattrX_ok {y : V} {u : Value} {Q : Unit → Shared → Prop} (I : Inv X pins σ H s) (e : H a = some (XO a C none)) (c : XCls X.K C) (hp : excOver X.K C = true) (n : NoAttr X.K C f) (ry : RelV y u)
    (h : ∀ d s', H d = none → d ≠ a → Inv X pins σ (upd (upd H d (.xd [(f, y)])) a (XO a C (some d))) s' → Q () s') : wpAny (model X.prog X.w) A (setAttr (.ref a) f u) Q E s := by
  obtain ⟨tp, ho⟩ := XO.get I.hok e
  have J : InstAt s.heap a (excO C none tp) C none := XO.inst0 ho
  obtain ⟨cd, hc, hd'⟩ := any_some c.hd
  refine set_plain I.kIn J c.sa (osa_openX (s := { s with toks := s.toks + 1 }) I.kIn J c hp n ?_)
  -- the dict is made
  have na : s.heap.objs.size ≠ a := Nat.ne_of_gt (Heap.lt_size ho)
  refine wpAny_bind (wpAny_pure (wpAny_bind (wpAny_bind (wpAny_loadPart ho (wpAny_bind (PySem.W.Looks.here (s := { s with toks := s.toks + 1 }) (PySem.W.looks_clsIn I.kIn hc) ?_))))))
  rw [hd']
  show wpAny _ _ (alloc emptyDict >>= fun d => update a (fun o => { o with dict := some d }) >>= fun _ => dictMade (.ref C) a d) _ _ _
  refine wpAny_bind (wpAny_alloc (wpAny_bind ?_))
  have e1 : (s.heap.push emptyDict).get? s.heap.objs.size = some emptyDict := Heap.get?_push_size s.heap rfl
  have e0 : (s.heap.push emptyDict).get? a = some (excO C none tp) := Heap.get?_push_of_some _ ho
  refine wpAny_update e0 ?_
  generalize hh2 : (s.heap.push emptyDict).update a (fun o => { o with dict := some s.heap.objs.size }) = h2
  have e2 : h2.get? a = some (excO C (some s.heap.objs.size) tp) := by rw [← hh2]; exact Heap.get?_update_self _ e0 rfl
  have k2 : ∀ b, b ≠ a → h2.get? b = (s.heap.push emptyDict).get? b := fun b hb => by rw [← hh2]; exact Heap.get?_update_other _ _ (Ne.symm hb)
  have n2 : h2.Ns1 s.heap.objs.size (fun _ => none) := by
    refine Heap.Ns1.of_empty ⟨emptyDict, #[], _, (k2 _ na).trans e1, rfl, (fun e he => absurd he (by simp)), fun _ => rfl⟩
  refine wpAny_pure ?_
  refine wpAny_bind (wpAny_pure (wpAny_bind ?_))
  refine wpAny_nsSet1 (s := { s with heap := h2, toks := s.toks + 1 }) n2 fun h3 n3 sb3 => ?_
  have n3 : h3.Ns1 s.heap.objs.size (fun x => if x = f then some u else none) := n3
  have sb3 : Heap.SameBut s.heap.objs.size h2 h3 := sb3
  obtain ⟨oD, esD, epD, hoD, hdD, hcD⟩ := n3.count (ns := [f]) (fun g hg => by
    by_cases z : g = f
    · rw [z]; exact List.mem_singleton.mpr rfl
    · rw [if_neg z] at hg; exact absurd rfl hg)
  refine wpAny_bind (wpAny_lookBehind hoD (by rw [hdD]; exact pastItsLine_dict (Nat.le_trans hcD (by show 1 ≤ sizeLine + 1; decide))) ?_)
  have nd : H s.heap.objs.size = none := I.hok.fresh (Nat.le_refl _)
  refine wpAny_pure (h s.heap.objs.size _ nd na ?_)
  have e3 : h3.get? a = some (excO C (some s.heap.objs.size) tp) := (sb3.2 a (Ne.symm na)).trans e2
  have k3 : ∀ b o, b ≠ a → s.heap.get? b = some o → h3.get? b = some o := fun b o hb q =>
    (sb3.2 b (Nat.ne_of_lt (Heap.lt_size q))).trans ((k2 b hb).trans (Heap.get?_push_of_some _ q))
  have tr : ∀ b o, H b = some o → b ≠ s.heap.objs.size := fun b o q => ne_of_none q nd
  have un : ∀ b, H b = none → b ≠ a := fun b q z => by rw [z, e] at q; cases q
  refine Inv.step (s := s) (h' := h3) (t' := s.toks + 1 + 1) (g' := s.gens) (d' := s.drawn) (ch := []) I (fun _ z => nomatch z) (fun b o _ _ _ q n => k3 b o (un b n) q) (fun b o _ _ _ q n => ⟨o.slots, k3 b o (un b n) q⟩)
    (fun b o _ q n => by rw [upd_ne (un b n), upd_ne (Nat.ne_of_lt (Heap.lt_size q))]; exact n)
    (fun b o _ q => by
      by_cases z : b = a
      · exact ⟨_, by rw [z]; exact e3⟩
      · exact ⟨o, k3 b o z q⟩)
    (fun b xs q => by rw [upd_ne (ne_of q e (by intro z; cases z)), upd_ne (tr b _ q)]; exact q) (fun b o u q => by rw [upd_ne (ne_of q e (by intro z; cases z)), upd_ne (tr b _ q)]; exact q)
    (fun b ps q => ⟨#[], by rw [upd_ne (ne_of q e (by intro z; cases z)), upd_ne (tr b _ q), q]; simp⟩) (fun m hm => ?_) (fun b u' q => ?_) I.bare
  · obtain ⟨o, es, ep, q, r⟩ := hm
    exact ⟨o, es, ep, k3 _ o (un _ I.free) q, r⟩
  · by_cases hb : b = a
    · subst hb
      rw [upd_same] at q
      cases q
      exact XO.ok e3
    · rw [upd_ne hb] at q
      by_cases hbd : b = s.heap.objs.size
      · subst hbd
        rw [upd_same] at q
        cases q
        refine ⟨_, n3, fun g => ?_⟩
        by_cases z : g = f
        · rw [if_pos z, z, List.lookup_cons, beq_self_eq_true]; exact ry
        · rw [if_neg z, List.lookup_cons, show (g == f) = false by simpa using z]; exact trivial
      · rw [upd_ne hbd] at q
        refine (I.hok b u' q).stay (fun c' v' hc' z => k3 c' v' ?_ z) (fun c' z => by rw [upd_ne (ne_of z e (by intro z; cases z)), upd_ne (tr c' _ z)]; exact z) fun c' ys z => by rw [upd_ne (ne_of z e (by intro z; cases z)), upd_ne (tr c' _ z)]; exact z
        rcases hc' with z | z
        · rw [z]; exact hb
        · exact ne_of z e (by intro z; cases z)
end
noncomputable def sFldX (K : PySem.W.Frag) (ta tv : TE) (f : Str) : TS := fun D σ H => tv σ H fun y H1 => ta σ H1 fun x H2 => ∃ a C, x = .ref a ∧ H2 a = some (XO a C none) ∧ XCls K C ∧ excOver K C = true ∧ NoAttr K C f ∧
  ∀ d, H2 d = none → d ≠ a → D.nx σ (upd (upd H2 d (.xd [(f, y)])) a (XO a C (some d)))
section
variable {X : Cx} {K : PySem.W.Frag} {o e value : Expr} {f : Str} {pos pos' : Pos} {ta tv : TE}
theorem ps_fldX (hK : X.K = K) (ha : PE X o ta) (hv : PE X value tv) (hs : swapsWith value (some (.Attribute o f pos')) pos.line X.env = pure false) : PS X (.Assign [.Attribute o f pos'] value pos) (sFldX K ta tv f) := by
  subst hK
  intro pins s σ H D I h
  refine plainObj_wpAny_Assign_Attribute (thn (hv pins s σ H _ I h) fun u s1 ⟨y, H1, I1, ry, q⟩ => thn (ha pins s1 σ H1 _ I1 q) fun ov s2 zpat => ?_) hs
  obtain ⟨x, H2, I2, rx, a, C, ex, ea, c, hp, n, q2⟩ := zpat
  subst ex
  obtain rfl : ov = Value.ref a := rx
  exact setattrX_ok I2 ea c hp n ry fun d s3 hd hne I3 => ⟨σ, _, I3, q2 d hd hne⟩
end
end L2
namespace My
theorem add_disj : ∀ (n m : Nat), (∀ i, ¬ (n.testBit i = true ∧ m.testBit i = true)) → n + m = n ||| m := by
  intro n
  induction n using Nat.strongRecOn with
  | _ n ih =>
    intro m h
    by_cases hn : n = 0
    · subst hn; simp
    · have h2 : n / 2 < n := Nat.div_lt_self (by omega) (by omega)
      have q := ih (n / 2) h2 (m / 2) (fun i => by
        have := h (i + 1)
        rwa [Nat.testBit_add_one, Nat.testBit_add_one] at this)
      have h0 := h 0
      rw [Nat.testBit_zero, Nat.testBit_zero] at h0
      have h0 : ¬ (n % 2 = 1 ∧ m % 2 = 1) := by simpa using h0
      apply Nat.eq_of_testBit_eq
      intro i
      cases i with
      | zero =>
        rw [Nat.testBit_or, Nat.testBit_zero, Nat.testBit_zero, Nat.testBit_zero]
        have e : (n + m) % 2 = 1 ↔ (n % 2 = 1 ∨ m % 2 = 1) := by omega
        simp [e]
      | succ i =>
        rw [Nat.testBit_or, Nat.testBit_add_one, Nat.testBit_add_one, Nat.testBit_add_one, ← Nat.testBit_or, ← q]
        congr 1
        omega
noncomputable def maskN : List Nat → Nat
  | [] => 0
  | k :: r => 2 ^ k ||| maskN r
theorem maskN_bit (i : Nat) : ∀ ks : List Nat, (maskN ks).testBit i = decide (i ∈ ks)
  | [] => by simp [maskN]
  | k :: r => by
    rw [maskN, Nat.testBit_or, maskN_bit i r, Nat.testBit_two_pow]
    by_cases h1 : k = i <;> by_cases h2 : i ∈ r <;> simp [h1, h2]
    all_goals omega
theorem maskN_lt {n : Nat} {ks : List Nat} (h : ∀ k ∈ ks, k < n) : maskN ks < 2 ^ n := by
  apply Nat.lt_pow_two_of_testBit
  intro i hi
  rw [maskN_bit]
  simp
  intro hm
  have := h i hm
  omega
theorem fold_or : ∀ (ks : List Nat) (m : Nat), ks.foldl (fun m k => m ||| 2 ^ k) m = m ||| maskN ks
  | [], m => by simp [maskN]
  | k :: r, m => by rw [List.foldl_cons, fold_or r, maskN, Nat.or_assoc]
theorem within_iff (a b : Nat) : (a &&& b = a) ↔ ∀ i, a.testBit i = true → b.testBit i = true := by
  constructor
  · intro h i hi
    have : (a &&& b).testBit i = true := by rw [h]; exact hi
    rw [Nat.testBit_and] at this
    simp at this
    exact this.2
  · intro h
    apply Nat.eq_of_testBit_eq
    intro i
    rw [Nat.testBit_and]
    cases e : a.testBit i with
    | false => rfl
    | true => rw [h i e]; rfl
noncomputable def onesN (m : Nat) : List Nat := (List.range (if m = 0 then 0 else m.log2 + 1)).filter (m.testBit ·)
theorem range_filter {p : Nat → Bool} {a b : Nat} (h : a ≤ b) (hp : ∀ i, a ≤ i → i < b → p i = false) : (List.range b).filter p = (List.range a).filter p := by
  obtain ⟨d, rfl⟩ : ∃ d, b = a + d := ⟨b - a, by omega⟩
  rw [List.range_add, List.filter_append]
  have : List.filter p (List.map (fun x => a + x) (List.range d)) = [] := by
    rw [List.filter_eq_nil_iff]
    intro x hx
    obtain ⟨y, hy, rfl⟩ := List.mem_map.mp hx
    rw [hp (a + y) (by omega) (by have := List.mem_range.mp hy; omega)]
    decide
  rw [this, List.append_nil]
theorem onesN_eq {m n : Nat} (h : m < 2 ^ n) : onesN m = (List.range n).filter (m.testBit ·) := by
  unfold onesN
  by_cases hm : m = 0
  · subst hm
    rw [if_pos rfl]
    symm
    rw [List.range_zero, List.filter_nil, List.filter_eq_nil_iff]
    intro x _
    simp
  · rw [if_neg hm]
    have h1 : m.log2 < n := (Nat.log2_lt hm).mpr h
    symm
    apply range_filter (by omega)
    intro i hi _
    have h2 : m < 2 ^ (m.log2 + 1) := Nat.lt_log2_self
    exact Nat.testBit_lt_two_pow (Nat.lt_of_lt_of_le h2 (Nat.pow_le_pow_right (by omega) hi))
end My
namespace My
theorem or_add_and (a b : Nat) : (a ||| b) + (a &&& b) = a + b := by
  induction a using Nat.strongRecOn generalizing b with
  | _ a ih =>
    by_cases ha : a = 0
    · subst ha; rw [Nat.zero_or, Nat.zero_and, Nat.add_zero, Nat.zero_add]
    · have q := ih (a / 2) (Nat.div_lt_self (Nat.pos_of_ne_zero ha) (by decide)) (b / 2)
      have e3 : (a ||| b) % 2 + (a &&& b) % 2 = a % 2 + b % 2 := by
        have o : (a ||| b) % 2 = a % 2 ||| b % 2 := Nat.or_mod_two_pow (n := 1)
        have n : (a &&& b) % 2 = a % 2 &&& b % 2 := Nat.and_mod_two_pow (n := 1)
        rw [o, n]
        rcases Nat.mod_two_eq_zero_or_one a with x | x <;> rcases Nat.mod_two_eq_zero_or_one b with y | y <;> rw [x, y] <;> rfl
      rw [← Nat.div_add_mod (a ||| b) 2, ← Nat.div_add_mod (a &&& b) 2, Nat.or_div_two, Nat.and_div_two, Nat.add_add_add_comm, e3, ← Nat.mul_add, q, Nat.mul_add, Nat.add_add_add_comm, Nat.div_add_mod, Nat.div_add_mod]
end My
namespace My
noncomputable def havingL (rs : List Nat) (m : Nat) : List Nat := (List.range rs.length).filter fun i => decide (m &&& rs.getD i 0 = m)
theorem mem_having {rs : List Nat} {m i : Nat} : i ∈ havingL rs m ↔ i < rs.length ∧ m &&& rs.getD i 0 = m := by
  unfold havingL
  rw [List.mem_filter, List.mem_range]
  simp
end My
namespace My
noncomputable def sharedL (rs : List Nat) (w : Nat) (ks : List Nat) : Nat := ks.foldl (fun m k => m &&& rs.getD k 0) (2 ^ w - 1)
theorem foldl_and_bit (rs : List Nat) (i : Nat) : ∀ (ks : List Nat) (m : Nat), (ks.foldl (fun m k => m &&& rs.getD k 0) m).testBit i = (m.testBit i && ks.all fun k => (rs.getD k 0).testBit i)
  | [], m => by simp
  | k :: r, m => by
    rw [List.foldl_cons, foldl_and_bit rs i r, Nat.testBit_and, List.all_cons, Bool.and_assoc]
theorem shared_bit (rs : List Nat) (w i : Nat) (ks : List Nat) : (sharedL rs w ks).testBit i = (decide (i < w) && ks.all fun k => (rs.getD k 0).testBit i) := by
  unfold sharedL
  rw [foldl_and_bit, Nat.testBit_two_pow_sub_one]
theorem shared_lt (rs : List Nat) (w : Nat) (ks : List Nat) : sharedL rs w ks < 2 ^ w := by
  apply Nat.lt_pow_two_of_testBit
  intro i hi
  rw [shared_bit]
  simp
  intro h
  omega
theorem mem_onesN {m i : Nat} : i ∈ onesN m ↔ m.testBit i = true := by
  have h : m < 2 ^ (if m = 0 then 0 else m.log2 + 1) := by
    by_cases hm : m = 0
    · subst hm; simp
    · rw [if_neg hm]; exact Nat.lt_log2_self
  unfold onesN
  rw [List.mem_filter, List.mem_range]
  constructor
  · intro h; exact h.2
  · intro hb
    refine ⟨?_, hb⟩
    apply Nat.lt_of_not_le
    intro hle
    rw [Nat.testBit_lt_two_pow (Nat.lt_of_lt_of_le h (Nat.pow_le_pow_right (by omega) hle))] at hb
    cases hb
noncomputable def closedL (rs : List Nat) (w m : Nat) : Nat := sharedL rs w (onesN (maskN (havingL rs m)))
theorem closed_bit (rs : List Nat) (w m i : Nat) : (closedL rs w m).testBit i = true ↔ i < w ∧ ∀ r ∈ rs, m &&& r = m → r.testBit i = true := by
  unfold closedL
  rw [shared_bit, Bool.and_eq_true, decide_eq_true_eq, List.all_eq_true]
  refine and_congr_right fun _ => ?_
  constructor
  · intro h r hr hm
    obtain ⟨k, hk, e⟩ := List.mem_iff_getElem.mp hr
    have e' : rs.getD k 0 = r := by rw [List.getD_eq_getElem?_getD, List.getElem?_eq_getElem hk, ← e]; rfl
    have q := h k (by rw [mem_onesN, maskN_bit, decide_eq_true_eq, mem_having]; exact ⟨hk, by rw [e']; exact hm⟩)
    rwa [e'] at q
  · intro h k hk
    rw [mem_onesN, maskN_bit, decide_eq_true_eq, mem_having] at hk
    obtain ⟨hk1, hk2⟩ := hk
    have e' : rs.getD k 0 = rs[k] := by rw [List.getD_eq_getElem?_getD, List.getElem?_eq_getElem hk1]; rfl
    rw [e'] at hk2 ⊢
    exact h _ (List.getElem_mem hk1) hk2
theorem closed_lt (rs : List Nat) (w m : Nat) : closedL rs w m < 2 ^ w := shared_lt _ _ _
theorem closed_holds {rs : List Nat} {w m : Nat} (hm : m < 2 ^ w) : m &&& closedL rs w m = m := by
  rw [within_iff]
  intro i hi
  rw [closed_bit]
  refine ⟨?_, fun r _ h => (within_iff m r).mp h i hi⟩
  apply Nat.lt_of_not_le
  intro hle
  rw [Nat.testBit_lt_two_pow (Nat.lt_of_lt_of_le hm (Nat.pow_le_pow_right (by omega) hle))] at hi
  cases hi
theorem within_trans {a b c : Nat} (h1 : a &&& b = a) (h2 : b &&& c = b) : a &&& c = a := by
  rw [within_iff] at *
  intro i hi
  exact h2 i (h1 i hi)
theorem closed_row {rs : List Nat} {w m r : Nat} (hr : r ∈ rs) (h : m &&& r = m) : closedL rs w m &&& r = closedL rs w m := by
  rw [within_iff]
  intro i hi
  rw [closed_bit] at hi
  exact hi.2 r hr h
end My
namespace My
end My
namespace TS
open PySem PyProof.Rows
noncomputable def gal : Bool → Keyed → Array Keyed → Nat → Nat → Nat → StateT SortSt Sem (Option Nat) := sortPriv% PySem.Builtin.gallop
noncomputable def setMG : Nat → StateT SortSt Sem Unit := sortPriv% PySem.Builtin.setMinGallop
noncomputable def mLo : Array Keyed → Array Keyed → StateT SortSt Sem (Array Keyed) := sortPriv% PySem.Builtin.mergeLo
noncomputable def mHi : Array Keyed → Array Keyed → StateT SortSt Sem (Array Keyed) := sortPriv% PySem.Builtin.mergeHi
section
variable {prog : Program} {w : World} {A : Around} {E : Value → Shared → Prop} {s : Shared}
noncomputable abbrev nk (p : Keyed) : Int := numOf p.1
noncomputable def IsI (p : Keyed) : Prop := ∃ n t, p.1 = .int n t
theorem wp_lt {st : SortSt} {x y : Keyed} {Q : Option Bool → SortSt → Prop} (hk : kindOf st = oneType') (hx : IsI x) (hy : IsI y)
    (h : Q (some (decide (nk x < nk y))) st) : wpS (model prog w) A E s (lt' x y) Q st := by
  obtain ⟨a, t, ha⟩ := hx
  obtain ⟨b, u, hb⟩ := hy
  rw [lt'_eq]
  refine wpS_bind (wpS_get ?_)
  rw [hk, keyLt'_oneType, ha, hb]
  refine wpS_bind (wpS_lift (wpAny_attempt (oneLt_int ⟨rfl, ?_⟩)))
  unfold nk at h
  rw [ha, hb] at h
  exact wpS_pure h
theorem wp_elem {st : SortSt} {xs : Array Keyed} {i : Nat} (hi : i < xs.size) {Q : Keyed → SortSt → Prop} (h : Q xs[i] st) :
    wpS (model prog w) A E s (elem' xs i) Q st := by
  rw [elem'_eq, getElem?_pos xs i hi]
  exact wpS_pure h
noncomputable def By (left : Bool) (k x : Int) : Bool := if left then decide (x < k) else !decide (k < x)
theorem By_mono {left : Bool} {k x y : Int} (h : x ≤ y) (hy : By left k y = true) : By left k x = true := by
  unfold By at *
  cases left <;> simp at * <;> omega
theorem isI_at {xs : Array Keyed} (h : IntKeys xs) {i : Nat} (hi : i < xs.size) : IsI xs[i] := h _ (by simp)
theorem wp_by {st : SortSt} {left : Bool} {key : Keyed} {xs : Array Keyed} {i : Nat} {Q : Option Bool → SortSt → Prop} (hk : kindOf st = oneType')
    (hx : IntKeys xs) (hkey : IsI key) (hi : i < xs.size) (h : Q (some (By left (nk key) (K xs i))) st) :
    wpS (model prog w) A E s (do
      let y ← elem' xs i
      if left then lt' y key else do
        let r ← lt' key y
        pure (Option.map (fun z => !z) r)) Q st := by
  refine wpS_bind (wp_elem hi ?_)
  rw [K_eq hi] at h
  cases left with
  | true => exact wp_lt hk (isI_at hx hi) hkey h
  | false => exact wpS_bind (wp_lt hk hkey (isI_at hx hi) (wpS_pure h))
theorem wp_gal {st : SortSt} {left : Bool} {key : Keyed} {xs : Array Keyed} {b n hint : Nat} {Q : Option Nat → SortSt → Prop} (hk : kindOf st = oneType')
    (hx : IntKeys xs) (hkey : IsI key) (hn : b + n ≤ xs.size) (hh : hint < n) (hs : ∀ i j, i ≤ j → j < n → K xs (b + i) ≤ K xs (b + j))
    (h : ∀ k, k ≤ n → (∀ i, i < k → By left (nk key) (K xs (b + i)) = true) → (∀ i, k ≤ i → i < n → By left (nk key) (K xs (b + i)) = false) → Q (some k) st) :
    wpS (model prog w) A E s (gal left key xs b n hint) Q st := by
  have dn : ∀ {i j}, i ≤ j → j < n → By left (nk key) (K xs (b + j)) = true → By left (nk key) (K xs (b + i)) = true := fun hij hj hb => By_mono (hs _ _ hij hj) hb
  have up : ∀ {i j}, i ≤ j → j < n → By left (nk key) (K xs (b + i)) = false → By left (nk key) (K xs (b + j)) = false := by
    intro i j hij hj hb
    cases e : By left (nk key) (K xs (b + j)) with
    | false => rfl
    | true => rw [dn hij hj e] at hb; exact hb
  unfold gal
  refine wpS_bind (wp_by (i := b + hint) hk hx hkey (by omega) ?_)
  try dsimp only
  by_cases hr : By left (nk key) (K xs (b + hint)) = true
  · rw [if_pos hr]
    refine wpS_bind (wpS_mono (wpS_forRange
      (I := fun x c st' => st' = st ∧ ∃ l o, c = (none, l, o) ∧ l < o ∧ x + 1 ≤ o ∧ hint + l < n ∧ By left (nk key) (K xs (b + (hint + l))) = true)
      (Q := fun c st' => st' = st ∧ ∃ l o, c = (none, l, o) ∧ l < o ∧ hint + l < n ∧ By left (nk key) (K xs (b + (hint + l))) = true ∧ (n - hint ≤ o ∨ By left (nk key) (K xs (b + (hint + o))) = false)) ?_ ?_ ⟨rfl, 0, 1, rfl, by omega, by omega, by omega, hr⟩) ?_)
    · rintro x c st' _ hxn ⟨rfl, l, o, rfl, hlo, hxo, hln, g1⟩
      try dsimp only
      by_cases hge : o ≥ n - hint
      · rw [if_pos hge]
        exact wpS_pure ⟨rfl, l, o, rfl, hlo, hln, g1, .inl hge⟩
      · rw [if_neg hge]
        refine wpS_bind (wp_by hk hx hkey (by omega) ?_)
        try dsimp only
        by_cases hb : By left (nk key) (K xs (b + (hint + o))) = true
        · rw [hb]
          exact wpS_pure ⟨rfl, _, _, rfl, by omega, by omega, by omega, hb⟩
        · have hb' : By left (nk key) (K xs (b + (hint + o))) = false := by simpa using hb
          rw [hb']
          exact wpS_pure ⟨rfl, l, o, rfl, hlo, hln, g1, .inr hb'⟩
    · rintro c st' ⟨rfl, l, o, rfl, hlo, hxo, hln, g1⟩
      exact ⟨rfl, l, o, rfl, hlo, hln, g1, .inl (by omega)⟩
    · rintro c st' ⟨rfl, l, o, rfl, hlo, hln, g1, g2⟩
      have F : hint + l + 1 ≤ hint + min o (n - hint) ∧ hint + min o (n - hint) ≤ n ∧ (∀ i, i < hint + l + 1 → By left (nk key) (K xs (b + i)) = true) ∧
          (∀ i, hint + min o (n - hint) ≤ i → i < n → By left (nk key) (K xs (b + i)) = false) := by
        refine ⟨by omega, by omega, fun i hi => dn (by omega) hln g1, fun i hi hin => ?_⟩
        rcases g2 with g2 | g2
        · omega
        · exact up (by omega) hin g2
      try dsimp only
      generalize hint + l + 1 = lo at F ⊢
      generalize hint + min o (n - hint) = hi at F ⊢
      obtain ⟨hlh, hhn, h1, h2⟩ := F
      refine wpS_bind (wpS_mono (wpS_forRange
        (I := fun x c st'' => st'' = st' ∧ ∃ l r, c = (none, l, r) ∧ l ≤ r ∧ r ≤ n ∧ r - l ≤ n - x ∧ (∀ i, i < l → By left (nk key) (K xs (b + i)) = true) ∧ (∀ i, r ≤ i → i < n → By left (nk key) (K xs (b + i)) = false))
        (Q := fun c st'' => st'' = st' ∧ ∃ r, c = (none, r, r) ∧ r ≤ n ∧ (∀ i, i < r → By left (nk key) (K xs (b + i)) = true) ∧ (∀ i, r ≤ i → i < n → By left (nk key) (K xs (b + i)) = false)) ?_ ?_ ⟨rfl, lo, hi, rfl, hlh, hhn, by omega, h1, h2⟩) ?_)
      · rintro x c st'' _ hxn ⟨rfl, l, r, rfl, hlr, hrn, hm, g1, g2⟩
        try dsimp only
        by_cases hge : l ≥ r
        · rw [if_pos hge]
          have e : l = r := by omega
          subst e
          exact wpS_pure ⟨rfl, l, rfl, hrn, g1, g2⟩
        · rw [if_neg hge]
          refine wpS_bind (wp_by hk hx hkey (by omega) ?_)
          try dsimp only
          by_cases hb : By left (nk key) (K xs (b + (l + (r - l) / 2))) = true
          · rw [if_pos hb]
            exact wpS_pure ⟨rfl, _, _, rfl, by omega, by omega, by omega, fun i hi => dn (by omega) (by omega) hb, g2⟩
          · rw [if_neg hb]
            exact wpS_pure ⟨rfl, _, _, rfl, by omega, by omega, by omega, g1, fun i hi hin => up hi hin (by simpa using hb)⟩
      · rintro c st'' ⟨rfl, l, r, rfl, hlr, hrn, hm, g1, g2⟩
        have e : l = r := by omega
        subst e
        exact ⟨rfl, l, rfl, hrn, g1, g2⟩
      · rintro c st'' ⟨rfl, r, rfl, hrn, g1, g2⟩
        exact wpS_pure (h r hrn g1 g2)
  · rw [if_neg hr]
    have hr' : By left (nk key) (K xs (b + hint)) = false := by simpa using hr
    refine wpS_bind (wpS_mono (wpS_forRange
      (I := fun x c st' => st' = st ∧ ∃ l o, c = (none, l, o) ∧ l < o ∧ x + 1 ≤ o ∧ l ≤ hint ∧ By left (nk key) (K xs (b + (hint - l))) = false)
      (Q := fun c st' => st' = st ∧ ∃ l o, c = (none, l, o) ∧ l < o ∧ l ≤ hint ∧ By left (nk key) (K xs (b + (hint - l))) = false ∧ (hint + 1 ≤ o ∨ (o ≤ hint ∧ By left (nk key) (K xs (b + (hint - o))) = true))) ?_ ?_ ⟨rfl, 0, 1, rfl, by omega, by omega, by omega, hr'⟩) ?_)
    · rintro x c st' _ hxn ⟨rfl, l, o, rfl, hlo, hxo, hln, g1⟩
      try dsimp only
      by_cases hge : o ≥ hint + 1
      · rw [if_pos hge]
        exact wpS_pure ⟨rfl, l, o, rfl, hlo, hln, g1, .inl hge⟩
      · rw [if_neg hge]
        refine wpS_bind (wp_by hk hx hkey (by omega) ?_)
        try dsimp only
        by_cases hb : By left (nk key) (K xs (b + (hint - o))) = true
        · rw [if_pos hb]
          exact wpS_pure ⟨rfl, l, o, rfl, hlo, hln, g1, .inr ⟨by omega, hb⟩⟩
        · rw [if_neg hb]
          exact wpS_pure ⟨rfl, _, _, rfl, by omega, by omega, by omega, by simpa using hb⟩
    · rintro c st' ⟨rfl, l, o, rfl, hlo, hxo, hln, g1⟩
      exact ⟨rfl, l, o, rfl, hlo, hln, g1, .inl (by omega)⟩
    · rintro c st' ⟨rfl, l, o, rfl, hlo, hln, g1, g2⟩
      have F : hint + 1 - min o (hint + 1) ≤ hint - l ∧ hint - l ≤ n ∧ (∀ i, i < hint + 1 - min o (hint + 1) → By left (nk key) (K xs (b + i)) = true) ∧
          (∀ i, hint - l ≤ i → i < n → By left (nk key) (K xs (b + i)) = false) := by
        refine ⟨by omega, by omega, fun i hi => ?_, fun i hi hin => up hi hin g1⟩
        rcases g2 with g2 | ⟨g2, g3⟩
        · omega
        · exact dn (by omega) (by omega) g3
      try dsimp only
      generalize hint + 1 - min o (hint + 1) = lo at F ⊢
      generalize hint - l = hi at F ⊢
      obtain ⟨hlh, hhn, h1, h2⟩ := F
      refine wpS_bind (wpS_mono (wpS_forRange
        (I := fun x c st'' => st'' = st' ∧ ∃ l r, c = (none, l, r) ∧ l ≤ r ∧ r ≤ n ∧ r - l ≤ n - x ∧ (∀ i, i < l → By left (nk key) (K xs (b + i)) = true) ∧ (∀ i, r ≤ i → i < n → By left (nk key) (K xs (b + i)) = false))
        (Q := fun c st'' => st'' = st' ∧ ∃ r, c = (none, r, r) ∧ r ≤ n ∧ (∀ i, i < r → By left (nk key) (K xs (b + i)) = true) ∧ (∀ i, r ≤ i → i < n → By left (nk key) (K xs (b + i)) = false)) ?_ ?_ ⟨rfl, lo, hi, rfl, hlh, hhn, by omega, h1, h2⟩) ?_)
      · rintro x c st'' _ hxn ⟨rfl, l, r, rfl, hlr, hrn, hm, g1, g2⟩
        try dsimp only
        by_cases hge : l ≥ r
        · rw [if_pos hge]
          have e : l = r := by omega
          subst e
          exact wpS_pure ⟨rfl, l, rfl, hrn, g1, g2⟩
        · rw [if_neg hge]
          refine wpS_bind (wp_by hk hx hkey (by omega) ?_)
          try dsimp only
          by_cases hb : By left (nk key) (K xs (b + (l + (r - l) / 2))) = true
          · rw [if_pos hb]
            exact wpS_pure ⟨rfl, _, _, rfl, by omega, by omega, by omega, fun i hi => dn (by omega) (by omega) hb, g2⟩
          · rw [if_neg hb]
            exact wpS_pure ⟨rfl, _, _, rfl, by omega, by omega, by omega, g1, fun i hi hin => up hi hin (by simpa using hb)⟩
      · rintro c st'' ⟨rfl, l, r, rfl, hlr, hrn, hm, g1, g2⟩
        have e : l = r := by omega
        subst e
        exact ⟨rfl, l, rfl, hrn, g1, g2⟩
      · rintro c st'' ⟨rfl, r, rfl, hrn, g1, g2⟩
        exact wpS_pure (h r hrn g1 g2)
end
end TS
namespace TS
open PySem PyProof.Rows
section
variable {prog : Program} {w : World} {A : Around} {E : Value → Shared → Prop} {s : Shared}
structure Inv (r : Keyed → Keyed → Prop) (tot out A B : List Keyed) : Prop where
  pa : (out ++ A).Pairwise r
  pb : (out ++ B).Pairwise r
  pm : (out ++ A ++ B).Perm tot
theorem Inv.swap {r : Keyed → Keyed → Prop} {tot out A B : List Keyed} (h : Inv r tot out A B) : Inv r tot out B A :=
  ⟨h.pb, h.pa, by
    refine List.Perm.trans ?_ h.pm
    rw [List.append_assoc, List.append_assoc]
    exact List.Perm.append_left _ List.perm_append_comm⟩
theorem Inv.takeA {r : Keyed → Keyed → Prop} {tot out X A B : List Keyed} (h : Inv r tot out (X ++ A) B) (hx : ∀ x ∈ X, ∀ y ∈ B, r x y) :
    Inv r tot (out ++ X) A B := by
  obtain ⟨pa, pb, pm⟩ := h
  rw [← List.append_assoc] at pa
  refine ⟨pa, ?_, by simpa [List.append_assoc] using pm⟩
  have pb' := List.pairwise_append.mp pb
  refine List.pairwise_append.mpr ⟨(List.pairwise_append.mp pa).1, pb'.2.1, fun x hx' y hy => ?_⟩
  rcases List.mem_append.mp hx' with h1 | h1
  · exact pb'.2.2 x h1 y hy
  · exact hx x h1 y hy
theorem Inv.takeB {r : Keyed → Keyed → Prop} {tot out X A B : List Keyed} (h : Inv r tot out A (X ++ B)) (hx : ∀ x ∈ X, ∀ y ∈ A, r x y) :
    Inv r tot (out ++ X) A B := (h.swap.takeA hx).swap
theorem Inv.fin {r : Keyed → Keyed → Prop} {tot out A B : List Keyed} (h : Inv r tot out A B) (hx : ∀ x ∈ A, ∀ y ∈ B, r x y) :
    (out ++ A ++ B).Pairwise r ∧ (out ++ A ++ B).Perm tot := by
  refine ⟨List.pairwise_append.mpr ⟨h.pa, (List.pairwise_append.mp h.pb).2.1, fun x hx' y hy => ?_⟩, h.pm⟩
  rcases List.mem_append.mp hx' with h1 | h1
  · exact (List.pairwise_append.mp h.pb).2.2 x h1 y hy
  · exact hx x h1 y hy
theorem Inv.finB {r : Keyed → Keyed → Prop} {tot out A B : List Keyed} (h : Inv r tot out A B) (hx : ∀ x ∈ B, ∀ y ∈ A, r x y) :
    (out ++ B ++ A).Pairwise r ∧ (out ++ B ++ A).Perm tot := h.swap.fin hx
structure Fr (st st' : SortSt) : Prop where
  kind : kindOf st' = oneType'
  arr : arrOf st' = arrOf st
  pend : pendingOf st' = pendingOf st
  failed : failedOf st' = failedOf st
theorem wp_setMG {st : SortSt} {g : Nat} {Q : Unit → SortSt → Prop} (h : Q () (SortSt.mk' (kindOf st) (arrOf st) (pendingOf st) g (failedOf st))) :
    wpS (model prog w) A E s (setMG g) Q st := by
  unfold setMG
  exact wpS_modify h
theorem ext_drop (xs : Array Keyed) (i : Nat) : (xs.extract i xs.size).toList = xs.toList.drop i := by
  rw [Array.toList_extract]
  simp
  rw [List.take_of_length_le (by simp)]
theorem ext_take (xs : Array Keyed) (i k : Nat) : (xs.extract i (i + k)).toList = (xs.toList.drop i).take k := by
  simp [List.take_drop]
noncomputable abbrev le (p q : Keyed) : Prop := nk p ≤ nk q
theorem nk_eq {xs : Array Keyed} {i : Nat} (hi : i < xs.size) : nk xs[i] = K xs i := (K_eq hi).symm
theorem pw_K {xs : Array Keyed} (h : xs.toList.Pairwise le) {i j : Nat} (hij : i ≤ j) (hj : j < xs.size) : K xs i ≤ K xs j := by
  rw [K_eq (Nat.lt_of_le_of_lt hij hj), K_eq hj]
  by_cases e : i = j
  · subst e; exact Int.le_refl _
  · have := List.pairwise_iff_getElem.mp h i j (by simp; omega) (by simpa using hj) (by omega)
    simpa using this
theorem mem_drop_K {xs : Array Keyed} {i : Nat} {y : Keyed} (hy : y ∈ xs.toList.drop i) : ∃ j, i ≤ j ∧ j < xs.size ∧ nk y = K xs j := by
  obtain ⟨k, hk, e⟩ := List.mem_iff_getElem.mp hy
  have hk' : i + k < xs.size := by simp at hk; omega
  refine ⟨i + k, by omega, hk', ?_⟩
  rw [K_eq hk', ← e]
  simp
theorem mem_drop_take_K {xs : Array Keyed} {i n : Nat} {y : Keyed} (hy : y ∈ (xs.toList.drop i).take n) : ∃ j, i ≤ j ∧ j < xs.size ∧ j < i + n ∧ nk y = K xs j := by
  obtain ⟨k, hk, e⟩ := List.mem_iff_getElem.mp hy
  have hk1 : k < n := by simp at hk; omega
  have hk' : i + k < xs.size := by simp at hk; omega
  refine ⟨i + k, by omega, hk', by omega, ?_⟩
  rw [K_eq hk', ← e]
  simp
theorem mem_take_K {xs : Array Keyed} {n : Nat} {y : Keyed} (hy : y ∈ xs.toList.take n) : ∃ j, j < xs.size ∧ j < n ∧ nk y = K xs j := by
  obtain ⟨k, hk, e⟩ := List.mem_iff_getElem.mp hy
  have hk1 : k < n := by simp at hk; omega
  have hk' : k < xs.size := by simp at hk; omega
  refine ⟨k, hk', hk1, ?_⟩
  rw [K_eq hk', ← e]
  simp
structure Lo (a b : Array Keyed) (out : Array Keyed) (ia ib : Nat) : Prop where
  inv : Inv le (a.toList ++ b.toList) out.toList (a.toList.drop ia) (b.toList.drop ib)
  la : ia ≤ a.size
  lb : ib ≤ b.size
  sz : out.size = ia + ib
noncomputable def Fin' (a b m : Array Keyed) : Prop := m.toList.Pairwise le ∧ m.toList.Perm (a.toList ++ b.toList)
section
variable {a b out : Array Keyed} {ia ib : Nat}
theorem Lo.takeA (h : Lo a b out ia ib) (sb : b.toList.Pairwise le) {k : Nat} (hk : ia + k ≤ a.size) (hx : ∀ i, i < k → ∀ j, ib ≤ j → j < b.size → K a (ia + i) ≤ K b j) :
    Lo a b (out ++ a.extract ia (ia + k)) (ia + k) ib := by
  refine ⟨?_, hk, h.lb, ?_⟩
  · rw [Array.toList_append, ext_take]
    refine Inv.takeA (A := a.toList.drop (ia + k)) ?_ ?_
    · rw [← List.drop_drop, List.take_append_drop]; exact h.inv
    · intro x hx' y hy
      obtain ⟨i, h1, h2, h3, e1⟩ := mem_drop_take_K hx'
      obtain ⟨j, g1, g2, e2⟩ := mem_drop_K hy
      show nk x ≤ nk y
      rw [e1, e2]
      have := hx (i - ia) (by omega) j g1 g2
      rwa [show ia + (i - ia) = i by omega] at this
  · rw [Array.size_append, Array.size_extract, h.sz]; omega
theorem Lo.takeB (h : Lo a b out ia ib) (sa : a.toList.Pairwise le) {k : Nat} (hk : ib + k ≤ b.size) (hx : ∀ i, i < k → ∀ j, ia ≤ j → j < a.size → K b (ib + i) ≤ K a j) :
    Lo a b (out ++ b.extract ib (ib + k)) ia (ib + k) := by
  refine ⟨?_, h.la, hk, ?_⟩
  · rw [Array.toList_append, ext_take]
    refine Inv.takeB (B := b.toList.drop (ib + k)) ?_ ?_
    · rw [← List.drop_drop, List.take_append_drop]; exact h.inv
    · intro x hx' y hy
      obtain ⟨i, h1, h2, h3, e1⟩ := mem_drop_take_K hx'
      obtain ⟨j, g1, g2, e2⟩ := mem_drop_K hy
      show nk x ≤ nk y
      rw [e1, e2]
      have := hx (i - ib) (by omega) j g1 g2
      rwa [show ib + (i - ib) = i by omega] at this
  · rw [Array.size_append, Array.size_extract, h.sz]; omega
theorem ext_one {xs : Array Keyed} {i : Nat} (hi : i < xs.size) : out ++ xs.extract i (i + 1) = out.push xs[i] := by
  apply Array.toList_inj.mp
  rw [Array.toList_append, ext_take, Array.toList_push, List.drop_eq_getElem_cons (by simpa using hi)]
  simp
theorem Lo.oneA (h : Lo a b out ia ib) (sb : b.toList.Pairwise le) (hi : ia < a.size) (hib : ib < b.size) (hx : K a ia ≤ K b ib) :
    Lo a b (out.push a[ia]) (ia + 1) ib := by
  rw [← ext_one hi]
  refine h.takeA sb (by omega) fun i hi' j h1 h2 => ?_
  have e : i = 0 := by omega
  subst e
  exact Int.le_trans hx (pw_K sb h1 h2)
theorem Lo.oneB (h : Lo a b out ia ib) (sa : a.toList.Pairwise le) (hi : ib < b.size) (hia : ia < a.size) (hx : K b ib ≤ K a ia) :
    Lo a b (out.push b[ib]) ia (ib + 1) := by
  rw [← ext_one hi]
  refine h.takeB sa (by omega) fun i hi' j h1 h2 => ?_
  have e : i = 0 := by omega
  subst e
  exact Int.le_trans hx (pw_K sa h1 h2)
theorem Lo.doneB (h : Lo a b out ia ib) (e : ib = b.size) : Fin' a b (out ++ a.extract ia a.size ++ b.extract ib b.size) := by
  have hx := h.inv.fin (by rw [List.drop_of_length_le (i := ib) (by simp; omega)]; simp)
  unfold Fin'
  rw [Array.toList_append, Array.toList_append, ext_drop, ext_drop]
  exact hx
theorem Lo.doneA (h : Lo a b out ia ib) (e : ia = a.size) : Fin' a b (out ++ a.extract ia a.size ++ b.extract ib b.size) := by
  have hx := h.inv.fin (by rw [List.drop_of_length_le (i := ia) (by simp; omega)]; simp)
  unfold Fin'
  rw [Array.toList_append, Array.toList_append, ext_drop, ext_drop]
  exact hx
theorem Lo.lastA (h : Lo a b out ia ib) (hl : ∀ j, j < b.size → K b j ≤ K a (a.size - 1)) (e : ia + 1 = a.size) : Fin' a b (out ++ b.extract ib b.size ++ a.extract ia a.size) := by
  have hx := h.inv.finB (by
    intro x hx' y hy
    obtain ⟨j, g1, g2, e2⟩ := mem_drop_K hx'
    obtain ⟨i, h1, h2, e1⟩ := mem_drop_K hy
    show nk x ≤ nk y
    rw [e1, e2, show i = a.size - 1 by omega]
    exact hl j g2)
  unfold Fin'
  rw [Array.toList_append, Array.toList_append, ext_drop, ext_drop]
  exact hx
end
theorem wp_mLo {st : SortSt} {a b : Array Keyed} {Q : Array Keyed → SortSt → Prop} (hk : kindOf st = oneType') (ha : IntKeys a) (hb : IntKeys b)
    (ha0 : 0 < a.size) (hb0 : 0 < b.size) (sa : a.toList.Pairwise le) (sb : b.toList.Pairwise le)
    (hfirst : K b 0 ≤ K a 0) (hl : ∀ j, j < b.size → K b j ≤ K a (a.size - 1))
    (h : ∀ m st', Fr st st' → Fin' a b m → Q m st') :
    wpS (model prog w) A E s (mLo a b) Q st := by
  have hF : Fr st st := ⟨hk, rfl, rfl, rfl⟩
  have L0 : Lo a b #[] 0 0 := ⟨⟨by simpa using sa, by simpa using sb, by simp⟩, by omega, by omega, rfl⟩
  have L1 : Lo a b #[b[0]] 0 1 := L0.oneB sa hb0 ha0 hfirst
  unfold mLo
  refine wpS_bind (wpS_lift (wpAny_rule ⟨rfl, ?_⟩))
  refine wpS_bind (wp_elem hb0 ?_)
  try dsimp only
  by_cases h1 : 1 = b.size
  · rw [if_pos (by simpa using h1)]
    exact wpS_pure (h _ _ hF (L1.doneB h1))
  rw [if_neg (by simpa using h1)]
  by_cases h2 : 0 + 1 = a.size
  · rw [if_pos (by simpa using h2)]
    exact wpS_pure (h _ _ hF (L1.lastA hl h2))
  rw [if_neg (by simpa using h2)]
  refine wpS_bind (wpS_get ?_)
  refine wpS_bind (wpS_mono (wpS_forRange
    (I := fun x c st' => Fr st st' ∧ ∃ out ia ib g, c = (none, out, ia, ib, g) ∧ Lo a b out ia ib ∧ ia + 1 < a.size ∧ ib < b.size ∧ x ≤ out.size)
    (Q := fun c st' => Fr st st' ∧ ∃ m rest, c = (some m, rest) ∧ Fin' a b m) ?_ ?_ ⟨hF, _, _, _, _, rfl, L1, by omega, by omega, by simp⟩) ?_)
  case refine_2 =>
    rintro c st' ⟨_, out, ia, ib, g, rfl, L, g1, g2, g3⟩
    have := L.sz
    omega
  case refine_3 =>
    rintro c st' ⟨hF', m, rest, rfl, hm⟩
    exact wpS_pure (h m st' hF' hm)
  rintro x c st1 _ hxN ⟨hF1, out0, ia0, ib0, g, rfl, L, g1, g2, g3⟩
  refine wpS_bind (wpS_mono (wpS_forRange
    (I := fun x c st' => st' = st1 ∧ ∃ out ia ib ac bc, c = (none, out, ia, ib, ac, bc) ∧ Lo a b out ia ib ∧ ia + 1 < a.size ∧ ib < b.size ∧ out0.size + x ≤ out.size)
    (Q := fun c st' => st' = st1 ∧ ((∃ m rest, c = (some m, rest) ∧ Fin' a b m) ∨
      ∃ out ia ib ac bc, c = (none, out, ia, ib, ac, bc) ∧ Lo a b out ia ib ∧ ia + 1 < a.size ∧ ib < b.size ∧ out0.size < out.size)) ?_ ?_ ⟨rfl, _, _, _, _, _, rfl, L, by omega, by omega, by simp⟩) ?_)
  case refine_2 =>
    rintro c st' ⟨_, out, ia, ib, ac, bc, rfl, L, g1, g2, g3⟩
    have := L.sz
    omega
  case refine_1 =>
    rintro y c st' _ _ ⟨rfl, out, ia, ib, ac, bc, rfl, L, g1, g2, g3⟩
    try dsimp only
    refine wpS_bind (wp_elem g2 ?_)
    refine wpS_bind (wp_elem (i := ia) (by omega) ?_)
    refine wpS_bind (wp_lt hF1.kind (isI_at hb _) (isI_at ha _) ?_)
    try dsimp only
    have e1 : nk b[ib] = K b ib := (K_eq g2).symm
    have e2 : nk a[ia] = K a ia := (K_eq (by omega)).symm
    rw [e1, e2]
    by_cases hw : K b ib < K a ia
    · rw [if_pos (by simpa using hw)]
      have L' := L.oneB sa g2 (by omega) (Int.le_of_lt hw)
      refine wpS_bind (wp_elem g2 ?_)
      by_cases he : ib + 1 = b.size
      · rw [if_pos (by simpa using he)]
        exact wpS_pure ⟨rfl, .inl ⟨_, _, rfl, L'.doneB he⟩⟩
      · rw [if_neg (by simpa using he)]
        split
        · exact wpS_pure ⟨rfl, .inr ⟨_, _, _, _, _, rfl, L', by omega, by omega, by simp; omega⟩⟩
        · exact wpS_pure ⟨rfl, _, _, _, _, _, rfl, L', by omega, by omega, by simp; omega⟩
    · rw [if_neg (by simpa using hw)]
      have L' := L.oneA sb (by omega) g2 (Int.not_lt.mp hw)
      refine wpS_bind (wp_elem (i := ia) (by omega) ?_)
      by_cases he : ia + 1 + 1 = a.size
      · rw [if_pos (by simpa using he)]
        exact wpS_pure ⟨rfl, .inl ⟨_, _, rfl, L'.lastA hl he⟩⟩
      · rw [if_neg (by simpa using he)]
        split
        · exact wpS_pure ⟨rfl, .inr ⟨_, _, _, _, _, rfl, L', by omega, by omega, by simp; omega⟩⟩
        · exact wpS_pure ⟨rfl, _, _, _, _, _, rfl, L', by omega, by omega, by simp; omega⟩
  rintro c st' ⟨rfl, hc⟩
  rcases hc with ⟨m, rest, rfl, hm⟩ | ⟨out1, ia1, ib1, ac1, bc1, rfl, L, g1, g2, g3'⟩
  · exact wpS_pure ⟨hF1, m, _, rfl, hm⟩
  try dsimp only
  refine wpS_bind (wpS_lift (wpAny_rule ⟨rfl, ?_⟩))
  refine wpS_bind (wpS_mono (wpS_forRange
    (I := fun x c st' => Fr st st' ∧ ∃ out ia ib g ac bc, c = (none, out, ia, ib, g, ac, bc) ∧ Lo a b out ia ib ∧ ia + 1 < a.size ∧ ib < b.size ∧ out1.size + x ≤ out.size)
    (Q := fun c st' => Fr st st' ∧ ((∃ m rest, c = (some m, rest) ∧ Fin' a b m) ∨
      ∃ out ia ib g ac bc, c = (none, out, ia, ib, g, ac, bc) ∧ Lo a b out ia ib ∧ ia + 1 < a.size ∧ ib < b.size ∧ out1.size ≤ out.size)) ?_ ?_ ⟨hF1, _, _, _, _, _, _, rfl, L, by omega, by omega, by simp⟩) ?_)
  case refine_2 =>
    rintro c st' ⟨_, out, ia, ib, g, ac, bc, rfl, L, g1, g2, g3⟩
    have := L.sz
    omega
  case refine_3 =>
    rintro c st2 ⟨hF2, hc⟩
    rcases hc with ⟨m, rest, rfl, hm⟩ | ⟨out2, ia2, ib2, gg, ac2, bc2, rfl, L, g1, g2, g3''⟩
    · exact wpS_pure ⟨hF2, m, _, rfl, hm⟩
    try dsimp only
    refine wpS_bind (wp_setMG (wpS_pure ⟨⟨hF2.kind, hF2.arr, hF2.pend, hF2.failed⟩, _, _, _, _, rfl, L, g1, g2, by omega⟩))
  rintro y c st3 _ _ ⟨hF3, out, ia, ib, g, ac, bc, rfl, L, g1, g2, g4⟩
  try dsimp only
  by_cases hg : g > 1 <;> first | rw [if_pos hg] | rw [if_neg hg]
  all_goals
    refine wpS_bind (wp_setMG ?_)
    refine wpS_bind (wp_elem g2 ?_)
    refine wpS_bind (wp_gal hF3.kind ha (isI_at hb g2) (by omega) (by omega) (fun i j hij hj => pw_K sa (by omega) (by omega)) ?_)
    intro k hkn q1 q2
    have q1' : ∀ i, i < k → K a (ia + i) ≤ K b ib := fun i hi => by
      have := q1 i hi; simp [By] at this; rwa [nk_eq g2] at this
    have q2' : ia + k < a.size → K b ib ≤ K a (ia + k) := fun hi => by
      have := q2 k (by omega) (by omega); simp [By] at this; rw [nk_eq g2] at this; omega
    clear q1 q2
    have LA := L.takeA sb (k := k) (by omega) (fun i hi j h1 h2 => Int.le_trans (q1' i hi) (pw_K sb h1 h2))
    try dsimp only
    by_cases hk0 : k > 0
    · rw [if_pos hk0]
      by_cases e1 : ia + k + 1 = a.size
      · rw [if_pos (by simpa using e1)]
        exact wpS_pure ⟨⟨hF3.kind, hF3.arr, hF3.pend, hF3.failed⟩, .inl ⟨_, _, rfl, LA.lastA hl e1⟩⟩
      rw [if_neg (by simpa using e1)]
      by_cases e2 : ia + k = a.size
      · rw [if_pos (by simpa using e2)]
        exact wpS_pure ⟨⟨hF3.kind, hF3.arr, hF3.pend, hF3.failed⟩, .inl ⟨_, _, rfl, LA.doneA e2⟩⟩
      rw [if_neg (by simpa using e2)]
      have LB := LA.oneB sa g2 (by omega) (q2' (by omega))
      refine wpS_bind (wp_elem g2 ?_)
      by_cases e3 : ib + 1 = b.size
      · rw [if_pos (by simpa using e3)]
        exact wpS_pure ⟨⟨hF3.kind, hF3.arr, hF3.pend, hF3.failed⟩, .inl ⟨_, _, rfl, LB.doneB e3⟩⟩
      rw [if_neg (by simpa using e3)]
      have gA : ia + k < a.size := by omega
      refine wpS_bind (wp_elem gA ?_)
      refine wpS_bind (wp_gal hF3.kind hb (isI_at ha gA) (by omega) (by omega) (fun i j hij hj => pw_K sb (by omega) (by omega)) ?_)
      intro k2 hkn2 p1 p2
      have p1' : ∀ i, i < k2 → K b (ib + 1 + i) ≤ K a (ia + k) := fun i hi => by
        have := p1 i hi; simp [By] at this; rw [nk_eq gA] at this; omega
      have p2' : ib + 1 + k2 < b.size → K a (ia + k) ≤ K b (ib + 1 + k2) := fun hi => by
        have := p2 k2 (by omega) (by omega); simp [By] at this; rwa [nk_eq gA] at this
      clear p1 p2
      have LC := LB.takeB sa (k := k2) (by omega) (fun i hi j h1 h2 => Int.le_trans (p1' i hi) (pw_K sa h1 h2))
      try dsimp only
      by_cases hk2 : k2 > 0
      · rw [if_pos hk2]
        by_cases e4 : ib + 1 + k2 = b.size
        · rw [if_pos (by simpa using e4)]
          exact wpS_pure ⟨⟨hF3.kind, hF3.arr, hF3.pend, hF3.failed⟩, .inl ⟨_, _, rfl, LC.doneB e4⟩⟩
        rw [if_neg (by simpa using e4)]
        have LD := LC.oneA sb gA (by omega) (p2' (by omega))
        have zz := LD.sz
        have z0 := L.sz
        refine wpS_bind (wp_elem gA ?_)
        by_cases e5 : ia + k + 1 + 1 = a.size
        · rw [if_pos (by simpa using e5)]
          exact wpS_pure ⟨⟨hF3.kind, hF3.arr, hF3.pend, hF3.failed⟩, .inl ⟨_, _, rfl, LD.lastA hl e5⟩⟩
        rw [if_neg (by simpa using e5)]
        split
        · exact wpS_pure ⟨⟨hF3.kind, hF3.arr, hF3.pend, hF3.failed⟩, .inr ⟨_, _, _, _, _, _, rfl, LD, by omega, by omega, by omega⟩⟩
        · exact wpS_pure ⟨⟨hF3.kind, hF3.arr, hF3.pend, hF3.failed⟩, _, _, _, _, _, _, rfl, LD, by omega, by omega, by omega⟩
      · rw [if_neg hk2]
        have ek2 : k2 = 0 := by omega
        subst ek2
        have LD := LB.oneA sb gA (by omega) (p2' (by omega))
        have zz := LD.sz
        have z0 := L.sz
        refine wpS_bind (wp_elem gA ?_)
        by_cases e5 : ia + k + 1 + 1 = a.size
        · rw [if_pos (by simpa using e5)]
          exact wpS_pure ⟨⟨hF3.kind, hF3.arr, hF3.pend, hF3.failed⟩, .inl ⟨_, _, rfl, LD.lastA hl e5⟩⟩
        rw [if_neg (by simpa using e5)]
        split
        · exact wpS_pure ⟨⟨hF3.kind, hF3.arr, hF3.pend, hF3.failed⟩, .inr ⟨_, _, _, _, _, _, rfl, LD, by omega, by omega, by omega⟩⟩
        · exact wpS_pure ⟨⟨hF3.kind, hF3.arr, hF3.pend, hF3.failed⟩, _, _, _, _, _, _, rfl, LD, by omega, by omega, by omega⟩
    · rw [if_neg hk0]
      have ek : k = 0 := by omega
      subst ek
      have LB := L.oneB sa g2 (by omega) (q2' (by omega))
      refine wpS_bind (wp_elem g2 ?_)
      by_cases e3 : ib + 1 = b.size
      · rw [if_pos (by simpa using e3)]
        exact wpS_pure ⟨⟨hF3.kind, hF3.arr, hF3.pend, hF3.failed⟩, .inl ⟨_, _, rfl, LB.doneB e3⟩⟩
      rw [if_neg (by simpa using e3)]
      have gA : ia < a.size := by omega
      refine wpS_bind (wp_elem gA ?_)
      refine wpS_bind (wp_gal hF3.kind hb (isI_at ha gA) (by omega) (by omega) (fun i j hij hj => pw_K sb (by omega) (by omega)) ?_)
      intro k2 hkn2 p1 p2
      have p1' : ∀ i, i < k2 → K b (ib + 1 + i) ≤ K a (ia) := fun i hi => by
        have := p1 i hi; simp [By] at this; rw [nk_eq gA] at this; omega
      have p2' : ib + 1 + k2 < b.size → K a (ia) ≤ K b (ib + 1 + k2) := fun hi => by
        have := p2 k2 (by omega) (by omega); simp [By] at this; rwa [nk_eq gA] at this
      clear p1 p2
      have LC := LB.takeB sa (k := k2) (by omega) (fun i hi j h1 h2 => Int.le_trans (p1' i hi) (pw_K sa h1 h2))
      try dsimp only
      by_cases hk2 : k2 > 0
      · rw [if_pos hk2]
        by_cases e4 : ib + 1 + k2 = b.size
        · rw [if_pos (by simpa using e4)]
          exact wpS_pure ⟨⟨hF3.kind, hF3.arr, hF3.pend, hF3.failed⟩, .inl ⟨_, _, rfl, LC.doneB e4⟩⟩
        rw [if_neg (by simpa using e4)]
        have LD := LC.oneA sb gA (by omega) (p2' (by omega))
        have zz := LD.sz
        have z0 := L.sz
        refine wpS_bind (wp_elem gA ?_)
        by_cases e5 : ia + 1 + 1 = a.size
        · rw [if_pos (by simpa using e5)]
          exact wpS_pure ⟨⟨hF3.kind, hF3.arr, hF3.pend, hF3.failed⟩, .inl ⟨_, _, rfl, LD.lastA hl e5⟩⟩
        rw [if_neg (by simpa using e5)]
        split
        · exact wpS_pure ⟨⟨hF3.kind, hF3.arr, hF3.pend, hF3.failed⟩, .inr ⟨_, _, _, _, _, _, rfl, LD, by omega, by omega, by omega⟩⟩
        · exact wpS_pure ⟨⟨hF3.kind, hF3.arr, hF3.pend, hF3.failed⟩, _, _, _, _, _, _, rfl, LD, by omega, by omega, by omega⟩
      · rw [if_neg hk2]
        have ek2 : k2 = 0 := by omega
        subst ek2
        have LD := LB.oneA sb gA (by omega) (p2' (by omega))
        have zz := LD.sz
        have z0 := L.sz
        refine wpS_bind (wp_elem gA ?_)
        by_cases e5 : ia + 1 + 1 = a.size
        · rw [if_pos (by simpa using e5)]
          exact wpS_pure ⟨⟨hF3.kind, hF3.arr, hF3.pend, hF3.failed⟩, .inl ⟨_, _, rfl, LD.lastA hl e5⟩⟩
        rw [if_neg (by simpa using e5)]
        split
        · exact wpS_pure ⟨⟨hF3.kind, hF3.arr, hF3.pend, hF3.failed⟩, .inr ⟨_, _, _, _, _, _, rfl, LD, by omega, by omega, by omega⟩⟩
        · exact wpS_pure ⟨⟨hF3.kind, hF3.arr, hF3.pend, hF3.failed⟩, _, _, _, _, _, _, rfl, LD, by omega, by omega, by omega⟩
end
end TS
namespace TS
open PySem PyProof.Rows
section
variable {prog : Program} {w : World} {A : Around} {E : Value → Shared → Prop} {s : Shared}
noncomputable abbrev ge (p q : Keyed) : Prop := le q p
structure Hi (a b : Array Keyed) (out : Array Keyed) (na nb : Nat) : Prop where
  inv : Inv ge (a.toList ++ b.toList) out.toList (a.toList.take na).reverse (b.toList.take nb).reverse
  la : na ≤ a.size
  lb : nb ≤ b.size
  sz : out.size + na + nb = a.size + b.size
section
variable {a b out : Array Keyed} {na nb : Nat}
theorem ext_0 (xs : Array Keyed) (n : Nat) : (xs.extract 0 n).toList = xs.toList.take n := by
  rw [Array.toList_extract]
  simp
theorem take_split {α : Type} {l : List α} {k n : Nat} (h : k ≤ n) : (l.take n).reverse = ((l.drop k).take (n - k)).reverse ++ (l.take k).reverse := by
  rw [← List.reverse_append]
  congr 1
  have e : n = k + (n - k) := by omega
  rw [e, List.take_add]
  congr 2
  omega
theorem ext_rev (xs : Array Keyed) {k n : Nat} (h : k ≤ n) : (out ++ (xs.extract k n).reverse).toList = out.toList ++ ((xs.toList.drop k).take (n - k)).reverse := by
  have e : xs.extract k n = xs.extract k (k + (n - k)) := by congr 1; omega
  rw [Array.toList_append, Array.toList_reverse, e, ext_take]
theorem Hi.takeA (h : Hi a b out na nb) {k : Nat} (hk : k ≤ na) (hx : ∀ i, k ≤ i → i < na → ∀ j, j < nb → K b j ≤ K a i) :
    Hi a b (out ++ (a.extract k na).reverse) k nb := by
  have := h.la
  refine ⟨?_, by omega, h.lb, ?_⟩
  · rw [ext_rev _ hk]
    refine Inv.takeA (A := (a.toList.take k).reverse) ?_ ?_
    · rw [← take_split hk]; exact h.inv
    · intro x hx' y hy
      obtain ⟨i, h1, h2, h3, e1⟩ := mem_drop_take_K (List.mem_reverse.mp hx')
      obtain ⟨j, g1, g2, e2⟩ := mem_take_K (List.mem_reverse.mp hy)
      show nk y ≤ nk x
      rw [e1, e2]
      exact hx i h1 (by omega) j g2
  · have := h.sz
    simp
    omega
theorem Hi.takeB (h : Hi a b out na nb) {k : Nat} (hk : k ≤ nb) (hx : ∀ i, k ≤ i → i < nb → ∀ j, j < na → K a j ≤ K b i) :
    Hi a b (out ++ (b.extract k nb).reverse) na k := by
  have := h.lb
  refine ⟨?_, h.la, by omega, ?_⟩
  · rw [ext_rev _ hk]
    refine Inv.takeB (B := (b.toList.take k).reverse) ?_ ?_
    · rw [← take_split hk]; exact h.inv
    · intro x hx' y hy
      obtain ⟨i, h1, h2, h3, e1⟩ := mem_drop_take_K (List.mem_reverse.mp hx')
      obtain ⟨j, g1, g2, e2⟩ := mem_take_K (List.mem_reverse.mp hy)
      show nk y ≤ nk x
      rw [e1, e2]
      exact hx i h1 (by omega) j g2
  · have := h.sz
    simp
    omega
theorem ext_oneR {xs : Array Keyed} {n : Nat} (h0 : 0 < n) (hi : n - 1 < xs.size) : out ++ (xs.extract (n - 1) n).reverse = out.push xs[n - 1] := by
  have e : xs.extract (n - 1) n = #[xs[n - 1]] := by
    have := ext_one (out := #[]) hi
    rw [show n - 1 + 1 = n by omega] at this
    simpa using this
  rw [e]
  simp
theorem Hi.oneA (h : Hi a b out na nb) (sb : b.toList.Pairwise le) (h0 : 0 < na) (hi : na - 1 < a.size) (hx : nb = 0 ∨ K b (nb - 1) ≤ K a (na - 1)) :
    Hi a b (out.push a[na - 1]) (na - 1) nb := by
  have := h.lb
  rw [← ext_oneR h0 hi]
  refine h.takeA (by omega) fun i h1 h2 j h3 => ?_
  have e : i = na - 1 := by omega
  subst e
  exact Int.le_trans (pw_K sb (i := j) (j := nb - 1) (by omega) (by omega)) (hx.resolve_left (by omega))
theorem Hi.oneB (h : Hi a b out na nb) (sa : a.toList.Pairwise le) (h0 : 0 < nb) (hi : nb - 1 < b.size) (hx : na = 0 ∨ K a (na - 1) ≤ K b (nb - 1)) :
    Hi a b (out.push b[nb - 1]) na (nb - 1) := by
  have := h.la
  rw [← ext_oneR h0 hi]
  refine h.takeB (by omega) fun i h1 h2 j h3 => ?_
  have e : i = nb - 1 := by omega
  subst e
  exact Int.le_trans (pw_K sa (i := j) (j := na - 1) (by omega) (by omega)) (hx.resolve_left (by omega))
theorem Hi.out_AB (h : Hi a b out na nb) (hx : ∀ x ∈ a.toList.take na, ∀ y ∈ b.toList.take nb, le x y) : Fin' a b (a.extract 0 na ++ b.extract 0 nb ++ out.reverse) := by
  have hx := h.inv.finB (by
    intro x hx' y hy
    exact hx y (List.mem_reverse.mp hy) x (List.mem_reverse.mp hx'))
  have e : (a.extract 0 na ++ b.extract 0 nb ++ out.reverse).toList = (out.toList ++ (b.toList.take nb).reverse ++ (a.toList.take na).reverse).reverse := by
    rw [Array.toList_append, Array.toList_append, ext_0, ext_0, Array.toList_reverse]
    simp
  unfold Fin'
  rw [e]
  exact ⟨List.pairwise_reverse.mpr hx.1, (List.reverse_perm _).trans hx.2⟩
theorem Hi.out_BA (h : Hi a b out na nb) (hx : ∀ x ∈ b.toList.take nb, ∀ y ∈ a.toList.take na, le x y) : Fin' a b (b.extract 0 nb ++ a.extract 0 na ++ out.reverse) := by
  have hx := h.inv.fin (by
    intro x hx' y hy
    exact hx y (List.mem_reverse.mp hy) x (List.mem_reverse.mp hx'))
  have e : (b.extract 0 nb ++ a.extract 0 na ++ out.reverse).toList = (out.toList ++ (a.toList.take na).reverse ++ (b.toList.take nb).reverse).reverse := by
    rw [Array.toList_append, Array.toList_append, ext_0, ext_0, Array.toList_reverse]
    simp
  unfold Fin'
  rw [e]
  exact ⟨List.pairwise_reverse.mpr hx.1, (List.reverse_perm _).trans hx.2⟩
theorem Hi.doneA (h : Hi a b out na nb) (e : na = 0) : Fin' a b (a.extract 0 na ++ b.extract 0 nb ++ out.reverse) := h.out_AB (by subst e; simp)
theorem Hi.doneB (h : Hi a b out na nb) (e : nb = 0) : Fin' a b (a.extract 0 na ++ b.extract 0 nb ++ out.reverse) := h.out_AB (by subst e; simp)
theorem Hi.firstB (h : Hi a b out na nb) (sa : a.toList.Pairwise le) (h0 : K b 0 ≤ K a 0) (e : nb = 1) : Fin' a b (b.extract 0 nb ++ a.extract 0 na ++ out.reverse) := h.out_BA (by
  intro x hx' y hy
  obtain ⟨i, h1, h2, e1⟩ := mem_take_K hx'
  obtain ⟨j, g1, g2, e2⟩ := mem_take_K hy
  have ei : i = 0 := by omega
  subst ei
  show nk x ≤ nk y
  rw [e1, e2]
  exact Int.le_trans h0 (pw_K sa (Nat.zero_le _) g1))
end
theorem wp_mHi {st : SortSt} {a b : Array Keyed} {Q : Array Keyed → SortSt → Prop} (hk : kindOf st = oneType') (ha : IntKeys a) (hb : IntKeys b)
    (ha0 : 0 < a.size) (hb0 : 0 < b.size) (sa : a.toList.Pairwise le) (sb : b.toList.Pairwise le)
    (hfirst : K b 0 ≤ K a 0) (hl : ∀ j, j < b.size → K b j ≤ K a (a.size - 1))
    (h : ∀ m st', Fr st st' → Fin' a b m → Q m st') :
    wpS (model prog w) A E s (mHi a b) Q st := by
  have hF : Fr st st := ⟨hk, rfl, rfl, rfl⟩
  have H0 : Hi a b #[] a.size b.size := by
    refine ⟨⟨?_, ?_, ?_⟩, by omega, by omega, by simp⟩
    · rw [List.take_of_length_le (by simp)]; exact List.pairwise_reverse.mpr sa
    · rw [List.take_of_length_le (by simp)]; exact List.pairwise_reverse.mpr sb
    · rw [List.take_of_length_le (by simp), List.take_of_length_le (by simp)]
      exact List.Perm.append (List.reverse_perm _) (List.reverse_perm _)
  have H1 : Hi a b #[a[a.size - 1]] (a.size - 1) b.size := H0.oneA sb ha0 (by omega) (.inr (hl _ (by omega)))
  unfold mHi
  refine wpS_bind (wpS_lift (wpAny_rule ⟨rfl, ?_⟩))
  refine wpS_bind (wp_elem (i := a.size - 1) (by omega) ?_)
  try dsimp only
  by_cases h1 : a.size - 1 = 0
  · rw [if_pos (by simpa using h1)]
    exact wpS_pure (h _ _ hF (H1.doneA h1))
  rw [if_neg (by simpa using h1)]
  by_cases h2 : b.size = 1
  · rw [if_pos (by simpa using h2)]
    exact wpS_pure (h _ _ hF (H1.firstB sa hfirst h2))
  rw [if_neg (by simpa using h2)]
  refine wpS_bind (wpS_get ?_)
  refine wpS_bind (wpS_mono (wpS_forRange
    (I := fun x c st' => Fr st st' ∧ ∃ na nb out g, c = (none, na, nb, out, g) ∧ Hi a b out na nb ∧ 0 < na ∧ 1 < nb ∧ x ≤ out.size)
    (Q := fun c st' => Fr st st' ∧ ∃ m rest, c = (some m, rest) ∧ Fin' a b m) ?_ ?_ ⟨hF, _, _, _, _, rfl, H1, by omega, by omega, by simp⟩) ?_)
  case refine_2 =>
    rintro c st' ⟨_, na, nb, out, g, rfl, L, g1, g2, g3⟩
    have := L.sz
    omega
  case refine_3 =>
    rintro c st' ⟨hF', m, rest, rfl, hm⟩
    exact wpS_pure (h m st' hF' hm)
  rintro x c st1 _ hxN ⟨hF1, na0, nb0, out0, g, rfl, L, g1, g2, g3⟩
  refine wpS_bind (wpS_mono (wpS_forRange
    (I := fun x c st' => st' = st1 ∧ ∃ na nb out ac bc, c = (none, na, nb, out, ac, bc) ∧ Hi a b out na nb ∧ 0 < na ∧ 1 < nb ∧ out0.size + x ≤ out.size)
    (Q := fun c st' => st' = st1 ∧ ((∃ m rest, c = (some m, rest) ∧ Fin' a b m) ∨
      ∃ na nb out ac bc, c = (none, na, nb, out, ac, bc) ∧ Hi a b out na nb ∧ 0 < na ∧ 1 < nb ∧ out0.size < out.size)) ?_ ?_ ⟨rfl, _, _, _, _, _, rfl, L, by omega, by omega, by simp⟩) ?_)
  case refine_2 =>
    rintro c st' ⟨_, na, nb, out, ac, bc, rfl, L, g1, g2, g3⟩
    have := L.sz
    omega
  case refine_1 =>
    rintro y c st' _ _ ⟨rfl, na, nb, out, ac, bc, rfl, L, g1, g2, g3⟩
    have la := L.la
    have lb := L.lb
    try dsimp only
    have gb : nb - 1 < b.size := by omega
    have ga : na - 1 < a.size := by omega
    refine wpS_bind (wp_elem gb ?_)
    refine wpS_bind (wp_elem ga ?_)
    refine wpS_bind (wp_lt hF1.kind (isI_at hb _) (isI_at ha _) ?_)
    try dsimp only
    rw [nk_eq gb, nk_eq ga]
    by_cases hw : K b (nb - 1) < K a (na - 1)
    · rw [if_pos (by simpa using hw)]
      have L' := L.oneA sb g1 ga (.inr (Int.le_of_lt hw))
      refine wpS_bind (wp_elem ga ?_)
      by_cases he : na - 1 = 0
      · rw [if_pos (by simpa using he)]
        exact wpS_pure ⟨rfl, .inl ⟨_, _, rfl, L'.doneA he⟩⟩
      · rw [if_neg (by simpa using he)]
        split
        · exact wpS_pure ⟨rfl, .inr ⟨_, _, _, _, _, rfl, L', by omega, by omega, by simp; omega⟩⟩
        · exact wpS_pure ⟨rfl, _, _, _, _, _, rfl, L', by omega, by omega, by simp; omega⟩
    · rw [if_neg (by simpa using hw)]
      have L' := L.oneB sa (by omega) gb (.inr (Int.not_lt.mp hw))
      refine wpS_bind (wp_elem gb ?_)
      by_cases he : nb - 1 = 1
      · rw [if_pos (by simpa using he)]
        exact wpS_pure ⟨rfl, .inl ⟨_, _, rfl, L'.firstB sa hfirst he⟩⟩
      · rw [if_neg (by simpa using he)]
        split
        · exact wpS_pure ⟨rfl, .inr ⟨_, _, _, _, _, rfl, L', by omega, by omega, by simp; omega⟩⟩
        · exact wpS_pure ⟨rfl, _, _, _, _, _, rfl, L', by omega, by omega, by simp; omega⟩
  rintro c st' ⟨rfl, hc⟩
  rcases hc with ⟨m, rest, rfl, hm⟩ | ⟨na1, nb1, out1, ac1, bc1, rfl, L, g1, g2, g3'⟩
  · exact wpS_pure ⟨hF1, m, _, rfl, hm⟩
  try dsimp only
  refine wpS_bind (wpS_lift (wpAny_rule ⟨rfl, ?_⟩))
  refine wpS_bind (wpS_mono (wpS_forRange
    (I := fun x c st' => Fr st st' ∧ ∃ na nb out g ac bc, c = (none, na, nb, out, g, ac, bc) ∧ Hi a b out na nb ∧ 0 < na ∧ 1 < nb ∧ out1.size + x ≤ out.size)
    (Q := fun c st' => Fr st st' ∧ ((∃ m rest, c = (some m, rest) ∧ Fin' a b m) ∨
      ∃ na nb out g ac bc, c = (none, na, nb, out, g, ac, bc) ∧ Hi a b out na nb ∧ 0 < na ∧ 1 < nb ∧ out1.size ≤ out.size)) ?_ ?_ ⟨hF1, _, _, _, _, _, _, rfl, L, by omega, by omega, by simp⟩) ?_)
  case refine_2 =>
    rintro c st' ⟨_, na, nb, out, g, ac, bc, rfl, L, g1, g2, g3⟩
    have := L.sz
    omega
  case refine_3 =>
    rintro c st2 ⟨hF2, hc⟩
    rcases hc with ⟨m, rest, rfl, hm⟩ | ⟨na2, nb2, out2, gg, ac2, bc2, rfl, L, g1, g2, g3''⟩
    · exact wpS_pure ⟨hF2, m, _, rfl, hm⟩
    try dsimp only
    refine wpS_bind (wp_setMG (wpS_pure ⟨⟨hF2.kind, hF2.arr, hF2.pend, hF2.failed⟩, _, _, _, _, rfl, L, g1, g2, by omega⟩))
  rintro y c st3 _ _ ⟨hF3, na, nb, out, g, ac, bc, rfl, L, g1, g2, g4⟩
  have la := L.la
  have lb := L.lb
  have gb : nb - 1 < b.size := by omega
  try dsimp only
  by_cases hg : g > 1 <;> first | rw [if_pos hg] | rw [if_neg hg]
  all_goals
    refine wpS_bind (wp_setMG ?_)
    refine wpS_bind (wp_elem gb ?_)
    refine wpS_bind (wp_gal hF3.kind ha (isI_at hb gb) (by omega) (by omega) (fun i j hij hj => pw_K sa (by omega) (by omega)) ?_)
    intro k hkn q1 q2
    simp only [Nat.zero_add] at q1 q2
    have q1' : 0 < k → K a (k - 1) ≤ K b (nb - 1) := fun hi => by
      have := q1 (k - 1) (by omega); simp [By] at this; rwa [nk_eq gb] at this
    have q2' : ∀ i, k ≤ i → i < na → K b (nb - 1) ≤ K a i := fun i h1 h2 => by
      have := q2 i h1 h2; simp [By] at this; rw [nk_eq gb] at this; omega
    clear q1 q2
    have LA := L.takeA (k := k) (by omega) (fun i h1 h2 j h3 => Int.le_trans (pw_K sb (i := j) (j := nb - 1) (by omega) (by omega)) (q2' i h1 h2))
    try dsimp only
    by_cases hk0 : na - k > 0
    · rw [if_pos hk0]
      by_cases e1 : k = 0
      · rw [if_pos (by simpa using e1)]
        exact wpS_pure ⟨⟨hF3.kind, hF3.arr, hF3.pend, hF3.failed⟩, .inl ⟨_, _, rfl, LA.doneA e1⟩⟩
      rw [if_neg (by simpa using e1)]
      have LB := LA.oneB sa (by omega) gb (.inr (q1' (by omega)))
      have gA : k - 1 < a.size := by omega
      have gA0 : 0 < k := by omega
      refine wpS_bind (wp_elem gb ?_)
      by_cases e3 : nb - 1 = 1
      · rw [if_pos (by simpa using e3)]
        exact wpS_pure ⟨⟨hF3.kind, hF3.arr, hF3.pend, hF3.failed⟩, .inl ⟨_, _, rfl, LB.firstB sa hfirst e3⟩⟩
      rw [if_neg (by simpa using e3)]
      refine wpS_bind (wp_elem gA ?_)
      refine wpS_bind (wp_gal hF3.kind hb (isI_at ha gA) (by omega) (by omega) (fun i j hij hj => pw_K sb (by omega) (by omega)) ?_)
      intro k2 hkn2 p1 p2
      simp only [Nat.zero_add] at p1 p2
      have p1' : 0 < k2 → K b (k2 - 1) ≤ K a (k - 1) := fun hi => by
        have := p1 (k2 - 1) (by omega); simp [By] at this; rw [nk_eq gA] at this; omega
      have p2' : ∀ i, k2 ≤ i → i < nb - 1 → K a (k - 1) ≤ K b i := fun i h1 h2 => by
        have := p2 i h1 h2; simp [By] at this; rwa [nk_eq gA] at this
      clear p1 p2
      have LC := LB.takeB (k := k2) (by omega) (fun i h1 h2 j h3 => Int.le_trans (pw_K sa (i := j) (j := k - 1) (by omega) (by omega)) (p2' i h1 h2))
      try dsimp only
      by_cases hk2 : nb - 1 - k2 > 0
      · rw [if_pos hk2]
        by_cases e4 : k2 = 1
        · rw [if_pos (by simpa using e4)]
          exact wpS_pure ⟨⟨hF3.kind, hF3.arr, hF3.pend, hF3.failed⟩, .inl ⟨_, _, rfl, LC.firstB sa hfirst e4⟩⟩
        rw [if_neg (by simpa using e4)]
        by_cases e6 : k2 = 0
        · rw [if_pos (by simpa using e6)]
          exact wpS_pure ⟨⟨hF3.kind, hF3.arr, hF3.pend, hF3.failed⟩, .inl ⟨_, _, rfl, LC.doneB e6⟩⟩
        rw [if_neg (by simpa using e6)]
        have LD := LC.oneA sb gA0 gA (.inr (p1' (by omega)))
        have zz := LD.sz
        have z0 := L.sz
        refine wpS_bind (wp_elem gA ?_)
        by_cases e5 : k - 1 = 0
        · rw [if_pos (by simpa using e5)]
          exact wpS_pure ⟨⟨hF3.kind, hF3.arr, hF3.pend, hF3.failed⟩, .inl ⟨_, _, rfl, LD.doneA e5⟩⟩
        rw [if_neg (by simpa using e5)]
        split
        · exact wpS_pure ⟨⟨hF3.kind, hF3.arr, hF3.pend, hF3.failed⟩, .inr ⟨_, _, _, _, _, _, rfl, LD, by omega, by omega, by omega⟩⟩
        · exact wpS_pure ⟨⟨hF3.kind, hF3.arr, hF3.pend, hF3.failed⟩, _, _, _, _, _, _, rfl, LD, by omega, by omega, by omega⟩
      · rw [if_neg hk2]
        have ek2 : k2 = nb - 1 := by omega
        subst ek2
        have LD := LB.oneA sb gA0 gA (.inr (p1' (by omega)))
        have zz := LD.sz
        have z0 := L.sz
        refine wpS_bind (wp_elem gA ?_)
        by_cases e5 : k - 1 = 0
        · rw [if_pos (by simpa using e5)]
          exact wpS_pure ⟨⟨hF3.kind, hF3.arr, hF3.pend, hF3.failed⟩, .inl ⟨_, _, rfl, LD.doneA e5⟩⟩
        rw [if_neg (by simpa using e5)]
        split
        · exact wpS_pure ⟨⟨hF3.kind, hF3.arr, hF3.pend, hF3.failed⟩, .inr ⟨_, _, _, _, _, _, rfl, LD, by omega, by omega, by omega⟩⟩
        · exact wpS_pure ⟨⟨hF3.kind, hF3.arr, hF3.pend, hF3.failed⟩, _, _, _, _, _, _, rfl, LD, by omega, by omega, by omega⟩
    · rw [if_neg hk0]
      have ek : k = na := by omega
      subst ek
      have LB := L.oneB sa (by omega) gb (.inr (q1' (by omega)))
      have gA : k - 1 < a.size := by omega
      have gA0 : 0 < k := by omega
      refine wpS_bind (wp_elem gb ?_)
      by_cases e3 : nb - 1 = 1
      · rw [if_pos (by simpa using e3)]
        exact wpS_pure ⟨⟨hF3.kind, hF3.arr, hF3.pend, hF3.failed⟩, .inl ⟨_, _, rfl, LB.firstB sa hfirst e3⟩⟩
      rw [if_neg (by simpa using e3)]
      refine wpS_bind (wp_elem gA ?_)
      refine wpS_bind (wp_gal hF3.kind hb (isI_at ha gA) (by omega) (by omega) (fun i j hij hj => pw_K sb (by omega) (by omega)) ?_)
      intro k2 hkn2 p1 p2
      simp only [Nat.zero_add] at p1 p2
      have p1' : 0 < k2 → K b (k2 - 1) ≤ K a (k - 1) := fun hi => by
        have := p1 (k2 - 1) (by omega); simp [By] at this; rw [nk_eq gA] at this; omega
      have p2' : ∀ i, k2 ≤ i → i < nb - 1 → K a (k - 1) ≤ K b i := fun i h1 h2 => by
        have := p2 i h1 h2; simp [By] at this; rwa [nk_eq gA] at this
      clear p1 p2
      have LC := LB.takeB (k := k2) (by omega) (fun i h1 h2 j h3 => Int.le_trans (pw_K sa (i := j) (j := k - 1) (by omega) (by omega)) (p2' i h1 h2))
      try dsimp only
      by_cases hk2 : nb - 1 - k2 > 0
      · rw [if_pos hk2]
        by_cases e4 : k2 = 1
        · rw [if_pos (by simpa using e4)]
          exact wpS_pure ⟨⟨hF3.kind, hF3.arr, hF3.pend, hF3.failed⟩, .inl ⟨_, _, rfl, LC.firstB sa hfirst e4⟩⟩
        rw [if_neg (by simpa using e4)]
        by_cases e6 : k2 = 0
        · rw [if_pos (by simpa using e6)]
          exact wpS_pure ⟨⟨hF3.kind, hF3.arr, hF3.pend, hF3.failed⟩, .inl ⟨_, _, rfl, LC.doneB e6⟩⟩
        rw [if_neg (by simpa using e6)]
        have LD := LC.oneA sb gA0 gA (.inr (p1' (by omega)))
        have zz := LD.sz
        have z0 := L.sz
        refine wpS_bind (wp_elem gA ?_)
        by_cases e5 : k - 1 = 0
        · rw [if_pos (by simpa using e5)]
          exact wpS_pure ⟨⟨hF3.kind, hF3.arr, hF3.pend, hF3.failed⟩, .inl ⟨_, _, rfl, LD.doneA e5⟩⟩
        rw [if_neg (by simpa using e5)]
        split
        · exact wpS_pure ⟨⟨hF3.kind, hF3.arr, hF3.pend, hF3.failed⟩, .inr ⟨_, _, _, _, _, _, rfl, LD, by omega, by omega, by omega⟩⟩
        · exact wpS_pure ⟨⟨hF3.kind, hF3.arr, hF3.pend, hF3.failed⟩, _, _, _, _, _, _, rfl, LD, by omega, by omega, by omega⟩
      · rw [if_neg hk2]
        have ek2 : k2 = nb - 1 := by omega
        subst ek2
        have LD := LB.oneA sb gA0 gA (.inr (p1' (by omega)))
        have zz := LD.sz
        have z0 := L.sz
        refine wpS_bind (wp_elem gA ?_)
        by_cases e5 : k - 1 = 0
        · rw [if_pos (by simpa using e5)]
          exact wpS_pure ⟨⟨hF3.kind, hF3.arr, hF3.pend, hF3.failed⟩, .inl ⟨_, _, rfl, LD.doneA e5⟩⟩
        rw [if_neg (by simpa using e5)]
        split
        · exact wpS_pure ⟨⟨hF3.kind, hF3.arr, hF3.pend, hF3.failed⟩, .inr ⟨_, _, _, _, _, _, rfl, LD, by omega, by omega, by omega⟩⟩
        · exact wpS_pure ⟨⟨hF3.kind, hF3.arr, hF3.pend, hF3.failed⟩, _, _, _, _, _, _, rfl, LD, by omega, by omega, by omega⟩
end
end TS
namespace TS
open PySem PyProof.Rows
section
variable {prog : Program} {w : World} {A : Around} {E : Value → Shared → Prop} {s : Shared} {a₀ : Array Keyed}
structure G (a₀ : Array Keyed) (st : SortSt) : Prop where
  perm : (arrOf st).Perm a₀
  kind : kindOf st = oneType'
  failed : failedOf st = none
theorem G.size {st : SortSt} (h : G a₀ st) : (arrOf st).size = a₀.size := h.perm.size_eq
theorem G.ints {st : SortSt} (h : G a₀ st) (h0 : IntKeys a₀) : IntKeys (arrOf st) := fun p hp => h0 p ((Array.perm_iff_toList_perm.mp h.perm).mem_iff.mp hp)
theorem G.arr {st : SortSt} (h : G a₀ st) {xs : Array Keyed} (hp : xs.Perm (arrOf st)) : G a₀ (setArr st xs) := ⟨hp.trans h.perm, h.kind, h.failed⟩
theorem wp_ltG {st : SortSt} {i j : Nat} {Q : Option Bool → SortSt → Prop} (h : G a₀ st) (h0 : IntKeys a₀) (hi : i < a₀.size) (hj : j < a₀.size)
    (hq : Q (some (decide (K (arrOf st) i < K (arrOf st) j))) st) : wpS (model prog w) A E s (ltAt' i j) Q st := by
  have hi' : i < (arrOf st).size := by rw [h.size]; exact hi
  have hj' : j < (arrOf st).size := by rw [h.size]; exact hj
  rw [ltAt'_eq]
  refine wpS_bind (wpS_get ?_)
  refine wpS_bind (wp_elem hi' ?_)
  refine wpS_bind (wp_elem hj' ?_)
  refine wp_lt h.kind (isI_at (h.ints h0) hi') (isI_at (h.ints h0) hj') ?_
  rw [nk_eq hi', nk_eq hj']
  exact hq
noncomputable def Sg (xs : Array Keyed) (lo hi : Nat) : Prop := ∀ i j, lo ≤ i → i ≤ j → j < hi → K xs i ≤ K xs j
noncomputable def Ng (xs : Array Keyed) (lo hi : Nat) : Prop := ∀ i j, lo ≤ i → i ≤ j → j < hi → K xs j ≤ K xs i
theorem Sg.one (xs : Array Keyed) (lo : Nat) : Sg xs lo (lo + 1) := fun i j h1 h2 h3 => by
  have e : i = j := by omega
  subst e; exact Int.le_refl _
theorem Sg.ext {xs : Array Keyed} {lo hi : Nat} (h : Sg xs lo hi) (hk : lo < hi → K xs (hi - 1) ≤ K xs hi) : Sg xs lo (hi + 1) := fun i j h1 h2 h3 => by
  by_cases e : j < hi
  · exact h i j h1 h2 e
  · have ej : j = hi := by omega
    subst ej
    by_cases ei : i = j
    · subst ei; exact Int.le_refl _
    · exact Int.le_trans (h i (j - 1) h1 (by omega) (by omega)) (hk (by omega))
theorem Ng.ext {xs : Array Keyed} {lo hi : Nat} (h : Ng xs lo hi) (hk : lo < hi → K xs hi ≤ K xs (hi - 1)) : Ng xs lo (hi + 1) := fun i j h1 h2 h3 => by
  by_cases e : j < hi
  · exact h i j h1 h2 e
  · have ej : j = hi := by omega
    subst ej
    by_cases ei : i = j
    · subst ei; exact Int.le_refl _
    · exact Int.le_trans (hk (by omega)) (h i (j - 1) h1 (by omega) (by omega))
theorem Ng.of {xs ys : Array Keyed} {lo hi : Nat} (h : Ng xs lo hi) (hk : ∀ k, K ys k = K xs k) : Ng ys lo hi := fun i j h1 h2 h3 => by
  rw [hk, hk]; exact h i j h1 h2 h3
structure C (a₀ : Array Keyed) (st₀ : SortSt) (lo : Nat) (st : SortSt) : Prop where
  g : G a₀ st
  pend : pendingOf st = pendingOf st₀
  low : ∀ i, i < lo → K (arrOf st) i = K (arrOf st₀) i
theorem C.rev {st₀ st : SortSt} {lo i j : Nat} (h : C a₀ st₀ lo st) (hi : lo ≤ i) (hj : j ≤ a₀.size) : C a₀ st₀ lo (setArr st (mirror (arrOf st) i j ((j - i) / 2))) := by
  refine ⟨h.g.arr (mirror_perm _ _ _ _), h.pend, fun k hk => ?_⟩
  show K (mirror (arrOf st) i j ((j - i) / 2)) k = _
  rw [K_mirror (by rw [h.g.size]; exact hj), if_neg (by omega)]
  exact h.low k hk
theorem wp_countRun {st : SortSt} {lo nrem : Nat} {Q : Option Nat → SortSt → Prop} (h0 : IntKeys a₀) (hn : lo + nrem ≤ a₀.size) (h1 : 1 ≤ nrem) (hG : G a₀ st)
    (h : ∀ m st', C a₀ st lo st' → 1 ≤ m → m ≤ nrem → Sg (arrOf st') lo (lo + m) → Q (some m) st') :
    wpS (model prog w) A E s (countRun' lo nrem) Q st := by
  have hC : C a₀ st lo st := ⟨hG, rfl, fun _ _ => rfl⟩
  unfold countRun'
  refine wpS_bind (wpS_mono (wpS_forRange
    (I := fun x c st' => st' = st ∧ c = (none, x) ∧ Sg (arrOf st) lo (lo + x))
    (Q := fun c st' => st' = st ∧ ∃ n, c = (none, n) ∧ 1 ≤ n ∧ n ≤ nrem ∧ Sg (arrOf st) lo (lo + n) ∧ (n = nrem ∨ K (arrOf st) (lo + n) < K (arrOf st) (lo + n - 1))) ?_ ?_ ⟨rfl, rfl, Sg.one _ _⟩) ?_)
  · rintro x c st' h2 h3 ⟨rfl, rfl, h4⟩
    try dsimp only
    refine wpS_bind (wp_ltG hG h0 (by omega) (by omega) ?_)
    try dsimp only
    by_cases hw : K (arrOf st') (lo + x) < K (arrOf st') (lo + x - 1)
    · rw [if_pos (by simpa using hw)]
      exact wpS_pure ⟨rfl, _, rfl, h2, by omega, h4, .inr hw⟩
    · rw [if_neg (by simpa using hw)]
      exact wpS_pure ⟨rfl, rfl, h4.ext fun _ => Int.not_lt.mp hw⟩
  · rintro c st' ⟨rfl, rfl, h4⟩
    rw [show max 1 nrem = nrem by omega] at h4 ⊢
    exact ⟨rfl, _, rfl, h1, Nat.le_refl _, h4, .inl rfl⟩
  rintro c st' ⟨rfl, n, rfl, hn1, hn2, hS, hor⟩
  try dsimp only
  by_cases e1 : n = nrem
  · rw [if_pos (by simpa using e1)]
    exact wpS_pure (h n _ hC hn1 hn2 hS)
  rw [if_neg (by simpa using e1)]
  have hlt : K (arrOf st') (lo + n) < K (arrOf st') (lo + n - 1) := hor.resolve_left e1
  by_cases e2 : n > 1
  · rw [if_pos e2]
    refine wpS_bind (wp_ltG hG h0 (by omega) (by omega) ?_)
    try dsimp only
    by_cases hrose : K (arrOf st') lo < K (arrOf st') (lo + n - 1)
    · rw [if_pos (by simpa using hrose)]
      exact wpS_pure (h n _ hC hn1 hn2 hS)
    rw [if_neg (by simpa using hrose)]
    refine wpS_bind (wpS_reverse ?_)
    have hsz : lo + n ≤ (arrOf st').size := by rw [hG.size]; omega
    have hall : ∀ k, lo ≤ k → k < lo + n → K (arrOf st') k = K (arrOf st') (lo + n - 1) := by
      intro k h2 h3
      have a1 := hS lo k (Nat.le_refl _) h2 h3
      have a2 := hS k (lo + n - 1) h2 (by omega) (by omega)
      omega
    have hN : Ng (arrOf (setArr st' (mirror (arrOf st') lo (lo + n) ((lo + n - lo) / 2)))) lo (lo + (n + 1)) := by
      refine Ng.of (xs := arrOf st') ?_ (K_mirror_equal hsz hall)
      refine Ng.ext (hi := lo + n) (fun i j h2 h3 h4 => ?_) (fun _ => Int.le_of_lt hlt)
      rw [hall i (by omega) (by omega), hall j (by omega) (by omega)]
      exact Int.le_refl _
    have hC2 := hC.rev (i := lo) (j := lo + n) (Nat.le_refl _) (by omega)
    generalize setArr st' (mirror (arrOf st') lo (lo + n) ((lo + n - lo) / 2)) = st2 at hN hC2 ⊢
    refine wpS_bind (wpS_lift (wpAny_rule ⟨rfl, ?_⟩))
    refine wpS_bind (wpS_mono (wpS_forRange
      (I := fun x c st'' => ∃ neq, c = (none, x, neq) ∧ C a₀ st' lo st'' ∧ Ng (arrOf st'') lo (lo + x) ∧ neq + 1 ≤ x ∧ (∀ i, lo + x - (neq + 1) ≤ i → i < lo + x → K (arrOf st'') i = K (arrOf st'') (lo + x - 1)))
      (Q := fun c st'' => ∃ x neq, c = (none, x, neq) ∧ 1 ≤ x ∧ x ≤ nrem ∧ C a₀ st' lo st'' ∧ Ng (arrOf st'') lo (lo + x) ∧ neq + 1 ≤ x ∧ (∀ i, lo + x - (neq + 1) ≤ i → i < lo + x → K (arrOf st'') i = K (arrOf st'') (lo + x - 1)))
      ?_ ?_ ⟨0, rfl, hC2, hN, by omega, fun i h2 h3 => by congr 1; omega⟩) ?_)
    · rintro x c st3 h2 h3 ⟨neq, rfl, hC3, hN3, hq, he⟩
      have hsz : lo + x ≤ (arrOf st3).size := by rw [hC3.g.size]; omega
      try dsimp only
      refine wpS_bind (wp_ltG hC3.g h0 (by omega) (by omega) ?_)
      try dsimp only
      by_cases hw : K (arrOf st3) (lo + x) < K (arrOf st3) (lo + x - 1)
      · rw [if_pos (by simpa using hw)]
        have hN4 := hN3.ext fun _ => Int.le_of_lt hw
        by_cases hneq : neq > 0
        · rw [if_pos hneq]
          refine wpS_bind (wpS_reverse (wpS_pure ⟨0, rfl, hC3.rev (by omega) (by omega), hN4.of (K_mirror_equal hsz he), by omega, fun i h2 h3 => by congr 1; omega⟩))
        · rw [if_neg hneq]
          exact wpS_pure ⟨0, rfl, hC3, hN4, by omega, fun i h2 h3 => by congr 1; omega⟩
      · rw [if_neg (by simpa using hw)]
        refine wpS_bind (wp_ltG hC3.g h0 (by omega) (by omega) ?_)
        try dsimp only
        by_cases hv : K (arrOf st3) (lo + x - 1) < K (arrOf st3) (lo + x)
        · rw [if_pos (by simpa using hv)]
          exact wpS_pure ⟨x, neq, rfl, by omega, by omega, hC3, hN3, hq, he⟩
        · rw [if_neg (by simpa using hv)]
          refine wpS_pure ⟨neq + 1, rfl, hC3, hN3.ext fun _ => Int.not_lt.mp hv, by omega, fun i h4 h5 => ?_⟩
          rw [show lo + (x + 1) - 1 = lo + x by omega]
          by_cases ei : i = lo + x
          · subst ei; rfl
          · rw [he i (by omega) (by omega)]; omega
    · rintro c st3 ⟨neq, rfl, hC3, hN3, hq, he⟩
      rw [show max (n + 1) nrem = nrem by omega] at hN3 hq he ⊢
      exact ⟨nrem, neq, rfl, by omega, Nat.le_refl _, hC3, hN3, hq, he⟩
    rintro c st3 ⟨x, neq, rfl, hx1, hx2, hC3, hN3, hq, he⟩
    have hsz : lo + x ≤ (arrOf st3).size := by rw [hC3.g.size]; omega
    try dsimp only
    by_cases hneq : neq > 0 <;> first | rw [if_pos hneq] | rw [if_neg hneq]
    case' pos =>
      refine wpS_bind (wpS_reverse ?_)
      have hN4 := hN3.of (K_mirror_equal (i := lo + x - (neq + 1)) hsz he)
      have hC4 := hC3.rev (i := lo + x - (neq + 1)) (j := lo + x) (by omega) (by omega)
      have hsz4 : lo + x ≤ (arrOf (setArr st3 (mirror (arrOf st3) (lo + x - (neq + 1)) (lo + x) ((lo + x - (lo + x - (neq + 1))) / 2)))).size := by rw [hC4.g.size]; omega
      change Ng (arrOf (setArr st3 (mirror (arrOf st3) (lo + x - (neq + 1)) (lo + x) ((lo + x - (lo + x - (neq + 1))) / 2)))) lo (lo + x) at hN4
      generalize setArr st3 (mirror (arrOf st3) (lo + x - (neq + 1)) (lo + x) ((lo + x - (lo + x - (neq + 1))) / 2)) = st4 at hN4 hC4 hsz4 ⊢
    case' neg =>
      have hN4 := hN3
      have hC4 := hC3
      have hsz4 := hsz
      generalize e34 : st3 = st4 at hN4 hC4 hsz4
    all_goals
      refine wpS_bind (wpS_reverse ?_)
      have hC5 := hC4.rev (i := lo) (j := lo + x) (Nat.le_refl _) (by omega)
      have hS5 : Sg (arrOf (setArr st4 (mirror (arrOf st4) lo (lo + x) ((lo + x - lo) / 2)))) lo (lo + x) := by
        intro i j h2 h3 h4
        show K (mirror (arrOf st4) lo (lo + x) ((lo + x - lo) / 2)) i ≤ K (mirror (arrOf st4) lo (lo + x) ((lo + x - lo) / 2)) j
        rw [K_mirror hsz4, K_mirror hsz4, if_pos (by omega), if_pos (by omega)]
        exact hN4 _ _ (by omega) (by omega) (by omega)
      generalize setArr st4 (mirror (arrOf st4) lo (lo + x) ((lo + x - lo) / 2)) = st5 at hC5 hS5 ⊢
      refine wpS_bind (wpS_mono (wpS_forRange
        (I := fun y c st' => st' = st5 ∧ c = (none, y) ∧ Sg (arrOf st5) lo (lo + y))
        (Q := fun c st' => st' = st5 ∧ ∃ n, c = (none, n) ∧ 1 ≤ n ∧ n ≤ nrem ∧ Sg (arrOf st5) lo (lo + n)) ?_ ?_ ⟨rfl, rfl, hS5⟩) ?_)
      · rintro y c st' h2 h3 ⟨rfl, rfl, h4⟩
        try dsimp only
        refine wpS_bind (wp_ltG hC5.g h0 (by omega) (by omega) ?_)
        try dsimp only
        by_cases hw : K (arrOf st') (lo + y) < K (arrOf st') (lo + y - 1)
        · rw [if_pos (by simpa using hw)]
          exact wpS_pure ⟨rfl, _, rfl, by omega, by omega, h4⟩
        · rw [if_neg (by simpa using hw)]
          exact wpS_pure ⟨rfl, rfl, h4.ext fun _ => Int.not_lt.mp hw⟩
      · rintro c st' ⟨rfl, rfl, h4⟩
        rw [show max x nrem = nrem by omega] at h4 ⊢
        exact ⟨rfl, _, rfl, h1, Nat.le_refl _, h4⟩
      rintro c st' ⟨rfl, n, rfl, hn1, hn2, hS⟩
      exact wpS_pure (h n _ hC5 hn1 hn2 hS)
  · rw [if_neg e2]
    have en : n = 1 := by omega
    subst en
    have hN : Ng (arrOf st') lo (lo + (1 + 1)) := Ng.ext (hi := lo + 1) (fun i j h2 h3 h4 => by
      have e : i = j := by omega
      subst e; exact Int.le_refl _) (fun _ => Int.le_of_lt hlt)
    obtain ⟨st2, est, hC2, hN⟩ : ∃ st2, st2 = st' ∧ C a₀ st' lo st2 ∧ Ng (arrOf st2) lo (lo + (1 + 1)) := ⟨st', rfl, hC, hN⟩
    suffices hgoal : wpS (model prog w) A E s _ Q st2 by rw [est] at hgoal; exact hgoal
    refine wpS_bind (wpS_lift (wpAny_rule ⟨rfl, ?_⟩))
    refine wpS_bind (wpS_mono (wpS_forRange
      (I := fun x c st'' => ∃ neq, c = (none, x, neq) ∧ C a₀ st' lo st'' ∧ Ng (arrOf st'') lo (lo + x) ∧ neq + 1 ≤ x ∧ (∀ i, lo + x - (neq + 1) ≤ i → i < lo + x → K (arrOf st'') i = K (arrOf st'') (lo + x - 1)))
      (Q := fun c st'' => ∃ x neq, c = (none, x, neq) ∧ 1 ≤ x ∧ x ≤ nrem ∧ C a₀ st' lo st'' ∧ Ng (arrOf st'') lo (lo + x) ∧ neq + 1 ≤ x ∧ (∀ i, lo + x - (neq + 1) ≤ i → i < lo + x → K (arrOf st'') i = K (arrOf st'') (lo + x - 1)))
      ?_ ?_ ⟨0, rfl, hC2, hN, by omega, fun i h2 h3 => by congr 1; omega⟩) ?_)
    · rintro x c st3 h2 h3 ⟨neq, rfl, hC3, hN3, hq, he⟩
      have hsz : lo + x ≤ (arrOf st3).size := by rw [hC3.g.size]; omega
      try dsimp only
      refine wpS_bind (wp_ltG hC3.g h0 (by omega) (by omega) ?_)
      try dsimp only
      by_cases hw : K (arrOf st3) (lo + x) < K (arrOf st3) (lo + x - 1)
      · rw [if_pos (by simpa using hw)]
        have hN4 := hN3.ext fun _ => Int.le_of_lt hw
        by_cases hneq : neq > 0
        · rw [if_pos hneq]
          refine wpS_bind (wpS_reverse (wpS_pure ⟨0, rfl, hC3.rev (by omega) (by omega), hN4.of (K_mirror_equal hsz he), by omega, fun i h2 h3 => by congr 1; omega⟩))
        · rw [if_neg hneq]
          exact wpS_pure ⟨0, rfl, hC3, hN4, by omega, fun i h2 h3 => by congr 1; omega⟩
      · rw [if_neg (by simpa using hw)]
        refine wpS_bind (wp_ltG hC3.g h0 (by omega) (by omega) ?_)
        try dsimp only
        by_cases hv : K (arrOf st3) (lo + x - 1) < K (arrOf st3) (lo + x)
        · rw [if_pos (by simpa using hv)]
          exact wpS_pure ⟨x, neq, rfl, by omega, by omega, hC3, hN3, hq, he⟩
        · rw [if_neg (by simpa using hv)]
          refine wpS_pure ⟨neq + 1, rfl, hC3, hN3.ext fun _ => Int.not_lt.mp hv, by omega, fun i h4 h5 => ?_⟩
          rw [show lo + (x + 1) - 1 = lo + x by omega]
          by_cases ei : i = lo + x
          · subst ei; rfl
          · rw [he i (by omega) (by omega)]; omega
    · rintro c st3 ⟨neq, rfl, hC3, hN3, hq, he⟩
      rw [show max (1 + 1) nrem = nrem by omega] at hN3 hq he ⊢
      exact ⟨nrem, neq, rfl, by omega, Nat.le_refl _, hC3, hN3, hq, he⟩
    rintro c st3 ⟨x, neq, rfl, hx1, hx2, hC3, hN3, hq, he⟩
    have hsz : lo + x ≤ (arrOf st3).size := by rw [hC3.g.size]; omega
    try dsimp only
    by_cases hneq : neq > 0 <;> first | rw [if_pos hneq] | rw [if_neg hneq]
    case' pos =>
      refine wpS_bind (wpS_reverse ?_)
      have hN4 := hN3.of (K_mirror_equal (i := lo + x - (neq + 1)) hsz he)
      have hC4 := hC3.rev (i := lo + x - (neq + 1)) (j := lo + x) (by omega) (by omega)
      have hsz4 : lo + x ≤ (arrOf (setArr st3 (mirror (arrOf st3) (lo + x - (neq + 1)) (lo + x) ((lo + x - (lo + x - (neq + 1))) / 2)))).size := by rw [hC4.g.size]; omega
      change Ng (arrOf (setArr st3 (mirror (arrOf st3) (lo + x - (neq + 1)) (lo + x) ((lo + x - (lo + x - (neq + 1))) / 2)))) lo (lo + x) at hN4
      generalize setArr st3 (mirror (arrOf st3) (lo + x - (neq + 1)) (lo + x) ((lo + x - (lo + x - (neq + 1))) / 2)) = st4 at hN4 hC4 hsz4 ⊢
    case' neg =>
      have hN4 := hN3
      have hC4 := hC3
      have hsz4 := hsz
      generalize e34 : st3 = st4 at hN4 hC4 hsz4
    all_goals
      refine wpS_bind (wpS_reverse ?_)
      have hC5 := hC4.rev (i := lo) (j := lo + x) (Nat.le_refl _) (by omega)
      have hS5 : Sg (arrOf (setArr st4 (mirror (arrOf st4) lo (lo + x) ((lo + x - lo) / 2)))) lo (lo + x) := by
        intro i j h2 h3 h4
        show K (mirror (arrOf st4) lo (lo + x) ((lo + x - lo) / 2)) i ≤ K (mirror (arrOf st4) lo (lo + x) ((lo + x - lo) / 2)) j
        rw [K_mirror hsz4, K_mirror hsz4, if_pos (by omega), if_pos (by omega)]
        exact hN4 _ _ (by omega) (by omega) (by omega)
      generalize setArr st4 (mirror (arrOf st4) lo (lo + x) ((lo + x - lo) / 2)) = st5 at hC5 hS5 ⊢
      refine wpS_bind (wpS_mono (wpS_forRange
        (I := fun y c st' => st' = st5 ∧ c = (none, y) ∧ Sg (arrOf st5) lo (lo + y))
        (Q := fun c st' => st' = st5 ∧ ∃ n, c = (none, n) ∧ 1 ≤ n ∧ n ≤ nrem ∧ Sg (arrOf st5) lo (lo + n)) ?_ ?_ ⟨rfl, rfl, hS5⟩) ?_)
      · rintro y c st' h2 h3 ⟨rfl, rfl, h4⟩
        try dsimp only
        refine wpS_bind (wp_ltG hC5.g h0 (by omega) (by omega) ?_)
        try dsimp only
        by_cases hw : K (arrOf st') (lo + y) < K (arrOf st') (lo + y - 1)
        · rw [if_pos (by simpa using hw)]
          exact wpS_pure ⟨rfl, _, rfl, by omega, by omega, h4⟩
        · rw [if_neg (by simpa using hw)]
          exact wpS_pure ⟨rfl, rfl, h4.ext fun _ => Int.not_lt.mp hw⟩
      · rintro c st' ⟨rfl, rfl, h4⟩
        rw [show max x nrem = nrem by omega] at h4 ⊢
        exact ⟨rfl, _, rfl, h1, Nat.le_refl _, h4⟩
      rintro c st' ⟨rfl, n, rfl, hn1, hn2, hS⟩
      exact wpS_pure (h n _ hC5 hn1 hn2 hS)
theorem wp_binarySort {st : SortSt} {lo n ok : Nat} {Q : Bool → SortSt → Prop} (h0 : IntKeys a₀) (hn : lo + n ≤ a₀.size) (hok : ok ≤ n) (h1 : 1 ≤ ok) (hG : G a₀ st) (hS : Sg (arrOf st) lo (lo + ok))
    (h : ∀ st', C a₀ st lo st' → Sg (arrOf st') lo (lo + n) → Q true st') : wpS (model prog w) A E s (binarySort' lo n ok) Q st := by
  unfold binarySort'
  refine wpS_bind (wpS_mono (wpS_forRange
    (I := fun k c st' => c = (none, ()) ∧ C a₀ st lo st' ∧ Sg (arrOf st') lo (lo + k))
    (Q := fun c st' => c = (none, ()) ∧ C a₀ st lo st' ∧ Sg (arrOf st') lo (lo + n)) ?_ ?_ ⟨rfl, ⟨hG, rfl, fun _ _ => rfl⟩, by rwa [show max ok 1 = ok by omega]⟩) ?_)
  · rintro k c st1 hk1 hkn ⟨rfl, hC, hS1⟩
    have hks : lo + k < (arrOf st1).size := by rw [hC.g.size]; omega
    refine wpS_bind (wpS_mono (wpS_forRange
      (I := fun x c st' => st' = st1 ∧ ∃ l r, c = (none, l, r) ∧ l ≤ r ∧ r ≤ k ∧ r - l ≤ k - x ∧ (∀ i, i < l → K (arrOf st1) (lo + i) ≤ K (arrOf st1) (lo + k)) ∧ (∀ i, r ≤ i → i < k → K (arrOf st1) (lo + k) < K (arrOf st1) (lo + i)))
      (Q := fun c st' => st' = st1 ∧ ∃ r, c = (none, r, r) ∧ r ≤ k ∧ (∀ i, i < r → K (arrOf st1) (lo + i) ≤ K (arrOf st1) (lo + k)) ∧ (∀ i, r ≤ i → i < k → K (arrOf st1) (lo + k) < K (arrOf st1) (lo + i)))
      ?_ ?_ ⟨rfl, 0, k, rfl, by omega, by omega, by omega, fun i hi => by omega, fun i h1 h2 => by omega⟩) ?_)
    · rintro x c st' _ hxk ⟨rfl, l, r, rfl, hlr, hrk, hm, hlo, hhi⟩
      try dsimp only
      by_cases hge : l ≥ r
      · rw [if_pos hge]
        have e : l = r := by omega
        subst e
        exact wpS_pure ⟨rfl, l, rfl, hrk, hlo, hhi⟩
      · rw [if_neg hge]
        refine wpS_bind (wp_ltG hC.g h0 (by omega) (by omega) ?_)
        try dsimp only
        by_cases hw : K (arrOf st') (lo + k) < K (arrOf st') (lo + (l + r) / 2)
        · rw [if_pos (by simpa using hw)]
          exact wpS_pure ⟨rfl, _, _, rfl, by omega, by omega, by omega, hlo, fun i h1 h2 => Int.lt_of_lt_of_le hw (hS1 _ _ (by omega) (by omega) (by omega))⟩
        · rw [if_neg (by simpa using hw)]
          exact wpS_pure ⟨rfl, _, _, rfl, by omega, by omega, by omega, fun i h1 => Int.le_trans (hS1 _ (lo + (l + r) / 2) (by omega) (by omega) (by omega)) (Int.not_lt.mp hw), hhi⟩
    · rintro c st' ⟨rfl, l, r, rfl, hlr, hrk, hm, hlo, hhi⟩
      have e : l = r := by omega
      subst e
      exact ⟨rfl, l, rfl, hrk, hlo, hhi⟩
    rintro c st' ⟨rfl, l, rfl, hlk, hlo, hhi⟩
    show wpS _ _ _ _ (do moveDown' (lo + k) (lo + l); pure (ForInStep.yield (none, ()))) _ _
    rw [moveDown'_eq]
    refine wpS_bind (wpS_modify (wpS_pure ⟨rfl, ⟨hC.g.arr (bubble_perm _ _ _), hC.pend, ?_⟩, ?_⟩))
    · intro i hi
      show K (bubble (arrOf st') (lo + k) (lo + k - (lo + l))) i = _
      rw [K_bubble hks (by omega), if_neg (by omega), if_neg (by omega)]
      exact hC.low i hi
    · intro i j h2 h3 h4
      show K (bubble (arrOf st') (lo + k) (lo + k - (lo + l))) i ≤ K (bubble (arrOf st') (lo + k) (lo + k - (lo + l))) j
      have hlo' : ∀ i, lo ≤ i → i < lo + l → K (arrOf st') i ≤ K (arrOf st') (lo + k) := fun i h1 h2 => by
        have := hlo (i - lo) (by omega); rwa [show lo + (i - lo) = i by omega] at this
      have hhi' : ∀ i, lo + l ≤ i → i < lo + k → K (arrOf st') (lo + k) < K (arrOf st') i := fun i h1 h2 => by
        have := hhi (i - lo) (by omega) (by omega); rwa [show lo + (i - lo) = i by omega] at this
      rw [K_bubble hks (by omega), K_bubble hks (by omega), show lo + k - (lo + k - (lo + l)) = lo + l by omega]
      repeat' split
      all_goals first
        | (exfalso; omega)
        | exact Int.le_refl _
        | exact hlo' _ (by omega) (by omega)
        | exact Int.le_of_lt (hhi' _ (by omega) (by omega))
        | exact hS1 _ _ (by omega) (by omega) (by omega)
  · rintro c st' ⟨rfl, hC, hS⟩
    rw [show max (max ok 1) n = n by omega] at hS
    exact ⟨rfl, hC, hS⟩
  rintro c st' ⟨rfl, hC, hS⟩
  exact wpS_pure (h st' hC hS)
end
end TS
namespace TS
open PySem PyProof.Rows
section
variable {prog : Program} {w : World} {A : Around} {E : Value → Shared → Prop} {s : Shared} {a₀ : Array Keyed}
theorem wpS_set {M : Model} {σ : Type} {st st1 : σ} {Q : PUnit → σ → Prop} (h : Q ⟨⟩ st1) : wpS M A E s (set st1 : StateT σ Sem PUnit) Q st := by
  unfold wpS; rw [StateT.run_set]; exact wpAny_pure ⟨rfl, h⟩
noncomputable def wr (m : List Keyed) (at_ from_ : Nat) (xs : Array Keyed) : Array Keyed := (m.zipIdx from_).foldl (fun a (p, j) => a.setIfInBounds (at_ + j) p) xs
theorem wr_get : ∀ (m : List Keyed) (at_ from_ : Nat) (xs : Array Keyed), at_ + from_ + m.length ≤ xs.size → ∀ i : Nat,
    (wr m at_ from_ xs)[i]? = if at_ + from_ ≤ i ∧ i < at_ + from_ + m.length then m[i - (at_ + from_)]? else xs[i]?
  | [], at_, from_, xs, _, i => by rw [if_neg (by simp)]; rfl
  | p :: m, at_, from_, xs, h, i => by
    simp only [List.length_cons] at h
    have ih := wr_get m at_ (from_ + 1) (xs.setIfInBounds (at_ + from_) p) (by simp; omega) i
    show (wr m at_ (from_ + 1) (xs.setIfInBounds (at_ + from_) p))[i]? = _
    rw [ih, Array.getElem?_setIfInBounds]
    simp only [List.length_cons]
    by_cases h1 : at_ + (from_ + 1) ≤ i ∧ i < at_ + (from_ + 1) + m.length
    · rw [if_pos h1, if_pos (by omega), show i - (at_ + from_) = i - (at_ + (from_ + 1)) + 1 by omega, List.getElem?_cons_succ]
    · rw [if_neg h1]
      by_cases h2 : at_ + from_ = i
      · subst h2
        rw [if_pos rfl, if_pos (by omega), if_pos (by omega), Nat.sub_self]; rfl
      · rw [if_neg h2, if_neg (by omega)]
theorem wr_eq {m : List Keyed} {at_ : Nat} {xs : Array Keyed} (h : at_ + m.length ≤ xs.size) :
    (wr m at_ 0 xs).toList = xs.toList.take at_ ++ m ++ xs.toList.drop (at_ + m.length) := by
  apply List.ext_getElem?
  intro i
  rw [Array.getElem?_toList, wr_get m at_ 0 xs (by omega) i]
  simp only [Nat.add_zero, List.append_assoc]
  by_cases h1 : i < at_
  · rw [if_neg (by omega), List.getElem?_append_left (by simp; omega), List.getElem?_take, if_pos h1, Array.getElem?_toList]
  · rw [List.getElem?_append_right (by simp; omega)]
    have e : (xs.toList.take at_).length = at_ := by simp; omega
    rw [e]
    by_cases h2 : i < at_ + m.length
    · rw [if_pos (by omega), List.getElem?_append_left (by omega)]
    · rw [if_neg (by omega), List.getElem?_append_right (by omega), List.getElem?_drop, Array.getElem?_toList]
      congr 1; omega
theorem wr_perm {m : List Keyed} {sa sb e : Nat} {xs : Array Keyed} (h1 : sa ≤ sb) (h2 : sb ≤ e) (h3 : e ≤ xs.size)
    (hm : m.Perm ((xs.extract sa sb).toList ++ (xs.extract sb e).toList)) : (wr m sa 0 xs).Perm xs := by
  have hlen : m.length = e - sa := by rw [hm.length_eq]; simp; omega
  apply Array.perm_iff_toList_perm.mpr
  rw [wr_eq (by omega)]
  have ex : xs.toList = xs.toList.take sa ++ ((xs.extract sa sb).toList ++ (xs.extract sb e).toList) ++ xs.toList.drop (sa + m.length) := by
    have e1 : (xs.extract sa sb).toList = (xs.toList.drop sa).take (sb - sa) := by
      have := ext_take xs sa (sb - sa); rwa [show sa + (sb - sa) = sb by omega] at this
    have e2 : (xs.extract sb e).toList = (xs.toList.drop sb).take (e - sb) := by
      have := ext_take xs sb (e - sb); rwa [show sb + (e - sb) = e by omega] at this
    rw [e1, e2, List.append_assoc, List.append_assoc, show sa + m.length = e by omega]
    have f2 : (xs.toList.drop sb).take (e - sb) ++ xs.toList.drop e = xs.toList.drop sb := by
      have := List.take_append_drop (e - sb) (xs.toList.drop sb)
      rwa [List.drop_drop, show sb + (e - sb) = e by omega] at this
    rw [f2]
    have f1 : (xs.toList.drop sa).take (sb - sa) ++ xs.toList.drop sb = xs.toList.drop sa := by
      have := List.take_append_drop (sb - sa) (xs.toList.drop sa)
      rwa [List.drop_drop, show sa + (sb - sa) = sb by omega] at this
    rw [f1, List.take_append_drop]
  refine List.Perm.trans ?_ (List.Perm.of_eq ex.symm)
  exact List.Perm.append_right _ (List.Perm.append_left _ hm)
theorem K_ext {xs : Array Keyed} {l r i : Nat} (h : l + i < r) (hr : r ≤ xs.size) : K (xs.extract l r) i = K xs (l + i) := by
  refine K_congr ?_
  rw [Array.getElem?_extract, if_pos (by omega)]
theorem sg_pw {xs : Array Keyed} {l r : Nat} (hr : r ≤ xs.size) (h : Sg xs l r) : (xs.extract l r).toList.Pairwise le := by
  rw [List.pairwise_iff_getElem]
  intro i j hi hj hij
  have hi' : i < (xs.extract l r).size := by rw [Array.length_toList] at hi; exact hi
  have hj' : j < (xs.extract l r).size := by rw [Array.length_toList] at hj; exact hj
  have sz : (xs.extract l r).size = r - l := by simp; omega
  have := h (l + i) (l + j) (by omega) (by omega) (by omega)
  rw [← K_ext (r := r) (by omega) hr, ← K_ext (r := r) (by omega) hr, ← nk_eq hi', ← nk_eq hj'] at this
  simpa using this
theorem ints_ext {xs : Array Keyed} (h : IntKeys xs) (l r : Nat) : IntKeys (xs.extract l r) := by
  intro p hp
  refine h p ?_
  rw [Array.toList_extract] at hp
  exact List.mem_of_mem_drop (List.mem_of_mem_take hp)
theorem wr_sorted {m : List Keyed} {s0 sa sb e e0 : Nat} {xs : Array Keyed} (h1 : s0 ≤ sa) (h2 : sa ≤ sb) (h3 : sb ≤ e) (h4 : e ≤ e0) (h5 : e0 ≤ xs.size)
    (hm : m.Perm ((xs.extract sa sb).toList ++ (xs.extract sb e).toList)) (hs : m.Pairwise le) (hA : Sg xs s0 sb) (hB : Sg xs sb e0)
    (low : ∀ i, s0 ≤ i → i < sa → ∀ j, sb ≤ j → j < e0 → K xs i ≤ K xs j) (high : ∀ i, s0 ≤ i → i < sb → ∀ j, e ≤ j → j < e0 → K xs i ≤ K xs j) :
    Sg (wr m sa 0 xs) s0 e0 ∧ (∀ i, i < s0 ∨ e0 ≤ i → K (wr m sa 0 xs) i = K xs i) := by
  have hlen : m.length = e - sa := by rw [hm.length_eq]; simp; omega
  have out : ∀ i, i < sa ∨ e ≤ i → K (wr m sa 0 xs) i = K xs i := fun i hi => K_congr (by rw [wr_get m sa 0 xs (by omega), if_neg (by omega)])
  have ins : ∀ i, sa ≤ i → i < e → ∃ t, sa ≤ t ∧ t < e ∧ K (wr m sa 0 xs) i = K xs t := by
    intro i g1 g2
    have e1 : (wr m sa 0 xs)[i]? = m[i - sa]? := by rw [wr_get m sa 0 xs (by omega), if_pos (by omega)]; rfl
    have hl : i - sa < m.length := by omega
    have hmem : m[i - sa] ∈ (xs.extract sa sb).toList ++ (xs.extract sb e).toList := hm.mem_iff.mp (List.getElem_mem hl)
    have ek : K (wr m sa 0 xs) i = nk m[i - sa] := by unfold K; rw [e1, List.getElem?_eq_getElem hl]
    rw [ek]
    rcases List.mem_append.mp hmem with hm1 | hm1
    · obtain ⟨j, hj, ej⟩ := List.mem_iff_getElem.mp hm1
      have hj' : j < (xs.extract sa sb).size := by rw [Array.length_toList] at hj; exact hj
      have sz : (xs.extract sa sb).size = sb - sa := by simp; omega
      refine ⟨sa + j, by omega, by omega, ?_⟩
      rw [← ej, ← K_ext (r := sb) (by omega) (by omega), ← nk_eq hj']; simp
    · obtain ⟨j, hj, ej⟩ := List.mem_iff_getElem.mp hm1
      have hj' : j < (xs.extract sb e).size := by rw [Array.length_toList] at hj; exact hj
      have sz : (xs.extract sb e).size = e - sb := by simp; omega
      refine ⟨sb + j, by omega, by omega, ?_⟩
      rw [← ej, ← K_ext (r := e) (by omega) (by omega), ← nk_eq hj']; simp
  refine ⟨fun i j g1 g2 g3 => ?_, fun i hi => out i (by omega)⟩
  by_cases i1 : i < sa
  · rw [out i (.inl i1)]
    by_cases j1 : j < sa
    · rw [out j (.inl j1)]; exact hA i j g1 g2 (by omega)
    · by_cases j2 : j < e
      · obtain ⟨t, t1, t2, et⟩ := ins j (by omega) j2
        rw [et]
        by_cases t3 : t < sb
        · exact hA i t g1 (by omega) t3
        · exact low i g1 i1 t (by omega) (by omega)
      · rw [out j (.inr (by omega))]; exact low i g1 i1 j (by omega) g3
  · by_cases i2 : i < e
    · by_cases j2 : j < e
      · have e1 : ∀ t, sa ≤ t → (ht : t < e) → K (wr m sa 0 xs) t = nk (m[t - sa]'(by omega)) := fun t k1 k2 => by
          unfold K
          rw [wr_get m sa 0 xs (by omega), if_pos (by omega), Nat.add_zero, List.getElem?_eq_getElem (by omega)]
        rw [e1 i (by omega) i2, e1 j (by omega) j2]
        by_cases eij : i = j
        · subst eij; exact Int.le_refl _
        · exact List.pairwise_iff_getElem.mp hs _ _ _ _ (by omega)
      · obtain ⟨t, t1, t2, et⟩ := ins i (by omega) i2
        rw [et, out j (.inr (by omega))]
        by_cases t3 : t < sb
        · exact high t (by omega) t3 j (by omega) g3
        · exact hB t j (by omega) (by omega) g3
    · rw [out i (.inr (by omega)), out j (.inr (by omega))]
      exact hB i j (by omega) g2 g3
theorem wp_mergeAt {st : SortSt} {i sa na sb nb p1 p2 : Nat} {Q : Bool → SortSt → Prop} (h0 : IntKeys a₀) (hG : G a₀ st)
    (hp1 : (pendingOf st)[i]? = some (sa, na, p1)) (hp2 : (pendingOf st)[i + 1]? = some (sb, nb, p2)) (hab : sb = sa + na) (hna : 1 ≤ na) (hnb : 1 ≤ nb) (he : sb + nb ≤ a₀.size)
    (hA : Sg (arrOf st) sa sb) (hB : Sg (arrOf st) sb (sb + nb))
    (h : ∀ st', G a₀ st' → pendingOf st' = ((pendingOf st).setIfInBounds i (sa, na + nb, p1)).eraseIdxIfInBounds (i + 1) → Sg (arrOf st') sa (sb + nb) →
      (∀ j, j < sa ∨ sb + nb ≤ j → K (arrOf st') j = K (arrOf st) j) → Q true st') :
    wpS (model prog w) A E s (mergeAt' i) Q st := by
  have hsz := hG.size
  have hX := hG.ints h0
  unfold mergeAt'
  refine wpS_bind (wpS_get ?_)
  rw [hp1, hp2]
  refine wpS_bind (wpS_set ?_)
  have hG1 : G a₀ (SortSt.mk' (kindOf st) (arrOf st) (((pendingOf st).setIfInBounds i (sa, na + nb, p1)).eraseIdxIfInBounds (i + 1)) (gallopOf st) (failedOf st)) := ⟨hG.perm, hG.kind, hG.failed⟩
  refine wpS_bind (wp_elem (xs := arrOf st) (i := sb) (by omega) ?_)
  refine wpS_bind (wp_gal (xs := arrOf st) hG1.kind hX (isI_at hX (by omega)) (by omega) (by omega) (fun i j hij hj => hA _ _ (by omega) (by omega) (by omega)) ?_)
  intro k hkn q1 q2
  have hsb : sb < (arrOf st).size := by omega
  rw [nk_eq hsb] at q1 q2
  have q1' : ∀ t, sa ≤ t → t < sa + k → K (arrOf st) t ≤ K (arrOf st) sb := fun t h1 h2 => by
    have := q1 (t - sa) (by omega); simp [By] at this; rwa [show sa + (t - sa) = t by omega] at this
  have q2' : ∀ t, sa + k ≤ t → t < sb → K (arrOf st) sb < K (arrOf st) t := fun t h1 h2 => by
    have := q2 (t - sa) (by omega) (by omega); simp [By] at this; rwa [show sa + (t - sa) = t by omega] at this
  clear q1 q2
  try dsimp only
  by_cases e1 : na - k = 0
  · rw [if_pos (by simpa using e1)]
    refine wpS_pure (h _ hG1 rfl (fun x y h1 h2 h3 => ?_) (fun _ _ => rfl))
    show K (arrOf st) x ≤ K (arrOf st) y
    by_cases y1 : y < sb
    · exact hA x y h1 h2 y1
    · by_cases x1 : x < sb
      · exact Int.le_trans (q1' x h1 (by omega)) (hB sb y (by omega) (by omega) h3)
      · exact hB x y (by omega) h2 h3
  rw [if_neg (by simpa using e1)]
  have hlast : sa + k + (na - k) - 1 < (arrOf st).size := by omega
  refine wpS_bind (wp_elem (xs := arrOf st) hlast ?_)
  refine wpS_bind (wp_gal (xs := arrOf st) hG1.kind hX (isI_at hX hlast) (by omega) (by omega) (fun i j hij hj => hB _ _ (by omega) (by omega) (by omega)) ?_)
  intro n hnn p1 p2
  rw [nk_eq hlast, show sa + k + (na - k) - 1 = sb - 1 by omega] at p1 p2
  have p1' : ∀ t, sb ≤ t → t < sb + n → K (arrOf st) t < K (arrOf st) (sb - 1) := fun t h1 h2 => by
    have := p1 (t - sb) (by omega); simp [By] at this; rwa [show sb + (t - sb) = t by omega] at this
  have p2' : ∀ t, sb + n ≤ t → t < sb + nb → K (arrOf st) (sb - 1) ≤ K (arrOf st) t := fun t h1 h2 => by
    have := p2 (t - sb) (by omega) (by omega); simp [By] at this; rwa [show sb + (t - sb) = t by omega] at this
  clear p1 p2
  try dsimp only
  by_cases e2 : n = 0
  · exfalso
    have a1 := q2' (sb - 1) (by omega) (by omega)
    have a2 := p2' sb (by omega) (by omega)
    omega
  rw [if_neg (by simpa using e2)]
  have sx : ((arrOf st).extract (sa + k) sb).size = na - k := by rw [Array.size_extract]; omega
  have sy : ((arrOf st).extract sb (sb + n)).size = n := by rw [Array.size_extract]; omega
  have pwx := sg_pw (xs := arrOf st) (l := sa + k) (r := sb) (by omega) (fun i j h1 h2 h3 => hA i j (by omega) h2 h3)
  have pwy := sg_pw (xs := arrOf st) (l := sb) (r := sb + n) (by omega) (fun i j h1 h2 h3 => hB i j (by omega) h2 (by omega))
  have hfirst : K ((arrOf st).extract sb (sb + n)) 0 ≤ K ((arrOf st).extract (sa + k) sb) 0 := by
    rw [K_ext (by omega) (by omega), K_ext (by omega) (by omega)]
    exact Int.le_of_lt (q2' (sa + k + 0) (by omega) (by omega))
  have hl : ∀ j, j < ((arrOf st).extract sb (sb + n)).size → K ((arrOf st).extract sb (sb + n)) j ≤ K ((arrOf st).extract (sa + k) sb) (((arrOf st).extract (sa + k) sb).size - 1) := by
    intro j hj
    rw [sx, K_ext (by omega) (by omega), K_ext (by omega) (by omega), show sa + k + (na - k - 1) = sb - 1 by omega]
    exact Int.le_of_lt (p1' _ (by omega) (by omega))
  have fin : ∀ (m : Array Keyed) (st' : SortSt), Fr (SortSt.mk' (kindOf st) (arrOf st) (((pendingOf st).setIfInBounds i (sa, na + nb, p1)).eraseIdxIfInBounds (i + 1)) (gallopOf st) (failedOf st)) st' →
      Fin' ((arrOf st).extract (sa + k) sb) ((arrOf st).extract sb (sb + n)) m → Q true (SortSt.mk' (kindOf st') (wr m.toList (sa + k) 0 (arrOf st')) (pendingOf st') (gallopOf st') (failedOf st')) := by
    intro m st' hF hm
    have ea : arrOf st' = arrOf st := hF.arr
    obtain ⟨w1, w2⟩ := wr_sorted (xs := arrOf st) (s0 := sa) (sa := sa + k) (sb := sb) (e := sb + n) (e0 := sb + nb) (by omega) (by omega) (by omega) (by omega) (by omega) hm.2 hm.1 hA hB
      (fun x h1 h2 y h3 h4 => Int.le_trans (q1' x h1 h2) (hB sb y (by omega) h3 h4))
      (fun x h1 h2 y h3 h4 => Int.le_trans (hA x (sb - 1) h1 (by omega) (by omega)) (p2' y h3 h4))
    refine h _ ⟨?_, hF.kind, hF.failed.trans hG.failed⟩ hF.pend ?_ ?_
    · show (wr m.toList (sa + k) 0 (arrOf st')).Perm a₀
      rw [ea]
      exact (wr_perm (by omega) (by omega) (by omega) hm.2).trans hG.perm
    · show Sg (wr m.toList (sa + k) 0 (arrOf st')) sa (sb + nb)
      rw [ea]; exact w1
    · intro j hj
      show K (wr m.toList (sa + k) 0 (arrOf st')) j = _
      rw [ea]; exact w2 j hj
  by_cases e3 : na - k ≤ n
  · rw [if_pos e3]
    refine wpS_bind (wp_mLo (a := (arrOf st).extract (sa + k) sb) (b := (arrOf st).extract sb (sb + n)) hG1.kind (ints_ext hX _ _) (ints_ext hX _ _) (by rw [sx]; omega) (by rw [sy]; omega) pwx pwy hfirst hl fun m st' hF hm => ?_)
    refine wpS_bind (wpS_modify (wpS_bind (wpS_get (wpS_pure ?_))))
    have ef : failedOf st' = none := hF.failed.trans hG.failed
    have := fin m st' hF hm
    show Q (failedOf st').isNone _
    rw [ef]
    exact this
  · rw [if_neg e3]
    refine wpS_bind (wp_mHi (a := (arrOf st).extract (sa + k) sb) (b := (arrOf st).extract sb (sb + n)) hG1.kind (ints_ext hX _ _) (ints_ext hX _ _) (by rw [sx]; omega) (by rw [sy]; omega) pwx pwy hfirst hl fun m st' hF hm => ?_)
    refine wpS_bind (wpS_modify (wpS_bind (wpS_get (wpS_pure ?_))))
    have ef : failedOf st' = none := hF.failed.trans hG.failed
    have := fin m st' hF hm
    show Q (failedOf st').isNone _
    rw [ef]
    exact this
end
end TS
namespace TS
open PySem PyProof.Rows
section
variable {prog : Program} {w : World} {A : Around} {E : Value → Shared → Prop} {s : Shared} {a₀ : Array Keyed}
noncomputable abbrev Pd := Nat × Nat × Nat
noncomputable def Segs (xs : Array Keyed) : Nat → Nat → List Pd → Prop
  | lo, hi, [] => lo = hi
  | lo, hi, t :: r => t.1 = lo ∧ 1 ≤ t.2.1 ∧ Sg xs lo (lo + t.2.1) ∧ Segs xs (lo + t.2.1) hi r
theorem Segs.le_ {xs : Array Keyed} : ∀ {l : List Pd} {lo hi : Nat}, Segs xs lo hi l → lo + l.length ≤ hi
  | [], lo, hi, h => Nat.le_of_eq h
  | t :: r, lo, hi, h => by
    have := Segs.le_ h.2.2.2
    have := h.2.1
    simp only [List.length_cons]
    omega
theorem Segs.append {xs : Array Keyed} : ∀ {l l2 : List Pd} {lo mid hi : Nat}, Segs xs lo mid l → Segs xs mid hi l2 → Segs xs lo hi (l ++ l2)
  | [], l2, lo, mid, hi, h, h2 => by cases h; exact h2
  | t :: r, l2, lo, mid, hi, h, h2 => ⟨h.1, h.2.1, h.2.2.1, Segs.append h.2.2.2 h2⟩
theorem Segs.split {xs : Array Keyed} : ∀ {l l2 : List Pd} {lo hi : Nat}, Segs xs lo hi (l ++ l2) → ∃ mid, Segs xs lo mid l ∧ Segs xs mid hi l2
  | [], l2, lo, hi, h => ⟨lo, rfl, h⟩
  | t :: r, l2, lo, hi, h => by
    obtain ⟨mid, h1, h2⟩ := Segs.split h.2.2.2
    exact ⟨mid, ⟨h.1, h.2.1, h.2.2.1, h1⟩, h2⟩
theorem Segs.of {xs ys : Array Keyed} : ∀ {l : List Pd} {lo hi : Nat}, Segs xs lo hi l → (∀ i, lo ≤ i → i < hi → K ys i = K xs i) → Segs ys lo hi l
  | [], lo, hi, h, _ => h
  | t :: r, lo, hi, h, hk => by
    have := Segs.le_ h.2.2.2
    refine ⟨h.1, h.2.1, fun i j h1 h2 h3 => ?_, Segs.of h.2.2.2 fun i h1 h2 => hk i (by omega) h2⟩
    rw [hk i h1 (by omega), hk j (by omega) (by omega)]
    exact h.2.2.1 i j h1 h2 h3
theorem Segs.like {xs : Array Keyed} : ∀ {l l2 : List Pd} {lo hi : Nat}, Segs xs lo hi l → l2.map (fun t => (t.1, t.2.1)) = l.map (fun t => (t.1, t.2.1)) → Segs xs lo hi l2
  | [], l2, lo, hi, h, e => by
    cases l2 with
    | nil => exact h
    | cons _ _ => simp at e
  | t :: r, l2, lo, hi, h, e => by
    cases l2 with
    | nil => simp at e
    | cons u q =>
      simp only [List.map_cons, List.cons.injEq, Prod.mk.injEq] at e
      obtain ⟨⟨e1, e2⟩, e3⟩ := e
      refine ⟨e1.trans h.1, by rw [e2]; exact h.2.1, by rw [e2]; exact h.2.2.1, by rw [e2]; exact Segs.like h.2.2.2 e3⟩
theorem Segs.power {xs : Array Keyed} {p : Array Pd} {lo hi k : Nat} {f : Pd → Pd} (hf : ∀ t, ((f t).1, (f t).2.1) = (t.1, t.2.1)) (h : Segs xs lo hi p.toList) : Segs xs lo hi (p.modify k f).toList := by
  refine h.like ?_
  apply List.ext_getElem?
  intro i
  rw [List.getElem?_map, List.getElem?_map, Array.getElem?_toList, Array.getElem?_toList, Array.getElem?_modify]
  by_cases e : k = i
  · rw [if_pos e]
    cases p[i]? with
    | none => rfl
    | some t => simp [hf t]
  · rw [if_neg e]
theorem pend_merge {p : Array Pd} {l1 l2 : List Pd} {x y v : Pd} (hp : p.toList = l1 ++ x :: y :: l2) : ((p.setIfInBounds l1.length v).eraseIdxIfInBounds (l1.length + 1)).toList = l1 ++ v :: l2 := by
  rw [Array.toList_eraseIdxIfInBounds, Array.toList_setIfInBounds, hp]
  simp [List.eraseIdx_append_of_length_le]
theorem wp_mergeSegs {st : SortSt} {i hi : Nat} {Q : Bool → SortSt → Prop} (h0 : IntKeys a₀) (hG : G a₀ st) (hS : Segs (arrOf st) 0 hi (pendingOf st).toList) (hh : hi ≤ a₀.size) (hi2 : i + 1 < (pendingOf st).size)
    (h : ∀ st', G a₀ st' → Segs (arrOf st') 0 hi (pendingOf st').toList → (pendingOf st').size + 1 = (pendingOf st).size → (∀ j, hi ≤ j → K (arrOf st') j = K (arrOf st) j) → Q true st') :
    wpS (model prog w) A E s (mergeAt' i) Q st := by
  obtain ⟨l1, x, y, l2, hp, hl⟩ : ∃ l1 x y l2, (pendingOf st).toList = l1 ++ x :: y :: l2 ∧ l1.length = i := by
    have e1 : i < (pendingOf st).toList.length := by rw [Array.length_toList]; omega
    have e2 : i + 1 < (pendingOf st).toList.length := by rw [Array.length_toList]; omega
    refine ⟨(pendingOf st).toList.take i, (pendingOf st).toList[i], (pendingOf st).toList[i + 1], (pendingOf st).toList.drop (i + 2), ?_, by rw [List.length_take]; omega⟩
    rw [← List.drop_eq_getElem_cons e2, ← List.drop_eq_getElem_cons e1, List.take_append_drop]
  subst hl
  obtain ⟨sa, na, p1⟩ := x
  obtain ⟨sb, nb, p2⟩ := y
  have hS0 := hS
  rw [hp] at hS
  obtain ⟨mid, hS1, hsa, hna, hA, hsb, hnb, hB, hS2⟩ := hS.split
  dsimp only at hsa hna hA hsb hnb hB hS2
  have hle := hS2.le_
  have hle1 := hS1.le_
  subst hsa
  refine wp_mergeAt (sa := sa) (na := na) (sb := sb) (nb := nb) (p1 := p1) (p2 := p2) h0 hG ?_ ?_ hsb hna hnb (by omega) (by rw [hsb]; exact hA) (by rw [hsb]; exact hB) ?_
  · rw [← Array.getElem?_toList, hp]; simp
  · rw [← Array.getElem?_toList, hp, List.getElem?_append_right (by omega)]; simp
  · intro st' hG' hp' hs' hk'
    have hp2 : (pendingOf st').toList = l1 ++ (sa, na + nb, p1) :: l2 := by rw [hp']; exact pend_merge hp
    refine h st' hG' ?_ ?_ ?_
    · rw [hp2]
      refine (hS1.of fun j h1 h2 => hk' j (.inl h2)).append ⟨rfl, by show 1 ≤ na + nb; omega, by show Sg (arrOf st') sa (sa + (na + nb)); rw [← Nat.add_assoc, ← hsb]; exact hs', ?_⟩
      show Segs (arrOf st') (sa + (na + nb)) hi l2
      rw [← Nat.add_assoc]
      exact hS2.of fun j h1 h2 => hk' j (.inr (by omega))
    · rw [← Array.length_toList, hp2, ← Array.length_toList (xs := pendingOf st), hp]; simp; omega
    · intro j hj
      exact hk' j (.inr (by omega))
theorem G.pend {st : SortSt} (h : G a₀ st) (p : Array Pd) : G a₀ (setPending st p) := ⟨h.perm, h.kind, h.failed⟩
theorem push {xs : Array Keyed} {p : Array Pd} {lo n : Nat} (q : Nat) (hh : lo ≤ lo) (h : Segs xs 0 lo p.toList) (hn : 1 ≤ n) (hN : Sg xs lo (lo + n)) : Segs xs 0 (lo + n) (p.push (lo, n, q)).toList := by
  rw [Array.toList_push]
  exact h.append ⟨rfl, hn, hN, rfl⟩
theorem ite_lt {c : Prop} (d : Decidable c) {x y n : Nat} (hx : x + 1 < n) (hy : y + 1 < n) : (if c then x else y) + 1 < n := by
  split <;> assumption
theorem wp_sortRuns {st : SortSt} {Q : Unit → SortSt → Prop} (h0 : IntKeys a₀) (hG : G a₀ st) (hp : pendingOf st = #[]) (h2 : 2 ≤ a₀.size)
    (h : ∀ st', (arrOf st').Perm a₀ → failedOf st' = none → SortedTo (arrOf st') a₀.size → Q () st') : wpS (model prog w) A E s sortRuns' Q st := by
  unfold sortRuns'
  refine wpS_bind (wpS_get ?_)
  try dsimp only
  rw [hG.size]
  refine wpS_bind (wpS_mono (wpS_forRange
    (I := fun x c st' => ∃ lo, c = (none, lo) ∧ G a₀ st' ∧ Segs (arrOf st') 0 lo (pendingOf st').toList ∧ lo ≤ a₀.size ∧ x ≤ lo)
    (Q := fun c st' => ∃ lo, c = (none, lo) ∧ G a₀ st' ∧ Segs (arrOf st') 0 a₀.size (pendingOf st').toList) ?_ ?_ ⟨0, rfl, hG, by rw [hp]; rfl, by omega, by omega⟩) ?_)
  · rintro x c st1 _ hx ⟨lo, rfl, g1, g2, g3, g4⟩
    try dsimp only
    by_cases hge : lo ≥ a₀.size
    · rw [if_pos hge]
      have e : lo = a₀.size := by omega
      subst e
      exact wpS_pure ⟨_, rfl, g1, g2⟩
    rw [if_neg hge]
    refine wpS_bind (wp_countRun h0 (by omega) (by omega) g1 fun n st2 hC hn1 hn2 hN2 => ?_)
    have hS2 : Segs (arrOf st2) 0 lo (pendingOf st2).toList := by
      rw [hC.pend]
      exact g2.of fun i _ hi => hC.low i hi
    have hG2 := hC.g
    try dsimp only
    by_cases hmr : n < (sortPriv% PySem.Builtin.minRun) a₀.size a₀.size 0
    · rw [if_pos hmr]
      refine wpS_bind (wpS_lift (wpAny_rule ⟨rfl, ?_⟩))
      refine wpS_bind (wp_binarySort h0 (by omega) (by omega) hn1 hG2 hN2 fun st3 hC3 hN3 => ?_)
      change Sg (arrOf st3) lo (lo + min (a₀.size - lo) ((sortPriv% PySem.Builtin.minRun) a₀.size a₀.size 0)) at hN3
      have hS3 : Segs (arrOf st3) 0 lo (pendingOf st3).toList := by
        rw [hC3.pend]
        exact hS2.of fun i _ hi => hC3.low i hi
      have hG3 := hC3.g
      have hn3 : 1 ≤ min (a₀.size - lo) ((sortPriv% PySem.Builtin.minRun) a₀.size a₀.size 0) := by omega
      have hm3 : lo + min (a₀.size - lo) ((sortPriv% PySem.Builtin.minRun) a₀.size a₀.size 0) ≤ a₀.size := by omega
      rw [if_neg (by simp)]
      refine wpS_bind (wpS_get ?_)
      cases hb : (pendingOf st3).back? with
      | none =>
        try dsimp only
        exact wpS_bind (wpS_modify (wpS_pure ⟨_, rfl, hG3.pend _, push 0 (Nat.le_refl _) hS3 hn3 hN3, by omega, by omega⟩))
      | some t =>
        obtain ⟨s1, n1, q1⟩ := t
        try dsimp only
        refine wpS_bind (wpS_mono (wpS_forRange
          (I := fun x c st' => c = (none, ()) ∧ G a₀ st' ∧ Segs (arrOf st') 0 lo (pendingOf st').toList ∧ Sg (arrOf st') lo (lo + min (a₀.size - lo) ((sortPriv% PySem.Builtin.minRun) a₀.size a₀.size 0)))
          (Q := fun c st' => c = (none, ()) ∧ G a₀ st' ∧ Segs (arrOf st') 0 lo (pendingOf st').toList ∧ Sg (arrOf st') lo (lo + min (a₀.size - lo) ((sortPriv% PySem.Builtin.minRun) a₀.size a₀.size 0))) ?_ (fun _ _ hh => hh) ⟨rfl, hG3, hS3, hN3⟩) ?_)
        · rintro y c st' _ _ ⟨rfl, k1, k2, k3⟩
          refine wpS_bind (wpS_get ?_)
          by_cases hsz : (pendingOf st').size > 1
          · have z1 : (pendingOf st').size - 2 < (pendingOf st').size := by omega
            have z2 : (pendingOf st').size - 2 + 1 < (pendingOf st').size := by omega
            rw [if_pos hsz, getElem?_pos (pendingOf st') _ z1]
            try dsimp only
            by_cases ho : (pendingOf st')[(pendingOf st').size - 2].2.2 ≤ (sortPriv% PySem.Builtin.power) a₀.size (2 * s1 + n1) (2 * s1 + n1 + n1 + min (a₀.size - lo) ((sortPriv% PySem.Builtin.minRun) a₀.size a₀.size 0)) a₀.size
            · rw [if_pos ho]
              exact wpS_pure ⟨rfl, k1, k2, k3⟩
            · rw [if_neg ho]
              refine wpS_bind (wp_mergeSegs h0 k1 k2 (by omega) z2 fun st4 m1 m2 m3 m4 => ?_)
              refine wpS_pure ⟨rfl, m1, m2, fun i j h1 h2 h3 => ?_⟩
              rw [m4 i h1, m4 j (by omega)]
              exact k3 i j h1 h2 h3
          · rw [if_neg hsz]
            exact wpS_pure ⟨rfl, k1, k2, k3⟩
        · rintro c st' ⟨rfl, k1, k2, k3⟩
          try dsimp only
          exact wpS_bind (wpS_modify (wpS_bind (wpS_modify (wpS_pure ⟨_, rfl, (k1.pend _).pend _, push 0 (Nat.le_refl _) (k2.power (fun _ => rfl)) hn3 k3, by omega, by omega⟩))))
    · rw [if_neg hmr]
      refine wpS_bind (wpS_get ?_)
      cases hb : (pendingOf st2).back? with
      | none =>
        try dsimp only
        exact wpS_bind (wpS_modify (wpS_pure ⟨_, rfl, hG2.pend _, push 0 (Nat.le_refl _) hS2 hn1 hN2, by omega, by omega⟩))
      | some t =>
        obtain ⟨s1, n1, q1⟩ := t
        try dsimp only
        refine wpS_bind (wpS_mono (wpS_forRange
          (I := fun x c st' => c = (none, ()) ∧ G a₀ st' ∧ Segs (arrOf st') 0 lo (pendingOf st').toList ∧ Sg (arrOf st') lo (lo + n))
          (Q := fun c st' => c = (none, ()) ∧ G a₀ st' ∧ Segs (arrOf st') 0 lo (pendingOf st').toList ∧ Sg (arrOf st') lo (lo + n)) ?_ (fun _ _ hh => hh) ⟨rfl, hG2, hS2, hN2⟩) ?_)
        · rintro y c st' _ _ ⟨rfl, k1, k2, k3⟩
          refine wpS_bind (wpS_get ?_)
          by_cases hsz : (pendingOf st').size > 1
          · have z1 : (pendingOf st').size - 2 < (pendingOf st').size := by omega
            have z2 : (pendingOf st').size - 2 + 1 < (pendingOf st').size := by omega
            rw [if_pos hsz, getElem?_pos (pendingOf st') _ z1]
            try dsimp only
            by_cases ho : (pendingOf st')[(pendingOf st').size - 2].2.2 ≤ (sortPriv% PySem.Builtin.power) a₀.size (2 * s1 + n1) (2 * s1 + n1 + n1 + n) a₀.size
            · rw [if_pos ho]
              exact wpS_pure ⟨rfl, k1, k2, k3⟩
            · rw [if_neg ho]
              refine wpS_bind (wp_mergeSegs h0 k1 k2 (by omega) z2 fun st3 m1 m2 m3 m4 => ?_)
              refine wpS_pure ⟨rfl, m1, m2, fun i j h1 h2 h3 => ?_⟩
              rw [m4 i h1, m4 j (by omega)]
              exact k3 i j h1 h2 h3
          · rw [if_neg hsz]
            exact wpS_pure ⟨rfl, k1, k2, k3⟩
        · rintro c st' ⟨rfl, k1, k2, k3⟩
          try dsimp only
          exact wpS_bind (wpS_modify (wpS_bind (wpS_modify (wpS_pure ⟨_, rfl, (k1.pend _).pend _, push 0 (Nat.le_refl _) (k2.power (fun _ => rfl)) hn1 k3, by omega, by omega⟩))))
  · rintro c st' ⟨lo, rfl, g1, g2, g3, g4⟩
    have e : lo = a₀.size := by omega
    subst e
    exact ⟨_, rfl, g1, g2⟩
  · rintro c st' ⟨lo, rfl, g1, g2⟩
    try dsimp only
    have hle := g2.le_
    rw [Array.length_toList] at hle
    refine wpS_bind (wpS_mono (wpS_forRange
      (I := fun x c st' => c = (none, ()) ∧ G a₀ st' ∧ Segs (arrOf st') 0 a₀.size (pendingOf st').toList ∧ (pendingOf st').size + x ≤ a₀.size + 1)
      (Q := fun c st' => c = (none, ()) ∧ G a₀ st' ∧ Segs (arrOf st') 0 a₀.size (pendingOf st').toList ∧ (pendingOf st').size ≤ 1) ?_ ?_ ⟨rfl, g1, g2, by omega⟩) ?_)
    · rintro y c st2 _ _ ⟨rfl, k1, k2, k3⟩
      refine wpS_bind (wpS_get ?_)
      by_cases hsz : (pendingOf st2).size ≤ 1
      · rw [if_pos hsz]
        exact wpS_pure ⟨rfl, k1, k2, hsz⟩
      · rw [if_neg hsz]
        have z1 : (pendingOf st2).size - 2 - 1 + 1 < (pendingOf st2).size := by omega
        have z2 : (pendingOf st2).size - 2 + 1 < (pendingOf st2).size := by omega
        refine wpS_bind (wp_mergeSegs h0 k1 k2 (Nat.le_refl _) (ite_lt _ z1 z2) fun st3 m1 m2 m3 m4 => ?_)
        exact wpS_pure ⟨rfl, m1, m2, by omega⟩
    · rintro c st2 ⟨rfl, k1, k2, k3⟩
      exact ⟨rfl, k1, k2, by omega⟩
    · rintro c st2 ⟨rfl, k1, k2, k3⟩
      refine wpS_pure (h st2 k1.perm k1.failed ?_)
      rw [← Array.length_toList] at k3
      match hl : (pendingOf st2).toList, k2, k3 with
      | [], k2, _ => exact absurd (show 0 = a₀.size from k2) (by omega)
      | [t], k2, _ =>
        obtain ⟨e1, e2, e3, e4⟩ := k2
        have e5 : 0 + t.2.1 = a₀.size := e4
        intro i j hij hj
        exact e3 i j (Nat.zero_le _) hij (by omega)
      | _ :: _ :: _, _, k3 => simp at k3
end
end TS
namespace TS
open PySem PyProof.Rows
section
variable {prog : Program} {w : World} {A : Around} {E : Value → Shared → Prop} {s : Shared}
theorem sort_tree {a : Addr} {vs : List Value} {ns : List Int} {n : Nat} {P : PySem.Fin → Shared → Prop} (ho : s.heap.get? a = some (seqObj "list" vs.toArray n))
    (hI : IntsAre vs ns) (hz : vs.length ≤ sizeLine)
    (h : ∀ (out : Array Value) (ns' : List Int), IntsAre out.toList ns' → ns'.Perm ns → ns'.Pairwise (· ≤ ·) → P (.done (.ret .none)) { s with heap := sortedHeap s.heap a vs out }) :
    wpAny (model prog w) A (Builtin.«list.sort» ⟨[.ref a], []⟩) P E s := by
  have hlt : a < s.heap.objs.size := Heap.lt_size ho
  have hs0 : vs.toArray.size ≤ sizeLine := by simpa using hz
  rw [list_sort_plain]
  refine wpAny_bind (listItems_at ho rfl ?_)
  refine wpAny_bind (listUpdate_at ho rfl ?_ hs0)
  obtain ⟨e1, ho1⟩ : ∃ e1, (s.heap.update a (Obj.mapSeq fun _ => #[])).get? a = some (seqObj "list" #[] e1) := ⟨_, get?_update_seq ho _⟩
  refine wpAny_bind (seqEpoch_at ho1 rfl ?_)
  refine wpAny_bind (wpAny_newTuple ?_ (by simpa using hz))
  refine wpAny_bind (wpAny_newList ?_)
  refine wpAny_holding ?_
  have ho6 : (((s.heap.update a (Obj.mapSeq fun _ => #[])).push (seqObj "tuple" vs.toArray 0)).push (seqObj "list" #[] 0)).get? a = some (seqObj "list" #[] e1) :=
    Heap.get?_push_of_some _ (Heap.get?_push_of_some _ ho1)
  show wpAny (model prog w) A _ P E { s with heap := ((s.heap.update a (Obj.mapSeq fun _ => #[])).push (seqObj "tuple" vs.toArray 0)).push (seqObj "list" #[] 0) }
  try dsimp only
  have last : ∀ st' : SortSt, (arrOf st').Perm (pairsOf vs) → SortedTo (arrOf st') (pairsOf vs).size →
      P (.done (.ret .none)) { s with heap := sortedHeap s.heap a vs ((arrOf st').map (·.2)) } := by
    intro st' g1 g2
    obtain ⟨ns', q1, q2, q3⟩ := sorted_out hI g1 g2
    exact h _ ns' q1 q2 q3
  by_cases h2 : vs.toArray.size < 2
  · rw [if_pos h2, if_pos h2]
    refine wpAny_bind (wpAny_pure ?_)
    rw [StateT.run_pure]
    refine wpAny_bind (wpAny_pure ?_)
    try dsimp only
    refine wpAny_bind (seqEpoch_at ho6 rfl ?_)
    refine wpAny_bind (listUpdate_at ho6 rfl ?_ (hsz2 := by rw [Array.size_map]; show (pairsOf vs).size ≤ _; rw [pairsOf_size]; omega))
    simp only [bne_self_eq_false, Bool.false_eq_true, if_false]
    refine wpAny_pure (last (SortSt.mk' general' (vs.toArray.zip vs.toArray) #[] 7 none) (Array.Perm.refl _) fun i j hij hj => ?_)
    have e : i = j := by rw [pairsOf_size] at hj; simp at h2; omega
    subst e; exact Int.le_refl _
  · rw [if_neg h2, if_neg h2]
    obtain ⟨x, y, rest, rfl⟩ : ∃ x y rest, vs = x :: y :: rest := by
      match vs, h2 with
      | [], h2 => simp at h2
      | [_], h2 => simp at h2
      | x :: y :: rest, _ => exact ⟨x, y, rest, rfl⟩
    rw [keyKind_ints hI]
    refine wpAny_bind (wpAny_pure ?_)
    refine wpAny_bind (wpAny_mono (wp_sortRuns (a₀ := pairsOf (x :: y :: rest)) (st := SortSt.mk' oneType' (pairsOf (x :: y :: rest)) #[] 7 none)
      (Q := fun _ st' => (arrOf st').Perm (pairsOf (x :: y :: rest)) ∧ failedOf st' = none ∧ SortedTo (arrOf st') (pairsOf (x :: y :: rest)).size)
      hI.intKeys ⟨Array.Perm.refl _, rfl, rfl⟩ rfl (by rw [pairsOf_size]; simp) fun st' a1 a2 a3 => ⟨a1, a2, a3⟩) ?_ fun _ _ e => e)
    rintro ⟨⟨⟩, st'⟩ s' ⟨rfl, g1, g2, g3⟩
    try dsimp only
    refine wpAny_bind (seqEpoch_at ho6 rfl ?_)
    have z : ((arrOf st').map (·.2)).size ≤ sizeLine + 1 := by rw [Array.size_map, g1.size_eq, pairsOf_size]; omega
    refine wpAny_bind (listUpdate_at ho6 rfl ?_ (hsz2 := z))
    rw [g2]
    simp only [bne_self_eq_false, Bool.false_eq_true, if_false]
    exact wpAny_pure (last st' g1 g3)
theorem sortedHeap_at {h : Heap} {a : Addr} {vs : List Value} {n : Nat} (ho : h.get? a = some (seqObj "list" vs.toArray n)) (out : Array Value) : ∃ e, (sortedHeap h a vs out).get? a = some (seqObj "list" out e) := by
  obtain ⟨e1, ho1⟩ : ∃ e1, (h.update a (Obj.mapSeq fun _ => #[])).get? a = some (seqObj "list" #[] e1) := ⟨_, get?_update_seq ho _⟩
  exact ⟨_, get?_update_seq (Heap.get?_push_of_some _ (Heap.get?_push_of_some _ ho1)) (fun _ => out)⟩
theorem sortedHeap_ne {h : Heap} {a b : Addr} {o : Obj} {vs : List Value} (hb : h.get? b = some o) (hab : b ≠ a) (out : Array Value) : (sortedHeap h a vs out).get? b = some o := by
  unfold sortedHeap
  rw [Heap.get?_update_other _ _ (Ne.symm hab)]
  refine Heap.get?_push_of_some _ (Heap.get?_push_of_some _ ?_)
  rw [Heap.get?_update_other _ _ (Ne.symm hab)]
  exact hb
theorem sorted_of {r : Addr} {ns : List Int} {Q : Value → Shared → Prop} (hz : ns.length ≤ sizeLine)
    (hc : ∀ (E : Value → Shared → Prop) (R : List Value → Shared → Prop), (∀ (h' : Heap) (tk : Nat) (vs : List Value), (∀ b o, s.heap.get? b = some o → h'.get? b = some o) → IntsAre vs ns → R vs { s with heap := h', toks := tk }) → wpAny (model prog w) A.in1 (collect (.ref r)) R E s)
    (h : ∀ (h1 h' : Heap) (tk e : Nat) (out : List Value) (ns' : List Int), (∀ b o, s.heap.get? b = some o → h1.get? b = some o) → (∀ b o, h1.get? b = some o → h'.get? b = some o) → h'.get? h1.objs.size = some (seqObj "list" out.toArray e) →
      IntsAre out ns' → ns'.Perm ns → ns'.Pairwise (· ≤ ·) → Q (.ref h1.objs.size) { s with heap := h', toks := tk }) :
    wpAny (model prog w) A (call (.builtin "sorted") [.ref r]) Q E s := by
  refine PySem.Calls.call_function_entry kind_sorted plain_sorted entry_sorted (args_sorted1 _) ?_
  unfold Builtin.«sorted»
  refine wpAny_bind (m := checkCount "sorted" 1 1 _) (wpAny_pure ?_)
  refine wpAny_bind (hc _ _ fun h' tk vs hk hI => ?_)
  have hz : vs.length ≤ sizeLine := by have := congrArg List.length hI.nums; rw [List.length_map] at this; omega
  refine wpAny_bind (wpAny_newList ?_ hz)
  have hoL : (h'.push (seqObj "list" vs.toArray 0)).get? h'.objs.size = some (seqObj "list" vs.toArray 0) := Heap.get?_push_size _ rfl
  refine wpAny_bind (wpAny_holding (wpAny_call_entry slot_list_sort ⟨_, hoL, rfl⟩ entry_list_sort (sort_tree hoL hI hz fun out ns' a1 a2 a3 => ⟨_, rfl, ?_⟩) (args_list_sort _)))
  obtain ⟨e, he⟩ := sortedHeap_at hoL out
  exact wpAny_pure ⟨_, rfl, h h' _ tk e out.toList ns' hk (fun b o hb => sortedHeap_ne (Heap.get?_push_of_some _ hb) (Nat.ne_of_lt (Heap.lt_size hb)) out) he a1 a2 a3⟩
end
end TS
namespace L2
open PySem PySem.Spec PyProof.Rows
theorem kV_rel {P : Program} {w : World} {k : Key} {u : Value} (h : (mixKind P w).is k u = true) : RelV (kV k) u := by
  rcases keyIs_shape (show keyIs k u = true from h) with ⟨i, t, rfl, rfl⟩ | ⟨x, t, rfl, rfl⟩
  · exact ⟨t, rfl⟩
  · exact ⟨t, rfl⟩
theorem keys_vals {P : Program} {w : World} {kvs : List (Key × V)} {vs : List (Key × Value)} {acc : List Value} (hk : KV kvs vs) : acc.length = vs.length →
    (∀ (j : Nat) (v : Value), acc[j]? = some v → ∃ k x, vs[j]? = some (k, x) ∧ (mixKind P w).is k v = true) → Vals (kvs.map fun p => kV p.1) acc := by
  unfold KV at hk
  induction hk generalizing acc with
  | nil =>
    intro hl _
    rw [List.length_eq_zero_iff.mp hl]
    exact .nil
  | cons r t ih =>
    intro hl h
    cases acc with
    | nil => simp at hl
    | cons u acc =>
      obtain ⟨k, x, e, hk⟩ := h 0 u rfl
      have e := Option.some.inj e
      refine .cons ?_ (ih (by simpa using hl) fun j v hj => h (j + 1) v hj)
      show RelV (kV _) u
      rw [r.1, e]
      exact kV_rel hk
section
variable {X : Cx}
theorem call_list_dict (hc : X.calm = true) : CallR X (.type "list") (fun xs H Q => ∃ p kvs, xs = [.ref p] ∧ H p = some (.dK kvs) ∧ ∀ l, H l = none → Q (.ref l) (upd H l (.lst (kvs.map fun q => kV q.1)))) := by
  intro pins s σ H xs us Q I r h
  obtain ⟨p, kvs, rfl, hp, q⟩ := h
  obtain ⟨u, rfl, rx⟩ := vals1 r
  cases rx
  obtain ⟨z, hd, vs, rel, dd⟩ := dk_of I.hok hp
  obtain ⟨ep, hat⟩ := dd.dictAt
  have hl : kvs.length = vs.length := rel.length
  refine PySem.W.kdl_call (PySem.W.kdl_dict (knd := mixKind X.prog X.w) (kvs := vs) (ep := ep) hd) (I.ok.hd hc) hat (by omega) fun h' tk acc c kp e it => ?_
  refine ⟨.ref s.heap.objs.size, _, I.laid (t' := tk) kp (Nat.le_refl _) (show ObjOk X.prog X.w _ h' _ (.lst (kvs.map fun q => kV q.1)) from ⟨by simpa using z, acc.toList, c, ?_, by simpa using e⟩), rfl, q _ (I.hok.fresh (Nat.le_refl _))⟩
  exact keys_vals (P := X.prog) (w := X.w) rel (by rw [Array.length_toList]; exact it.1) fun j v hj => it.2 j v (by rw [← Array.getElem?_toList]; exact hj)
theorem ints_of : ∀ {ns : List Int} {us : List Value}, Vals (ns.map V.int) us → IntsAre us ns
  | [], _, .nil => .nil
  | n :: ns, _, .cons r t => by
    obtain ⟨k, rfl⟩ := (show ∃ k, _ = Value.int n k from r)
    exact .cons n k (ints_of t)
theorem of_ints : ∀ {ns : List Int} {us : List Value}, IntsAre us ns → Vals (ns.map V.int) us
  | _, _, .nil => .nil
  | _, _, .cons n t h => .cons ⟨t, rfl⟩ (of_ints h)
theorem call_sorted_dict (hc : X.calm = true) : CallR X (.builtin "sorted") (fun xs H Q => ∃ (p : Addr) (kvs : List (Key × V)) (ns : List Int), xs = [.ref p] ∧ H p = some (.dK kvs) ∧ (kvs.map fun q => kV q.1) = ns.map V.int ∧
    ∀ (l : Addr) (ns' : List Int), H l = none → ns'.Perm ns → ns'.Pairwise (· ≤ ·) → Q (.ref l) (upd H l (.lst (ns'.map V.int)))) := by
  intro pins s σ H xs us Q I r h
  obtain ⟨p, kvs, ns, rfl, hp, hn, q⟩ := h
  obtain ⟨u, rfl, rx⟩ := vals1 r
  cases rx
  obtain ⟨z, hd, vs, rel, dd⟩ := dk_of I.hok hp
  obtain ⟨ep, hat⟩ := dd.dictAt
  have hl : kvs.length = vs.length := rel.length
  have hln : ns.length = kvs.length := by have := congrArg List.length hn; simpa using this.symm
  refine TS.sorted_of (ns := ns) (by omega) (fun E R hR => PySem.W.kdu_collect (A := X.A.in1) (PySem.W.kdl_dict (knd := mixKind X.prog X.w) (kvs := vs) (ep := ep) hd) (I.ok.hd hc) hat (by omega) fun h1 tk acc kp it => hR h1 tk _ kp ?_) ?_
  · refine ints_of ?_
    rw [← hn]
    exact keys_vals (P := X.prog) (w := X.w) rel (by rw [Array.length_toList]; exact it.1) fun j v hj => it.2 j v (by rw [← Array.getElem?_toList]; exact hj)
  · intro h1 h2 tk e out ns' kp kp2 he a1 a2 a3
    have I1 : Inv X pins σ H { s with heap := h1, toks := tk } := I.kept kp
    refine ⟨.ref h1.objs.size, _, I1.laid (t' := tk) kp2 (Nat.le_refl _) (show ObjOk X.prog X.w _ h2 _ (.lst (ns'.map V.int)) from ⟨?_, out, e, of_ints a1, he⟩), rfl, q _ ns' (I1.hok.fresh (Nat.le_refl _)) a2 a3⟩
    rw [List.length_map, a2.length_eq]; omega
end
end L2
namespace L2
open PySem PySem.Spec PyProof.Rows
end L2
namespace My
open PySem L2
noncomputable def addK (ks : List Nat) (k : Nat) : List Nat := if k ∈ ks then ks else ks ++ [k]
theorem mem_addK {ks : List Nat} {k m : Nat} : m ∈ addK ks k ↔ m ∈ ks ∨ m = k := by
  unfold addK
  split
  · constructor
    · exact .inl
    · rintro (h | rfl)
      · exact h
      · assumption
  · simp
theorem nodup_addK {ks : List Nat} {k : Nat} (h : ks.Nodup) : (addK ks k).Nodup := by
  unfold addK
  split
  · exact h
  · refine List.nodup_append.mpr ⟨h, by simp, fun a ha b hb e => ?_⟩
    have : b = k := by simpa using hb
    rw [this] at e
    rw [e] at ha
    contradiction
noncomputable def dkN (ks : List Nat) : List (Key × V) := ks.map fun k : Nat => (Sum.inl (k : Int), V.bl true)
theorem dk_any (ks : List Nat) (k : Nat) : ((dkN ks).any fun kv => decide (kv.1 = (Sum.inl (k : Int) : Key))) = decide (k ∈ ks) := by
  unfold dkN
  rw [List.any_map, Bool.eq_iff_iff, List.any_eq_true, decide_eq_true_eq]
  constructor
  · rintro ⟨x, hx, e⟩
    have e : (Sum.inl (x : Int) : Key) = Sum.inl (k : Int) := by simpa using e
    have : (x : Int) = (k : Int) := Sum.inl.inj e
    have : x = k := by omega
    exact this ▸ hx
  · intro h
    exact ⟨k, h, by simp⟩
theorem put_dk (ks : List Nat) (k : Nat) : putK (dkN ks) (Sum.inl (k : Int)) (.bl true) = dkN (addK ks k) := by
  unfold putK
  rw [dk_any]
  unfold addK
  by_cases h : k ∈ ks
  · rw [decide_eq_true h, if_pos rfl, if_pos h]
    unfold dkN
    rw [List.map_map]
    apply List.map_congr_left
    intro x hx
    show (if (Sum.inl (x : Int) : Key) = Sum.inl (k : Int) then _ else _) = _
    split <;> rfl
  · rw [decide_eq_false h, if_neg Bool.false_ne_true, if_neg h]
    unfold dkN
    rw [List.map_append]; rfl
theorem dk_keys (ks : List Nat) : ((dkN ks).map fun q => kV q.1) = (ks.map fun k : Nat => (k : Int)).map V.int := by
  unfold dkN
  rw [List.map_map, List.map_map]; rfl
theorem nodup_len : ∀ (n : Nat) (ks : List Nat), ks.Nodup → (∀ k ∈ ks, k < n) → ks.length ≤ n
  | 0, [], _, _ => Nat.le_refl _
  | 0, k :: _, _, h => absurd (h k List.mem_cons_self) (by omega)
  | n + 1, ks, hn, h => by
    have q := nodup_len n (ks.erase n) (hn.erase n) (fun k hk => by
      have h1 := h k (List.mem_of_mem_erase hk)
      have h2 : k ≠ n := fun e => by rw [e] at hk; exact (List.Nodup.not_mem_erase hn) hk
      omega)
    have e := List.length_erase (a := n) (l := ks)
    split at e <;> omega
theorem sorted_nat {ks : List Nat} {ns : List Int} (hk : ks.Nodup) (hp : ns.Perm (ks.map fun k : Nat => (k : Int))) (hs : ns.Pairwise (· ≤ ·)) :
    ∃ ms : List Nat, ns.map V.int = ms.map (fun k : Nat => V.int (k : Int)) ∧ ms.Pairwise (· < ·) ∧ (∀ m, m ∈ ms ↔ m ∈ ks) ∧ ms.length = ks.length := by
  have e : ns = (ns.map Int.toNat).map (fun k : Nat => (k : Int)) := by
    rw [List.map_map]
    conv => lhs; rw [← List.map_id ns]
    apply List.map_congr_left
    intro x hx
    obtain ⟨k, _, rfl⟩ := List.mem_map.mp (hp.mem_iff.mp hx)
    simp
  have hp2 : (ns.map Int.toNat).Perm ks := by
    have := hp.map Int.toNat
    rw [List.map_map] at this
    have e2 : ks.map (Int.toNat ∘ fun k : Nat => (k : Int)) = ks := by
      conv => rhs; rw [← List.map_id ks]
      apply List.map_congr_left
      intro x _
      simp
    rwa [e2] at this
  refine ⟨ns.map Int.toNat, ?_, ?_, fun m => hp2.mem_iff, hp2.length_eq⟩
  · conv => lhs; rw [e]
    rw [List.map_map]; rfl
  · have hn : (ns.map Int.toNat).Nodup := hp2.nodup_iff.mpr hk
    rw [e, List.pairwise_map] at hs
    refine (hs.and hn).imp ?_
    intro a b h
    have h1 := h.1
    have h2 : a ≠ b := h.2
    omega
noncomputable def MkI (rs : List Nat) (w i : Nat) (ks : List Nat) : Prop := ks.Nodup ∧ ∀ m, m ∈ ks ↔ ∃ sub : List Nat, (∀ k ∈ sub, k < i) ∧ m = sharedL rs w sub
theorem mkI_zero (rs : List Nat) (w : Nat) : MkI rs w 0 [2 ^ w - 1] := by
  refine ⟨by simp, fun m => ⟨fun h => ⟨[], by simp, by simpa [sharedL] using h⟩, ?_⟩⟩
  rintro ⟨sub, h, rfl⟩
  cases sub with
  | nil => simp [sharedL]
  | cons k r => exact absurd (h k List.mem_cons_self) (by omega)
theorem shared_snoc (rs : List Nat) (w : Nat) (sub : List Nat) (i : Nat) : sharedL rs w (sub ++ [i]) = sharedL rs w sub &&& rs.getD i 0 := by
  unfold sharedL
  rw [List.foldl_append]; rfl
theorem shared_same {rs : List Nat} {w : Nat} {xs ys : List Nat} (h : ∀ k, k ∈ xs ↔ k ∈ ys) : sharedL rs w xs = sharedL rs w ys := by
  apply Nat.eq_of_testBit_eq
  intro i
  rw [shared_bit, shared_bit]
  congr 1
  rw [Bool.eq_iff_iff, List.all_eq_true, List.all_eq_true]
  exact ⟨fun q k hk => q k ((h k).mpr hk), fun q k hk => q k ((h k).mp hk)⟩
theorem mkI_succ {rs : List Nat} {w i : Nat} {ks0 ks : List Nat} (h0 : MkI rs w i ks0) (hn : ks.Nodup) (hm : ∀ m, m ∈ ks ↔ m ∈ ks0 ∨ ∃ t ∈ ks0, m = t &&& rs.getD i 0) : MkI rs w (i + 1) ks := by
  refine ⟨hn, fun m => ?_⟩
  rw [hm]
  constructor
  · rintro (h | ⟨t, ht, rfl⟩)
    · obtain ⟨sub, h1, h2⟩ := (h0.2 m).mp h
      exact ⟨sub, fun k hk => by have := h1 k hk; omega, h2⟩
    · obtain ⟨sub, h1, rfl⟩ := (h0.2 t).mp ht
      refine ⟨sub ++ [i], fun k hk => ?_, (shared_snoc _ _ _ _).symm⟩
      rcases List.mem_append.mp hk with z | z
      · have := h1 k z; omega
      · have : k = i := by simpa using z
        omega
  · rintro ⟨sub, h1, rfl⟩
    by_cases hi : i ∈ sub
    · refine .inr ⟨sharedL rs w (sub.filter (· ≠ i)), (h0.2 _).mpr ⟨_, fun k hk => ?_, rfl⟩, ?_⟩
      · obtain ⟨k1, k2⟩ := List.mem_filter.mp hk
        have := h1 k k1
        have : k ≠ i := by simpa using k2
        omega
      · rw [← shared_snoc]
        apply shared_same
        intro k
        simp only [List.mem_append, List.mem_filter, List.mem_singleton]
        constructor
        · intro hk
          by_cases e : k = i
          · exact .inr e
          · exact .inl ⟨hk, by simpa using e⟩
        · rintro (⟨hk, _⟩ | rfl)
          · exact hk
          · exact hi
    · refine .inl ((h0.2 _).mpr ⟨sub, fun k hk => ?_, rfl⟩)
      have := h1 k hk
      have : k ≠ i := fun e => hi (e ▸ hk)
      omega
theorem mkI_lt {rs : List Nat} {w i : Nat} {ks : List Nat} (h : MkI rs w i ks) : ∀ m ∈ ks, m < 2 ^ w := fun m hm => by
  obtain ⟨sub, _, rfl⟩ := (h.2 m).mp hm
  exact shared_lt _ _ _
theorem shared_closed {rs : List Nat} {w : Nat} {sub : List Nat} (h : ∀ k ∈ sub, k < rs.length) : closedL rs w (sharedL rs w sub) = sharedL rs w sub := by
  apply Nat.eq_of_testBit_eq
  intro i
  rw [Bool.eq_iff_iff, closed_bit]
  constructor
  · rintro ⟨hi, hr⟩
    rw [shared_bit, decide_eq_true hi, Bool.true_and, List.all_eq_true]
    intro k hk
    have hkl := h k hk
    have e : rs.getD k 0 = rs[k] := by rw [List.getD_eq_getElem?_getD, List.getElem?_eq_getElem hkl]; rfl
    rw [e]
    refine hr _ (List.getElem_mem hkl) ((within_iff _ _).mpr fun j hj => ?_)
    rw [shared_bit, Bool.and_eq_true, List.all_eq_true] at hj
    have := hj.2 k hk
    rwa [e] at this
  · intro hb
    have hb' := hb
    rw [shared_bit, Bool.and_eq_true, decide_eq_true_eq] at hb'
    exact ⟨hb'.1, fun r _ hw => (within_iff _ _).mp hw i hb⟩
theorem mem_masks_closed {rs : List Nat} {w : Nat} {ms : List Nat} (h : ∀ m, m ∈ ms ↔ ∃ sub : List Nat, (∀ k ∈ sub, k < rs.length) ∧ m = sharedL rs w sub) {m : Nat} (hm : m ∈ ms) : closedL rs w m = m ∧ m < 2 ^ w := by
  obtain ⟨sub, h1, rfl⟩ := (h m).mp hm
  exact ⟨shared_closed h1, shared_lt _ _ _⟩
end My
namespace L2
open PySem PySem.Spec PyProof.Rows
inductive EqI (K : PySem.W.Frag) (H : Hp) : V → V → Bool → Prop where
  | flat {x y : V} (fx : flatV x = true) (fy : flatV y = true) : EqI K H x y (eqV x y)
  | same (a : Addr) : EqI K H (.ref a) (.ref a) true
  | tup {a b : Addr} {xs ys : List V} (ha : SqT K H a xs) (hb : SqT K H b ys) (fx : xs.all flatV = true) (fy : ys.all flatV = true) : EqI K H (.ref a) (.ref b) (eqVs xs ys)
theorem eqV_refl {x : V} (h : flatV x = true) : eqV x x = true := by
  cases x with
  | non => rfl
  | bl b => show (b == b) = true; simp
  | int i => show (i == i) = true; simp
  | str z => show (z == z) = true; simp
  | _ => exact absurd (show false = true from h) Bool.false_ne_true
theorem eqVs_refl : ∀ {xs : List V}, xs.all flatV = true → eqVs xs xs = true
  | [], _ => rfl
  | x :: xs, h => by
    rw [List.all_cons, Bool.and_eq_true] at h
    rw [eqVs, eqV_refl h.1, eqVs_refl h.2]; rfl
theorem eqVs_min {xs ys : List V} : ((List.range (min xs.length ys.length)).all (fun j => eqV (xs.getD j .non) (ys.getD j .non)) && xs.length == ys.length) = eqVs xs ys := by
  by_cases h : xs.length = ys.length
  · have e : min xs.length ys.length = xs.length := by omega
    rw [e, eqVs_range h, h, beq_self_eq_true, Bool.and_true]
  · have e : (xs.length == ys.length) = false := by simpa using h
    rw [e, Bool.and_false]
    cases q : eqVs xs ys with
    | false => rfl
    | true => exact absurd (eqVs_len q) h
section
variable {X : Cx}
theorem EqI.at {pins : List (Addr × Obj)} {σ : St} {H : Hp} {s : Shared} {A : Around} {x y : V} {u v : Value} {b : Bool} (I : Inv X pins σ H s) (hu : A.units + 64 < cLine) (rx : RelV x u) (ry : RelV y v) (h : EqI X.K H x y b) : SeqAt.EqAt A s u v b := by
  cases h with
  | flat fx fy => exact eqAt_V rx ry fx fy
  | same a => cases rx; cases ry; exact SeqAt.EqAt.same _
  | tup ha hb fx fy =>
    cases rx; cases ry
    rename_i a b xs ys
    by_cases e : a = b
    · subst e
      have e2 := I.tuple_inj ha hb
      subst e2
      rw [eqVs_refl fx]
      exact SeqAt.EqAt.same _
    · obtain ⟨us, r, p, z⟩ := I.tuple ha
      obtain ⟨ws, r', p', z'⟩ := I.tuple hb
      have q := SeqAt.RcAt.tuples (A := A) (s := s) (e := fun j => eqV (xs.getD j .non) (ys.getD j .non)) (show s.heap.IsTuple a us.toArray from p) (show s.heap.IsTuple b ws.toArray from p') (by omega) (fun j h1 h2 => eqAt_list r r' fx fy j h1 h2)
      rw [List.size_toArray, List.size_toArray, ← r.length, ← r'.length, eqVs_min] at q
      exact SeqAt.EqAt.of_refs e q
variable {K : PySem.W.Frag}
end
end L2
namespace L2
open PySem PySem.Spec PyProof.Rows
section
variable {X : Cx} {tg : Expr}
end
end L2
namespace My
noncomputable def brk (m : Nat) (r : Nat × Nat) : Bool := decide (r.1 &&& m = r.1) && !decide (r.2 &&& m = r.2)
theorem brk_iff {m : Nat} {r : Nat × Nat} : brk m r = true ↔ r.1 &&& m = r.1 ∧ ¬ r.2 &&& m = r.2 := by
  unfold brk
  rw [Bool.and_eq_true, decide_eq_true_eq, Bool.not_eq_true', decide_eq_false_iff_not]
theorem brk_false {m : Nat} {r : Nat × Nat} : brk m r = false ↔ (r.1 &&& m = r.1 → r.2 &&& m = r.2) := by
  rw [← Bool.not_eq_true, brk_iff]
  constructor
  · intro h h1
    exact Decidable.byContradiction fun h2 => h ⟨h1, h2⟩
  · rintro h ⟨h1, h2⟩
    exact h2 (h h1)
noncomputable def firstI (p : Nat → Bool) (n : Nat) : Option Nat := (List.range n).find? p
theorem first_none {p : Nat → Bool} {n : Nat} (h : ∀ j, j < n → p j = false) : firstI p n = none := by
  unfold firstI
  rw [List.find?_eq_none]
  intro x hx
  rw [h x (List.mem_range.mp hx)]
  decide
theorem first_none_spec {p : Nat → Bool} {n : Nat} (h : firstI p n = none) : ∀ j, j < n → p j = false := by
  unfold firstI at h
  rw [List.find?_eq_none] at h
  intro j hj
  have := h j (List.mem_range.mpr hj)
  simpa using this
noncomputable def firstB (rs : List Nat) (r : Nat × Nat) : Option Nat := firstI (fun i => brk (rs.getD i 0) r) rs.length
noncomputable def firstR (rl : List (Nat × Nat)) (m : Nat) : Option Nat := firstI (fun i => brk m (rl.getD i (0, 0))) rl.length
theorem getD_mem {α : Type} {xs : List α} {d : α} {i : Nat} (h : i < xs.length) : xs.getD i d ∈ xs := by
  rw [List.getD_eq_getElem?_getD, List.getElem?_eq_getElem h]; exact List.getElem_mem h
theorem firstR_none {rl : List (Nat × Nat)} {m : Nat} : firstR rl m = none ↔ ∀ r ∈ rl, brk m r = false := by
  constructor
  · intro h x hx
    obtain ⟨i, hi, e⟩ := List.mem_iff_getElem.mp hx
    have := first_none_spec h i hi
    rwa [List.getD_eq_getElem?_getD, List.getElem?_eq_getElem hi, Option.getD_some, e] at this
  · intro h
    exact first_none fun j hj => h _ (getD_mem hj)
noncomputable def keepsAll (m : Nat) (rl : List (Nat × Nat)) : Prop := ∀ r ∈ rl, brk m r = false
theorem within_le {a b : Nat} (h : a &&& b = a) : a ≤ b := by
  have := Nat.and_le_right (n := a) (m := b)
  omega
theorem within_antisymm {a b : Nat} (h1 : a &&& b = a) (h2 : b &&& a = b) : a = b := by
  rw [Nat.and_comm] at h2
  exact h1.symm.trans h2
theorem within_refl (a : Nat) : a &&& a = a := Nat.and_self a
noncomputable def haveP (rl : List (Nat × Nat)) (x : Nat) (ps : List Nat) : Nat := ps.foldl (fun h k => h ||| (rl.getD k (0, 0)).2) x
noncomputable def Walks (rl : List (Nat × Nat)) (x : Nat) (ps : List Nat) : Prop := ∀ i (h : i < ps.length), ps[i] < rl.length ∧ brk (haveP rl x (ps.take i)) (rl.getD ps[i] (0, 0)) = true
end My
namespace My
noncomputable def lessN (a b : Nat) : Nat := a ^^^ (a &&& b)
theorem less_bit (a b i : Nat) : (lessN a b).testBit i = (a.testBit i && !b.testBit i) := by
  unfold lessN
  rw [Nat.testBit_xor, Nat.testBit_and]
  cases a.testBit i <;> cases b.testBit i <;> rfl
theorem less_within (a b : Nat) : lessN a b &&& a = lessN a b := by
  rw [within_iff]
  intro i hi
  rw [less_bit, Bool.and_eq_true] at hi
  exact hi.1
theorem less_in {a b c : Nat} (h1 : b &&& c = b) (h2 : lessN a b &&& c = lessN a b) : a &&& c = a := by
  rw [within_iff] at *
  intro i hi
  cases e : b.testBit i with
  | true => exact h1 i e
  | false => exact h2 i (by rw [less_bit, hi, e]; rfl)
theorem less_not {a b : Nat} (hb : b &&& a = b) (hne : a ≠ b) : ¬ lessN a b &&& b = lessN a b := by
  intro h
  exact hne (within_antisymm (less_in (within_refl b) h) hb)
theorem less_lt {a b N : Nat} (h : a < 2 ^ N) : lessN a b < 2 ^ N := Nat.lt_of_le_of_lt (within_le (less_within a b)) h
noncomputable def leastTo (rs : List Nat) (w : Nat) : Nat → List (Nat × Nat)
  | 0 => []
  | i + 1 => if firstR (leastTo rs w i) i = none ∧ closedL rs w i ≠ i then leastTo rs w i ++ [(i, lessN (closedL rs w i) i)] else leastTo rs w i
theorem leastTo_succ (rs : List Nat) (w i : Nat) : leastTo rs w (i + 1) = if firstR (leastTo rs w i) i = none ∧ closedL rs w i ≠ i then leastTo rs w i ++ [(i, lessN (closedL rs w i) i)] else leastTo rs w i := rfl
noncomputable def leastN (rs : List Nat) (w : Nat) : List (Nat × Nat) := leastTo rs w (2 ^ w)
theorem least_mem {rs : List Nat} {w : Nat} {r : Nat × Nat} : ∀ {i : Nat}, r ∈ leastTo rs w i ↔ r.1 < i ∧ r.2 = lessN (closedL rs w r.1) r.1 ∧ closedL rs w r.1 ≠ r.1 ∧ keepsAll r.1 (leastTo rs w r.1)
  | 0 => by simp [leastTo]
  | i + 1 => by
    rw [leastTo_succ]
    split
    · rename_i h
      rw [List.mem_append, List.mem_singleton, least_mem (i := i)]
      constructor
      · rintro (⟨h1, h2⟩ | e)
        · exact ⟨by omega, h2⟩
        · subst e
          exact ⟨by show i < i + 1; omega, rfl, h.2, firstR_none.mp h.1⟩
      · rintro ⟨h1, h2, h3, h4⟩
        by_cases e : r.1 = i
        · right
          rw [e] at h2
          exact Prod.ext e h2
        · left
          exact ⟨by omega, h2, h3, h4⟩
    · rename_i h
      rw [least_mem (i := i)]
      constructor
      · rintro ⟨h1, h2⟩
        exact ⟨by omega, h2⟩
      · rintro ⟨h1, h2, h3, h4⟩
        by_cases e : r.1 = i
        · exfalso
          rw [e] at h3 h4
          exact h ⟨firstR_none.mpr h4, h3⟩
        · exact ⟨by omega, h2, h3, h4⟩
theorem least_lt {rs : List Nat} {w : Nat} {r : Nat × Nat} {i : Nat} (h : r ∈ leastTo rs w i) : r.2 < 2 ^ w := by
  rw [(least_mem.mp h).2.1]
  exact less_lt (closed_lt _ _ _)
theorem holds_closed {rs : List Nat} {w : Nat} {r : Nat × Nat} (h2 : r.2 < 2 ^ w) : (∀ x ∈ rs, brk x r = false) ↔ r.2 &&& closedL rs w r.1 = r.2 := by
  constructor
  · intro h
    rw [within_iff]
    intro i hi
    rw [closed_bit]
    refine ⟨?_, fun x hx hw => (within_iff _ _).mp (brk_false.mp (h x hx) hw) i hi⟩
    apply Nat.lt_of_not_le
    intro hle
    rw [Nat.testBit_lt_two_pow (Nat.lt_of_lt_of_le h2 (Nat.pow_le_pow_right (by omega) hle))] at hi
    cases hi
  · intro h x hx
    rw [brk_false]
    intro hw
    exact within_trans h (closed_row hx hw)
theorem least_holds {rs : List Nat} {w : Nat} {r : Nat × Nat} (h : r ∈ leastN rs w) : ∀ x ∈ rs, brk x r = false := by
  rw [holds_closed (least_lt h), (least_mem.mp h).2.1]
  exact less_within _ _
end My
namespace My
end My
namespace My
end My
namespace My
section
variable {R : Nat → Nat → Bool} {n : Nat}
end
end My
namespace L2
open PySem PySem.Spec PyProof.Rows
section
variable {X : Cx} {K : PySem.W.Frag}
theorem pe_fldK {e : Expr} {f : Str} {pos : Pos} {ta : TE} (h : X.K = K) (he : PE X e ta) (hb : attributeBase e f X.env (eval e X.env) = eval e X.env) : PE X (.Attribute e f pos) (tFld K ta f) := h ▸ pe_fld he hb
end
end L2
namespace My
noncomputable def openN (rs : List Nat) (w : Nat) (rl : List (Nat × Nat)) (m : Nat) : Prop := keepsAll m rl ∧ closedL rs w m ≠ m
noncomputable def IsNext (rs : List Nat) (w : Nat) (rl : List (Nat × Nat)) (b : Nat) : Option (Nat × Nat) → Prop
  | none => ∀ m, b ≤ m → m < 2 ^ w → ¬ openN rs w rl m
  | some r => b ≤ r.1 ∧ r.1 < 2 ^ w ∧ openN rs w rl r.1 ∧ r.2 = lessN (closedL rs w r.1) r.1 ∧ ∀ m, b ≤ m → m < r.1 → ¬ openN rs w rl m
theorem next_tail {rs rs' : List Nat} {w m : Nat} {rl rl' : List (Nat × Nat)} {o : Option (Nat × Nat)} (h : ∀ k, k < m → ¬ openN rs' w rl' k) (hn : IsNext rs' w rl' m o) : IsNext rs' w rl' 0 o := by
  cases o with
  | none =>
    intro k _ hk
    by_cases e : k < m
    · exact h k e
    · exact hn k (by omega) hk
  | some r =>
    obtain ⟨h1, h2, h3, h4, h5⟩ := hn
    refine ⟨Nat.zero_le _, h2, h3, h4, fun k _ hk => ?_⟩
    by_cases e : k < m
    · exact h k e
    · exact h5 k (by omega) hk
theorem closed_more {rs rs' : List Nat} {w m : Nat} (h : ∀ r ∈ rs, r ∈ rs') : closedL rs' w m &&& closedL rs w m = closedL rs' w m := by
  rw [within_iff]
  intro i hi
  rw [closed_bit] at hi ⊢
  exact ⟨hi.1, fun r hr => hi.2 r (h r hr)⟩
theorem closed_more_eq {rs rs' : List Nat} {w m : Nat} (h : ∀ r ∈ rs, r ∈ rs') (hm : m < 2 ^ w) (e : closedL rs w m = m) : closedL rs' w m = m := by
  have q := closed_more (w := w) (m := m) h
  rw [e] at q
  exact within_antisymm q (closed_holds hm)
theorem next_no {rs rs' : List Nat} {w : Nat} {rl : List (Nat × Nat)} {r : Nat × Nat} {o : Option (Nat × Nat)} (hs : ∀ x ∈ rs, x ∈ rs') (h : IsNext rs w rl 0 (some r)) (hn : IsNext rs' w rl r.1 o) : IsNext rs' w rl 0 o :=
  next_tail (rs := rs) (rl := rl) (fun k hk ho => h.2.2.2.2 k (Nat.zero_le _) hk ⟨ho.1, fun e => ho.2 (closed_more_eq hs (Nat.lt_trans hk h.2.1) e)⟩) hn
theorem next_more {rs : List Nat} {w b : Nat} {rl : List (Nat × Nat)} {r : Nat × Nat} (h : IsNext rs w rl b (some r)) : r.2 ≠ 0 ∧ r.1 &&& r.2 = 0 ∧ r.1 ||| r.2 = closedL rs w r.1 ∧ r.2 < 2 ^ w ∧ brk r.1 r = true := by
  obtain ⟨h1, h2, h3, h4, h5⟩ := h
  have hb := closed_holds (rs := rs) h2
  have hn := less_not hb h3.2
  rw [← h4] at hn
  refine ⟨fun e => hn (by rw [e, Nat.zero_and]), ?_, ?_, ?_, brk_iff.mpr ⟨within_refl _, hn⟩⟩
  · apply Nat.eq_of_testBit_eq
    intro i
    rw [h4, Nat.testBit_and, less_bit, Nat.zero_testBit]
    cases r.1.testBit i <;> simp
  · apply Nat.eq_of_testBit_eq
    intro i
    rw [h4, Nat.testBit_or, less_bit]
    have := (within_iff _ _).mp hb i
    cases e : r.1.testBit i with
    | true => rw [this e]; rfl
    | false => simp
  · rw [h4]; exact less_lt (closed_lt _ _ _)
theorem next_known {rs : List Nat} {w b : Nat} {rl : List (Nat × Nat)} {r : Nat × Nat} (h : IsNext rs w rl b (some r)) : ∀ x ∈ rs, brk x r = false := by
  rw [holds_closed (next_more h).2.2.2.1, h.2.2.2.1]
  exact less_within _ _
theorem least_stay {rs : List Nat} {w b : Nat} : ∀ {n : Nat}, b ≤ n → (∀ j, b ≤ j → j < n → ¬ openN rs w (leastTo rs w b) j) → leastTo rs w n = leastTo rs w b
  | 0, h, _ => by have : b = 0 := by omega
                  rw [this]
  | n + 1, h, hj => by
    by_cases e : b = n + 1
    · rw [e]
    · have ih := least_stay (n := n) (by omega) fun j h1 h2 => hj j h1 (by omega)
      rw [leastTo_succ, ih, if_neg]
      rintro ⟨h1, h2⟩
      exact hj n (by omega) (by omega) ⟨firstR_none.mp h1, h2⟩
noncomputable def talkTo (ws : List Nat) (w : Nat) : Option (Nat × Nat) → List (Nat × Nat)
  | none => leastN ws w
  | some r => leastTo ws w r.1
theorem talk_stay {ws rs : List Nat} {w m : Nat} {o : Option (Nat × Nat)} (hs : ∀ x ∈ rs, x ∈ ws) (hm : m ≤ 2 ^ w) (hn : IsNext rs w (leastTo ws w m) m o) : talkTo ws w o = leastTo ws w m := by
  have key : ∀ k, k < 2 ^ w → ¬ openN rs w (leastTo ws w m) k → ¬ openN ws w (leastTo ws w m) k := fun k hk h1 h2 => h1 ⟨h2.1, fun e => h2.2 (closed_more_eq hs hk e)⟩
  cases o with
  | none => exact least_stay hm fun j h1 h2 => key j h2 (hn j h1 h2)
  | some r => exact least_stay hn.1 fun j h1 h2 => key j (Nat.lt_trans h2 hn.2.1) (hn.2.2.2.2 j h1 h2)
theorem talk_no {ws rs : List Nat} {w : Nat} {r : Nat × Nat} {o : Option (Nat × Nat)} (hs : ∀ x ∈ rs, x ∈ ws) (hm : r.1 < 2 ^ w) (hn : IsNext rs w (leastTo ws w r.1) r.1 o) : talkTo ws w o = leastTo ws w r.1 := talk_stay hs (Nat.le_of_lt hm) hn
theorem least_in {rs : List Nat} {w i : Nat} (hi : i ≤ 2 ^ w) {r : Nat × Nat} (h : r ∈ leastTo rs w i) : r ∈ leastN rs w := by
  have q := least_mem.mp h
  exact least_mem.mpr ⟨by omega, q.2⟩
structure TalkI (ws bg : List Nat) (wd : Nat) (rs : List Nat) (rl : List (Nat × Nat)) (o : Option (Nat × Nat)) (i : Nat) : Prop where
  nx : IsNext rs wd rl 0 o
  to : rl = talkTo ws wd o
  sub : ∀ r ∈ rs, r ∈ ws
  ns : ∃ ns : List Nat, rs = bg ++ ns ∧ ns.Nodup ∧ (∀ n ∈ ns, n ∈ ws ∧ n ∉ bg) ∧ rl.length + ns.length = i
  len : rl.length + 1 ≤ 2 ^ wd
theorem TalkI.no {ws bg : List Nat} {wd : Nat} {rs : List Nat} {rl : List (Nat × Nat)} {r : Nat × Nat} {o : Option (Nat × Nat)} {i x : Nat} (h : TalkI ws bg wd rs rl (some r) i) (hx : x ∈ ws) (hb : brk x r = true) (hn : IsNext (rs ++ [x]) wd rl r.1 o) :
    TalkI ws bg wd (rs ++ [x]) rl o (i + 1) := by
  have e : rl = leastTo ws wd r.1 := h.to
  have hs : ∀ z ∈ rs ++ [x], z ∈ ws := fun z hz => by
    rcases List.mem_append.mp hz with q | q
    · exact h.sub z q
    · have : z = x := by simpa using q
      rw [this]; exact hx
  have hnew : x ∉ rs := fun hz => by
    have := next_known h.nx x hz
    rw [hb] at this; cases this
  obtain ⟨ns, h1, h2, h3, h4⟩ := h.ns
  rw [h1] at hnew
  refine ⟨next_no (fun z hz => List.mem_append_left _ hz) h.nx hn, ?_, hs, ⟨ns ++ [x], by rw [h1, List.append_assoc], ?_, fun n hn' => ?_, by rw [List.length_append, List.length_singleton]; omega⟩, h.len⟩
  · have hn2 := hn
    rw [e] at hn2 ⊢
    exact (talk_no hs h.nx.2.1 hn2).symm
  · rw [List.nodup_append]
    refine ⟨h2, by simp, fun a ha b hb e => ?_⟩
    have : b = x := by simpa using hb
    exact hnew (List.mem_append_right _ (by rw [← this, ← e]; exact ha))
  · rcases List.mem_append.mp hn' with q | q
    · exact h3 n q
    · have : n = x := by simpa using q
      rw [this]; exact ⟨hx, fun z => hnew (List.mem_append_left _ z)⟩
theorem TalkI.keeps {ws bg : List Nat} {wd : Nat} {rs : List Nat} {rl : List (Nat × Nat)} {r : Nat × Nat} {i x : Nat} (h : TalkI ws bg wd rs rl (some r) i) (hx : x ∈ ws) : keepsAll x rl := fun q hq => by
  have e : rl = leastTo ws wd r.1 := h.to
  rw [e] at hq
  exact least_holds (least_in (Nat.le_of_lt h.nx.2.1) hq) x hx
end My
namespace L2
open PySem PySem.Spec PySem.W PySem.Calls PyProof.Rows Builtin Builtin.ObjectAttr
noncomputable abbrev xob (C : Addr) (d : Option Addr) (vs : Array Value) : Obj := { cls := .ref C, dict := d, data := .fields vs }
noncomputable def XF (a C : Addr) (d : Option Addr) (T : Addr) : HO := .ext fun h => ∃ vs, h.get? a = some (xob C d vs) ∧ vs[1]? = some (.ref T)
noncomputable def XT (T : Addr) : HO := .ext fun h => ∃ o ts, h.get? T = some o ∧ o.data = .fields ts ∧ ts[3]? = some Value.none
section
variable {P : Program} {w : World} {H : Hp} {h : Heap} {a C T : Addr} {d : Option Addr}
theorem XF.ok {vs : Array Value} (e : h.get? a = some (xob C d vs)) (e1 : vs[1]? = some (.ref T)) : ObjOk P w H h a (XF a C d T) :=
  ⟨⟨vs, e, e1⟩, ⟨_, e⟩, fun _ _ ⟨vs, q, r⟩ k => ⟨vs, k _ q, r⟩⟩
theorem XT.ok {o : Obj} {ts : Array Value} (e : h.get? T = some o) (e1 : o.data = .fields ts) (e3 : ts[3]? = some Value.none) : ObjOk P w H h T (XT T) :=
  ⟨⟨o, ts, e, e1, e3⟩, ⟨_, e⟩, fun _ _ ⟨o, ts, q, r⟩ k => ⟨o, ts, k _ q, r⟩⟩
theorem XF.get (ok : HOk P w H h) (e : H a = some (XF a C d T)) : ∃ vs, h.get? a = some (xob C d vs) ∧ vs[1]? = some (.ref T) := (ok a _ e).1
theorem XT.get (ok : HOk P w H h) (e : H T = some (XT T)) : ∃ o ts, h.get? T = some o ∧ o.data = .fields ts ∧ ts[3]? = some Value.none := (ok T _ e).1
end
theorem obj_at {P : Program} {w : World} {H : Hp} {h : Heap} {a : Addr} {o : HO} (x : ObjOk P w H h a o) : ∃ ob, h.get? a = some ob := by
  cases o with
  | lst xs => obtain ⟨_, _, _, _, e⟩ := x; exact ⟨_, e⟩
  | tup xs => obtain ⟨_, _, _, ob, e, _⟩ := x; exact ⟨ob, e⟩
  | dK kvs => obtain ⟨_, _, _, _, ob, _, _, e, _⟩ := x; exact ⟨ob, e⟩
  | dT kvs => obtain ⟨_, _, _, _, ob, _, _, e, _⟩ := x; exact ⟨ob, e⟩
  | set S n => obtain ⟨ob, _, _, _, e, _⟩ := x; exact ⟨ob, e⟩
  | ins C dx fs => obtain ⟨_, _, _, e, _⟩ := x; exact ⟨_, e⟩
  | own y => exact x
  | xd fs => obtain ⟨_, ⟨ob, _, _, e, _⟩, _⟩ := x; exact ⟨ob, e⟩
  | rng lo hi => obtain ⟨_, _, _, e⟩ := x; exact ⟨_, e⟩
  | frz ob u => exact ⟨ob, x.1⟩
  | tbl ps => exact ⟨_, x⟩
  | met f y => exact ⟨_, x⟩
  | ext φ => exact x.2.1
structure Noted (fs : List Addr) (a C T : Addr) (d : Option Addr) (h h' : Heap) : Prop where
  keep : ∀ b o, b ≠ a → b ∉ fs → h.get? b = some o → h'.get? b = some o
  slot : ∀ b o, b ∈ fs → h.get? b = some o → ∃ sl, h'.get? b = some { o with slots := sl }
  new : h.objs.size ≤ T
  exc : ∃ vs, h'.get? a = some (xob C d vs) ∧ vs[1]? = some (.ref T)
  ent : ∃ o ts, h'.get? T = some o ∧ o.data = .fields ts ∧ ts[3]? = some Value.none
section
variable {M : Model} {A : Around} {E : Value → Shared → Prop} {s : Shared} {base : Heap} {env : Env} {outer : List Env} {L a C : Addr} {d : Option Addr} {vs : Array Value} {Q : Unit → Shared → Prop}
theorem entry_new {head : Value} {had : Bool} (hfr : A.frames = some (env :: outer)) (hl : s.heap.FunFrames base (env :: outer)) (hf : env.frame = some L) (he : s.heap.get? a = some (xob C d vs)) (hsz : 1 < vs.size)
    (k : ∀ T h', Noted ((env :: outer).filterMap (·.frame)) a C T d s.heap h' → Q () { s with heap := h' }) :
    wpAny M A (do let f ← frameOf env; let pl ← entryPlaceOf L had; let b ← EntryCells.newEntry head f .none (rawInt L) .none pl; setField (.ref a) 1 b) (fun _ s' => wpAny M A (setFlight (.ref a) none) Q E s') E s := by
  have nof : a ∉ (env :: outer).filterMap (·.frame) := fun hm => by
    obtain ⟨_, o, ho, hn⟩ := hl.mem hm
    rw [he] at ho
    cases ho
    exact hn vs rfl
  refine wpAny_bind (wpAny_frameOf_fun hfr hl hf fun h1 z1 => wpAny_bind (wpAny_entryPlaceOf fun pl hpl => ?_))
  have e1 : h1.get? a = some (xob C d vs) := (z1.2.1 a nof).trans he
  unfold EntryCells.newEntry newFields
  refine wpAny_bind (wpAny_newObj_type ?_ (hpl.sizeOk5 _ _ _ _ _))
  generalize ho : ({ cls := .type "traceback", dict := none, data := .fields ([head, .ref L, .none, rawInt L, .none] ++ (if pl.isEmpty then List.replicate 6 Value.none else pl)).toArray } : Obj) = ob
  have hsz4 : 3 < ([head, .ref L, .none, rawInt L, .none] ++ (if pl.isEmpty then List.replicate 6 Value.none else pl)).toArray.size := by
    simp only [List.size_toArray, List.length_append, List.length_cons, List.length_nil]; omega
  generalize ht : ([head, .ref L, .none, rawInt L, .none] ++ (if pl.isEmpty then List.replicate 6 Value.none else pl)).toArray = ts at ho hsz4
  have hna : h1.objs.size ≠ a := Nat.ne_of_gt (Heap.lt_size e1)
  have e2 : (h1.push ob).get? a = some (xob C d vs) := Heap.get?_push_of_some _ e1
  have t2 : (h1.push ob).get? h1.objs.size = some ob := Heap.get?_push_size _ (by rw [← ho]; rfl)
  refine wpAny_setField e2 rfl hsz ?_
  have d3 := Obj.data_mapFields (o := xob C d vs) rfl (·.setIfInBounds 1 (Value.ref h1.objs.size))
  have e3 := Heap.get?_update_self (Obj.mapFields (·.setIfInBounds 1 (Value.ref h1.objs.size))) e2 (Obj.isFreed_of_fields d3)
  have t3 := (Heap.get?_update_other (h1.push ob) (Obj.mapFields (·.setIfInBounds 1 (Value.ref h1.objs.size))) (Ne.symm hna)).trans t2
  have eo : Obj.mapFields (·.setIfInBounds 1 (Value.ref h1.objs.size)) (xob C d vs) = xob C d (vs.setIfInBounds 1 (Value.ref h1.objs.size)) := rfl
  rw [eo] at e3
  unfold setFlight
  refine wpAny_bind (wpAny_field e3 rfl (x := .ref h1.objs.size) (by simp [hsz]) ?_)
  rw [if_pos (show (Value.ref h1.objs.size != Value.none) = true from by simp)]
  have hd : ob.data = .fields ts := by rw [← ho]
  refine wpAny_setField t3 hd hsz4 (k h1.objs.size _ ⟨fun b o hb hm q => ?_, fun b o hm q => ?_, Nat.le_of_eq z1.1.symm, ⟨vs.setIfInBounds 1 (Value.ref h1.objs.size), ?_, ?_⟩, ⟨_, _, Heap.get?_update_self _ t3 (Obj.isFreed_of_fields (Obj.data_mapFields hd _)), Obj.data_mapFields hd _, ?_⟩⟩)
  · have q1 : h1.get? b = some o := (z1.2.1 b hm).trans q
    rw [Heap.get?_update_other _ _ (Nat.ne_of_gt (Heap.lt_size q1)), Heap.get?_update_other _ _ (Ne.symm hb)]
    exact Heap.get?_push_of_some _ q1
  · obtain ⟨sl, q1⟩ := z1.2.2 b o q
    refine ⟨sl, ?_⟩
    rw [Heap.get?_update_other _ _ (Nat.ne_of_gt (Heap.lt_size q1)), Heap.get?_update_other _ _ (fun e => nof (by rw [e]; exact hm))]
    exact Heap.get?_push_of_some _ q1
  · rw [Heap.get?_update_other _ _ hna]; exact e3
  · simp [hsz]
  · simp [hsz4]
theorem note_new (hfr : A.frames = some (env :: outer)) (hl : s.heap.FunFrames base (env :: outer)) (hf : env.frame = some L) (he : s.heap.get? a = some (xob C d vs)) (h1 : vs[1]? = some Value.none)
    (k : ∀ T h', Noted ((env :: outer).filterMap (·.frame)) a C T d s.heap h' → Q () { s with heap := h' }) :
    wpAny M A (noteFrame (.ref a) env) (fun _ s' => wpAny M A (setFlight (.ref a) none) Q E s') E s := by
  unfold noteFrame
  simp only [hf]
  refine wpAny_bind (wpAny_field he rfl h1 ?_)
  rw [if_neg (by decide)]
  exact entry_new hfr hl hf he (Array.getElem?_eq_some_iff.mp h1).1 k
theorem note_on {T0 : Addr} {oT : Obj} {ts : Array Value} (hfr : A.frames = some (env :: outer)) (hl : s.heap.FunFrames base (env :: outer)) (hf : env.frame = some L) (he : s.heap.get? a = some (xob C d vs)) (h1 : vs[1]? = some (.ref T0)) (hne : T0 ≠ a)
    (hT : s.heap.get? T0 = some oT) (hd : oT.data = .fields ts) (h3 : ts[3]? = some Value.none)
    (k : ∀ T h', Noted ((env :: outer).filterMap (·.frame)) a C T d (s.heap.update T0 (Obj.mapFields (·.setIfInBounds 3 Value.none))) h' → Q () { s with heap := h' }) :
    wpAny M A (noteFrame (.ref a) env) (fun _ s' => wpAny M A (setFlight (.ref a) none) Q E s') E s := by
  unfold noteFrame
  simp only [hf]
  refine wpAny_bind (wpAny_field he rfl h1 ?_)
  rw [if_pos (show (Value.ref T0 != Value.none) = true from by simp)]
  refine wpAny_bind (wpAny_field hT hd h3 ?_)
  rw [if_neg (show ¬ ((Value.none == rawInt L) = true) from by simp [rawInt])]
  refine wpAny_bind (wpAny_setField hT hd (Array.getElem?_eq_some_iff.mp h3).1 ?_)
  refine entry_new (s := { s with heap := s.heap.update T0 (Obj.mapFields (·.setIfInBounds 3 Value.none)) }) hfr (hl.of_keeps fun b o hb hn => ?_) hf ((Heap.get?_update_other _ _ hne).trans he) (Array.getElem?_eq_some_iff.mp h1).1 k
  by_cases e : b = T0
  · subst e
    rw [hT] at hb
    cases hb
    exact absurd hd (hn ts)
  · exact ⟨o, (Heap.get?_update_other _ _ (Ne.symm e)).trans hb, rfl⟩
end
section
variable {X : Cx} {pins : List (Addr × Obj)} {σ : St} {H : Hp} {s : Shared} {a C : Addr} {d : Option Addr} {A : Around} {E : Value → Shared → Prop} {Q : Unit → Shared → Prop}
theorem Inv.noted {T : Addr} {h0 h' : Heap} {φ : Heap → Prop} (I : Inv X pins σ H s) (e : H a = some (.ext φ)) (k0 : ∀ b o, H b ≠ none → b ≠ a → (∀ ψ, H b ≠ some (.ext ψ)) → s.heap.get? b = some o → h0.get? b = some o)
    (k1 : ∀ b o, H b = none → s.heap.get? b = some o → h0.get? b = some o) (hx : ∀ b ψ, b ≠ a → H b = some (.ext ψ) → ObjOk X.prog X.w (upd (upd H T (XT T)) a (XF a C d T)) h' b (.ext ψ)) (hsz : h0.objs.size = s.heap.objs.size)
    (N : Noted (frs X.stack) a C T d h0 h') : Inv X pins σ (upd (upd H T (XT T)) a (XF a C d T)) { s with heap := h' } := by
  have hT : H T = none := I.hok.fresh (by rw [← hsz]; exact N.new)
  have hTa : T ≠ a := fun z => by rw [z, e] at hT; cases hT
  have na : ∀ b, H b = none → b ≠ a := fun b q z => by rw [z, e] at q; cases q
  have nT : ∀ b o, s.heap.get? b = some o → b ≠ T := fun b o q => Nat.ne_of_lt (Nat.lt_of_lt_of_le (Heap.lt_size q) (by rw [← hsz]; exact N.new))
  have old : ∀ b u, H b = some u → b ≠ T := fun b u q z => by rw [z, hT] at q; cases q
  have nf : ∀ b u, H b = some u → b ∉ frs X.stack := fun b u q z => by rw [I.stkFree b z] at q; cases q
  refine I.call (h' := h') (g' := s.gens) (d' := s.drawn) (t' := s.toks) (ch := []) ⟨fun b o q n hm _ => N.keep b o (na b n) hm (k1 b o n q), fun b o q n hm _ => N.slot b o hm (k1 b o n q), fun b o q n _ => ?_, fun b o q _ => ?_, fun b xs q => ?_, fun b o u q => ?_, fun b ps q => ⟨#[], ?_⟩⟩ (fun b u q => ?_) I.bare (fun _ z => nomatch z)
  · rw [upd_ne (na b n), upd_ne (nT b o q)]; exact n
  · by_cases hb : b = a
    · rw [hb]; obtain ⟨vs, r, _⟩ := N.exc; exact ⟨_, r⟩
    · cases hH : H b with
      | none =>
        by_cases hm : b ∈ frs X.stack
        · obtain ⟨sl, r⟩ := N.slot b o hm (k1 b o hH q); exact ⟨_, r⟩
        · exact ⟨o, N.keep b o hb hm (k1 b o hH q)⟩
      | some u =>
        by_cases hu : ∃ ψ, u = .ext ψ
        · obtain ⟨ψ, rfl⟩ := hu
          exact (hx b ψ hb hH).2.1
        · exact ⟨o, N.keep b o hb (nf b u hH) (k0 b o (by rw [hH]; exact fun z => nomatch z) hb (fun ψ z => hu ⟨ψ, by rw [hH] at z; exact Option.some.inj z⟩) q)⟩
  · rw [upd_ne (ne_of q e (by intro z; cases z)), upd_ne (old b _ q)]; exact q
  · rw [upd_ne (ne_of q e (by intro z; cases z)), upd_ne (old b _ q)]; exact q
  · rw [upd_ne (ne_of q e (by intro z; cases z)), upd_ne (old b _ q), q]; simp
  · by_cases hb : b = a
    · subst hb
      rw [upd_same] at q
      cases q
      obtain ⟨vs, r, r1⟩ := N.exc
      exact XF.ok r r1
    · rw [upd_ne hb] at q
      by_cases hbT : b = T
      · subst hbT
        rw [upd_same] at q
        cases q
        obtain ⟨o, ts, r, r1, r3⟩ := N.ent
        exact XT.ok r r1 r3
      · rw [upd_ne hbT] at q
        by_cases hu : ∃ ψ, u = .ext ψ
        · obtain ⟨ψ, rfl⟩ := hu
          exact hx b ψ hb q
        · refine (I.hok b u q).stay (fun c v hc z => ?_) (fun c z => by rw [upd_ne (ne_of z e (by intro z; cases z)), upd_ne (old c _ z)]; exact z) fun c ys z => by rw [upd_ne (ne_of z e (by intro z; cases z)), upd_ne (old c _ z)]; exact z
          rcases hc with hc | hc
          · subst hc
            exact N.keep c v hb (nf c u q) (k0 c v (by rw [q]; exact fun z => nomatch z) hb (fun ψ z => hu ⟨ψ, by rw [q] at z; exact Option.some.inj z⟩) z)
          · exact N.keep c v (ne_of hc e (by intro z; cases z)) (nf c _ hc) (k0 c v (by rw [hc]; exact fun z => nomatch z) (ne_of hc e (by intro z; cases z)) (fun ψ z => by rw [hc] at z; cases z) z)
noncomputable def AtTop (X : Cx) : Prop := X.stack = X.env :: X.outer ∧ X.env.frame = some X.env.locals
theorem note_fresh (I : Inv X pins σ H s) (ht : AtTop X) (hA : A.frames = X.A.frames) (e : H a = some (XO a C d)) (k : ∀ T s', H T = none → T ≠ a → Inv X pins σ (upd (upd H T (XT T)) a (XF a C d T)) s' → Q () s') :
    wpAny (model X.prog X.w) A (noteFrame (.ref a) X.env) (fun _ s' => wpAny (model X.prog X.w) A (setFlight (.ref a) none) Q E s') E s := by
  obtain ⟨tp, ho⟩ := XO.get I.hok e
  have hst := I.stack
  rw [ht.1] at hst
  refine note_new (d := d) (C := C) (by rw [hA, I.ok.frames, ht.1]) hst ht.2 ho rfl fun T h' N => ?_
  have hT : H T = none := I.hok.fresh N.new
  have hTa : T ≠ a := fun z => by rw [z, e] at hT; cases hT
  have N2 : Noted (frs X.stack) a C T d s.heap h' := by rw [ht.1]; exact N
  refine k T _ hT hTa (I.noted e (fun _ _ _ _ _ q => q) (fun _ _ _ q => q) (fun b ψ hb q => ?_) rfl N2)
  refine (I.hok b _ q).stay (fun c v hc z => ?_) (fun c z => ?_) fun c ys z => ?_
  · rcases hc with hc | hc
    · subst hc
      exact N2.keep c v hb (fun z => by rw [I.stkFree c z] at q; cases q) z
    · exact N2.keep c v (ne_of hc e (by intro z; cases z)) (fun z => by rw [I.stkFree c z] at hc; cases hc) z
  · rw [upd_ne (ne_of z e (by intro z; cases z)), upd_ne (ne_of_none z hT)]; exact z
  · rw [upd_ne (ne_of z e (by intro z; cases z)), upd_ne (ne_of_none z hT)]; exact z
theorem note_again {T0 : Addr} (I : Inv X pins σ H s) (ht : AtTop X) (hA : A.frames = X.A.frames) (e : H a = some (XF a C d T0)) (e0 : H T0 = some (XT T0)) (hne : T0 ≠ a) (k : ∀ T s', H T = none → T ≠ a → Inv X pins σ (upd (upd H T (XT T)) a (XF a C d T)) s' → Q () s') :
    wpAny (model X.prog X.w) A (noteFrame (.ref a) X.env) (fun _ s' => wpAny (model X.prog X.w) A (setFlight (.ref a) none) Q E s') E s := by
  obtain ⟨vs, ho, h1⟩ := XF.get I.hok e
  obtain ⟨oT, ts, hT0, hd0, h30⟩ := XT.get I.hok e0
  have hst := I.stack
  rw [ht.1] at hst
  refine note_on (d := d) (C := C) (by rw [hA, I.ok.frames, ht.1]) hst ht.2 ho h1 hne hT0 hd0 h30 fun T h' N => ?_
  have hs0 : (s.heap.update T0 (Obj.mapFields (·.setIfInBounds 3 Value.none))).objs.size = s.heap.objs.size := Heap.size_after_update ..
  have hT : H T = none := I.hok.fresh (by rw [← hs0]; exact N.new)
  have hTa : T ≠ a := fun z => by rw [z, e] at hT; cases hT
  have oth : ∀ b, b ≠ T0 → (s.heap.update T0 (Obj.mapFields (·.setIfInBounds 3 Value.none))).get? b = s.heap.get? b := fun b hb => Heap.get?_update_other _ _ (Ne.symm hb)
  have N2 : Noted (frs X.stack) a C T d (s.heap.update T0 (Obj.mapFields (·.setIfInBounds 3 Value.none))) h' := by rw [ht.1]; exact N
  refine k T _ hT hTa (I.noted e (fun b o _ _ hn q => (oth b (fun z => by rw [z] at hn; exact hn _ e0)).trans q) (fun b o n q => (oth b (fun z => by rw [z, e0] at n; cases n)).trans q) (fun b ψ hb q => ?_) hs0 N2)
  by_cases hbT : b = T0
  · subst hbT
    rw [e0] at q
    have q := Option.some.inj q
    rw [← q]
    have t1 := Heap.get?_update_self (Obj.mapFields (·.setIfInBounds 3 Value.none)) hT0 (Obj.isFreed_of_fields (Obj.data_mapFields hd0 _))
    exact XT.ok (N2.keep b _ hb (fun z => by rw [I.stkFree b z] at e0; cases e0) t1) (Obj.data_mapFields hd0 _) (by
      have hsz : 3 < ts.size := (Array.getElem?_eq_some_iff.mp h30).1
      simp [hsz])
  · refine (I.hok b _ q).stay (fun c v hc z => ?_) (fun c z => ?_) fun c ys z => ?_
    · rcases hc with hc | hc
      · subst hc
        exact N2.keep c v hb (fun z => by rw [I.stkFree c z] at q; cases q) ((oth c hbT).trans z)
      · exact N2.keep c v (ne_of hc e (by intro z; cases z)) (fun z => by rw [I.stkFree c z] at hc; cases hc) ((oth c (ne_of hc e0 (by intro z; cases z))).trans z)
    · rw [upd_ne (ne_of z e (by intro z; cases z)), upd_ne (ne_of_none z hT)]; exact z
    · rw [upd_ne (ne_of z e (by intro z; cases z)), upd_ne (ne_of_none z hT)]; exact z
end
noncomputable def Flown (H : Hp) (a C : Addr) (d : Option Addr) : Prop := ∃ T, H a = some (XF a C d T) ∧ H T = some (XT T) ∧ T ≠ a
theorem flown_new {H : Hp} {a C T : Addr} {d : Option Addr} (h : T ≠ a) : Flown (upd (upd H T (XT T)) a (XF a C d T)) a C d := ⟨T, upd_same, by rw [upd_ne h]; exact upd_same, h⟩
noncomputable def CXE (P : Program) (w : World) : CXT := fun outer H s E e s' => ∃ (a C : Addr) (H' : Hp), e = .ref a ∧ s'.os = s.os ∧ AllBare s'.gens ∧ Un (frs outer) [] H H' s.heap s'.heap ∧ HOk P w H' s'.heap ∧ E (.ref C) (some a) H'
theorem leaves {P : Program} {w : World} {K : PySem.W.Frag} {mg : Str → Option Value} {base : Heap} {N : List Str} {qual : Str} {scope : Scope} {f : Addr} {cd : Value} {A : Around} {outer : List Env} {s s1 : Shared} {H H1 : Hp} {E : XK} {pins : List (Addr × Obj)} {σ : St} {a C : Addr} {d : Option Addr}
    (I : Inv (cxOf (CXE P w) P w K mg base N qual scope f cd A outer s H E) pins σ H1 s1) (e : H1 a = some (XO a C d)) (q : ∀ T, H1 T = none → T ≠ a → E (.ref C) (some a) (upd (upd H1 T (XT T)) a (XF a C d T))) :
    (cxOf (CXE P w) P w K mg base N qual scope f cd A outer s H E).xe (.ref a) s1 := by
  have ht : AtTop (cxOf (CXE P w) P w K mg base N qual scope f cd A outer s H E) := ⟨rfl, rfl⟩
  show wpAny _ _ (leaving _ _) _ _ _
  unfold leaving
  refine wpAny_bind (note_fresh I ht rfl e fun T s' hT hTa J => ?_)
  exact ⟨a, C, _, rfl, J.os, J.bare, J.base, J.hok, q T hT hTa⟩
end L2
namespace L2
open PySem PySem.Spec PySem.W PySem.Calls PyProof.Rows Builtin Builtin.ObjectAttr
noncomputable abbrev bmV : List Value := [.type "ValueError", .type "Exception", .type "BaseException", .type "object"]
inductive ICls (h : Heap) (C : Addr) (bmB : List Value) (newId : String) : Prop where
  | mk (nm qn : Str) (N : Addr) (bs bm : List Value) (hdct : Bool) (sn : List Str) (sub : List Value) (ab : Bool) (col : Option Bool) (dd : Option Addr) (k0 k1 k2 k3 k5 : Option Value) (mN : Str → Option Value) (e1 : h.get? C = some (excClassObj nm qn C N bs bm hdct sn sub ab col dd k0 k1 k2 k3 k5 newId)) (e2 : h.Ns N mN) (e3 : mN "__init__" = none) (e4 : OwnTail h bmB bm) : ICls h C bmB newId
theorem cls_of_in {K : PySem.W.Frag} {h : Heap} {C : Addr} {bmB : List Value} {newId : String} (X : K.In h) (q : excIn K C bmB newId = true) :
    ICls h C bmB newId := by
  unfold excIn at q
  split at q
  · rename_i dd cd sl ho
    split at q
    · rename_i C' bm k0 k1 k2 k3 n k5 hm hs
      simp only [Bool.and_eq_true, beq_iff_eq, Bool.not_eq_true'] at q
      obtain ⟨⟨⟨⟨⟨rfl, rfl⟩, hdel⟩, ht⟩, hok⟩, hni⟩ := q
      obtain ⟨nm, bs, mro, ns, qn, hd, sn, sub, ab, col, del⟩ := cd
      dsimp only at hm hdel hok hni
      subst hm hdel
      have esl : sl = #[k0, k1, k2, k3, some (.builtin n), k5] := by
        cases sl
        simp only at hs
        rw [hs]
      subst esl
      exact ⟨nm, qn, ns, bs, bm, hd, sn, sub, ab, col, dd, k0, k1, k2, k3, k5, _, X _ _ ho, .of_isNs (isNs_of_in X hok), nsMap_none_of_in X hok hni, tail_of_in X ht⟩
    · cases q
  · cases q
noncomputable def XRs (K : PySem.W.Frag) (C : Addr) : Prop := (∃ f, excInI K C bmV "ValueError.__new__" f = true) ∨ excIn K C bmV "ValueError.__new__" = true
inductive IXo (h : Heap) (C : Addr) : Prop where
  | mk (nm qn : Str) (N : Addr) (bs bm : List Value) (hdct : Bool) (sn : List Str) (sub : List Value) (ab : Bool) (col : Option Bool) (dd : Option Addr) (k0 k1 k2 k3 k5 : Option Value) (e1 : h.get? C = some (excClassObj nm qn C N bs bm hdct sn sub ab col dd k0 k1 k2 k3 k5 "ValueError.__new__")) (e2 : bm.contains (.type "BaseException") = true) : IXo h C
theorem XRs.obj {K : PySem.W.Frag} {C : Addr} {h : Heap} (r : XRs K C) (X : K.In h) :
    IXo h C := by
  rcases r with ⟨f, q⟩ | q
  · obtain ⟨nm, qn, N, bs, bm, hdct, sn, sub, ab, col, dd, k0, k1, k2, k3, k5, mN, hC, _, _, T⟩ := exc_of_in X q
    exact ⟨nm, qn, N, bs, bm, hdct, sn, sub, ab, col, dd, k0, k1, k2, k3, k5, hC, T.hasType (by decide +kernel)⟩
  · obtain ⟨nm, qn, N, bs, bm, hdct, sn, sub, ab, col, dd, k0, k1, k2, k3, k5, mN, hC, _, _, T⟩ := cls_of_in X q
    exact ⟨nm, qn, N, bs, bm, hdct, sn, sub, ab, col, dd, k0, k1, k2, k3, k5, hC, T.hasType (by decide +kernel)⟩
section
variable {M : Model} {A : Around} {E : Value → Shared → Prop} {env : Env} {s : Shared} {x : Sem Value} {Q : Flow → Shared → Prop}
variable {nm qn : Str} {C N : Addr} {bs bm : List Value} {hdct : Bool} {sn : List Str} {sub : List Value} {ab : Bool} {col : Option Bool} {dd : Option Addr} {k0 k1 k2 k3 k5 : Option Value} {newId : String}
theorem raise_made (hb : bm.contains (.type "BaseException") = true) (hh : A.handled = none)
    (h : wpAny M A x (fun v s1 => ∃ e t dx, v = .ref e ∧ s1.heap.get? C = some (excClassObj nm qn C N bs bm hdct sn sub ab col dd k0 k1 k2 k3 k5 newId) ∧ s1.heap.get? e = some (excO C dx t) ∧ E (.ref e) s1) E s) :
    wpAny M A (raiseStmt env (some x) none) Q E s := by
  have hB : (Value.ref C :: bm).contains (.type "BaseException") = true := by rw [List.contains_cons, hb]; simp
  unfold raiseStmt
  refine wpAny_bind (wpAny_mono h (fun v s1 h1 => ?_) fun _ _ z => z)
  obtain ⟨e, t, dx, rfl, hC, he, hE⟩ := h1
  obtain ⟨hp, g, d, tk, os⟩ := s1
  repeat (first
    | with_reducible refine wpAny_loadPart_at hC ?_
    | with_reducible refine wpAny_loadPart_at he ?_
    | (with_reducible refine wpAny_isSubtype_exc hC ?_; rw [hB])
    | wp_step)
  exact wpAny_raiseNew_none hh hE
end
noncomputable def sRaise (C : Addr) (te : TE) (E : XK) : TS := fun _ σ H => te σ H fun x H1 => ∃ a d, x = .ref a ∧ H1 a = some (XO a C d) ∧ ∀ T, H1 T = none → T ≠ a → E (.ref C) (some a) (upd (upd H1 T (XT T)) a (XF a C d T))
section
variable {P : Program} {w : World} {K : PySem.W.Frag} {mg : Str → Option Value} {base : Heap} {N : List Str} {qual : Str} {scope : Scope} {f : Addr} {cd : Value} {A : Around} {outer : List Env} {s0 : Shared} {H0 : Hp} {E : XK} {e : Expr} {te : TE} {pos : Pos} {C : Addr}
theorem ps_raise (R : XRs K C) (he : PE (cxOf (CXE P w) P w K mg base N qual scope f cd A outer s0 H0 E) e te) : PS (cxOf (CXE P w) P w K mg base N qual scope f cd A outer s0 H0 E) (.Raise (some e) none pos) (sRaise C te E) := by
  intro pins s σ H D I h
  obtain ⟨nm, qn, Nn, bs, bm, hdct, sn, sub, ab, col, dd, k0, k1, k2, k3, k5, hC, hb⟩ := R.obj I.ok.mod.kin
  show wpAny _ _ (do standAt pos; raiseStmt _ (some (do let v ← eval e _; standAt pos; pure v)) none) _ _ _
  refine wpAny_bind (wpAny_standAt (raise_made (C := C) (nm := nm) (qn := qn) (N := Nn) (bs := bs) (bm := bm) (hdct := hdct) (sn := sn) (sub := sub) (ab := ab) (col := col) (dd := dd) (k0 := k0) (k1 := k1) (k2 := k2) (k3 := k3) (k5 := k5) (newId := "ValueError.__new__") hb (I.ok.hd rfl) ?_))
  refine wpAny_bind (thn (he pins s σ H _ I h) fun v s1 ⟨x, H1, I1, rx, a, d, ex, ea, q⟩ => wpAny_bind (wpAny_standAt (wpAny_pure ?_)))
  subst ex
  obtain rfl : v = Value.ref a := rx
  obtain ⟨tp, ho⟩ := XO.get I1.hok ea
  exact ⟨a, tp, d, rfl, I1.bk _ _ hC, ho, leaves I1 ea q⟩
end
structure XMk0 (K : PySem.W.Frag) (C : Addr) : Prop where
  ex : excIn K C bmV "ValueError.__new__" = true
  kp : PySem.W.keepIn K (.ref C) = true
noncomputable def tMakeX0 (C : Addr) : TE := fun _ H Q => ∀ x, H x = none → Q (.ref x) (upd H x (XO x C none))
section
variable {X : Cx} {C : Addr} {x : Str} {p pos : Pos}
theorem pe_makeX0 (M : XMk0 X.K C) (hg : Gl X x) (hm : X.mg x = some (.ref C)) (hdb : (x == ("__debug__" : Str)) = false := by decide) : PE X (.Call (.Name x p) [] [] pos) (tMakeX0 C) := by
  intro pins s σ H Q I h
  refine wpAny_Call_Name_kw (ld_glob I hg hm ?_ hdb)
  refine PySem.W.callWith_K0 I.kIn M.kp ?_
  obtain ⟨nm, qn, N, bs, bm, hdct, sn, sub, ab, col, dd, k0, k1, k2, k3, k5, mN, hC, hn, hni, T⟩ := cls_of_in I.kIn M.ex
  obtain ⟨hh, g, d, t, os⟩ := s
  refine wpAny_call_exc_subU PySem.F.excBase_ValueError (by decide +kernel) PySem.F.excBase_ValueError T hC hn hni (fun h' a hm => ?_)
  obtain ⟨tp, e1, _, _⟩ := hm.there
  have ha : H a = none := by
    cases q : H a with
    | none => rfl
    | some o =>
      obtain ⟨ob, ho⟩ := obj_at (I.hok a o q)
      rw [hm.new] at ho; cases ho
  have u : Un X.fs [] H (upd H a (XO a C none)) hh h' := ⟨fun b o q _ _ _ => hm.keeps b o q, fun b o q _ _ _ => ⟨o.slots, hm.keeps b o q⟩, fun b o q n _ => by rw [upd_ne (fun z => by rw [z, hm.new] at q; cases q)]; exact n, fun b o q _ => ⟨o, hm.keeps b o q⟩,
    fun b xs q => by rw [upd_ne (ne_of_none q ha)]; exact q, fun b o u q => by rw [upd_ne (ne_of_none q ha)]; exact q, fun b ps q => ⟨#[], by rw [upd_ne (ne_of_none q ha), q]; simp⟩⟩
  refine ⟨.ref a, _, I.un (t' := t) u (fun b o q => ?_), rfl, h a ha⟩
  by_cases hb : b = a
  · subst hb
    rw [upd_same] at q
    cases q
    exact XO.ok e1
  · rw [upd_ne hb] at q
    exact (I.hok b o q).stay (fun c v _ z => hm.keeps c v z) (fun c z => by rw [upd_ne (ne_of_none z ha)]; exact z) fun c ys z => by rw [upd_ne (ne_of_none z ha)]; exact z
end
section
variable {P : Program} {w : World} {K : PySem.W.Frag} {mg : Str → Option Value} {base : Heap}
theorem Fun.okE {x qual : Str} {st : Stmt} {f : Addr} {fd : FuncData} {N ps : List Str} {k : Nat} {sp : Sp} (F : Fun K x qual st f fd) (S : FnScope N ps (defScope st)) (len : ∀ vs H Q E, sp vs H Q E → vs.length = ps.length)
    (hbody : ∀ (cdv : Value) (A : Around) (outer : List Env) (s : Shared) (H : Hp) (vs : List V) (Q : VK) (E : XK), Room k (A.deeper (envOfC qual (defScope st) s.heap.objs.size f cdv)) → sp vs H Q E →
      ∃ t, PSs (cxOf (CXE P w) P w K mg base N qual (defScope st) f cdv A outer s H E) (defBody st) t ∧ t { nx := fun _ H' => Q .non H', rt := Q } (start N vs) H) : FnOk P w K mg base (CXE P w) (k + 1) f fd ps sp := by
  obtain ⟨oc, od, kV, doc, pm, an, cdv, ct, osl, rfl, lk, hcd⟩ := F.ex
  exact fn_of lk hcd S len fun A outer s H vs Q E hr hsp => hbody cdv A outer s H vs Q E hr hsp
end
noncomputable def PassesS (CX : CXT) (X : Cx) (E : St → XK) : Prop := ∀ (pins : List (Addr × Obj)) (σ : St) (H : Hp) (s : Shared) (e : Value) (s' : Shared), Inv X pins σ H s → CX X.stack H s (E σ) e s' → X.xe e s'
noncomputable def tMethE (C : Addr) (m : Str) (sp : Sp) (dvs : List V) (E : St → XK) (ta : TE) (t : TA) : TE := fun σ H Q => ta σ H fun x H1 => IMeth C m x H1 (
  t σ H1 fun vs H2 => sp (x :: (vs ++ dvs)) H2 Q (E σ))
section
variable {X : Cx} {CX : CXT} {k : Nat} {f C : Addr} {fd : FuncData} {ps : List Str} {sp : Sp} {dvs : List V} {ds : List Value} {x m : Str} {p pos apos : Pos} {e o : Expr} {es : List Expr} {ta : TE} {t : TA}
theorem run_fnE {E : XK} {pins : List (Addr × Obj)} {σ : St} {H : Hp} {s : Shared} {Q : VK} {us : List Value} {vs : List V} (F : FnOk X.prog X.w X.K X.mg X.base CX k f fd ps sp) (hr : Room k X.A) (hb : Binds X.K fd ps ds) (hd : Vals dvs ds)
    (hx : ∀ e s', CX X.stack H s E e s' → X.xe e s') (I : Inv X pins σ H s) (r : Vals vs us) (h : sp (vs ++ dvs) H Q E) : wpAny (model X.prog X.w) X.A (call (.ref f) us) (EP X pins σ Q) X.xe s := by
  have r2 : Vals (vs ++ dvs) (us ++ ds) := r.append hd
  have hl : (us ++ ds).length = ps.length := by rw [← r2.length]; exact F.len _ _ _ _ h
  refine wpAny_call (codeAny_mono (F.run X.A X.stack s H ⟨us, []⟩ (us ++ ds) (vs ++ dvs) Q E hr I.env0 (hb s us I.kIn hl) r2 h) fun r s' hq => ?_)
  cases r with
  | error e => exact hx e s' hq
  | ok fl =>
    cases fl with
    | ret u => exact I.after hq
    | next => exact False.elim hq
    | brk => exact False.elim hq
    | cont => exact False.elim hq
variable {E : St → XK}
theorem pe_methE {pl : Sem Bool} (he : PE X o ta) (c : Cls X.K C) (hm : Meth X.K C m f) (F : FnOk X.prog X.w X.K X.mg X.base CX k f fd ps sp) (hr : Room k X.A) (hb : Binds X.K fd ps ds) (hd : Vals dvs ds) (hx : PassesS CX X E) (ha : PA X (e :: es) t)
    (hst : starEach (e :: es) X.env = (false, eval e X.env) :: starEach es X.env := by rfl) (hpl : (backTo pos (starEach es X.env)).any (·.1) = false := by rfl)
    (ht : eval (.Call (.Attribute o m apos) (e :: es) [] pos) X.env = (do
      let ov ← eval o X.env
      standAt apos.atName
      let (f, first) ← holding [ov] (getMethod ov m pl)
      callWith pos f first (backTo pos (starEach (e :: es) X.env)) (backToKw pos (keywordEach [] X.env))) := by rfl) :
    PE X (.Call (.Attribute o m apos) (e :: es) [] pos) (tMethE C m sp dvs E ta t) := by
  intro pins s σ H Q I h
  refine PySem.W.methodCall_KW (pl := pl) (thn (he pins s σ H _ I h) fun u s1 zpat => ?_) ht
  obtain ⟨x, H1, I1, rx, a, dx, fs, ex, ea, l, q⟩ := zpat
  subst ex
  obtain rfl : u = Value.ref a := rx
  refine getmeth_ok I1 ea c hm l ?_
  refine PySem.W.callWith_K (first := [.ref a]) (h₀ := X.base) I.ok.mod.kin hm.kp (thn (ha pos pins s1 σ H1 _ I1 q) fun us s2 ⟨vs, H2, I2, r, q2⟩ => ⟨I2.kIn, ?_⟩) hst hpl
  exact run_fnE (us := .ref a :: us) (vs := .ref a :: vs) F hr hb hd (fun e s' => hx pins σ H2 s2 e s' I2) I2 (.cons rfl r) q2
end
noncomputable abbrev Cx.tried (X : Cx) (pn : List (Addr × Obj)) (W : Value → Shared → Prop) : Cx := { X with pn := pn, xe := W }
noncomputable abbrev Cx.suite (X : Cx) (a : Addr) : Cx := { X with A := X.A.mark (some (.ref a)), calm := false, xe := fun _ _ => False }
section
variable {X : Cx} {pins : List (Addr × Obj)} {σ : St} {H : Hp} {s : Shared} {W : Value → Shared → Prop} {a : Addr}
theorem Inv.tried (I : Inv X pins σ H s) : Inv (X.tried (X.pn ++ pins) W) [] σ H s :=
  ⟨⟨I.ok.mod, I.ok.kind, I.ok.glob, I.ok.blt, I.ok.above, I.ok.inj, I.ok.has, I.ok.cab, I.ok.hd, I.ok.frames, I.ok.stk, I.ok.exf, I.ok.bs, I.ok.bsz, I.ok.noex, I.ok.exfs, I.ok.funs, I.ok.frf⟩, I.os, I.bare, I.base, I.loc, I.cell, I.free, I.freeC, fun p hp => I.pin p (by simpa using hp), I.hok, I.len⟩
theorem Inv.untried {pins' : List (Addr × Obj)} (I : Inv (X.tried (X.pn ++ pins) W) pins' σ H s) : Inv X pins σ H s :=
  ⟨⟨I.ok.mod, I.ok.kind, I.ok.glob, I.ok.blt, I.ok.above, I.ok.inj, I.ok.has, I.ok.cab, I.ok.hd, I.ok.frames, I.ok.stk, I.ok.exf, I.ok.bs, I.ok.bsz, I.ok.noex, I.ok.exfs, I.ok.funs, I.ok.frf⟩, I.os, I.bare, I.base, I.loc, I.cell, I.free, I.freeC, fun p hp => I.pin p (List.mem_append_left _ hp), I.hok, I.len⟩
theorem Inv.insuite (I : Inv X pins σ H s) : Inv (X.suite a) pins σ H s :=
  ⟨⟨I.ok.mod, I.ok.kind, I.ok.glob, I.ok.blt, I.ok.above, I.ok.inj, I.ok.has, I.ok.cab, (fun z => nomatch z), I.ok.frames, I.ok.stk, I.ok.exf, I.ok.bs, I.ok.bsz, I.ok.noex, I.ok.exfs, I.ok.funs, I.ok.frf⟩, I.os, I.bare, I.base, I.loc, I.cell, I.free, I.freeC, I.pin, I.hok, I.len⟩
theorem Inv.outsuite (J : X.Ok) (I : Inv (X.suite a) pins σ H s) : Inv X pins σ H s :=
  ⟨J, I.os, I.bare, I.base, I.loc, I.cell, I.free, I.freeC, I.pin, I.hok, I.len⟩
theorem flight_none {M : Model} {A : Around} {E : Value → Shared → Prop} {Q : Unit → Shared → Prop} {C T : Addr} {d : Option Addr} (I : Inv X pins σ H s) (e : H a = some (XF a C d T)) (e0 : H T = some (XT T)) (k : ∀ s', Inv X pins σ H s' → Q () s') :
    wpAny M A (setFlight (.ref a) none) Q E s := by
  obtain ⟨vs, ho, h1⟩ := XF.get I.hok e
  obtain ⟨oT, ts, hT, hd, h3⟩ := XT.get I.hok e0
  have hsz : 3 < ts.size := (Array.getElem?_eq_some_iff.mp h3).1
  refine wpAny_setFlight_none ho rfl h1 hT hd hsz (k _ ?_)
  have oth : ∀ b, b ≠ T → (s.heap.update T (Obj.mapFields (·.setIfInBounds 3 Value.none))).get? b = s.heap.get? b := fun b hb => Heap.get?_update_other _ _ (Ne.symm hb)
  have nT : ∀ b, H b = none → b ≠ T := fun b n z => by rw [z, e0] at n; cases n
  have t1 := Heap.get?_update_self (Obj.mapFields (·.setIfInBounds 3 Value.none)) hT (Obj.isFreed_of_fields (Obj.data_mapFields hd _))
  have u : Un X.fs [] H H s.heap (s.heap.update T (Obj.mapFields (·.setIfInBounds 3 Value.none))) := ⟨fun b o q n _ _ => (oth b (nT b n)).trans q, fun b o q n _ _ => ⟨o.slots, (oth b (nT b n)).trans q⟩, fun _ _ _ n _ => n, fun b o q _ => by
    by_cases hb : b = T
    · rw [hb]; exact ⟨_, t1⟩
    · exact ⟨o, (oth b hb).trans q⟩, fun _ _ q => q, fun _ _ _ q => q, fun b ps q => ⟨#[], by rw [q]; simp⟩⟩
  refine I.un (t' := s.toks) u fun b o q => ?_
  by_cases hb : b = T
  · subst hb
    rw [e0] at q
    rw [← Option.some.inj q]
    exact XT.ok t1 (Obj.data_mapFields hd _) (by simp [hsz])
  · refine (I.hok b o q).stay (fun c v hc z => (oth c ?_).trans z) (fun _ z => z) fun _ _ z => z
    rcases hc with hc | hc
    · rw [hc]; exact hb
    · exact ne_of hc e0 (by intro z; cases z)
theorem name_goes {M : Model} {A : Around} {E : Value → Shared → Prop} {Q : Unit → Shared → Prop} {i : Nat} {n : Str} {pos : Pos} (I : Inv X pins σ H s) (hN : X.N.Nodup) (hi : X.N[i]? = some n) (hk : X.env.scope.names.lookup n = some .local) (k : ∀ s', Inv X pins (σ.set i none) H s' → Q () s') :
    wpAny M A (do bindName X.env n .none; unbindBehindTheSuite X.env n pos) Q E s := by
  obtain ⟨m, hn, hl⟩ := id I.loc
  have hcls : (X.env.scope.kind == .class || (X.env.scope.kind == .module && X.env.locals != X.env.globals)) = false := by rw [I.ok.kind]; rfl
  have hiσ : i < σ.length := by rw [I.len]; exact (List.getElem?_eq_some_iff.mp hi).1
  have cne := I.cne
  refine wpAny_nameGoes_keeps hk hn hcls fun h' v hn' hs => ?_
  have ab : ∀ b o, X.s₀.heap.get? b = some o → b ≠ X.env.locals := fun b o e => Nat.ne_of_lt (Nat.lt_of_lt_of_le (Heap.lt_size e) I.ok.above)
  refine k _ ⟨I.ok, I.os, I.bare, ⟨fun b o e n hb hx => (hs.2 b (ab b o e)).trans (I.base.keep b o e n hb hx), fun b o e n hb hx => ?_, I.base.free, fun b o e hx => ?_, I.base.tups, I.base.frzs, I.base.tbls⟩, ⟨_, hn', fun j y v' e1 e2 e3 => ?_⟩, fun y c e => ?_, I.free, I.freeC, fun p hp => ?_, fun b ob e => ?_, by simpa using I.len⟩
  · obtain ⟨sl, e1⟩ := I.base.slot b o e n hb hx
    exact ⟨sl, (hs.2 b (ab b o e)).trans e1⟩
  · obtain ⟨o', e1⟩ := I.base.there b o e hx
    exact ⟨o', (hs.2 b (ab b o e)).trans e1⟩
  · by_cases hj : j = i
    · subst hj
      rw [List.getElem?_set_self hiσ] at e2
      cases e2
    · rw [List.getElem?_set_ne (Ne.symm hj)] at e2
      obtain ⟨u', r', q⟩ := hl j y v' e1 e2 e3
      refine ⟨u', r', ?_⟩
      rcases q with ⟨k, e⟩ | ⟨k, c, e, z⟩
      · refine .inl ⟨k, ?_⟩
        have : y ≠ n := fun e => hj (nodup_ix hN e1 (e ▸ hi))
        simp [this, e]
      · exact .inr ⟨k, c, e, z.sameBut hs (cne y c e)⟩
  · obtain ⟨w', z⟩ := I.cell y c e
    exact ⟨w', z.sameBut hs (cne y c e)⟩
  · obtain ⟨e, n, ne, nf, d⟩ := I.pin p hp
    exact ⟨(hs.2 p.1 ne).trans e, n, ne, nf, d⟩
  · refine (I.hok b ob e).stay (fun c w' hc q => (hs.2 c ?_).trans q) (fun _ q => q) fun _ _ q => q
    rintro rfl
    rcases hc with rfl | hc
    · rw [I.free] at e; cases e
    · rw [I.free] at hc; cases hc
end
noncomputable def sTry (K : PySem.W.Frag) (CT : Addr) (i : Nat) (tb : (St → XK) → TS) (ts : TS) : TS := fun D σ H => ∃ EX : St → XK,
  (∀ σ1 H1 a C, EX σ1 (.ref C) (some a) H1 → ∃ d, Flown H1 a C d ∧ exmOne K (.ref C) (.ref CT) = some true ∧ ∀ T2, H1 T2 = none → T2 ≠ a →
    ts { nx := fun σ' H' => D.nx (σ'.set i none) H', rt := D.rt, bk := fun σ' H' => D.bk (σ'.set i none) H', ct := fun σ' H' => D.ct (σ'.set i none) H' } (σ1.set i (some (.ref a))) (upd (upd H1 T2 (XT T2)) a (XF a C d T2))) ∧ tb EX D σ H
section
variable {X : Cx} {K : PySem.W.Frag} {CT : Addr} {i : Nat} {x n : Str} {body suite : List Stmt} {b0 : Stmt} {np hpos pos : Pos} {tb : (St → XK) → TS} {ts : TS}
theorem ps_try (hK : X.K = K) (ht : AtTop X) (hN : X.N.Nodup) (hi : X.N[i]? = some n) (hk : X.env.scope.names.lookup n = some .local) (hg : Gl X x) (hm : X.mg x = some (.ref CT))
    (hb : ∀ (pn : List (Addr × Obj)) (W : Value → Shared → Prop) (EX : St → XK), PassesS (CXE X.prog X.w) (X.tried pn W) EX → PSs (X.tried pn W) body (tb EX)) (hs : ∀ a, PSs (X.suite a) (b0 :: suite) ts) (hd : (x == ("__debug__" : Str)) = false := by decide) :
    PS X (.Try body [.ExceptHandler (some (.Name x np)) (some n) (b0 :: suite) hpos] [] [] pos) (sTry K CT i tb ts) := by
  subst hK
  intro pins s σ H D I h
  obtain ⟨EX, hh, h0⟩ := h
  refine wpAny_Try_except ?_
  refine wpAny_mono (hb (X.pn ++ pins) (fun e s1 => wpAny (model X.prog X.w) X.A (noteFrame e X.env) (fun _ s2 => wpAny (model X.prog X.w) X.A (setFlight e none) (fun _ s3 => wpAny (model X.prog X.w) X.A (handleBy e X.env [.ExceptHandler (some (.Name x np)) (some n) (b0 :: suite) hpos]) (SP X pins D) X.xe s3) X.xe s2) X.xe s1) EX ?_ [] s σ H D I.tried h0) (fun f s1 q => ?_) fun e s1 q => q
  · intro pins' σ' H' s' e s2 J hc
    obtain ⟨a, C, H2, rfl, os, bare, un, hok, q⟩ := hc
    have J2 := J.call' os un hok bare (fun b z => nomatch z)
    have J3 : Inv X pins σ' H2 s2 := J2.untried
    obtain ⟨d, ⟨T, e1, e2, e3⟩, hx, hts⟩ := hh σ' H2 a C q
    refine note_again J3 ht rfl e1 e2 e3 fun T2 s3 hT hTa J4 => ?_
    have hts := hts T2 hT hTa
    have f1 : (upd (upd H2 T2 (XT T2)) a (XF a C d T2)) a = some (XF a C d T2) := upd_same
    have f2 : (upd (upd H2 T2 (XT T2)) a (XF a C d T2)) T2 = some (XT T2) := by rw [upd_ne hTa]; exact upd_same
    generalize upd (upd H2 T2 (XT T2)) a (XF a C d T2) = H4 at J4 hts f1 f2
    refine wpAny_handleBy_cons (codeAny_handlers_test (ld_glob (X := X.suite a) J4.insuite hg hm ?_ hd)) (by intro q; cases q)
    obtain ⟨vs, ho, _⟩ := XF.get J4.hok f1
    refine (exm_one J4.kIn ((Looks.ld ho).andThen .now) hx).here ?_
    refine codeAny_handlers_suite_as ?_
    refine flight_none (X := X.suite a) J4.insuite f1 f2 fun s5 J5 => ?_
    refine store_ok (X := X.suite a) (v := .ref a) J5 hN hi (.inl hk) rfl (fun s6 J6 => ?_) (.inr hk)
    refine wpAny_mono (hs a pins s6 _ H4 _ J6 hts) (fun f s7 q7 => ?_) fun _ _ z => z.elim
    cases f with
    | next =>
      obtain ⟨σ7, H7, J7, q7⟩ := q7
      exact name_goes (Inv.outsuite I.ok J7) hN hi hk fun s8 J8 => ⟨_, H7, J8, q7⟩
    | brk =>
      obtain ⟨σ7, H7, J7, q7⟩ := q7
      exact name_goes (Inv.outsuite I.ok J7) hN hi hk fun s8 J8 => ⟨_, H7, J8, q7⟩
    | cont =>
      obtain ⟨σ7, H7, J7, q7⟩ := q7
      exact name_goes (Inv.outsuite I.ok J7) hN hi hk fun s8 J8 => ⟨_, H7, J8, q7⟩
    | ret u =>
      obtain ⟨v, σ7, H7, J7, r7, q7⟩ := q7
      exact name_goes (Inv.outsuite I.ok J7) hN hi hk fun s8 J8 => ⟨v, _, H7, J8, r7, q7⟩
  · cases f with
    | next =>
      obtain ⟨σ', H', J, q⟩ := q
      exact wpAny_execs_nil ⟨σ', H', J.untried, q⟩
    | brk => obtain ⟨σ', H', J, q⟩ := q; exact ⟨σ', H', J.untried, q⟩
    | cont => obtain ⟨σ', H', J, q⟩ := q; exact ⟨σ', H', J.untried, q⟩
    | ret u => obtain ⟨v, σ', H', J, r, q⟩ := q; exact ⟨v, σ', H', J.untried, r, q⟩
end
section
variable {X : Cx} {pins : List (Addr × Obj)} {σ : St} {H : Hp} {s : Shared} {a C T : Addr} {d : Option Addr} {f : Str} {v : V} {A : Around} {E : Value → Shared → Prop} {K : PySem.W.Frag} {e : Expr} {pos : Pos} {ta : TE}
inductive IIsiF (K : PySem.W.Frag) (xs : List V) (H : Hp) (Q : VK) : Prop where
  | mk (a C : Addr) (d : Option Addr) (T : Addr) (c : V) (cv : Value) (b : Bool) (e : xs = [.ref a, c]) (ec : valOf c = some cv) (ea : H a = some (XF a C d T)) (ed : ∀ dx, d = some dx → ∃ fs, H dx = some (.xd fs)) (cl : XCls K C) (ek : PySem.W.kitOne K (.ref C) cv = some b) (q : Q (.bl b) H) : IIsiF K xs H Q
theorem isiFK (hK : X.K = K) : CallR X (.builtin "isinstance") (fun xs H Q => IIsiF K xs H Q) := by
  subst hK
  intro pins s σ H xs us Q I r h
  obtain ⟨a, C, d, T, c, cv, b, rfl, hc, ea, hd, cl, q, k⟩ := h
  obtain ⟨u, u2, rfl, rx, rc⟩ := vals2 r
  cases rx
  have ec : u2 = cv := by
    cases c with
    | ty n => cases rc; exact Option.some.inj hc
    | ref a => cases rc; exact Option.some.inj hc
    | _ => cases hc
  subst ec
  obtain ⟨vs, ho, _⟩ := XF.get I.hok ea
  refine PySem.W.kia_one (kitx_exc (x := a) cl cl.cls_find) I.kIn ?_ q (fun z => nomatch z) fun tk => ⟨.bl b, H, I.tok _, rfl, k⟩
  cases d with
  | none => exact ⟨_, none, ho, rfl, rfl, trivial⟩
  | some dx =>
    obtain ⟨fs, hx⟩ := hd dx rfl
    obtain ⟨mA, ⟨od, _, _, hod, _⟩, r⟩ := (show ObjOk X.prog X.w H s.heap dx (.xd fs) from I.hok dx _ hx)
    exact ⟨_, some od, ho, rfl, rfl, hod⟩
noncomputable def tFldF (K : PySem.W.Frag) (ta : TE) (f : Str) : TE := fun σ H Q => ta σ H fun x H1 => ∃ a C d T fs v, x = .ref a ∧ H1 a = some (XF a C (some d) T) ∧ H1 d = some (.xd fs) ∧ XCls K C ∧ NoAttr K C f ∧ fs.lookup f = some v ∧ Q v H1
theorem pe_fldF (hK : X.K = K) (he : PE X e ta) (hb : attributeBase e f X.env (eval e X.env) = eval e X.env) : PE X (.Attribute e f pos) (tFldF K ta f) := by
  subst hK
  intro pins s σ H Q I h
  refine attr_of hb (thn (he pins s σ H _ I h) fun u s1 zpat => ?_)
  obtain ⟨x, H1, I1, rx, a, C, d, T, fs, v, ex, ea, hd, c, n, l, q⟩ := zpat
  subst ex
  obtain rfl : u = Value.ref a := rx
  obtain ⟨vs, ho, _⟩ := XF.get I1.hok ea
  obtain ⟨mA, n1, r⟩ := (show ObjOk X.prog X.w H1 s1.heap d (.xd fs) from I1.hok d _ hd)
  obtain ⟨od, hod, hl⟩ := lookIn_ns n1
  obtain ⟨u, hu, ru⟩ := RelO.some_of (v := v) (o := mA f) (by rw [← l]; exact r f)
  have J : InstAt s1.heap a (xob C (some d) vs) C (some od) := ⟨ho, rfl, rfl, hod⟩
  obtain ⟨hh, g, dr, t, os⟩ := s1
  unfold getAttr
  refine wpAny_bind (wpAny_mkText (getX_value (K := X.K) I1.kIn J c (PySem.W.findObj_own c.hd n rfl (by rw [hl, hu])) (handed_of ru) ?_))
  exact ⟨v, H1, I1.tok _, ru, q⟩
end
end L2
namespace My
open PySem L2
noncomputable def nv (k : Nat) : V := .int k
theorem nv_flat (ks : List Nat) : (ks.map nv).all flatV = true := by
  rw [List.all_map, List.all_eq_true]; intro _ _; rfl
theorem or_pow (m k : Nat) : Builtin.bitOr (m : Int) (1 * 2 ^ (k : Int).toNat) = ((m ||| 2 ^ k : Nat) : Int) := by
  have e : (1 * 2 ^ (k : Int).toNat : Int) = ((2 ^ k : Nat) : Int) := by simp
  rw [e, PyProof.Rows.bitOr_and, PyProof.Rows.bitAnd_pp (Int.natCast_nonneg _) (Int.natCast_nonneg _)]
  simp only [Int.toNat_natCast]
  have q := or_add_and m (2 ^ k)
  omega
theorem or_nat (a b : Nat) : Builtin.bitOr (a : Int) (b : Int) = ((a ||| b : Nat) : Int) := by
  rw [PyProof.Rows.bitOr_and, PyProof.Rows.bitAnd_pp (Int.natCast_nonneg _) (Int.natCast_nonneg _)]
  simp only [Int.toNat_natCast]
  have q := or_add_and a b
  omega
theorem and_nat (a b : Nat) : Builtin.bitAnd (a : Int) (b : Int) = ((a &&& b : Nat) : Int) := by
  rw [PyProof.Rows.bitAnd_pp (Int.natCast_nonneg _) (Int.natCast_nonneg _)]
  simp only [Int.toNat_natCast]
theorem pow_one (k : Nat) : (1 * 2 ^ (k : Int).toNat : Int) = ((2 ^ k : Nat) : Int) := by simp
theorem getI {α : Type} {f : α → V} {xs : List α} {i : Nat} {y : V} (h : (xs.map f)[i]? = some y) : ∃ (hi : i < xs.length), y = f xs[i] := by
  rw [List.getElem?_map] at h
  cases e : xs[i]? with
  | none => rw [e] at h; cases h
  | some z =>
    rw [e] at h
    obtain ⟨hi, q⟩ := List.getElem?_eq_some_iff.mp e
    exact ⟨hi, by rw [q]; exact (Option.some.inj h).symm⟩
theorem atI_map {α : Type} {f : α → V} {xs : List α} {i : Nat} (h : i < xs.length) : atI (xs.map f) (i : Int) = some (f xs[i]) :=
  atI_nat (by rw [List.getElem?_map, List.getElem?_eq_getElem h]; rfl)
theorem cpow (k : Nat) (h : k < 1000) : CPow 1 (k : Int) := ⟨by omega, by omega, by decide⟩
theorem line1000 {n : Nat} (h : n ≤ 1000) : n < sizeLine := small1000 h
theorem same_new {H : Hp} {p : Addr} (h : H p = none) (o : HO) : Same H (upd H p o) := fun b u q => by rw [upd_ne (ne_of_none q h)]; exact q
theorem same_one {H H' : Hp} {p : Addr} (s : Same H H') (h : H' p = none) (o : HO) : Same H (upd H' p o) := s.trans (same_new h o)
theorem same_upd {H H' : Hp} {p : Addr} (s : Same H H') (h : H p = none) (o : HO) : Same H (upd H' p o) := fun b u q => by rw [upd_ne (ne_of_none q h)]; exact s b u q
theorem ixN_nat {n j : Nat} (h : j < n) : ixN n (j : Int) = some j := by
  unfold ixN
  rw [if_pos (by omega), if_pos (by omega)]; rfl
theorem emod_nat (x : Int) {n : Nat} (h : 0 < n) : ∃ k : Nat, x % (n : Int) = (k : Int) ∧ k < n := by
  have h0 := Int.emod_nonneg x (show (n : Int) ≠ 0 by omega)
  have h1 := Int.emod_lt_of_pos x (show (0 : Int) < (n : Int) by omega)
  exact ⟨(x % (n : Int)).toNat, by omega, by omega⟩
theorem pow_posN (w : Nat) : 0 < 2 ^ w := Nat.pow_pos (by decide)
theorem pow_pos' (k : Nat) : (0 : Int) < ((2 ^ k : Nat) : Int) := by
  have := Nat.pow_pos (n := k) (show 0 < 2 by decide)
  omega
inductive IspCell (K : PySem.W.Frag) (vs : List V) (H : Hp) (Q : VK) (E : XK) : Prop where
  | mk (a : Addr) (ns : List Int) (k : Nat) (hh0 : vs = [.ref a, .int k]) (hh1 : SqL K H a (ns.map V.int)) (hh2 : Q (.int (ns.getD k 0)) H) : IspCell K vs H Q E
noncomputable def spCell (K : PySem.W.Frag) : Sp := fun vs H Q E => IspCell K vs H Q E
inductive IspMask (K : PySem.W.Frag) (vs : List V) (H : Hp) (Q : VK) (E : XK) : Prop where
  | mk (a : Addr) (ks : List Nat) (hh0 : vs = [.ref a]) (hh1 : SqL K H a (ks.map nv)) (hh2 : (∀ k ∈ ks, k < 1000)) (hh3 : Q (.int (maskN ks : Nat)) H) : IspMask K vs H Q E
noncomputable def spMask (K : PySem.W.Frag) : Sp := fun vs H Q E => IspMask K vs H Q E
inductive IspWithin (vs : List V) (H : Hp) (Q : VK) (E : XK) : Prop where
  | mk (a b : Nat) (hh0 : vs = [.int a, .int b]) (hh1 : Q (.bl (decide (a &&& b = a))) H) : IspWithin vs H Q E
noncomputable def spWithin : Sp := fun vs H Q E => IspWithin vs H Q E
inductive IspWhole (vs : List V) (H : Hp) (Q : VK) (E : XK) : Prop where
  | mk (i : Int) (hh0 : vs = [.int i]) (hh1 : Q (.bl true) H) : IspWhole vs H Q E
noncomputable def spWhole : Sp := fun vs H Q E => IspWhole vs H Q E
inductive IspLaw (K : PySem.W.Frag) (vs : List V) (H : Hp) (Q : VK) (E : XK) : Prop where
  | mk (a : Addr) (ns : List Int) (hh0 : vs = [.ref a]) (hh1 : SqL K H a (ns.map V.int)) (hh2 : ns.length ≤ 63) (hh3 : ∀ H', Q (.bl true) H') : IspLaw K vs H Q E
noncomputable def spLaw (K : PySem.W.Frag) : Sp := fun vs H Q E => IspLaw K vs H Q E
theorem full_nat (w : Nat) : (1 * 2 ^ (w : Int).toNat - 1 : Int) = ((2 ^ w - 1 : Nat) : Int) := by
  rw [pow_one]
  have := Nat.pow_pos (n := w) (show 0 < 2 by decide)
  omega
noncomputable def Rows (w : Nat) (rs : List Nat) : Prop := ∀ r ∈ rs, r < 2 ^ w
theorem cutV_ints (ns : List Int) (lo hi : Option Int) : ∃ cs : List Int, cutV (ns.map V.int) lo hi = cs.map V.int ∧ cs.length ≤ ns.length := by
  unfold cutV
  refine ⟨(ns.drop (HT.sIx (ns.map V.int).length 0 lo)).take (HT.sIx (ns.map V.int).length (ns.map V.int).length hi - HT.sIx (ns.map V.int).length 0 lo), ?_, ?_⟩
  · rw [← List.map_drop, ← List.map_take]
  · rw [List.length_take, List.length_drop]; omega
theorem eqVs_nv (ks : List Nat) : eqVs (ks.map nv) (ks.map nv) = true := by
  have e : ks.map nv = (ks.map (fun k : Nat => (k : Int))).map V.int := by rw [List.map_map]; rfl
  rw [e, eqVs_ints]
  simp
theorem rows_snoc {w : Nat} {rs : List Nat} {r : Nat} (h : Rows w rs) (hr : r < 2 ^ w) : Rows w (rs ++ [r]) := fun x hx => by
  rcases List.mem_append.mp hx with z | z
  · exact h x z
  · have : x = r := by simpa using z
    rw [this]; exact hr
theorem rows_nil {w : Nat} : Rows w [] := fun _ h => nomatch h
inductive IspHaving (K : PySem.W.Frag) (vs : List V) (H : Hp) (Q : VK) (E : XK) : Prop where
  | mk (a : Addr) (rs : List Nat) (m : Nat) (hh0 : vs = [.ref a, .int m]) (hh1 : SqL K H a (rs.map nv)) (hh2 : rs.length ≤ 200) (hh3 : ∀ H', Same H H' → Q (.int (maskN (havingL rs m) : Nat)) H') : IspHaving K vs H Q E
noncomputable def spHaving (K : PySem.W.Frag) : Sp := fun vs H Q E => IspHaving K vs H Q E
noncomputable def top (i : Nat) : Stmt := PySem.Challenge.pw_traitlattice_k29_deeds_refused.main.body.getD i (.Pass ⟨0, 0, 0, 0⟩)
noncomputable abbrev s_mask_of : Stmt := top 1
noncomputable abbrev s_within : Stmt := top 2
noncomputable abbrev s_fits : Stmt := top 3
noncomputable abbrev s_TooLarge_init : Stmt := inClass (top 10) 0
noncomputable abbrev s_having : Stmt := top 20
noncomputable abbrev s_closed_masks : Stmt := top 22
noncomputable abbrev s_ideas : Stmt := top 23
noncomputable abbrev s_with_column : Stmt := top 26
noncomputable abbrev s_without_column : Stmt := top 27
noncomputable abbrev s_Book_init : Stmt := inClass (top 28) 0
noncomputable abbrev s_Book_put_thing : Stmt := inClass (top 28) 1
noncomputable abbrev s_Book_take_thing : Stmt := inClass (top 28) 2
noncomputable abbrev s_Book_put_column : Stmt := inClass (top 28) 3
noncomputable abbrev s_Book_take_column : Stmt := inClass (top 28) 4
noncomputable abbrev s_Book_rows : Stmt := inClass (top 28) 5
noncomputable abbrev s_Book_width : Stmt := inClass (top 28) 6
noncomputable abbrev s_Book_ideas : Stmt := inClass (top 28) 7
noncomputable abbrev s_law_cell_at : Stmt := top 30
noncomputable abbrev s_law_whole : Stmt := top 31
noncomputable abbrev s_law_pair : Stmt := top 32
noncomputable abbrev s_law_having : Stmt := top 33
noncomputable abbrev s_law_shared : Stmt := top 34
noncomputable abbrev s_law_pairs : Stmt := top 35
noncomputable abbrev s_law_cuts : Stmt := top 36
noncomputable abbrev s_law_due : Stmt := top 37
noncomputable abbrev s_law_done : Stmt := top 38
noncomputable abbrev s_law_alike : Stmt := top 39
noncomputable abbrev s_law_less : Stmt := top 40
noncomputable abbrev s_law_behind : Stmt := top 41
noncomputable abbrev s_law_given : Stmt := top 42
noncomputable abbrev s_law_bad : Stmt := top 43
noncomputable abbrev s_law_right : Stmt := top 44
noncomputable abbrev s_law : Stmt := top 45
theorem sc_mask_of : FnScope ["places", "mask", "place"] ["places"] (defScope s_mask_of) := ⟨rfl, rfl, rfl, by decide +kernel, rfl, by decide +kernel, by decide +kernel⟩
theorem sc_within : FnScope ["small", "large"] ["small", "large"] (defScope s_within) := ⟨rfl, rfl, rfl, by decide +kernel, rfl, by decide +kernel, by decide +kernel⟩
theorem sc_fits : FnScope ["number", "many"] ["number", "many"] (defScope s_fits) := ⟨rfl, rfl, rfl, by decide +kernel, rfl, by decide +kernel, by decide +kernel⟩
theorem sc_TooLarge_init : FnScope ["self", "line"] ["self", "line"] (defScope s_TooLarge_init) := ⟨rfl, rfl, rfl, by decide +kernel, rfl, by decide +kernel, by decide +kernel⟩
theorem sc_having : FnScope ["rows", "mask"] ["rows", "mask"] (defScope s_having) := ⟨rfl, rfl, rfl, by decide +kernel, rfl, by decide +kernel, by decide +kernel⟩
theorem sc_closed_masks : FnScope ["rows", "width", "found", "row", "mask"] ["rows", "width"] (defScope s_closed_masks) := ⟨rfl, rfl, rfl, by decide +kernel, rfl, by decide +kernel, by decide +kernel⟩
theorem sc_ideas : FnScope ["rows", "width"] ["rows", "width"] (defScope s_ideas) := ⟨rfl, rfl, rfl, by decide +kernel, rfl, by decide +kernel, by decide +kernel⟩
theorem sc_with_column : FnScope ["row", "width", "has"] ["row", "width", "has"] (defScope s_with_column) := ⟨rfl, rfl, rfl, by decide +kernel, rfl, by decide +kernel, by decide +kernel⟩
theorem sc_without_column : FnScope ["row", "place", "below"] ["row", "place"] (defScope s_without_column) := ⟨rfl, rfl, rfl, by decide +kernel, rfl, by decide +kernel, by decide +kernel⟩
theorem sc_Book_init : FnScope ["self", "width"] ["self", "width"] (defScope s_Book_init) := ⟨rfl, rfl, rfl, by decide +kernel, rfl, by decide +kernel, by decide +kernel⟩
theorem sc_Book_put_thing : FnScope ["self", "row"] ["self", "row"] (defScope s_Book_put_thing) := ⟨rfl, rfl, rfl, by decide +kernel, rfl, by decide +kernel, by decide +kernel⟩
theorem sc_Book_take_thing : FnScope ["self", "place"] ["self", "place"] (defScope s_Book_take_thing) := ⟨rfl, rfl, rfl, by decide +kernel, rfl, by decide +kernel, by decide +kernel⟩
theorem sc_Book_put_column : FnScope ["self", "group"] ["self", "group"] (defScope s_Book_put_column) := ⟨rfl, rfl, rfl, by decide +kernel, rfl, by decide +kernel, by decide +kernel⟩
theorem sc_Book_take_column : FnScope ["self", "place"] ["self", "place"] (defScope s_Book_take_column) := ⟨rfl, rfl, rfl, by decide +kernel, rfl, by decide +kernel, by decide +kernel⟩
theorem sc_Book_rows : FnScope ["self"] ["self"] (defScope s_Book_rows) := ⟨rfl, rfl, rfl, by decide +kernel, rfl, by decide +kernel, by decide +kernel⟩
theorem sc_Book_width : FnScope ["self"] ["self"] (defScope s_Book_width) := ⟨rfl, rfl, rfl, by decide +kernel, rfl, by decide +kernel, by decide +kernel⟩
theorem sc_Book_ideas : FnScope ["self"] ["self"] (defScope s_Book_ideas) := ⟨rfl, rfl, rfl, by decide +kernel, rfl, by decide +kernel, by decide +kernel⟩
theorem sc_law_cell_at : FnScope ["_law_script", "_law_k"] ["_law_script", "_law_k"] (defScope s_law_cell_at) := ⟨rfl, rfl, rfl, by decide +kernel, rfl, by decide +kernel, by decide +kernel⟩
theorem sc_law_whole : FnScope ["_law_found"] ["_law_found"] (defScope s_law_whole) := ⟨rfl, rfl, rfl, by decide +kernel, rfl, by decide +kernel, by decide +kernel⟩
theorem sc_law_pair : FnScope ["_law_found"] ["_law_found"] (defScope s_law_pair) := ⟨rfl, rfl, rfl, by decide +kernel, rfl, by decide +kernel, by decide +kernel⟩
theorem sc_law_having : FnScope ["_law_rows", "_law_mask", "_law_group", "_law_k", "_law_row"] ["_law_rows", "_law_mask"] (defScope s_law_having) := ⟨rfl, rfl, rfl, by decide +kernel, rfl, by decide +kernel, by decide +kernel⟩
theorem sc_law_shared : FnScope ["_law_rows", "_law_wide", "_law_group", "_law_have", "_law_k", "_law_row"] ["_law_rows", "_law_wide", "_law_group"] (defScope s_law_shared) := ⟨rfl, rfl, rfl, by decide +kernel, rfl, by decide +kernel, by decide +kernel⟩
theorem sc_law_pairs : FnScope ["_law_found", "_law_rows", "_law_wide", "_law_last", "_law_pair_here"] ["_law_found", "_law_rows", "_law_wide"] (defScope s_law_pairs) := ⟨rfl, rfl, rfl, by decide +kernel, rfl, by decide +kernel, by decide +kernel⟩
theorem sc_law_cuts : FnScope ["_law_found", "_law_rows", "_law_wide", "_law_masks", "_law_pair_here", "_law_row"] ["_law_found", "_law_rows", "_law_wide"] (defScope s_law_cuts) := ⟨rfl, rfl, rfl, by decide +kernel, rfl, by decide +kernel, by decide +kernel⟩
theorem sc_law_due : FnScope ["_law_rows", "_law_wide", "_law_deed", "_law_given_here"] ["_law_rows", "_law_wide", "_law_deed", "_law_given_here"] (defScope s_law_due) := ⟨rfl, rfl, rfl, by decide +kernel, rfl, by decide +kernel, by decide +kernel⟩
theorem sc_law_done : FnScope ["_law_book", "_law_deed", "_law_given_here", "_law_kept", "e"] ["_law_book", "_law_deed", "_law_given_here"] (defScope s_law_done) := ⟨rfl, rfl, rfl, by decide +kernel, rfl, by decide +kernel, by decide +kernel⟩
theorem sc_law_alike : FnScope ["_law_kept", "_law_due_here", "_law_kinds", "_law_some", "_law_more"] ["_law_kept", "_law_due_here"] (defScope s_law_alike) := ⟨rfl, rfl, rfl, by decide +kernel, rfl, by decide +kernel, by decide +kernel⟩
theorem sc_law_less : FnScope ["_law_members", "_law_place", "_law_low"] ["_law_members", "_law_place"] (defScope s_law_less) := ⟨rfl, rfl, rfl, by decide +kernel, rfl, by decide +kernel, by decide +kernel⟩
theorem sc_law_behind : FnScope ["_law_rows", "_law_wide", "_law_deed", "_law_given_here"] ["_law_rows", "_law_wide", "_law_deed", "_law_given_here"] (defScope s_law_behind) := ⟨rfl, rfl, rfl, by decide +kernel, rfl, by decide +kernel, by decide +kernel⟩
theorem sc_law_given : FnScope ["_law_rows", "_law_wide", "_law_deed", "_law_number", "_law_far", "_law_room"] ["_law_rows", "_law_wide", "_law_deed", "_law_number", "_law_far"] (defScope s_law_given) := ⟨rfl, rfl, rfl, by decide +kernel, rfl, by decide +kernel, by decide +kernel⟩
theorem sc_law_bad : FnScope ["_law_rows", "_law_wide", "_law_deed", "_law_given_here"] ["_law_rows", "_law_wide", "_law_deed", "_law_given_here"] (defScope s_law_bad) := ⟨rfl, rfl, rfl, by decide +kernel, rfl, by decide +kernel, by decide +kernel⟩
theorem sc_law_right : FnScope ["_law_book", "_law_rows", "_law_wide", "_law_look", "_law_found"] ["_law_book", "_law_rows", "_law_wide", "_law_look"] (defScope s_law_right) := ⟨rfl, rfl, rfl, by decide +kernel, rfl, by decide +kernel, by decide +kernel⟩
theorem sc_law : FnScope ["_law_script", "_law_start", "_law_wide", "_law_many", "_law_rows", "_law_book", "_law_row", "_law_again", "_law_cell", "_law_number", "_law_deed", "_law_given_here", "_law_due_here"] ["_law_script"] (defScope s_law) := ⟨rfl, rfl, rfl, by decide +kernel, rfl, by decide +kernel, by decide +kernel⟩
structure Txt_Book (K : PySem.W.Frag) (C : Addr) : Prop where
  cl : Cls K C
  n_breadth : NoAttr K C "breadth"
  n_known : NoAttr K C "known"
theorem b_ValueError : bootBuiltins "ValueError" = some (.type "ValueError") := by decide +kernel
theorem b_bool : bootBuiltins "bool" = some (.type "bool") := by decide +kernel
theorem b_int : bootBuiltins "int" = some (.type "int") := by decide +kernel
theorem b_isinstance : bootBuiltins "isinstance" = some (.builtin "isinstance") := by decide +kernel
theorem b_list : bootBuiltins "list" = some (.type "list") := by decide +kernel
theorem b_sorted : bootBuiltins "sorted" = some (.builtin "sorted") := by decide +kernel
theorem b_tuple : bootBuiltins "tuple" = some (.type "tuple") := by decide +kernel
@[elab_as_elim] theorem len1 {α : Type} {P : List α → Prop} {us : List α} (hl : us.length = 1) (h : ∀ a, P [a]) : P us := match us, hl with | [a], _ => h a
@[elab_as_elim] theorem len2 {α : Type} {P : List α → Prop} {us : List α} (hl : us.length = 2) (h : ∀ a b, P [a, b]) : P us := match us, hl with | [a, b], _ => h a b
@[elab_as_elim] theorem len3 {α : Type} {P : List α → Prop} {us : List α} (hl : us.length = 3) (h : ∀ a b c, P [a, b, c]) : P us := match us, hl with | [a, b, c], _ => h a b c
@[elab_as_elim] theorem len4 {α : Type} {P : List α → Prop} {us : List α} (hl : us.length = 4) (h : ∀ a b c d, P [a, b, c, d]) : P us := match us, hl with | [a, b, c, d], _ => h a b c d
@[elab_as_elim] theorem len5 {α : Type} {P : List α → Prop} {us : List α} (hl : us.length = 5) (h : ∀ a b c d e, P [a, b, c, d, e]) : P us := match us, hl with | [a, b, c, d, e], _ => h a b c d e
theorem nd_having_0 : ((["thing", "row"] : List Str) ++ (["rows", "mask"] : List Str).map (hide ["thing", "row"])).Nodup := by decide +kernel
theorem nd_ideas_1 : ((["mask"] : List Str) ++ (["rows", "width"] : List Str).map (hide ["mask"])).Nodup := by decide +kernel
theorem nd_Book_put_column_2 : ((["thing", "row"] : List Str) ++ (["self", "group"] : List Str).map (hide ["thing", "row"])).Nodup := by decide +kernel
theorem nd_Book_take_column_3 : ((["row"] : List Str) ++ (["self", "place"] : List Str).map (hide ["row"])).Nodup := by decide +kernel
theorem nd_law_behind_4 : ((["_law_k", "_law_row"] : List Str) ++ (["_law_rows", "_law_wide", "_law_deed", "_law_given_here"] : List Str).map (hide ["_law_k", "_law_row"])).Nodup := by decide +kernel
theorem nd_law_behind_5 : ((["_law_row"] : List Str) ++ (["_law_rows", "_law_wide", "_law_deed", "_law_given_here"] : List Str).map (hide ["_law_row"])).Nodup := by decide +kernel
theorem nd_law_6 : ((["_law_k"] : List Str) ++ (["_law_script", "_law_start", "_law_wide", "_law_many", "_law_rows", "_law_book", "_law_row", "_law_again", "_law_cell", "_law_number", "_law_deed", "_law_given_here", "_law_due_here"] : List Str).map (hide ["_law_k"])).Nodup := by decide +kernel
section
variable {P : Program} {w : World} {K : PySem.W.Frag} {mg : Str → Option Value} {base : Heap}
noncomputable def Ruls (H : Hp) (prs : List (Addr × Nat × Nat)) : Prop := ∀ q ∈ prs, H q.1 = some (.tup [nv q.2.1, nv q.2.2])
theorem Ruls.same {H H' : Hp} {prs : List (Addr × Nat × Nat)} (h : Ruls H prs) (g : Same H H') : Ruls H' prs := fun q hq => g _ _ (h q hq)
theorem tup0 (x y : V) : atI [x, y] 0 = some x := rfl
theorem tup1 (x y : V) : atI [x, y] 1 = some y := rfl
theorem and_dec (a b c : Nat) : decide (V.int (Builtin.bitAnd (a : Int) (b : Int)) = V.int (c : Int)) = decide (a &&& b = c) := by
  rw [and_nat, dec_int, Bool.eq_iff_iff]; simp only [beq_iff_eq, decide_eq_true_eq]; omega
theorem Ruls.snoc {H : Hp} {prs : List (Addr × Nat × Nat)} {t : Addr} {x y : Nat} (h : Ruls H prs) (ht : H t = some (.tup [nv x, nv y])) : Ruls H (prs ++ [(t, x, y)]) := fun q hq => by
  rcases List.mem_append.mp hq with z | z
  · exact h q z
  · have : q = (t, x, y) := by simpa using z
    rw [this]; exact ht
theorem Ruls.nil {H : Hp} : Ruls H [] := fun _ h => nomatch h
theorem shl_nat (a k : Nat) : (a : Int) * 2 ^ (k : Int).toNat = ((a * 2 ^ k : Nat) : Int) := by simp
theorem cshl {a k : Nat} (ha : a < 2 ^ 64) (hk : k ≤ 1000000) : CPow (a : Int) (k : Int) := ⟨by omega, by omega, by rw [Int.natAbs_natCast]; exact ha⟩
theorem seq_join {t u : TS} {D : Ends} {σ : St} {H : Hp} (R : St → Hp → Prop) (go : ∀ σ' H', R σ' H' → u D σ' H') (h : ∀ nx' : St → Hp → Prop, (∀ σ' H', R σ' H' → nx' σ' H') → t { D with nx := nx' } σ H) : tSeq t u D σ H := h (u D) go
noncomputable def OptAt (H : Hp) (o : Option (Addr × Nat × Nat)) : Prop := ∀ t, o = some t → H t.1 = some (.tup [nv t.2.1, nv t.2.2])
theorem OptAt.same {H H' : Hp} {o : Option (Addr × Nat × Nat)} (h : OptAt H o) (g : Same H H') : OptAt H' o := fun t e => g _ _ (h t e)
seal PA PE PS PSs in
theorem ok_mask_of {f_mask_of : Addr} {fd_mask_of : FuncData} (F_mask_of : Fun K "mask_of" "mask_of" s_mask_of f_mask_of fd_mask_of) :
    FnOk P w K mg base CX0 1 f_mask_of fd_mask_of ["places"] (spMask K) := by
  refine F_mask_of.ok sc_mask_of (fun vs H Q E h => ?_) (fun cdv A outer s H vs Q E hr h => ?_)
  · obtain ⟨a, ks, rfl, hS, hk, q⟩ := h
    rfl
  obtain ⟨a, ks, rfl, hS, hk, q⟩ := h
  refine ⟨_, (pss_cons (ps_set (i := 1) sc_mask_of.nd rfl (Or.inl rfl) pe_int)
      (pss_cons (ps_for PassesOwn.never rfl (pi_listK (K := K) rfl (pv 0)) (pg_name (i := 2) sc_mask_of.nd rfl (Or.inl rfl)) (pss_one (ps_set (i := 1) sc_mask_of.nd rfl (Or.inl rfl) (pe_op op_or (pv 1) (pe_op op_shl pe_int (pv 2))))))
      (pss_one (ps_ret (pv 1))))), ?_⟩
  refine ⟨_, rfl, a, rfl, ⟨_, hS⟩, for_list (K := K) (a := a) (xs := ks.map nv) (fun i σ H2 => ∃ (v : Option V), σ = [some (.ref a), some (.int ((ks.take i).foldl (fun m k => m ||| 2 ^ k) 0 : Nat)), v] ∧ H = H2)
    ⟨none, rfl, rfl⟩ (fun i σ H2 _ ⟨_, _, e⟩ => e ▸ hS) ?_ ?_⟩
  · rintro i y σ H2 hi ⟨v, rfl, rfl⟩
    obtain ⟨hil, rfl⟩ := getI hi
    refine ⟨_, rfl, _, rfl, _, _, rfl, rfl, cpow _ (hk _ (List.getElem_mem hil)), _, _, rfl, rfl, ?_⟩
    refine ⟨some (nv ks[i]), ?_, rfl⟩
    show [_, some (V.int (Builtin.bitOr _ (1 * 2 ^ ((ks[i] : Nat) : Int).toNat))), _] = _
    rw [or_pow, ← List.take_append_getElem hil, List.foldl_append]
    rfl
  · rintro σ H2 ⟨v, rfl, rfl⟩
    refine ⟨_, rfl, ?_⟩
    rw [List.length_map, List.take_length, fold_or, Nat.zero_or]
    exact q
seal PA PE PS PSs in
theorem ok_within {f_within : Addr} {fd_within : FuncData} (F_within : Fun K "within" "within" s_within f_within fd_within) :
    FnOk P w K mg base CX0 1 f_within fd_within ["small", "large"] (spWithin) := by
  refine F_within.ok sc_within (fun vs H Q E h => ?_) (fun cdv A outer s H vs Q E hr h => ?_)
  · obtain ⟨a, b, rfl, q⟩ := h
    rfl
  obtain ⟨a, b, rfl, q⟩ := h
  refine ⟨_, (pss_one (ps_ret (pe_cmpR op_eq (pe_op op_and (pv 0) (pv 1)) (pv 0) (nomark _)))), ?_⟩
  refine ⟨_, rfl, _, rfl, _, _, rfl, rfl, _, rfl, rfl, ?_⟩
  show Q (.bl (decide (V.int (Builtin.bitAnd (a : Int) (b : Int)) = V.int (a : Int)))) H
  rw [and_nat]
  have e : decide (V.int ((a &&& b : Nat) : Int) = V.int (a : Int)) = decide (a &&& b = a) := by
    rw [dec_int, Bool.eq_iff_iff]; simp only [beq_iff_eq, decide_eq_true_eq]; omega
  rw [e]
  exact q
inductive IspFits (vs : List V) (H : Hp) (Q : VK) (E : XK) : Prop where
  | mk (i : Int) (n : Nat) (hh0 : vs = [.int i, .int n]) (hh1 : n < 1000) (hh2 : Q (.bl (decide (0 ≤ i ∧ i < ((2 ^ n : Nat) : Int)))) H) : IspFits vs H Q E
noncomputable def spFits : Sp := fun vs H Q E => IspFits vs H Q E
seal PA PE PS PSs in
theorem ok_fits {f_fits : Addr} {fd_fits : FuncData} (F_fits : Fun K "fits" "fits" s_fits f_fits fd_fits) :
    FnOk P w K mg base CX0 1 f_fits fd_fits ["number", "many"] (spFits) := by
  refine F_fits.ok sc_fits (fun vs H Q E h => ?_) (fun cdv A outer s H vs Q E hr h => ?_)
  · obtain ⟨i, n, rfl, hn, q⟩ := h
    rfl
  obtain ⟨i, n, rfl, hn, q⟩ := h
  refine ⟨_, (pss_one (ps_ret (pe_chain op_le op_lt pe_int (pv 0) (pe_op op_shl pe_int (pv 1))))), ?_⟩
  refine ⟨_, rfl, _, _, rfl, rfl, _, rfl, ?_⟩
  by_cases h : (0 : Int) ≤ i
  · rw [decide_eq_true h, if_pos rfl]
    refine ⟨_, rfl, _, _, rfl, rfl, cpow n hn, _, _, rfl, rfl, ?_⟩
    rw [pow_one]
    rw [show decide (0 ≤ i ∧ i < ((2 ^ n : Nat) : Int)) = decide (i < ((2 ^ n : Nat) : Int)) from by rw [Bool.eq_iff_iff]; simp [h]] at q
    exact q
  · rw [decide_eq_false h, if_neg Bool.false_ne_true]
    rw [decide_eq_false (fun z => h z.1)] at q
    exact q
seal PA PE PS PSs in
theorem ok_having {f_having : Addr} {fd_having : FuncData} (F_having : Fun K "having" "having" s_having f_having fd_having)
    {f_mask_of : Addr} {fd_mask_of : FuncData} (G_mask_of : FnOk P w K mg base CX0 1 f_mask_of fd_mask_of ["places"] (spMask K)) (b_mask_of : Binds K fd_mask_of ["places"] []) (k_mask_of : PySem.W.keepIn K (.ref f_mask_of) = true) (m_mask_of : mg "mask_of" = some (.ref f_mask_of))
    {f_within : Addr} {fd_within : FuncData} (G_within : FnOk P w K mg base CX0 1 f_within fd_within ["small", "large"] (spWithin)) (b_within : Binds K fd_within ["small", "large"] []) (k_within : PySem.W.keepIn K (.ref f_within) = true) (m_within : mg "within" = some (.ref f_within))
    (z_enumerate : mg "enumerate" = none) :
    FnOk P w K mg base CX0 2 f_having fd_having ["rows", "mask"] (spHaving K) := by
  refine F_having.ok sc_having (fun vs H Q E h => ?_) (fun cdv A outer s H vs Q E hr h => ?_)
  · obtain ⟨a, rs, m, rfl, hA, hl, q⟩ := h
    rfl
  obtain ⟨a, rs, m, rfl, hA, hl, q⟩ := h
  refine ⟨_, (pss_one (ps_ret (pe_call G_mask_of (hr.mono (by decide)) rfl m_mask_of k_mask_of b_mask_of .nil pass0 (pa_cons (pe_comp (own := ["thing", "row"]) rfl (pi_enumK (K := K) rfl rfl z_enumerate (pa_cons (pv 0) pa_nil)) (fun _ _ _ _ _ => (pg_tupK (K := K) (n := 2) rfl rfl (pgs_cons (pg_name (i := 0) nd_having_0 rfl (Or.inl rfl)) (pgs_cons (pg_name (i := 1) nd_having_0 rfl (Or.inl rfl)) pgs_nil)))) (fun _ _ _ _ _ => (pif_one (pt_val (pe_call G_within (hr.mono (by decide)) rfl m_within k_within b_within .nil pass0 (pa_cons (pv 3) (pa_cons (pv 1) pa_nil)))))) (fun _ _ _ _ _ => (pv 0))) pa_nil)))), ?_⟩
  refine ⟨_, rfl, a, rfl, ⟨_, hA⟩, ?_⟩
  refine comp_enum (K := K) (a := a) (xs := rs.map nv) (fun i ys H2 => ys = ((List.range i).filter (fun j => decide (m &&& rs.getD j 0 = m))).map nv ∧ Same H H2) (by rw [List.length_map]; exact line1000 (by omega)) ⟨rfl, Same.refl _⟩ (fun i ys H2 hi h => ?_) (fun i ys H2 hi h => h.2.seq hA) (fun i x ys H2 t hi h ht => ?_) (fun ys H2 h => ?_)
  · rw [h.1, List.length_map]
    exact Nat.le_trans (List.length_filter_le _ _) (by rw [List.length_range]; exact Nat.le_refl _)
  · obtain ⟨rfl, g⟩ := h
    obtain ⟨hil, rfl⟩ := getI hi
    have g2 := same_one g ht (.tup [.int i, nv rs[i]])
    refine ⟨t, _, rfl, SqT.of upd_same, rfl, _, _, rfl, _, _, rfl, rfl, rfl, _, rfl, _, rfl, m, rs[i], rfl, _, rfl, ?_⟩
    rw [List.range_succ, List.filter_append, List.map_append]
    by_cases hc : m &&& rs[i] = m
    · rw [decide_eq_true hc]
      refine ⟨_, rfl, ?_, g2⟩
      rw [List.filter_cons_of_pos (by rw [getD_lt hil]; exact decide_eq_true hc), List.filter_nil]
      rfl
    · rw [decide_eq_false hc]
      refine ⟨?_, g2⟩
      rw [List.filter_cons_of_neg (by rw [getD_lt hil, decide_eq_false hc]; decide), List.filter_nil, List.map_nil, List.append_nil]
  · obtain ⟨rfl, g⟩ := h
    intro p hp
    rw [List.length_map]
    refine ⟨p, havingL rs m, rfl, SqL.of upd_same, fun k hk => ?_, q _ (same_one g hp _)⟩
    have := (mem_having.mp hk).1
    omega
noncomputable def IsMasks (rs : List Nat) (w : Nat) (ms : List Nat) : Prop := ms.Pairwise (· < ·) ∧ (∀ m, m ∈ ms ↔ ∃ sub : List Nat, (∀ k ∈ sub, k < rs.length) ∧ m = sharedL rs w sub) ∧ ms.length ≤ 1024
inductive IspMasks (K : PySem.W.Frag) (vs : List V) (H : Hp) (Q : VK) (E : XK) : Prop where
  | mk (a : Addr) (rs : List Nat) (w : Nat) (hh0 : vs = [.ref a, .int w]) (hh1 : SqL K H a (rs.map nv)) (hh2 : w ≤ 10) (hh3 : ∀ (l : Addr) (ms : List Nat) (H' : Hp), Same H H' → H' l = some (.lst (ms.map nv)) → IsMasks rs w ms → Q (.ref l) H') : IspMasks K vs H Q E
noncomputable def spMasks (K : PySem.W.Frag) : Sp := fun vs H Q E => IspMasks K vs H Q E
theorem len1024 {w : Nat} {ks : List Nat} (hw : w ≤ 10) (hn : ks.Nodup) (h : ∀ k ∈ ks, k < 2 ^ w) : ks.length ≤ 1024 := by
  have h1 := nodup_len _ ks hn h
  have h2 : 2 ^ w ≤ 2 ^ 10 := Nat.pow_le_pow_right (by decide) hw
  omega
theorem dk_len (ks : List Nat) : (dkN ks).length = ks.length := by unfold dkN; rw [List.length_map]
theorem dk_nv (ks : List Nat) : ((dkN ks).map fun q => kV q.1) = ks.map nv := by rw [dk_keys, List.map_map]; rfl
seal PA PE PS PSs in
theorem ok_closed_masks {f_closed_masks : Addr} {fd_closed_masks : FuncData} (F_closed_masks : Fun K "closed_masks" "closed_masks" s_closed_masks f_closed_masks fd_closed_masks)
    (z_list : mg "list" = none)
    (z_sorted : mg "sorted" = none) :
    FnOk P w K mg base CX0 1 f_closed_masks fd_closed_masks ["rows", "width"] (spMasks K) := by
  refine F_closed_masks.ok sc_closed_masks (fun vs H Q E h => ?_) (fun cdv A outer s H vs Q E hr h => ?_)
  · obtain ⟨a, rs, wd, rfl, hA, hw, q⟩ := h
    rfl
  obtain ⟨a, rs, wd, rfl, hA, hw, q⟩ := h
  refine ⟨_, (pss_cons (ps_set (i := 2) sc_closed_masks.nd rfl (Or.inl rfl) (pe_disp (pps_cons (pe_op op_sub (pe_op op_shl pe_int (pv 1)) pe_int) pe_bl pps_nil) (by rfl) (by rfl) (by intro z; cases z) (by decide)))
      (pss_cons (ps_for PassesOwn.never rfl (pi_listK (K := K) rfl (pv 0)) (pg_name (i := 3) sc_closed_masks.nd rfl (Or.inl rfl)) (pss_one (ps_for PassesOwn.never rfl (pi_listK (K := K) rfl (by exact (pe_callTy (call_list_dict (by rfl)) rfl z_list b_list (pa_cons (pv 2) pa_nil)))) (pg_name (i := 4) sc_closed_masks.nd rfl (Or.inl rfl)) (pss_one (ps_dput (hu_of hr) (pv 2) (pe_op op_and (pv 4) (pv 3)) pe_bl rfl)))))
      (pss_one (ps_ret (pe_callB (call_sorted_dict (by rfl)) rfl z_sorted b_sorted (pa_cons (pv 2) pa_nil)))))), ?_⟩
  intro p hp
  refine ⟨_, rfl, _, _, rfl, rfl, cpow wd (by omega), _, _, rfl, rfl, ?_⟩
  try dsimp only
  rw [full_nat]
  refine ⟨upd_same, [(Sum.inl ((2 ^ wd - 1 : Nat) : Int), .bl true)], rfl, (by show 1 ≤ 15; decide), ?_⟩
  rw [upd_upd]
  have g1 := same_new hp (.dK (dkN [2 ^ wd - 1]))
  have h1 : (upd H p (.dK (dkN [2 ^ wd - 1]))) p = some (.dK (dkN [2 ^ wd - 1])) := upd_same
  change _root_.L2.tSeq _ _ _ _ (upd H p (.dK (dkN [2 ^ wd - 1])))
  generalize upd H p (.dK (dkN [2 ^ wd - 1])) = H1 at g1 h1
  refine ⟨_, rfl, a, rfl, ⟨_, g1.seq hA⟩, for_list (K := K) (a := a) (xs := rs.map nv) (fun i σ H2 => ∃ ks v1 v2, σ = [some (.ref a), some (.int wd), some (.ref p), v1, v2] ∧ H2 p = some (.dK (dkN ks)) ∧ MkI rs wd i ks ∧ Same H H2) ⟨_, _, _, rfl, h1, mkI_zero rs wd, g1⟩ (fun i σ H2 _ ⟨_, _, _, _, _, _, g⟩ => g.seq hA) ?_ ?_⟩
  · rintro i y σ H2 hi ⟨ks, v1, v2, rfl, hd, hI, g2⟩
    obtain ⟨hil, rfl⟩ := getI hi
    refine ⟨_, rfl, p, _, rfl, hd, fun l hl => ?_⟩
    rw [dk_nv]
    have hpl : p ≠ l := ne_of_none hd hl
    have g3 := same_one g2 hl (.lst (ks.map nv))
    have hd3 : (upd H2 l (.lst (ks.map nv))) p = some (.dK (dkN ks)) := by rw [upd_ne hpl]; exact hd
    have hl3 : (upd H2 l (.lst (ks.map nv))) l = some (.lst (ks.map nv)) := upd_same
    generalize upd H2 l (.lst (ks.map nv)) = H3 at g3 hd3 hl3
    refine ⟨l, rfl, ⟨_, SqL.of hl3⟩, for_list (K := K) (a := l) (xs := ks.map nv) (fun j σ H4 => ∃ ks2 v2, σ = [some (.ref a), some (.int wd), some (.ref p), some (nv rs[i]), v2] ∧ H4 p = some (.dK (dkN ks2)) ∧ H4 l = some (.lst (ks.map nv)) ∧ ks2.Nodup ∧ (∀ m, m ∈ ks2 ↔ m ∈ ks ∨ ∃ t ∈ ks.take j, m = t &&& rs[i]) ∧ Same H H4) ⟨ks, _, rfl, hd3, hl3, hI.1, fun m => by simp, g3⟩ (fun j σ H4 _ ⟨_, _, _, _, h, _⟩ => SqL.of h) ?_ ?_⟩
    · rintro j y σ H4 hj ⟨ks2, v2, rfl, hd4, hl4, hn4, hm4, g4⟩
      obtain ⟨hjl, rfl⟩ := getI hj
      refine ⟨_, rfl, _, rfl, _, rfl, _, _, rfl, rfl, ?_⟩
      try dsimp only
      rw [and_nat]
      have hlt : ∀ k ∈ ks2, k < 2 ^ wd := fun k hk => by
        rcases (hm4 k).mp hk with z | ⟨t, ht, rfl⟩
        · exact mkI_lt hI k z
        · exact Nat.lt_of_le_of_lt Nat.and_le_left (mkI_lt hI t (List.mem_of_mem_take ht))
      have hz := len1024 hw hn4 hlt
      refine ⟨p, _, rfl, DPut.k (k := Sum.inl _) hd4 (by rw [dk_len, sizeLine_eq]; omega), addK ks2 (ks[j] &&& rs[i]), _, rfl, ?_, ?_, nodup_addK hn4, fun m => ?_, same_upd g4 hp _⟩
      · rw [put_dk]; exact upd_same
      · rw [upd_ne (Ne.symm hpl)]; exact hl4
      · rw [mem_addK, hm4, ← List.take_append_getElem hjl]
        constructor
        · rintro ((h | ⟨t, ht, e⟩) | rfl)
          · exact .inl h
          · exact .inr ⟨t, List.mem_append_left _ ht, e⟩
          · exact .inr ⟨ks[j], List.mem_append_right _ (List.mem_singleton.mpr rfl), rfl⟩
        · rintro (h | ⟨t, ht, e⟩)
          · exact .inl (.inl h)
          · rcases List.mem_append.mp ht with z | z
            · exact .inl (.inr ⟨t, z, e⟩)
            · have : t = ks[j] := by simpa using z
              rw [this] at e
              exact .inr e
    · rintro σ H4 ⟨ks2, v2, rfl, hd4, hl4, hn4, hm4, g4⟩
      rw [List.length_map, List.take_length] at hm4
      refine ⟨ks2, _, _, rfl, hd4, mkI_succ hI hn4 fun m => ?_, g4⟩
      rw [hm4, getD_lt hil]
  · rintro σ H2 ⟨ks, v1, v2, rfl, hd, hI, g2⟩
    rw [List.length_map] at hI
    refine ⟨_, rfl, p, _, _, rfl, hd, dk_keys ks, fun l ns' hl hp' hs' => ?_⟩
    obtain ⟨ms, e, h1, h2, h3⟩ := sorted_nat hI.1 hp' hs'
    refine q l ms _ (same_one g2 hl _) ?_ ⟨h1, fun m => (h2 m).trans (hI.2 m), ?_⟩
    · rw [e]; exact upd_same
    · rw [h3]; exact len1024 hw hI.1 (mkI_lt hI)
noncomputable def IsIdeas (rs : List Nat) (H : Hp) (prs : List (Addr × Nat)) : Prop := ∀ q ∈ prs, H q.1 = some (.tup [nv (maskN (havingL rs q.2)), nv q.2])
inductive IspIdeas (K : PySem.W.Frag) (vs : List V) (H : Hp) (Q : VK) (E : XK) : Prop where
  | mk (a : Addr) (rs : List Nat) (w : Nat) (hh0 : vs = [.ref a, .int w]) (hh1 : SqL K H a (rs.map nv)) (hh2 : rs.length ≤ 100) (hh3 : w ≤ 10) (hh4 : ∀ (p : Addr) (prs : List (Addr × Nat)) (H' : Hp), Same H H' → H p = none → H' p = some (.lst (prs.map fun q => V.ref q.1)) → IsIdeas rs H' prs → IsMasks rs w (prs.map (·.2)) → Q (.ref p) H') : IspIdeas K vs H Q E
noncomputable def spIdeas (K : PySem.W.Frag) : Sp := fun vs H Q E => IspIdeas K vs H Q E
seal PA PE PS PSs in
theorem ok_ideas {f_ideas : Addr} {fd_ideas : FuncData} (F_ideas : Fun K "ideas" "ideas" s_ideas f_ideas fd_ideas)
    {f_closed_masks : Addr} {fd_closed_masks : FuncData} (G_closed_masks : FnOk P w K mg base CX0 1 f_closed_masks fd_closed_masks ["rows", "width"] (spMasks K)) (b_closed_masks : Binds K fd_closed_masks ["rows", "width"] []) (k_closed_masks : PySem.W.keepIn K (.ref f_closed_masks) = true) (m_closed_masks : mg "closed_masks" = some (.ref f_closed_masks))
    {f_having : Addr} {fd_having : FuncData} (G_having : FnOk P w K mg base CX0 2 f_having fd_having ["rows", "mask"] (spHaving K)) (b_having : Binds K fd_having ["rows", "mask"] []) (k_having : PySem.W.keepIn K (.ref f_having) = true) (m_having : mg "having" = some (.ref f_having)) :
    FnOk P w K mg base CX0 3 f_ideas fd_ideas ["rows", "width"] (spIdeas K) := by
  refine F_ideas.ok sc_ideas (fun vs H Q E h => ?_) (fun cdv A outer s H vs Q E hr h => ?_)
  · obtain ⟨a, rs, wd, rfl, hA, hl, hw, q⟩ := h
    rfl
  obtain ⟨a, rs, wd, rfl, hA, hl, hw, q⟩ := h
  refine ⟨_, (pss_one (ps_ret (pe_comp (own := ["mask"]) rfl (pi_listK (K := K) rfl (by exact (pe_call G_closed_masks (hr.mono (by decide)) rfl m_closed_masks k_closed_masks b_closed_masks .nil pass0 (pa_cons (pv 0) (pa_cons (pv 1) pa_nil))))) (fun _ _ _ _ _ => (pg_name (i := 0) nd_ideas_1 rfl (Or.inl rfl))) (fun _ _ _ _ _ => pif_nil) (fun _ _ _ _ _ => (pe_tup (pa_cons (pe_call G_having (hr.mono (by decide)) rfl m_having k_having b_having .nil pass0 (pa_cons (pv 1) (pa_cons (pv 0) pa_nil))) (pa_cons (pv 0) pa_nil))))))), ?_⟩
  refine ⟨_, rfl, _, rfl, a, rs, wd, rfl, hA, hw, fun l ms H1 g1 h1 hM => ⟨l, rfl, ⟨_, SqL.of h1⟩, ?_⟩⟩
  refine comp_list (K := K) (a := l) (xs := ms.map nv) (fun i ys H2 => ∃ prs : List (Addr × Nat), ys = (prs.map fun q => V.ref q.1) ∧ prs.map (·.2) = ms.take i ∧ IsIdeas rs H2 prs ∧ Same H1 H2) (by rw [List.length_map, sizeLine_eq]; have := hM.2.2; omega) ⟨[], rfl, rfl, (fun _ h => nomatch h), Same.refl _⟩ (fun i ys H2 hi h => ?_) (fun i ys H2 hi h => ?_) (fun i x ys H2 hi h => ?_) (fun ys H2 h => ?_)
  · obtain ⟨prs, rfl, e, _⟩ := h
    have e := congrArg List.length e
    rw [List.length_map, List.length_take] at e
    rw [List.length_map]; omega
  · obtain ⟨prs, _, _, _, g⟩ := h
    exact SqL.of (g _ _ h1)
  · obtain ⟨prs, rfl, e, hP, g⟩ := h
    obtain ⟨hil, rfl⟩ := getI hi
    refine ⟨rfl, _, rfl, _, rfl, a, rs, ms[i], rfl, (g1.trans g).seq hA, by omega, fun H3 g3 => ⟨_, rfl, by show 2 ≤ sizeLine; rw [sizeLine_eq]; decide, fun t ht => ⟨prs ++ [(t, ms[i])], ?_, ?_, fun q' hq => ?_, ?_⟩⟩⟩
    · rw [List.map_append]; rfl
    · rw [List.map_append, e, ← List.take_append_getElem hil]; rfl
    · rcases List.mem_append.mp hq with z | z
      · exact same_new ht _ _ _ (g3 _ _ (hP q' z))
      · have : q' = (t, ms[i]) := by simpa using z
        rw [this]; exact upd_same
    · exact same_one (g.trans g3) ht _
  · obtain ⟨prs, rfl, e, hP, g⟩ := h
    intro p hp
    rw [List.length_map, List.take_length] at e
    refine q p prs _ (same_one (g1.trans g) hp _) ((g1.trans g).free hp) upd_same (fun q' hq => same_new hp _ _ _ (hP q' hq)) ?_
    rw [e]; exact hM
noncomputable def Kept (S : List Addr) (H H' : Hp) : Prop := ∀ p o, p ∉ S → H p = some o → H' p = some o
theorem Kept.refl {S : List Addr} {H : Hp} : Kept S H H := fun _ _ _ h => h
theorem Kept.trans {S : List Addr} {H H1 H2 : Hp} (a : Kept S H H1) (b : Kept S H1 H2) : Kept S H H2 := fun p o hp h => b p o hp (a p o hp h)
theorem Kept.same {S : List Addr} {H H1 H2 : Hp} (a : Kept S H H1) (b : Same H1 H2) : Kept S H H2 := fun p o hp h => b p o (a p o hp h)
theorem Kept.of_same {S : List Addr} {H H1 : Hp} (b : Same H H1) : Kept S H H1 := fun p o _ h => b p o h
theorem Kept.upd {S : List Addr} {H H1 : Hp} {q : Addr} {u : HO} (a : Kept S H H1) (hq : q ∈ S) : Kept S H (upd H1 q u) := fun p o hp h => by
  rw [upd_ne (fun e => hp (by rw [e]; exact hq))]; exact a p o hp h
theorem Kept.new {S : List Addr} {H H1 : Hp} {q : Addr} {u : HO} (a : Kept S H H1) (hq : H1 q = none) : Kept S H (L2.upd H1 q u) := fun p o hp h => by
  have := a p o hp h
  rw [upd_ne (ne_of_none this hq)]; exact this
theorem Kept.sub {S T : List Addr} {H H1 : Hp} (a : Kept S H H1) (h : ∀ p ∈ S, p ∈ T) : Kept T H H1 := fun p o hp e => a p o (fun z => hp (h p z)) e
theorem Same.kept {S : List Addr} {H0 H H' : Hp} (g : Same H0 H) (k : Kept S H H') (n : ∀ s ∈ S, H0 s = none) : Same H0 H' := fun p o h => k p o (fun hs => by rw [n p hs] at h; cases h) (g p o h)
theorem nm1 {p x : Addr} (h : p ≠ x) : p ∉ [x] := by simpa using h
theorem nm2 {p x y : Addr} (h : p ≠ x) (h2 : p ≠ y) : p ∉ [x, y] := by simpa using ⟨h, h2⟩
theorem all2 {P : Addr → Prop} {x y : Addr} (h : P x) (h2 : P y) : ∀ s ∈ [x, y], P s := by simpa using ⟨h, h2⟩
theorem Ruls.kept {S : List Addr} {H H' : Hp} {prs : List (Addr × Nat × Nat)} (h : Ruls H prs) (k : Kept S H H') (n : ∀ s ∈ S, ∀ xs, H s ≠ some (.tup xs)) : Ruls H' prs := fun q hq => k _ _ (fun z => n _ z _ (h q hq)) (h q hq)
theorem OptAt.kept {S : List Addr} {H H' : Hp} {o : Option (Addr × Nat × Nat)} (h : OptAt H o) (k : Kept S H H') (n : ∀ s ∈ S, ∀ xs, H s ≠ some (.tup xs)) : OptAt H' o := fun t e => k _ _ (fun z => n _ z _ (h t e)) (h t e)
theorem made_same {C x dx : Addr} {H H' : Hp} (nx : H x = none) (ndx : H dx = none) (k : Kept [x] (upd (upd H dx (.own x)) x (.ins C dx [])) H') : Same H H' := fun p o h => by
  have h1 := ne_of_none h nx
  have h2 := ne_of_none h ndx
  exact k p o (nm1 h1) (by rw [upd_ne h1, upd_ne h2]; exact h)
theorem made_none {C x dx p : Addr} {H : Hp} (h : (upd (upd H dx (.own x)) x (.ins C dx [])) p = none) : H p = none := by
  have h1 : p ≠ x := fun e => by rw [e, upd_same] at h; cases h
  rw [upd_ne h1] at h
  have h2 : p ≠ dx := fun e => by rw [e, upd_same] at h; cases h
  rwa [upd_ne h2] at h
structure EK (K : PySem.W.Frag) (Ds : List Addr) (C : Addr) (i : Nat) : Prop where
  xc : XCls K C
  ve : PySem.W.kitOne K (.ref C) (.type "ValueError") = some true
  is : ∀ (j : Nat) (D : Addr), Ds[j]? = some D → PySem.W.kitOne K (.ref C) (.ref D) = some (decide (j = i))
  lt : i < 11
theorem ek_is {K : PySem.W.Frag} {C d0 d1 d2 d3 d4 d5 d6 d7 d8 d9 d10 : Addr} {i : Nat} (h0 : PySem.W.kitOne K (.ref C) (.ref d0) = some (decide (0 = i))) (h1 : PySem.W.kitOne K (.ref C) (.ref d1) = some (decide (1 = i))) (h2 : PySem.W.kitOne K (.ref C) (.ref d2) = some (decide (2 = i)))
    (h3 : PySem.W.kitOne K (.ref C) (.ref d3) = some (decide (3 = i))) (h4 : PySem.W.kitOne K (.ref C) (.ref d4) = some (decide (4 = i))) (h5 : PySem.W.kitOne K (.ref C) (.ref d5) = some (decide (5 = i))) (h6 : PySem.W.kitOne K (.ref C) (.ref d6) = some (decide (6 = i)))
    (h7 : PySem.W.kitOne K (.ref C) (.ref d7) = some (decide (7 = i))) (h8 : PySem.W.kitOne K (.ref C) (.ref d8) = some (decide (8 = i))) (h9 : PySem.W.kitOne K (.ref C) (.ref d9) = some (decide (9 = i))) (h10 : PySem.W.kitOne K (.ref C) (.ref d10) = some (decide (10 = i))) :
    ∀ (j : Nat) (D : Addr), [d0, d1, d2, d3, d4, d5, d6, d7, d8, d9, d10][j]? = some D → PySem.W.kitOne K (.ref C) (.ref D) = some (decide (j = i))
  | 0, _, e => by cases e; exact h0
  | 1, _, e => by cases e; exact h1
  | 2, _, e => by cases e; exact h2
  | 3, _, e => by cases e; exact h3
  | 4, _, e => by cases e; exact h4
  | 5, _, e => by cases e; exact h5
  | 6, _, e => by cases e; exact h6
  | 7, _, e => by cases e; exact h7
  | 8, _, e => by cases e; exact h8
  | 9, _, e => by cases e; exact h9
  | 10, _, e => by cases e; exact h10
  | j + 11, _, e => by cases e
theorem cs3 {P : Nat → Addr → Prop} {a b c : Addr} (h0 : P 0 a) (h1 : P 1 b) (h2 : P 2 c) : ∀ j x, [a, b, c][j]? = some x → P j x
  | 0, _, e => by cases e; exact h0
  | 1, _, e => by cases e; exact h1
  | 2, _, e => by cases e; exact h2
  | j + 3, _, e => by cases e
theorem same_raise {H : Hp} {a T : Addr} {u v w : HO} (ha : H a = none) (hT : (upd H a u) T = none) : Same H (upd (upd (upd H a u) T v) a w) := fun b o q => by
  have hb : b ≠ a := ne_of_none q ha
  have hbT : b ≠ T := fun e => by rw [← e, upd_ne hb, q] at hT; cases hT
  rw [upd_ne hb, upd_ne hbT, upd_ne hb]; exact q
theorem Flown.same {H H' : Hp} {a C : Addr} {d : Option Addr} (h : Flown H a C d) (g : Same H H') : Flown H' a C d :=
  let ⟨T, h1, h2, h3⟩ := h; ⟨T, g _ _ h1, g _ _ h2, h3⟩
theorem if_known {c : TT} {t u : TS} {D : Ends} {σ : St} {H : Hp} (b : Bool) (hc : ∀ Q : Bool → Hp → Prop, Q b H → c σ H Q) (h : if b = true then t D σ H else u D σ H) : tIfS c t u D σ H := hc _ h
noncomputable def bookF (wd : Nat) (a : Addr) : List (Str × V) := [("breadth", .int wd), ("known", .ref a)]
structure BookB (C : Addr) (H : Hp) (x : Addr) (wd : Nat) (a : Addr) (rs : List Nat) : Prop where
  ins : ∃ dx, H x = some (.ins C dx (bookF wd a))
  kn : H a = some (.lst (rs.map nv))
  wd10 : wd ≤ 10
theorem BookB.same {C : Addr} {H H' : Hp} {x : Addr} {wd : Nat} {a : Addr} {rs : List Nat} (t : BookB C H x wd a rs) (g : Same H H') : BookB C H' x wd a rs :=
  let ⟨dx, h⟩ := t.ins; ⟨⟨dx, g _ _ h⟩, g _ _ t.kn, t.wd10⟩
theorem BookB.kept {C : Addr} {H H' : Hp} {x : Addr} {wd : Nat} {a : Addr} {rs : List Nat} (t : BookB C H x wd a rs) {S : List Addr} (k : Kept S H H') (hx : x ∉ S) (ha : a ∉ S) : BookB C H' x wd a rs :=
  let ⟨dx, h⟩ := t.ins; ⟨⟨dx, k _ _ hx h⟩, k _ _ ha t.kn, t.wd10⟩
theorem rows_snocV (rs : List Nat) (r : Nat) : (rs ++ [r]).map nv = rs.map nv ++ [nv r] := by rw [List.map_append]; rfl
inductive IspBInit (C : Addr) (vs : List V) (H : Hp) (Q : VK) (E : XK) : Prop where
  | mk (x dx : Addr) (wd : Nat) (hh0 : vs = [.ref x, .int wd]) (hh1 : H x = some (.ins C dx [])) (hh2 : wd ≤ 10) (hh3 : ∀ H' a, H a = none → BookB C H' x wd a [] → Kept [x] H H' → Q .non H') : IspBInit C vs H Q E
noncomputable def spBInit (C : Addr) : Sp := fun vs H Q E => IspBInit C vs H Q E
inductive IspBRows (C : Addr) (vs : List V) (H : Hp) (Q : VK) (E : XK) : Prop where
  | mk (x : Addr) (wd : Nat) (a : Addr) (rs : List Nat) (hh0 : vs = [.ref x]) (hh1 : BookB C H x wd a rs) (hh2 : ∀ r, H r = none → Q (.ref r) (upd H r (.lst (rs.map nv)))) : IspBRows C vs H Q E
noncomputable def spBRows (C : Addr) : Sp := fun vs H Q E => IspBRows C vs H Q E
inductive IspBWidth (C : Addr) (vs : List V) (H : Hp) (Q : VK) (E : XK) : Prop where
  | mk (x : Addr) (wd : Nat) (a : Addr) (rs : List Nat) (hh0 : vs = [.ref x]) (hh1 : BookB C H x wd a rs) (hh2 : Q (.int wd) H) : IspBWidth C vs H Q E
noncomputable def spBWidth (C : Addr) : Sp := fun vs H Q E => IspBWidth C vs H Q E
inductive IspBIdeas (C : Addr) (vs : List V) (H : Hp) (Q : VK) (E : XK) : Prop where
  | mk (x : Addr) (wd : Nat) (a : Addr) (rs : List Nat) (hh0 : vs = [.ref x]) (hh1 : BookB C H x wd a rs) (hh2 : rs.length ≤ 100) (hh3 : ∀ (p : Addr) (prs : List (Addr × Nat)) (H' : Hp), Same H H' → H p = none → H' p = some (.lst (prs.map fun q => V.ref q.1)) → IsIdeas rs H' prs → IsMasks rs wd (prs.map (·.2)) → Q (.ref p) H') : IspBIdeas C vs H Q E
noncomputable def spBIdeas (C : Addr) : Sp := fun vs H Q E => IspBIdeas C vs H Q E
theorem dk_val (k : Nat) : ∀ ks : List Nat, (valV (dkN ks) (Sum.inl (k : Int))).isSome = decide (k ∈ ks)
  | [] => rfl
  | q :: ks => by
    show (valV ((Sum.inl (q : Int), V.bl true) :: dkN ks) (Sum.inl (k : Int))).isSome = _
    by_cases e : q = k
    · subst e
      rw [valV_pos (p := (Sum.inl (q : Int), V.bl true)) rfl]
      simp
    · rw [valV_neg (fun z => by
        have : (q : Int) = (k : Int) := Sum.inl.inj z
        omega), dk_val k ks]
      have : k ≠ q := fun z => e z.symm
      simp [this]
seal PA PE PS PSs in
theorem ok_Book_init {C_Book : Addr} (T_Book : Txt_Book K C_Book)
    {f_Book_init : Addr} {fd_Book_init : FuncData} (F_Book_init : Fun K "__init__" "Book.__init__" s_Book_init f_Book_init fd_Book_init) :
    FnOk P w K mg base CX0 1 f_Book_init fd_Book_init ["self", "width"] (spBInit C_Book) := by
  refine F_Book_init.ok sc_Book_init (fun vs H Q E h => ?_) (fun cdv A outer s H vs Q E hr h => ?_)
  · obtain ⟨x, dx, wd, rfl, hx, hw, q⟩ := h
    rfl
  obtain ⟨x, dx, wd, rfl, hx, hw, q⟩ := h
  refine ⟨_, (pss_cons (ps_fld (pv 0) (pv 1) rfl)
      (pss_one (ps_fld (pv 0) (pe_lst pa_nil) rfl))), ?_⟩
  refine ⟨_, rfl, _, rfl, x, C_Book, dx, _, rfl, hx, T_Book.cl, T_Book.n_breadth, by decide, ?_⟩
  have hx1 : (upd H x (.ins C_Book dx (putF "breadth" (.int wd) []))) x = some (.ins C_Book dx [("breadth", .int wd)]) := upd_same
  have k1 : Kept [x] H (upd H x (.ins C_Book dx (putF "breadth" (.int wd) []))) := Kept.refl.upd (by simp)
  have n1 : ∀ p, (upd H x (.ins C_Book dx (putF "breadth" (.int wd) []))) p = none → H p = none := fun p hp => by
    have : p ≠ x := fun e => by rw [e, upd_same] at hp; cases hp
    rwa [upd_ne this] at hp
  generalize upd H x (.ins C_Book dx (putF "breadth" (.int wd) [])) = H1 at hx1 k1 n1
  refine ⟨Nat.zero_le _, fun a ha => ?_⟩
  have nax : a ≠ x := fun e => by rw [e, hx1] at ha; cases ha
  have hx2 : (upd H1 a (.lst ([] : List V))) x = some (.ins C_Book dx [("breadth", .int wd)]) := by rw [upd_ne (Ne.symm nax)]; exact hx1
  refine ⟨_, rfl, x, C_Book, dx, _, rfl, hx2, T_Book.cl, T_Book.n_known, (show 1 < 1000 by decide), ?_⟩
  have h3 : (upd (upd H1 a (.lst ([] : List V))) x (.ins C_Book dx (putF "known" (.ref a) [("breadth", .int wd)]))) x = some (.ins C_Book dx (bookF wd a)) := upd_same
  exact q _ a (n1 a ha) ⟨⟨dx, h3⟩, by rw [upd_ne nax]; exact upd_same, hw⟩ ((k1.new ha).upd (by simp))
seal PA PE PS PSs in
theorem ok_Book_rows {C_Book : Addr} (T_Book : Txt_Book K C_Book)
    {f_Book_rows : Addr} {fd_Book_rows : FuncData} (F_Book_rows : Fun K "rows" "Book.rows" s_Book_rows f_Book_rows fd_Book_rows)
    (z_list : mg "list" = none) :
    FnOk P w K mg base CX0 1 f_Book_rows fd_Book_rows ["self"] (spBRows C_Book) := by
  refine F_Book_rows.ok sc_Book_rows (fun vs H Q E h => ?_) (fun cdv A outer s H vs Q E hr h => ?_)
  · obtain ⟨x, wd, a, rs, rfl, t, q⟩ := h
    rfl
  obtain ⟨x, wd, a, rs, rfl, t, q⟩ := h
  refine ⟨_, (pss_one (ps_ret (pe_callTy (list_ofK (K := K) rfl) rfl z_list b_list (pa_cons (pe_fld (pv 0) rfl) pa_nil)))), ?_⟩
  obtain ⟨dx, hx⟩ := t.ins
  exact ⟨_, rfl, x, C_Book, dx, _, _, rfl, hx, T_Book.cl, T_Book.n_known, rfl, a, _, rfl, .inl (SqL.of t.kn), fun r hr => q r hr⟩
seal PA PE PS PSs in
theorem ok_Book_width {C_Book : Addr} (T_Book : Txt_Book K C_Book)
    {f_Book_width : Addr} {fd_Book_width : FuncData} (F_Book_width : Fun K "width" "Book.width" s_Book_width f_Book_width fd_Book_width) :
    FnOk P w K mg base CX0 1 f_Book_width fd_Book_width ["self"] (spBWidth C_Book) := by
  refine F_Book_width.ok sc_Book_width (fun vs H Q E h => ?_) (fun cdv A outer s H vs Q E hr h => ?_)
  · obtain ⟨x, wd, a, rs, rfl, t, q⟩ := h
    rfl
  obtain ⟨x, wd, a, rs, rfl, t, q⟩ := h
  refine ⟨_, (pss_one (ps_ret (pe_fld (pv 0) rfl))), ?_⟩
  obtain ⟨dx, hx⟩ := t.ins
  exact ⟨_, rfl, x, C_Book, dx, _, _, rfl, hx, T_Book.cl, T_Book.n_breadth, rfl, q⟩
seal PA PE PS PSs in
theorem ok_Book_ideas {C_Book : Addr} (T_Book : Txt_Book K C_Book)
    {f_Book_ideas : Addr} {fd_Book_ideas : FuncData} (F_Book_ideas : Fun K "ideas" "Book.ideas" s_Book_ideas f_Book_ideas fd_Book_ideas)
    {f_ideas : Addr} {fd_ideas : FuncData} (G_ideas : FnOk P w K mg base CX0 3 f_ideas fd_ideas ["rows", "width"] (spIdeas K)) (b_ideas : Binds K fd_ideas ["rows", "width"] []) (k_ideas : PySem.W.keepIn K (.ref f_ideas) = true) (m_ideas : mg "ideas" = some (.ref f_ideas))
    (al_ideas_ideas : mg "ideas_ideas" = some (.ref f_ideas)) :
    FnOk P w K mg base CX0 4 f_Book_ideas fd_Book_ideas ["self"] (spBIdeas C_Book) := by
  refine F_Book_ideas.ok sc_Book_ideas (fun vs H Q E h => ?_) (fun cdv A outer s H vs Q E hr h => ?_)
  · obtain ⟨x, wd, a, rs, rfl, t, hl, q⟩ := h
    rfl
  obtain ⟨x, wd, a, rs, rfl, t, hl, q⟩ := h
  refine ⟨_, (pss_one (ps_ret (pe_call G_ideas (hr.mono (by decide)) rfl al_ideas_ideas k_ideas b_ideas .nil pass0 (pa_cons (pe_fld (pv 0) rfl) (pa_cons (pe_fld (pv 0) rfl) pa_nil))))), ?_⟩
  obtain ⟨dx, hx⟩ := t.ins
  exact ⟨_, rfl, x, C_Book, dx, _, _, rfl, hx, T_Book.cl, T_Book.n_known, rfl, _, rfl, x, C_Book, dx, _, _, rfl, hx, T_Book.cl, T_Book.n_breadth, rfl, a, rs, wd, rfl, SqL.of t.kn, hl, t.wd10, fun p prs H' g hp0 hp hI hM => q p prs H' g hp0 hp hI hM⟩
noncomputable def lessC (r p : Nat) : Nat := r % 2 ^ p + (r / 2 ^ (p + 1)) * 2 ^ p
noncomputable def withC (rs : List Nat) (wd g : Nat) : List Nat := (List.range rs.length).map fun i => rs.getD i 0 + (g / 2 ^ i % 2) * 2 ^ wd
theorem withC_len (rs : List Nat) (wd g : Nat) : (withC rs wd g).length = rs.length := by unfold withC; rw [List.length_map, List.length_range]
theorem or_low {p a b : Nat} (h : b < 2 ^ p) : b ||| (a * 2 ^ p) = b + a * 2 ^ p := by
  have := Nat.two_pow_add_eq_or_of_lt h a
  rw [Nat.or_comm, Nat.mul_comm a, ← this, Nat.add_comm]
theorem and_low (r p : Nat) : r &&& (2 ^ p - 1) = r % 2 ^ p := Nat.and_two_pow_sub_one_eq_mod r p
theorem bit_nat (g i : Nat) : Builtin.bitAnd ((g : Int) / 2 ^ (i : Int).toNat) 1 = ((g / 2 ^ i % 2 : Nat) : Int) := by
  have e1 : ((g : Int) / 2 ^ (i : Int).toNat) = ((g / 2 ^ i : Nat) : Int) := by simp
  have := and_nat (g / 2 ^ i) 1
  rw [Nat.and_one_is_mod] at this
  rw [e1]; exact this
inductive IspWithC (vs : List V) (H : Hp) (Q : VK) (E : XK) : Prop where
  | mk (r wd h : Nat) (hh0 : vs = [.int r, .int wd, .int h]) (hh1 : r < 2 ^ wd) (hh2 : wd ≤ 10) (hh3 : h ≤ 1) (hh4 : Q (.int (r + h * 2 ^ wd : Nat)) H) : IspWithC vs H Q E
noncomputable def spWithC : Sp := fun vs H Q E => IspWithC vs H Q E
seal PA PE PS PSs in
theorem ok_with_column {f_with_column : Addr} {fd_with_column : FuncData} (F_with_column : Fun K "with_column" "with_column" s_with_column f_with_column fd_with_column) :
    FnOk P w K mg base CX0 1 f_with_column fd_with_column ["row", "width", "has"] (spWithC) := by
  refine F_with_column.ok sc_with_column (fun vs H Q E h => ?_) (fun cdv A outer s H vs Q E hr h => ?_)
  · obtain ⟨r, wd, h, rfl, hr2, hw, hh, q⟩ := h
    rfl
  obtain ⟨r, wd, h, rfl, hr2, hw, hh, q⟩ := h
  refine ⟨_, (pss_one (ps_ret (pe_op op_or (pv 0) (pe_op op_shl (pv 2) (pv 1))))), ?_⟩
  refine ⟨_, rfl, _, rfl, _, rfl, _, _, rfl, rfl, cshl (by omega) (by omega), _, _, rfl, rfl, ?_⟩
  try dsimp only
  rw [shl_nat, or_nat, or_low hr2]
  exact q
inductive IspLessC (vs : List V) (H : Hp) (Q : VK) (E : XK) : Prop where
  | mk (r p : Nat) (hh0 : vs = [.int r, .int p]) (hh1 : r < 2 ^ 10) (hh2 : p ≤ 10) (hh3 : Q (.int (lessC r p : Nat)) H) : IspLessC vs H Q E
noncomputable def spLessC : Sp := fun vs H Q E => IspLessC vs H Q E
theorem less_parts (r p : Nat) : (r : Int) / 2 ^ ((p : Int) + 1).toNat = ((r / 2 ^ (p + 1) : Nat) : Int) := by
  rw [show ((p : Int) + 1).toNat = p + 1 from by omega]; simp
seal PA PE PS PSs in
theorem ok_without_column {f_without_column : Addr} {fd_without_column : FuncData} (F_without_column : Fun K "without_column" "without_column" s_without_column f_without_column fd_without_column) :
    FnOk P w K mg base CX0 1 f_without_column fd_without_column ["row", "place"] (spLessC) := by
  refine F_without_column.ok sc_without_column (fun vs H Q E h => ?_) (fun cdv A outer s H vs Q E hr h => ?_)
  · obtain ⟨r, p, rfl, hr2, hp, q⟩ := h
    rfl
  obtain ⟨r, p, rfl, hr2, hp, q⟩ := h
  refine ⟨_, (pss_cons (ps_set (i := 2) sc_without_column.nd rfl (Or.inl rfl) (pe_op op_and (pv 0) (pe_op op_sub (pe_op op_shl pe_int (pv 1)) pe_int)))
      (pss_one (ps_ret (pe_op op_or (pv 2) (pe_op op_shl (pe_op op_shr (pv 0) (pe_op op_add (pv 1) pe_int)) (pv 1)))))), ?_⟩
  refine ⟨_, rfl, _, rfl, _, _, rfl, rfl, cpow p (by omega), _, _, rfl, rfl, _, _, rfl, rfl, ?_⟩
  try dsimp only
  rw [full_nat, and_nat, and_low]
  have hq : r / 2 ^ (p + 1) < 2 ^ 64 := Nat.lt_of_le_of_lt (Nat.div_le_self _ _) (by omega)
  refine ⟨_, rfl, _, rfl, _, rfl, _, _, rfl, rfl, _, _, rfl, rfl, (by show (0 : Int) ≤ (p : Int) + 1; omega), ?_⟩
  try dsimp only
  rw [less_parts]
  refine ⟨_, rfl, _, _, rfl, rfl, cshl hq (by omega), _, _, rfl, rfl, ?_⟩
  try dsimp only
  rw [shl_nat, or_nat, or_low (Nat.mod_lt _ (Nat.pow_pos (by decide)))]
  exact q
theorem erase_map {α β : Type} (f : α → β) : ∀ (xs : List α) (i : Nat), (xs.eraseIdx i).map f = (xs.map f).eraseIdx i
  | [], _ => rfl
  | _ :: _, 0 => rfl
  | x :: xs, i + 1 => by show f x :: (xs.eraseIdx i).map f = f x :: (xs.map f).eraseIdx i; rw [erase_map f xs i]
theorem seqIx_nat {n i : Nat} (h : i < n) : seqIndex? (i : Int) n = some i := (ixN_seq (ixN_nat h)).1
theorem passF {P : Program} {w : World} {X : Cx} : Passes (CXE P w) X (fun _ _ _ => False) := fun _ _ _ _ _ _ _ h => by
  obtain ⟨_, _, _, _, _, _, _, _, z⟩ := h
  exact z.elim
structure ErrAt (H : Hp) (a C : Addr) (f : Str) (v : V) : Prop where
  ex : ∃ d, H a = some (XO a C (some d)) ∧ H d = some (.xd [(f, v)])
inductive IspInitX (K : PySem.W.Frag) (f : Str) (vs : List V) (H : Hp) (Q : VK) (E : XK) : Prop where
  | mk (a C : Addr) (y : V) (hh0 : vs = [.ref a, y]) (hh1 : H a = some (XO a C none)) (hh2 : XCls K C) (hh3 : excOver K C = true) (hh4 : NoAttr K C f) (hh5 : ∀ H', ErrAt H' a C f y → (∀ b o, H b = some o → b ≠ a → H' b = some o) → Q .non H') : IspInitX K f vs H Q E
noncomputable def spInitX (K : PySem.W.Frag) (f : Str) : Sp := fun vs H Q E => IspInitX K f vs H Q E
theorem init_end {H : Hp} {a C : Addr} {f : Str} {y : V} {Q : VK} (hA : H a = some (XO a C none)) (k : ∀ H', ErrAt H' a C f y → (∀ b o, H b = some o → b ≠ a → H' b = some o) → Q .non H') :
    ∀ d, H d = none → d ≠ a → Q .non (upd (upd H d (.xd [(f, y)])) a (XO a C (some d))) := fun d hd hne => by
  refine k _ ⟨d, upd_same, by rw [upd_ne hne, upd_same]⟩ fun b o e hb => ?_
  rw [upd_ne hb, upd_ne (ne_of_none e hd)]
  exact e
seal PA PE PS PSs in
theorem ok_TooLarge_init {f_TooLarge_init : Addr} {fd_TooLarge_init : FuncData} (F_TooLarge_init : Fun K "__init__" "TooLarge.__init__" s_TooLarge_init f_TooLarge_init fd_TooLarge_init) :
    FnOk P w K mg base CX0 1 f_TooLarge_init fd_TooLarge_init ["self", "line"] (spInitX K "line") := by
  refine F_TooLarge_init.ok sc_TooLarge_init (fun vs H Q E h => ?_) (fun cdv A outer s H vs Q E hr h => ?_)
  · obtain ⟨a, C, y, rfl, hA, hc, ho, hn, k⟩ := h
    rfl
  obtain ⟨a, C, y, rfl, hA, hc, ho, hn, k⟩ := h
  refine ⟨_, (pss_one (ps_fldX (K := K) rfl (pv 0) (pv 1) rfl)), ?_⟩
  exact ⟨_, rfl, _, rfl, a, C, rfl, hA, hc, ho, hn, init_end hA k⟩
noncomputable def Cgt (H : Hp) (e c : Addr) (j : Nat) : Prop := ∃ d : Option Addr, Flown H e c d ∧ (∀ dx, d = some dx → H dx = some (.xd [("line", .int 0)])) ∧ (j = 0 → d ≠ none)
theorem Cgt.same {H H' : Hp} {e c : Addr} {j : Nat} (h : Cgt H e c j) (g : Same H H') : Cgt H' e c j :=
  let ⟨d, h1, h2, h3⟩ := h; ⟨d, Flown.same h1 g, fun dx q => g _ _ (h2 dx q), h3⟩
theorem cgt_new {H : Hp} {e c T : Addr} {j : Nat} (h : T ≠ e) (hj : j ≠ 0) : Cgt (upd (upd H T (XT T)) e (XF e c none T)) e c j := ⟨none, flown_new h, (fun _ z => nomatch z), fun z => absurd z hj⟩
theorem large_up {K : PySem.W.Frag} {H : Hp} {C : Addr} {E : XK} (xc : XCls K C) (xo : excOver K C = true) (xn : NoAttr K C "line") (k : ∀ e H', H e = none → Same H H' → Cgt H' e C 0 → E (.ref C) (some e) H') (e : Addr) (he : H e = none) :
    spInitX K "line" [.ref e, .int 0] (upd H e (XO e C none)) (fun v H2 => v = .non ∧ ∃ a d, (V.ref e) = .ref a ∧ H2 a = some (XO a C d) ∧ ∀ T, H2 T = none → T ≠ a → E (.ref C) (some a) (upd (upd H2 T (XT T)) a (XF a C d T))) E0 := by
  refine ⟨e, C, .int 0, rfl, upd_same, xc, xo, xn, fun H' hE hk => ?_⟩
  obtain ⟨d, h1, h2⟩ := hE.ex
  refine ⟨rfl, e, some d, rfl, h1, fun T hT hTe => k e _ he (fun b o q => ?_) ⟨some d, flown_new hTe, fun dx z => ?_, (fun _ z => nomatch z)⟩⟩
  · have hb : b ≠ e := ne_of_none q he
    have q1 := hk b o (by rw [upd_ne hb]; exact q) hb
    rw [upd_ne hb, upd_ne (ne_of_none q1 hT)]
    exact q1
  · cases z
    rw [upd_ne (ne_of h2 h1 (by intro z; cases z)), upd_ne (ne_of_none h2 hT)]
    exact h2
noncomputable def dueB (dd n wd : Nat) (i : Int) : Option Nat :=
  match dd with
  | 0 => if 60 ≤ n then some 0 else if 0 ≤ i ∧ i < ((2 ^ wd : Nat) : Int) then none else some 1
  | 1 => if 0 ≤ i ∧ i < (n : Int) then none else some 2
  | 2 => if 10 ≤ wd then some 0 else if 0 ≤ i ∧ i < ((2 ^ n : Nat) : Int) then none else some 1
  | _ => if 0 ≤ i ∧ i < (wd : Int) then none else some 2
theorem due0 (n wd : Nat) (i : Int) : dueB 0 n wd i = if 60 ≤ n then some 0 else if 0 ≤ i ∧ i < ((2 ^ wd : Nat) : Int) then none else some 1 := rfl
theorem due1 (n wd : Nat) (i : Int) : dueB 1 n wd i = if 0 ≤ i ∧ i < (n : Int) then none else some 2 := rfl
theorem due2 (n wd : Nat) (i : Int) : dueB 2 n wd i = if 10 ≤ wd then some 0 else if 0 ≤ i ∧ i < ((2 ^ n : Nat) : Int) then none else some 1 := rfl
theorem due3 (n wd : Nat) (i : Int) : dueB 3 n wd i = if 0 ≤ i ∧ i < (wd : Int) then none else some 2 := rfl
noncomputable def wdTo (dd wd : Nat) : Nat :=
  match dd with
  | 2 => wd + 1
  | 3 => wd - 1
  | _ => wd
noncomputable def rowsTo (dd : Nat) (rs : List Nat) (wd m : Nat) : List Nat :=
  match dd with
  | 0 => rs ++ [m]
  | 1 => rs.eraseIdx m
  | 2 => withC rs wd m
  | _ => rs.map fun r => lessC r m
inductive IspDeed (C : Addr) (Cs : List Addr) (dd : Nat) (vs : List V) (H : Hp) (Q : VK) (E : XK) : Prop where
  | mk (x : Addr) (wd : Nat) (a : Addr) (rs : List Nat) (i : Int) (hh0 : vs = [.ref x, .int i]) (hh1 : BookB C H x wd a rs) (hh2 : Rows wd rs) (hh3 : rs.length ≤ 60) (hh4 : (∀ j c, dueB dd rs.length wd i = some j → Cs[j]? = some c → ∀ e H', H e = none → Same H H' → Cgt H' e c j → E (.ref c) (some e) H')) (hh5 : (∀ m : Nat, i = (m : Int) → dueB dd rs.length wd i = none → ∀ H' a', (a' = a ∨ H a' = none) → BookB C H' x (wdTo dd wd) a' (rowsTo dd rs wd m) → Kept [x, a] H H' → Q .non H')) : IspDeed C Cs dd vs H Q E
noncomputable def spDeed (C : Addr) (Cs : List Addr) (dd : Nat) : Sp := fun vs H Q E => IspDeed C Cs dd vs H Q E
seal PA PE PS PSs in
theorem ok_Book_put_thing {C_Book : Addr} (T_Book : Txt_Book K C_Book)
    {f_Book_put_thing : Addr} {fd_Book_put_thing : FuncData} (F_Book_put_thing : Fun K "put_thing" "Book.put_thing" s_Book_put_thing f_Book_put_thing fd_Book_put_thing)
    (XC : XCls K C_TooLarge) (xo : excOver K C_TooLarge = true) (xn : NoAttr K C_TooLarge "line")
    {f_TooLarge_init : Addr} {fd_TooLarge_init : FuncData} (G_TooLarge_init : FnOk P w K mg base CX0 1 f_TooLarge_init fd_TooLarge_init ["self", "line"] (spInitX K "line")) (b_TooLarge_init : Binds K fd_TooLarge_init ["self", "line"] [])
    {f_fits : Addr} {fd_fits : FuncData} (G_fits : FnOk P w K mg base CX0 1 f_fits fd_fits ["number", "many"] (spFits)) (b_fits : Binds K fd_fits ["number", "many"] []) (k_fits : PySem.W.keepIn K (.ref f_fits) = true) (m_fits : mg "fits" = some (.ref f_fits))
    (m_TooLarge : mg "TooLarge" = some (.ref C_TooLarge))
    (m_BadSet : mg "BadSet" = some (.ref C_BadSet))
    (M_TooLarge : XMk K C_TooLarge f_TooLarge_init)
    (M_BadSet : XMk0 K C_BadSet)
    (R_TooLarge : XRs K C_TooLarge)
    (R_BadSet : XRs K C_BadSet)
    {tk_MOST_THINGS : Tok} (c_MOST_THINGS : mg "MOST_THINGS" = some (.int 60 tk_MOST_THINGS))
    (z_len : mg "len" = none) :
    FnOk P w K mg base (CXE P w) 3 f_Book_put_thing fd_Book_put_thing ["self", "row"] (spDeed C_Book [C_TooLarge, C_BadSet, C_OutOfPlace] 0) := by
  refine F_Book_put_thing.okE sc_Book_put_thing (fun vs H Q E h => ?_) (fun cdv A outer s H vs Q E hr h => ?_)
  · obtain ⟨x, wd, a, rs, i, rfl, hB, hR, hl, qE, q⟩ := h
    rfl
  obtain ⟨x, wd, a, rs, i, rfl, hB, hR, hl, qE, q⟩ := h
  refine ⟨_, (pss_cons (ps_if (pt_cmpR op_ge (pe_callB (len_seqK (K := K) rfl) rfl z_len PySem.boot_len (pa_cons (pe_fld (pv 0) rfl) pa_nil)) (pe_glob (v := .int 60) rfl c_MOST_THINGS ⟨_, rfl⟩) (nomark _)) (pss_one (ps_raise R_TooLarge (pe_makeX M_TooLarge G_TooLarge_init (hr.mono (by decide)) rfl m_TooLarge b_TooLarge_init pass0 (pa_cons pe_int pa_nil)))) pss_nil)
      (pss_cons (ps_if (pt_not (pt_val (pe_call G_fits (hr.mono (by decide)) rfl m_fits k_fits b_fits .nil pass0 (pa_cons (pv 1) (pa_cons (pe_fld (pv 0) rfl) pa_nil))))) (pss_one (ps_raise R_BadSet (pe_makeX0 M_BadSet rfl m_BadSet))) pss_nil)
      (pss_one (ps_expr (pe_bmK (K := K) rfl PySem.F.plainAttrs_list PySem.F.slot_list_append PySem.F.type_list_append mt_append (pe_fld (pv 0) rfl) (pa_cons (pv 1) pa_nil)))))), ?_⟩
  obtain ⟨dx, hx⟩ := hB.ins
  have hw := hB.wd10
  rw [due0] at qE q
  refine ⟨_, rfl, x, C_Book, dx, _, _, rfl, hx, T_Book.cl, T_Book.n_known, rfl, a, _, rfl, .inl (SqL.of hB.kn), _, _, rfl, rfl, _, rfl, ?_⟩
  rw [List.length_map]
  by_cases c60 : 60 ≤ rs.length
  · rw [decide_eq_true (show (60 : Int) ≤ (rs.length : Int) from by omega)]
    rw [if_pos c60] at qE
    exact iteT ⟨(by show 1 ≤ sizeLine; decide), large_up XC xo xn fun e H' he g hc => qE 0 _ rfl rfl e H' he g hc⟩
  · rw [decide_eq_false (show ¬ (60 : Int) ≤ (rs.length : Int) from by omega)]
    rw [if_neg c60] at qE q
    refine iteF ⟨_, rfl, _, rfl, x, C_Book, dx, _, _, rfl, hx, T_Book.cl, T_Book.n_breadth, rfl, i, wd, rfl, by omega, _, rfl, ?_⟩
    by_cases hf : 0 ≤ i ∧ i < ((2 ^ wd : Nat) : Int)
    · rw [decide_eq_true hf]
      rw [if_pos hf] at q
      obtain ⟨m, rfl⟩ : ∃ m : Nat, i = (m : Int) := ⟨i.toNat, by omega⟩
      refine iteF ⟨_, rfl, x, C_Book, dx, _, _, rfl, hx, T_Book.cl, T_Book.n_known, rfl, .inl ⟨rfl, _, SqL.of hB.kn⟩, _, rfl, a, _, _, rfl, rfl, hB.kn, by rw [List.length_map]; exact line1000 (by omega), ?_⟩
      have nxa : x ≠ a := ne_of hx hB.kn (by intro z; cases z)
      have k2 : Kept [a] H (upd H a (.lst (rs.map nv ++ [nv m]))) := Kept.refl.upd (by simp)
      exact q m rfl rfl _ a (.inl rfl) ⟨⟨dx, k2 _ _ (nm1 nxa) hx⟩, by show _ = some (HO.lst ((rs ++ [m]).map nv)); rw [rows_snocV]; exact upd_same, hB.wd10⟩ (k2.sub (by simp))
    · rw [decide_eq_false hf]
      rw [if_neg hf] at qE
      exact iteT fun e he => ⟨e, none, rfl, upd_same, fun T hT hTe => qE 1 _ rfl rfl e _ he (same_raise he hT) (cgt_new hTe (by decide))⟩
seal PA PE PS PSs in
theorem ok_Book_take_thing {C_Book : Addr} (T_Book : Txt_Book K C_Book)
    {f_Book_take_thing : Addr} {fd_Book_take_thing : FuncData} (F_Book_take_thing : Fun K "take_thing" "Book.take_thing" s_Book_take_thing f_Book_take_thing fd_Book_take_thing)
    (m_OutOfPlace : mg "OutOfPlace" = some (.ref C_OutOfPlace))
    (M_OutOfPlace : XMk0 K C_OutOfPlace)
    (R_OutOfPlace : XRs K C_OutOfPlace)
    (z_len : mg "len" = none) :
    FnOk P w K mg base (CXE P w) 1 f_Book_take_thing fd_Book_take_thing ["self", "place"] (spDeed C_Book [C_TooLarge, C_BadSet, C_OutOfPlace] 1) := by
  refine F_Book_take_thing.okE sc_Book_take_thing (fun vs H Q E h => ?_) (fun cdv A outer s H vs Q E hr h => ?_)
  · obtain ⟨x, wd, a, rs, i, rfl, hB, hR, hl, qE, q⟩ := h
    rfl
  obtain ⟨x, wd, a, rs, i, rfl, hB, hR, hl, qE, q⟩ := h
  refine ⟨_, (pss_cons (ps_if (pt_not (pt_chain op_le op_lt pe_int (pv 1) (pe_callB (len_seqK (K := K) rfl) rfl z_len PySem.boot_len (pa_cons (pe_fld (pv 0) rfl) pa_nil)))) (pss_one (ps_raise R_OutOfPlace (pe_makeX0 M_OutOfPlace rfl m_OutOfPlace))) pss_nil)
      (pss_one (ps_expr (pe_bmK (K := K) rfl PySem.F.plainAttrs_list PySem.F.slot_list_pop PySem.F.type_list_pop mt_popAt (pe_fld (pv 0) rfl) (pa_cons (pv 1) pa_nil))))), ?_⟩
  obtain ⟨dx, hx⟩ := hB.ins
  rw [due1] at qE q
  refine ⟨_, rfl, _, _, rfl, rfl, _, rfl, ?_⟩
  by_cases hf : 0 ≤ i ∧ i < (rs.length : Int)
  · rw [if_pos hf] at q
    obtain ⟨m, rfl⟩ : ∃ m : Nat, i = (m : Int) := ⟨i.toNat, by omega⟩
    have hi : m < rs.length := by omega
    rw [decide_eq_true hf.1, if_pos rfl]
    refine ⟨_, rfl, x, C_Book, dx, _, _, rfl, hx, T_Book.cl, T_Book.n_known, rfl, a, _, rfl, .inl (SqL.of hB.kn), _, _, rfl, rfl, _, rfl, ?_⟩
    rw [List.length_map, decide_eq_true hf.2]
    have e : (rs.map nv)[m]? = some (nv rs[m]) := by rw [List.getElem?_map, List.getElem?_eq_getElem hi]; rfl
    refine iteF ⟨_, rfl, x, C_Book, dx, _, _, rfl, hx, T_Book.cl, T_Book.n_known, rfl, .inl ⟨rfl, _, SqL.of hB.kn⟩, _, rfl, a, _, (m : Int), m, _, rfl, rfl, hB.kn, by omega, by omega, by rw [List.length_map]; exact seqIx_nat hi, e, ?_⟩
    have nxa : x ≠ a := ne_of hx hB.kn (by intro z; cases z)
    have k2 : Kept [a] H (upd H a (.lst ((rs.map nv).eraseIdx m))) := Kept.refl.upd (by simp)
    refine q m rfl rfl _ a (.inl rfl) ⟨⟨dx, k2 _ _ (nm1 nxa) hx⟩, ?_, hB.wd10⟩ (k2.sub (by simp))
    rw [upd_same]
    congr 2
    exact (erase_map nv rs m).symm
  · rw [if_neg hf] at qE
    by_cases h0 : (0 : Int) ≤ i
    · rw [decide_eq_true h0, if_pos rfl]
      refine ⟨_, rfl, x, C_Book, dx, _, _, rfl, hx, T_Book.cl, T_Book.n_known, rfl, a, _, rfl, .inl (SqL.of hB.kn), _, _, rfl, rfl, _, rfl, ?_⟩
      rw [List.length_map, decide_eq_false (fun z => hf ⟨h0, z⟩)]
      exact iteT fun e he => ⟨e, none, rfl, upd_same, fun T hT hTe => qE 2 _ rfl rfl e _ he (same_raise he hT) (cgt_new hTe (by decide))⟩
    · rw [decide_eq_false h0, if_neg Bool.false_ne_true]
      exact ⟨_, rfl, iteT fun e he => ⟨e, none, rfl, upd_same, fun T hT hTe => qE 2 _ rfl rfl e _ he (same_raise he hT) (cgt_new hTe (by decide))⟩⟩
seal PA PE PS PSs in
theorem ok_Book_put_column {C_Book : Addr} (T_Book : Txt_Book K C_Book)
    {f_Book_put_column : Addr} {fd_Book_put_column : FuncData} (F_Book_put_column : Fun K "put_column" "Book.put_column" s_Book_put_column f_Book_put_column fd_Book_put_column)
    (XC : XCls K C_TooLarge) (xo : excOver K C_TooLarge = true) (xn : NoAttr K C_TooLarge "line")
    {f_TooLarge_init : Addr} {fd_TooLarge_init : FuncData} (G_TooLarge_init : FnOk P w K mg base CX0 1 f_TooLarge_init fd_TooLarge_init ["self", "line"] (spInitX K "line")) (b_TooLarge_init : Binds K fd_TooLarge_init ["self", "line"] [])
    {f_fits : Addr} {fd_fits : FuncData} (G_fits : FnOk P w K mg base CX0 1 f_fits fd_fits ["number", "many"] (spFits)) (b_fits : Binds K fd_fits ["number", "many"] []) (k_fits : PySem.W.keepIn K (.ref f_fits) = true) (m_fits : mg "fits" = some (.ref f_fits))
    {f_with_column : Addr} {fd_with_column : FuncData} (G_with_column : FnOk P w K mg base CX0 1 f_with_column fd_with_column ["row", "width", "has"] (spWithC)) (b_with_column : Binds K fd_with_column ["row", "width", "has"] []) (k_with_column : PySem.W.keepIn K (.ref f_with_column) = true) (m_with_column : mg "with_column" = some (.ref f_with_column))
    (m_TooLarge : mg "TooLarge" = some (.ref C_TooLarge))
    (m_BadSet : mg "BadSet" = some (.ref C_BadSet))
    (M_TooLarge : XMk K C_TooLarge f_TooLarge_init)
    (M_BadSet : XMk0 K C_BadSet)
    (R_TooLarge : XRs K C_TooLarge)
    (R_BadSet : XRs K C_BadSet)
    {tk_MOST_COLUMNS : Tok} (c_MOST_COLUMNS : mg "MOST_COLUMNS" = some (.int 10 tk_MOST_COLUMNS))
    (z_len : mg "len" = none)
    (z_enumerate : mg "enumerate" = none) :
    FnOk P w K mg base (CXE P w) 3 f_Book_put_column fd_Book_put_column ["self", "group"] (spDeed C_Book [C_TooLarge, C_BadSet, C_OutOfPlace] 2) := by
  refine F_Book_put_column.okE sc_Book_put_column (fun vs H Q E h => ?_) (fun cdv A outer s H vs Q E hr h => ?_)
  · obtain ⟨x, wd, a, rs, i, rfl, hB, hR, hl, qE, q⟩ := h
    rfl
  obtain ⟨x, wd, a, rs, i, rfl, hB, hR, hl, qE, q⟩ := h
  refine ⟨_, (pss_cons (ps_if (pt_cmpR op_ge (pe_fld (pv 0) rfl) (pe_glob (v := .int 10) rfl c_MOST_COLUMNS ⟨_, rfl⟩) (nomark _)) (pss_one (ps_raise R_TooLarge (pe_makeX M_TooLarge G_TooLarge_init (hr.mono (by decide)) rfl m_TooLarge b_TooLarge_init pass0 (pa_cons pe_int pa_nil)))) pss_nil)
      (pss_cons (ps_if (pt_not (pt_val (pe_call G_fits (hr.mono (by decide)) rfl m_fits k_fits b_fits .nil pass0 (pa_cons (pv 1) (pa_cons (pe_callB (len_seqK (K := K) rfl) rfl z_len PySem.boot_len (pa_cons (pe_fld (pv 0) rfl) pa_nil)) pa_nil))))) (pss_one (ps_raise R_BadSet (pe_makeX0 M_BadSet rfl m_BadSet))) pss_nil)
      (pss_cons (ps_fld (pv 0) (pe_comp (own := ["thing", "row"]) rfl (pi_enumK (K := K) rfl rfl z_enumerate (pa_cons (pe_fld (pv 0) rfl) pa_nil)) (fun _ _ _ _ _ => (pg_tupK (K := K) (n := 2) rfl rfl (pgs_cons (pg_name (i := 0) nd_Book_put_column_2 rfl (Or.inl rfl)) (pgs_cons (pg_name (i := 1) nd_Book_put_column_2 rfl (Or.inl rfl)) pgs_nil)))) (fun _ _ _ _ _ => pif_nil) (fun _ _ _ _ _ => (pe_call G_with_column (hr.mono (by decide)) rfl m_with_column k_with_column b_with_column .nil pass0 (pa_cons (pv 1) (pa_cons (pe_fldK (K := K) rfl (pv 2) rfl) (pa_cons (pe_op op_and (pe_op op_shr (pv 3) (pv 0)) pe_int) pa_nil)))))) rfl)
      (pss_one (ps_fld (pv 0) (pe_op op_add (pe_fld (pv 0) rfl) pe_int) rfl))))), ?_⟩
  obtain ⟨dx, hx⟩ := hB.ins
  rw [due2] at qE q
  refine ⟨_, rfl, x, C_Book, dx, _, _, rfl, hx, T_Book.cl, T_Book.n_breadth, rfl, _, _, rfl, rfl, _, rfl, ?_⟩
  by_cases c10 : 10 ≤ wd
  · rw [decide_eq_true (show (10 : Int) ≤ (wd : Int) from by omega)]
    rw [if_pos c10] at qE
    exact iteT ⟨(by show 1 ≤ sizeLine; decide), large_up XC xo xn fun e H' he g hc => qE 0 _ rfl rfl e H' he g hc⟩
  rw [decide_eq_false (show ¬ (10 : Int) ≤ (wd : Int) from by omega)]
  rw [if_neg c10] at qE q
  refine iteF ⟨_, rfl, _, rfl, x, C_Book, dx, _, _, rfl, hx, T_Book.cl, T_Book.n_known, rfl, a, _, rfl, .inl (SqL.of hB.kn), i, rs.length, (by rw [List.length_map]; rfl), by omega, _, rfl, ?_⟩
  by_cases hf : 0 ≤ i ∧ i < ((2 ^ rs.length : Nat) : Int)
  case neg =>
    rw [decide_eq_false hf]
    rw [if_neg hf] at qE
    exact iteT fun e he => ⟨e, none, rfl, upd_same, fun T hT hTe => qE 1 _ rfl rfl e _ he (same_raise he hT) (cgt_new hTe (by decide))⟩
  rw [decide_eq_true hf]
  rw [if_pos hf] at q
  obtain ⟨g, rfl⟩ : ∃ m : Nat, i = (m : Int) := ⟨i.toNat, by omega⟩
  refine iteF ⟨_, rfl, x, C_Book, dx, _, _, rfl, hx, T_Book.cl, T_Book.n_known, rfl, a, rfl, ⟨_, SqL.of hB.kn⟩, ?_⟩
  refine comp_enum (K := K) (a := a) (xs := rs.map nv) (fun i ys H2 => ys = ((List.range i).map fun i => rs.getD i 0 + (g / 2 ^ i % 2) * 2 ^ wd).map nv ∧ Same H H2) (by rw [List.length_map]; exact line1000 (by omega)) ⟨rfl, Same.refl _⟩ (fun i ys H2 hi h => ?_) (fun i ys H2 hi h => SqL.of (h.2 _ _ hB.kn)) (fun i z ys H2 t hi h ht => ?_) (fun ys H2 h => ?_)
  · rw [h.1, List.length_map, List.length_map, List.length_range]; exact Nat.le_refl _
  · obtain ⟨rfl, g2⟩ := h
    obtain ⟨hil, rfl⟩ := getI hi
    have g3 := same_one g2 ht (.tup [.int i, nv rs[i]])
    have e3 : (upd H2 t (.tup [.int i, nv rs[i]])) t = some (.tup [.int i, nv rs[i]]) := upd_same
    generalize upd H2 t (.tup [.int i, nv rs[i]]) = H3 at g3 e3
    refine ⟨t, _, rfl, SqT.of e3, rfl, _, _, rfl, _, _, rfl, rfl, rfl, _, rfl, _, rfl, x, C_Book, dx, _, _, rfl, g3 _ _ hx, T_Book.cl, T_Book.n_breadth, rfl, _, rfl, _, rfl, _, _, rfl, rfl, (by show (0 : Int) ≤ (i : Int); omega), _, _, rfl, rfl, ?_⟩
    try dsimp only
    rw [bit_nat]
    refine ⟨rs[i], wd, g / 2 ^ i % 2, rfl, hR _ (List.getElem_mem hil), by omega, by omega, ?_, g3⟩
    rw [List.range_succ, List.map_append, List.map_append, List.map_singleton, List.map_singleton, getD_lt hil]
    rfl
  · obtain ⟨rfl, g2⟩ := h
    intro a' ha'
    rw [List.length_map]
    have oa : H a' = none := g2.free ha'
    have nax : a' ≠ x := fun e => by rw [e, hx] at oa; cases oa
    have hx3 : (upd H2 a' (.lst ((withC rs wd g).map nv))) x = some (.ins C_Book dx (bookF wd a)) := by rw [upd_ne (Ne.symm nax)]; exact g2 _ _ hx
    refine ⟨_, rfl, x, C_Book, dx, _, rfl, hx3, T_Book.cl, T_Book.n_known, (show 2 < 1000 by decide), ?_⟩
    have hx4 : (upd (upd H2 a' (.lst ((withC rs wd g).map nv))) x (.ins C_Book dx (putF "known" (.ref a') (bookF wd a)))) x = some (.ins C_Book dx (bookF wd a')) := upd_same
    refine ⟨_, rfl, x, C_Book, dx, _, _, rfl, hx4, T_Book.cl, T_Book.n_breadth, rfl, _, _, rfl, rfl, _, rfl, x, C_Book, dx, _, rfl, hx4, T_Book.cl, T_Book.n_breadth, (show 2 < 1000 by decide), ?_⟩
    refine q g rfl rfl _ a' (.inr oa) ⟨⟨dx, upd_same⟩, ?_, (show wd + 1 ≤ 10 by omega)⟩ (((((Kept.of_same g2).new ha').upd (by simp)).upd (by simp)))
    rw [upd_ne nax, upd_ne nax]; exact upd_same
seal PA PE PS PSs in
theorem ok_Book_take_column {C_Book : Addr} (T_Book : Txt_Book K C_Book)
    {f_Book_take_column : Addr} {fd_Book_take_column : FuncData} (F_Book_take_column : Fun K "take_column" "Book.take_column" s_Book_take_column f_Book_take_column fd_Book_take_column)
    {f_without_column : Addr} {fd_without_column : FuncData} (G_without_column : FnOk P w K mg base CX0 1 f_without_column fd_without_column ["row", "place"] (spLessC)) (b_without_column : Binds K fd_without_column ["row", "place"] []) (k_without_column : PySem.W.keepIn K (.ref f_without_column) = true) (m_without_column : mg "without_column" = some (.ref f_without_column))
    (m_OutOfPlace : mg "OutOfPlace" = some (.ref C_OutOfPlace))
    (M_OutOfPlace : XMk0 K C_OutOfPlace)
    (R_OutOfPlace : XRs K C_OutOfPlace) :
    FnOk P w K mg base (CXE P w) 2 f_Book_take_column fd_Book_take_column ["self", "place"] (spDeed C_Book [C_TooLarge, C_BadSet, C_OutOfPlace] 3) := by
  refine F_Book_take_column.okE sc_Book_take_column (fun vs H Q E h => ?_) (fun cdv A outer s H vs Q E hr h => ?_)
  · obtain ⟨x, wd, a, rs, i, rfl, hB, hR, hl, qE, q⟩ := h
    rfl
  obtain ⟨x, wd, a, rs, i, rfl, hB, hR, hl, qE, q⟩ := h
  refine ⟨_, (pss_cons (ps_if (pt_not (pt_chain op_le op_lt pe_int (pv 1) (pe_fld (pv 0) rfl))) (pss_one (ps_raise R_OutOfPlace (pe_makeX0 M_OutOfPlace rfl m_OutOfPlace))) pss_nil)
      (pss_cons (ps_fld (pv 0) (pe_comp (own := ["row"]) rfl (pi_listK (K := K) rfl (pe_fld (pv 0) rfl)) (fun _ _ _ _ _ => (pg_name (i := 0) nd_Book_take_column_3 rfl (Or.inl rfl))) (fun _ _ _ _ _ => pif_nil) (fun _ _ _ _ _ => (pe_call G_without_column (hr.mono (by decide)) rfl m_without_column k_without_column b_without_column .nil pass0 (pa_cons (pv 0) (pa_cons (pv 2) pa_nil))))) rfl)
      (pss_one (ps_fld (pv 0) (pe_op op_sub (pe_fld (pv 0) rfl) pe_int) rfl)))), ?_⟩
  obtain ⟨dx, hx⟩ := hB.ins
  have hw := hB.wd10
  rw [due3] at qE q
  refine ⟨_, rfl, _, _, rfl, rfl, _, rfl, ?_⟩
  by_cases hf : 0 ≤ i ∧ i < (wd : Int)
  case neg =>
    rw [if_neg hf] at qE
    by_cases h0 : (0 : Int) ≤ i
    · rw [decide_eq_true h0, if_pos rfl]
      refine ⟨_, rfl, x, C_Book, dx, _, _, rfl, hx, T_Book.cl, T_Book.n_breadth, rfl, _, _, rfl, rfl, _, rfl, ?_⟩
      rw [decide_eq_false (fun z => hf ⟨h0, z⟩)]
      exact iteT fun e he => ⟨e, none, rfl, upd_same, fun T hT hTe => qE 2 _ rfl rfl e _ he (same_raise he hT) (cgt_new hTe (by decide))⟩
    · rw [decide_eq_false h0, if_neg Bool.false_ne_true]
      exact ⟨_, rfl, iteT fun e he => ⟨e, none, rfl, upd_same, fun T hT hTe => qE 2 _ rfl rfl e _ he (same_raise he hT) (cgt_new hTe (by decide))⟩⟩
  rw [if_pos hf] at q
  obtain ⟨p, rfl⟩ : ∃ m : Nat, i = (m : Int) := ⟨i.toNat, by omega⟩
  have hp : p < wd := by omega
  rw [decide_eq_true hf.1, if_pos rfl]
  refine ⟨_, rfl, x, C_Book, dx, _, _, rfl, hx, T_Book.cl, T_Book.n_breadth, rfl, _, _, rfl, rfl, _, rfl, ?_⟩
  rw [decide_eq_true hf.2]
  refine iteF ⟨_, rfl, x, C_Book, dx, _, _, rfl, hx, T_Book.cl, T_Book.n_known, rfl, a, rfl, ⟨_, SqL.of hB.kn⟩, ?_⟩
  refine comp_list (K := K) (a := a) (xs := rs.map nv) (fun i ys H2 => ys = ((rs.take i).map fun r => lessC r p).map nv ∧ H = H2) (by rw [List.length_map]; exact line1000 (by omega)) ⟨rfl, rfl⟩ (fun i ys H2 hi h => ?_) (fun i ys H2 hi h => by rw [← h.2]; exact SqL.of hB.kn) (fun i z ys H2 hi h => ?_) (fun ys H2 h => ?_)
  · rw [h.1, List.length_map, List.length_map, List.length_take]; omega
  · obtain ⟨rfl, rfl⟩ := h
    obtain ⟨hil, rfl⟩ := getI hi
    have hr10 : rs[i] < 2 ^ 10 := Nat.lt_of_lt_of_le (hR _ (List.getElem_mem hil)) (Nat.pow_le_pow_right (by decide) hw)
    refine ⟨rfl, _, rfl, _, rfl, rs[i], p, rfl, hr10, by omega, ?_, rfl⟩
    rw [← List.take_append_getElem hil, List.map_append, List.map_append]
    rfl
  · obtain ⟨rfl, rfl⟩ := h
    intro a' oa
    rw [List.length_map, List.take_length]
    have nax : a' ≠ x := fun e => by rw [e, hx] at oa; cases oa
    have hx3 : (upd H a' (.lst ((rs.map fun r => lessC r p).map nv))) x = some (.ins C_Book dx (bookF wd a)) := by rw [upd_ne (Ne.symm nax)]; exact hx
    refine ⟨_, rfl, x, C_Book, dx, _, rfl, hx3, T_Book.cl, T_Book.n_known, (show 2 < 1000 by decide), ?_⟩
    have hx4 : (upd (upd H a' (.lst ((rs.map fun r => lessC r p).map nv))) x (.ins C_Book dx (putF "known" (.ref a') (bookF wd a)))) x = some (.ins C_Book dx (bookF wd a')) := upd_same
    refine ⟨_, rfl, x, C_Book, dx, _, _, rfl, hx4, T_Book.cl, T_Book.n_breadth, rfl, _, _, rfl, rfl, _, rfl, x, C_Book, dx, _, rfl, hx4, T_Book.cl, T_Book.n_breadth, (show 2 < 1000 by decide), ?_⟩
    refine q p rfl rfl _ a' (.inr oa) ⟨⟨dx, ?_⟩, ?_, (show wd - 1 ≤ 10 by omega)⟩ (((Kept.refl.new oa).upd (by simp)).upd (by simp))
    · rw [upd_same]
      show some (HO.ins C_Book dx [("breadth", .int ((wd : Int) - 1)), ("known", .ref a')]) = some (HO.ins C_Book dx [("breadth", .int ((wd - 1 : Nat) : Int)), ("known", .ref a')])
      rw [show ((wd : Int) - 1) = ((wd - 1 : Nat) : Int) from by omega]
    · rw [upd_ne nax, upd_ne nax]; exact upd_same
seal PA PE PS PSs in
theorem ok_law_cell_at {f_law_cell_at : Addr} {fd_law_cell_at : FuncData} (F_law_cell_at : Fun K "_law_cell_at" "_law_cell_at" s_law_cell_at f_law_cell_at fd_law_cell_at)
    (z_len : mg "len" = none) :
    FnOk P w K mg base CX0 1 f_law_cell_at fd_law_cell_at ["_law_script", "_law_k"] (spCell K) := by
  refine F_law_cell_at.ok sc_law_cell_at (fun vs H Q E h => ?_) (fun cdv A outer s H vs Q E hr h => ?_)
  · obtain ⟨a, ns, k, rfl, hS, q⟩ := h
    rfl
  obtain ⟨a, ns, k, rfl, hS, q⟩ := h
  refine ⟨_, (pss_cons (ps_if (pt_cmpR op_lt (pv 1) (pe_callB (len_seqK (K := K) rfl) rfl z_len PySem.boot_len (pa_cons (pv 0) pa_nil)) (nomark _)) (pss_one (ps_ret (pe_ix (ix_listK (K := K) rfl) (pv 0) (pv 1) (by intro _ _; rfl)))) pss_nil)
      (pss_one (ps_ret pe_int))), ?_⟩
  refine ⟨_, rfl, _, rfl, a, _, rfl, .inl hS, _, _, rfl, rfl, _, rfl, ?_⟩
  rw [List.length_map]
  refine ite2 (fun c => ?_) (fun c => ?_)
  · have c' : (k : Int) < (ns.length : Int) := of_decide_eq_true c
    have hk : k < ns.length := by omega
    refine ⟨_, rfl, _, rfl, a, _, _, _, rfl, rfl, hS, atI_map hk, ?_⟩
    rw [getD_lt hk] at q
    exact q
  · have c' : ¬ (k : Int) < (ns.length : Int) := of_decide_eq_false (Bool.eq_false_iff.mpr c)
    rw [getD_ge (by omega)] at q
    exact q
seal PA PE PS PSs in
theorem ok_law_whole {f_law_whole : Addr} {fd_law_whole : FuncData} (F_law_whole : Fun K "_law_whole" "_law_whole" s_law_whole f_law_whole fd_law_whole)
    (z_isinstance : mg "isinstance" = none)
    (z_bool : mg "bool" = none)
    (z_int : mg "int" = none) :
    FnOk P w K mg base CX0 1 f_law_whole fd_law_whole ["_law_found"] (spWhole) := by
  refine F_law_whole.ok sc_law_whole (fun vs H Q E h => ?_) (fun cdv A outer s H vs Q E hr h => ?_)
  · obtain ⟨i, rfl, q⟩ := h
    rfl
  obtain ⟨i, rfl, q⟩ := h
  refine ⟨_, (pss_one (ps_ret (pe_and (pe_callB (isiK (K := K) rfl) rfl z_isinstance b_isinstance (pa_cons (pv 0) (pa_cons (pe_ty rfl z_int b_int) pa_nil))) (pe_one (pe_not (pe_callB (isiK (K := K) rfl) rfl z_isinstance b_isinstance (pa_cons (pv 0) (pa_cons (pe_ty rfl z_bool b_bool) pa_nil)))))))), ?_⟩
  refine ⟨_, rfl, _, _, _, _, _, rfl, rfl, TyOf.int i, rfl, _, rfl, ?_⟩
  refine ⟨_, rfl, _, _, _, _, _, rfl, rfl, TyOf.int i, rfl, _, rfl, ?_⟩
  exact q
inductive IspLPair (vs : List V) (H : Hp) (Q : VK) (E : XK) : Prop where
  | mk (t : Addr) (x y : Nat) (hh0 : vs = [.ref t]) (hh1 : H t = some (.tup [nv x, nv y])) (hh2 : Q (.bl true) H) : IspLPair vs H Q E
noncomputable def spLPair : Sp := fun vs H Q E => IspLPair vs H Q E
seal PA PE PS PSs in
theorem ok_law_pair {f_law_pair : Addr} {fd_law_pair : FuncData} (F_law_pair : Fun K "_law_pair" "_law_pair" s_law_pair f_law_pair fd_law_pair)
    {f_law_whole : Addr} {fd_law_whole : FuncData} (G_law_whole : FnOk P w K mg base CX0 1 f_law_whole fd_law_whole ["_law_found"] (spWhole)) (b_law_whole : Binds K fd_law_whole ["_law_found"] []) (k_law_whole : PySem.W.keepIn K (.ref f_law_whole) = true) (m_law_whole : mg "_law_whole" = some (.ref f_law_whole))
    (z_len : mg "len" = none)
    (z_isinstance : mg "isinstance" = none)
    (z_tuple : mg "tuple" = none) :
    FnOk P w K mg base CX0 2 f_law_pair fd_law_pair ["_law_found"] (spLPair) := by
  refine F_law_pair.ok sc_law_pair (fun vs H Q E h => ?_) (fun cdv A outer s H vs Q E hr h => ?_)
  · obtain ⟨t, x, y, rfl, hT, q⟩ := h
    rfl
  obtain ⟨t, x, y, rfl, hT, q⟩ := h
  refine ⟨_, (pss_cons (ps_if (PW.pt (pw_or (pt_not (pt_val (pe_callB (isiK (K := K) rfl) rfl z_isinstance b_isinstance (pa_cons (pv 0) (pa_cons (pe_ty rfl z_tuple b_tuple) pa_nil))))) (pw_or1 (pt_cmpR op_ne (pe_callB (len_seqK (K := K) rfl) rfl z_len PySem.boot_len (pa_cons (pv 0) pa_nil)) pe_int (nomark _))))) (pss_one (ps_ret pe_bl)) pss_nil)
      (pss_one (ps_ret (pe_and (pe_call G_law_whole (hr.mono (by decide)) rfl m_law_whole k_law_whole b_law_whole .nil pass0 (pa_cons (pe_ix (ix_tupK (K := K) rfl) (pv 0) pe_int (by intro _ _; rfl)) pa_nil)) (pe_one (pe_call G_law_whole (hr.mono (by decide)) rfl m_law_whole k_law_whole b_law_whole .nil pass0 (pa_cons (pe_ix (ix_tupK (K := K) rfl) (pv 0) pe_int (by intro _ _; rfl)) pa_nil))))))), ?_⟩
  refine ⟨_, rfl, _, _, _, _, _, rfl, rfl, TyOf.tup hT, rfl, _, rfl, iteF ?_⟩
  refine ⟨_, rfl, t, _, rfl, .inr (SqT.of hT), rfl, _, rfl, iteNS rfl ?_⟩
  refine ⟨_, rfl, t, _, _, _, rfl, rfl, SqT.of hT, tup0 _ _, _, rfl, _, rfl, ?_⟩
  exact ⟨_, rfl, t, _, _, _, rfl, rfl, SqT.of hT, tup1 _ _, _, rfl, q⟩
inductive IspLHaving (K : PySem.W.Frag) (vs : List V) (H : Hp) (Q : VK) (E : XK) : Prop where
  | mk (a : Addr) (rs : List Nat) (m : Nat) (hh0 : vs = [.ref a, .int m]) (hh1 : SqL K H a (rs.map nv)) (hh2 : rs.length ≤ 100) (hh3 : ∀ H', Same H H' → Q (nv (maskN (havingL rs m))) H') : IspLHaving K vs H Q E
noncomputable def spLHaving (K : PySem.W.Frag) : Sp := fun vs H Q E => IspLHaving K vs H Q E
theorem maskN_snoc {ks : List Nat} {i : Nat} (h : i ∉ ks) : maskN (ks ++ [i]) = maskN ks + 2 ^ i := by
  rw [add_disj (maskN ks) (2 ^ i)]
  · apply Nat.eq_of_testBit_eq
    intro j
    rw [maskN_bit, Nat.testBit_or, maskN_bit, Nat.testBit_two_pow, Bool.eq_iff_iff]
    simp only [List.mem_append, List.mem_singleton, Bool.or_eq_true, decide_eq_true_eq]
    exact or_congr_right eq_comm
  · rintro j ⟨h1, h2⟩
    rw [maskN_bit, decide_eq_true_eq] at h1
    rw [Nat.testBit_two_pow, decide_eq_true_eq] at h2
    exact h (h2 ▸ h1)
seal PA PE PS PSs in
theorem ok_law_having {f_law_having : Addr} {fd_law_having : FuncData} (F_law_having : Fun K "_law_having" "_law_having" s_law_having f_law_having fd_law_having)
    (z_enumerate : mg "enumerate" = none) :
    FnOk P w K mg base CX0 1 f_law_having fd_law_having ["_law_rows", "_law_mask"] (spLHaving K) := by
  refine F_law_having.ok sc_law_having (fun vs H Q E h => ?_) (fun cdv A outer s H vs Q E hr h => ?_)
  · obtain ⟨a, rs, m, rfl, hA, hl, q⟩ := h
    rfl
  obtain ⟨a, rs, m, rfl, hA, hl, q⟩ := h
  refine ⟨_, (pss_cons (ps_set (i := 2) sc_law_having.nd rfl (Or.inl rfl) pe_int)
      (pss_cons (ps_for PassesOwn.never rfl (pi_enumK (K := K) rfl rfl z_enumerate (pa_cons (pv 0) pa_nil)) (pg_tupK (K := K) (n := 2) rfl rfl (pgs_cons (pg_name (i := 3) sc_law_having.nd rfl (Or.inl rfl)) (pgs_cons (pg_name (i := 4) sc_law_having.nd rfl (Or.inl rfl)) pgs_nil))) (pss_one (ps_if (pt_cmpR op_eq (pe_op op_and (pv 4) (pv 1)) (pv 1) (nomark _)) (pss_one (ps_set (i := 2) sc_law_having.nd rfl (Or.inl rfl) (pe_op op_add (pv 2) (pe_op op_shl pe_int (pv 3))))) pss_nil)))
      (pss_one (ps_ret (pv 2))))), ?_⟩
  refine ⟨_, rfl, a, rfl, ⟨_, hA⟩, for_enum (K := K) (a := a) (xs := rs.map nv) (fun i σ H2 => ∃ v1 v2, σ = [some (.ref a), some (.int m), some (.int (maskN ((List.range i).filter fun j => decide (m &&& rs.getD j 0 = m)) : Nat)), v1, v2] ∧ Same H H2) ⟨_, _, rfl, Same.refl _⟩ (fun i σ H2 _ ⟨_, _, _, g⟩ => g.seq hA) ?_ ?_⟩
  · rintro i z σ H2 t hi ⟨v1, v2, rfl, g⟩ ht
    obtain ⟨hil, rfl⟩ := getI hi
    have g3 := same_one g ht (.tup [.int i, nv rs[i]])
    refine ⟨t, _, rfl, SqT.of upd_same, rfl, _, _, rfl, _, _, rfl, rfl, _, rfl, _, rfl, _, _, rfl, rfl, _, rfl, rfl, _, rfl, ?_⟩
    show if decide (V.int (Builtin.bitAnd ((rs[i] : Nat) : Int) (m : Int)) = V.int (m : Int)) = true then _ else _
    rw [and_dec, Nat.and_comm]
    by_cases hc : m &&& rs[i] = m
    · rw [decide_eq_true hc]
      refine iteT ⟨_, rfl, _, rfl, _, _, rfl, rfl, cpow i (by omega), _, _, rfl, rfl, ?_⟩
      refine ⟨some (.int (i : Int)), some (nv rs[i]), ?_, g3⟩
      rw [List.range_succ, List.filter_append, List.filter_cons_of_pos (by rw [getD_lt hil]; exact decide_eq_true hc), List.filter_nil, maskN_snoc (by simp)]
      show [_, _, some (V.int (_ + (1 * 2 ^ (i : Int).toNat))), _, _] = _
      rw [pow_one, ← Int.natCast_add]
    · rw [decide_eq_false hc]
      refine iteF ⟨some (.int (i : Int)), some (nv rs[i]), ?_, g3⟩
      rw [List.range_succ, List.filter_append, List.filter_cons_of_neg (by rw [getD_lt hil, decide_eq_false hc]; decide), List.filter_nil, List.append_nil]
      rfl
  · rintro σ H2 ⟨v1, v2, rfl, g⟩
    rw [List.length_map]
    exact ⟨_, rfl, q _ g⟩
inductive IspLShared (K : PySem.W.Frag) (vs : List V) (H : Hp) (Q : VK) (E : XK) : Prop where
  | mk (a : Addr) (rs : List Nat) (wd g : Nat) (hh0 : vs = [.ref a, .int wd, .int g]) (hh1 : SqL K H a (rs.map nv)) (hh2 : rs.length ≤ 100) (hh3 : wd ≤ 100) (hh4 : g < 2 ^ rs.length) (hh5 : ∀ H', Same H H' → Q (nv (sharedL rs wd (onesN g))) H') : IspLShared K vs H Q E
noncomputable def spLShared (K : PySem.W.Frag) : Sp := fun vs H Q E => IspLShared K vs H Q E
theorem shr_bit (m i : Nat) : decide (V.int (Builtin.bitAnd ((m : Int) / 2 ^ (i : Int).toNat) 1) = V.int 1) = m.testBit i := by
  have e1 : ((m : Int) / 2 ^ (i : Int).toNat) = ((m / 2 ^ i : Nat) : Int) := by simp
  have e2 : Builtin.bitAnd ((m / 2 ^ i : Nat) : Int) 1 = ((m / 2 ^ i % 2 : Nat) : Int) := by
    have := and_nat (m / 2 ^ i) 1
    rw [Nat.and_one_is_mod] at this
    exact this
  rw [e1, e2, Nat.testBit_eq_decide_div_mod_eq, dec_int, Bool.eq_iff_iff]
  simp only [beq_iff_eq, decide_eq_true_eq]
  omega
seal PA PE PS PSs in
theorem ok_law_shared {f_law_shared : Addr} {fd_law_shared : FuncData} (F_law_shared : Fun K "_law_shared" "_law_shared" s_law_shared f_law_shared fd_law_shared)
    (z_enumerate : mg "enumerate" = none) :
    FnOk P w K mg base CX0 1 f_law_shared fd_law_shared ["_law_rows", "_law_wide", "_law_group"] (spLShared K) := by
  refine F_law_shared.ok sc_law_shared (fun vs H Q E h => ?_) (fun cdv A outer s H vs Q E hr h => ?_)
  · obtain ⟨a, rs, wd, g, rfl, hA, hl, hw, hg, q⟩ := h
    rfl
  obtain ⟨a, rs, wd, g, rfl, hA, hl, hw, hg, q⟩ := h
  refine ⟨_, (pss_cons (ps_set (i := 3) sc_law_shared.nd rfl (Or.inl rfl) (pe_op op_sub (pe_op op_shl pe_int (pv 1)) pe_int))
      (pss_cons (ps_for PassesOwn.never rfl (pi_enumK (K := K) rfl rfl z_enumerate (pa_cons (pv 0) pa_nil)) (pg_tupK (K := K) (n := 2) rfl rfl (pgs_cons (pg_name (i := 4) sc_law_shared.nd rfl (Or.inl rfl)) (pgs_cons (pg_name (i := 5) sc_law_shared.nd rfl (Or.inl rfl)) pgs_nil))) (pss_one (ps_if (pt_cmpR op_eq (pe_op op_and (pe_op op_shr (pv 2) (pv 4)) pe_int) pe_int (nomark _)) (pss_one (ps_set (i := 3) sc_law_shared.nd rfl (Or.inl rfl) (pe_op op_and (pv 3) (pv 5)))) pss_nil)))
      (pss_one (ps_ret (pv 3))))), ?_⟩
  refine ⟨_, rfl, _, _, rfl, rfl, cpow wd (by omega), _, _, rfl, rfl, ?_⟩
  try dsimp only
  rw [full_nat]
  refine ⟨_, rfl, a, rfl, ⟨_, hA⟩, for_enum (K := K) (a := a) (xs := rs.map nv) (fun i σ H2 => ∃ v1 v2, σ = [some (.ref a), some (.int wd), some (.int g), some (.int (sharedL rs wd ((List.range i).filter (g.testBit ·)) : Nat)), v1, v2] ∧ Same H H2) ⟨_, _, rfl, Same.refl _⟩ (fun i σ H2 _ ⟨_, _, _, g⟩ => g.seq hA) ?_ ?_⟩
  · rintro i z σ H2 t hi ⟨v1, v2, rfl, gs⟩ ht
    obtain ⟨hil, rfl⟩ := getI hi
    have g3 := same_one gs ht (.tup [.int i, nv rs[i]])
    refine ⟨t, _, rfl, SqT.of upd_same, rfl, _, _, rfl, _, _, rfl, rfl, _, rfl, _, rfl, _, _, rfl, rfl, (by show (0 : Int) ≤ (i : Int); omega), _, _, rfl, rfl, rfl, _, rfl, ?_⟩
    show if decide (V.int (Builtin.bitAnd ((g : Int) / 2 ^ (i : Int).toNat) 1) = V.int 1) = true then _ else _
    rw [shr_bit, List.range_succ, List.filter_append]
    cases hb : g.testBit i with
    | true =>
      refine iteT ⟨_, rfl, _, rfl, _, _, rfl, rfl, some (.int (i : Int)), some (nv rs[i]), ?_, g3⟩
      rw [List.filter_cons_of_pos hb, List.filter_nil, shared_snoc, getD_lt hil]
      show [_, _, _, some (V.int (Builtin.bitAnd _ ((rs[i] : Nat) : Int))), _, _] = _
      rw [and_nat]
    | false =>
      refine iteF ⟨some (.int (i : Int)), some (nv rs[i]), ?_, g3⟩
      rw [List.filter_cons_of_neg (by rw [hb]; decide), List.filter_nil, List.append_nil]
      rfl
  · rintro σ H2 ⟨v1, v2, rfl, gs⟩
    refine ⟨_, rfl, ?_⟩
    rw [List.length_map, ← onesN_eq hg]
    exact q _ gs
inductive IspLPairs (K : PySem.W.Frag) (vs : List V) (H : Hp) (Q : VK) (E : XK) : Prop where
  | mk (p : Addr) (prs : List (Addr × Nat)) (k : Addr) (rs : List Nat) (wd : Nat) (hh0 : vs = [.ref p, .ref k, .int wd]) (hh1 : H p = some (.lst (prs.map fun q => V.ref q.1))) (hh2 : IsIdeas rs H prs) (hh3 : IsMasks rs wd (prs.map (·.2))) (hh4 : SqL K H k (rs.map nv)) (hh5 : rs.length ≤ 100) (hh6 : wd ≤ 10) (hh7 : ∀ H', Same H H' → Q (.bl true) H') : IspLPairs K vs H Q E
noncomputable def spLPairs (K : PySem.W.Frag) : Sp := fun vs H Q E => IspLPairs K vs H Q E
theorem IsIdeas.same {rs : List Nat} {H H' : Hp} {prs : List (Addr × Nat)} (h : IsIdeas rs H prs) (g : Same H H') : IsIdeas rs H' prs := fun q hq => g _ _ (h q hq)
seal PA PE PS PSs in
theorem ok_law_pairs {f_law_pairs : Addr} {fd_law_pairs : FuncData} (F_law_pairs : Fun K "_law_pairs" "_law_pairs" s_law_pairs f_law_pairs fd_law_pairs)
    {f_law_pair : Addr} {fd_law_pair : FuncData} (G_law_pair : FnOk P w K mg base CX0 2 f_law_pair fd_law_pair ["_law_found"] (spLPair)) (b_law_pair : Binds K fd_law_pair ["_law_found"] []) (k_law_pair : PySem.W.keepIn K (.ref f_law_pair) = true) (m_law_pair : mg "_law_pair" = some (.ref f_law_pair))
    {f_law_shared : Addr} {fd_law_shared : FuncData} (G_law_shared : FnOk P w K mg base CX0 1 f_law_shared fd_law_shared ["_law_rows", "_law_wide", "_law_group"] (spLShared K)) (b_law_shared : Binds K fd_law_shared ["_law_rows", "_law_wide", "_law_group"] []) (k_law_shared : PySem.W.keepIn K (.ref f_law_shared) = true) (m_law_shared : mg "_law_shared" = some (.ref f_law_shared))
    {f_law_having : Addr} {fd_law_having : FuncData} (G_law_having : FnOk P w K mg base CX0 1 f_law_having fd_law_having ["_law_rows", "_law_mask"] (spLHaving K)) (b_law_having : Binds K fd_law_having ["_law_rows", "_law_mask"] []) (k_law_having : PySem.W.keepIn K (.ref f_law_having) = true) (m_law_having : mg "_law_having" = some (.ref f_law_having))
    (z_isinstance : mg "isinstance" = none)
    (z_list : mg "list" = none) :
    FnOk P w K mg base CX0 3 f_law_pairs fd_law_pairs ["_law_found", "_law_rows", "_law_wide"] (spLPairs K) := by
  refine F_law_pairs.ok sc_law_pairs (fun vs H Q E h => ?_) (fun cdv A outer s H vs Q E hr h => ?_)
  · obtain ⟨p, prs, k, rs, wd, rfl, hp, hI, hM, hK, hl, hw, q⟩ := h
    rfl
  obtain ⟨p, prs, k, rs, wd, rfl, hp, hI, hM, hK, hl, hw, q⟩ := h
  refine ⟨_, (pss_cons (ps_if (pt_not (pt_val (pe_callB (isiK (K := K) rfl) rfl z_isinstance b_isinstance (pa_cons (pv 0) (pa_cons (pe_ty rfl z_list b_list) pa_nil))))) (pss_one (ps_ret pe_bl)) pss_nil)
      (pss_cons (ps_set (i := 3) sc_law_pairs.nd rfl (Or.inl rfl) (pe_un un_neg pe_int))
      (pss_cons (ps_for PassesOwn.never rfl (pi_listK (K := K) rfl (pv 0)) (pg_name (i := 4) sc_law_pairs.nd rfl (Or.inl rfl)) (pss_cons (ps_if (PW.pt (pw_or (pt_not (pt_val (pe_call G_law_pair (hr.mono (by decide)) rfl m_law_pair k_law_pair b_law_pair .nil pass0 (pa_cons (pv 4) pa_nil)))) (pw_or1 (pt_cmpR op_le (pe_ix (ix_tupK (K := K) rfl) (pv 4) pe_int (by intro _ _; rfl)) (pv 3) (nomark _))))) (pss_one (ps_ret pe_bl)) pss_nil)
      (pss_cons (ps_set (i := 3) sc_law_pairs.nd rfl (Or.inl rfl) (pe_ix (ix_tupK (K := K) rfl) (pv 4) pe_int (by intro _ _; rfl)))
      (pss_one (ps_if (PW.pt (pw_or (pt_cmpR op_ne (pe_ix (ix_tupK (K := K) rfl) (pv 4) pe_int (by intro _ _; rfl)) (pe_call G_law_having (hr.mono (by decide)) rfl m_law_having k_law_having b_law_having .nil pass0 (pa_cons (pv 1) (pa_cons (pe_ix (ix_tupK (K := K) rfl) (pv 4) pe_int (by intro _ _; rfl)) pa_nil))) (nomark _)) (pw_or1 (pt_cmpR op_ne (pe_ix (ix_tupK (K := K) rfl) (pv 4) pe_int (by intro _ _; rfl)) (pe_call G_law_shared (hr.mono (by decide)) rfl m_law_shared k_law_shared b_law_shared .nil pass0 (pa_cons (pv 1) (pa_cons (pv 2) (pa_cons (pe_ix (ix_tupK (K := K) rfl) (pv 4) pe_int (by intro _ _; rfl)) pa_nil)))) (nomark _))))) (pss_one (ps_ret pe_bl)) pss_nil)))))
      (pss_one (ps_ret pe_bl))))), ?_⟩
  refine ⟨_, rfl, _, _, _, _, _, rfl, rfl, TyOf.lst hp, rfl, _, rfl, iteF ?_⟩
  refine ⟨_, rfl, ?_⟩
  refine ⟨_, rfl, p, rfl, ⟨_, SqL.of hp⟩, for_list (K := K) (a := p) (xs := prs.map fun q => V.ref q.1) (fun i σ H5 => ∃ (v : Option V) (z : Int), σ = [some (.ref p), some (.ref k), some (.int wd), some (.int z), v] ∧ Same H H5 ∧ (∀ m : Nat, m ∈ (prs.map (fun q => q.2)).drop i → z < (m : Int))) ⟨_, -1, rfl, Same.refl _, fun m _ => by omega⟩ (fun i σ H5 _ ⟨_, _, _, g, _⟩ => SqL.of (g _ _ hp)) ?_ ?_⟩
  · rintro i y σ H5 hi ⟨v, z, rfl, g5, hz⟩
    obtain ⟨hil, rfl⟩ := getI hi
    have hil2 : i < (prs.map (·.2)).length := by rw [List.length_map]; exact hil
    have hT := g5 _ _ (hI _ (List.getElem_mem hil))
    have em : (prs.map (·.2))[i] = prs[i].2 := List.getElem_map ..
    have hmm : prs[i].2 ∈ prs.map (·.2) := List.mem_map.mpr ⟨_, List.getElem_mem hil, rfl⟩
    obtain ⟨hc, hm⟩ := mem_masks_closed hM.2.1 hmm
    have ed : (prs.map (·.2)).drop i = prs[i].2 :: (prs.map (·.2)).drop (i + 1) := by rw [← em]; exact List.drop_eq_getElem_cons hil2
    have hlt := hz prs[i].2 (by rw [ed]; exact List.mem_cons_self)
    have hg : maskN (havingL rs prs[i].2) < 2 ^ rs.length := maskN_lt fun k hk => (mem_having.mp hk).1
    refine ⟨_, rfl, prs[i].1, _, _, rfl, hT, _, rfl, iteF ?_⟩
    refine ⟨_, rfl, prs[i].1, _, _, _, rfl, rfl, SqT.of hT, tup1 _ _, _, rfl, _, _, rfl, rfl, _, rfl, ite2 (fun c => absurd (of_decide_eq_true c) (by omega)) (fun _ => ?_)⟩
    refine ⟨_, rfl, prs[i].1, _, _, _, rfl, rfl, SqT.of hT, tup1 _ _, ?_⟩
    refine ⟨_, rfl, prs[i].1, _, _, _, rfl, rfl, SqT.of hT, tup0 _ _, _, rfl, _, rfl, prs[i].1, _, _, _, rfl, rfl, SqT.of hT, tup1 _ _, k, rs, prs[i].2, rfl, g5.seq hK, hl, fun H6 g6 => ⟨rfl, _, rfl, iteNS rfl ?_⟩⟩
    have hT6 := g6 _ _ hT
    refine ⟨_, rfl, prs[i].1, _, _, _, rfl, rfl, SqT.of hT6, tup1 _ _, _, rfl, _, rfl, _, rfl, prs[i].1, _, _, _, rfl, rfl, SqT.of hT6, tup0 _ _, k, rs, wd, maskN (havingL rs prs[i].2), rfl, (g5.trans g6).seq hK, hl, by omega, hg, fun H7 g7 => ⟨rfl, _, rfl, iteNS ?_ ⟨_, ((prs[i].2 : Nat) : Int), rfl, (g5.trans g6).trans g7, fun m hm' => ?_⟩⟩⟩
    · have hc : sharedL rs wd (onesN (maskN (havingL rs prs[i].2))) = prs[i].2 := hc
      rw [hc]
    · have hpw := List.Pairwise.sublist (List.drop_sublist i _) hM.1
      rw [ed] at hpw
      have := (List.pairwise_cons.mp hpw).1 m hm'
      omega
  · rintro σ H5 ⟨v, z, rfl, g5, _⟩
    exact q _ g5
inductive IspLCuts (K : PySem.W.Frag) (vs : List V) (H : Hp) (Q : VK) (E : XK) : Prop where
  | mk (p : Addr) (prs : List (Addr × Nat)) (k : Addr) (rs : List Nat) (wd : Nat) (hh0 : vs = [.ref p, .ref k, .int wd]) (hh1 : H p = some (.lst (prs.map fun q => V.ref q.1))) (hh2 : IsIdeas rs H prs) (hh3 : IsMasks rs wd (prs.map (·.2))) (hh4 : SqL K H k (rs.map nv)) (hh5 : rs.length ≤ 100) (hh6 : wd ≤ 10) (hh7 : ∀ H', Same H H' → Q (.bl true) H') : IspLCuts K vs H Q E
noncomputable def spLCuts (K : PySem.W.Frag) : Sp := fun vs H Q E => IspLCuts K vs H Q E
seal PA PE PS PSs in
theorem ok_law_cuts {f_law_cuts : Addr} {fd_law_cuts : FuncData} (F_law_cuts : Fun K "_law_cuts" "_law_cuts" s_law_cuts f_law_cuts fd_law_cuts) :
    FnOk P w K mg base CX0 1 f_law_cuts fd_law_cuts ["_law_found", "_law_rows", "_law_wide"] (spLCuts K) := by
  refine F_law_cuts.ok sc_law_cuts (fun vs H Q E h => ?_) (fun cdv A outer s H vs Q E hr h => ?_)
  · obtain ⟨p, prs, k, rs, wd, rfl, hp, hI, hM, hK, hl, hw, q⟩ := h
    rfl
  obtain ⟨p, prs, k, rs, wd, rfl, hp, hI, hM, hK, hl, hw, q⟩ := h
  refine ⟨_, (pss_cons (ps_set (i := 3) sc_law_cuts.nd rfl (Or.inl rfl) pe_dnewK)
      (pss_cons (ps_for PassesOwn.never rfl (pi_listK (K := K) rfl (pv 0)) (pg_name (i := 4) sc_law_cuts.nd rfl (Or.inl rfl)) (pss_one (ps_dput (hu_of hr) (pv 3) (pe_ix (ix_tupK (K := K) rfl) (pv 4) pe_int (by intro _ _; rfl)) pe_bl rfl)))
      (pss_cons (ps_if (pt_cmp (pc_dnotin (hu_of hr) (pe_op op_sub (pe_op op_shl pe_int (pv 2)) pe_int) (pv 3)) (by with_unfolding_all rfl)) (pss_one (ps_ret pe_bl)) pss_nil)
      (pss_cons (ps_for PassesOwn.never rfl (pi_listK (K := K) rfl (pv 0)) (pg_name (i := 4) sc_law_cuts.nd rfl (Or.inl rfl)) (pss_one (ps_for PassesOwn.never rfl (pi_listK (K := K) rfl (pv 1)) (pg_name (i := 5) sc_law_cuts.nd rfl (Or.inl rfl)) (pss_one (ps_if (pt_cmp (pc_dnotin (hu_of hr) (pe_op op_and (pe_ix (ix_tupK (K := K) rfl) (pv 4) pe_int (by intro _ _; rfl)) (pv 5)) (pv 3)) (by with_unfolding_all rfl)) (pss_one (ps_ret pe_bl)) pss_nil)))))
      (pss_one (ps_ret pe_bl)))))), ?_⟩
  intro d hd
  have g1 := same_new hd (.dK ([] : List (Key × V)))
  have h1 : (upd H d (.dK ([] : List (Key × V)))) d = some (.dK (dkN [])) := upd_same
  generalize upd H d (.dK ([] : List (Key × V))) = H1 at g1 h1
  have hlen := hM.2.2
  rw [List.length_map] at hlen
  refine ⟨_, rfl, p, rfl, ⟨_, SqL.of (g1 _ _ hp)⟩, for_list (K := K) (a := p) (xs := prs.map fun q => V.ref q.1) (fun i σ H2 => ∃ (ks : List Nat) (v1 v2 : Option V), σ = [some (.ref p), some (.ref k), some (.int wd), some (.ref d), v1, v2] ∧ H2 d = some (.dK (dkN ks)) ∧ ks.length ≤ i ∧ (∀ m, m ∈ ks ↔ m ∈ (prs.map (·.2)).take i) ∧ Same H H2) ⟨[], _, _, rfl, h1, Nat.zero_le _, fun m => by simp, g1⟩ (fun i σ H2 _ ⟨_, _, _, _, _, _, _, g⟩ => SqL.of (g _ _ hp)) ?_ ?_⟩
  · rintro i y σ H2 hi ⟨ks, v1, v2, rfl, h2, hk, hm, g2⟩
    obtain ⟨hil, rfl⟩ := getI hi
    have hT := g2 _ _ (hI _ (List.getElem_mem hil))
    have hil2 : i < (prs.map (·.2)).length := by rw [List.length_map]; exact hil
    have em : (prs.map (·.2))[i] = prs[i].2 := List.getElem_map ..
    refine ⟨_, rfl, _, rfl, prs[i].1, _, _, _, rfl, rfl, SqT.of hT, tup1 _ _, d, _, rfl, DPut.k (k := Sum.inl ((prs[i].2 : Nat) : Int)) h2 (by unfold dkN; rw [List.length_map, sizeLine_eq]; omega), addK ks prs[i].2, _, _, rfl, ?_, ?_, fun m => ?_, same_upd g2 hd _⟩
    · rw [put_dk]; exact upd_same
    · unfold addK
      split
      · omega
      · rw [List.length_append, List.length_singleton]; omega
    · rw [mem_addK, hm, ← List.take_append_getElem hil2, em, List.mem_append, List.mem_singleton]
  rintro σ H2 ⟨ks, v1, v2, rfl, h2, hk, hm, g2⟩
  rw [List.length_map, ← List.length_map (f := (·.2)), List.take_length] at hm
  have look : ∀ {H3 : Hp} (m : Nat), H3 d = some (.dK (dkN ks)) → m ∈ prs.map (·.2) → (!(valV (dkN ks) (Sum.inl (m : Int))).isSome) = false := fun m _ h => by
    rw [dk_val, decide_eq_true ((hm m).mpr h)]; rfl
  have hfull : 2 ^ wd - 1 ∈ prs.map (·.2) := (hM.2.1 _).mpr ⟨[], (fun _ h => nomatch h), rfl⟩
  refine ⟨_, rfl, _, _, rfl, rfl, cpow wd (by omega), _, _, rfl, rfl, ?_⟩
  try dsimp only
  rw [full_nat]
  refine ⟨_, rfl, d, _, rfl, DGet.k (k := Sum.inl ((2 ^ wd - 1 : Nat) : Int)) h2, _, rfl, ?_⟩
  rw [look _ h2 hfull]
  refine iteF ?_
  refine ⟨_, rfl, p, rfl, ⟨_, SqL.of (g2 _ _ hp)⟩, for_list (K := K) (a := p) (xs := prs.map fun q => V.ref q.1) (fun i σ H3 => ∃ v1 v2, σ = [some (.ref p), some (.ref k), some (.int wd), some (.ref d), v1, v2] ∧ H2 = H3) ⟨_, _, rfl, rfl⟩ (fun i σ H3 _ ⟨_, _, _, e⟩ => e ▸ SqL.of (g2 _ _ hp)) ?_ ?_⟩
  · rintro i y σ H3 hi ⟨v1, v2, rfl, rfl⟩
    obtain ⟨hil, rfl⟩ := getI hi
    have hT := g2 _ _ (hI _ (List.getElem_mem hil))
    have hmm : prs[i].2 ∈ prs.map (·.2) := List.mem_map.mpr ⟨_, List.getElem_mem hil, rfl⟩
    obtain ⟨sub, hs, es⟩ := (hM.2.1 _).mp hmm
    refine ⟨_, rfl, k, rfl, ⟨_, g2.seq hK⟩, for_list (K := K) (a := k) (xs := rs.map nv) (fun j σ H3 => ∃ v2, σ = [some (.ref p), some (.ref k), some (.int wd), some (.ref d), some (.ref prs[i].1), v2] ∧ H2 = H3) ⟨_, rfl, rfl⟩ (fun j σ H3 _ ⟨_, _, e⟩ => e ▸ g2.seq hK) ?_ ?_⟩
    · rintro j y σ H3 hj ⟨v2, rfl, rfl⟩
      obtain ⟨hjl, rfl⟩ := getI hj
      refine ⟨_, rfl, prs[i].1, _, _, _, rfl, rfl, SqT.of hT, tup1 _ _, _, rfl, _, _, rfl, rfl, ?_⟩
      try dsimp only
      rw [and_nat]
      refine ⟨_, rfl, d, _, rfl, DGet.k (k := Sum.inl ((prs[i].2 &&& rs[j] : Nat) : Int)) h2, _, rfl, ?_⟩
      have hmem : prs[i].2 &&& rs[j] ∈ prs.map (·.2) := by
        refine (hM.2.1 _).mpr ⟨sub ++ [j], fun x hx => ?_, ?_⟩
        · rcases List.mem_append.mp hx with z | z
          · exact hs x z
          · have : x = j := by simpa using z
            omega
        · rw [shared_snoc, ← es, getD_lt hjl]
      rw [look _ h2 hmem]
      exact iteF ⟨_, rfl, rfl⟩
    · rintro σ H3 ⟨v2, rfl, rfl⟩
      exact ⟨_, _, rfl, rfl⟩
  · rintro σ H3 ⟨v1, v2, rfl, rfl⟩
    exact q _ g2
seal PA PE PS PSs in
theorem ok_law_less {f_law_less : Addr} {fd_law_less : FuncData} (F_law_less : Fun K "_law_less" "_law_less" s_law_less f_law_less fd_law_less) :
    FnOk P w K mg base CX0 1 f_law_less fd_law_less ["_law_members", "_law_place"] (spLessC) := by
  refine F_law_less.ok sc_law_less (fun vs H Q E h => ?_) (fun cdv A outer s H vs Q E hr h => ?_)
  · obtain ⟨r, p, rfl, hr2, hp, q⟩ := h
    rfl
  obtain ⟨r, p, rfl, hr2, hp, q⟩ := h
  refine ⟨_, (pss_cons (ps_set (i := 2) sc_law_less.nd rfl (Or.inl rfl) (pe_op op_and (pv 0) (pe_op op_sub (pe_op op_shl pe_int (pv 1)) pe_int)))
      (pss_one (ps_ret (pe_op op_add (pv 2) (pe_op op_shl (pe_op op_shr (pv 0) (pe_op op_add (pv 1) pe_int)) (pv 1)))))), ?_⟩
  refine ⟨_, rfl, _, rfl, _, _, rfl, rfl, cpow p (by omega), _, _, rfl, rfl, _, _, rfl, rfl, ?_⟩
  try dsimp only
  rw [full_nat, and_nat, and_low]
  have hq : r / 2 ^ (p + 1) < 2 ^ 64 := Nat.lt_of_le_of_lt (Nat.div_le_self _ _) (by omega)
  refine ⟨_, rfl, _, rfl, _, rfl, _, _, rfl, rfl, _, _, rfl, rfl, (by show (0 : Int) ≤ (p : Int) + 1; omega), ?_⟩
  try dsimp only
  rw [less_parts]
  refine ⟨_, rfl, _, _, rfl, rfl, cshl hq (by omega), _, _, rfl, rfl, ?_⟩
  try dsimp only
  rw [shl_nat, ← Int.natCast_add]
  exact q
theorem cut_take (xs : List Nat) {i : Nat} (h : i ≤ xs.length) : cutV (xs.map nv) none (some (i : Int)) = (xs.take i).map nv := by
  unfold cutV
  rw [HT.sIx_nat, HT.sIx_none, List.drop_zero, Nat.sub_zero, List.length_map, Nat.min_eq_left h, List.map_take]
theorem cut_drop (xs : List Nat) {i : Nat} (h : i ≤ xs.length) : cutV (xs.map nv) (some (i : Int)) none = (xs.drop i).map nv := by
  unfold cutV
  rw [HT.sIx_nat, HT.sIx_none, List.length_map, Nat.min_eq_left h, ← List.map_drop, ← List.map_take]
  congr 1
  exact List.take_of_length_le (by rw [List.length_drop]; exact Nat.le_refl _)
theorem withC_rows {rs : List Nat} {wd g : Nat} (h : Rows wd rs) : Rows (wd + 1) (withC rs wd g) := fun r hr => by
  unfold withC at hr
  obtain ⟨i, hi, rfl⟩ := List.mem_map.mp hr
  have hil := List.mem_range.mp hi
  have h1 := h _ (getD_mem (d := 0) hil)
  have h2 : g / 2 ^ i % 2 ≤ 1 := by omega
  have h3 : (g / 2 ^ i % 2) * 2 ^ wd ≤ 1 * 2 ^ wd := Nat.mul_le_mul_right _ h2
  rw [Nat.pow_succ]
  omega
theorem lessC_rows {rs : List Nat} {wd p : Nat} (h : Rows wd rs) (hp : p < wd) : Rows (wd - 1) (rs.map fun r => lessC r p) := fun r hr => by
  obtain ⟨r', hr', rfl⟩ := List.mem_map.mp hr
  have h1 := h _ hr'
  show r' % 2 ^ p + (r' / 2 ^ (p + 1)) * 2 ^ p < 2 ^ (wd - 1)
  have e : 2 ^ wd = 2 ^ (p + 1) * 2 ^ (wd - 1 - p) := by rw [← Nat.pow_add]; congr 1; omega
  have e2 : 2 ^ (wd - 1) = 2 ^ p * 2 ^ (wd - 1 - p) := by rw [← Nat.pow_add]; congr 1; omega
  rw [e] at h1
  have h2 : r' / 2 ^ (p + 1) < 2 ^ (wd - 1 - p) := Nat.div_lt_of_lt_mul h1
  have h3 := Nat.mod_lt r' (Nat.pow_pos (n := p) (show 0 < 2 by decide))
  rw [e2]
  have h4 : (r' / 2 ^ (p + 1) + 1) * 2 ^ p ≤ 2 ^ (wd - 1 - p) * 2 ^ p := Nat.mul_le_mul_right _ h2
  rw [Nat.add_mul, Nat.one_mul, Nat.mul_comm (2 ^ (wd - 1 - p))] at h4
  omega
noncomputable def dueT : Option Nat → Str
  | none => ""
  | some 0 => "large"
  | some 1 => "set"
  | some _ => "place"
noncomputable def numE (j : Nat) : Nat := if j = 0 then 2 else if j = 1 then 6 else 9
theorem ite_t {b : Bool} {A B : Prop} (e : b = true) (h : A) : if b = true then A else B := by rw [if_pos e]; exact h
theorem ite_f {b : Bool} {A B : Prop} (e : b = false) (h : B) : if b = true then A else B := by rw [e]; exact iteF h
theorem due_lt {dd n wd j : Nat} {i : Int} (h : dueB dd n wd i = some j) : j < 3 := by
  unfold dueB at h
  split at h <;> (repeat' split at h) <;> first | (cases h; done) | (cases h; decide)
inductive IspDue (K : PySem.W.Frag) (vs : List V) (H : Hp) (Q : VK) (E : XK) : Prop where
  | mk (k : Addr) (rs : List Nat) (wd dd : Nat) (i : Int) (hh0 : vs = [.ref k, .int wd, .int dd, .int i]) (hh1 : SqL K H k (rs.map nv)) (hh2 : rs.length ≤ 60) (hh3 : wd ≤ 10) (hh4 : dd < 4) (hh5 : ∀ H', Same H H' → Q (.str (dueT (dueB dd rs.length wd i))) H') : IspDue K vs H Q E
noncomputable def spDue (K : PySem.W.Frag) : Sp := fun vs H Q E => IspDue K vs H Q E
seal PA PE PS PSs in
theorem ok_law_due {f_law_due : Addr} {fd_law_due : FuncData} (F_law_due : Fun K "_law_due" "_law_due" s_law_due f_law_due fd_law_due)
    (z_len : mg "len" = none)
    (z_int : mg "int" = none) :
    FnOk P w K mg base CX0 1 f_law_due fd_law_due ["_law_rows", "_law_wide", "_law_deed", "_law_given_here"] (spDue K) := by
  refine F_law_due.ok sc_law_due (fun vs H Q E h => ?_) (fun cdv A outer s H vs Q E hr h => ?_)
  · obtain ⟨k, rs, wd, dd, i, rfl, hK, hl, hw, hdd, q⟩ := h
    rfl
  obtain ⟨k, rs, wd, dd, i, rfl, hK, hl, hw, hdd, q⟩ := h
  refine ⟨_, (pss_cons (ps_if (pt_cmpR op_eq (pv 2) pe_int (nomark _)) (pss_cons (ps_if (pt_cmpR op_ge (pe_callB (len_seqK (K := K) rfl) rfl z_len PySem.boot_len (pa_cons (pv 0) pa_nil)) pe_int (nomark _)) (pss_one (ps_ret pe_str)) pss_nil)
      (pss_one (ps_ret (pe_ix (ix_listK (K := K) rfl) (pe_lst (pa_cons pe_str (pa_cons pe_str pa_nil))) (pe_callTy call_int1 rfl z_int b_int (pa_cons (pe_or (pe_cmpR op_lt (pv 3) pe_int (nomark _)) (pe_one (pe_cmpR op_ge (pv 3) (pe_op op_shl pe_int (pv 1)) (nomark _)))) pa_nil)) (by intro _ _; rfl))))) pss_nil)
      (pss_cons (ps_if (pt_cmpR op_eq (pv 2) pe_int (nomark _)) (pss_cons (ps_if (pt_cmpR op_ge (pv 1) pe_int (nomark _)) (pss_one (ps_ret pe_str)) pss_nil)
      (pss_one (ps_ret (pe_ix (ix_listK (K := K) rfl) (pe_lst (pa_cons pe_str (pa_cons pe_str pa_nil))) (pe_callTy call_int1 rfl z_int b_int (pa_cons (pe_or (pe_cmpR op_lt (pv 3) pe_int (nomark _)) (pe_one (pe_cmpR op_ge (pv 3) (pe_op op_shl pe_int (pe_callB (len_seqK (K := K) rfl) rfl z_len PySem.boot_len (pa_cons (pv 0) pa_nil))) (nomark _)))) pa_nil)) (by intro _ _; rfl))))) pss_nil)
      (pss_cons (ps_if (pt_cmpR op_eq (pv 2) pe_int (nomark _)) (pss_one (ps_ret (pe_ix (ix_listK (K := K) rfl) (pe_lst (pa_cons pe_str (pa_cons pe_str pa_nil))) (pe_callTy call_int1 rfl z_int b_int (pa_cons (pe_or (pe_cmpR op_lt (pv 3) pe_int (nomark _)) (pe_one (pe_cmpR op_ge (pv 3) (pe_callB (len_seqK (K := K) rfl) rfl z_len PySem.boot_len (pa_cons (pv 0) pa_nil)) (nomark _)))) pa_nil)) (by intro _ _; rfl)))) pss_nil)
      (pss_one (ps_ret (pe_ix (ix_listK (K := K) rfl) (pe_lst (pa_cons pe_str (pa_cons pe_str pa_nil))) (pe_callTy call_int1 rfl z_int b_int (pa_cons (pe_or (pe_cmpR op_lt (pv 3) pe_int (nomark _)) (pe_one (pe_cmpR op_ge (pv 3) (pv 1) (nomark _)))) pa_nil)) (by intro _ _; rfl))))))), ?_⟩
  rcases (show dd = 0 ∨ dd = 2 ∨ dd = 1 ∨ dd = 3 by omega) with rfl | rfl | rfl | rfl
  · rw [due0] at q
    refine ⟨_, rfl, rfl, _, rfl, ite_t rfl ?_⟩
    refine ⟨_, rfl, k, _, rfl, .inl hK, _, _, rfl, rfl, _, rfl, ?_⟩
    rw [List.length_map]
    by_cases c : 60 ≤ rs.length
    · rw [decide_eq_true (show (60 : Int) ≤ (rs.length : Int) from by omega)]
      rw [if_pos c] at q
      exact iteT (q _ (Same.refl _))
    · rw [decide_eq_false (show ¬ (60 : Int) ≤ (rs.length : Int) from by omega)]
      rw [if_neg c] at q
      refine iteF ⟨(by show 2 ≤ sizeLine; decide), fun p hp => ?_⟩
      have g1 := same_new hp (.lst [.str "", .str "set"])
      have h1 : (upd H p (.lst [.str "", .str "set"])) p = some (.lst [.str "", .str "set"]) := upd_same
      refine ⟨_, rfl, _, _, rfl, rfl, _, rfl, ?_⟩
      by_cases h0 : i < 0
      · rw [decide_eq_true h0]
        rw [if_neg (by omega)] at q
        exact iteT (.inr ⟨_, rfl, p, _, _, _, rfl, rfl, SqL.of h1, rfl, q _ g1⟩)
      · rw [decide_eq_false h0]
        refine iteF ⟨_, rfl, _, rfl, _, _, rfl, rfl, cpow wd (by omega), _, _, rfl, rfl, .inr ⟨_, rfl, ?_⟩⟩
        rw [pow_one]
        by_cases h2 : ((2 ^ wd : Nat) : Int) ≤ i
        · rw [decide_eq_true h2]
          rw [if_neg (by omega)] at q
          exact ⟨p, _, _, _, rfl, rfl, SqL.of h1, rfl, q _ g1⟩
        · rw [decide_eq_false h2]
          rw [if_pos (by omega)] at q
          exact ⟨p, _, _, _, rfl, rfl, SqL.of h1, rfl, q _ g1⟩
  · rw [due2] at q
    refine ⟨_, rfl, rfl, _, rfl, ite_f rfl ?_⟩
    refine ⟨_, rfl, rfl, _, rfl, ite_t rfl ?_⟩
    refine ⟨_, rfl, _, _, rfl, rfl, _, rfl, ?_⟩
    by_cases c : 10 ≤ wd
    · rw [decide_eq_true (show (10 : Int) ≤ (wd : Int) from by omega)]
      rw [if_pos c] at q
      exact iteT (q _ (Same.refl _))
    · rw [decide_eq_false (show ¬ (10 : Int) ≤ (wd : Int) from by omega)]
      rw [if_neg c] at q
      refine iteF ⟨(by show 2 ≤ sizeLine; decide), fun p hp => ?_⟩
      have g1 := same_new hp (.lst [.str "", .str "set"])
      have h1 : (upd H p (.lst [.str "", .str "set"])) p = some (.lst [.str "", .str "set"]) := upd_same
      refine ⟨_, rfl, _, _, rfl, rfl, _, rfl, ?_⟩
      by_cases h0 : i < 0
      · rw [decide_eq_true h0]
        rw [if_neg (by omega)] at q
        exact iteT (.inr ⟨_, rfl, p, _, _, _, rfl, rfl, SqL.of h1, rfl, q _ g1⟩)
      · rw [decide_eq_false h0]
        refine iteF ⟨_, rfl, _, rfl, k, _, rfl, .inl (g1.seq hK), _, _, rfl, rfl, cpow _ (by rw [List.length_map]; omega), _, _, rfl, rfl, .inr ⟨_, rfl, ?_⟩⟩
        rw [pow_one, List.length_map]
        by_cases h2 : ((2 ^ rs.length : Nat) : Int) ≤ i
        · rw [decide_eq_true h2]
          rw [if_neg (by omega)] at q
          exact ⟨p, _, _, _, rfl, rfl, SqL.of h1, rfl, q _ g1⟩
        · rw [decide_eq_false h2]
          rw [if_pos (by omega)] at q
          exact ⟨p, _, _, _, rfl, rfl, SqL.of h1, rfl, q _ g1⟩
  · rw [due1] at q
    refine ⟨_, rfl, rfl, _, rfl, ite_f rfl ?_⟩
    refine ⟨_, rfl, rfl, _, rfl, ite_f rfl ?_⟩
    refine ⟨_, rfl, rfl, _, rfl, ite_t rfl ?_⟩
    refine ⟨(by show 2 ≤ sizeLine; decide), fun p hp => ?_⟩
    have g1 := same_new hp (.lst [.str "", .str "place"])
    have h1 : (upd H p (.lst [.str "", .str "place"])) p = some (.lst [.str "", .str "place"]) := upd_same
    refine ⟨_, rfl, _, _, rfl, rfl, _, rfl, ?_⟩
    by_cases h0 : i < 0
    · rw [decide_eq_true h0]
      rw [if_neg (by omega)] at q
      exact iteT (.inr ⟨_, rfl, p, _, _, _, rfl, rfl, SqL.of h1, rfl, q _ g1⟩)
    · rw [decide_eq_false h0]
      refine iteF ⟨_, rfl, _, rfl, k, _, rfl, .inl (g1.seq hK), _, _, rfl, rfl, .inr ⟨_, rfl, ?_⟩⟩
      rw [List.length_map]
      by_cases h2 : (rs.length : Int) ≤ i
      · rw [decide_eq_true h2]
        rw [if_neg (by omega)] at q
        exact ⟨p, _, _, _, rfl, rfl, SqL.of h1, rfl, q _ g1⟩
      · rw [decide_eq_false h2]
        rw [if_pos (by omega)] at q
        exact ⟨p, _, _, _, rfl, rfl, SqL.of h1, rfl, q _ g1⟩
  · rw [due3] at q
    refine ⟨_, rfl, rfl, _, rfl, ite_f rfl ?_⟩
    refine ⟨_, rfl, rfl, _, rfl, ite_f rfl ?_⟩
    refine ⟨_, rfl, rfl, _, rfl, ite_f rfl ?_⟩
    refine ⟨(by show 2 ≤ sizeLine; decide), fun p hp => ?_⟩
    have g1 := same_new hp (.lst [.str "", .str "place"])
    have h1 : (upd H p (.lst [.str "", .str "place"])) p = some (.lst [.str "", .str "place"]) := upd_same
    refine ⟨_, rfl, _, _, rfl, rfl, _, rfl, ?_⟩
    by_cases h0 : i < 0
    · rw [decide_eq_true h0]
      rw [if_neg (by omega)] at q
      exact iteT (.inr ⟨_, rfl, p, _, _, _, rfl, rfl, SqL.of h1, rfl, q _ g1⟩)
    · rw [decide_eq_false h0]
      refine iteF ⟨_, rfl, _, rfl, _, _, rfl, rfl, .inr ⟨_, rfl, ?_⟩⟩
      by_cases h2 : (wd : Int) ≤ i
      · rw [decide_eq_true h2]
        rw [if_neg (by omega)] at q
        exact ⟨p, _, _, _, rfl, rfl, SqL.of h1, rfl, q _ g1⟩
      · rw [decide_eq_false h2]
        rw [if_pos (by omega)] at q
        exact ⟨p, _, _, _, rfl, rfl, SqL.of h1, rfl, q _ g1⟩
inductive IspDone (C : Addr) (Cs : List Addr) (vs : List V) (H : Hp) (Q : VK) (E : XK) : Prop where
  | mk (x : Addr) (wd : Nat) (a : Addr) (rs : List Nat) (dd : Nat) (i : Int) (hh0 : vs = [.ref x, .int dd, .int i]) (hh1 : dd < 4) (hh2 : BookB C H x wd a rs) (hh3 : Rows wd rs) (hh4 : rs.length ≤ 60) (hh5 : (∀ j c e H', dueB dd rs.length wd i = some j → Cs[j]? = some c → Same H H' → Cgt H' e c j → Q (.ref e) H')) (hh6 : (∀ m : Nat, i = (m : Int) → dueB dd rs.length wd i = none → ∀ H' a', (a' = a ∨ H a' = none) → BookB C H' x (wdTo dd wd) a' (rowsTo dd rs wd m) → Kept [x, a] H H' → Q .non H')) : IspDone C Cs vs H Q E
noncomputable def spDone (C : Addr) (Cs : List Addr) : Sp := fun vs H Q E => IspDone C Cs vs H Q E
seal PA PE PS PSs in
theorem ok_law_done {C_Book : Addr} (T_Book : Txt_Book K C_Book)
    {f_law_done : Addr} {fd_law_done : FuncData} (F_law_done : Fun K "_law_done" "_law_done" s_law_done f_law_done fd_law_done)
    (hem : ∀ (j : Nat) (c : Addr), [C_TooLarge, C_BadSet, C_OutOfPlace][j]? = some c → PySem.W.exmOne K (.ref c) (.ref C_TraitError) = some true)
    {f_Book_put_thing : Addr} {fd_Book_put_thing : FuncData} (G_Book_put_thing : FnOk P w K mg base (CXE P w) 3 f_Book_put_thing fd_Book_put_thing ["self", "row"] (spDeed C_Book [C_TooLarge, C_BadSet, C_OutOfPlace] 0)) (b_Book_put_thing : Binds K fd_Book_put_thing ["self", "row"] [])
    (h_Book_put_thing : Meth K C_Book "put_thing" f_Book_put_thing)
    {f_Book_take_thing : Addr} {fd_Book_take_thing : FuncData} (G_Book_take_thing : FnOk P w K mg base (CXE P w) 1 f_Book_take_thing fd_Book_take_thing ["self", "place"] (spDeed C_Book [C_TooLarge, C_BadSet, C_OutOfPlace] 1)) (b_Book_take_thing : Binds K fd_Book_take_thing ["self", "place"] [])
    (h_Book_take_thing : Meth K C_Book "take_thing" f_Book_take_thing)
    {f_Book_put_column : Addr} {fd_Book_put_column : FuncData} (G_Book_put_column : FnOk P w K mg base (CXE P w) 3 f_Book_put_column fd_Book_put_column ["self", "group"] (spDeed C_Book [C_TooLarge, C_BadSet, C_OutOfPlace] 2)) (b_Book_put_column : Binds K fd_Book_put_column ["self", "group"] [])
    (h_Book_put_column : Meth K C_Book "put_column" f_Book_put_column)
    {f_Book_take_column : Addr} {fd_Book_take_column : FuncData} (G_Book_take_column : FnOk P w K mg base (CXE P w) 2 f_Book_take_column fd_Book_take_column ["self", "place"] (spDeed C_Book [C_TooLarge, C_BadSet, C_OutOfPlace] 3)) (b_Book_take_column : Binds K fd_Book_take_column ["self", "place"] [])
    (h_Book_take_column : Meth K C_Book "take_column" f_Book_take_column)
    (m_TraitError : mg "TraitError" = some (.ref C_TraitError)) :
    FnOk P w K mg base CX0 4 f_law_done fd_law_done ["_law_book", "_law_deed", "_law_given_here"] (spDone C_Book [C_TooLarge, C_BadSet, C_OutOfPlace]) := by
  refine F_law_done.ok sc_law_done (fun vs H Q E h => ?_) (fun cdv A outer s H vs Q E hr h => ?_)
  · obtain ⟨x, wd, a, rs, dd, i, rfl, hdd, hB, hR, hl, qE, q⟩ := h
    rfl
  obtain ⟨x, wd, a, rs, dd, i, rfl, hdd, hB, hR, hl, qE, q⟩ := h
  refine ⟨_, (pss_cons (ps_set (i := 3) sc_law_done.nd rfl (Or.inl rfl) pe_non)
      (pss_cons (ps_try (K := K) (CT := C_TraitError) (i := 4) rfl ⟨rfl, rfl⟩ sc_law_done.nd rfl rfl rfl m_TraitError (fun pn W EX hp => (pss_one (ps_if (pt_cmpR op_eq (pv 1) pe_int (nomark _)) (pss_one (ps_expr (pe_methE (pv 0) T_Book.cl h_Book_put_thing G_Book_put_thing (hr.mono (by decide)) b_Book_put_thing .nil hp (pa_cons (pv 2) pa_nil)))) (pss_one (ps_if (pt_cmpR op_eq (pv 1) pe_int (nomark _)) (pss_one (ps_expr (pe_methE (pv 0) T_Book.cl h_Book_take_thing G_Book_take_thing (hr.mono (by decide)) b_Book_take_thing .nil hp (pa_cons (pv 2) pa_nil)))) (pss_one (ps_if (pt_cmpR op_eq (pv 1) pe_int (nomark _)) (pss_one (ps_expr (pe_methE (pv 0) T_Book.cl h_Book_put_column G_Book_put_column (hr.mono (by decide)) b_Book_put_column .nil hp (pa_cons (pv 2) pa_nil)))) (pss_one (ps_expr (pe_methE (pv 0) T_Book.cl h_Book_take_column G_Book_take_column (hr.mono (by decide)) b_Book_take_column .nil hp (pa_cons (pv 2) pa_nil))))))))))) (fun a => (pss_one (ps_set (i := 3) sc_law_done.nd rfl (Or.inl rfl) (pv 4)))))
      (pss_one (ps_ret (pv 3))))), ?_⟩
  obtain ⟨dx, hx⟩ := hB.ins
  refine ⟨fun σ1 c v H1 => ∃ (j : Nat) (cc e : Addr), σ1 = [some (.ref x), some (.int dd), some (.int i), some .non, none] ∧ c = .ref cc ∧ v = some e ∧ H e = none ∧ dueB dd rs.length wd i = some j ∧ [C_TooLarge, C_BadSet, C_OutOfPlace][j]? = some cc ∧ Same H H1 ∧ Cgt H1 e cc j, ?_, ?_⟩
  · rintro σ1 H1 e cc ⟨j, cc', e', rfl, h1, h2, he, hd, hc, g, hF⟩
    cases h1
    cases h2
    obtain ⟨d, ⟨T0, f1, f2, f3⟩, f4, f5⟩ := hF
    refine ⟨d, ⟨T0, f1, f2, f3⟩, hem j _ hc, fun T2 hT hTe => ?_⟩
    refine ⟨_, rfl, _, rfl, qE j _ _ _ hd hc (fun p u h => ?_) ⟨d, flown_new hTe, fun y z => ?_, f5⟩⟩
    · rw [upd_ne (ne_of_none h he), upd_ne (ne_of_none (g _ _ h) hT)]
      exact g _ _ h
    · have hy := f4 y z
      rw [upd_ne (ne_of hy f1 (by intro z; cases z)), upd_ne (ne_of_none hy hT)]
      exact hy
  · rcases (show dd = 0 ∨ dd = 1 ∨ dd = 2 ∨ dd = 3 by omega) with rfl | rfl | rfl | rfl
    · refine ⟨_, rfl, rfl, _, rfl, ite_t rfl ?_⟩
      exact ⟨_, rfl, x, dx, _, rfl, hx, rfl, _, rfl, x, wd, a, rs, i, rfl, hB, hR, hl, (fun j c hd hc e H1 he g hF => ⟨j, c, e, rfl, rfl, rfl, he, hd, hc, g, hF⟩), fun m em hd H1 a1 ha1 hB1 k1 => ⟨_, rfl, q m em hd H1 a1 ha1 hB1 k1⟩⟩
    · refine ⟨_, rfl, rfl, _, rfl, ite_f rfl ⟨_, rfl, rfl, _, rfl, ite_t rfl ?_⟩⟩
      exact ⟨_, rfl, x, dx, _, rfl, hx, rfl, _, rfl, x, wd, a, rs, i, rfl, hB, hR, hl, (fun j c hd hc e H1 he g hF => ⟨j, c, e, rfl, rfl, rfl, he, hd, hc, g, hF⟩), fun m em hd H1 a1 ha1 hB1 k1 => ⟨_, rfl, q m em hd H1 a1 ha1 hB1 k1⟩⟩
    · refine ⟨_, rfl, rfl, _, rfl, ite_f rfl ⟨_, rfl, rfl, _, rfl, ite_f rfl ⟨_, rfl, rfl, _, rfl, ite_t rfl ?_⟩⟩⟩
      exact ⟨_, rfl, x, dx, _, rfl, hx, rfl, _, rfl, x, wd, a, rs, i, rfl, hB, hR, hl, (fun j c hd hc e H1 he g hF => ⟨j, c, e, rfl, rfl, rfl, he, hd, hc, g, hF⟩), fun m em hd H1 a1 ha1 hB1 k1 => ⟨_, rfl, q m em hd H1 a1 ha1 hB1 k1⟩⟩
    · refine ⟨_, rfl, rfl, _, rfl, ite_f rfl ⟨_, rfl, rfl, _, rfl, ite_f rfl ⟨_, rfl, rfl, _, rfl, ite_f rfl ?_⟩⟩⟩
      exact ⟨_, rfl, x, dx, _, rfl, hx, rfl, _, rfl, x, wd, a, rs, i, rfl, hB, hR, hl, (fun j c hd hc e H1 he g hF => ⟨j, c, e, rfl, rfl, rfl, he, hd, hc, g, hF⟩), fun m em hd H1 a1 ha1 hB1 k1 => ⟨_, rfl, q m em hd H1 a1 ha1 hB1 k1⟩⟩
inductive IspBad (K : PySem.W.Frag) (vs : List V) (H : Hp) (Q : VK) (E : XK) : Prop where
  | mk (k : Addr) (rs : List Nat) (wd dd : Nat) (i : Int) (hh0 : vs = [.ref k, .int wd, .int dd, .int i]) (hh1 : SqL K H k (rs.map nv)) (hh2 : ∀ z : Int, Q (.int z) H) : IspBad K vs H Q E
noncomputable def spBad (K : PySem.W.Frag) : Sp := fun vs H Q E => IspBad K vs H Q E
seal PA PE PS PSs in
theorem ok_law_bad {f_law_bad : Addr} {fd_law_bad : FuncData} (F_law_bad : Fun K "_law_bad" "_law_bad" s_law_bad f_law_bad fd_law_bad)
    (z_len : mg "len" = none) :
    FnOk P w K mg base CX0 1 f_law_bad fd_law_bad ["_law_rows", "_law_wide", "_law_deed", "_law_given_here"] (spBad K) := by
  refine F_law_bad.ok sc_law_bad (fun vs H Q E h => ?_) (fun cdv A outer s H vs Q E hr h => ?_)
  · obtain ⟨k, rs, wd, dd, i, rfl, hK, q⟩ := h
    rfl
  obtain ⟨k, rs, wd, dd, i, rfl, hK, q⟩ := h
  refine ⟨_, (pss_cons (ps_if (PW.pt (pw_and (pt_cmpR op_eq (pv 2) pe_int (nomark _)) (pw_and (pt_cmpR op_ge (pe_callB (len_seqK (K := K) rfl) rfl z_len PySem.boot_len (pa_cons (pv 0) pa_nil)) pe_int (nomark _)) (pw_and1 (pt_cmpR op_gt (pv 1) pe_int (nomark _)))))) (pss_one (ps_ret (pe_op op_sub (pe_un un_neg pe_int) (pe_op op_mod (pv 3) pe_int)))) pss_nil)
      (pss_cons (ps_if (PW.pt (pw_and (pt_cmpR op_eq (pv 2) pe_int (nomark _)) (pw_and (pt_cmpR op_gt (pe_callB (len_seqK (K := K) rfl) rfl z_len PySem.boot_len (pa_cons (pv 0) pa_nil)) pe_int (nomark _)) (pw_and1 (pt_cmpR op_ge (pv 1) pe_int (nomark _)))))) (pss_one (ps_ret (pe_op op_sub (pe_un un_neg pe_int) (pe_op op_mod (pv 3) pe_int)))) pss_nil)
      (pss_one (ps_ret (pv 3))))), ?_⟩
  have fin : ∀ z : Int, Q (.int z) H := q
  refine if_known (decide (V.int (dd : Int) = V.int 0) && (decide ((3 : Int) ≤ ((rs.map nv).length : Int)) && decide ((3 : Int) < (wd : Int)))) (fun Q' hQ => ?_) ?_
  · refine ⟨_, rfl, rfl, _, rfl, ?_⟩
    cases h1 : decide (V.int (dd : Int) = V.int 0) with
    | false => rw [h1] at hQ; exact iteF hQ
    | true =>
      rw [h1] at hQ
      refine iteT ⟨_, rfl, k, _, rfl, .inl hK, _, _, rfl, rfl, _, rfl, ?_⟩
      cases h2 : decide ((3 : Int) ≤ ((rs.map nv).length : Int)) with
      | false => rw [h2] at hQ; exact iteF hQ
      | true => rw [h2] at hQ; exact iteT ⟨_, rfl, _, _, rfl, rfl, _, rfl, hQ⟩
  refine ite2 (fun _ => ⟨_, rfl, _, rfl, _, _, rfl, rfl, (by show (0 : Int) < 7; decide), _, _, rfl, rfl, fin _⟩) fun _ => ?_
  try dsimp only [tNext]
  refine if_known (decide (V.int (dd : Int) = V.int 2) && (decide ((3 : Int) < ((rs.map nv).length : Int)) && decide ((3 : Int) ≤ (wd : Int)))) (fun Q' hQ => ?_) ?_
  · refine ⟨_, rfl, rfl, _, rfl, ?_⟩
    cases h1 : decide (V.int (dd : Int) = V.int 2) with
    | false => rw [h1] at hQ; exact iteF hQ
    | true =>
      rw [h1] at hQ
      refine iteT ⟨_, rfl, k, _, rfl, .inl hK, _, _, rfl, rfl, _, rfl, ?_⟩
      cases h2 : decide ((3 : Int) < ((rs.map nv).length : Int)) with
      | false => rw [h2] at hQ; exact iteF hQ
      | true => rw [h2] at hQ; exact iteT ⟨_, rfl, _, _, rfl, rfl, _, rfl, hQ⟩
  refine ite2 (fun _ => ⟨_, rfl, _, rfl, _, _, rfl, rfl, (by show (0 : Int) < 7; decide), _, _, rfl, rfl, fin _⟩) fun _ => ?_
  exact ⟨_, rfl, fin _⟩
theorem no_true {l : List Bool} (h : ∀ b ∈ l, b = false) : inV (.bl true) (l.map V.bl) = false := by
  unfold inV
  rw [List.any_map, List.any_eq_false]
  intro b hb
  rw [h b hb]
  exact Bool.false_ne_true
theorem bls_flat (l : List Bool) : (l.map V.bl).all flatV = true := by
  rw [List.all_map, List.all_eq_true]; intro _ _; rfl
theorem due_eq : ∀ j, j < 3 → decide (V.str (dueT (some j)) = V.str "") = false ∧ decide (V.str (dueT (some j)) = V.str "large") = decide (2 = numE j) ∧ decide (V.str (dueT (some j)) = V.str "set") = decide (6 = numE j) ∧ decide (V.str (dueT (some j)) = V.str "place") = decide (9 = numE j)
  | 0, _ => by decide +kernel
  | 1, _ => by decide +kernel
  | 2, _ => by decide +kernel
  | j + 3, h => absurd h (by omega)
theorem num_in {j : Nat} (h : j < 3) : numE j = 2 ∨ numE j = 6 ∨ numE j = 9 := by
  unfold numE
  rcases (show j = 0 ∨ j = 1 ∨ j = 2 by omega) with rfl | rfl | rfl <;> decide
inductive IspAlike (K : PySem.W.Frag) (Cs : List Addr) (vs : List V) (H : Hp) (Q : VK) (E : XK) : Prop where
  | mk (u : Option Nat) (kv : V) (hh0 : vs = [kv, .str (dueT u)]) (hh1 : ((u = none ∧ kv = .non) ∨ ∃ j c e, u = some j ∧ j < 3 ∧ kv = .ref e ∧ Cs[j]? = some c ∧ Cgt H e c j)) (hh2 : ∀ H', Same H H' → Q (.bl true) H') : IspAlike K Cs vs H Q E
noncomputable def spAlike (K : PySem.W.Frag) (Cs : List Addr) : Sp := fun vs H Q E => IspAlike K Cs vs H Q E
seal PA PE PS PSs in
theorem ok_law_alike {f_law_alike : Addr} {fd_law_alike : FuncData} (F_law_alike : Fun K "_law_alike" "_law_alike" s_law_alike f_law_alike fd_law_alike)
    (hek : ∀ (j : Nat) (c : Addr), [C_TooLarge, C_BadSet, C_OutOfPlace][j]? = some c → EK K [C_BadText, C_Twice, C_TooLarge, C_Gap, C_Unknown, C_AtEnd, C_BadSet, C_NotBroken, C_Against, C_OutOfPlace, C_Unlike] c (numE j)) (hna : NoAttr K C_TooLarge "line")
    {f_law_whole : Addr} {fd_law_whole : FuncData} (G_law_whole : FnOk P w K mg base CX0 1 f_law_whole fd_law_whole ["_law_found"] (spWhole)) (b_law_whole : Binds K fd_law_whole ["_law_found"] []) (k_law_whole : PySem.W.keepIn K (.ref f_law_whole) = true) (m_law_whole : mg "_law_whole" = some (.ref f_law_whole))
    (m_OutOfPlace : mg "OutOfPlace" = some (.ref C_OutOfPlace))
    (m_BadSet : mg "BadSet" = some (.ref C_BadSet))
    (m_TooLarge : mg "TooLarge" = some (.ref C_TooLarge))
    (m_Gap : mg "Gap" = some (.ref C_Gap))
    (m_Unknown : mg "Unknown" = some (.ref C_Unknown))
    (m_Twice : mg "Twice" = some (.ref C_Twice))
    (m_BadText : mg "BadText" = some (.ref C_BadText))
    (m_Unlike : mg "Unlike" = some (.ref C_Unlike))
    (m_Against : mg "Against" = some (.ref C_Against))
    (m_NotBroken : mg "NotBroken" = some (.ref C_NotBroken))
    (m_AtEnd : mg "AtEnd" = some (.ref C_AtEnd))
    (z_isinstance : mg "isinstance" = none)
    (z_ValueError : mg "ValueError" = none) :
    FnOk P w K mg base CX0 2 f_law_alike fd_law_alike ["_law_kept", "_law_due_here"] (spAlike K [C_TooLarge, C_BadSet, C_OutOfPlace]) := by
  refine F_law_alike.ok sc_law_alike (fun vs H Q E h => ?_) (fun cdv A outer s H vs Q E hr h => ?_)
  · obtain ⟨u, kv, rfl, hkv, q⟩ := h
    rfl
  obtain ⟨u, kv, rfl, hkv, q⟩ := h
  refine ⟨_, (pss_cons (ps_if (PW.pt (pw_or (pt_cmpR op_eq (pv 1) pe_str (nomark _)) (pw_or1 (pt_cmpR op_isN (pv 0) pe_non (nomark _))))) (pss_one (ps_ret (pe_and (pe_cmpR op_eq (pv 1) pe_str (nomark _)) (pe_one (pe_cmpR op_isN (pv 0) pe_non (nomark _)))))) pss_nil)
      (pss_cons (ps_set (i := 2) sc_law_alike.nd rfl (Or.inl rfl) (pe_lst (pa_cons (pe_callB (isiFK (K := K) rfl) rfl z_isinstance b_isinstance (pa_cons (pv 0) (pa_cons (pe_glob (v := .ref C_TooLarge) rfl m_TooLarge rfl) pa_nil))) (pa_cons (pe_callB (isiFK (K := K) rfl) rfl z_isinstance b_isinstance (pa_cons (pv 0) (pa_cons (pe_glob (v := .ref C_BadSet) rfl m_BadSet rfl) pa_nil))) (pa_cons (pe_callB (isiFK (K := K) rfl) rfl z_isinstance b_isinstance (pa_cons (pv 0) (pa_cons (pe_glob (v := .ref C_OutOfPlace) rfl m_OutOfPlace rfl) pa_nil))) pa_nil)))))
      (pss_cons (ps_set (i := 3) sc_law_alike.nd rfl (Or.inl rfl) (pe_lst (pa_cons (pe_callB (isiFK (K := K) rfl) rfl z_isinstance b_isinstance (pa_cons (pv 0) (pa_cons (pe_glob (v := .ref C_BadText) rfl m_BadText rfl) pa_nil))) (pa_cons (pe_callB (isiFK (K := K) rfl) rfl z_isinstance b_isinstance (pa_cons (pv 0) (pa_cons (pe_glob (v := .ref C_Twice) rfl m_Twice rfl) pa_nil))) (pa_cons (pe_callB (isiFK (K := K) rfl) rfl z_isinstance b_isinstance (pa_cons (pv 0) (pa_cons (pe_glob (v := .ref C_Unknown) rfl m_Unknown rfl) pa_nil))) (pa_cons (pe_callB (isiFK (K := K) rfl) rfl z_isinstance b_isinstance (pa_cons (pv 0) (pa_cons (pe_glob (v := .ref C_Gap) rfl m_Gap rfl) pa_nil))) pa_nil))))))
      (pss_cons (ps_set (i := 4) sc_law_alike.nd rfl (Or.inl rfl) (pe_lst (pa_cons (pe_callB (isiFK (K := K) rfl) rfl z_isinstance b_isinstance (pa_cons (pv 0) (pa_cons (pe_glob (v := .ref C_AtEnd) rfl m_AtEnd rfl) pa_nil))) (pa_cons (pe_callB (isiFK (K := K) rfl) rfl z_isinstance b_isinstance (pa_cons (pv 0) (pa_cons (pe_glob (v := .ref C_NotBroken) rfl m_NotBroken rfl) pa_nil))) (pa_cons (pe_callB (isiFK (K := K) rfl) rfl z_isinstance b_isinstance (pa_cons (pv 0) (pa_cons (pe_glob (v := .ref C_Against) rfl m_Against rfl) pa_nil))) (pa_cons (pe_callB (isiFK (K := K) rfl) rfl z_isinstance b_isinstance (pa_cons (pv 0) (pa_cons (pe_glob (v := .ref C_Unlike) rfl m_Unlike rfl) pa_nil))) pa_nil))))))
      (pss_cons (ps_if (PW.pt (pw_or (pt_cmpR (op_inK (K := K) rfl) pe_bl (pv 3) (by with_unfolding_all rfl)) (pw_or (pt_cmpR (op_inK (K := K) rfl) pe_bl (pv 4) (by with_unfolding_all rfl)) (pw_or1 (pt_not (pt_val (pe_callB (isiFK (K := K) rfl) rfl z_isinstance b_isinstance (pa_cons (pv 0) (pa_cons (pe_ty rfl z_ValueError b_ValueError) pa_nil))))))))) (pss_one (ps_ret pe_bl)) pss_nil)
      (pss_cons (ps_if (pt_cmpR (op_neLK (K := K) rfl hr.units0) (pv 2) (pe_lst (pa_cons (pe_cmpR op_eq (pv 1) pe_str (nomark _)) (pa_cons (pe_cmpR op_eq (pv 1) pe_str (nomark _)) (pa_cons (pe_cmpR op_eq (pv 1) pe_str (nomark _)) pa_nil)))) (nomark _)) (pss_one (ps_ret pe_bl)) pss_nil)
      (pss_one (ps_ret (pe_or (pe_cmpR op_ne (pv 1) pe_str (nomark _)) (pe_one (pe_and (pe_call G_law_whole (hr.mono (by decide)) rfl m_law_whole k_law_whole b_law_whole .nil pass0 (pa_cons (pe_fldF (K := K) rfl (pv 0) rfl) pa_nil)) (pe_one (pe_cmpR op_eq (pe_fldF (K := K) rfl (pv 0) rfl) pe_int (nomark _)))))))))))))), ?_⟩
  rcases hkv with ⟨rfl, rfl⟩ | ⟨j, c, e, rfl, hj, rfl, hc, hF⟩
  · refine ⟨_, rfl, rfl, _, rfl, ?_⟩
    rw [decide_eq_true (show V.str (dueT none) = V.str "" from rfl)]
    refine iteT (iteT ⟨_, rfl, rfl, _, rfl, ?_⟩)
    rw [decide_eq_true (show V.str (dueT none) = V.str "" from rfl)]
    refine iteT ⟨_, rfl, rfl, ?_⟩
    rw [decide_eq_true (rfl : V.non = V.non)]
    exact q _ (Same.refl _)
  obtain ⟨d0, d1, d2, d3⟩ := due_eq j hj
  have E := hek j c hc
  have hnum := num_in hj
  obtain ⟨d, ⟨T, hA, _, _⟩, hD, hj0⟩ := hF
  have nd : ∀ {H' : Hp}, Same H H' → ∀ dx, d = some dx → ∃ fs, H' dx = some (.xd fs) := fun g dx z => ⟨_, g _ _ (hD dx z)⟩
  have s0 := Same.refl H
  refine ⟨_, rfl, rfl, _, rfl, ?_⟩
  rw [d0]
  refine iteF ⟨_, rfl, rfl, _, rfl, ?_⟩
  rw [decide_eq_false (fun z => nomatch z)]
  refine iteF ?_
  generalize numE j = i at E hnum d1 d2 d3
  refine ⟨_, rfl, e, c, d, T, _, _, _, rfl, rfl, hA, nd s0, E.xc, E.is 2 _ rfl, _, rfl, e, c, d, T, _, _, _, rfl, rfl, hA, nd s0, E.xc, E.is 6 _ rfl, _, rfl, e, c, d, T, _, _, _, rfl, rfl, hA, nd s0, E.xc, E.is 9 _ rfl, (by show 3 ≤ sizeLine; decide), fun p1 hp1 => ?_⟩
  have g1 := same_new hp1 (.lst ([decide (2 = i), decide (6 = i), decide (9 = i)].map V.bl))
  have h1 : (upd H p1 (.lst ([decide (2 = i), decide (6 = i), decide (9 = i)].map V.bl))) p1 = some (.lst ([decide (2 = i), decide (6 = i), decide (9 = i)].map V.bl)) := upd_same
  show _
  refine ⟨_, rfl, e, c, d, T, _, _, _, rfl, rfl, g1 _ _ hA, nd g1, E.xc, E.is 0 _ rfl, _, rfl, e, c, d, T, _, _, _, rfl, rfl, g1 _ _ hA, nd g1, E.xc, E.is 1 _ rfl, _, rfl, e, c, d, T, _, _, _, rfl, rfl, g1 _ _ hA, nd g1, E.xc, E.is 4 _ rfl, _, rfl, e, c, d, T, _, _, _, rfl, rfl, g1 _ _ hA, nd g1, E.xc, E.is 3 _ rfl, (by show 4 ≤ sizeLine; decide), fun p2 hp2 => ?_⟩
  have k2 := same_new hp2 (.lst ([decide (0 = i), decide (1 = i), decide (4 = i), decide (3 = i)].map V.bl))
  have h2 : (upd (upd H p1 (.lst ([decide (2 = i), decide (6 = i), decide (9 = i)].map V.bl))) p2 (.lst ([decide (0 = i), decide (1 = i), decide (4 = i), decide (3 = i)].map V.bl))) p2 = some (.lst ([decide (0 = i), decide (1 = i), decide (4 = i), decide (3 = i)].map V.bl)) := upd_same
  have g2 := g1.trans k2
  refine ⟨_, rfl, e, c, d, T, _, _, _, rfl, rfl, g2 _ _ hA, nd g2, E.xc, E.is 5 _ rfl, _, rfl, e, c, d, T, _, _, _, rfl, rfl, g2 _ _ hA, nd g2, E.xc, E.is 7 _ rfl, _, rfl, e, c, d, T, _, _, _, rfl, rfl, g2 _ _ hA, nd g2, E.xc, E.is 8 _ rfl, _, rfl, e, c, d, T, _, _, _, rfl, rfl, g2 _ _ hA, nd g2, E.xc, E.is 10 _ rfl, (by show 4 ≤ sizeLine; decide), fun p3 hp3 => ?_⟩
  have k3 := same_new hp3 (.lst ([decide (5 = i), decide (7 = i), decide (8 = i), decide (10 = i)].map V.bl))
  have h3 : (upd (upd (upd H p1 (.lst ([decide (2 = i), decide (6 = i), decide (9 = i)].map V.bl))) p2 (.lst ([decide (0 = i), decide (1 = i), decide (4 = i), decide (3 = i)].map V.bl))) p3 (.lst ([decide (5 = i), decide (7 = i), decide (8 = i), decide (10 = i)].map V.bl))) p3 = some (.lst ([decide (5 = i), decide (7 = i), decide (8 = i), decide (10 = i)].map V.bl)) := upd_same
  have g3 := g2.trans k3
  have h23 := k3 _ _ h2
  have h13 := k3 _ _ (k2 _ _ h1)
  have t1 : inV (.bl true) ([decide (0 = i), decide (1 = i), decide (4 = i), decide (3 = i)].map V.bl) = false := no_true fun b hb => by
    simp only [List.mem_cons, List.not_mem_nil, or_false] at hb
    rcases hb with rfl | rfl | rfl | rfl <;> exact decide_eq_false (by omega)
  have t2 : inV (.bl true) ([decide (5 = i), decide (7 = i), decide (8 = i), decide (10 = i)].map V.bl) = false := no_true fun b hb => by
    simp only [List.mem_cons, List.not_mem_nil, or_false] at hb
    rcases hb with rfl | rfl | rfl | rfl <;> exact decide_eq_false (by omega)
  refine ⟨_, rfl, p2, _, rfl, .inl (SqL.of h23), rfl, bls_flat _, _, rfl, ?_⟩
  try dsimp only
  rw [if_neg Bool.false_ne_true, t1]
  refine iteF ⟨_, rfl, p3, _, rfl, .inl (SqL.of h3), rfl, bls_flat _, _, rfl, ?_⟩
  try dsimp only
  rw [if_neg Bool.false_ne_true, t2]
  refine iteF ⟨_, rfl, e, c, d, T, _, _, _, rfl, rfl, g3 _ _ hA, nd g3, E.xc, E.ve, _, rfl, iteF ?_⟩
  refine ⟨_, rfl, _, rfl, rfl, _, rfl, rfl, _, rfl, rfl, (by show 3 ≤ sizeLine; decide), fun p4 hp4 => ?_⟩
  rw [d1, d2, d3]
  have g4 := g3.trans (same_new hp4 (.lst [V.bl (decide (2 = i)), V.bl (decide (6 = i)), V.bl (decide (9 = i))]))
  refine ⟨p1, p4, _, _, rfl, rfl, SqL.of (same_new hp4 _ _ _ h13), SqL.of upd_same, bls_flat _, rfl, _, rfl, ?_⟩
  have er : eqVs ([decide (2 = i), decide (6 = i), decide (9 = i)].map V.bl) [V.bl (decide (2 = i)), V.bl (decide (6 = i)), V.bl (decide (9 = i))] = true := eqVs_refl (bls_flat [decide (2 = i), decide (6 = i), decide (9 = i)])
  rw [er]
  refine iteF ?_
  generalize upd (upd (upd (upd H p1 (.lst ([decide (2 = i), decide (6 = i), decide (9 = i)].map V.bl))) p2 (.lst ([decide (0 = i), decide (1 = i), decide (4 = i), decide (3 = i)].map V.bl))) p3 (.lst ([decide (5 = i), decide (7 = i), decide (8 = i), decide (10 = i)].map V.bl))) p4 (.lst [V.bl (decide (2 = i)), V.bl (decide (6 = i)), V.bl (decide (9 = i))]) = H4 at g4
  refine ⟨_, rfl, rfl, _, rfl, ?_⟩
  by_cases z : j = 0
  · subst z
    cases hc
    rw [decide_eq_true (show V.str (dueT (some 0)) = V.str "large" from rfl)]
    cases d with
    | none => exact absurd rfl (hj0 rfl)
    | some dx =>
      have hA4 := g4 _ _ hA
      have hD4 := g4 _ _ (hD dx rfl)
      refine iteF ⟨_, rfl, e, _, dx, T, _, _, rfl, hA4, hD4, E.xc, hna, rfl, _, rfl, _, rfl, iteT ?_⟩
      exact ⟨_, rfl, e, _, dx, T, _, _, rfl, hA4, hD4, E.xc, hna, rfl, rfl, q _ g4⟩
  · have nl : decide (V.str (dueT (some j)) = V.str "large") = false := by
      rcases (show j = 1 ∨ j = 2 by omega) with rfl | rfl <;> decide +kernel
    rw [nl]
    exact iteT (q _ g4)
theorem due_none0 {n wd : Nat} {i : Int} (h : dueB 0 n wd i = none) : n < 60 ∧ 0 ≤ i ∧ i < ((2 ^ wd : Nat) : Int) := by
  rw [due0] at h
  by_cases c : 60 ≤ n
  · rw [if_pos c] at h; cases h
  · rw [if_neg c] at h
    by_cases d : 0 ≤ i ∧ i < ((2 ^ wd : Nat) : Int)
    · exact ⟨by omega, d⟩
    · rw [if_neg d] at h; cases h
theorem due_none1 {n wd : Nat} {i : Int} (h : dueB 1 n wd i = none) : 0 ≤ i ∧ i < (n : Int) := by
  rw [due1] at h
  by_cases d : 0 ≤ i ∧ i < (n : Int)
  · exact d
  · rw [if_neg d] at h; cases h
theorem due_none3 {n wd : Nat} {i : Int} (h : dueB 3 n wd i = none) : 0 ≤ i ∧ i < (wd : Int) := by
  rw [due3] at h
  by_cases d : 0 ≤ i ∧ i < (wd : Int)
  · exact d
  · rw [if_neg d] at h; cases h
theorem due_after {dd wd m : Nat} {rs : List Nat} (hdd : dd < 4) (hw : wd ≤ 10) (hl : rs.length ≤ 60) (hR : Rows wd rs) (h : dueB dd rs.length wd (m : Int) = none) : Rows (wdTo dd wd) (rowsTo dd rs wd m) ∧ (rowsTo dd rs wd m).length ≤ 60 ∧ (wd : Int) + ([0, 0, 1, -1] : List Int)[dd]'(by exact hdd) = ((wdTo dd wd : Nat) : Int) := by
  rcases (show dd = 0 ∨ dd = 1 ∨ dd = 2 ∨ dd = 3 by omega) with rfl | rfl | rfl | rfl
  · have := due_none0 h
    exact ⟨(show Rows wd (rs ++ [m]) from rows_snoc hR (by omega)), (by show (rs ++ [m]).length ≤ 60; rw [List.length_append, List.length_singleton]; omega), by show (wd : Int) + 0 = (wd : Int); omega⟩
  · exact ⟨(fun r hr => hR r (List.mem_of_mem_eraseIdx hr)), Nat.le_trans (List.length_eraseIdx_le ..) hl, by show (wd : Int) + 0 = (wd : Int); omega⟩
  · exact ⟨withC_rows hR, (by show (withC rs wd m).length ≤ 60; rw [withC_len]; exact hl), rfl⟩
  · have := due_none3 h
    exact ⟨lessC_rows hR (by omega), (by show (rs.map _).length ≤ 60; rw [List.length_map]; exact hl), by show (wd : Int) + -1 = ((wd - 1 : Nat) : Int); omega⟩
inductive IspBehind (vs : List V) (H : Hp) (Q : VK) (E : XK) : Prop where
  | mk (k : Addr) (rs : List Nat) (wd dd m : Nat) (hh0 : vs = [.ref k, .int wd, .int dd, .int m]) (hh1 : H k = some (.lst (rs.map nv))) (hh2 : rs.length ≤ 60) (hh3 : wd ≤ 10) (hh4 : Rows wd rs) (hh5 : dd < 4) (hh6 : dueB dd rs.length wd (m : Int) = none) (hh7 : ∀ k' H', Same H H' → H k' = none → H' k' = some (.lst ((rowsTo dd rs wd m).map nv)) → Q (.ref k') H') : IspBehind vs H Q E
noncomputable def spBehind : Sp := fun vs H Q E => IspBehind vs H Q E
seal PA PE PS PSs in
theorem ok_law_behind {f_law_behind : Addr} {fd_law_behind : FuncData} (F_law_behind : Fun K "_law_behind" "_law_behind" s_law_behind f_law_behind fd_law_behind)
    {f_law_less : Addr} {fd_law_less : FuncData} (G_law_less : FnOk P w K mg base CX0 1 f_law_less fd_law_less ["_law_members", "_law_place"] (spLessC)) (b_law_less : Binds K fd_law_less ["_law_members", "_law_place"] []) (k_law_less : PySem.W.keepIn K (.ref f_law_less) = true) (m_law_less : mg "_law_less" = some (.ref f_law_less))
    (z_enumerate : mg "enumerate" = none) :
    FnOk P w K mg base CX0 2 f_law_behind fd_law_behind ["_law_rows", "_law_wide", "_law_deed", "_law_given_here"] (spBehind) := by
  refine F_law_behind.ok sc_law_behind (fun vs H Q E h => ?_) (fun cdv A outer s H vs Q E hr h => ?_)
  · obtain ⟨k, rs, wd, dd, m, rfl, hk, hl, hw, hR, hdd, hd, q⟩ := h
    rfl
  obtain ⟨k, rs, wd, dd, m, rfl, hk, hl, hw, hR, hdd, hd, q⟩ := h
  refine ⟨_, (pss_cons (ps_if (pt_cmpR op_eq (pv 2) pe_int (nomark _)) (pss_one (ps_ret (pe_op op_cat (pv 0) (pe_lst (pa_cons (pv 3) pa_nil))))) pss_nil)
      (pss_cons (ps_if (pt_cmpR op_eq (pv 2) pe_int (nomark _)) (pss_one (ps_ret (pe_op op_cat (pe_slice (sl_listK (K := K) rfl) (pv 0) po_none (po_some (pv 3))) (pe_slice (sl_listK (K := K) rfl) (pv 0) (po_some (pe_op op_add (pv 3) pe_int)) po_none)))) pss_nil)
      (pss_cons (ps_if (pt_cmpR op_eq (pv 2) pe_int (nomark _)) (pss_one (ps_ret (pe_comp (own := ["_law_k", "_law_row"]) rfl (pi_enumK (K := K) rfl rfl z_enumerate (pa_cons (pv 0) pa_nil)) (fun _ _ _ _ _ => (pg_tupK (K := K) (n := 2) rfl rfl (pgs_cons (pg_name (i := 0) nd_law_behind_4 rfl (Or.inl rfl)) (pgs_cons (pg_name (i := 1) nd_law_behind_4 rfl (Or.inl rfl)) pgs_nil)))) (fun _ _ _ _ _ => pif_nil) (fun _ _ _ _ _ => (pe_op op_add (pv 1) (pe_op op_shl (pe_op op_and (pe_op op_shr (pv 5) (pv 0)) pe_int) (pv 3))))))) pss_nil)
      (pss_one (ps_ret (pe_comp (own := ["_law_row"]) rfl (pi_listK (K := K) rfl (pv 0)) (fun _ _ _ _ _ => (pg_name (i := 0) nd_law_behind_5 rfl (Or.inl rfl))) (fun _ _ _ _ _ => pif_nil) (fun _ _ _ _ _ => (pe_call G_law_less (hr.mono (by decide)) rfl m_law_less k_law_less b_law_less .nil pass0 (pa_cons (pv 0) (pa_cons (pv 4) pa_nil)))))))))), ?_⟩
  rcases (show dd = 0 ∨ dd = 1 ∨ dd = 2 ∨ dd = 3 by omega) with rfl | rfl | rfl | rfl
  · refine ⟨_, rfl, rfl, _, rfl, ite_t rfl ⟨_, rfl, _, rfl, (by show 1 ≤ sizeLine; decide), fun l hl1 => ?_⟩⟩
    have s2 := same_new hl1 (.lst [V.int (m : Int)])
    have h2 : (upd H l (.lst [V.int (m : Int)])) l = some (.lst ([m].map nv)) := upd_same
    generalize upd H l (.lst [V.int (m : Int)]) = H2 at s2 h2
    refine ⟨k, l, _, _, rfl, rfl, s2 _ _ hk, h2, by rw [List.length_map, sizeLine_eq]; show rs.length + 1 ≤ _; omega, fun p hp => ?_⟩
    rw [← List.map_append]
    exact q p _ (s2.trans (same_new hp _)) (s2.free hp) upd_same
  · have hi : m < rs.length := by have := due_none1 hd; omega
    refine ⟨_, rfl, rfl, _, rfl, ite_f rfl ⟨_, rfl, rfl, _, rfl, ite_t rfl ?_⟩⟩
    refine ⟨_, rfl, _, rfl, _, rfl, k, _, rfl, SqL.of hk, fun s1 hs1 => ?_⟩
    rw [cut_take rs (Nat.le_of_lt hi)]
    have s2 := same_new hs1 (.lst ((rs.take m).map nv))
    have h2 : (upd H s1 (.lst ((rs.take m).map nv))) s1 = some (.lst ((rs.take m).map nv)) := upd_same
    generalize upd H s1 (.lst ((rs.take m).map nv)) = H2 at s2 h2
    refine ⟨_, rfl, _, rfl, _, _, rfl, rfl, _, rfl, k, _, rfl, SqL.of (s2 _ _ hk), fun t1 ht1 => ?_⟩
    rw [show ((m : Int) + 1) = ((m + 1 : Nat) : Int) from rfl, cut_drop rs hi]
    have s3 := same_new ht1 (.lst ((rs.drop (m + 1)).map nv))
    have h3 : (upd H2 t1 (.lst ((rs.drop (m + 1)).map nv))) t1 = some (.lst ((rs.drop (m + 1)).map nv)) := upd_same
    have h23 := s3 _ _ h2
    generalize upd H2 t1 (.lst ((rs.drop (m + 1)).map nv)) = H3 at s3 h3 h23
    refine ⟨s1, t1, _, _, rfl, rfl, h23, h3, by rw [List.length_map, List.length_map, List.length_take, List.length_drop, sizeLine_eq]; omega, fun p hp => ?_⟩
    rw [← List.map_append, ← List.eraseIdx_eq_take_drop_succ]
    have s13 := s2.trans s3
    exact q p _ (s13.trans (same_new hp _)) (s13.free hp) upd_same
  · refine ⟨_, rfl, rfl, _, rfl, ite_f rfl ⟨_, rfl, rfl, _, rfl, ite_f rfl ⟨_, rfl, rfl, _, rfl, ite_t rfl ?_⟩⟩⟩
    refine ⟨_, rfl, k, rfl, ⟨_, SqL.of hk⟩, ?_⟩
    refine comp_enum (K := K) (a := k) (xs := rs.map nv) (fun i ys H2 => ys = ((List.range i).map fun i => rs.getD i 0 + (m / 2 ^ i % 2) * 2 ^ wd).map nv ∧ Same H H2) (by rw [List.length_map]; exact line1000 (by omega)) ⟨rfl, Same.refl _⟩ (fun i ys H2 hi h => ?_) (fun i ys H2 hi h => SqL.of (h.2 _ _ hk)) (fun i z ys H2 t hi h ht => ?_) (fun ys H2 h => ?_)
    · rw [h.1, List.length_map, List.length_map, List.length_range]; exact Nat.le_refl _
    · obtain ⟨rfl, g2⟩ := h
      obtain ⟨hil, rfl⟩ := getI hi
      have g3 := same_one g2 ht (.tup [.int i, nv rs[i]])
      refine ⟨t, _, rfl, SqT.of upd_same, rfl, _, _, rfl, _, _, rfl, rfl, rfl, _, rfl, _, rfl, _, rfl, _, _, rfl, rfl, (by show (0 : Int) ≤ (i : Int); omega), _, _, rfl, rfl, ?_⟩
      try dsimp only
      rw [bit_nat]
      refine ⟨_, rfl, _, _, rfl, rfl, cshl (by omega) (by omega), _, _, rfl, rfl, ?_, g3⟩
      try dsimp only
      rw [shl_nat, List.range_succ, List.map_append, List.map_append, List.map_singleton, List.map_singleton, getD_lt hil]
      show _ ++ [V.int (((rs[i] : Nat) : Int) + ((m / 2 ^ i % 2 * 2 ^ wd : Nat) : Int))] = _
      rw [← Int.natCast_add]
      rfl
    · obtain ⟨rfl, g2⟩ := h
      intro k' hk'
      rw [List.length_map]
      exact q k' _ (g2.trans (same_new hk' _)) (g2.free hk') upd_same
  · have hp := due_none3 hd
    refine ⟨_, rfl, rfl, _, rfl, ite_f rfl ⟨_, rfl, rfl, _, rfl, ite_f rfl ⟨_, rfl, rfl, _, rfl, ite_f rfl ?_⟩⟩⟩
    refine ⟨_, rfl, k, rfl, ⟨_, SqL.of hk⟩, ?_⟩
    refine comp_list (K := K) (a := k) (xs := rs.map nv) (fun i ys H2 => ys = ((rs.take i).map fun r => lessC r m).map nv ∧ H = H2) (by rw [List.length_map]; exact line1000 (by omega)) ⟨rfl, rfl⟩ (fun i ys H2 hi h => ?_) (fun i ys H2 hi h => by rw [← h.2]; exact SqL.of hk) (fun i z ys H2 hi h => ?_) (fun ys H2 h => ?_)
    · rw [h.1, List.length_map, List.length_map, List.length_take]; omega
    · obtain ⟨rfl, rfl⟩ := h
      obtain ⟨hil, rfl⟩ := getI hi
      have hr10 : rs[i] < 2 ^ 10 := Nat.lt_of_lt_of_le (hR _ (List.getElem_mem hil)) (Nat.pow_le_pow_right (by decide) (by omega))
      refine ⟨rfl, _, rfl, _, rfl, rs[i], m, rfl, hr10, by omega, ?_, rfl⟩
      rw [← List.take_append_getElem hil, List.map_append, List.map_append]
      rfl
    · obtain ⟨rfl, rfl⟩ := h
      intro k' hk'
      rw [List.length_map, List.take_length]
      exact q k' _ (same_new hk' _) hk' upd_same
inductive IspGiven (K : PySem.W.Frag) (vs : List V) (H : Hp) (Q : VK) (E : XK) : Prop where
  | mk (k : Addr) (rs : List Nat) (wd dd : Nat) (nb fr : Int) (hh0 : vs = [.ref k, .int wd, .int dd, .int nb, .int fr]) (hh1 : SqL K H k (rs.map nv)) (hh2 : rs.length ≤ 60) (hh3 : wd ≤ 10) (hh4 : dd < 4) (hh5 : ∀ (z : Int) H', Same H H' → Q (.int z) H') : IspGiven K vs H Q E
noncomputable def spGiven (K : PySem.W.Frag) : Sp := fun vs H Q E => IspGiven K vs H Q E
seal PA PE PS PSs in
theorem ok_law_given {f_law_given : Addr} {fd_law_given : FuncData} (F_law_given : Fun K "_law_given" "_law_given" s_law_given f_law_given fd_law_given)
    (z_len : mg "len" = none) :
    FnOk P w K mg base CX0 1 f_law_given fd_law_given ["_law_rows", "_law_wide", "_law_deed", "_law_number", "_law_far"] (spGiven K) := by
  refine F_law_given.ok sc_law_given (fun vs H Q E h => ?_) (fun cdv A outer s H vs Q E hr h => ?_)
  · obtain ⟨k, rs, wd, dd, nb, fr, rfl, hK, hl, hw, hdd, q⟩ := h
    rfl
  obtain ⟨k, rs, wd, dd, nb, fr, rfl, hK, hl, hw, hdd, q⟩ := h
  refine ⟨_, (pss_cons (ps_set (i := 5) sc_law_given.nd rfl (Or.inl rfl) (pe_ix (ix_listK (K := K) rfl) (pe_lst (pa_cons (pe_op op_shl pe_int (pv 1)) (pa_cons (pe_callB (len_seqK (K := K) rfl) rfl z_len PySem.boot_len (pa_cons (pv 0) pa_nil)) (pa_cons (pe_op op_shl pe_int (pe_callB (len_seqK (K := K) rfl) rfl z_len PySem.boot_len (pa_cons (pv 0) pa_nil))) (pa_cons (pv 1) pa_nil))))) (pv 2) (by intro _ _; rfl)))
      (pss_cons (ps_if (PW.pt (pw_or (pt_cmpR op_eq (pe_op op_mod (pv 3) pe_int) pe_int (nomark _)) (pw_or1 (pt_cmpR op_eq (pv 5) pe_int (nomark _))))) (pss_one (ps_ret (pe_ix (ix_listK (K := K) rfl) (pe_lst (pa_cons (pe_un un_neg pe_int) (pa_cons (pe_op op_sub (pe_un un_neg pe_int) (pv 4)) (pa_cons (pv 5) (pa_cons (pe_op op_add (pv 5) (pv 4)) pa_nil))))) (pe_op op_mod (pe_op op_fdiv (pv 3) pe_int) pe_int) (by intro _ _; rfl)))) pss_nil)
      (pss_one (ps_ret (pe_op op_mod (pe_op op_add (pe_op op_mul (pe_op op_fdiv (pv 3) pe_int) pe_int) (pe_op op_mul (pe_op op_mul (pe_op op_fdiv (pv 3) pe_int) pe_int) pe_int)) (pv 5)))))), ?_⟩
  refine ⟨_, rfl, _, _, rfl, rfl, cpow wd (by omega), _, rfl, k, _, rfl, .inl hK, _, rfl, k, _, rfl, .inl hK, _, _, rfl, rfl, cpow _ (by rw [List.length_map]; omega), _, rfl, (by show 4 ≤ sizeLine; decide), fun p hp => ?_⟩
  have e0 : [V.int (1 * 2 ^ (wd : Int).toNat), V.int ((rs.map nv).length : Int), V.int (1 * 2 ^ ((rs.map nv).length : Int).toNat), V.int (wd : Int)] = [2 ^ wd, rs.length, 2 ^ rs.length, wd].map nv := by
    rw [List.length_map, pow_one, pow_one]; rfl
  have g1 := same_new hp (.lst [V.int (1 * 2 ^ (wd : Int).toNat), V.int ((rs.map nv).length : Int), V.int (1 * 2 ^ ((rs.map nv).length : Int).toNat), V.int (wd : Int)])
  have h1 : (upd H p (.lst [V.int (1 * 2 ^ (wd : Int).toNat), V.int ((rs.map nv).length : Int), V.int (1 * 2 ^ ((rs.map nv).length : Int).toNat), V.int (wd : Int)])) p = some (.lst ([2 ^ wd, rs.length, 2 ^ rs.length, wd].map nv)) := by rw [upd_same, e0]
  generalize upd H p (.lst [V.int (1 * 2 ^ (wd : Int).toNat), V.int ((rs.map nv).length : Int), V.int (1 * 2 ^ ((rs.map nv).length : Int).toNat), V.int (wd : Int)]) = H1 at g1 h1
  refine ⟨_, rfl, p, _, _, _, rfl, rfl, SqL.of h1, atI_map (by exact hdd), ?_⟩
  generalize ([2 ^ wd, rs.length, 2 ^ rs.length, wd] : List Nat)[dd] = rm
  try dsimp only [gName]
  refine if_known (decide (V.int (nb % 3) = V.int 0) || decide (nv rm = V.int 0)) (fun Q' hQ => ?_) ?_
  · refine ⟨_, rfl, _, _, rfl, rfl, (by show (0 : Int) < 3; decide), rfl, _, rfl, ?_⟩
    cases e1 : decide (V.int (nb % 3) = V.int 0) with
    | true => rw [e1] at hQ; exact iteT hQ
    | false => rw [e1] at hQ; exact iteF ⟨_, rfl, rfl, _, rfl, hQ⟩
  refine ite2 (fun _ => ?_) (fun hc => ?_)
  · refine ⟨_, rfl, _, rfl, _, rfl, _, _, rfl, rfl, _, rfl, _, rfl, _, rfl, _, _, rfl, rfl, (by show 4 ≤ sizeLine; decide), fun p2 hp2 => ?_⟩
    have g2 := g1.trans (same_new hp2 (.lst [V.int (-1), V.int (-1 - fr), V.int (rm : Int), V.int ((rm : Int) + fr)]))
    have h2 : (upd H1 p2 (.lst [V.int (-1), V.int (-1 - fr), V.int (rm : Int), V.int ((rm : Int) + fr)])) p2 = some (.lst ([-1, -1 - fr, (rm : Int), (rm : Int) + fr].map V.int)) := upd_same
    obtain ⟨j, ej, hj⟩ := emod_nat (nb / 3) (n := 4) (by decide)
    have ej : nb / 3 % 4 = (j : Int) := ej
    refine ⟨_, rfl, _, _, rfl, rfl, ⟨by decide, by decide⟩, _, _, rfl, rfl, (by show (0 : Int) < 4; decide), ?_⟩
    try dsimp only
    rw [ej]
    exact ⟨p2, _, _, _, rfl, rfl, SqL.of h2, atI_map (by show j < 4; exact hj), q _ _ g2⟩
  · have hpos : (0 : Int) < (rm : Int) := by
      have : rm ≠ 0 := fun z => hc (by rw [z, Bool.or_eq_true]; exact .inr rfl)
      omega
    exact ⟨_, rfl, _, _, rfl, rfl, ⟨by decide, by decide⟩, _, _, rfl, rfl, .inr ⟨by decide, by decide⟩, _, rfl, _, _, rfl, rfl, ⟨by decide, by decide⟩, _, _, rfl, rfl, .inr ⟨by decide, by decide⟩, _, _, rfl, rfl, .inr ⟨by decide, by decide⟩, _, _, rfl, rfl, _, rfl, _, _, rfl, rfl, hpos, q _ _ g1⟩
inductive IspLRightC (K : PySem.W.Frag) (C : Addr) (vs : List V) (H : Hp) (Q : VK) (E : XK) : Prop where
  | mk (x : Addr) (wd : Nat) (a : Addr) (rs : List Nat) (k : Addr) (s : Bool) (hh0 : vs = [.ref x, .ref k, .int wd, .bl s]) (hh1 : BookB C H x wd a rs) (hh2 : SqL K H k (rs.map nv)) (hh3 : rs.length ≤ 100) (hh4 : ∀ H', Same H H' → Q (.bl true) H') : IspLRightC K C vs H Q E
noncomputable def spLRightC (K : PySem.W.Frag) (C : Addr) : Sp := fun vs H Q E => IspLRightC K C vs H Q E
seal PA PE PS PSs in
theorem ok_law_right {C_Book : Addr} (T_Book : Txt_Book K C_Book)
    {f_law_right : Addr} {fd_law_right : FuncData} (F_law_right : Fun K "_law_right" "_law_right" s_law_right f_law_right fd_law_right)
    {f_Book_width : Addr} {fd_Book_width : FuncData} (G_Book_width : FnOk P w K mg base CX0 1 f_Book_width fd_Book_width ["self"] (spBWidth C_Book)) (b_Book_width : Binds K fd_Book_width ["self"] [])
    (h_Book_width : Meth K C_Book "width" f_Book_width)
    {f_law_whole : Addr} {fd_law_whole : FuncData} (G_law_whole : FnOk P w K mg base CX0 1 f_law_whole fd_law_whole ["_law_found"] (spWhole)) (b_law_whole : Binds K fd_law_whole ["_law_found"] []) (k_law_whole : PySem.W.keepIn K (.ref f_law_whole) = true) (m_law_whole : mg "_law_whole" = some (.ref f_law_whole))
    {f_Book_rows : Addr} {fd_Book_rows : FuncData} (G_Book_rows : FnOk P w K mg base CX0 1 f_Book_rows fd_Book_rows ["self"] (spBRows C_Book)) (b_Book_rows : Binds K fd_Book_rows ["self"] [])
    (h_Book_rows : Meth K C_Book "rows" f_Book_rows)
    {f_Book_ideas : Addr} {fd_Book_ideas : FuncData} (G_Book_ideas : FnOk P w K mg base CX0 4 f_Book_ideas fd_Book_ideas ["self"] (spBIdeas C_Book)) (b_Book_ideas : Binds K fd_Book_ideas ["self"] [])
    (h_Book_ideas : Meth K C_Book "ideas" f_Book_ideas)
    {f_law_cuts : Addr} {fd_law_cuts : FuncData} (G_law_cuts : FnOk P w K mg base CX0 1 f_law_cuts fd_law_cuts ["_law_found", "_law_rows", "_law_wide"] (spLCuts K)) (b_law_cuts : Binds K fd_law_cuts ["_law_found", "_law_rows", "_law_wide"] []) (k_law_cuts : PySem.W.keepIn K (.ref f_law_cuts) = true) (m_law_cuts : mg "_law_cuts" = some (.ref f_law_cuts))
    {f_law_pairs : Addr} {fd_law_pairs : FuncData} (G_law_pairs : FnOk P w K mg base CX0 3 f_law_pairs fd_law_pairs ["_law_found", "_law_rows", "_law_wide"] (spLPairs K)) (b_law_pairs : Binds K fd_law_pairs ["_law_found", "_law_rows", "_law_wide"] []) (k_law_pairs : PySem.W.keepIn K (.ref f_law_pairs) = true) (m_law_pairs : mg "_law_pairs" = some (.ref f_law_pairs)) :
    FnOk P w K mg base CX0 5 f_law_right fd_law_right ["_law_book", "_law_rows", "_law_wide", "_law_look"] (spLRightC K C_Book) := by
  refine F_law_right.ok sc_law_right (fun vs H Q E h => ?_) (fun cdv A outer s H vs Q E hr h => ?_)
  · obtain ⟨x, wd, a, rs, k, s, rfl, hB, hK, hl, q⟩ := h
    rfl
  obtain ⟨x, wd, a, rs, k, s, rfl, hB, hK, hl, q⟩ := h
  refine ⟨_, (pss_cons (ps_if (PW.pt (pw_or (pt_cmpR (op_neLK (K := K) rfl hr.units0) (pe_meth0 (pv 0) T_Book.cl h_Book_rows G_Book_rows (hr.mono (by decide)) b_Book_rows .nil pass0) (pv 1) (nomark _)) (pw_or (pt_not (pt_val (pe_call G_law_whole (hr.mono (by decide)) rfl m_law_whole k_law_whole b_law_whole .nil pass0 (pa_cons (pe_meth0 (pv 0) T_Book.cl h_Book_width G_Book_width (hr.mono (by decide)) b_Book_width .nil pass0) pa_nil)))) (pw_or1 (pt_cmpR op_ne (pe_meth0 (pv 0) T_Book.cl h_Book_width G_Book_width (hr.mono (by decide)) b_Book_width .nil pass0) (pv 2) (nomark _)))))) (pss_one (ps_ret pe_bl)) pss_nil)
      (pss_cons (ps_if (pt_not (pt_val (pv 3))) (pss_one (ps_ret pe_bl)) pss_nil)
      (pss_cons (ps_set (i := 4) sc_law_right.nd rfl (Or.inl rfl) (pe_meth0 (pv 0) T_Book.cl h_Book_ideas G_Book_ideas (hr.mono (by decide)) b_Book_ideas .nil pass0))
      (pss_one (ps_ret (pe_and (pe_call G_law_pairs (hr.mono (by decide)) rfl m_law_pairs k_law_pairs b_law_pairs .nil pass0 (pa_cons (pv 4) (pa_cons (pv 1) (pa_cons (pv 2) pa_nil)))) (pe_one (pe_call G_law_cuts (hr.mono (by decide)) rfl m_law_cuts k_law_cuts b_law_cuts .nil pass0 (pa_cons (pv 4) (pa_cons (pv 1) (pa_cons (pv 2) pa_nil))))))))))), ?_⟩
  obtain ⟨dx, hx⟩ := hB.ins
  refine ⟨_, rfl, x, dx, _, rfl, hx, rfl, x, wd, a, rs, rfl, hB, fun r hr => ?_⟩
  have g1 := same_new hr (.lst (rs.map nv))
  have hr1 : (upd H r (.lst (rs.map nv))) r = some (.lst (rs.map nv)) := upd_same
  generalize upd H r (.lst (rs.map nv)) = H1 at g1 hr1
  have hx1 := g1 _ _ hx
  have hB1 := hB.same g1
  refine ⟨_, rfl, r, k, _, _, rfl, rfl, SqL.of hr1, g1.seq hK, nv_flat rs, nv_flat rs, _, rfl, ?_⟩
  rw [eqVs_nv]
  refine iteF ⟨_, rfl, x, dx, _, rfl, hx1, rfl, x, wd, a, rs, rfl, hB1, _, rfl, _, rfl, iteF ?_⟩
  refine ⟨_, rfl, x, dx, _, rfl, hx1, rfl, x, wd, a, rs, rfl, hB1, _, rfl, rfl, _, rfl, iteNS rfl ?_⟩
  refine ⟨_, rfl, _, rfl, ?_⟩
  cases s with
  | false => exact iteT (q _ g1)
  | true =>
    refine iteF ⟨_, rfl, x, dx, _, rfl, hx1, rfl, x, wd, a, rs, rfl, hB1, hl, fun p prs H2 g2 hp0 hp hI hM => ?_⟩
    have g12 := g1.trans g2
    refine ⟨_, rfl, _, rfl, _, rfl, p, prs, k, rs, wd, rfl, hp, hI, hM, g12.seq hK, hl, hB.wd10, fun H3 g3 => ⟨_, rfl, iteT ?_⟩⟩
    exact ⟨_, rfl, _, rfl, _, rfl, p, prs, k, rs, wd, rfl, g3 _ _ hp, hI.same g3, hM, (g12.trans g3).seq hK, hl, hB.wd10, fun H4 g4 => q _ ((g12.trans g3).trans g4)⟩
theorem nat_mod {x n : Int} (hn : 0 < n) : ∃ k : Nat, x % n = (k : Int) := ⟨(x % n).toNat, by have := Int.emod_nonneg x (show n ≠ 0 by omega); omega⟩
structure Kpt (C : Addr) (H : Hp) (x k t p0 : Addr) (cs : List Int) (wd : Nat) : Prop where
  ex : ∃ (a : Addr) (rs : List Nat) (ag : Nat) (av : Int), BookB C H x wd a rs ∧ H k = some (.lst (rs.map nv)) ∧ k ≠ a ∧ Rows wd rs ∧ rs.length ≤ 60 ∧ H t = some (.tup [.int ag, .int av]) ∧ ag < 4 ∧ H p0 = some (.lst (cs.map V.int)) ∧ p0 ≠ a
theorem Kpt.list {C : Addr} {H : Hp} {x k t p0 : Addr} {cs : List Int} {wd : Nat} (h : Kpt C H x k t p0 cs wd) : H p0 = some (.lst (cs.map V.int)) := by
  obtain ⟨_, _, _, _, _, _, _, _, _, _, _, h, _⟩ := h.ex
  exact h
seal PA PE PS PSs in
theorem ok_law {C_Book : Addr} (T_Book : Txt_Book K C_Book)
    {f_law : Addr} {fd_law : FuncData} (F_law : Fun K "law" "law" s_law f_law fd_law)
    {f_law_cell_at : Addr} {fd_law_cell_at : FuncData} (G_law_cell_at : FnOk P w K mg base CX0 1 f_law_cell_at fd_law_cell_at ["_law_script", "_law_k"] (spCell K)) (b_law_cell_at : Binds K fd_law_cell_at ["_law_script", "_law_k"] []) (k_law_cell_at : PySem.W.keepIn K (.ref f_law_cell_at) = true) (m_law_cell_at : mg "_law_cell_at" = some (.ref f_law_cell_at))
    {f_Book_init : Addr} {fd_Book_init : FuncData} (G_Book_init : FnOk P w K mg base CX0 1 f_Book_init fd_Book_init ["self", "width"] (spBInit C_Book)) (b_Book_init : Binds K fd_Book_init ["self", "width"] [])
    {f_Book_put_thing : Addr} {fd_Book_put_thing : FuncData} (G_Book_put_thing : FnOk P w K mg base (CXE P w) 3 f_Book_put_thing fd_Book_put_thing ["self", "row"] (spDeed C_Book [C_TooLarge, C_BadSet, C_OutOfPlace] 0)) (b_Book_put_thing : Binds K fd_Book_put_thing ["self", "row"] [])
    (h_Book_put_thing : Meth K C_Book "put_thing" f_Book_put_thing)
    {f_law_given : Addr} {fd_law_given : FuncData} (G_law_given : FnOk P w K mg base CX0 1 f_law_given fd_law_given ["_law_rows", "_law_wide", "_law_deed", "_law_number", "_law_far"] (spGiven K)) (b_law_given : Binds K fd_law_given ["_law_rows", "_law_wide", "_law_deed", "_law_number", "_law_far"] []) (k_law_given : PySem.W.keepIn K (.ref f_law_given) = true) (m_law_given : mg "_law_given" = some (.ref f_law_given))
    {f_law_bad : Addr} {fd_law_bad : FuncData} (G_law_bad : FnOk P w K mg base CX0 1 f_law_bad fd_law_bad ["_law_rows", "_law_wide", "_law_deed", "_law_given_here"] (spBad K)) (b_law_bad : Binds K fd_law_bad ["_law_rows", "_law_wide", "_law_deed", "_law_given_here"] []) (k_law_bad : PySem.W.keepIn K (.ref f_law_bad) = true) (m_law_bad : mg "_law_bad" = some (.ref f_law_bad))
    {f_law_due : Addr} {fd_law_due : FuncData} (G_law_due : FnOk P w K mg base CX0 1 f_law_due fd_law_due ["_law_rows", "_law_wide", "_law_deed", "_law_given_here"] (spDue K)) (b_law_due : Binds K fd_law_due ["_law_rows", "_law_wide", "_law_deed", "_law_given_here"] []) (k_law_due : PySem.W.keepIn K (.ref f_law_due) = true) (m_law_due : mg "_law_due" = some (.ref f_law_due))
    {f_law_alike : Addr} {fd_law_alike : FuncData} (G_law_alike : FnOk P w K mg base CX0 2 f_law_alike fd_law_alike ["_law_kept", "_law_due_here"] (spAlike K [C_TooLarge, C_BadSet, C_OutOfPlace])) (b_law_alike : Binds K fd_law_alike ["_law_kept", "_law_due_here"] []) (k_law_alike : PySem.W.keepIn K (.ref f_law_alike) = true) (m_law_alike : mg "_law_alike" = some (.ref f_law_alike))
    {f_law_done : Addr} {fd_law_done : FuncData} (G_law_done : FnOk P w K mg base CX0 4 f_law_done fd_law_done ["_law_book", "_law_deed", "_law_given_here"] (spDone C_Book [C_TooLarge, C_BadSet, C_OutOfPlace])) (b_law_done : Binds K fd_law_done ["_law_book", "_law_deed", "_law_given_here"] []) (k_law_done : PySem.W.keepIn K (.ref f_law_done) = true) (m_law_done : mg "_law_done" = some (.ref f_law_done))
    {f_law_behind : Addr} {fd_law_behind : FuncData} (G_law_behind : FnOk P w K mg base CX0 2 f_law_behind fd_law_behind ["_law_rows", "_law_wide", "_law_deed", "_law_given_here"] (spBehind)) (b_law_behind : Binds K fd_law_behind ["_law_rows", "_law_wide", "_law_deed", "_law_given_here"] []) (k_law_behind : PySem.W.keepIn K (.ref f_law_behind) = true) (m_law_behind : mg "_law_behind" = some (.ref f_law_behind))
    {f_law_right : Addr} {fd_law_right : FuncData} (G_law_right : FnOk P w K mg base CX0 5 f_law_right fd_law_right ["_law_book", "_law_rows", "_law_wide", "_law_look"] (spLRightC K C_Book)) (b_law_right : Binds K fd_law_right ["_law_book", "_law_rows", "_law_wide", "_law_look"] []) (k_law_right : PySem.W.keepIn K (.ref f_law_right) = true) (m_law_right : mg "_law_right" = some (.ref f_law_right))
    (M_Book : Mk K C_Book f_Book_init) (m_Book : mg "Book" = some (.ref C_Book))
    (z_range : mg "range" = none) :
    FnOk P w K mg base CX0 7 f_law fd_law ["_law_script"] (spLaw K) := by
  refine F_law.ok sc_law (fun vs H Q E h => ?_) (fun cdv A outer s H vs Q E hr h => ?_)
  · obtain ⟨a0, ns, rfl, hA, hn, q⟩ := h
    rfl
  obtain ⟨a0, ns, rfl, hA, hn, q⟩ := h
  refine ⟨_, (pss_cons (ps_set (i := 1) sc_law.nd rfl (Or.inr rfl) (pe_op op_mod (pe_call G_law_cell_at (hr.mono (by decide)) rfl m_law_cell_at k_law_cell_at b_law_cell_at .nil pass0 (pa_cons (pv 0) (pa_cons pe_int pa_nil))) pe_int))
      (pss_cons (ps_set (i := 2) sc_law.nd rfl (Or.inr rfl) (pe_op op_mod (pv 1) pe_int))
      (pss_cons (ps_set (i := 3) sc_law.nd rfl (Or.inl rfl) (pe_op op_add pe_int (pe_op op_mod (pe_op op_fdiv (pv 1) pe_int) pe_int)))
      (pss_cons (ps_if (pt_cmpR op_eq (pe_op op_mod (pe_op op_fdiv (pv 1) pe_int) pe_int) pe_int (nomark _)) (pss_cons (ps_set (i := 2) sc_law.nd rfl (Or.inr rfl) (pe_op op_add pe_int (pe_op op_mod (pv 1) pe_int)))
      (pss_one (ps_set (i := 3) sc_law.nd rfl (Or.inl rfl) (pe_op op_mod (pe_op op_fdiv (pv 1) pe_int) pe_int)))) pss_nil)
      (pss_cons (ps_setcomp (i := 4) (own := ["_law_k"]) rfl sc_law.nd rfl (Or.inl rfl) (pi_range1 rfl z_range (pa_cons (pv 3) pa_nil)) (fun _ _ _ _ _ => (pg_name (i := 0) nd_law_6 rfl (Or.inl rfl))) (fun _ _ _ _ _ => pif_nil) (fun _ _ _ _ _ => (pe_op op_mod (pe_op op_mod (pe_op op_add (pe_op op_mul (pv 2) pe_int) (pe_op op_mul (pe_op op_mul (pv 0) (pv 0)) pe_int)) pe_int) (pe_op op_shl pe_int (pv 3)))))
      (pss_cons (ps_set (i := 5) sc_law.nd rfl (Or.inl rfl) (pe_make M_Book G_Book_init (hr.mono (by decide)) rfl m_Book b_Book_init .nil pass0 (pa_cons (pv 2) pa_nil)))
      (pss_cons (ps_for PassesOwn.never rfl (pi_listK (K := K) rfl (pv 4)) (pg_name (i := 6) sc_law.nd rfl (Or.inl rfl)) (pss_one (ps_expr (pe_meth (pv 5) T_Book.cl h_Book_put_thing G_Book_put_thing (hr.mono (by decide)) b_Book_put_thing .nil passF (pa_cons (pv 6) pa_nil)))))
      (pss_cons (ps_set (i := 7) sc_law.nd rfl (Or.inl rfl) (pe_tup (pa_cons pe_int (pa_cons (pv 3) pa_nil))))
      (pss_cons (ps_for PassesOwn.never rfl (pi_listK (K := K) rfl (pe_slice (sl_listK (K := K) rfl) (pv 0) (po_some pe_int) po_none)) (pg_name (i := 8) sc_law.nd rfl (Or.inl rfl)) (pss_cons (ps_set (i := 9) sc_law.nd rfl (Or.inl rfl) (pe_op op_mod (pe_op op_mul (pe_op op_mod (pv 8) pe_int) pe_int) pe_int))
      (pss_cons (ps_set (i := 10) sc_law.nd rfl (Or.inl rfl) (pe_op op_mod (pv 9) pe_int))
      (pss_cons (ps_set (i := 11) sc_law.nd rfl (Or.inl rfl) (pe_call G_law_given (hr.mono (by decide)) rfl m_law_given k_law_given b_law_given .nil pass0 (pa_cons (pv 4) (by exact (pa_cons (pv 2) (by exact (pa_cons (pv 10) (by exact (pa_cons (pe_op op_fdiv (pv 9) pe_int) (by exact (pa_cons (pe_op op_mod (pv 8) (pe_op op_pow pe_int pe_int)) (by exact pa_nil))))))))))))
      (pss_cons (ps_if (pt_cmpR op_eq (pe_op op_mod (pe_op op_fdiv (pv 9) pe_int) pe_int) pe_int (nomark _)) (pss_cons (ps_set (i := 10) sc_law.nd rfl (Or.inl rfl) (pe_ix (ix_tupK (K := K) rfl) (pv 7) pe_int (by intro _ _; rfl)))
      (pss_one (ps_set (i := 11) sc_law.nd rfl (Or.inl rfl) (pe_ix (ix_tupK (K := K) rfl) (pv 7) pe_int (by intro _ _; rfl))))) pss_nil)
      (pss_cons (ps_set (i := 11) sc_law.nd rfl (Or.inl rfl) (pe_call G_law_bad (hr.mono (by decide)) rfl m_law_bad k_law_bad b_law_bad .nil pass0 (pa_cons (pv 4) (pa_cons (pv 2) (pa_cons (pv 10) (pa_cons (pv 11) pa_nil))))))
      (pss_cons (ps_set (i := 12) sc_law.nd rfl (Or.inl rfl) (pe_call G_law_due (hr.mono (by decide)) rfl m_law_due k_law_due b_law_due .nil pass0 (pa_cons (pv 4) (pa_cons (pv 2) (pa_cons (pv 10) (pa_cons (pv 11) pa_nil))))))
      (pss_cons (ps_if (pt_not (pt_val (pe_call G_law_alike (hr.mono (by decide)) rfl m_law_alike k_law_alike b_law_alike .nil pass0 (pa_cons (pe_call G_law_done (hr.mono (by decide)) rfl m_law_done k_law_done b_law_done .nil pass0 (pa_cons (pv 5) (pa_cons (pv 10) (pa_cons (pv 11) pa_nil)))) (pa_cons (pv 12) pa_nil))))) (pss_one (ps_ret pe_bl)) pss_nil)
      (pss_cons (ps_if (pt_cmpR op_eq (pv 12) pe_str (nomark _)) (pss_cons (ps_set (i := 4) sc_law.nd rfl (Or.inl rfl) (pe_call G_law_behind (hr.mono (by decide)) rfl m_law_behind k_law_behind b_law_behind .nil pass0 (pa_cons (pv 4) (pa_cons (pv 2) (pa_cons (pv 10) (pa_cons (pv 11) pa_nil))))))
      (pss_one (ps_set (i := 2) sc_law.nd rfl (Or.inr rfl) (pe_op op_add (pv 2) (pe_ix (ix_listK (K := K) rfl) (pe_lst (pa_cons pe_int (pa_cons pe_int (pa_cons pe_int (pa_cons (pe_un un_neg pe_int) pa_nil))))) (pv 10) (by intro _ _; rfl)))))) (pss_one (ps_set (i := 7) sc_law.nd rfl (Or.inl rfl) (pe_tup (pa_cons (pv 10) (pa_cons (pv 11) pa_nil))))))
      (pss_one (ps_if (pt_not (pt_val (pe_call G_law_right (hr.mono (by decide)) rfl m_law_right k_law_right b_law_right .nil pass0 (pa_cons (pv 5) (pa_cons (pv 4) (pa_cons (pv 2) (pa_cons (pe_cmpR op_eq (pe_op op_mod (pv 8) pe_int) pe_int (nomark _)) pa_nil))))))) (pss_one (ps_ret pe_bl)) pss_nil)))))))))))
      (pss_one (ps_ret (pe_call G_law_right (hr.mono (by decide)) rfl m_law_right k_law_right b_law_right .nil pass0 (pa_cons (pv 5) (pa_cons (pv 4) (pa_cons (pv 2) (pa_cons pe_bl pa_nil)))))))))))))))), ?_⟩
  refine ⟨_, rfl, a0, ns, 0, rfl, hA, _, _, rfl, rfl, (by show (0 : Int) < 1000003; decide), ?_⟩
  try dsimp only
  obtain ⟨st, est, hst⟩ := emod_nat (ns.getD 0 0) (n := 1000003) (by decide)
  have est : ns.getD 0 0 % 1000003 = (st : Int) := est
  rw [est]
  refine ⟨_, rfl, _, _, rfl, rfl, (by show (0 : Int) < 4; decide), ?_⟩
  try dsimp only
  obtain ⟨w4, ew4, hw4⟩ := emod_nat (st : Int) (n := 4) (by decide)
  have ew4 : (st : Int) % 4 = (w4 : Int) := ew4
  rw [ew4]
  obtain ⟨m4, em4, hm4⟩ := emod_nat ((st : Int) / 4) (n := 4) (by decide)
  have em4 : (st : Int) / 4 % 4 = (m4 : Int) := em4
  refine ⟨_, rfl, _, _, rfl, rfl, ⟨by decide, by decide⟩, _, _, rfl, rfl, (by show (0 : Int) < 4; decide), _, _, rfl, rfl, ?_⟩
  try dsimp only
  rw [em4]
  refine seq_join (fun σ H1 => ∃ wd mn : Nat, σ = [some (.ref a0), some (.int st), some (.int wd), some (.int mn), none, none, none, none, none, none, none, none, none] ∧ wd ≤ 10 ∧ mn ≤ 60 ∧ H = H1) ?_ fun nx' hnx => ?_
  case refine_2 =>
    refine ⟨_, rfl, _, _, rfl, rfl, ⟨by decide, by decide⟩, _, _, rfl, rfl, (by show (0 : Int) < 2; decide), rfl, _, rfl, ite2 (fun _ => ?_) (fun _ => hnx _ _ ⟨w4, 57 + m4, rfl, by omega, by omega, rfl⟩)⟩
    obtain ⟨w3, ew3, hw3⟩ := emod_nat (st : Int) (n := 3) (by decide)
    have ew3 : (st : Int) % 3 = (w3 : Int) := ew3
    refine ⟨_, rfl, _, _, rfl, rfl, (by show (0 : Int) < 3; decide), _, _, rfl, rfl, ?_⟩
    try dsimp only
    rw [ew3]
    refine ⟨_, rfl, _, _, rfl, rfl, ⟨by decide, by decide⟩, _, _, rfl, rfl, (by show (0 : Int) < 4; decide), ?_⟩
    try dsimp only
    rw [em4]
    exact hnx _ _ ⟨8 + w3, m4, rfl, by omega, by omega, rfl⟩
  rintro σ H1 ⟨wd, mn, rfl, hwd, hmn, rfl⟩
  refine ⟨_, rfl, (mn : Int), rfl, by omega, by omega, ?_⟩
  rw [Int.toNat_natCast]
  refine comp_range (k := mn) (fun i ys H2 => ∃ rs : List Nat, ys = rs.map nv ∧ rs.length = i ∧ Rows wd rs ∧ H = H2) (line1000 (by omega)) ⟨[], rfl, rfl, rows_nil, rfl⟩ (fun i ys H2 _ z => ?_) (fun i ys H2 hi z => ?_) (fun ys H2 z => ?_)
  · obtain ⟨rs, rfl, e, _⟩ := z
    rw [List.length_map]; omega
  · obtain ⟨rs, rfl, e, hR, rfl⟩ := z
    obtain ⟨r, er, hr⟩ := emod_nat (((st : Int) * 48271 + (0 + (i : Int)) * (0 + (i : Int)) * 7919) % 65537) (pow_posN wd)
    refine ⟨rfl, _, rfl, _, _, rfl, rfl, .inr ⟨by decide, by decide⟩, _, rfl, _, rfl, _, _, rfl, rfl, .inl ⟨by omega, by omega⟩, _, _, rfl, rfl, .inr ⟨by decide, by decide⟩, _, _, rfl, rfl, _, _, rfl, rfl, (by show (0 : Int) < 65537; decide), _, rfl, _, _, rfl, rfl, cpow wd (by omega), _, _, rfl, rfl, (by rw [pow_one]; exact pow_pos' wd), ?_⟩
    try dsimp only
    rw [pow_one, er]
    exact ⟨rs ++ [r], by rw [List.map_append]; rfl, by rw [List.length_append, e]; rfl, rows_snoc hR hr, rfl⟩
  obtain ⟨rs0, rfl, hl0, hR0, rfl⟩ := z
  intro k hk
  have g1 := same_new hk (.lst (rs0.map nv))
  have hk1 : (upd H k (.lst (rs0.map nv))) k = some (.lst (rs0.map nv)) := upd_same
  generalize upd H k (.lst (rs0.map nv)) = H1 at g1 hk1
  refine ⟨_, rfl, fun x dx nx ndx nex => ?_⟩
  refine ⟨x, dx, wd, rfl, upd_same, hwd, fun H2 a na hB k2 => ⟨rfl, ?_⟩⟩
  have s2 := made_same nx ndx k2
  have oa : H1 a = none := made_none na
  refine ⟨_, rfl, k, rfl, ⟨_, SqL.of (s2 _ _ hk1)⟩, ?_⟩
  refine for_list (K := K) (a := k) (xs := rs0.map nv) (fun i σ H3 => ∃ (v6 : Option V) (a : Addr), σ = [some (.ref a0), some (.int st), some (.int wd), some (.int mn), some (.ref k), some (.ref x), v6, none, none, none, none, none, none] ∧ BookB C_Book H3 x wd a (rs0.take i) ∧ H1 a = none ∧ Same H1 H3) ⟨none, a, rfl, hB, oa, s2⟩ (fun i σ H3 _ z => by obtain ⟨_, _, _, _, _, g⟩ := z; exact SqL.of (g _ _ hk1)) ?_ ?_
  · rintro i z σ H3 hi ⟨v6, a, rfl, hB3, oa, s3⟩
    obtain ⟨hil, rfl⟩ := getI hi
    obtain ⟨dx3, hx3⟩ := hB3.ins
    have hlt : (rs0.take i).length < 60 := by rw [List.length_take]; omega
    have hr3 : rs0[i] < 2 ^ wd := hR0 _ (List.getElem_mem hil)
    have hd : dueB 0 (rs0.take i).length wd ((rs0[i] : Nat) : Int) = none := by rw [due0, if_neg (by omega), if_pos (by omega)]
    refine ⟨_, rfl, x, dx3, _, rfl, hx3, rfl, _, rfl, x, wd, a, rs0.take i, ((rs0[i] : Nat) : Int), rfl, hB3, (fun r hr => hR0 r (List.mem_of_mem_take hr)), by omega, (fun j c e => by rw [hd] at e; cases e), fun m em _ H4 a4 ha4 hB4 k4 => ?_⟩
    obtain rfl : rs0[i] = m := by omega
    refine ⟨_, a4, rfl, ?_, ?_, Same.kept s3 k4 (all2 nx oa)⟩
    · rw [← List.take_append_getElem hil]; exact hB4
    · rcases ha4 with rfl | z
      · exact oa
      · exact s3.free z
  rintro σ H3 ⟨v6, a, rfl, hB3, oa, s3⟩
  rw [List.length_map, List.take_length] at hB3
  have hk3 := s3 _ _ hk1
  have nka : k ≠ a := ne_of_none hk1 oa
  refine ⟨_, rfl, (by show 2 ≤ sizeLine; decide), fun t ht => ?_⟩
  have s4 := same_new ht (.tup [.int 1, .int (mn : Int)])
  have ht4 : (upd H3 t (.tup [.int 1, .int (mn : Int)])) t = some (.tup [.int 1, .int (mn : Int)]) := upd_same
  generalize upd H3 t (.tup [.int 1, .int (mn : Int)]) = H4 at s4 ht4
  have g4 := g1.trans (s3.trans s4)
  have hB4 := hB3.same s4
  refine ⟨_, rfl, _, rfl, a0, _, rfl, g4.seq hA, fun p0 hp0 => ?_⟩
  obtain ⟨cs, ecs, hcs⟩ := cutV_ints ns (some 1) none
  rw [ecs]
  have s5 := same_new hp0 (.lst (cs.map V.int))
  have hp5 : (upd H4 p0 (.lst (cs.map V.int))) p0 = some (.lst (cs.map V.int)) := upd_same
  have npa : p0 ≠ a := fun e => by rw [e, hB4.kn] at hp0; cases hp0
  generalize upd H4 p0 (.lst (cs.map V.int)) = H5 at s5 hp5
  refine ⟨p0, rfl, ⟨_, SqL.of hp5⟩, ?_⟩
  refine for_list (K := K) (a := p0) (xs := cs.map V.int) (fun i σ H6 => ∃ (wd : Nat) (k t : Addr) (v8 v9 v10 v11 v12 : Option V), σ = [some (.ref a0), some (.int st), some (.int wd), some (.int mn), some (.ref k), some (.ref x), v6, some (.ref t), v8, v9, v10, v11, v12] ∧ Kpt C_Book H6 x k t p0 cs wd)
    ⟨wd, k, t, none, none, none, none, none, rfl, ⟨a, rs0, 1, mn, hB4.same s5, s5 _ _ (s4 _ _ hk3), nka, hR0, by omega, s5 _ _ ht4, by decide, hp5, npa⟩⟩ (fun i σ H6 _ z => by obtain ⟨_, _, _, _, _, _, _, _, _, h⟩ := z; exact SqL.of h.list) ?_ ?_
  · rintro i zz σ H6 hi ⟨wd, k, t, v8, v9, v10, v11, v12, rfl, hP⟩
    obtain ⟨hil, rfl⟩ := getI hi
    obtain ⟨a, rs, ag, av, hB6, hk6, nka, hR, hl, hT6, hag, hp6, npa⟩ := hP.ex
    have hw := hB6.wd10
    obtain ⟨nb, enb⟩ := nat_mod (x := cs[i] % 1000003 * 48271) (n := 999983) (by decide)
    refine ⟨_, rfl, _, _, rfl, rfl, (by show (0 : Int) < 1000003; decide), _, _, rfl, rfl, .inr ⟨by decide, by decide⟩, _, _, rfl, rfl, (by show (0 : Int) < 999983; decide), ?_⟩
    try dsimp only
    rw [enb]
    obtain ⟨d0, ed0, hd0⟩ := emod_nat (nb : Int) (n := 4) (by decide)
    have ed0 : (nb : Int) % 4 = (d0 : Int) := ed0
    refine ⟨_, rfl, _, _, rfl, rfl, (by show (0 : Int) < 4; decide), ?_⟩
    try dsimp only
    rw [ed0]
    refine ⟨_, rfl, _, rfl, _, rfl, _, rfl, _, _, rfl, rfl, ⟨by decide, by decide⟩, _, rfl, _, _, rfl, rfl, ⟨by decide, by decide, by decide⟩, _, _, rfl, rfl, (by show (0 : Int) < 10 ^ (59 : Int).toNat; decide), k, rs, wd, d0, _, _, rfl, SqL.of hk6, hl, hw, hd0, fun z0 H7 g7 => ?_⟩
    try dsimp only
    have hT7 := g7 _ _ hT6
    refine seq_join (fun σ H8 => ∃ (dd : Nat) (z : Int), σ = [some (.ref a0), some (.int st), some (.int wd), some (.int mn), some (.ref k), some (.ref x), v6, some (.ref t), some (.int cs[i]), some (.int nb), some (.int dd), some (.int z), v12] ∧ dd < 4 ∧ H7 = H8) ?_ fun nx' hnx => ?_
    case refine_2 =>
      refine ⟨_, rfl, _, _, rfl, rfl, ⟨by decide, by decide⟩, _, _, rfl, rfl, (by show (0 : Int) < 4; decide), rfl, _, rfl, ite2 (fun _ => ?_) (fun _ => hnx _ _ ⟨d0, z0, rfl, hd0, rfl⟩)⟩
      exact ⟨_, rfl, t, _, _, _, rfl, rfl, SqT.of hT7, rfl, _, rfl, t, _, _, _, rfl, rfl, SqT.of hT7, rfl, hnx _ _ ⟨ag, av, rfl, hag, rfl⟩⟩
    rintro σ H8 ⟨dd, z1, rfl, hdd, rfl⟩
    have hk7 := g7 _ _ hk6
    refine ⟨_, rfl, _, rfl, _, rfl, _, rfl, k, rs, wd, dd, z1, rfl, SqL.of hk7, fun z => ?_⟩
    refine ⟨_, rfl, _, rfl, _, rfl, _, rfl, k, rs, wd, dd, z, rfl, SqL.of hk7, hl, hw, hdd, fun H8 g8 => ?_⟩
    try dsimp only
    obtain ⟨u, eu⟩ : ∃ u, u = dueB dd rs.length wd z := ⟨_, rfl⟩
    rw [← eu]
    have g68 := g7.trans g8
    have hB8 := hB6.same g68
    have hk8 := g68 _ _ hk6
    have hT8 := g68 _ _ hT6
    have hp8 := g68 _ _ hp6
    obtain ⟨dx8, hx8⟩ := hB8.ins
    have nkx : k ≠ x := ne_of hk8 hx8 (by intro z; cases z)
    have npx : p0 ≠ x := ne_of hp8 hx8 (by intro z; cases z)
    have ntx : t ≠ x := ne_of hT8 hx8 (by intro z; cases z)
    have nta : t ≠ a := ne_of hT8 hB8.kn (by intro z; cases z)
    refine seq_join (fun σ H9 => σ = [some (.ref a0), some (.int st), some (.int wd), some (.int mn), some (.ref k), some (.ref x), v6, some (.ref t), some (.int cs[i]), some (.int nb), some (.int dd), some (.int z), some (.str (dueT u))] ∧
        ((u = none ∧ ∃ (m : Nat) (a' : Addr), z = (m : Int) ∧ (a' = a ∨ H8 a' = none) ∧ BookB C_Book H9 x (wdTo dd wd) a' (rowsTo dd rs wd m) ∧ Kept [x, a] H8 H9) ∨ ((∃ j, u = some j ∧ j < 3) ∧ Same H8 H9))) ?_ fun nx' hnx => ?_
    case refine_2 =>
      refine ⟨_, rfl, _, rfl, _, rfl, x, wd, a, rs, dd, z, rfl, hdd, hB8, hR, hl, fun j c e H9 hd hc g9 hF => ?_, fun m em hd H9 a' ha' hB9 k9 => ?_⟩
      · have ej : u = some j := eu.trans hd
        have hj := due_lt hd
        exact ⟨_, rfl, u, _, rfl, .inr ⟨j, c, e, ej, hj, rfl, hc, hF⟩, fun H10 g10 => ⟨_, rfl, iteF (hnx _ _ ⟨rfl, .inr ⟨⟨j, ej, hj⟩, g9.trans g10⟩⟩)⟩⟩
      · have en : u = none := eu.trans hd
        exact ⟨_, rfl, u, _, rfl, .inl ⟨en, rfl⟩, fun H10 g10 => ⟨_, rfl, iteF (hnx _ _ ⟨rfl, .inl ⟨en, m, a', em, ha', hB9.same g10, k9.same g10⟩⟩)⟩⟩
    rintro σ H9 ⟨rfl, h9⟩
    refine seq_join (fun σ H10 => ∃ (wd : Nat) (k t : Addr), σ = [some (.ref a0), some (.int st), some (.int wd), some (.int mn), some (.ref k), some (.ref x), v6, some (.ref t), some (.int cs[i]), some (.int nb), some (.int dd), some (.int z), some (.str (dueT u))] ∧ Kpt C_Book H10 x k t p0 cs wd) ?_ fun nx' hnx => ?_
    case refine_2 =>
      rcases h9 with ⟨rfl, m, a', rfl, ha', hB9, k9⟩ | ⟨⟨j, rfl, hj⟩, g9⟩
      · refine ⟨_, rfl, rfl, _, rfl, ?_⟩
        rw [decide_eq_true (show V.str (dueT none) = V.str "" from rfl)]
        have hk9 := k9 _ _ (nm2 nkx nka) hk8
        obtain ⟨hR9, hl9, ew9⟩ := due_after hdd hw hl hR eu.symm
        refine iteT ⟨_, rfl, _, rfl, _, rfl, _, rfl, k, rs, wd, dd, m, rfl, hk9, hl, hw, hR, hdd, eu.symm, fun k' H10 g10 nk' hk' => ?_⟩
        refine ⟨_, rfl, _, rfl, (by show 4 ≤ sizeLine; decide), fun p hp => ?_⟩
        have s11 := same_new hp (.lst [V.int 0, V.int 0, V.int 1, V.int (-1)])
        have h11 : (upd H10 p (.lst [V.int 0, V.int 0, V.int 1, V.int (-1)])) p = some (.lst (([0, 0, 1, -1] : List Int).map V.int)) := upd_same
        generalize upd H10 p (.lst [V.int 0, V.int 0, V.int 1, V.int (-1)]) = H11 at s11 h11
        refine ⟨_, rfl, p, _, _, _, rfl, rfl, SqL.of h11, atI_map (by exact hdd), _, _, rfl, rfl, ?_⟩
        try dsimp only
        rw [ew9]
        have g11 := g10.trans s11
        have npa' : p0 ≠ a' := by
          rcases ha' with rfl | z
          · exact npa
          · exact ne_of_none hp8 z
        refine hnx _ _ ⟨wdTo dd wd, k', t, rfl, ⟨a', rowsTo dd rs wd m, ag, av, hB9.same g11, s11 _ _ hk', (fun e => by rw [e, hB9.kn] at nk'; cases nk'), hR9, hl9, g11 _ _ (k9 _ _ (nm2 ntx nta) hT8), hag, g11 _ _ (k9 _ _ (nm2 npx npa) hp8), npa'⟩⟩
      · obtain ⟨e0, _⟩ := due_eq j hj
        refine ⟨_, rfl, rfl, _, rfl, ?_⟩
        rw [e0]
        refine iteF ⟨_, rfl, _, rfl, (by show 2 ≤ sizeLine; decide), fun t' ht' => ?_⟩
        have s10 := g9.trans (same_new ht' (.tup [.int (dd : Int), .int z]))
        exact hnx _ _ ⟨wd, k, t', rfl, ⟨a, rs, dd, z, hB8.same s10, s10 _ _ hk8, nka, hR, hl, upd_same, hdd, s10 _ _ hp8, npa⟩⟩
    rintro σ H10 ⟨wd, k, t, rfl, hP⟩
    obtain ⟨a, rs, ag, av, hB, hk, nka, hR, hl, hT, hag, hp, npa⟩ := hP.ex
    refine ⟨_, rfl, _, rfl, _, rfl, _, rfl, _, _, rfl, rfl, (by show (0 : Int) < 2; decide), rfl, x, wd, a, rs, k, _, rfl, hB, SqL.of hk, by omega, fun H11 g11 => ⟨_, rfl, iteF ?_⟩⟩
    exact ⟨wd, k, t, _, _, _, _, _, rfl, ⟨a, rs, ag, av, hB.same g11, g11 _ _ hk, nka, hR, hl, g11 _ _ hT, hag, g11 _ _ hp, npa⟩⟩
  rintro σ H6 ⟨wd, k, t, v8, v9, v10, v11, v12, rfl, hP⟩
  obtain ⟨a, rs, ag, av, hB, hk, nka, hR, hl, hT, hag, hp, npa⟩ := hP.ex
  exact ⟨_, rfl, _, rfl, _, rfl, x, wd, a, rs, k, true, rfl, hB, SqL.of hk, by omega, fun H7 g7 => q H7⟩
end
theorem all_mk {l : PySem.W.OpenLaw} {w : World} {K : PySem.W.Frag} {h : Heap} {mg : Str → Option Value} {fa f1 f2 f3 f4 f5 f6 f7 f8 f9 f10 f11 f12 f13 f14 f15 f16 f17 f18 f19 f20 f21 f22 f23 f24 f25 f26 f27 f28 f29 f30 f31 f32 f33 C_TraitError C_BadText C_Twice C_TooLarge C_Unknown C_Gap C_AtEnd C_BadSet C_NotBroken C_Against C_OutOfPlace C_Unlike C_Book : Addr} (X : K.In h) (G : h.Ns mainGlobals mg) (hfa : mg "law" = some (.ref fa))
    {od1 od2 od3 od4 od5 od6 od7 od8 od9 od10 od11 od12 od13 od14 od15 od16 od17 od18 od19 od20 od21 od22 od23 od24 od25 od26 od27 od28 od29 od30 od31 od32 od33 an1 an2 an3 an4 an5 an6 an7 an8 an9 an10 an11 an12 an13 an14 an15 an16 an17 an18 an19 an20 an21 an22 an23 an24 an25 an26 an27 an28 an29 an30 an31 an32 an33 : Option Addr} {sl1 sl2 sl3 sl4 sl5 sl6 sl7 sl8 sl9 sl10 sl11 sl12 sl13 sl14 sl15 sl16 sl17 sl18 sl19 sl20 sl21 sl22 sl23 sl24 sl25 sl26 sl27 sl28 sl29 sl30 sl31 sl32 sl33 : Array (Option Value)} {oc1 oc2 oc3 oc4 oc5 oc6 oc7 oc8 oc9 oc10 oc11 oc12 oc13 oc14 oc15 oc16 oc17 oc18 oc19 oc20 oc21 oc22 oc23 oc24 oc25 oc26 oc27 oc28 oc29 oc30 oc31 oc32 oc33 kV1 kV2 kV3 kV4 kV5 kV6 kV7 kV8 kV9 kV10 kV11 kV12 kV13 kV14 kV15 kV16 kV17 kV18 kV19 kV20 kV21 kV22 kV23 kV24 kV25 kV26 kV27 kV28 kV29 kV30 kV31 kV32 kV33 dc1 dc2 dc3 dc4 dc5 dc6 dc7 dc8 dc9 dc10 dc11 dc12 dc13 dc14 dc15 dc16 dc17 dc18 dc19 dc20 dc21 dc22 dc23 dc24 dc25 dc26 dc27 dc28 dc29 dc30 dc31 dc32 dc33 pm1 pm2 pm3 pm4 pm5 pm6 pm7 pm8 pm9 pm10 pm11 pm12 pm13 pm14 pm15 pm16 pm17 pm18 pm19 pm20 pm21 pm22 pm23 pm24 pm25 pm26 pm27 pm28 pm29 pm30 pm31 pm32 pm33 cd1 cd2 cd3 cd4 cd5 cd6 cd7 cd8 cd9 cd10 cd11 cd12 cd13 cd14 cd15 cd16 cd17 cd18 cd19 cd20 cd21 cd22 cd23 cd24 cd25 cd26 cd27 cd28 cd29 cd30 cd31 cd32 cd33 ct1 ct2 ct3 ct4 ct5 ct6 ct7 ct8 ct9 ct10 ct11 ct12 ct13 ct14 ct15 ct16 ct17 ct18 ct19 ct20 ct21 ct22 ct23 ct24 ct25 ct26 ct27 ct28 ct29 ct30 ct31 ct32 ct33 : Value}
    (a_TraitError : PySem.W.nsIn K mainGlobals "TraitError" = some (some (.ref C_TraitError)))
    (a_BadText : PySem.W.nsIn K mainGlobals "BadText" = some (some (.ref C_BadText)))
    (a_Twice : PySem.W.nsIn K mainGlobals "Twice" = some (some (.ref C_Twice)))
    (a_TooLarge : PySem.W.nsIn K mainGlobals "TooLarge" = some (some (.ref C_TooLarge)))
    (a_Unknown : PySem.W.nsIn K mainGlobals "Unknown" = some (some (.ref C_Unknown)))
    (a_Gap : PySem.W.nsIn K mainGlobals "Gap" = some (some (.ref C_Gap)))
    (a_AtEnd : PySem.W.nsIn K mainGlobals "AtEnd" = some (some (.ref C_AtEnd)))
    (a_BadSet : PySem.W.nsIn K mainGlobals "BadSet" = some (some (.ref C_BadSet)))
    (a_NotBroken : PySem.W.nsIn K mainGlobals "NotBroken" = some (some (.ref C_NotBroken)))
    (a_Against : PySem.W.nsIn K mainGlobals "Against" = some (some (.ref C_Against)))
    (a_OutOfPlace : PySem.W.nsIn K mainGlobals "OutOfPlace" = some (some (.ref C_OutOfPlace)))
    (a_Unlike : PySem.W.nsIn K mainGlobals "Unlike" = some (some (.ref C_Unlike)))
    (a_Book : PySem.W.nsIn K mainGlobals "Book" = some (some (.ref C_Book)))
    {tk_MOST_COLUMNS : Tok} (a_MOST_COLUMNS : PySem.W.nsIn K mainGlobals "MOST_COLUMNS" = some (some (.int 10 tk_MOST_COLUMNS)))
    {tk_MOST_THINGS : Tok} (a_MOST_THINGS : PySem.W.nsIn K mainGlobals "MOST_THINGS" = some (some (.int 60 tk_MOST_THINGS)))
    (a_ideas_ideas : PySem.W.nsIn K mainGlobals "ideas_ideas" = some (some (.ref f7)))
    (a1 : PySem.W.nsIn K mainGlobals "mask_of" = some (some (.ref f1))) (l1 : K.lookup f1 = some ⟨oc1, od1, .func (PySem.W.fnOf "mask_of" "mask_of" (defArgs s_mask_of) (defBody s_mask_of) (defScope s_mask_of) .none kV1 dc1 pm1 an1 cd1 ct1), sl1⟩) (c1 : PySem.W.codeIn K cd1 "mask_of" = true) (k1 : PySem.W.keepIn K (.ref f1) = true)
    (a2 : PySem.W.nsIn K mainGlobals "within" = some (some (.ref f2))) (l2 : K.lookup f2 = some ⟨oc2, od2, .func (PySem.W.fnOf "within" "within" (defArgs s_within) (defBody s_within) (defScope s_within) .none kV2 dc2 pm2 an2 cd2 ct2), sl2⟩) (c2 : PySem.W.codeIn K cd2 "within" = true) (k2 : PySem.W.keepIn K (.ref f2) = true)
    (a3 : PySem.W.nsIn K mainGlobals "fits" = some (some (.ref f3))) (l3 : K.lookup f3 = some ⟨oc3, od3, .func (PySem.W.fnOf "fits" "fits" (defArgs s_fits) (defBody s_fits) (defScope s_fits) .none kV3 dc3 pm3 an3 cd3 ct3), sl3⟩) (c3 : PySem.W.codeIn K cd3 "fits" = true) (k3 : PySem.W.keepIn K (.ref f3) = true)
    (a4 : PySem.W.findIn K (.ref C_TooLarge) "__init__" = some (some (.ref f4))) (l4 : K.lookup f4 = some ⟨oc4, od4, .func (PySem.W.fnOf "__init__" "TooLarge.__init__" (defArgs s_TooLarge_init) (defBody s_TooLarge_init) (defScope s_TooLarge_init) .none kV4 dc4 pm4 an4 cd4 ct4), sl4⟩) (c4 : PySem.W.codeIn K cd4 "TooLarge.__init__" = true) (k4 : PySem.W.keepIn K (.ref f4) = true)
    (a5 : PySem.W.nsIn K mainGlobals "having" = some (some (.ref f5))) (l5 : K.lookup f5 = some ⟨oc5, od5, .func (PySem.W.fnOf "having" "having" (defArgs s_having) (defBody s_having) (defScope s_having) .none kV5 dc5 pm5 an5 cd5 ct5), sl5⟩) (c5 : PySem.W.codeIn K cd5 "having" = true) (k5 : PySem.W.keepIn K (.ref f5) = true)
    (a6 : PySem.W.nsIn K mainGlobals "closed_masks" = some (some (.ref f6))) (l6 : K.lookup f6 = some ⟨oc6, od6, .func (PySem.W.fnOf "closed_masks" "closed_masks" (defArgs s_closed_masks) (defBody s_closed_masks) (defScope s_closed_masks) .none kV6 dc6 pm6 an6 cd6 ct6), sl6⟩) (c6 : PySem.W.codeIn K cd6 "closed_masks" = true) (k6 : PySem.W.keepIn K (.ref f6) = true)
    (a7 : PySem.W.nsIn K mainGlobals "ideas" = some (some (.ref f7))) (l7 : K.lookup f7 = some ⟨oc7, od7, .func (PySem.W.fnOf "ideas" "ideas" (defArgs s_ideas) (defBody s_ideas) (defScope s_ideas) .none kV7 dc7 pm7 an7 cd7 ct7), sl7⟩) (c7 : PySem.W.codeIn K cd7 "ideas" = true) (k7 : PySem.W.keepIn K (.ref f7) = true)
    (a8 : PySem.W.nsIn K mainGlobals "with_column" = some (some (.ref f8))) (l8 : K.lookup f8 = some ⟨oc8, od8, .func (PySem.W.fnOf "with_column" "with_column" (defArgs s_with_column) (defBody s_with_column) (defScope s_with_column) .none kV8 dc8 pm8 an8 cd8 ct8), sl8⟩) (c8 : PySem.W.codeIn K cd8 "with_column" = true) (k8 : PySem.W.keepIn K (.ref f8) = true)
    (a9 : PySem.W.nsIn K mainGlobals "without_column" = some (some (.ref f9))) (l9 : K.lookup f9 = some ⟨oc9, od9, .func (PySem.W.fnOf "without_column" "without_column" (defArgs s_without_column) (defBody s_without_column) (defScope s_without_column) .none kV9 dc9 pm9 an9 cd9 ct9), sl9⟩) (c9 : PySem.W.codeIn K cd9 "without_column" = true) (k9 : PySem.W.keepIn K (.ref f9) = true)
    (a10 : PySem.W.findIn K (.ref C_Book) "__init__" = some (some (.ref f10))) (l10 : K.lookup f10 = some ⟨oc10, od10, .func (PySem.W.fnOf "__init__" "Book.__init__" (defArgs s_Book_init) (defBody s_Book_init) (defScope s_Book_init) .none kV10 dc10 pm10 an10 cd10 ct10), sl10⟩) (c10 : PySem.W.codeIn K cd10 "Book.__init__" = true) (k10 : PySem.W.keepIn K (.ref f10) = true)
    (i10 : PySem.W.isFn K (.ref f10) = true)
    (a11 : PySem.W.findIn K (.ref C_Book) "put_thing" = some (some (.ref f11))) (l11 : K.lookup f11 = some ⟨oc11, od11, .func (PySem.W.fnOf "put_thing" "Book.put_thing" (defArgs s_Book_put_thing) (defBody s_Book_put_thing) (defScope s_Book_put_thing) .none kV11 dc11 pm11 an11 cd11 ct11), sl11⟩) (c11 : PySem.W.codeIn K cd11 "Book.put_thing" = true) (k11 : PySem.W.keepIn K (.ref f11) = true)
    (i11 : PySem.W.isFn K (.ref f11) = true)
    (a12 : PySem.W.findIn K (.ref C_Book) "take_thing" = some (some (.ref f12))) (l12 : K.lookup f12 = some ⟨oc12, od12, .func (PySem.W.fnOf "take_thing" "Book.take_thing" (defArgs s_Book_take_thing) (defBody s_Book_take_thing) (defScope s_Book_take_thing) .none kV12 dc12 pm12 an12 cd12 ct12), sl12⟩) (c12 : PySem.W.codeIn K cd12 "Book.take_thing" = true) (k12 : PySem.W.keepIn K (.ref f12) = true)
    (i12 : PySem.W.isFn K (.ref f12) = true)
    (a13 : PySem.W.findIn K (.ref C_Book) "put_column" = some (some (.ref f13))) (l13 : K.lookup f13 = some ⟨oc13, od13, .func (PySem.W.fnOf "put_column" "Book.put_column" (defArgs s_Book_put_column) (defBody s_Book_put_column) (defScope s_Book_put_column) .none kV13 dc13 pm13 an13 cd13 ct13), sl13⟩) (c13 : PySem.W.codeIn K cd13 "Book.put_column" = true) (k13 : PySem.W.keepIn K (.ref f13) = true)
    (i13 : PySem.W.isFn K (.ref f13) = true)
    (a14 : PySem.W.findIn K (.ref C_Book) "take_column" = some (some (.ref f14))) (l14 : K.lookup f14 = some ⟨oc14, od14, .func (PySem.W.fnOf "take_column" "Book.take_column" (defArgs s_Book_take_column) (defBody s_Book_take_column) (defScope s_Book_take_column) .none kV14 dc14 pm14 an14 cd14 ct14), sl14⟩) (c14 : PySem.W.codeIn K cd14 "Book.take_column" = true) (k14 : PySem.W.keepIn K (.ref f14) = true)
    (i14 : PySem.W.isFn K (.ref f14) = true)
    (a15 : PySem.W.findIn K (.ref C_Book) "rows" = some (some (.ref f15))) (l15 : K.lookup f15 = some ⟨oc15, od15, .func (PySem.W.fnOf "rows" "Book.rows" (defArgs s_Book_rows) (defBody s_Book_rows) (defScope s_Book_rows) .none kV15 dc15 pm15 an15 cd15 ct15), sl15⟩) (c15 : PySem.W.codeIn K cd15 "Book.rows" = true) (k15 : PySem.W.keepIn K (.ref f15) = true)
    (i15 : PySem.W.isFn K (.ref f15) = true)
    (a16 : PySem.W.findIn K (.ref C_Book) "width" = some (some (.ref f16))) (l16 : K.lookup f16 = some ⟨oc16, od16, .func (PySem.W.fnOf "width" "Book.width" (defArgs s_Book_width) (defBody s_Book_width) (defScope s_Book_width) .none kV16 dc16 pm16 an16 cd16 ct16), sl16⟩) (c16 : PySem.W.codeIn K cd16 "Book.width" = true) (k16 : PySem.W.keepIn K (.ref f16) = true)
    (i16 : PySem.W.isFn K (.ref f16) = true)
    (a17 : PySem.W.findIn K (.ref C_Book) "ideas" = some (some (.ref f17))) (l17 : K.lookup f17 = some ⟨oc17, od17, .func (PySem.W.fnOf "ideas" "Book.ideas" (defArgs s_Book_ideas) (defBody s_Book_ideas) (defScope s_Book_ideas) .none kV17 dc17 pm17 an17 cd17 ct17), sl17⟩) (c17 : PySem.W.codeIn K cd17 "Book.ideas" = true) (k17 : PySem.W.keepIn K (.ref f17) = true)
    (i17 : PySem.W.isFn K (.ref f17) = true)
    (a18 : PySem.W.nsIn K mainGlobals "_law_cell_at" = some (some (.ref f18))) (l18 : K.lookup f18 = some ⟨oc18, od18, .func (PySem.W.fnOf "_law_cell_at" "_law_cell_at" (defArgs s_law_cell_at) (defBody s_law_cell_at) (defScope s_law_cell_at) .none kV18 dc18 pm18 an18 cd18 ct18), sl18⟩) (c18 : PySem.W.codeIn K cd18 "_law_cell_at" = true) (k18 : PySem.W.keepIn K (.ref f18) = true)
    (a19 : PySem.W.nsIn K mainGlobals "_law_whole" = some (some (.ref f19))) (l19 : K.lookup f19 = some ⟨oc19, od19, .func (PySem.W.fnOf "_law_whole" "_law_whole" (defArgs s_law_whole) (defBody s_law_whole) (defScope s_law_whole) .none kV19 dc19 pm19 an19 cd19 ct19), sl19⟩) (c19 : PySem.W.codeIn K cd19 "_law_whole" = true) (k19 : PySem.W.keepIn K (.ref f19) = true)
    (a20 : PySem.W.nsIn K mainGlobals "_law_pair" = some (some (.ref f20))) (l20 : K.lookup f20 = some ⟨oc20, od20, .func (PySem.W.fnOf "_law_pair" "_law_pair" (defArgs s_law_pair) (defBody s_law_pair) (defScope s_law_pair) .none kV20 dc20 pm20 an20 cd20 ct20), sl20⟩) (c20 : PySem.W.codeIn K cd20 "_law_pair" = true) (k20 : PySem.W.keepIn K (.ref f20) = true)
    (a21 : PySem.W.nsIn K mainGlobals "_law_having" = some (some (.ref f21))) (l21 : K.lookup f21 = some ⟨oc21, od21, .func (PySem.W.fnOf "_law_having" "_law_having" (defArgs s_law_having) (defBody s_law_having) (defScope s_law_having) .none kV21 dc21 pm21 an21 cd21 ct21), sl21⟩) (c21 : PySem.W.codeIn K cd21 "_law_having" = true) (k21 : PySem.W.keepIn K (.ref f21) = true)
    (a22 : PySem.W.nsIn K mainGlobals "_law_shared" = some (some (.ref f22))) (l22 : K.lookup f22 = some ⟨oc22, od22, .func (PySem.W.fnOf "_law_shared" "_law_shared" (defArgs s_law_shared) (defBody s_law_shared) (defScope s_law_shared) .none kV22 dc22 pm22 an22 cd22 ct22), sl22⟩) (c22 : PySem.W.codeIn K cd22 "_law_shared" = true) (k22 : PySem.W.keepIn K (.ref f22) = true)
    (a23 : PySem.W.nsIn K mainGlobals "_law_pairs" = some (some (.ref f23))) (l23 : K.lookup f23 = some ⟨oc23, od23, .func (PySem.W.fnOf "_law_pairs" "_law_pairs" (defArgs s_law_pairs) (defBody s_law_pairs) (defScope s_law_pairs) .none kV23 dc23 pm23 an23 cd23 ct23), sl23⟩) (c23 : PySem.W.codeIn K cd23 "_law_pairs" = true) (k23 : PySem.W.keepIn K (.ref f23) = true)
    (a24 : PySem.W.nsIn K mainGlobals "_law_cuts" = some (some (.ref f24))) (l24 : K.lookup f24 = some ⟨oc24, od24, .func (PySem.W.fnOf "_law_cuts" "_law_cuts" (defArgs s_law_cuts) (defBody s_law_cuts) (defScope s_law_cuts) .none kV24 dc24 pm24 an24 cd24 ct24), sl24⟩) (c24 : PySem.W.codeIn K cd24 "_law_cuts" = true) (k24 : PySem.W.keepIn K (.ref f24) = true)
    (a25 : PySem.W.nsIn K mainGlobals "_law_due" = some (some (.ref f25))) (l25 : K.lookup f25 = some ⟨oc25, od25, .func (PySem.W.fnOf "_law_due" "_law_due" (defArgs s_law_due) (defBody s_law_due) (defScope s_law_due) .none kV25 dc25 pm25 an25 cd25 ct25), sl25⟩) (c25 : PySem.W.codeIn K cd25 "_law_due" = true) (k25 : PySem.W.keepIn K (.ref f25) = true)
    (a26 : PySem.W.nsIn K mainGlobals "_law_done" = some (some (.ref f26))) (l26 : K.lookup f26 = some ⟨oc26, od26, .func (PySem.W.fnOf "_law_done" "_law_done" (defArgs s_law_done) (defBody s_law_done) (defScope s_law_done) .none kV26 dc26 pm26 an26 cd26 ct26), sl26⟩) (c26 : PySem.W.codeIn K cd26 "_law_done" = true) (k26 : PySem.W.keepIn K (.ref f26) = true)
    (a27 : PySem.W.nsIn K mainGlobals "_law_alike" = some (some (.ref f27))) (l27 : K.lookup f27 = some ⟨oc27, od27, .func (PySem.W.fnOf "_law_alike" "_law_alike" (defArgs s_law_alike) (defBody s_law_alike) (defScope s_law_alike) .none kV27 dc27 pm27 an27 cd27 ct27), sl27⟩) (c27 : PySem.W.codeIn K cd27 "_law_alike" = true) (k27 : PySem.W.keepIn K (.ref f27) = true)
    (a28 : PySem.W.nsIn K mainGlobals "_law_less" = some (some (.ref f28))) (l28 : K.lookup f28 = some ⟨oc28, od28, .func (PySem.W.fnOf "_law_less" "_law_less" (defArgs s_law_less) (defBody s_law_less) (defScope s_law_less) .none kV28 dc28 pm28 an28 cd28 ct28), sl28⟩) (c28 : PySem.W.codeIn K cd28 "_law_less" = true) (k28 : PySem.W.keepIn K (.ref f28) = true)
    (a29 : PySem.W.nsIn K mainGlobals "_law_behind" = some (some (.ref f29))) (l29 : K.lookup f29 = some ⟨oc29, od29, .func (PySem.W.fnOf "_law_behind" "_law_behind" (defArgs s_law_behind) (defBody s_law_behind) (defScope s_law_behind) .none kV29 dc29 pm29 an29 cd29 ct29), sl29⟩) (c29 : PySem.W.codeIn K cd29 "_law_behind" = true) (k29 : PySem.W.keepIn K (.ref f29) = true)
    (a30 : PySem.W.nsIn K mainGlobals "_law_given" = some (some (.ref f30))) (l30 : K.lookup f30 = some ⟨oc30, od30, .func (PySem.W.fnOf "_law_given" "_law_given" (defArgs s_law_given) (defBody s_law_given) (defScope s_law_given) .none kV30 dc30 pm30 an30 cd30 ct30), sl30⟩) (c30 : PySem.W.codeIn K cd30 "_law_given" = true) (k30 : PySem.W.keepIn K (.ref f30) = true)
    (a31 : PySem.W.nsIn K mainGlobals "_law_bad" = some (some (.ref f31))) (l31 : K.lookup f31 = some ⟨oc31, od31, .func (PySem.W.fnOf "_law_bad" "_law_bad" (defArgs s_law_bad) (defBody s_law_bad) (defScope s_law_bad) .none kV31 dc31 pm31 an31 cd31 ct31), sl31⟩) (c31 : PySem.W.codeIn K cd31 "_law_bad" = true) (k31 : PySem.W.keepIn K (.ref f31) = true)
    (a32 : PySem.W.nsIn K mainGlobals "_law_right" = some (some (.ref f32))) (l32 : K.lookup f32 = some ⟨oc32, od32, .func (PySem.W.fnOf "_law_right" "_law_right" (defArgs s_law_right) (defBody s_law_right) (defScope s_law_right) .none kV32 dc32 pm32 an32 cd32 ct32), sl32⟩) (c32 : PySem.W.codeIn K cd32 "_law_right" = true) (k32 : PySem.W.keepIn K (.ref f32) = true)
    (a33 : PySem.W.nsIn K mainGlobals "law" = some (some (.ref f33))) (l33 : K.lookup f33 = some ⟨oc33, od33, .func (PySem.W.fnOf "law" "law" (defArgs s_law) (defBody s_law) (defScope s_law) .none kV33 dc33 pm33 an33 cd33 ct33), sl33⟩) (c33 : PySem.W.codeIn K cd33 "law" = true) (k33 : PySem.W.keepIn K (.ref f33) = true)
    (pg_Book : PySem.W.plainGet K C_Book Str.empty = true) (hd_Book : PySem.W.hasDictIn K C_Book = true) (po_Book : PySem.W.plainOver K C_Book = true) (sa_Book : PySem.W.findIn K (.ref C_Book) "__setattr__" = some (some (.builtin "object.__setattr__"))) (mk_Book : PySem.W.makesIn K C_Book = true) (kc_Book : PySem.W.keepIn K (.ref C_Book) = true)
    (n_Book_breadth : PySem.W.findIn K (.ref C_Book) "breadth" = some none)
    (n_Book_known : PySem.W.findIn K (.ref C_Book) "known" = some none)
    (xga_TooLarge : PySem.W.findIn K (.ref C_TooLarge) "__getattribute__" = some (some (.builtin "BaseException.__getattribute__")))
    (xno_TooLarge : PySem.W.findIn K (.ref C_TooLarge) "__getattr__" = some none)
    (xbe_TooLarge : PySem.W.mroIn K C_TooLarge (.type "BaseException") = some true)
    (xob_TooLarge : PySem.W.mroIn K C_TooLarge (.type "object") = some true)
    (xhd_TooLarge : PySem.W.hasDictIn K C_TooLarge = true)
    (xsa_TooLarge : PySem.W.findIn K (.ref C_TooLarge) "__setattr__" = some (some (.builtin "object.__setattr__")))
    (xcl_TooLarge : PySem.W.findIn K (.ref C_TooLarge) "__class__" = some (some (.builtin "object.__class__")))
    (xex_TooLarge : excInI K C_TooLarge [.type "ValueError", .type "Exception", .type "BaseException", .type "object"] "ValueError.__new__" f4 = true) (xfn_TooLarge : PySem.W.isFn K (.ref f4) = true) (xkp_TooLarge : PySem.W.keepIn K (.ref C_TooLarge) = true) (xov_TooLarge : excOver K C_TooLarge = true)
    (xnf_TooLarge : PySem.W.findIn K (.ref C_TooLarge) "line" = some none)
    (xm_TooLarge : PySem.W.exmOne K (.ref C_TooLarge) (.ref C_TraitError) = some true)
    (xi_TooLarge_ValueError : PySem.W.kitOne K (.ref C_TooLarge) (.type "ValueError") = some true)
    (xi_TooLarge_BadText : PySem.W.kitOne K (.ref C_TooLarge) (.ref C_BadText) = some false)
    (xi_TooLarge_Twice : PySem.W.kitOne K (.ref C_TooLarge) (.ref C_Twice) = some false)
    (xi_TooLarge_TooLarge : PySem.W.kitOne K (.ref C_TooLarge) (.ref C_TooLarge) = some true)
    (xi_TooLarge_Gap : PySem.W.kitOne K (.ref C_TooLarge) (.ref C_Gap) = some false)
    (xi_TooLarge_Unknown : PySem.W.kitOne K (.ref C_TooLarge) (.ref C_Unknown) = some false)
    (xi_TooLarge_AtEnd : PySem.W.kitOne K (.ref C_TooLarge) (.ref C_AtEnd) = some false)
    (xi_TooLarge_BadSet : PySem.W.kitOne K (.ref C_TooLarge) (.ref C_BadSet) = some false)
    (xi_TooLarge_NotBroken : PySem.W.kitOne K (.ref C_TooLarge) (.ref C_NotBroken) = some false)
    (xi_TooLarge_Against : PySem.W.kitOne K (.ref C_TooLarge) (.ref C_Against) = some false)
    (xi_TooLarge_OutOfPlace : PySem.W.kitOne K (.ref C_TooLarge) (.ref C_OutOfPlace) = some false)
    (xi_TooLarge_Unlike : PySem.W.kitOne K (.ref C_TooLarge) (.ref C_Unlike) = some false)
    (xga_BadSet : PySem.W.findIn K (.ref C_BadSet) "__getattribute__" = some (some (.builtin "BaseException.__getattribute__")))
    (xno_BadSet : PySem.W.findIn K (.ref C_BadSet) "__getattr__" = some none)
    (xbe_BadSet : PySem.W.mroIn K C_BadSet (.type "BaseException") = some true)
    (xob_BadSet : PySem.W.mroIn K C_BadSet (.type "object") = some true)
    (xhd_BadSet : PySem.W.hasDictIn K C_BadSet = true)
    (xsa_BadSet : PySem.W.findIn K (.ref C_BadSet) "__setattr__" = some (some (.builtin "object.__setattr__")))
    (xcl_BadSet : PySem.W.findIn K (.ref C_BadSet) "__class__" = some (some (.builtin "object.__class__")))
    (xe0_BadSet : PySem.W.excIn K C_BadSet bmV "ValueError.__new__" = true) (xkp_BadSet : PySem.W.keepIn K (.ref C_BadSet) = true)
    (xm_BadSet : PySem.W.exmOne K (.ref C_BadSet) (.ref C_TraitError) = some true)
    (xi_BadSet_ValueError : PySem.W.kitOne K (.ref C_BadSet) (.type "ValueError") = some true)
    (xi_BadSet_BadText : PySem.W.kitOne K (.ref C_BadSet) (.ref C_BadText) = some false)
    (xi_BadSet_Twice : PySem.W.kitOne K (.ref C_BadSet) (.ref C_Twice) = some false)
    (xi_BadSet_TooLarge : PySem.W.kitOne K (.ref C_BadSet) (.ref C_TooLarge) = some false)
    (xi_BadSet_Gap : PySem.W.kitOne K (.ref C_BadSet) (.ref C_Gap) = some false)
    (xi_BadSet_Unknown : PySem.W.kitOne K (.ref C_BadSet) (.ref C_Unknown) = some false)
    (xi_BadSet_AtEnd : PySem.W.kitOne K (.ref C_BadSet) (.ref C_AtEnd) = some false)
    (xi_BadSet_BadSet : PySem.W.kitOne K (.ref C_BadSet) (.ref C_BadSet) = some true)
    (xi_BadSet_NotBroken : PySem.W.kitOne K (.ref C_BadSet) (.ref C_NotBroken) = some false)
    (xi_BadSet_Against : PySem.W.kitOne K (.ref C_BadSet) (.ref C_Against) = some false)
    (xi_BadSet_OutOfPlace : PySem.W.kitOne K (.ref C_BadSet) (.ref C_OutOfPlace) = some false)
    (xi_BadSet_Unlike : PySem.W.kitOne K (.ref C_BadSet) (.ref C_Unlike) = some false)
    (xga_OutOfPlace : PySem.W.findIn K (.ref C_OutOfPlace) "__getattribute__" = some (some (.builtin "BaseException.__getattribute__")))
    (xno_OutOfPlace : PySem.W.findIn K (.ref C_OutOfPlace) "__getattr__" = some none)
    (xbe_OutOfPlace : PySem.W.mroIn K C_OutOfPlace (.type "BaseException") = some true)
    (xob_OutOfPlace : PySem.W.mroIn K C_OutOfPlace (.type "object") = some true)
    (xhd_OutOfPlace : PySem.W.hasDictIn K C_OutOfPlace = true)
    (xsa_OutOfPlace : PySem.W.findIn K (.ref C_OutOfPlace) "__setattr__" = some (some (.builtin "object.__setattr__")))
    (xcl_OutOfPlace : PySem.W.findIn K (.ref C_OutOfPlace) "__class__" = some (some (.builtin "object.__class__")))
    (xe0_OutOfPlace : PySem.W.excIn K C_OutOfPlace bmV "ValueError.__new__" = true) (xkp_OutOfPlace : PySem.W.keepIn K (.ref C_OutOfPlace) = true)
    (xm_OutOfPlace : PySem.W.exmOne K (.ref C_OutOfPlace) (.ref C_TraitError) = some true)
    (xi_OutOfPlace_ValueError : PySem.W.kitOne K (.ref C_OutOfPlace) (.type "ValueError") = some true)
    (xi_OutOfPlace_BadText : PySem.W.kitOne K (.ref C_OutOfPlace) (.ref C_BadText) = some false)
    (xi_OutOfPlace_Twice : PySem.W.kitOne K (.ref C_OutOfPlace) (.ref C_Twice) = some false)
    (xi_OutOfPlace_TooLarge : PySem.W.kitOne K (.ref C_OutOfPlace) (.ref C_TooLarge) = some false)
    (xi_OutOfPlace_Gap : PySem.W.kitOne K (.ref C_OutOfPlace) (.ref C_Gap) = some false)
    (xi_OutOfPlace_Unknown : PySem.W.kitOne K (.ref C_OutOfPlace) (.ref C_Unknown) = some false)
    (xi_OutOfPlace_AtEnd : PySem.W.kitOne K (.ref C_OutOfPlace) (.ref C_AtEnd) = some false)
    (xi_OutOfPlace_BadSet : PySem.W.kitOne K (.ref C_OutOfPlace) (.ref C_BadSet) = some false)
    (xi_OutOfPlace_NotBroken : PySem.W.kitOne K (.ref C_OutOfPlace) (.ref C_NotBroken) = some false)
    (xi_OutOfPlace_Against : PySem.W.kitOne K (.ref C_OutOfPlace) (.ref C_Against) = some false)
    (xi_OutOfPlace_OutOfPlace : PySem.W.kitOne K (.ref C_OutOfPlace) (.ref C_OutOfPlace) = some true)
    (xi_OutOfPlace_Unlike : PySem.W.kitOne K (.ref C_OutOfPlace) (.ref C_Unlike) = some false)
    (xgs : PySem.W.specialIn K (.builtin "object.__class__") "__get__" = some (some (.builtin "getset_descriptor.__get__"))) (xtk : PySem.W.takesIn K (.builtin "object.__class__") = some true)
    (z_ValueError : PySem.W.nsIn K mainGlobals "ValueError" = some none)
    (z_bool : PySem.W.nsIn K mainGlobals "bool" = some none)
    (z_enumerate : PySem.W.nsIn K mainGlobals "enumerate" = some none)
    (z_int : PySem.W.nsIn K mainGlobals "int" = some none)
    (z_isinstance : PySem.W.nsIn K mainGlobals "isinstance" = some none)
    (z_len : PySem.W.nsIn K mainGlobals "len" = some none)
    (z_list : PySem.W.nsIn K mainGlobals "list" = some none)
    (z_range : PySem.W.nsIn K mainGlobals "range" = some none)
    (z_sorted : PySem.W.nsIn K mainGlobals "sorted" = some none)
    (z_tuple : PySem.W.nsIn K mainGlobals "tuple" = some none) :
    ∃ fd : FuncData, (∀ (s : Shared) (v : Value), BindsTo s fd ⟨[v], []⟩ [("_law_script", v)]) ∧ ∀ base : Heap, K.In base → base.Ns mainGlobals mg → FnOk l.prog w K mg base CX0 7 fa fd ["_law_script"] (spLaw K) := by
  have e := hfa.symm.trans (PySem.W.mg_of X G a33)
  cases e
  have F1 := fun_mk (st := s_mask_of) l1 c1 k1
  have b1 := F1.binds (ps := ["places"]) fun _ _ _ _ _ _ us hl => len1 hl fun _ => rfl
  have m1 := PySem.W.mg_of X G a1
  have F2 := fun_mk (st := s_within) l2 c2 k2
  have b2 := F2.binds (ps := ["small", "large"]) fun _ _ _ _ _ _ us hl => len2 hl fun _ _ => rfl
  have m2 := PySem.W.mg_of X G a2
  have F3 := fun_mk (st := s_fits) l3 c3 k3
  have b3 := F3.binds (ps := ["number", "many"]) fun _ _ _ _ _ _ us hl => len2 hl fun _ _ => rfl
  have m3 := PySem.W.mg_of X G a3
  have F4 := fun_mk (st := s_TooLarge_init) l4 c4 k4
  have b4 := F4.binds (ps := ["self", "line"]) fun _ _ _ _ _ _ us hl => len2 hl fun _ _ => rfl
  have F5 := fun_mk (st := s_having) l5 c5 k5
  have b5 := F5.binds (ps := ["rows", "mask"]) fun _ _ _ _ _ _ us hl => len2 hl fun _ _ => rfl
  have m5 := PySem.W.mg_of X G a5
  have F6 := fun_mk (st := s_closed_masks) l6 c6 k6
  have b6 := F6.binds (ps := ["rows", "width"]) fun _ _ _ _ _ _ us hl => len2 hl fun _ _ => rfl
  have m6 := PySem.W.mg_of X G a6
  have F7 := fun_mk (st := s_ideas) l7 c7 k7
  have b7 := F7.binds (ps := ["rows", "width"]) fun _ _ _ _ _ _ us hl => len2 hl fun _ _ => rfl
  have m7 := PySem.W.mg_of X G a7
  have F8 := fun_mk (st := s_with_column) l8 c8 k8
  have b8 := F8.binds (ps := ["row", "width", "has"]) fun _ _ _ _ _ _ us hl => len3 hl fun _ _ _ => rfl
  have m8 := PySem.W.mg_of X G a8
  have F9 := fun_mk (st := s_without_column) l9 c9 k9
  have b9 := F9.binds (ps := ["row", "place"]) fun _ _ _ _ _ _ us hl => len2 hl fun _ _ => rfl
  have m9 := PySem.W.mg_of X G a9
  have F10 := fun_mk (st := s_Book_init) l10 c10 k10
  have b10 := F10.binds (ps := ["self", "width"]) fun _ _ _ _ _ _ us hl => len2 hl fun _ _ => rfl
  have F11 := fun_mk (st := s_Book_put_thing) l11 c11 k11
  have b11 := F11.binds (ps := ["self", "row"]) fun _ _ _ _ _ _ us hl => len2 hl fun _ _ => rfl
  have F12 := fun_mk (st := s_Book_take_thing) l12 c12 k12
  have b12 := F12.binds (ps := ["self", "place"]) fun _ _ _ _ _ _ us hl => len2 hl fun _ _ => rfl
  have F13 := fun_mk (st := s_Book_put_column) l13 c13 k13
  have b13 := F13.binds (ps := ["self", "group"]) fun _ _ _ _ _ _ us hl => len2 hl fun _ _ => rfl
  have F14 := fun_mk (st := s_Book_take_column) l14 c14 k14
  have b14 := F14.binds (ps := ["self", "place"]) fun _ _ _ _ _ _ us hl => len2 hl fun _ _ => rfl
  have F15 := fun_mk (st := s_Book_rows) l15 c15 k15
  have b15 := F15.binds (ps := ["self"]) fun _ _ _ _ _ _ us hl => len1 hl fun _ => rfl
  have F16 := fun_mk (st := s_Book_width) l16 c16 k16
  have b16 := F16.binds (ps := ["self"]) fun _ _ _ _ _ _ us hl => len1 hl fun _ => rfl
  have F17 := fun_mk (st := s_Book_ideas) l17 c17 k17
  have b17 := F17.binds (ps := ["self"]) fun _ _ _ _ _ _ us hl => len1 hl fun _ => rfl
  have F18 := fun_mk (st := s_law_cell_at) l18 c18 k18
  have b18 := F18.binds (ps := ["_law_script", "_law_k"]) fun _ _ _ _ _ _ us hl => len2 hl fun _ _ => rfl
  have m18 := PySem.W.mg_of X G a18
  have F19 := fun_mk (st := s_law_whole) l19 c19 k19
  have b19 := F19.binds (ps := ["_law_found"]) fun _ _ _ _ _ _ us hl => len1 hl fun _ => rfl
  have m19 := PySem.W.mg_of X G a19
  have F20 := fun_mk (st := s_law_pair) l20 c20 k20
  have b20 := F20.binds (ps := ["_law_found"]) fun _ _ _ _ _ _ us hl => len1 hl fun _ => rfl
  have m20 := PySem.W.mg_of X G a20
  have F21 := fun_mk (st := s_law_having) l21 c21 k21
  have b21 := F21.binds (ps := ["_law_rows", "_law_mask"]) fun _ _ _ _ _ _ us hl => len2 hl fun _ _ => rfl
  have m21 := PySem.W.mg_of X G a21
  have F22 := fun_mk (st := s_law_shared) l22 c22 k22
  have b22 := F22.binds (ps := ["_law_rows", "_law_wide", "_law_group"]) fun _ _ _ _ _ _ us hl => len3 hl fun _ _ _ => rfl
  have m22 := PySem.W.mg_of X G a22
  have F23 := fun_mk (st := s_law_pairs) l23 c23 k23
  have b23 := F23.binds (ps := ["_law_found", "_law_rows", "_law_wide"]) fun _ _ _ _ _ _ us hl => len3 hl fun _ _ _ => rfl
  have m23 := PySem.W.mg_of X G a23
  have F24 := fun_mk (st := s_law_cuts) l24 c24 k24
  have b24 := F24.binds (ps := ["_law_found", "_law_rows", "_law_wide"]) fun _ _ _ _ _ _ us hl => len3 hl fun _ _ _ => rfl
  have m24 := PySem.W.mg_of X G a24
  have F25 := fun_mk (st := s_law_due) l25 c25 k25
  have b25 := F25.binds (ps := ["_law_rows", "_law_wide", "_law_deed", "_law_given_here"]) fun _ _ _ _ _ _ us hl => len4 hl fun _ _ _ _ => rfl
  have m25 := PySem.W.mg_of X G a25
  have F26 := fun_mk (st := s_law_done) l26 c26 k26
  have b26 := F26.binds (ps := ["_law_book", "_law_deed", "_law_given_here"]) fun _ _ _ _ _ _ us hl => len3 hl fun _ _ _ => rfl
  have m26 := PySem.W.mg_of X G a26
  have F27 := fun_mk (st := s_law_alike) l27 c27 k27
  have b27 := F27.binds (ps := ["_law_kept", "_law_due_here"]) fun _ _ _ _ _ _ us hl => len2 hl fun _ _ => rfl
  have m27 := PySem.W.mg_of X G a27
  have F28 := fun_mk (st := s_law_less) l28 c28 k28
  have b28 := F28.binds (ps := ["_law_members", "_law_place"]) fun _ _ _ _ _ _ us hl => len2 hl fun _ _ => rfl
  have m28 := PySem.W.mg_of X G a28
  have F29 := fun_mk (st := s_law_behind) l29 c29 k29
  have b29 := F29.binds (ps := ["_law_rows", "_law_wide", "_law_deed", "_law_given_here"]) fun _ _ _ _ _ _ us hl => len4 hl fun _ _ _ _ => rfl
  have m29 := PySem.W.mg_of X G a29
  have F30 := fun_mk (st := s_law_given) l30 c30 k30
  have b30 := F30.binds (ps := ["_law_rows", "_law_wide", "_law_deed", "_law_number", "_law_far"]) fun _ _ _ _ _ _ us hl => len5 hl fun _ _ _ _ _ => rfl
  have m30 := PySem.W.mg_of X G a30
  have F31 := fun_mk (st := s_law_bad) l31 c31 k31
  have b31 := F31.binds (ps := ["_law_rows", "_law_wide", "_law_deed", "_law_given_here"]) fun _ _ _ _ _ _ us hl => len4 hl fun _ _ _ _ => rfl
  have m31 := PySem.W.mg_of X G a31
  have F32 := fun_mk (st := s_law_right) l32 c32 k32
  have b32 := F32.binds (ps := ["_law_book", "_law_rows", "_law_wide", "_law_look"]) fun _ _ _ _ _ _ us hl => len4 hl fun _ _ _ _ => rfl
  have m32 := PySem.W.mg_of X G a32
  have F33 := fun_mk (st := s_law) l33 c33 k33
  have m33 := PySem.W.mg_of X G a33
  have m_TraitError := PySem.W.mg_of X G a_TraitError
  have m_BadText := PySem.W.mg_of X G a_BadText
  have m_Twice := PySem.W.mg_of X G a_Twice
  have m_TooLarge := PySem.W.mg_of X G a_TooLarge
  have m_Unknown := PySem.W.mg_of X G a_Unknown
  have m_Gap := PySem.W.mg_of X G a_Gap
  have m_AtEnd := PySem.W.mg_of X G a_AtEnd
  have m_BadSet := PySem.W.mg_of X G a_BadSet
  have m_NotBroken := PySem.W.mg_of X G a_NotBroken
  have m_Against := PySem.W.mg_of X G a_Against
  have m_OutOfPlace := PySem.W.mg_of X G a_OutOfPlace
  have m_Unlike := PySem.W.mg_of X G a_Unlike
  have m_Book := PySem.W.mg_of X G a_Book
  have c_MOST_COLUMNS := PySem.W.mg_of X G a_MOST_COLUMNS
  have c_MOST_THINGS := PySem.W.mg_of X G a_MOST_THINGS
  have al_ideas_ideas := PySem.W.mg_of X G a_ideas_ideas
  have T_Book : Txt_Book K C_Book := ⟨⟨pg_Book, hd_Book, po_Book, sa_Book⟩, n_Book_breadth, n_Book_known⟩
  have M_Book : Mk K C_Book f10 := ⟨mk_Book, a10, i10, kc_Book⟩
  have h11 : Meth K C_Book "put_thing" f11 := ⟨a11, i11, k11⟩
  have h12 : Meth K C_Book "take_thing" f12 := ⟨a12, i12, k12⟩
  have h13 : Meth K C_Book "put_column" f13 := ⟨a13, i13, k13⟩
  have h14 : Meth K C_Book "take_column" f14 := ⟨a14, i14, k14⟩
  have h15 : Meth K C_Book "rows" f15 := ⟨a15, i15, k15⟩
  have h16 : Meth K C_Book "width" f16 := ⟨a16, i16, k16⟩
  have h17 : Meth K C_Book "ideas" f17 := ⟨a17, i17, k17⟩
  have XC_TooLarge : XCls K C_TooLarge := ⟨xga_TooLarge, xno_TooLarge, xbe_TooLarge, xob_TooLarge, xhd_TooLarge, xsa_TooLarge, xcl_TooLarge, xgs, xtk⟩
  have M_TooLarge : XMk K C_TooLarge f4 := ⟨xex_TooLarge, xfn_TooLarge, xkp_TooLarge⟩
  have R_TooLarge : XRs K C_TooLarge := .inl ⟨_, xex_TooLarge⟩
  have XC_BadSet : XCls K C_BadSet := ⟨xga_BadSet, xno_BadSet, xbe_BadSet, xob_BadSet, xhd_BadSet, xsa_BadSet, xcl_BadSet, xgs, xtk⟩
  have M_BadSet : XMk0 K C_BadSet := ⟨xe0_BadSet, xkp_BadSet⟩
  have R_BadSet : XRs K C_BadSet := .inr xe0_BadSet
  have XC_OutOfPlace : XCls K C_OutOfPlace := ⟨xga_OutOfPlace, xno_OutOfPlace, xbe_OutOfPlace, xob_OutOfPlace, xhd_OutOfPlace, xsa_OutOfPlace, xcl_OutOfPlace, xgs, xtk⟩
  have M_OutOfPlace : XMk0 K C_OutOfPlace := ⟨xe0_OutOfPlace, xkp_OutOfPlace⟩
  have R_OutOfPlace : XRs K C_OutOfPlace := .inr xe0_OutOfPlace
  have E_TooLarge : EK K [C_BadText, C_Twice, C_TooLarge, C_Gap, C_Unknown, C_AtEnd, C_BadSet, C_NotBroken, C_Against, C_OutOfPlace, C_Unlike] C_TooLarge 2 := ⟨XC_TooLarge, xi_TooLarge_ValueError, ek_is xi_TooLarge_BadText xi_TooLarge_Twice xi_TooLarge_TooLarge xi_TooLarge_Gap xi_TooLarge_Unknown xi_TooLarge_AtEnd xi_TooLarge_BadSet xi_TooLarge_NotBroken xi_TooLarge_Against xi_TooLarge_OutOfPlace xi_TooLarge_Unlike, by decide⟩
  have E_BadSet : EK K [C_BadText, C_Twice, C_TooLarge, C_Gap, C_Unknown, C_AtEnd, C_BadSet, C_NotBroken, C_Against, C_OutOfPlace, C_Unlike] C_BadSet 6 := ⟨XC_BadSet, xi_BadSet_ValueError, ek_is xi_BadSet_BadText xi_BadSet_Twice xi_BadSet_TooLarge xi_BadSet_Gap xi_BadSet_Unknown xi_BadSet_AtEnd xi_BadSet_BadSet xi_BadSet_NotBroken xi_BadSet_Against xi_BadSet_OutOfPlace xi_BadSet_Unlike, by decide⟩
  have E_OutOfPlace : EK K [C_BadText, C_Twice, C_TooLarge, C_Gap, C_Unknown, C_AtEnd, C_BadSet, C_NotBroken, C_Against, C_OutOfPlace, C_Unlike] C_OutOfPlace 9 := ⟨XC_OutOfPlace, xi_OutOfPlace_ValueError, ek_is xi_OutOfPlace_BadText xi_OutOfPlace_Twice xi_OutOfPlace_TooLarge xi_OutOfPlace_Gap xi_OutOfPlace_Unknown xi_OutOfPlace_AtEnd xi_OutOfPlace_BadSet xi_OutOfPlace_NotBroken xi_OutOfPlace_Against xi_OutOfPlace_OutOfPlace xi_OutOfPlace_Unlike, by decide⟩
  have H3_ek := cs3 (P := fun j c => EK K [C_BadText, C_Twice, C_TooLarge, C_Gap, C_Unknown, C_AtEnd, C_BadSet, C_NotBroken, C_Against, C_OutOfPlace, C_Unlike] c (numE j)) E_TooLarge E_BadSet E_OutOfPlace
  have H3_em := cs3 (P := fun _ c => PySem.W.exmOne K (.ref c) (.ref C_TraitError) = some true) xm_TooLarge xm_BadSet xm_OutOfPlace
  have y_ValueError := PySem.W.mg_none_of X G z_ValueError
  have y_bool := PySem.W.mg_none_of X G z_bool
  have y_enumerate := PySem.W.mg_none_of X G z_enumerate
  have y_int := PySem.W.mg_none_of X G z_int
  have y_isinstance := PySem.W.mg_none_of X G z_isinstance
  have y_len := PySem.W.mg_none_of X G z_len
  have y_list := PySem.W.mg_none_of X G z_list
  have y_range := PySem.W.mg_none_of X G z_range
  have y_sorted := PySem.W.mg_none_of X G z_sorted
  have y_tuple := PySem.W.mg_none_of X G z_tuple
  refine ⟨PySem.W.fnOf "law" "law" (defArgs s_law) (defBody s_law) (defScope s_law) .none kV33 dc33 pm33 an33 cd33 ct33, fun s v => .of_eq rfl, fun base _ _ => ?_⟩
  have G18 := ok_law_cell_at (P := l.prog) (w := w) (mg := mg) (base := base) F18 y_len
  have G10 := ok_Book_init (P := l.prog) (w := w) (mg := mg) (base := base) T_Book F10
  have G4 := ok_TooLarge_init (P := l.prog) (w := w) (mg := mg) (base := base) F4
  have G3 := ok_fits (P := l.prog) (w := w) (mg := mg) (base := base) F3
  have G11 := ok_Book_put_thing (P := l.prog) (w := w) (mg := mg) (base := base) T_Book F11 XC_TooLarge xov_TooLarge xnf_TooLarge (C_OutOfPlace := C_OutOfPlace) G4 b4 G3 b3 k3 m3 m_TooLarge m_BadSet M_TooLarge M_BadSet R_TooLarge R_BadSet c_MOST_THINGS y_len
  have G30 := ok_law_given (P := l.prog) (w := w) (mg := mg) (base := base) F30 y_len
  have G31 := ok_law_bad (P := l.prog) (w := w) (mg := mg) (base := base) F31 y_len
  have G25 := ok_law_due (P := l.prog) (w := w) (mg := mg) (base := base) F25 y_len y_int
  have G19 := ok_law_whole (P := l.prog) (w := w) (mg := mg) (base := base) F19 y_isinstance y_bool y_int
  have G27 := ok_law_alike (P := l.prog) (w := w) (mg := mg) (base := base) F27 H3_ek xnf_TooLarge G19 b19 k19 m19 m_OutOfPlace m_BadSet m_TooLarge m_Gap m_Unknown m_Twice m_BadText m_Unlike m_Against m_NotBroken m_AtEnd y_isinstance y_ValueError
  have G12 := ok_Book_take_thing (P := l.prog) (w := w) (mg := mg) (base := base) T_Book F12 (C_TooLarge := C_TooLarge) (C_BadSet := C_BadSet) m_OutOfPlace M_OutOfPlace R_OutOfPlace y_len
  have G8 := ok_with_column (P := l.prog) (w := w) (mg := mg) (base := base) F8
  have G13 := ok_Book_put_column (P := l.prog) (w := w) (mg := mg) (base := base) T_Book F13 XC_TooLarge xov_TooLarge xnf_TooLarge (C_OutOfPlace := C_OutOfPlace) G4 b4 G3 b3 k3 m3 G8 b8 k8 m8 m_TooLarge m_BadSet M_TooLarge M_BadSet R_TooLarge R_BadSet c_MOST_COLUMNS y_len y_enumerate
  have G9 := ok_without_column (P := l.prog) (w := w) (mg := mg) (base := base) F9
  have G14 := ok_Book_take_column (P := l.prog) (w := w) (mg := mg) (base := base) T_Book F14 (C_TooLarge := C_TooLarge) (C_BadSet := C_BadSet) G9 b9 k9 m9 m_OutOfPlace M_OutOfPlace R_OutOfPlace
  have G26 := ok_law_done (P := l.prog) (w := w) (mg := mg) (base := base) T_Book F26 H3_em G11 b11 h11 G12 b12 h12 G13 b13 h13 G14 b14 h14 m_TraitError
  have G28 := ok_law_less (P := l.prog) (w := w) (mg := mg) (base := base) F28
  have G29 := ok_law_behind (P := l.prog) (w := w) (mg := mg) (base := base) F29 G28 b28 k28 m28 y_enumerate
  have G16 := ok_Book_width (P := l.prog) (w := w) (mg := mg) (base := base) T_Book F16
  have G15 := ok_Book_rows (P := l.prog) (w := w) (mg := mg) (base := base) T_Book F15 y_list
  have G6 := ok_closed_masks (P := l.prog) (w := w) (mg := mg) (base := base) F6 y_list y_sorted
  have G1 := ok_mask_of (P := l.prog) (w := w) (mg := mg) (base := base) F1
  have G2 := ok_within (P := l.prog) (w := w) (mg := mg) (base := base) F2
  have G5 := ok_having (P := l.prog) (w := w) (mg := mg) (base := base) F5 G1 b1 k1 m1 G2 b2 k2 m2 y_enumerate
  have G7 := ok_ideas (P := l.prog) (w := w) (mg := mg) (base := base) F7 G6 b6 k6 m6 G5 b5 k5 m5
  have G17 := ok_Book_ideas (P := l.prog) (w := w) (mg := mg) (base := base) T_Book F17 G7 b7 k7 m7 al_ideas_ideas
  have G24 := ok_law_cuts (P := l.prog) (w := w) (mg := mg) (base := base) F24
  have G20 := ok_law_pair (P := l.prog) (w := w) (mg := mg) (base := base) F20 G19 b19 k19 m19 y_len y_isinstance y_tuple
  have G22 := ok_law_shared (P := l.prog) (w := w) (mg := mg) (base := base) F22 y_enumerate
  have G21 := ok_law_having (P := l.prog) (w := w) (mg := mg) (base := base) F21 y_enumerate
  have G23 := ok_law_pairs (P := l.prog) (w := w) (mg := mg) (base := base) F23 G20 b20 k20 m20 G22 b22 k22 m22 G21 b21 k21 m21 y_isinstance y_list
  have G32 := ok_law_right (P := l.prog) (w := w) (mg := mg) (base := base) T_Book F32 G16 b16 h16 G19 b19 k19 m19 G15 b15 h15 G17 b17 h17 G24 b24 k24 m24 G23 b23 k23 m23
  have G33 := ok_law (P := l.prog) (w := w) (mg := mg) (base := base) T_Book F33 G18 b18 k18 m18 G10 b10 G11 b11 h11 G30 b30 k30 m30 G31 b31 k31 m31 G25 b25 k25 m25 G27 b27 k27 m27 G26 b26 k26 m26 G29 b29 k29 m29 G32 b32 k32 m32 M_Book m_Book y_range
  exact G33
theorem walk {l : PySem.W.OpenLaw} {q : Program} {loose : List Str} {XP : (Str → Option Value) → Heap → Prop} {YP : World → Heap → Prop} {d : DefRec} {K : Params → PySem.W.Frag} (hn : l.most = some 63) (hdf : d.params.defaults = [])
    (hY : ∀ (w : World) (h : Heap), YP w h → (K w.params).In h)
    (F : ∀ (w : World) (mg : Str → Option Value) (fa : Addr) (h : Heap), (K w.params).In h → h.Ns mainGlobals mg → mg d.name = some (.ref fa) →
      ∃ fd : FuncData, (∀ (s : Shared) (u : Value), BindsTo s fd ⟨[u], []⟩ [("_law_script", u)]) ∧ ∀ base : Heap, (K w.params).In base → base.Ns mainGlobals mg → FnOk l.prog w (K w.params) mg base CX0 7 fa fd ["_law_script"] (spLaw (K w.params))) :
    PySem.W.WalkO q loose XP YP l.row.toRowW d [] (fun f vs => PySem.call f vs) :=
  L2.walk_of (n := 63) (k := 7) (x := "_law_script") (CX := fun _ => CX0) (sp := fun w => spLaw (K w.params)) hn (by decide) hdf ⟨rfl, by decide, by decide⟩ hY F (fun _ _ a ns hl _ hS => ⟨a, ns, rfl, hS, hl, fun _ => rfl⟩) fun _ _ _ _ _ h => h.elim
end My
theorem PySem.W.Fast.tw1257112630864739590 : True := trivial
theorem PySem.W.Fast.tw260037933185539010 : True := trivial
theorem PySem.W.Fast.tw14590907011791594164 : True := trivial
theorem PySem.W.Fast.tw17319160902687821377 : True := trivial
theorem PySem.W.Fast.tw8252911303031050657 : True := trivial
theorem PySem.W.Fast.tw13348208772007406769 : True := trivial
theorem PySem.W.Fast.tw6196147711534067128 : True := trivial
theorem PySem.W.Fast.tw6319335276011154239 : True := trivial
theorem PySem.W.Fast.tw14976456418935992581 : True := trivial
theorem PySem.W.Fast.tw6029822135410375942 : True := trivial
theorem PySem.W.Fast.tw194255013402589607 : True := trivial
theorem PySem.W.Fast.tw17914305376877036935 : True := trivial
theorem PySem.W.Fast.tw14391449839368868197 : True := trivial
theorem PySem.W.Fast.tw1437187459044060413 : True := trivial
theorem PySem.W.Fast.tw17122124363994001253 : True := trivial
theorem PySem.W.Fast.tw8222356075138671907 : True := trivial
theorem PySem.W.Fast.tw10542872412625849051 : True := trivial
theorem PySem.W.Fast.tw5667432734189174759 : True := trivial
theorem PySem.W.Fast.tw15015360718215414865 : True := trivial
theorem PySem.W.Fast.tw2210287174839239594 : True := trivial
theorem PySem.W.Fast.tw10094668534262584206 : True := trivial
theorem PySem.W.Fast.tw17365875154558304579 : True := trivial
theorem PySem.W.Fast.tw15144950324354824024 : True := trivial
theorem PySem.W.Fast.tw3920644118476453629 : True := trivial
theorem PySem.W.Fast.tw16394900853636143158 : True := trivial
theorem PySem.W.Fast.tw17734532149628661598 : True := trivial
theorem PySem.W.Fast.tw13388013400795888906 : True := trivial
theorem PySem.W.Fast.tw3527264458319912088 : True := trivial
theorem PySem.W.Fast.tw5151484988543232636 : True := trivial
theorem PySem.W.Fast.tw17116279680360554957 : True := trivial
theorem PySem.W.Fast.tw2324368570353086747 : True := trivial
theorem PySem.W.Fast.tw14929978396804481470 : True := trivial
theorem PySem.W.Fast.tw9483115268918021295 : True := trivial
theorem PySem.W.Fast.tw13794765957554450627 : True := trivial
theorem PySem.W.Fast.tw166229937046146689 : True := trivial
theorem PySem.W.Fast.tw6601500799633452227 : True := trivial
theorem PySem.W.Fast.tw8884289029364232299 : True := trivial
theorem PySem.W.Fast.tw10663131056554794460 : True := trivial
theorem PySem.W.Fast.tw13957633828704889900 : True := trivial
theorem PySem.W.Fast.tw6491321861053810303 : True := trivial
theorem PySem.W.Fast.tw15962258380576427273 : True := trivial
theorem PySem.W.Fast.tw8461102213379834433 : True := trivial
theorem PySem.W.Fast.tw8842622436021532133 : True := trivial
theorem PySem.W.Fast.tw17059721836593824873 : True := trivial
theorem PySem.W.Fast.tw662984416554293334 : True := trivial
theorem PySem.W.Fast.tw2137013198928031950 : True := trivial
theorem PySem.W.Fast.tw14858301813987629644 : True := trivial
theorem PySem.W.Fast.tw8344923390698466730 : True := trivial
theorem PySem.W.Fast.tw6436902923897260301 : True := trivial
theorem PySem.W.Fast.tw8618889885943295028 : True := trivial
theorem PySem.W.Fast.tw4267819389130389603 : True := trivial
theorem PySem.W.Fast.tw14870390594145223329 : True := trivial
theorem PySem.W.Fast.tw18245372320021629627 : True := trivial
theorem PySem.W.Fast.tw7154496460432890322 : True := trivial
theorem PySem.W.Fast.tw13914862157751698495 : True := trivial
theorem PySem.W.Fast.tw6196192680826952686 : True := trivial
theorem PySem.W.Fast.tw1438550294604053158 : True := trivial
theorem PySem.W.Fast.tw14331157106716274664 : True := trivial
theorem PySem.W.Fast.tw4241369541217308105 : True := trivial
theorem PySem.W.Fast.tw1952851752090058195 : True := trivial
theorem PySem.W.Fast.tw15744498572420662778 : True := trivial
theorem PySem.W.Fast.tw3010281639285608412 : True := trivial
theorem PySem.W.Fast.tw4599581941353490790 : True := trivial
theorem PySem.W.Fast.tw6945173510864886895 : True := trivial
theorem PySem.W.Fast.tw15957972713800315713 : True := trivial
theorem PySem.W.Fast.tw2935912658308408535 : True := trivial
theorem PySem.W.Fast.tw1159580831204997371 : True := trivial
theorem PySem.W.Fast.tw5530449281605553190 : True := trivial
theorem PySem.W.Fast.tw17905785379914041359 : True := trivial
theorem PySem.W.Fast.tw9391840589170816763 : True := trivial
theorem PySem.W.Fast.tw9498995326157813824 : True := trivial
theorem PySem.W.Fast.tw17886551811405274565 : True := trivial
theorem PySem.W.Fast.tw9218532137137083176 : True := trivial
theorem PySem.W.Fast.tw18368157525872677646 : True := trivial
theorem PySem.W.Fast.tw15129974741681444489 : True := trivial
theorem PySem.W.Fast.tw1312368327936881587 : True := trivial
theorem PySem.W.Fast.tw12738529631542900927 : True := trivial
theorem PySem.W.Fast.tw9857490836228123995 : True := trivial
theorem PySem.W.Fast.tw4660004856597079589 : True := trivial
theorem PySem.W.Fast.tw2512483103345948776 : True := trivial
theorem PySem.W.Fast.tw11777037101271809326 : True := trivial
theorem PySem.W.Fast.tw15137712116529641207 : True := trivial
theorem PySem.W.Fast.tw8475268079567927613 : True := trivial
theorem PySem.W.Fast.tw8402026694120856218 : True := trivial
theorem PySem.W.Fast.tw14738405748667939347 : True := trivial
theorem PySem.W.Fast.tw9256884209258631680 : True := trivial
theorem PySem.W.Fast.tw5783170242261987904 : True := trivial
theorem PySem.W.Fast.tw5093160576097930071 : True := trivial
theorem PySem.W.Fast.tw17705871193075894511 : True := trivial
theorem PySem.W.Fast.tw14535528442598470795 : True := trivial
theorem PySem.W.Fast.tw8043859152958883763 : True := trivial
theorem PySem.W.Fast.tw4714545178725458509 : True := trivial
theorem PySem.W.Fast.tw1471112277308635676 : True := trivial
theorem PySem.W.Fast.tw11754137403772539366 : True := trivial
theorem PySem.W.Fast.tw1814427234732690068 : True := trivial
theorem PySem.W.Fast.tw15875051456934452832 : True := trivial
theorem PySem.W.Fast.tw16710152094203628141 : True := trivial
theorem PySem.W.Fast.tw15604426838425563728 : True := trivial
theorem PySem.W.Fast.tw13683787352851500025 : True := trivial
theorem PySem.W.Fast.tw3246811296444594573 : True := trivial
theorem PySem.W.Fast.tw4027903648124773895 : True := trivial
theorem PySem.W.Fast.tw8572771471361143008 : True := trivial
theorem PySem.W.Fast.tw3415600315278594677 : True := trivial
theorem PySem.W.Fast.tw4445032580173287575 : True := trivial
theorem PySem.W.Fast.tw71510261294902222 : True := trivial
theorem PySem.W.Fast.tw7164984129495390646 : True := trivial
theorem PySem.W.Fast.tw2192139413814894201 : True := trivial
theorem PySem.W.Fast.tw2248702730300528017 : True := trivial
theorem PySem.W.Fast.tw17757506459078427979 : True := trivial
theorem PySem.W.Fast.tw2972671956817406308 : True := trivial
theorem PySem.W.Fast.tw15954750620764691685 : True := trivial
theorem PySem.W.Fast.tw11283880544734543577 : True := trivial
theorem PySem.W.Fast.tw16469780416858038172 : True := trivial
theorem PySem.W.Fast.tw3124544219449215879 : True := trivial
theorem PySem.W.Fast.tw5367364393946974991 : True := trivial
theorem PySem.W.Fast.tw5312660091013265123 : True := trivial
theorem PySem.W.Fast.tw6496268284494998342 : True := trivial
theorem PySem.W.Fast.tw5967056785773523907 : True := trivial
theorem PySem.W.Fast.tw10709747168414227826 : True := trivial
theorem PySem.W.Fast.tw16457097641156530245 : True := trivial
theorem PySem.W.Fast.tw7053800172227776984 : True := trivial
theorem PySem.W.Fast.tw2882982196325695918 : True := trivial
theorem PySem.W.Fast.tw11751015667898631830 : True := trivial
theorem PySem.W.Fast.tw545836751503346311 : True := trivial
theorem PySem.W.Fast.tw15880169298387456296 : True := trivial
theorem PySem.W.Fast.tw15325846391616864427 : True := trivial
theorem PySem.W.Fast.tw7310686987822233434 : True := trivial
theorem PySem.W.Fast.tw5564316360622636814 : True := trivial
theorem PySem.W.Fast.tw17620136496480165744 : True := trivial
theorem PySem.W.Fast.tw10439055533396236274 : True := trivial
theorem PySem.W.Fast.tw16473471314610296359 : True := trivial
theorem PySem.W.Fast.tw17378147251000220235 : True := trivial
theorem PySem.W.Fast.tw2701843565132913961 : True := trivial
theorem PySem.W.Fast.tw3242481792037224807 : True := trivial
theorem PySem.W.Fast.tw17502824658752742335 : True := trivial
theorem PySem.W.Fast.tw15016454052160861627 : True := trivial
theorem PySem.W.Fast.tw6523124414087810625 : True := trivial
theorem PySem.W.Fast.tw8730758628631159158 : True := trivial
theorem PySem.W.Fast.tw16225813182148843433 : True := trivial
theorem PySem.W.Fast.tw12380848957631134541 : True := trivial
theorem PySem.W.Fast.tw2715917039292092297 : True := trivial
theorem PySem.W.Fast.tw17182691306484326077 : True := trivial
theorem PySem.W.Fast.tw17281580779579908713 : True := trivial
theorem PySem.W.Fast.tw18293179755142201690 : True := trivial
theorem PySem.W.Fast.tw8286569815771394968 : True := trivial
theorem PySem.W.Fast.tw13504234411325029112 : True := trivial
theorem PySem.W.Fast.tw6061501217449092928 : True := trivial
theorem PySem.W.Fast.tw9600669072412768691 : True := trivial
theorem PySem.W.Fast.tw8014740519535405500 : True := trivial
theorem PySem.W.Fast.tw10147551272066364185 : True := trivial
theorem PySem.W.Fast.tw15986026109197969992 : True := trivial
theorem PySem.W.Fast.tw9821405683046922399 : True := trivial
theorem PySem.W.Fast.tw11560735302861605782 : True := trivial
theorem PySem.W.Fast.tw15594427525741976242 : True := trivial
theorem PySem.W.Fast.tw17205919934638628451 : True := trivial
theorem PySem.W.Fast.tw11295205071634743772 : True := trivial
theorem PySem.W.Fast.tw16725581829228630437 : True := trivial
theorem PySem.W.Fast.tw3769276813175107621 : True := trivial
theorem PySem.W.Fast.tw11601906561445209717 : True := trivial
theorem PySem.W.Fast.tw6617941984931821698 : True := trivial
theorem PySem.W.Fast.tw354216959022260653 : True := trivial
theorem PySem.W.Fast.tw9101324084892249654 : True := trivial
theorem PySem.W.Fast.tw14245671911509427043 : True := trivial
theorem PySem.W.Fast.tw1380100382373911863 : True := trivial
theorem PySem.W.Fast.tw598201700693724589 : True := trivial
theorem PySem.W.Fast.tw5659925129924674926 : True := trivial
theorem PySem.W.Fast.tw15092841060055897972 : True := trivial
theorem PySem.W.Fast.tw7238595188688133869 : True := trivial
theorem PySem.W.Fast.tw13852648652833417788 : True := trivial
theorem PySem.W.Fast.tw1811158015011174807 : True := trivial
theorem PySem.W.Fast.tw1729660449767745571 : True := trivial
theorem PySem.W.Fast.tw343110797312284974 : True := trivial
theorem PySem.W.Fast.tw4824365537024892632 : True := trivial
theorem PySem.W.Fast.tw16324026301811308657 : True := trivial
theorem PySem.W.Fast.tw14207520663633884624 : True := trivial
theorem PySem.W.Fast.tw3546946434782841346 : True := trivial
theorem PySem.W.Fast.tw15066551346352848471 : True := trivial
theorem PySem.W.Fast.tw3597166448120758431 : True := trivial
theorem PySem.W.Fast.tw1344235076311477239 : True := trivial
theorem PySem.W.Fast.tw13168229554607811631 : True := trivial
theorem PySem.W.Fast.tw10548012026521350685 : True := trivial
theorem PySem.W.Fast.tw14810171254364379838 : True := trivial
theorem PySem.W.Fast.tw4945169870180481920 : True := trivial
theorem PySem.W.Fast.tw2772011790181015433 : True := trivial
theorem PySem.W.Fast.tw16707959330095573320 : True := trivial
theorem PySem.W.Fast.tw12270037970034637260 : True := trivial
theorem PySem.W.Fast.tw11792757587281583760 : True := trivial
theorem PySem.W.Fast.tw4366209493767363790 : True := trivial
theorem PySem.W.Fast.tw8997831026968327599 : True := trivial
theorem PySem.W.Fast.tw7137563702731788738 : True := trivial
theorem PySem.W.Fast.tw12888663127710895265 : True := trivial
theorem PySem.W.Fast.tw16570173565229774855 : True := trivial
theorem PySem.W.Fast.tw6673153061067944718 : True := trivial
theorem PySem.W.Fast.tw1596510045245222669 : True := trivial
theorem PySem.W.Fast.tw15680815394809845232 : True := trivial
theorem PySem.W.Fast.tw3958076820093530039 : True := trivial
theorem PySem.W.Fast.tw13672081848457786735 : True := trivial
theorem PySem.W.Fast.tw8463467997961356748 : True := trivial
theorem PySem.W.Fast.tw5199979544180602207 : True := trivial
theorem PySem.W.Fast.tw17254731549300038940 : True := trivial
theorem PySem.W.Fast.tw13639195984304550115 : True := trivial
theorem PySem.W.Fast.tw2701967677638478257 : True := trivial
theorem PySem.W.Fast.tw11245987735440106293 : True := trivial
theorem PySem.W.Fast.tw14596347563563959487 : True := trivial
theorem PySem.W.Fast.tw11015583268181997945 : True := trivial
theorem PySem.W.Fast.tw4546074775983216684 : True := trivial
theorem PySem.W.Fast.tw9868202495242772523 : True := trivial
theorem PySem.W.Fast.tw4913150253337270195 : True := trivial
theorem PySem.W.Fast.tw10549820916920073413 : True := trivial
theorem PySem.W.Fast.tw14850702194551908028 : True := trivial
theorem PySem.W.Fast.tw15107850708252261955 : True := trivial
theorem PySem.W.Fast.tw4479155600885710847 : True := trivial
theorem PySem.W.Fast.tw16422874322815786282 : True := trivial
theorem PySem.W.Fast.tw3870964904560330398 : True := trivial
theorem PySem.W.Fast.tw15305845322596182876 : True := trivial
theorem PySem.W.Fast.tw2510452824202122947 : True := trivial
theorem PySem.W.Fast.tw9321947215378784772 : True := trivial
theorem PySem.W.Fast.tw6209453146934917036 : True := trivial
theorem PySem.W.Fast.tw12339813121340232897 : True := trivial
theorem PySem.W.Fast.tw9626630872537207598 : True := trivial
theorem PySem.W.Fast.tw1610226251037533656 : True := trivial
theorem PySem.W.Fast.tw12298121692827004737 : True := trivial
theorem PySem.W.Fast.tw7202119181490314856 : True := trivial
theorem PySem.W.Fast.tw7775170063915145508 : True := trivial
theorem PySem.W.Fast.tw4940694886973202760 : True := trivial
theorem PySem.W.Fast.tw10612279767037587925 : True := trivial
theorem PySem.W.Fast.tw18056327090344536959 : True := trivial
theorem PySem.W.Fast.tw8521321894734833066 : True := trivial
theorem PySem.W.Fast.tw13607457380147351547 : True := trivial
theorem PySem.W.Fast.tw16945857501669543074 : True := trivial
theorem PySem.W.Fast.tw996762771645824320 : True := trivial
theorem PySem.W.Fast.tw6300598021487359180 : True := trivial
theorem PySem.W.Fast.tw5355298960903052061 : True := trivial
theorem PySem.W.Fast.tw2883905036923014404 : True := trivial
theorem PySem.W.Fast.tw17009184379630671162 : True := trivial
theorem PySem.W.Fast.tw15195368520459836255 : True := trivial
theorem PySem.W.Fast.tw15725850141691998024 : True := trivial
theorem PySem.W.Fast.tw6273625488740357198 : True := trivial
theorem PySem.W.Fast.tw10037925606675947829 : True := trivial
theorem PySem.W.Fast.tw17404881752039588946 : True := trivial
theorem PySem.W.Fast.tw17213988258493455338 : True := trivial
theorem PySem.W.Fast.tw2505842755066326822 : True := trivial
theorem PySem.W.Fast.tw4269810709154770811 : True := trivial
theorem PySem.W.Fast.tw14715201626196822179 : True := trivial
theorem PySem.W.Fast.tw7776718284645789661 : True := trivial
theorem PySem.W.Fast.tw1081968207157916291 : True := trivial
theorem PySem.W.Fast.tw13319371343988855956 : True := trivial
theorem PySem.W.Fast.tw5965811665333036379 : True := trivial
theorem PySem.W.Fast.tw16425920434603565121 : True := trivial
theorem PySem.W.Fast.tw16331012672483361102 : True := trivial
theorem PySem.W.Fast.tw599336804184471483 : True := trivial
theorem PySem.W.Fast.tw17532844462043874606 : True := trivial
theorem PySem.W.Fast.tw3113747879047102043 : True := trivial
theorem PySem.W.Fast.tw6947586951854391851 : True := trivial
theorem PySem.W.Fast.tw11602814579458555700 : True := trivial
theorem PySem.W.Fast.tw13922863336802376748 : True := trivial
theorem PySem.W.Fast.tw3955523276984515958 : True := trivial
theorem PySem.W.Fast.tw6409622479103739861 : True := trivial
theorem PySem.W.Fast.tw9777328834162509978 : True := trivial
theorem PySem.W.Fast.tw14553468260042235283 : True := trivial
theorem PySem.W.Fast.tw5362207032159245568 : True := trivial
theorem PySem.W.Fast.tw7394718616010398312 : True := trivial
theorem PySem.W.Fast.tw11396579249619669160 : True := trivial
theorem PySem.W.Fast.tw3127017681640591550 : True := trivial
theorem PySem.W.Fast.tw17185488053643680585 : True := trivial
theorem PySem.W.Fast.tw5968327553375575067 : True := trivial
theorem PySem.W.Fast.tw12813869955618283816 : True := trivial
theorem PySem.W.Fast.tw7423423033637088724 : True := trivial
theorem PySem.W.Fast.tw12406295238056466112 : True := trivial
theorem PySem.W.Fast.tw9909246531681085477 : True := trivial
theorem PySem.W.Fast.tw656510244762061303 : True := trivial
theorem PySem.W.Fast.tw10211963257507613436 : True := trivial
theorem PySem.W.Fast.tw3843557899234422144 : True := trivial
theorem PySem.W.Fast.tw9950061282997086739 : True := trivial
theorem PySem.W.Fast.tw5268135292654891154 : True := trivial
theorem PySem.W.Fast.tw8752511380070104451 : True := trivial
theorem PySem.W.Fast.tw4176628931930648119 : True := trivial
theorem PySem.W.Fast.tw13919437060691439710 : True := trivial
theorem PySem.W.Fast.tw16897217157845271371 : True := trivial
theorem PySem.W.Fast.tw4693812246578139984 : True := trivial
theorem PySem.W.Fast.tw6449548143271880720 : True := trivial
theorem PySem.W.Fast.tw965468282633007435 : True := trivial
theorem PySem.W.Fast.tw3622913509162791610 : True := trivial
theorem PySem.W.Fast.tw11290341242704097001 : True := trivial
theorem PySem.W.Fast.tw12676447840176577581 : True := trivial
theorem PySem.W.Fast.tw5503506328043847898 : True := trivial
theorem PySem.W.Fast.tw12838547825405866113 : True := trivial
theorem PySem.W.Fast.tw17028245185934472274 : True := trivial
theorem PySem.W.Fast.tw9079733657744835283 : True := trivial
theorem PySem.W.Fast.tw6433196083964831142 : True := trivial
theorem PySem.W.Fast.tw315458018892592815 : True := trivial
theorem PySem.W.Fast.tw18099748156184628540 : True := trivial
theorem PySem.W.Fast.tw12031318190895089779 : True := trivial
theorem PySem.W.Fast.tw5887097363254554022 : True := trivial
theorem PySem.W.Fast.tw9419793648264453020 : True := trivial
theorem PySem.W.Fast.tw14843767863859876437 : True := trivial
theorem PySem.W.Fast.tw13978496572304188472 : True := trivial
theorem PySem.W.Fast.tw1586966383845585670 : True := trivial
theorem PySem.W.Fast.tw11152695398739630729 : True := trivial
theorem PySem.W.Fast.tw5552155370728225463 : True := trivial
theorem PySem.W.Fast.tw4122346175906058199 : True := trivial
theorem PySem.W.Fast.tw12889074477285920354 : True := trivial
theorem PySem.W.Fast.tw7783323917083835619 : True := trivial
theorem PySem.W.Fast.tw2052937375987227368 : True := trivial
theorem PySem.W.Fast.tw17162881464541014851 : True := trivial
theorem PySem.W.Fast.tw8078031448459999034 : True := trivial
theorem PySem.W.Fast.tw17152816785142002542 : True := trivial
theorem PySem.W.Fast.tw6748540990128018368 : True := trivial
theorem PySem.W.Fast.tw10785630366750007851 : True := trivial
theorem PySem.W.Fast.tw12474112161654051768 : True := trivial
theorem PySem.W.Fast.tw6387335578108589752 : True := trivial
theorem PySem.W.Fast.tw13620059417740022984 : True := trivial
theorem PySem.W.Fast.tw7917347448747019392 : True := trivial
theorem PySem.W.Fast.tw10457164279296289116 : True := trivial
theorem PySem.W.Fast.tw11436307114256259413 : True := trivial
theorem PySem.W.Fast.tw660851933554914407 : True := trivial
theorem PySem.W.Fast.tw9567825139201503595 : True := trivial
theorem PySem.W.Fast.tw8441969827546917766 : True := trivial
theorem PySem.W.Fast.tw997244638625476934 : True := trivial
theorem PySem.W.Fast.tw17897462383799919536 : True := trivial
theorem PySem.W.Fast.tw18203794682611093232 : True := trivial
theorem PySem.W.Fast.tw54147187896656811 : True := trivial
theorem PySem.W.Fast.tw12108813059615974302 : True := trivial
theorem PySem.W.Fast.tw17644063597469614154 : True := trivial
theorem PySem.W.Fast.tw16063707240546217590 : True := trivial
theorem PySem.W.Fast.tw7459171180688751563 : True := trivial
theorem PySem.W.Fast.tw4526981635688789597 : True := trivial
theorem PySem.W.Fast.tw16927513341016232564 : True := trivial
theorem PySem.W.Fast.tw16298841804127295123 : True := trivial
theorem PySem.W.Fast.tw12362713710422850725 : True := trivial
theorem PySem.W.Fast.tw17119374440780162974 : True := trivial
theorem PySem.W.Fast.tw8369430507124005178 : True := trivial
theorem PySem.W.Fast.tw8174344992694539881 : True := trivial
theorem PySem.W.Fast.tw16561615131059039478 : True := trivial
theorem PySem.W.Fast.tw7499034446043861581 : True := trivial
theorem PySem.W.Fast.tw11735983481137601513 : True := trivial
theorem PySem.W.Fast.tw3330878552269017351 : True := trivial
theorem PySem.W.Fast.tw8481569032482523544 : True := trivial
theorem PySem.W.Fast.tw10204587215592439450 : True := trivial
theorem PySem.W.Fast.tw17502258738536727023 : True := trivial
theorem PySem.W.Fast.tw8009158471099813541 : True := trivial
theorem PySem.W.Fast.tw9852224614956937701 : True := trivial
theorem PySem.W.Fast.tw7222538369095086223 : True := trivial
theorem PySem.W.Fast.tw3451071897465229104 : True := trivial
theorem PySem.W.Fast.tw17099989866138347214 : True := trivial
theorem PySem.W.Fast.tw10087595597875033924 : True := trivial
theorem PySem.W.Fast.tw12860315328903374099 : True := trivial
theorem PySem.W.Fast.tw11790856558736230132 : True := trivial
theorem PySem.W.Fast.tw9156955603116664236 : True := trivial
theorem PySem.W.Fast.tw3302462847967095808 : True := trivial
theorem PySem.W.Fast.tw2556754830492243417 : True := trivial
theorem PySem.W.Fast.tw4685641323316509491 : True := trivial
theorem PySem.W.Fast.tw14310091586060913122 : True := trivial
theorem PySem.W.Fast.tw2429820749965181061 : True := trivial
theorem PySem.W.Fast.tw16949861108109715154 : True := trivial
theorem PySem.W.Fast.tw6453501727493056901 : True := trivial
theorem PySem.W.Fast.tw8101189825598938732 : True := trivial
theorem PySem.W.Fast.tw14679427511655106400 : True := trivial
theorem PySem.W.Fast.tw1303494447192726486 : True := trivial
theorem PySem.W.Fast.tw11559610939185183104 : True := trivial
theorem PySem.W.Fast.tw7723150948478123706 : True := trivial
theorem PySem.W.Fast.tw15057297002253490806 : True := trivial
theorem PySem.W.Fast.tw6907127838549854401 : True := trivial
theorem PySem.W.Fast.tw1369048079285360868 : True := trivial
theorem PySem.W.Fast.tw3741303591767512592 : True := trivial
theorem PySem.W.Fast.tw13206509594803755456 : True := trivial
theorem PySem.W.Fast.tw2443660091056782453 : True := trivial
theorem PySem.W.Fast.tw5785054831717348004 : True := trivial
theorem PySem.W.Fast.tw119352860821678116 : True := trivial
theorem PySem.W.Fast.tw4807371147192291681 : True := trivial
theorem PySem.W.Fast.tw13128566767647340240 : True := trivial
theorem PySem.W.Fast.tw5911584830699851952 : True := trivial
theorem PySem.W.Fast.tw10176275328789423561 : True := trivial
theorem PySem.W.Fast.tw17052173041148944644 : True := trivial
theorem PySem.W.Fast.tw16313711460084329559 : True := trivial
theorem PySem.W.Fast.tw3297288066234380416 : True := trivial
theorem PySem.W.Fast.tw7709559674546935610 : True := trivial
theorem PySem.W.Fast.tw6122026875320316110 : True := trivial
theorem PySem.W.Fast.tw16615024304365656625 : True := trivial
theorem PySem.W.Fast.tw8699842447464493063 : True := trivial
theorem PySem.W.Fast.tw12749567718166109745 : True := trivial
theorem PySem.W.Fast.tw9196160584451539784 : True := trivial
theorem PySem.W.Fast.tw16744328622060896837 : True := trivial
theorem PySem.W.Fast.tw17311266483988931111 : True := trivial
theorem PySem.W.Fast.tw2177115162333279283 : True := trivial
theorem PySem.W.Fast.tw1254132937345975601 : True := trivial
theorem PySem.W.Fast.tw16467364045203379874 : True := trivial
theorem PySem.W.Fast.tw9212657367805410286 : True := trivial
theorem PySem.W.Fast.tw12059094001154227278 : True := trivial
theorem PySem.W.Fast.tw10460390684525695879 : True := trivial
theorem PySem.W.Fast.tw2260701130597635985 : True := trivial
theorem PySem.W.Fast.tw14137637371969550575 : True := trivial
theorem PySem.W.Fast.tw16373963686374766412 : True := trivial
theorem PySem.W.Fast.tw9840887712527711318 : True := trivial
theorem PySem.W.Fast.tw13735367013422699441 : True := trivial
theorem PySem.W.Fast.tw2740501135054310906 : True := trivial
theorem PySem.W.Fast.tw4956417176507433649 : True := trivial
theorem PySem.W.Fast.tw16665665594896048627 : True := trivial
theorem PySem.W.Fast.tw8956727289379989159 : True := trivial
theorem PySem.W.Fast.tw122998742848139026 : True := trivial
theorem PySem.W.Fast.tw1119415899876606964 : True := trivial
theorem PySem.W.Fast.tw10255464684841421844 : True := trivial
theorem PySem.W.Fast.tw1514317198504684899 : True := trivial
theorem PySem.W.Fast.tw17647858709308352410 : True := trivial
theorem PySem.W.Fast.tw12765598482626445502 : True := trivial
theorem PySem.W.Fast.tw10797133231561288468 : True := trivial
theorem PySem.W.Fast.tw17508823226293873230 : True := trivial
theorem PySem.W.Fast.tw15195371025479900873 : True := trivial
theorem PySem.W.Fast.tw12370511134626804367 : True := trivial
theorem PySem.W.Fast.tw14778324408428960188 : True := trivial
theorem PySem.W.Fast.tw9399501959531746319 : True := trivial
theorem PySem.W.Fast.tw14107695167958503878 : True := trivial
theorem PySem.W.Fast.tw12302015475245191382 : True := trivial
theorem PySem.W.Fast.tw15635566918336030881 : True := trivial
theorem PySem.W.Fast.tw1553694210859414942 : True := trivial
theorem PySem.W.Fast.tw1420922794211103400 : True := trivial
theorem PySem.W.Fast.tw14338560941589182289 : True := trivial
theorem PySem.W.Fast.tw13182197963192188277 : True := trivial
theorem PySem.W.Fast.tw4602536292706511095 : True := trivial
theorem PySem.W.Fast.tw8908293443753354485 : True := trivial
theorem PySem.W.Fast.tw894381095355701297 : True := trivial
theorem PySem.W.Fast.tw17462761388126123706 : True := trivial
theorem PySem.W.Fast.tw6233368184796702385 : True := trivial
open PySem PySem.W PyProof.Rows
set_option maxRecDepth 100000 in
set_option maxHeartbeats 0 in
theorem PySem.Challenge.cw_traitlattice_k29_deeds_refused_holds : PySem.Challenge.rw_traitlattice_k29_deeds_refused.Holds := by
  w_on; o_law; k_head; (case hw => w_witness2)
  k_fill
  refine My.walk (l := PySem.Challenge.rw_traitlattice_k29_deeds_refused) rfl rfl (fun w h Y => PySem.W.kIn_of Y) ?F
  case F =>
    intro w mg fa h KX G hmg
    refine' My.all_mk KX G hmg ?a_TraitError ?a_BadText ?a_Twice ?a_TooLarge ?a_Unknown ?a_Gap ?a_AtEnd ?a_BadSet ?a_NotBroken ?a_Against ?a_OutOfPlace ?a_Unlike ?a_Book ?a_MOST_COLUMNS ?a_MOST_THINGS ?a_ideas_ideas ?a1 ?l1 ?c1 ?k1 ?a2 ?l2 ?c2 ?k2 ?a3 ?l3 ?c3 ?k3 ?a4 ?l4 ?c4 ?k4 ?a5 ?l5 ?c5 ?k5 ?a6 ?l6 ?c6 ?k6 ?a7 ?l7 ?c7 ?k7 ?a8 ?l8 ?c8 ?k8 ?a9 ?l9 ?c9 ?k9 ?a10 ?l10 ?c10 ?k10 ?i10 ?a11 ?l11 ?c11 ?k11 ?i11 ?a12 ?l12 ?c12 ?k12 ?i12 ?a13 ?l13 ?c13 ?k13 ?i13 ?a14 ?l14 ?c14 ?k14 ?i14 ?a15 ?l15 ?c15 ?k15 ?i15 ?a16 ?l16 ?c16 ?k16 ?i16 ?a17 ?l17 ?c17 ?k17 ?i17 ?a18 ?l18 ?c18 ?k18 ?a19 ?l19 ?c19 ?k19 ?a20 ?l20 ?c20 ?k20 ?a21 ?l21 ?c21 ?k21 ?a22 ?l22 ?c22 ?k22 ?a23 ?l23 ?c23 ?k23 ?a24 ?l24 ?c24 ?k24 ?a25 ?l25 ?c25 ?k25 ?a26 ?l26 ?c26 ?k26 ?a27 ?l27 ?c27 ?k27 ?a28 ?l28 ?c28 ?k28 ?a29 ?l29 ?c29 ?k29 ?a30 ?l30 ?c30 ?k30 ?a31 ?l31 ?c31 ?k31 ?a32 ?l32 ?c32 ?k32 ?a33 ?l33 ?c33 ?k33 ?pg_Book ?hd_Book ?po_Book ?sa_Book ?mk_Book ?kc_Book ?n_Book_breadth ?n_Book_known ?xga_TooLarge ?xno_TooLarge ?xbe_TooLarge ?xob_TooLarge ?xhd_TooLarge ?xsa_TooLarge ?xcl_TooLarge ?xex_TooLarge ?xfn_TooLarge ?xkp_TooLarge ?xov_TooLarge ?xnf_TooLarge ?xm_TooLarge ?xi_TooLarge_ValueError ?xi_TooLarge_BadText ?xi_TooLarge_Twice ?xi_TooLarge_TooLarge ?xi_TooLarge_Gap ?xi_TooLarge_Unknown ?xi_TooLarge_AtEnd ?xi_TooLarge_BadSet ?xi_TooLarge_NotBroken ?xi_TooLarge_Against ?xi_TooLarge_OutOfPlace ?xi_TooLarge_Unlike ?xga_BadSet ?xno_BadSet ?xbe_BadSet ?xob_BadSet ?xhd_BadSet ?xsa_BadSet ?xcl_BadSet ?xe0_BadSet ?xkp_BadSet ?xm_BadSet ?xi_BadSet_ValueError ?xi_BadSet_BadText ?xi_BadSet_Twice ?xi_BadSet_TooLarge ?xi_BadSet_Gap ?xi_BadSet_Unknown ?xi_BadSet_AtEnd ?xi_BadSet_BadSet ?xi_BadSet_NotBroken ?xi_BadSet_Against ?xi_BadSet_OutOfPlace ?xi_BadSet_Unlike ?xga_OutOfPlace ?xno_OutOfPlace ?xbe_OutOfPlace ?xob_OutOfPlace ?xhd_OutOfPlace ?xsa_OutOfPlace ?xcl_OutOfPlace ?xe0_OutOfPlace ?xkp_OutOfPlace ?xm_OutOfPlace ?xi_OutOfPlace_ValueError ?xi_OutOfPlace_BadText ?xi_OutOfPlace_Twice ?xi_OutOfPlace_TooLarge ?xi_OutOfPlace_Gap ?xi_OutOfPlace_Unknown ?xi_OutOfPlace_AtEnd ?xi_OutOfPlace_BadSet ?xi_OutOfPlace_NotBroken ?xi_OutOfPlace_Against ?xi_OutOfPlace_OutOfPlace ?xi_OutOfPlace_Unlike ?xgs ?xtk ?z_ValueError ?z_bool ?z_enumerate ?z_int ?z_isinstance ?z_len ?z_list ?z_range ?z_sorted ?z_tuple
    (case a_TraitError => k_is)
    (case a_BadText => k_is)
    (case a_Twice => k_is)
    (case a_TooLarge => k_is)
    (case a_Unknown => k_is)
    (case a_Gap => k_is)
    (case a_AtEnd => k_is)
    (case a_BadSet => k_is)
    (case a_NotBroken => k_is)
    (case a_Against => k_is)
    (case a_OutOfPlace => k_is)
    (case a_Unlike => k_is)
    (case a_Book => k_is)
    (case a_MOST_COLUMNS => k_is)
    (case a_MOST_THINGS => k_is)
    (case a_ideas_ideas => k_is)
    (case a1 => k_is)
    (case l1 => k_is)
    (case c1 => k_is)
    (case k1 => k_is)
    (case a2 => k_is)
    (case l2 => k_is)
    (case c2 => k_is)
    (case k2 => k_is)
    (case a3 => k_is)
    (case l3 => k_is)
    (case c3 => k_is)
    (case k3 => k_is)
    (case a4 => k_is)
    (case l4 => k_is)
    (case c4 => k_is)
    (case k4 => k_is)
    (case a5 => k_is)
    (case l5 => k_is)
    (case c5 => k_is)
    (case k5 => k_is)
    (case a6 => k_is)
    (case l6 => k_is)
    (case c6 => k_is)
    (case k6 => k_is)
    (case a7 => k_is)
    (case l7 => k_is)
    (case c7 => k_is)
    (case k7 => k_is)
    (case a8 => k_is)
    (case l8 => k_is)
    (case c8 => k_is)
    (case k8 => k_is)
    (case a9 => k_is)
    (case l9 => k_is)
    (case c9 => k_is)
    (case k9 => k_is)
    (case a10 => k_is)
    (case l10 => k_is)
    (case c10 => k_is)
    (case k10 => k_is)
    (case i10 => k_is)
    (case a11 => k_is)
    (case l11 => k_is)
    (case c11 => k_is)
    (case k11 => k_is)
    (case i11 => k_is)
    (case a12 => k_is)
    (case l12 => k_is)
    (case c12 => k_is)
    (case k12 => k_is)
    (case i12 => k_is)
    (case a13 => k_is)
    (case l13 => k_is)
    (case c13 => k_is)
    (case k13 => k_is)
    (case i13 => k_is)
    (case a14 => k_is)
    (case l14 => k_is)
    (case c14 => k_is)
    (case k14 => k_is)
    (case i14 => k_is)
    (case a15 => k_is)
    (case l15 => k_is)
    (case c15 => k_is)
    (case k15 => k_is)
    (case i15 => k_is)
    (case a16 => k_is)
    (case l16 => k_is)
    (case c16 => k_is)
    (case k16 => k_is)
    (case i16 => k_is)
    (case a17 => k_is)
    (case l17 => k_is)
    (case c17 => k_is)
    (case k17 => k_is)
    (case i17 => k_is)
    (case a18 => k_is)
    (case l18 => k_is)
    (case c18 => k_is)
    (case k18 => k_is)
    (case a19 => k_is)
    (case l19 => k_is)
    (case c19 => k_is)
    (case k19 => k_is)
    (case a20 => k_is)
    (case l20 => k_is)
    (case c20 => k_is)
    (case k20 => k_is)
    (case a21 => k_is)
    (case l21 => k_is)
    (case c21 => k_is)
    (case k21 => k_is)
    (case a22 => k_is)
    (case l22 => k_is)
    (case c22 => k_is)
    (case k22 => k_is)
    (case a23 => k_is)
    (case l23 => k_is)
    (case c23 => k_is)
    (case k23 => k_is)
    (case a24 => k_is)
    (case l24 => k_is)
    (case c24 => k_is)
    (case k24 => k_is)
    (case a25 => k_is)
    (case l25 => k_is)
    (case c25 => k_is)
    (case k25 => k_is)
    (case a26 => k_is)
    (case l26 => k_is)
    (case c26 => k_is)
    (case k26 => k_is)
    (case a27 => k_is)
    (case l27 => k_is)
    (case c27 => k_is)
    (case k27 => k_is)
    (case a28 => k_is)
    (case l28 => k_is)
    (case c28 => k_is)
    (case k28 => k_is)
    (case a29 => k_is)
    (case l29 => k_is)
    (case c29 => k_is)
    (case k29 => k_is)
    (case a30 => k_is)
    (case l30 => k_is)
    (case c30 => k_is)
    (case k30 => k_is)
    (case a31 => k_is)
    (case l31 => k_is)
    (case c31 => k_is)
    (case k31 => k_is)
    (case a32 => k_is)
    (case l32 => k_is)
    (case c32 => k_is)
    (case k32 => k_is)
    (case a33 => k_is)
    (case l33 => k_is)
    (case c33 => k_is)
    (case k33 => k_is)
    (case pg_Book => k_is)
    (case hd_Book => k_is)
    (case po_Book => k_is)
    (case sa_Book => k_is)
    (case mk_Book => k_is)
    (case kc_Book => k_is)
    (case n_Book_breadth => k_is)
    (case n_Book_known => k_is)
    (case xga_TooLarge => k_is)
    (case xno_TooLarge => k_is)
    (case xbe_TooLarge => k_is)
    (case xob_TooLarge => k_is)
    (case xhd_TooLarge => k_is)
    (case xsa_TooLarge => k_is)
    (case xcl_TooLarge => k_is)
    (case xex_TooLarge => kernel_rfl)
    (case xfn_TooLarge => k_is)
    (case xkp_TooLarge => k_is)
    (case xov_TooLarge => kernel_rfl)
    (case xnf_TooLarge => k_is)
    (case xm_TooLarge => kernel_rfl)
    (case xi_TooLarge_ValueError => kit_is)
    (case xi_TooLarge_BadText => kit_is)
    (case xi_TooLarge_Twice => kit_is)
    (case xi_TooLarge_TooLarge => kit_is)
    (case xi_TooLarge_Gap => kit_is)
    (case xi_TooLarge_Unknown => kit_is)
    (case xi_TooLarge_AtEnd => kit_is)
    (case xi_TooLarge_BadSet => kit_is)
    (case xi_TooLarge_NotBroken => kit_is)
    (case xi_TooLarge_Against => kit_is)
    (case xi_TooLarge_OutOfPlace => kit_is)
    (case xi_TooLarge_Unlike => kit_is)
    (case xga_BadSet => k_is)
    (case xno_BadSet => k_is)
    (case xbe_BadSet => k_is)
    (case xob_BadSet => k_is)
    (case xhd_BadSet => k_is)
    (case xsa_BadSet => k_is)
    (case xcl_BadSet => k_is)
    (case xe0_BadSet => kernel_rfl)
    (case xkp_BadSet => k_is)
    (case xm_BadSet => kernel_rfl)
    (case xi_BadSet_ValueError => kit_is)
    (case xi_BadSet_BadText => kit_is)
    (case xi_BadSet_Twice => kit_is)
    (case xi_BadSet_TooLarge => kit_is)
    (case xi_BadSet_Gap => kit_is)
    (case xi_BadSet_Unknown => kit_is)
    (case xi_BadSet_AtEnd => kit_is)
    (case xi_BadSet_BadSet => kit_is)
    (case xi_BadSet_NotBroken => kit_is)
    (case xi_BadSet_Against => kit_is)
    (case xi_BadSet_OutOfPlace => kit_is)
    (case xi_BadSet_Unlike => kit_is)
    (case xga_OutOfPlace => k_is)
    (case xno_OutOfPlace => k_is)
    (case xbe_OutOfPlace => k_is)
    (case xob_OutOfPlace => k_is)
    (case xhd_OutOfPlace => k_is)
    (case xsa_OutOfPlace => k_is)
    (case xcl_OutOfPlace => k_is)
    (case xe0_OutOfPlace => kernel_rfl)
    (case xkp_OutOfPlace => k_is)
    (case xm_OutOfPlace => kernel_rfl)
    (case xi_OutOfPlace_ValueError => kit_is)
    (case xi_OutOfPlace_BadText => kit_is)
    (case xi_OutOfPlace_Twice => kit_is)
    (case xi_OutOfPlace_TooLarge => kit_is)
    (case xi_OutOfPlace_Gap => kit_is)
    (case xi_OutOfPlace_Unknown => kit_is)
    (case xi_OutOfPlace_AtEnd => kit_is)
    (case xi_OutOfPlace_BadSet => kit_is)
    (case xi_OutOfPlace_NotBroken => kit_is)
    (case xi_OutOfPlace_Against => kit_is)
    (case xi_OutOfPlace_OutOfPlace => kit_is)
    (case xi_OutOfPlace_Unlike => kit_is)
    (case xgs => k_is)
    (case xtk => k_is)
    (case z_ValueError => k_is)
    (case z_bool => k_is)
    (case z_enumerate => k_is)
    (case z_int => k_is)
    (case z_isinstance => k_is)
    (case z_len => k_is)
    (case z_list => k_is)
    (case z_range => k_is)
    (case z_sorted => k_is)
    (case z_tuple => k_is)