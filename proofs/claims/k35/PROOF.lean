import PyProof.Rows.All
import Wide.All
import OpenK.AllK
import Wide.FinOn
import Lean
import PyProof.EqAt
import PyProof.EqKinds
import PyProof.TupleCall
import PySem.Challenge.RW_traitlattice_k35_one_on_another
set_option Elab.async false
set_option bootstrap.genMatcherCode false
set_option linter.all false
set_option maxRecDepth 100000
namespace L2
open PySem PySem.Spec PyProof.Rows
noncomputable abbrev Key := Sum Int Str
noncomputable def keyIs : Key → Value → Bool
  | .inl k, v => Value.isInt k v
  | .inr x, v => Value.isStrOf x v
noncomputable def keyH (w : World) : Key → Int
  | .inl k => hashInt k
  | .inr x => hashStr w x
theorem keyIs_shape : ∀ {k : Key} {v : Value}, keyIs k v = true → (∃ i t, k = Sum.inl i ∧ v = Value.int i t) ∨ (∃ x t, k = Sum.inr x ∧ v = Value.str x t)
  | .inl i, v, h => by
    obtain ⟨t, e⟩ := Value.isInt_shape (k := i) (v := v) h
    exact .inl ⟨i, t, rfl, e⟩
  | .inr x, v, h => by
    obtain ⟨t, e⟩ := Value.isStrOf_shape (x := x) (v := v) h
    exact .inr ⟨x, t, rfl, e⟩
theorem key_ll (a b : Int) : decide ((Sum.inl a : Key) = Sum.inl b) = (a == b) := by
  by_cases e : a = b
  · subst e; simp
  · have h : ¬ (Sum.inl a : Key) = Sum.inl b := fun q => e (Sum.inl.inj q)
    rw [decide_eq_false h]
    exact (beq_eq_false_iff_ne.mpr e).symm
theorem key_rr (a b : Str) : decide ((Sum.inr a : Key) = Sum.inr b) = decide (a = b) := by
  by_cases e : a = b
  · subst e; simp
  · have h : ¬ (Sum.inr a : Key) = Sum.inr b := fun q => e (Sum.inr.inj q)
    rw [decide_eq_false h, decide_eq_false e]
theorem key_lr (a : Int) (b : Str) : decide ((Sum.inl a : Key) = Sum.inr b) = false := decide_eq_false (fun q => nomatch q)
theorem key_rl (a : Str) (b : Int) : decide ((Sum.inr a : Key) = Sum.inl b) = false := decide_eq_false (fun q => nomatch q)
noncomputable def mixKind (prog : Program) (w : World) : PySem.KeyKind prog w Key where
  is := keyIs
  hash := keyH w
  inj := fun v a b ha hb => by
    rcases keyIs_shape ha with ⟨i, t, rfl, rfl⟩ | ⟨x, t, rfl, rfl⟩
    · rcases keyIs_shape hb with ⟨j, u, rfl, e⟩ | ⟨y, u, rfl, e⟩
      · injection e with e1 _; rw [e1]
      · exact nomatch e
    · rcases keyIs_shape hb with ⟨j, u, rfl, e⟩ | ⟨y, u, rfl, e⟩
      · exact nomatch e
      · injection e with e1 _; rw [e1]
  byValue := fun k v h => by
    rcases keyIs_shape h with ⟨i, t, rfl, rfl⟩ | ⟨x, t, rfl, rfl⟩ <;> rfl
  pyHash := fun hv h => by
    rcases keyIs_shape hv with ⟨i, t, rfl, rfl⟩ | ⟨x, t, rfl, rfl⟩
    · exact wpAny_pyHash_int h
    · exact wpAny_pyHash_str h
  eqBool := fun hu hv h => by
    rcases keyIs_shape hu with ⟨i, t, rfl, rfl⟩ | ⟨x, t, rfl, rfl⟩
    · rcases keyIs_shape hv with ⟨j, u, rfl, rfl⟩ | ⟨y, u, rfl, rfl⟩
      · rw [key_ll] at h; exact wpAny_eqBool_int h
      · rw [key_lr] at h; exact SeqAt.EqAt.int_str i t y u _ _ _ _ h
    · rcases keyIs_shape hv with ⟨j, u, rfl, rfl⟩ | ⟨y, u, rfl, rfl⟩
      · rw [key_rl] at h; exact SeqAt.EqAt.str_int x t j u _ _ _ _ h
      · rw [key_rr] at h; exact wpAny_eqBool_str h
  «strs» := fun k x t v h => by
    rcases keyIs_shape h with ⟨i, u, rfl, e⟩ | ⟨y, u, rfl, e⟩
    · exact nomatch e
    · injection e with e1 _
      subst e1
      cases v <;> rfl
end L2
namespace L2
open PySem PySem.Spec PyProof.Rows
inductive V where
  | non | bl (b : Bool) | int (i : Int) | str (x : Str) | byt (b : Array UInt8) | flt (b : UInt64) | ref (a : Addr) | ty (n : String)
  deriving DecidableEq
noncomputable def RelV : V → Value → Prop
  | .non, u => u = Value.none
  | .bl b, u => u = Value.bool b
  | .int i, u => ∃ t, u = Value.int i t
  | .str x, u => ∃ t, u = Value.str x t
  | .byt b, u => ∃ t, u = Value.bytes b t
  | .flt b, u => ∃ t, u = Value.float b t
  | .ref a, u => u = Value.ref a
  | .ty n, u => u = Value.type n
noncomputable abbrev Vals : List V → List Value → Prop := Paired RelV
theorem Vals.length {xs : List V} {us : List Value} (r : Vals xs us) : xs.length = us.length := Paired.length r
theorem Vals.get : ∀ {xs : List V} {us : List Value} {i : Nat} {x : V}, Vals xs us → xs[i]? = some x → ∃ u, us[i]? = some u ∧ RelV x u
  | _, _, _, _, .nil, e => by simp at e
  | _, _, 0, _, .cons r _, e => by simp at e; subst e; exact ⟨_, rfl, r⟩
  | _, _, i + 1, x, .cons _ t, e => by
    obtain ⟨u, h1, h2⟩ := Vals.get (i := i) (x := x) t (by simpa using e)
    exact ⟨u, by simpa using h1, h2⟩
theorem Vals.set {x : V} {u : Value} (r : RelV x u) : ∀ {xs : List V} {us : List Value} (i : Nat), Vals xs us → Vals (xs.set i x) (us.set i u)
  | _, _, _, .nil => .nil
  | _, _, 0, .cons _ t => .cons r t
  | _, _, i + 1, .cons q t => .cons q (Vals.set r i t)
theorem Vals.append : ∀ {xs ys : List V} {us ws : List Value}, Vals xs us → Vals ys ws → Vals (xs ++ ys) (us ++ ws)
  | _, _, _, _, .nil, s => s
  | _, _, _, _, .cons r t, s => .cons r (Vals.append t s)
theorem Vals.take : ∀ {xs : List V} {us : List Value} (n : Nat), Vals xs us → Vals (xs.take n) (us.take n)
  | _, _, 0, _ => .nil
  | _, _, _ + 1, .nil => .nil
  | _, _, n + 1, .cons r t => .cons r (Vals.take n t)
theorem Vals.drop : ∀ {xs : List V} {us : List Value} (n : Nat), Vals xs us → Vals (xs.drop n) (us.drop n)
  | _, _, 0, r => r
  | _, _, _ + 1, .nil => .nil
  | _, _, n + 1, .cons _ t => Vals.drop n t
theorem Vals.none_of : ∀ {xs : List V} {us : List Value} {i : Nat}, Vals xs us → xs[i]? = none → us[i]? = none := fun {xs us i} r e => by
  have h1 := r.length
  have h2 : xs.length ≤ i := List.getElem?_eq_none_iff.mp e
  exact List.getElem?_eq_none_iff.mpr (by omega)
noncomputable def RelO : Option V → Option Value → Prop
  | some v, some u => RelV v u
  | none, none => True
  | _, _ => False
noncomputable def KV {κ : Type} : List (κ × V) → List (κ × Value) → Prop := Paired fun (p : κ × V) (q : κ × Value) => p.1 = q.1 ∧ RelV p.2 q.2
noncomputable def kV : Key → V
  | .inl i => .int i
  | .inr x => .str x
inductive HO where
  | lst (xs : List V)
  | tup (xs : List V)
  | dK (kvs : List (Key × V)) | dT (kvs : List (List Key × V))
  | set (S : Int → Bool) (n : Nat)
  | ins (C dx : Addr) (fs : List (Str × V))
  | own (x : Addr)
  | xd (fs : List (Str × V))
  | met (f x : Addr)
  | rng (lo hi : Int)
  | frz (o : Obj) (u : HO)
  | tbl (ps : Array Value)
  | ext (φ : Heap → Prop)
noncomputable abbrev Hp := Addr → Option HO
noncomputable def upd (H : Hp) (a : Addr) (o : HO) : Hp := fun b => if b = a then some o else H b
theorem upd_same {H : Hp} {a : Addr} {o : HO} : upd H a o a = some o := by unfold upd; rw [if_pos rfl]
theorem upd_ne {H : Hp} {a b : Addr} {o : HO} (h : b ≠ a) : upd H a o b = H b := by unfold upd; rw [if_neg h]
theorem ne_of {H : Hp} {a b : Addr} {o u : HO} (h : H a = some o) (h' : H b = some u) (d : o ≠ u) : a ≠ b := by
  intro e; subst e; rw [h] at h'; exact d (Option.some.inj h')
theorem ne_of_none {H : Hp} {a b : Addr} {o : HO} (h : H a = some o) (h' : H b = none) : a ≠ b := by
  intro e; subst e; rw [h] at h'; cases h'
section
variable (P : Program) (w : World)
noncomputable def ObjOk (H : Hp) (h : Heap) (a : Addr) : HO → Prop
  | .lst xs => xs.length ≤ sizeLine ∧ ∃ (its : List Value) (n : Nat), Vals xs its ∧ h.get? a = some { cls := .type "list", data := .seq its.toArray n }
  | .tup xs => xs.length ≤ sizeLine ∧ ∃ its : List Value, Vals xs its ∧ IsTup h a its.toArray
  | .dK kvs => kvs.length ≤ sizeLine ∧ (a == sysModules) = false ∧ ∃ vs, KV kvs vs ∧ h.DictOf (mixKind P w) a vs
  | .dT kvs => kvs.length ≤ sizeLine ∧ (a == sysModules) = false ∧ ∃ xs : List (List Key × Addr × Value),
      Paired (fun (p : List Key × V) (q : List Key × Addr × Value) => p.1 = q.1 ∧ H q.2.1 = some (.tup (p.1.map kV)) ∧ RelV p.2 q.2.2) kvs xs ∧
      ∃ o es ep, h.get? a = some o ∧ o.ExactDict ∧ o.data = .dict es ep ∧ es.toList = xs.map (entryOfKey (tupleKind (mixKind P w))) ∧ (xs.map (·.1)).Nodup
  | .set S n => h.SetOf (intKind P w) a S n
  | .ins C dx fs => H dx = some (.own a) ∧ fs.length ≤ 1000 ∧ dx ≠ a ∧ h.get? a = some (PySem.W.instObj C dx) ∧
      ∃ mA, h.Ns1 dx mA ∧ (∀ f, RelO (fs.lookup f) (mA f)) ∧ PySem.Within mA (fs.map (·.1))
  | .own _ => ∃ o, h.get? a = some o
  | .xd fs => ∃ mA, h.Ns1 a mA ∧ ∀ f, RelO (fs.lookup f) (mA f)
  | .rng lo hi => ∃ t u v, h.get? a = some { cls := .type "range", data := .fields #[.int lo t, .int hi u, .int 1 v] }
  | .frz o u => h.get? a = some o ∧ ObjOk H h a u
  | .tbl ps => h.get? a = some { cls := .none, data := .fields ps }
  | .met f x => h.get? a = some (PySem.W.methodObj (.ref f) (.ref x))
  | .ext φ => φ h ∧ (∃ o, h.get? a = some o) ∧ ∀ h1 h2 : Heap, φ h1 → (∀ o, h1.get? a = some o → h2.get? a = some o) → φ h2
noncomputable def HOk (H : Hp) (h : Heap) : Prop := ∀ a o, H a = some o → ObjOk P w H h a o
end
section
variable {P : Program} {w : World} {H H' : Hp} {h h' : Heap} {a : Addr} {o : HO}
theorem ObjOk.lt (x : ObjOk P w H h a o) : a < h.objs.size := by
  cases o with
  | lst xs => obtain ⟨_, _, _, _, e⟩ := x; exact Heap.lt_size e
  | tup xs => obtain ⟨_, _, _, p⟩ := x; exact p.lt
  | dK kvs => obtain ⟨_, _, _, _, o, _, _, e, _⟩ := x; exact Heap.lt_size e
  | dT kvs => obtain ⟨_, _, _, _, o, _, _, e, _⟩ := x; exact Heap.lt_size e
  | set S n => obtain ⟨o, _, _, _, e, _⟩ := x; exact Heap.lt_size e
  | ins C dx fs => obtain ⟨_, _, _, e, _⟩ := x; exact Heap.lt_size e
  | own y => obtain ⟨_, e⟩ := x; exact Heap.lt_size e
  | xd fs => obtain ⟨_, ⟨_, _, _, e, _⟩, _⟩ := x; exact Heap.lt_size e
  | rng lo hi => obtain ⟨_, _, _, e⟩ := x; exact Heap.lt_size e
  | frz ob u => obtain ⟨e, _⟩ := x; exact Heap.lt_size e
  | tbl ps => exact Heap.lt_size (show h.get? a = some _ from x)
  | met f y => exact Heap.lt_size (show h.get? a = some _ from x)
  | ext φ => obtain ⟨_, ⟨_, e⟩, _⟩ := x; exact Heap.lt_size e
theorem Paired.mapP {α β : Type} {F G : α → β → Prop} : ∀ {l₁ : List α} {l₂ : List β}, Paired F l₁ l₂ → (∀ a b, F a b → G a b) → Paired G l₁ l₂
  | _, _, .nil, _ => .nil
  | _, _, .cons r t, f => .cons (f _ _ r) (Paired.mapP t f)
theorem ObjOk.stay (x : ObjOk P w H h a o) (k : ∀ b u, (b = a ∨ H b = some (.own a)) → h.get? b = some u → h'.get? b = some u)
    (ho : ∀ b, H b = some (.own a) → H' b = some (.own a)) (ht : ∀ b xs, H b = some (.tup xs) → H' b = some (.tup xs)) : ObjOk P w H' h' a o := by
  induction o with
  | lst xs => obtain ⟨z, its, n, r, e⟩ := x; exact ⟨z, its, n, r, k _ _ (.inl rfl) e⟩
  | tup xs => obtain ⟨z, its, r, ob, e, c⟩ := x; exact ⟨z, its, r, ob, k _ _ (.inl rfl) e, c⟩
  | dK kvs => obtain ⟨z, y, vs, r, ob, es, ep, e, c⟩ := x; exact ⟨z, y, vs, r, ob, es, ep, k _ _ (.inl rfl) e, c⟩
  | dT kvs =>
    obtain ⟨z, y, xs, r, ob, es, ep, e, c⟩ := x
    exact ⟨z, y, xs, Paired.mapP r fun p q z => ⟨z.1, ht _ _ z.2.1, z.2.2⟩, ob, es, ep, k _ _ (.inl rfl) e, c⟩
  | set S n => obtain ⟨ob, es, ep, t, e, c⟩ := x; exact ⟨ob, es, ep, t, k _ _ (.inl rfl) e, c⟩
  | ins C dx fs =>
    obtain ⟨d, z, ne, e, mA, ⟨od, es, ep, e2, c⟩, r⟩ := x
    exact ⟨ho _ d, z, ne, k _ _ (.inl rfl) e, mA, ⟨od, es, ep, k _ _ (.inr d) e2, c⟩, r⟩
  | own y => obtain ⟨ob, e⟩ := x; exact ⟨ob, k _ _ (.inl rfl) e⟩
  | xd fs => obtain ⟨mA, ⟨od, es, ep, e, c⟩, r⟩ := x; exact ⟨mA, ⟨od, es, ep, k _ _ (.inl rfl) e, c⟩, r⟩
  | rng lo hi => obtain ⟨t, u, v, e⟩ := x; exact ⟨t, u, v, k _ _ (.inl rfl) e⟩
  | frz ob u ih => obtain ⟨e, q⟩ := x; exact ⟨k _ _ (.inl rfl) e, ih q⟩
  | tbl ps =>
    have e : h.get? a = some { cls := .none, data := .fields ps } := x
    show h'.get? a = some { cls := .none, data := .fields ps }
    exact k a _ (.inl rfl) e
  | met f y =>
    have e : h.get? a = some (PySem.W.methodObj (.ref f) (.ref y)) := x
    show h'.get? a = some (PySem.W.methodObj (.ref f) (.ref y))
    exact k a _ (.inl rfl) e
  | ext φ => obtain ⟨p, ⟨o, e⟩, st⟩ := x; exact ⟨st _ _ p fun o q => k _ _ (.inl rfl) q, ⟨o, k _ _ (.inl rfl) e⟩, st⟩
theorem HOk.lt (x : HOk P w H h) (e : H a = some o) : a < h.objs.size := (x a o e).lt
theorem HOk.fresh (x : HOk P w H h) (e : h.objs.size ≤ a) : H a = none := by
  cases q : H a with
  | none => rfl
  | some u => exact absurd (Nat.lt_of_lt_of_le (x.lt q) e) (Nat.lt_irrefl _)
theorem HOk.kept (x : HOk P w H h) (k : ∀ b u, h.get? b = some u → h'.get? b = some u) : HOk P w H h' := fun a o e =>
  (x a o e).stay (fun b u _ q => k b u q) (fun _ q => q) fun _ _ q => q
theorem HOk.laid (x : HOk P w H h) (k : ∀ b u, h.get? b = some u → h'.get? b = some u) (hp : h.objs.size ≤ a) (new : ObjOk P w (upd H a o) h' a o) : HOk P w (upd H a o) h' := fun b u e => by
  have hn := x.fresh hp
  by_cases hb : b = a
  · subst hb; rw [upd_same] at e; cases e; exact new
  · rw [upd_ne hb] at e
    exact (x b u e).stay (fun c v _ q => k c v q) (fun c q => by rw [upd_ne (ne_of_none q hn)]; exact q) fun c xs q => by rw [upd_ne (ne_of_none q hn)]; exact q
end
noncomputable def Rd (H : Hp) (a : Addr) (u : HO) : Prop := H a = some u ∨ ∃ o, H a = some (.frz o u)
theorem Rd.of {H : Hp} {a : Addr} {u : HO} (h : H a = some u) : Rd H a u := .inl h
theorem Rd.ok {P : Program} {w : World} {H : Hp} {h : Heap} {a : Addr} {u : HO} (r : Rd H a u) (x : HOk P w H h) : ObjOk P w H h a u := by
  rcases r with r | ⟨o, r⟩
  · exact x a u r
  · obtain ⟨_, q⟩ := x a _ r
    exact q
noncomputable def Mut : Option HO → Prop
  | some (.lst _) => True
  | some (.dK _) => True
  | some (.dT _) => True
  | some (.set _ _) => True
  | some (.ins _ _ _) => True
  | some (.ext _) => True
  | _ => False
section
variable {P : Program} {w : World} {H : Hp} {h h' : Heap} {x e : Addr} {o' : HO}
theorem HOk.write (ok : HOk P w H h) (mu : Mut (H x)) (he : e = x ∨ H e = some (.own x)) (k : ∀ b u, b ≠ e → h.get? b = some u → h'.get? b = some u) (heo : ∃ u, h'.get? e = some u)
    (new : ObjOk P w (upd H x o') h' x o') : HOk P w (upd H x o') h' := fun b u q => by
  have nown : ∀ c y, H c = some (.own y) → c ≠ x := fun c y r z => by subst z; rw [r] at mu; exact mu
  have ntup : ∀ c xs, H c = some (.tup xs) → c ≠ x := fun c xs r z => by subst z; rw [r] at mu; exact mu
  by_cases hb : b = x
  · subst hb; rw [upd_same] at q; cases q; exact new
  · rw [upd_ne hb] at q
    by_cases hbe : b = e
    · have q' : H b = some (.own x) := by
        rcases he with z | z
        · exact absurd (hbe.trans z) hb
        · rw [hbe]; exact z
      rw [q] at q'; cases q'
      obtain ⟨v, hv⟩ := heo
      exact ⟨v, by rw [hbe]; exact hv⟩
    · refine (ok b u q).stay (fun c v hc r => k c v ?_ r) (fun c r => by rw [upd_ne (nown c b r)]; exact r) fun c xs r => by rw [upd_ne (ntup c xs r)]; exact r
      rcases hc with rfl | hc
      · exact hbe
      · rintro rfl
        rcases he with z | z
        · exact nown c b hc z
        · rw [hc] at z; cases z; exact hb rfl
end
structure Un (fs ex : List Addr) (H H' : Hp) (h h' : Heap) : Prop where
  keep : ∀ b o, h.get? b = some o → H b = none → b ∉ fs → b ∉ ex → h'.get? b = some o
  slot : ∀ b o, h.get? b = some o → H b = none → b ∈ fs → b ∉ ex → ∃ sl, h'.get? b = some { o with slots := sl }
  free : ∀ b o, h.get? b = some o → H b = none → b ∉ ex → H' b = none
  there : ∀ b o, h.get? b = some o → b ∉ ex → ∃ o', h'.get? b = some o'
  tups : ∀ b xs, H b = some (.tup xs) → H' b = some (.tup xs)
  frzs : ∀ b o u, H b = some (.frz o u) → H' b = some (.frz o u)
  tbls : ∀ b ps, H b = some (.tbl ps) → ∃ more, H' b = some (.tbl (ps ++ more))
section
variable {fs fs' ex ex' : List Addr} {H H1 H2 : Hp} {h h1 h2 h' : Heap} {a x e : Addr} {o : HO}
theorem Un.any (u : Un fs ex H H1 h h1) {b : Addr} {ob : Obj} (q : h.get? b = some ob) (n : H b = none) (hx : b ∉ ex) : ∃ sl, h1.get? b = some { ob with slots := sl } := by
  by_cases hb : b ∈ fs
  · exact u.slot b ob q n hb hx
  · exact ⟨ob.slots, u.keep b ob q n hb hx⟩
theorem Un.trans (a : Un fs ex H H1 h h1) (b : Un fs ex H1 H2 h1 h2) : Un fs ex H H2 h h2 where
  keep := fun c ob q n hc hx => b.keep c ob (a.keep c ob q n hc hx) (a.free c ob q n hx) hc hx
  slot := fun c ob q n hc hx => by
    obtain ⟨sl, e1⟩ := a.slot c ob q n hc hx
    obtain ⟨sl', e2⟩ := b.slot c _ e1 (a.free c ob q n hx) hc hx
    exact ⟨sl', e2⟩
  free := fun c ob q n hx => by
    obtain ⟨o', e1⟩ := a.there c ob q hx
    exact b.free c o' e1 (a.free c ob q n hx) hx
  there := fun c ob q hx => by
    obtain ⟨o', e1⟩ := a.there c ob q hx
    exact b.there c o' e1 hx
  tups := fun c xs q => b.tups c xs (a.tups c xs q)
  frzs := fun c ob xs q => b.frzs c ob xs (a.frzs c ob xs q)
  tbls := fun c ps q => by
    obtain ⟨m1, e1⟩ := a.tbls c ps q
    obtain ⟨m2, e2⟩ := b.tbls c _ e1
    exact ⟨m1 ++ m2, by rw [e2, Array.append_assoc]⟩
theorem Un.kept (k : ∀ b u, h.get? b = some u → h'.get? b = some u) : Un fs ex H H h h' :=
  ⟨fun b ob q _ _ _ => k b ob q, fun b ob q _ _ _ => ⟨ob.slots, k b ob q⟩, fun _ _ _ n _ => n, fun b ob q _ => ⟨ob, k b ob q⟩, fun _ _ q => q, fun _ _ _ q => q, fun _ ps q => ⟨#[], by rw [q]; simp⟩⟩
theorem Un.refl : Un fs ex H H h h := Un.kept fun _ _ q => q
theorem Un.laid (k : ∀ b u, h.get? b = some u → h'.get? b = some u) (hp : h.objs.size ≤ a) (hn : H a = none) : Un fs ex H (upd H a o) h h' where
  keep := fun b u q _ _ _ => k b u q
  slot := fun b u q _ _ _ => ⟨u.slots, k b u q⟩
  free := fun b u q n _ => by rw [upd_ne (Nat.ne_of_lt (Nat.lt_of_lt_of_le (Heap.lt_size q) hp))]; exact n
  there := fun b u q _ => ⟨u, k b u q⟩
  tups := fun b xs q => by rw [upd_ne (ne_of_none q hn)]; exact q
  frzs := fun b u xs q => by rw [upd_ne (ne_of_none q hn)]; exact q
  tbls := fun b ps q => ⟨#[], by rw [upd_ne (ne_of_none q hn), q]; simp⟩
theorem Un.write (mu : Mut (H x)) (he : e = x ∨ H e = some (.own x)) (k : ∀ b u, b ≠ e → h.get? b = some u → h'.get? b = some u) (heo : ∃ u, h'.get? e = some u) : Un fs ex H (upd H x o) h h' := by
  have hx : ∀ b, H b = none → b ≠ x := fun b n z => by subst z; rw [n] at mu; exact mu
  have hb : ∀ b, H b = none → b ≠ e := fun b n z => by
    subst z
    rcases he with r | r
    · exact hx b n r
    · rw [n] at r; cases r
  have hm : ∀ b u, H b = some u → ¬ Mut (some u) → b ≠ x := fun b u q nm z => by subst z; rw [q] at mu; exact nm mu
  refine ⟨fun b u q n _ _ => k b u (hb b n) q, fun b u q n _ _ => ⟨u.slots, k b u (hb b n) q⟩, fun b u q n _ => by rw [upd_ne (hx b n)]; exact n, fun b u q _ => ?_,
    fun b xs q => by rw [upd_ne (hm b _ q fun z => z)]; exact q, fun b u xs q => by rw [upd_ne (hm b _ q fun z => z)]; exact q, fun b ps q => ⟨#[], by rw [upd_ne (hm b _ q fun z => z), q]; simp⟩⟩
  by_cases hbe : b = e
  · subst hbe; exact heo
  · exact ⟨u, k b u hbe q⟩
theorem Un.mono (u : Un fs ex H H1 h h1) (hs : ∀ b ∈ fs, b ∈ fs') (hx : ∀ b ∈ ex, b ∈ ex') : Un fs' ex' H H1 h h1 :=
  ⟨fun b ob q n hb he => u.keep b ob q n (fun z => hb (hs b z)) fun z => he (hx b z), fun _ _ q n _ he => u.any q n fun z => he (hx _ z), fun b ob q n he => u.free b ob q n fun z => he (hx b z), fun b ob q he => u.there b ob q fun z => he (hx b z), u.tups, u.frzs, u.tbls⟩
end
noncomputable def trk (h : Heap) (H : Hp) : List Addr := (List.range h.objs.size).filter fun a => (H a).isSome
noncomputable def hidT (h : Heap) (H : Hp) : Heap := PySem.W.hideAll h (trk h H)
theorem hidT_size (h : Heap) (H : Hp) : (hidT h H).objs.size = h.objs.size := PySem.W.hideAll_size _ _
theorem hidT_get {h : Heap} {H : Hp} {b : Addr} {o : Obj} (e : h.get? b = some o) (n : H b = none) : (hidT h H).get? b = some o :=
  PySem.W.hideAll_get _ e fun hm => by
    have q : (H b).isSome = true := (List.mem_filter.mp hm).2
    rw [n] at q; simp at q
theorem of_hidT {h : Heap} {H : Hp} {b : Addr} {o : Obj} (e : (hidT h H).get? b = some o) : h.get? b = some o ∧ H b = none := by
  have e' : h.get? b = some o := PySem.W.of_hideAll (trk h H) e
  refine ⟨e', ?_⟩
  cases q : H b with
  | none => rfl
  | some x =>
    have hm : b ∈ trk h H := List.mem_filter.mpr ⟨List.mem_range.mpr (Heap.lt_size e'), by simp [q]⟩
    have z : (hidT h H).get? b = none := PySem.W.hideAll_none (trk h H) hm
    rw [z] at e; cases e
noncomputable def allNews (g h : Heap) (L : Addr) : List (Addr × Obj) := (List.range h.objs.size).filterMap fun a => if a = L ∨ (g.get? a).isSome = true then none else (h.get? a).map fun o => (a, o)
noncomputable def rest (g h : Heap) (L d : Addr) : List (Addr × Obj) := (allNews g h L).filter fun p => decide (p.1 ≠ d)
end L2
namespace L2
open PySem PySem.Spec PyProof.Rows
structure Mod (K : PySem.W.Frag) (mg : Str → Option Value) (base : Heap) : Prop where
  kin : K.In base
  glob : base.Ns mainGlobals mg
  blt : ∃ mb, base.Ns builtinsNs mb ∧ ∀ x : Str, x ≠ "__name__" → mb x = bootBuiltins x
  nolimit : base.NoLimit
structure Cx where
  prog : Program
  w : World
  K : PySem.W.Frag
  mg : Str → Option Value
  base : Heap
  A : Around
  N : List Str
  s₀ : Shared
  H₀ : Hp
  env : Env
  outer : List Env
  stack : List Env
  ex : List Addr
  fn : Str → Bool
  calm : Bool
  pn : List (Addr × Obj)
  xe : Value → Shared → Prop
noncomputable def frs (l : List Env) : List Addr := l.filterMap (·.frame)
noncomputable abbrev Cx.fs (X : Cx) : List Addr := frs X.outer
noncomputable def Vis (sc : Scope) (x : Str) : Prop := sc.names.lookup x = some .local ∨ sc.names.lookup x = some .cell ∨ sc.names.lookup x = some .free
noncomputable def Loc (sc : Scope) (x : Str) : Prop := sc.names.lookup x = some .local ∨ sc.names.lookup x = some .cell
noncomputable def Look (env : Env) (h : Heap) (m : Str → Option Value) (x : Str) (u : Value) : Prop :=
  (env.kindOf x = some .local ∧ m x = some u) ∨ ((env.kindOf x = some .cell ∨ env.kindOf x = some .free) ∧ ∃ c, env.cells.lookup x = some c ∧ h.IsCell c (some u))
structure Cx.Ok (X : Cx) : Prop where
  mod : Mod X.K X.mg X.base
  kind : X.env.scope.kind = .function
  glob : X.env.globals = mainGlobals
  blt : X.env.builtins = builtinsNs
  above : X.s₀.heap.objs.size ≤ X.env.locals
  inj : ∀ x y c, X.env.cells.lookup x = some c → X.env.cells.lookup y = some c → x = y
  has : ∀ x, (X.env.kindOf x = some .cell ∨ X.env.kindOf x = some .free) → ∃ c, X.env.cells.lookup x = some c
  cab : ∀ x c, X.fn x = true → X.env.cells.lookup x = some c → X.s₀.heap.objs.size ≤ c
  hd : X.calm = true → X.A.handled = none
  frames : X.A.frames = some X.stack
  stk : X.stack = X.outer ∨ (X.stack = X.env :: X.outer ∧ X.env.frame = some X.env.locals)
  exf : ∀ b ∈ X.ex, b ≠ X.env.locals ∧ ∀ x c, X.env.cells.lookup x = some c → c ≠ b
  bs : ∀ b o, X.base.get? b = some o → X.s₀.heap.get? b = some o ∧ X.H₀ b = none
  bsz : X.base.objs.size ≤ X.s₀.heap.objs.size
  noex : ∀ b o, X.base.get? b = some o → b ∉ X.ex
  exfs : ∀ b ∈ X.ex, b ∉ X.fs
  funs : X.s₀.heap.FunFrames X.base X.outer
  frf : ∀ b ∈ X.fs, X.H₀ b = none
structure Inv (X : Cx) (pins : List (Addr × Obj)) (σ : List (Option V)) (H : Hp) (s : Shared) : Prop where
  ok : X.Ok
  os : s.os = X.s₀.os
  bare : AllBare s.gens
  base : Un X.fs X.ex X.H₀ H X.s₀.heap s.heap
  loc : ∃ m, s.heap.Ns X.env.locals m ∧ ∀ (i : Nat) (x : Str) (v : V), X.N[i]? = some x → σ[i]? = some (some v) → Vis X.env.scope x → ∃ u, RelV v u ∧ Look X.env s.heap m x u
  cell : ∀ x c, X.env.cells.lookup x = some c → ∃ v, s.heap.IsCell c v
  free : H X.env.locals = none
  freeC : ∀ x c, X.env.cells.lookup x = some c → H c = none
  pin : ∀ p ∈ X.pn ++ pins, s.heap.get? p.1 = some p.2 ∧ H p.1 = none ∧ p.1 ≠ X.env.locals ∧ p.1 ∉ X.fs ∧ ∀ v, p.2.data ≠ .cell v
  hok : HOk X.prog X.w H s.heap
  len : σ.length = X.N.length
section
variable {X : Cx} {pins : List (Addr × Obj)} {σ : List (Option V)} {H H' : Hp} {s : Shared} {h' : Heap}
theorem Cx.Ok.nofr (ok : X.Ok) {b : Addr} {o : Obj} (e : X.base.get? b = some o) : b ∉ X.fs := fun hb => by
  have := (ok.funs.mem hb).1
  rw [e] at this; cases this
theorem Inv.bs (I : Inv X pins σ H s) : ∀ b o, X.base.get? b = some o → s.heap.get? b = some o ∧ H b = none := fun b o e =>
  ⟨I.base.keep b o (I.ok.bs b o e).1 (I.ok.bs b o e).2 (I.ok.nofr e) (I.ok.noex b o e), I.base.free b o (I.ok.bs b o e).1 (I.ok.bs b o e).2 (I.ok.noex b o e)⟩
theorem Inv.bk (I : Inv X pins σ H s) : ∀ b o, X.base.get? b = some o → s.heap.get? b = some o := fun b o e => (I.bs b o e).1
theorem Inv.mod (I : Inv X pins σ H s) : Mod X.K X.mg X.base := I.ok.mod
theorem Inv.kIn (I : Inv X pins σ H s) : X.K.In s.heap := I.ok.mod.kin.keeps I.bk
theorem Inv.nolimit (I : Inv X pins σ H s) : s.heap.NoLimit := I.ok.mod.nolimit.keeps I.bk
theorem Inv.lt (I : Inv X pins σ H s) : X.env.locals < s.heap.objs.size := let ⟨_, hn, _⟩ := I.loc; hn.lt
theorem Inv.sz (I : Inv X pins σ H s) : X.s₀.heap.objs.size ≤ s.heap.objs.size := Nat.le_trans I.ok.above (Nat.le_of_lt I.lt)
theorem Inv.nofs (I : Inv X pins σ H s) {a : Addr} (h : s.heap.objs.size ≤ a) : a ∉ X.fs := fun hb => by
  obtain ⟨_, o, ho, _⟩ := I.ok.funs.mem hb
  exact absurd (Nat.lt_of_lt_of_le (Heap.lt_size ho) (Nat.le_trans I.sz h)) (Nat.lt_irrefl _)
theorem Inv.cne (I : Inv X pins σ H s) : ∀ x c, X.env.cells.lookup x = some c → c ≠ X.env.locals := fun x c e z => by
  obtain ⟨v, o, ho, hd⟩ := I.cell x c e
  obtain ⟨m, ⟨o', es, ep, ho', hd', _⟩, _⟩ := I.loc
  rw [z, ho'] at ho; cases ho; rw [hd'] at hd; cases hd
theorem Inv.funs (I : Inv X pins σ H s) : s.heap.FunFrames X.base X.outer := by
  have all : ∀ (l : List Env), (∀ b ∈ frs l, b ∈ X.fs) → X.s₀.heap.FunFrames X.base l → s.heap.FunFrames X.base l := by
    intro l
    induction l with
    | nil => intro _ _; trivial
    | cons env r ih =>
      intro hs hl
      obtain ⟨hk, ⟨L, o, hf, hn, ho, hd⟩, hr⟩ := hl
      have hL : L ∈ X.fs := hs L (by unfold frs; rw [List.filterMap_cons, hf]; exact List.mem_cons_self)
      obtain ⟨sl, e⟩ := I.base.slot L o ho (I.ok.frf L hL) hL fun z => I.ok.exfs L z hL
      exact ⟨hk, ⟨L, _, hf, hn, e, hd⟩, ih (fun b hb => hs b (by unfold frs; rw [List.filterMap_cons, hf]; exact List.mem_cons_of_mem _ hb)) hr⟩
  exact all X.outer (fun _ hb => hb) I.ok.funs
theorem Inv.stack (I : Inv X pins σ H s) : s.heap.FunFrames X.base X.stack := by
  rcases I.ok.stk with e | ⟨e, hf⟩
  · rw [e]; exact I.funs
  · rw [e]
    obtain ⟨m, hn, _⟩ := I.loc
    refine .cons (by rw [I.ok.kind]; decide) hf hn ?_ I.funs
    exact Heap.get?_none_of_le (Nat.le_trans I.ok.bsz I.ok.above)
theorem Inv.stkSub (I : Inv X pins σ H s) : ∀ b ∈ frs X.stack, b ∈ X.env.locals :: X.fs := fun b hb => by
  rcases I.ok.stk with e | ⟨e, hf⟩
  · rw [e] at hb; exact List.mem_cons_of_mem _ hb
  · rw [e] at hb
    unfold frs at hb
    rw [List.filterMap_cons, hf] at hb
    exact hb
theorem Inv.stkFree (I : Inv X pins σ H s) : ∀ b ∈ frs X.stack, H b = none := fun b hb => by
  rcases List.mem_cons.mp (I.stkSub b hb) with e | hb
  · rw [e]; exact I.free
  · obtain ⟨_, o, ho, _⟩ := I.ok.funs.mem hb
    exact I.base.free b o ho (I.ok.frf b hb) fun z => I.ok.exfs b z hb
theorem Inv.step {g' : Array GenState} {t' : Nat} {d' : Drawn} {ch : List Addr} (I : Inv X pins σ H s)
    (hch : ∀ b ∈ ch, (b ∈ X.ex ∨ X.s₀.heap.objs.size ≤ b) ∧ b ≠ X.env.locals ∧ (∀ x c, X.env.cells.lookup x = some c → c ≠ b) ∧ ∀ p ∈ X.pn ++ pins, p.1 ≠ b)
    (keep : ∀ b o, b ≠ X.env.locals → b ∉ X.fs → b ∉ ch → s.heap.get? b = some o → H b = none → h'.get? b = some o)
    (slot : ∀ b o, b ≠ X.env.locals → b ∈ X.fs → b ∉ ch → s.heap.get? b = some o → H b = none → ∃ sl, h'.get? b = some { o with slots := sl }) (free : ∀ b o, b ∉ ch → s.heap.get? b = some o → H b = none → H' b = none)
    (there : ∀ b o, b ∉ ch → s.heap.get? b = some o → ∃ o', h'.get? b = some o')
    (tups : ∀ b xs, H b = some (.tup xs) → H' b = some (.tup xs)) (frzs : ∀ b o u, H b = some (.frz o u) → H' b = some (.frz o u)) (tbls : ∀ b ps, H b = some (.tbl ps) → ∃ more, H' b = some (.tbl (ps ++ more)))
    (ns : ∀ m, s.heap.Ns X.env.locals m → h'.Ns X.env.locals m) (hok : HOk X.prog X.w H' h') (hg : AllBare g') :
    Inv X pins σ H' { s with heap := h', gens := g', drawn := d', toks := t' } := by
  have neL : ∀ b o, X.s₀.heap.get? b = some o → b ≠ X.env.locals := fun b o e => Nat.ne_of_lt (Nat.lt_of_lt_of_le (Heap.lt_size e) I.ok.above)
  have neC : ∀ b o, X.s₀.heap.get? b = some o → b ∉ X.ex → b ∉ ch := fun b o e hx hb => by
    rcases (hch b hb).1 with z | z
    · exact hx z
    · exact absurd (Nat.lt_of_lt_of_le (Heap.lt_size e) z) (Nat.lt_irrefl _)
  have cellK : ∀ x c, X.env.cells.lookup x = some c → ∀ v, s.heap.IsCell c v → h'.IsCell c v := fun x c e v ⟨o, ho, hd⟩ => by
    have nch : c ∉ ch := fun z => (hch c z).2.2.1 x c e rfl
    by_cases hc : c ∈ X.fs
    · obtain ⟨sl, q⟩ := slot c o (I.cne x c e) hc nch ho (I.freeC x c e)
      exact ⟨_, q, hd⟩
    · exact ⟨o, keep c o (I.cne x c e) hc nch ho (I.freeC x c e), hd⟩
  refine ⟨I.ok, I.os, hg, ⟨fun b o e n hb hx => ?_, fun b o e n hb hx => ?_, fun b o e n hx => ?_, fun b o e hx => ?_, fun b xs e => tups b xs (I.base.tups b xs e), fun b o xs e => frzs b o xs (I.base.frzs b o xs e), fun b ps e => ?_⟩, ?_, fun x c e => ?_, ?_, fun x c e => ?_, fun p hp => ?_, hok, I.len⟩
  · exact keep b o (neL b o e) hb (neC b o e hx) (I.base.keep b o e n hb hx) (I.base.free b o e n hx)
  · obtain ⟨sl, e1⟩ := I.base.slot b o e n hb hx
    obtain ⟨sl', e2⟩ := slot b _ (neL b o e) hb (neC b o e hx) e1 (I.base.free b o e n hx)
    exact ⟨sl', e2⟩
  · obtain ⟨o', e1⟩ := I.base.there b o e hx
    exact free b o' (neC b o e hx) e1 (I.base.free b o e n hx)
  · obtain ⟨o', e1⟩ := I.base.there b o e hx
    exact there b o' (neC b o e hx) e1
  · obtain ⟨m1, e1⟩ := I.base.tbls b ps e
    obtain ⟨m2, e2⟩ := tbls b _ e1
    exact ⟨m1 ++ m2, by rw [e2, Array.append_assoc]⟩
  · obtain ⟨m, hn, hl⟩ := I.loc
    refine ⟨m, ns m hn, fun i x v e1 e2 e3 => ?_⟩
    obtain ⟨u, r, l⟩ := hl i x v e1 e2 e3
    refine ⟨u, r, ?_⟩
    rcases l with l | ⟨k, c, e, z⟩
    · exact .inl l
    · exact .inr ⟨k, c, e, cellK x c e _ z⟩
  · obtain ⟨v, z⟩ := I.cell x c e
    exact ⟨v, cellK x c e v z⟩
  · obtain ⟨m, ⟨o, _, _, ho, _⟩, _⟩ := I.loc
    exact free _ o (fun z => (hch _ z).2.1 rfl) ho I.free
  · obtain ⟨v, o, ho, hd⟩ := I.cell x c e
    exact free c o (fun z => (hch c z).2.2.1 x c e rfl) ho (I.freeC x c e)
  · obtain ⟨e, n, ne, nf, d⟩ := I.pin p hp
    have nch : p.1 ∉ ch := fun z => (hch p.1 z).2.2.2 p hp rfl
    exact ⟨keep p.1 p.2 ne nf nch e n, free p.1 p.2 nch e n, ne, nf, d⟩
theorem Inv.un {t' : Nat} (I : Inv X pins σ H s) (u : Un X.fs [] H H' s.heap h') (hok : HOk X.prog X.w H' h') : Inv X pins σ H' { s with heap := h', toks := t' } := by
  obtain ⟨m, ⟨o, es, ep, ho, r⟩, _⟩ := id I.loc
  obtain ⟨sl, hL⟩ := u.any ho I.free (by simp)
  exact I.step (g' := s.gens) (d' := s.drawn) (ch := []) (fun _ z => nomatch z) (fun b o _ hb _ e n => u.keep b o e n hb (by simp)) (fun b o _ hb _ e n => u.slot b o e n hb (by simp)) (fun b o _ e n => u.free b o e n (by simp)) (fun b o _ e => u.there b o e (by simp)) u.tups u.frzs u.tbls (fun m' hm => by
    obtain ⟨o', es', ep', ho', r'⟩ := hm
    rw [ho] at ho'; cases ho'
    exact ⟨_, es', ep', hL, r'⟩) hok I.bare
theorem Inv.call {g' : Array GenState} {t' : Nat} {d' : Drawn} {ch : List Addr} (I : Inv X pins σ H s) (u : Un (frs X.stack) ch H H' s.heap h') (hok : HOk X.prog X.w H' h') (hg : AllBare g')
    (hch : ∀ b ∈ ch, (b ∈ X.ex ∨ X.s₀.heap.objs.size ≤ b) ∧ b ≠ X.env.locals ∧ (∀ x c, X.env.cells.lookup x = some c → c ≠ b) ∧ ∀ p ∈ X.pn ++ pins, p.1 ≠ b) :
    Inv X pins σ H' { s with heap := h', gens := g', drawn := d', toks := t' } := by
  obtain ⟨m, ⟨o, es, ep, ho, r⟩, _⟩ := id I.loc
  obtain ⟨sl, hL⟩ := u.any ho I.free fun z => (hch _ z).2.1 rfl
  exact I.step (ch := ch) hch (fun b o hL hb hc e n => u.keep b o e n (fun z => (List.mem_cons.mp (I.stkSub b z)).elim hL hb) hc) (fun b o _ _ hc e n => u.any e n hc) (fun b o hc e n => u.free b o e n hc) (fun b o hc e => u.there b o e hc) u.tups u.frzs u.tbls (fun m' hm => by
    obtain ⟨o', es', ep', ho', r'⟩ := hm
    rw [ho] at ho'; cases ho'
    exact ⟨_, es', ep', hL, r'⟩) hok hg
theorem Inv.turned {t' : Nat} {it : Addr} (I : Inv X pins σ H s) (k : ∀ b o, b ≠ it → s.heap.get? b = some o → h'.get? b = some o) (hn : H it = none) (hL : it ≠ X.env.locals)
    (h1 : it ∈ X.ex ∨ X.s₀.heap.objs.size ≤ it) (h2 : ∀ x c, X.env.cells.lookup x = some c → c ≠ it) (h3 : ∀ p ∈ X.pn ++ pins, p.1 ≠ it) : Inv X pins σ H { s with heap := h', toks := t' } := by
  have nit : ∀ b u, H b = some u → b ≠ it := fun b u e z => by rw [z, hn] at e; cases e
  refine I.step (g' := s.gens) (d' := s.drawn) (ch := [it]) (fun b hb => ?_) (fun b o _ _ hc e _ => k b o (fun z => hc (by simp [z])) e) (fun b o _ _ hc e _ => ⟨o.slots, k b o (fun z => hc (by simp [z])) e⟩) (fun _ _ _ _ n => n)
    (fun b o hc e => ⟨o, k b o (fun z => hc (by simp [z])) e⟩) (fun _ _ e => e) (fun _ _ _ e => e) (fun b ps e => ⟨#[], by rw [e]; simp⟩) (fun m hm => ?_) (fun b u e => ?_) I.bare
  · have e : b = it := by simpa using hb
    subst e
    exact ⟨h1, hL, h2, h3⟩
  · obtain ⟨o, es, ep, ho, r⟩ := hm
    exact ⟨o, es, ep, k _ o (Ne.symm hL) ho, r⟩
  · refine (I.hok b u e).stay (fun c v hc q => k c v ?_ q) (fun _ q => q) fun _ _ q => q
    rcases hc with z | z
    · rw [z]; exact nit b u e
    · exact nit c _ z
theorem Inv.tok (I : Inv X pins σ H s) (t : Nat) : Inv X pins σ H { s with toks := t } := I.un (h' := s.heap) (t' := t) Un.refl I.hok
theorem Inv.kept {t' : Nat} (I : Inv X pins σ H s) (k : ∀ b u, s.heap.get? b = some u → h'.get? b = some u) : Inv X pins σ H { s with heap := h', toks := t' } := I.un (Un.kept k) (I.hok.kept k)
theorem Inv.laid {a : Addr} {o : HO} {t' : Nat} (I : Inv X pins σ H s) (k : ∀ b u, s.heap.get? b = some u → h'.get? b = some u) (hp : s.heap.objs.size ≤ a) (new : ObjOk X.prog X.w (upd H a o) h' a o) :
    Inv X pins σ (upd H a o) { s with heap := h', toks := t' } := I.un (Un.laid k hp (I.hok.fresh hp)) (I.hok.laid k hp new)
theorem Inv.write {x e : Addr} {o : HO} {t' : Nat} (I : Inv X pins σ H s) (mu : Mut (H x)) (he : e = x ∨ H e = some (.own x)) (k : ∀ b u, b ≠ e → s.heap.get? b = some u → h'.get? b = some u) (heo : ∃ u, h'.get? e = some u)
    (new : ObjOk X.prog X.w (upd H x o) h' x o) : Inv X pins σ (upd H x o) { s with heap := h', toks := t' } := I.un (Un.write mu he k heo) (I.hok.write mu he k heo new)
theorem Inv.weak {σ' : List (Option V)} (I : Inv X pins σ H s) (hl : σ'.length = σ.length) (w : ∀ (i : Nat) v, σ'[i]? = some (some v) → σ[i]? = some (some v)) : Inv X pins σ' H s :=
  ⟨I.ok, I.os, I.bare, I.base, let ⟨m, hn, hl'⟩ := I.loc; ⟨m, hn, fun i x v e1 e2 e3 => hl' i x v e1 (w i v e2) e3⟩, I.cell, I.free, I.freeC, I.pin, I.hok, hl.trans I.len⟩
theorem Inv.pins_of {pins' : List (Addr × Obj)} (I : Inv X pins σ H s) (h : ∀ p ∈ pins', s.heap.get? p.1 = some p.2 ∧ H p.1 = none ∧ p.1 ≠ X.env.locals ∧ p.1 ∉ X.fs ∧ ∀ v, p.2.data ≠ .cell v) : Inv X pins' σ H s :=
  ⟨I.ok, I.os, I.bare, I.base, I.loc, I.cell, I.free, I.freeC, fun p hp => (List.mem_append.mp hp).elim (fun z => I.pin p (List.mem_append_left _ z)) (h p), I.hok, I.len⟩
theorem nodup_ix {N : List Str} (hN : N.Nodup) {i j : Nat} {x : Str} (a : N[i]? = some x) (b : N[j]? = some x) : i = j := by
  obtain ⟨h1, e1⟩ := List.getElem?_eq_some_iff.mp a
  obtain ⟨h2, e2⟩ := List.getElem?_eq_some_iff.mp b
  exact (List.getElem_inj hN).mp (e1.trans e2.symm)
theorem store_ok2 {M : Model} {A : Around} {E : Value → Shared → Prop} {i : Nat} {x : Str} {v : V} {u : Value} {Q : Unit → Shared → Prop} (I : Inv X pins σ H s) (hN : X.N.Nodup) (hi : X.N[i]? = some x) (hx : Loc X.env.scope x) (r : RelV v u)
    (h : ∀ s', Inv X pins (σ.set i (some v)) H s' → (∃ a, Heap.SameBut a s.heap s'.heap ∧ (a = X.env.locals ∨ X.env.cells.lookup x = some a)) → Q () s') (hf : X.fn x = true ∨ X.env.scope.names.lookup x = some .local := by first | exact .inl rfl | exact .inr rfl | assumption) : wpAny M A (storeName X.env x u) Q E s := by
  obtain ⟨m, hn, hl⟩ := id I.loc
  have hcls : (X.env.scope.kind == .class || (X.env.scope.kind == .module && X.env.locals != X.env.globals)) = false := by rw [I.ok.kind]; rfl
  have hiσ : i < σ.length := by rw [I.len]; exact (List.getElem?_eq_some_iff.mp hi).1
  have cne := I.cne
  have tracked : ∀ {a : Addr} {h' : Heap}, (∃ o, s.heap.get? a = some o ∧ H a = none) → Heap.SameBut a s.heap h' → HOk X.prog X.w H h' := fun {a h'} ha hs b ob e => by
    obtain ⟨_, _, hfree⟩ := ha
    refine (I.hok b ob e).stay (fun c w' hc q => (hs.2 c ?_).trans q) (fun _ q => q) fun _ _ q => q
    rintro rfl
    rcases hc with rfl | hc
    · rw [hfree] at e; cases e
    · rw [hfree] at hc; cases hc
  rcases hx with hk | hk
  · refine wpAny_storeName_local hk hn (fun h' hn' hs => ?_) hcls
    obtain ⟨oL, _, _, hoL, _⟩ := id hn
    refine h _ ⟨I.ok, I.os, I.bare, ⟨fun b o e n hb hx => ?_, fun b o e n hb hx => ?_, I.base.free, fun b o e hx => ?_, I.base.tups, I.base.frzs, I.base.tbls⟩, ⟨_, hn', fun j y v' e1 e2 e3 => ?_⟩, fun y c e => ?_, I.free, I.freeC, fun p hp => ?_, tracked ⟨oL, hoL, I.free⟩ hs, by simpa using I.len⟩ ⟨_, hs, .inl rfl⟩
    · exact (hs.2 b (Nat.ne_of_lt (Nat.lt_of_lt_of_le (Heap.lt_size e) I.ok.above))).trans (I.base.keep b o e n hb hx)
    · obtain ⟨sl, e1⟩ := I.base.slot b o e n hb hx
      exact ⟨sl, (hs.2 b (Nat.ne_of_lt (Nat.lt_of_lt_of_le (Heap.lt_size e) I.ok.above))).trans e1⟩
    · obtain ⟨o', e1⟩ := I.base.there b o e hx
      exact ⟨o', (hs.2 b (Nat.ne_of_lt (Nat.lt_of_lt_of_le (Heap.lt_size e) I.ok.above))).trans e1⟩
    · by_cases hj : j = i
      · subst hj
        rw [hi] at e1; cases e1
        rw [List.getElem?_set_self hiσ] at e2
        cases e2
        exact ⟨u, r, .inl ⟨hk, by simp⟩⟩
      · rw [List.getElem?_set_ne (Ne.symm hj)] at e2
        obtain ⟨u', r', q⟩ := hl j y v' e1 e2 e3
        refine ⟨u', r', ?_⟩
        rcases q with ⟨k, e⟩ | ⟨k, c, e, z⟩
        · refine .inl ⟨k, ?_⟩
          have : y ≠ x := fun e => hj (nodup_ix hN e1 (e ▸ hi))
          simp [this, e]
        · exact .inr ⟨k, c, e, z.sameBut hs (cne y c e)⟩
    · obtain ⟨w', z⟩ := I.cell y c e
      exact ⟨w', z.sameBut hs (cne y c e)⟩
    · obtain ⟨e, n, ne, nf, d⟩ := I.pin p hp
      exact ⟨(hs.2 p.1 ne).trans e, n, ne, nf, d⟩
  · have hfn : X.fn x = true := by
      rcases hf with z | z
      · exact z
      · rw [z] at hk; cases hk
    obtain ⟨c, hc⟩ := I.ok.has x (.inl hk)
    obtain ⟨w', z⟩ := I.cell x c hc
    refine wpAny_storeName_cell I.ok.kind hk hc z (fun h' hc' hs => ?_)
    obtain ⟨oc, hoc, hocd⟩ := id z
    refine h { s with heap := h' } ⟨I.ok, I.os, I.bare, ⟨fun b o e n hb hx => ?_, fun b o e n hb hx => ?_, I.base.free, fun b o e hx => ?_, I.base.tups, I.base.frzs, I.base.tbls⟩, ⟨m, hn.sameBut hs (Ne.symm (cne x c hc)), fun j y v' e1 e2 e3 => ?_⟩, fun y c' e => ?_, I.free, I.freeC, fun p hp => ?_, tracked ⟨oc, hoc, I.freeC x c hc⟩ hs, by simpa using I.len⟩ ⟨c, hs, .inr hc⟩
    · exact (hs.2 b (Nat.ne_of_lt (Nat.lt_of_lt_of_le (Heap.lt_size e) (I.ok.cab x c hfn hc)))).trans (I.base.keep b o e n hb hx)
    · obtain ⟨sl, e1⟩ := I.base.slot b o e n hb hx
      exact ⟨sl, (hs.2 b (Nat.ne_of_lt (Nat.lt_of_lt_of_le (Heap.lt_size e) (I.ok.cab x c hfn hc)))).trans e1⟩
    · obtain ⟨o', e1⟩ := I.base.there b o e hx
      exact ⟨o', (hs.2 b (Nat.ne_of_lt (Nat.lt_of_lt_of_le (Heap.lt_size e) (I.ok.cab x c hfn hc)))).trans e1⟩
    · by_cases hj : j = i
      · subst hj
        rw [hi] at e1; cases e1
        rw [List.getElem?_set_self hiσ] at e2
        cases e2
        exact ⟨u, r, .inr ⟨.inl hk, c, hc, hc'⟩⟩
      · rw [List.getElem?_set_ne (Ne.symm hj)] at e2
        obtain ⟨u', r', q⟩ := hl j y v' e1 e2 e3
        refine ⟨u', r', ?_⟩
        rcases q with q | ⟨k, c', e, z'⟩
        · exact .inl q
        · refine .inr ⟨k, c', e, z'.sameBut hs ?_⟩
          rintro rfl
          exact hj (nodup_ix hN e1 (I.ok.inj _ _ _ e hc ▸ hi))
    · by_cases hcc : c' = c
      · subst hcc; exact ⟨_, hc'⟩
      · obtain ⟨w2, z2⟩ := I.cell y c' e
        exact ⟨w2, z2.sameBut hs hcc⟩
    · obtain ⟨e, n, ne, nf, d⟩ := I.pin p hp
      refine ⟨(hs.2 p.1 ?_).trans e, n, ne, nf, d⟩
      intro q
      rw [q, hoc] at e
      have q' : oc = p.2 := Option.some.inj e
      exact d w' (by rw [← q']; exact hocd)
theorem store_ok {M : Model} {A : Around} {E : Value → Shared → Prop} {i : Nat} {x : Str} {v : V} {u : Value} {Q : Unit → Shared → Prop} (I : Inv X pins σ H s) (hN : X.N.Nodup) (hi : X.N[i]? = some x) (hx : Loc X.env.scope x) (r : RelV v u)
    (h : ∀ s', Inv X pins (σ.set i (some v)) H s' → Q () s') (hf : X.fn x = true ∨ X.env.scope.names.lookup x = some .local := by first | exact .inl rfl | exact .inr rfl | assumption) : wpAny M A (storeName X.env x u) Q E s :=
  store_ok2 I hN hi hx r (fun s' I' _ => h s' I') hf
theorem Inv.call' {s' : Shared} {ch : List Addr} (I : Inv X pins σ H s) (ho : s'.os = s.os) (u : Un (frs X.stack) ch H H' s.heap s'.heap) (hok : HOk X.prog X.w H' s'.heap) (hg : AllBare s'.gens)
    (hch : ∀ b ∈ ch, (b ∈ X.ex ∨ X.s₀.heap.objs.size ≤ b) ∧ b ≠ X.env.locals ∧ (∀ x c, X.env.cells.lookup x = some c → c ≠ b) ∧ ∀ p ∈ X.pn ++ pins, p.1 ≠ b) : Inv X pins σ H' s' := by
  obtain ⟨h', g', d', t', o'⟩ := s'
  have e : o' = s.os := ho
  subst e
  exact I.call (g' := g') (t' := t') (d' := d') u hok hg hch
end
noncomputable abbrev XK := Value → Option Addr → Hp → Prop
noncomputable abbrev St := List (Option V)
noncomputable abbrev VK := V → Hp → Prop
noncomputable abbrev TE := St → Hp → VK → Prop
noncomputable abbrev TT := St → Hp → (Bool → Hp → Prop) → Prop
noncomputable abbrev TA := St → Hp → (List V → Hp → Prop) → Prop
structure Ends where
  nx : St → Hp → Prop
  rt : VK
  bk : St → Hp → Prop := fun _ _ => False
  ct : St → Hp → Prop := fun _ _ => False
noncomputable abbrev TS := Ends → St → Hp → Prop
noncomputable def EP (X : Cx) (pins : List (Addr × Obj)) (σ : St) (Q : VK) (u : Value) (s' : Shared) : Prop := ∃ v H', Inv X pins σ H' s' ∧ RelV v u ∧ Q v H'
noncomputable def TP (X : Cx) (pins : List (Addr × Obj)) (σ : St) (Q : Bool → Hp → Prop) (b : Bool) (s' : Shared) : Prop := ∃ H', Inv X pins σ H' s' ∧ Q b H'
noncomputable def AP (X : Cx) (pins : List (Addr × Obj)) (σ : St) (Q : List V → Hp → Prop) (us : List Value) (s' : Shared) : Prop := ∃ vs H', Inv X pins σ H' s' ∧ Vals vs us ∧ Q vs H'
noncomputable def SP (X : Cx) (pins : List (Addr × Obj)) (D : Ends) (f : Flow) (s' : Shared) : Prop :=
  match f with
  | .next => ∃ σ' H', Inv X pins σ' H' s' ∧ D.nx σ' H'
  | .brk => ∃ σ' H', Inv X pins σ' H' s' ∧ D.bk σ' H'
  | .cont => ∃ σ' H', Inv X pins σ' H' s' ∧ D.ct σ' H'
  | .ret u => ∃ v σ' H', Inv X pins σ' H' s' ∧ RelV v u ∧ D.rt v H'
noncomputable def PE (X : Cx) (e : Expr) (t : TE) : Prop :=
  ∀ (pins : List (Addr × Obj)) (s : Shared) (σ : St) (H : Hp) (Q : VK), Inv X pins σ H s → t σ H Q → wpAny (model X.prog X.w) X.A (eval e X.env) (EP X pins σ Q) X.xe s
noncomputable def PT (X : Cx) (e : Expr) (t : TT) : Prop :=
  ∀ (pins : List (Addr × Obj)) (s : Shared) (σ : St) (H : Hp) (Q : Bool → Hp → Prop), Inv X pins σ H s → t σ H Q → wpAny (model X.prog X.w) X.A (isTrue e X.env (eval e X.env)) (TP X pins σ Q) X.xe s
noncomputable def PW (X : Cx) (e : Expr) (t : TT) : Prop :=
  ∀ (whole : Sem Value) (pins : List (Addr × Obj)) (s : Shared) (σ : St) (H : Hp) (Q : Bool → Hp → Prop), Inv X pins σ H s → t σ H Q → wpAny (model X.prog X.w) X.A (isTrue e X.env whole) (TP X pins σ Q) X.xe s
theorem PW.pt {X : Cx} {e : Expr} {t : TT} (h : PW X e t) : PT X e t := h _
noncomputable def PA (X : Cx) (es : List Expr) (t : TA) : Prop :=
  ∀ (pos : Pos) (pins : List (Addr × Obj)) (s : Shared) (σ : St) (H : Hp) (Q : List V → Hp → Prop), Inv X pins σ H s → t σ H Q → wpAny (model X.prog X.w) X.A (spliced (backTo pos (starEach es X.env))) (AP X pins σ Q) X.xe s
noncomputable def PS (X : Cx) (st : Stmt) (t : TS) : Prop :=
  ∀ (pins : List (Addr × Obj)) (s : Shared) (σ : St) (H : Hp) (D : Ends), Inv X pins σ H s → t D σ H → wpAny (model X.prog X.w) X.A (exec st X.env) (SP X pins D) X.xe s
noncomputable def PSs (X : Cx) (st : List Stmt) (t : TS) : Prop :=
  ∀ (pins : List (Addr × Obj)) (s : Shared) (σ : St) (H : Hp) (D : Ends), Inv X pins σ H s → t D σ H → wpAny (model X.prog X.w) X.A (execs st X.env) (SP X pins D) X.xe s
theorem thn {α : Type} {t : Sem α} {Q Q' : α → Shared → Prop} {M : Model} {A : Around} {E : Value → Shared → Prop} {s : Shared} (h : wpAny M A t Q E s) (hQ : ∀ a s, Q a s → Q' a s) : wpAny M A t Q' E s := wpAny_mono h hQ fun _ _ x => x
end L2
namespace L2
open PySem PySem.Spec PyProof.Rows
section
variable {X : Cx}
inductive IVar (i : Nat) (σ : St) (H : Hp) (Q : VK) : Prop where
  | mk (v : V) (e : σ[i]? = some (some v)) (q : Q v H) : IVar i σ H Q
noncomputable def tVar (i : Nat) : TE := fun σ H Q => IVar i σ H Q
noncomputable def tC (v : V) : TE := fun _ H Q => Q v H
theorem pe_var {i : Nat} {x : Str} {pos : Pos} (hN : X.N[i]? = some x) (hv : Vis X.env.scope x) (hd : (x == ("__debug__" : Str)) = false := by decide) (hcd : (x == ("__classdict__" : Str)) = false := by decide) : PE X (.Name x pos) (tVar i) := by
  intro pins s σ H Q I h
  obtain ⟨v, e, h⟩ := h
  obtain ⟨m, hn, hl⟩ := I.loc
  obtain ⟨u, r, l⟩ := hl i x v hN e hv
  have fin : EP X pins σ Q u s := ⟨v, H, I, r, h⟩
  rcases l with ⟨hk, hm⟩ | ⟨hk, c, hc, hcell⟩
  · exact wpAny_Name (wpAny_loadName_local I.ok.kind hk hn hm fin) hd
  · rcases hk with hk | hk
    · exact wpAny_Name (wpAny_loadName_cell I.ok.kind hk hc hcell fin) hd
    · exact wpAny_Name (wpAny_loadName_free I.ok.kind hk hc hcell fin hcd) hd
theorem pe_int {i j pos} : PE X (.Constant (.int i) j pos) (tC (.int i)) := fun _ _ _ H _ I h => wpAny_Constant_int ⟨.int i, H, I.tok _, ⟨_, rfl⟩, h⟩
theorem pe_bl {b j pos} : PE X (.Constant (.bool b) j pos) (tC (.bl b)) := fun _ _ _ H _ I h => Constant_bool ⟨.bl b, H, I, rfl, h⟩
theorem pe_non {j pos} : PE X (.Constant .none j pos) (tC .non) := fun _ _ _ H _ I h => Constant_none ⟨.non, H, I, rfl, h⟩
theorem pe_str {x j pos} : PE X (.Constant (.str x) j pos) (tC (.str x)) := fun _ _ _ H _ I h => Calls.Constant_str ⟨.str x, H, I.tok _, ⟨_, rfl⟩, h⟩
noncomputable def Gl (X : Cx) (x : Str) : Prop := X.env.kindOf x = some .globalImplicit
theorem ld_glob {E : Value → Shared → Prop} {pins : List (Addr × Obj)} {s : Shared} {σ : St} {H : Hp} {x : Str} {u : Value} {pos : Pos} {Q : Value → Shared → Prop} (I : Inv X pins σ H s) (hg : Gl X x) (hm : X.mg x = some u) (h : Q u s)
    (hd : (x == ("__debug__" : Str)) = false := by decide) : wpAny (model X.prog X.w) X.A (eval (.Name x pos) X.env) Q E s :=
  Calls.Name_function_global I.ok.kind hg (Calls.loadGlobal_global (by rw [I.ok.glob]; exact I.mod.glob.keeps I.bk) hm h) hd
theorem ld_blt {E : Value → Shared → Prop} {pins : List (Addr × Obj)} {s : Shared} {σ : St} {H : Hp} {x : Str} {u : Value} {pos : Pos} {Q : Value → Shared → Prop} (I : Inv X pins σ H s) (hg : Gl X x) (hm : X.mg x = none) (hv : bootBuiltins x = some u) (h : Q u s)
    (hn : x ≠ "__name__" := by decide) (hd : (x == ("__debug__" : Str)) = false := by decide) : wpAny (model X.prog X.w) X.A (eval (.Name x pos) X.env) Q E s := by
  obtain ⟨mb, h1, h2⟩ := I.mod.blt
  exact Calls.Name_function_global I.ok.kind hg (Calls.loadGlobal_builtin (by rw [I.ok.glob]; exact I.mod.glob.keeps I.bk) hm (by rw [I.ok.blt]; exact h1.keeps I.bk) ((h2 x hn).trans hv) h) hd
theorem pe_glob {x : Str} {v : V} {u : Value} {pos : Pos} (hg : Gl X x) (hm : X.mg x = some u) (r : RelV v u) (hd : (x == ("__debug__" : Str)) = false := by decide) : PE X (.Name x pos) (tC v) :=
  fun _ _ _ H _ I h => ld_glob I hg hm ⟨v, H, I, r, h⟩ hd
theorem pe_bltn {x : Str} {v : V} {u : Value} {pos : Pos} (hg : Gl X x) (hm : X.mg x = none) (hv : bootBuiltins x = some u) (r : RelV v u) (hn : x ≠ "__name__" := by decide) (hd : (x == ("__debug__" : Str)) = false := by decide) : PE X (.Name x pos) (tC v) :=
  fun _ _ _ H _ I h => ld_blt I hg hm hv ⟨v, H, I, r, h⟩ hn hd
variable {a b : Expr} {ta tb : TE} {pos : Pos}
inductive IT (x : V) (H : Hp) (Q : Bool → Hp → Prop) : Prop where
  | mk (k : Bool) (e : x = .bl k) (q : Q k H) : IT x H Q
noncomputable def tB (t : TE) : TT := fun σ H Q => t σ H fun x H1 => IT x H1 Q
theorem pt_val {e : Expr} {t : TE} (h : PE X e t) (he : ∀ whole, isTrue e X.env whole = (do let v ← whole; standAt e.pos; holding [v] (truthy v)) := by intro _; rfl) : PT X e (tB t) := by
  intro pins s σ H Q I hw
  refine isTrue_plain (thn (h pins s σ H _ I hw) fun v s1 zpat => ?_) (he _)
  obtain ⟨x, H1, I1, r1, q1⟩ := zpat
  obtain ⟨d, rfl, q⟩ := q1
  cases r1
  exact wpAny_truthy_bool ⟨H1, I1, q⟩
variable {tA tB' : TT} {rest : List Expr}
noncomputable def tAnd (t u : TT) : TT := fun σ H Q => t σ H fun c H1 => if c = true then u σ H1 Q else Q false H1
noncomputable def tOr (t u : TT) : TT := fun σ H Q => t σ H fun c H1 => if c = true then Q true H1 else u σ H1 Q
noncomputable def tNot (t : TT) : TT := fun σ H Q => t σ H fun c H1 => Q (!c) H1
theorem pw_and1 (ha : PT X a tA) : PW X (.BoolOp .And [a] pos) tA := by
  intro wh pins s σ H Q I h
  refine isTrue_and (thn (ha pins s σ H Q I h) fun c s1 e => ?_)
  cases c with
  | true => exact isTrue_and_nil e
  | false => exact e
theorem pw_or1 (ha : PT X a tA) : PW X (.BoolOp .Or [a] pos) tA := by
  intro wh pins s σ H Q I h
  refine isTrue_or (thn (ha pins s σ H Q I h) fun c s1 e => ?_)
  cases c with
  | false => exact isTrue_or_nil e
  | true => exact e
theorem pw_and (ha : PT X a tA) (hb : PW X (.BoolOp .And (b :: rest) pos) tB') : PW X (.BoolOp .And (a :: b :: rest) pos) (tAnd tA tB') := by
  intro wh pins s σ H Q I h
  refine isTrue_and (thn (ha pins s σ H _ I h) fun c s1 zpat => ?_)
  obtain ⟨H1, I1, q1⟩ := zpat
  cases c with
  | true => exact hb wh pins s1 σ H1 Q I1 q1
  | false => exact ⟨H1, I1, q1⟩
theorem pw_or (ha : PT X a tA) (hb : PW X (.BoolOp .Or (b :: rest) pos) tB') : PW X (.BoolOp .Or (a :: b :: rest) pos) (tOr tA tB') := by
  intro wh pins s σ H Q I h
  refine isTrue_or (thn (ha pins s σ H _ I h) fun c s1 zpat => ?_)
  obtain ⟨H1, I1, q1⟩ := zpat
  cases c with
  | true => exact ⟨H1, I1, q1⟩
  | false => exact hb wh pins s1 σ H1 Q I1 q1
theorem pt_not (ha : PT X a tA) : PT X (.UnaryOp .Not a pos) (tNot tA) := by
  intro pins s σ H Q I h
  exact isTrue_not (ha pins s σ H (fun c H1 => Q (!c) H1) I h)
noncomputable def tAndV (ta tb : TE) : TE := fun σ H Q => ta σ H fun x H1 => ∃ c, x = .bl c ∧ if c = true then tb σ H1 Q else Q (.bl false) H1
noncomputable def tNotV (ta : TE) : TE := fun σ H Q => ta σ H fun x H1 => ∃ c, x = .bl c ∧ Q (.bl (!c)) H1
theorem pe_one {op} {t : TE} (h : PE X a t) : PE X (.BoolOp op [a] pos) t := fun pins s σ H Q I hw => BoolOp_one (h pins s σ H Q I hw)
theorem pe_and (ha : PE X a ta) (hb : PE X (.BoolOp .And (b :: rest) pos) tb) : PE X (.BoolOp .And (a :: b :: rest) pos) (tAndV ta tb) := by
  intro pins s σ H Q I h
  refine BoolOp_and (thn (ha pins s σ H _ I h) fun v s1 zpat => ?_)
  obtain ⟨x, H1, I1, r1, q1⟩ := zpat
  obtain ⟨c, rfl, q1⟩ := q1
  cases r1
  refine wpAny_truthy_bool ?_
  cases c with
  | true => exact hb pins s1 σ H1 Q I1 q1
  | false => exact ⟨.bl false, H1, I1, rfl, q1⟩
theorem pe_not (ha : PE X a ta) : PE X (.UnaryOp .Not a pos) (tNotV ta) := by
  intro pins s σ H Q I h
  refine UnaryOp_ (thn (ha pins s σ H _ I h) fun v s1 zpat => ?_)
  obtain ⟨x, H1, I1, r1, q1⟩ := zpat
  obtain ⟨c, rfl, q1⟩ := q1
  cases r1
  exact not_of (wpAny_truthy_bool ⟨.bl (!c), H1, I1, rfl, q1⟩)
end
end L2
namespace L2
open PySem PySem.Spec PyProof.Rows
noncomputable def SqL (K : PySem.W.Frag) (H : Hp) (a : Addr) (xs : List V) : Prop :=
  Rd H a (.lst xs) ∨
    ∃ (o : Obj) (its : Array Value) (n : Nat), K.lookup a = some o ∧ o.cls = .type "list" ∧ o.dict = none ∧ o.data = .seq its n ∧ its.size ≤ sizeLine ∧ Vals xs its.toList
noncomputable def SqT (K : PySem.W.Frag) (H : Hp) (a : Addr) (xs : List V) : Prop :=
  Rd H a (.tup xs) ∨
    ∃ (o : Obj) (its : Array Value) (n : Nat), K.lookup a = some o ∧ o.cls = .type "tuple" ∧ o.data = .seq its n ∧ its.size ≤ sizeLine ∧ Vals xs its.toList
noncomputable def absV : Value → Option V
  | .none => some .non
  | .bool b => some (.bl b)
  | .int i _ => some (.int i)
  | .str x _ => some (.str x)
  | .bytes b _ => some (.byt b)
  | .float b _ => some (.flt b)
  | .ref a => some (.ref a)
  | .type n => some (.ty n)
  | _ => none
theorem RelV.abs {x : V} {u : Value} (r : RelV x u) : absV u = some x := by
  cases x with
  | non => cases r; rfl
  | bl _ => cases r; rfl
  | int _ => obtain ⟨t, rfl⟩ := r; rfl
  | str _ => obtain ⟨t, rfl⟩ := r; rfl
  | byt _ => obtain ⟨t, rfl⟩ := r; rfl
  | flt _ => obtain ⟨t, rfl⟩ := r; rfl
  | ref _ => cases r; rfl
  | ty _ => cases r; rfl
theorem RelV.inj {x y : V} {u : Value} (r : RelV x u) (q : RelV y u) : x = y := Option.some.inj (r.abs.symm.trans q.abs)
theorem Vals.inj : ∀ {xs ys : List V} {us : List Value}, Vals xs us → Vals ys us → xs = ys
  | _, _, _, .nil, .nil => rfl
  | _, _, _, .cons r t, .cons r' t' => by rw [r.inj r', Vals.inj t t']
section
variable {X : Cx} {pins : List (Addr × Obj)} {σ : St} {H : Hp} {s : Shared} {a : Addr} {xs ys : List V}
theorem SqL.of {K : PySem.W.Frag} (h : H a = some (.lst xs)) : SqL K H a xs := .inl (.inl h)
theorem SqT.of {K : PySem.W.Frag} (h : H a = some (.tup xs)) : SqT K H a xs := .inl (.inl h)
theorem Inv.list (I : Inv X pins σ H s) (h : SqL X.K H a xs) : ∃ its : List Value, Vals xs its ∧ PlainL s.heap a its.toArray ∧ xs.length ≤ sizeLine := by
  rcases h with h | ⟨o, its, n, hk, hc, hd, hs, hz, r⟩
  · obtain ⟨z, its, n, r, e⟩ := h.ok I.hok
    exact ⟨its, r, ⟨_, n, e, rfl, rfl, rfl⟩, z⟩
  · refine ⟨its.toList, r, ⟨o, n, I.kIn a o hk, hc, hd, by simpa using hs⟩, ?_⟩
    have e := r.length
    simp only [Array.length_toList] at e
    omega
theorem Inv.tuple (I : Inv X pins σ H s) (h : SqT X.K H a xs) : ∃ its : List Value, Vals xs its ∧ IsTup s.heap a its.toArray ∧ xs.length ≤ sizeLine := by
  rcases h with h | ⟨o, its, n, hk, hc, hs, hz, r⟩
  · obtain ⟨z, its, r, p⟩ := h.ok I.hok
    exact ⟨its, r, p, z⟩
  · refine ⟨its.toList, r, ⟨o, I.kIn a o hk, hc, n, by simpa using hs⟩, ?_⟩
    have e := r.length
    simp only [Array.length_toList] at e
    omega
theorem Inv.list_inj (I : Inv X pins σ H s) (h : SqL X.K H a xs) (h' : SqL X.K H a ys) : xs = ys := by
  obtain ⟨its, r, ⟨o, n, e, _, _, d⟩, _⟩ := I.list h
  obtain ⟨its', r', ⟨o', n', e', _, _, d'⟩, _⟩ := I.list h'
  rw [e] at e'; cases e'
  rw [d] at d'
  injection d' with d1 _
  have : its = its' := by simpa using congrArg Array.toList d1
  subst this
  exact r.inj r'
theorem Inv.tuple_inj (I : Inv X pins σ H s) (h : SqT X.K H a xs) (h' : SqT X.K H a ys) : xs = ys := by
  obtain ⟨its, r, ⟨o, e, _, n, d⟩, _⟩ := I.tuple h
  obtain ⟨its', r', ⟨o', e', _, n', d'⟩, _⟩ := I.tuple h'
  rw [e] at e'; cases e'
  rw [d] at d'
  injection d' with d1 _
  have : its = its' := by simpa using congrArg Array.toList d1
  subst this
  exact r.inj r'
end
noncomputable abbrev Cx.wish (X : Cx) (E : Value → Shared → Prop) : Cx := { X with xe := E }
noncomputable abbrev Cx.nox (X : Cx) : Cx := X.wish fun _ _ => False
theorem Cx.Ok.wish {X : Cx} (ok : X.Ok) (E : Value → Shared → Prop) : (X.wish E).Ok :=
  ⟨ok.mod, ok.kind, ok.glob, ok.blt, ok.above, ok.inj, ok.has, ok.cab, ok.hd, ok.frames, ok.stk, ok.exf, ok.bs, ok.bsz, ok.noex, ok.exfs, ok.funs, ok.frf⟩
theorem Cx.Ok.unwish {X : Cx} {E : Value → Shared → Prop} (ok : (X.wish E).Ok) : X.Ok :=
  ⟨ok.mod, ok.kind, ok.glob, ok.blt, ok.above, ok.inj, ok.has, ok.cab, ok.hd, ok.frames, ok.stk, ok.exf, ok.bs, ok.bsz, ok.noex, ok.exfs, ok.funs, ok.frf⟩
section
variable {X : Cx} {pins : List (Addr × Obj)} {σ : St} {H : Hp} {s : Shared} {E : Value → Shared → Prop}
theorem Inv.wish (I : Inv X pins σ H s) (E : Value → Shared → Prop) : Inv (X.wish E) pins σ H s := ⟨I.ok.wish E, I.os, I.bare, I.base, I.loc, I.cell, I.free, I.freeC, I.pin, I.hok, I.len⟩
theorem Inv.unwish (I : Inv (X.wish E) pins σ H s) : Inv X pins σ H s := ⟨I.ok.unwish, I.os, I.bare, I.base, I.loc, I.cell, I.free, I.freeC, I.pin, I.hok, I.len⟩
theorem SP.unwish {D : Ends} {f : Flow} {s' : Shared} (h : SP (X.wish E) pins D f s') : SP X pins D f s' := by
  cases f with
  | next => obtain ⟨σ', H', I, q⟩ := h; exact ⟨σ', H', I.unwish, q⟩
  | brk => obtain ⟨σ', H', I, q⟩ := h; exact ⟨σ', H', I.unwish, q⟩
  | cont => obtain ⟨σ', H', I, q⟩ := h; exact ⟨σ', H', I.unwish, q⟩
  | ret u => obtain ⟨v, σ', H', I, r, q⟩ := h; exact ⟨v, σ', H', I.unwish, r, q⟩
theorem PE.nox {e : Expr} {t : TE} (h : PE X.nox e t) : PE X e t := fun pins s σ H Q I hw =>
  wpAny_mono (h pins s σ H Q (I.wish _) hw) (fun _ _ ⟨v, H', I', r, q⟩ => ⟨v, H', I'.unwish, r, q⟩) fun _ _ z => False.elim z
theorem PT.nox {e : Expr} {t : TT} (h : PT X.nox e t) : PT X e t := fun pins s σ H Q I hw =>
  wpAny_mono (h pins s σ H Q (I.wish _) hw) (fun _ _ ⟨H', I', q⟩ => ⟨H', I'.unwish, q⟩) fun _ _ z => False.elim z
theorem PSs.nox {st : List Stmt} {t : TS} (h : PSs X.nox st t) : PSs X st t := fun pins s σ H D I hw =>
  wpAny_mono (h pins s σ H D (I.wish _) hw) (fun _ _ q => q.unwish) fun _ _ z => False.elim z
end
section
variable {X : Cx} {st : Stmt} {rest : List Stmt} {t u : TS} {e : Expr} {te : TE} {pos : Pos}
noncomputable def tNext : TS := fun D σ H => D.nx σ H
noncomputable def tSeq (t u : TS) : TS := fun D σ H => t { D with nx := u D } σ H
theorem pss_nil : PSs X [] tNext := fun _ _ σ H _ I h => wpAny_execs_nil ⟨σ, H, I, h⟩
theorem pss_cons (h1 : PS X st t) (h2 : PSs X rest u) : PSs X (st :: rest) (tSeq t u) := by
  intro pins s σ H D I h
  refine wpAny_execs_cons (thn (h1 pins s σ H { D with nx := u D } I h) fun f s1 q => ?_)
  cases f with
  | next =>
    obtain ⟨σ', H', I', q⟩ := q
    exact h2 pins s1 σ' H' D I' q
  | ret v => exact q
  | brk => exact q
  | cont => exact q
theorem pss_one (h1 : PS X st t) : PSs X [st] t := by
  intro pins s σ H D I h
  refine wpAny_execs_cons (thn (h1 pins s σ H D I h) fun f s1 q => ?_)
  cases f with
  | next => exact wpAny_execs_nil q
  | ret v => exact q
  | brk => exact q
  | cont => exact q
theorem Inv.quiet {pins : List (Addr × Obj)} {σ : St} {H : Hp} {s : Shared} (I : Inv X pins σ H s) : interactive X.env = false := by simp [interactive, I.ok.kind]
noncomputable def tDrop (te : TE) : TS := fun D σ H => te σ H fun _ H1 => D.nx σ H1
theorem ps_expr (he : PE X e te) (hs : swapsWith e none pos.line X.env = pure false := by rfl) : PS X (.Expr e pos) (tDrop te) := by
  intro pins s σ H D I h
  exact wpAny_Expr_any (thn (he pins s σ H _ I h) fun v s1 ⟨x, H1, I1, r1, q1⟩ => ⟨σ, H1, I1, q1⟩) I.quiet hs
noncomputable def tRet (te : TE) : TS := fun D σ H => te σ H D.rt
theorem ps_ret (he : PE X e te) : PS X (.Return (some e) pos) (tRet te) := by
  intro pins s σ H D I h
  exact wpAny_Return_some (thn (he pins s σ H _ I h) fun v s1 ⟨x, H1, I1, r1, q1⟩ => ⟨x, σ, H1, I1, r1, q1⟩)
noncomputable def tIfS (c : TT) (t u : TS) : TS := fun D σ H => c σ H fun b H1 => if b = true then t D σ H1 else u D σ H1
theorem ps_if {c : Expr} {a b : List Stmt} {tc : TT} (hc : PT X c tc) (ha : PSs X a t) (hb : PSs X b u) : PS X (.If c a b pos) (tIfS tc t u) := by
  intro pins s σ H D I h
  refine wpAny_If (thn (hc pins s σ H _ I h) fun d s1 zpat => ?_)
  obtain ⟨H1, I1, q1⟩ := zpat
  cases d with
  | true => exact ha pins s1 σ H1 D I1 q1
  | false => exact hb pins s1 σ H1 D I1 q1
end
noncomputable abbrev TG := V → St → Hp → (St → Hp → Prop) → Prop
noncomputable def PG (X : Cx) (target : Expr) (t : TG) : Prop :=
  ∀ (pins : List (Addr × Obj)) (s : Shared) (σ : St) (H : Hp) (v : V) (u : Value) (Q : St → Hp → Prop), Inv X pins σ H s → RelV v u → t v σ H Q →
    wpAny (model X.prog X.w) X.A (assign target X.env u) (fun _ s' => ∃ σ' H', Inv X pins σ' H' s' ∧ Q σ' H') X.xe s
noncomputable abbrev TSet := V → V → V → Hp → (Hp → Prop) → Prop
noncomputable def PSet (X : Cx) (t : TSet) : Prop :=
  ∀ (pins : List (Addr × Obj)) (s : Shared) (σ : St) (H : Hp) (o i v : V) (ov iv u : Value) (Q : Hp → Prop), Inv X pins σ H s → RelV o ov → RelV i iv → RelV v u → t o i v H Q →
    wpAny (model X.prog X.w) X.A (setItem ov iv u) (fun _ s' => ∃ H', Inv X pins σ H' s' ∧ Q H') X.xe s
section
variable {X : Cx} {pos : Pos}
noncomputable def gName (i : Nat) : TG := fun v σ H Q => Q (σ.set i (some v)) H
theorem pg_name {i : Nat} {x : Str} (hN : X.N.Nodup) (hi : X.N[i]? = some x) (hx : Loc X.env.scope x) (hf : X.fn x = true ∨ X.env.scope.names.lookup x = some .local := by first | exact .inl rfl | exact .inr rfl | assumption) : PG X (.Name x pos) (gName i) := by
  intro pins s σ H v u Q I r h
  exact wpAny_assign_Name (store_ok I hN hi hx r (fun s' I' => ⟨_, H, I', h⟩) hf)
noncomputable def gSub (to ti : TE) (t : TSet) : TG := fun v σ H Q => to σ H fun o H1 => ti σ H1 fun i H2 => t o i v H2 fun H3 => Q σ H3
theorem pg_sub {o i : Expr} {to ti : TE} {t : TSet} (ho : PE X o to) (hi : PE X i ti) (hs : PSet X t)
    (ha : ∀ v, assign (.Subscript o i pos) X.env v = (do
      let ov ← holding [v] (eval o X.env)
      let iv ← holding [v, ov] (eval i X.env)
      standAt pos
      holding [v, ov, iv] (setItem ov iv v)
      release [v, ov, iv] []) := by intro _; rfl) : PG X (.Subscript o i pos) (gSub to ti t) := by
  intro pins s σ H v u Q I r h
  rw [ha]
  refine wpAny_bind (wpAny_holding (thn (ho pins s σ H _ I h) fun ov s1 zpat => ?_))
  obtain ⟨x, H1, I1, r1, q1⟩ := zpat
  refine wpAny_bind (wpAny_holding (thn (hi pins s1 σ H1 _ I1 q1) fun iv s2 zpat => ?_))
  obtain ⟨y, H2, I2, r2, q2⟩ := zpat
  refine wpAny_bind (wpAny_standAt (wpAny_bind (wpAny_holding (thn (hs pins s2 σ H2 x y v ov iv u _ I2 r1 r2 r q2) fun _ s3 zpat => ?_))))
  obtain ⟨H3, I3, q3⟩ := zpat
  exact wpAny_release ⟨σ, H3, I3, q3⟩
noncomputable def tAsg (te : TE) (g : TG) : TS := fun D σ H => te σ H fun x H1 => g x σ H1 D.nx
theorem ps_asg {tg e : Expr} {te : TE} {g : TG} (he : PE X e te) (hg : PG X tg g) (hs : swapsWithSole [tg] e pos.line X.env = pure false := by rfl) (hw : swappedStores [tg] e X.env = pure none := by rfl)
    (h1 : (assignEach [tg] X.env).map (·.2) = [assign tg X.env] := by rfl) : PS X (.Assign [tg] e pos) (tAsg te g) := by
  intro pins s σ H D I h
  refine wpAny_Assign_stores (thn (he pins s σ H _ I h) fun v s1 zpat => ?_) hs hw
  obtain ⟨x, H1, I1, r1, q1⟩ := zpat
  rw [h1]
  exact thn (hg pins s1 σ H1 x v _ I1 r1 q1) fun _ s2 q => q
theorem ps_set {i : Nat} {x : Str} {e : Expr} {te : TE} {pos' : Pos} (hN : X.N.Nodup) (hi : X.N[i]? = some x) (hx : Loc X.env.scope x) (he : PE X e te) (hs : swapsWith e (some (.Name x pos')) pos.line X.env = pure false := by rfl) (hf : X.fn x = true ∨ X.env.scope.names.lookup x = some .local := by first | exact .inl rfl | exact .inr rfl | assumption) :
    PS X (.Assign [.Name x pos'] e pos) (tAsg te (gName i)) := by
  intro pins s σ H D I h
  refine wpAny_Assign_Name (thn (he pins s σ H _ I h) fun v s1 zpat => ?_) hs
  obtain ⟨y, H1, I1, r1, q1⟩ := zpat
  exact store_ok I1 hN hi hx r1 (fun s2 I2 => ⟨_, H1, I2, q1⟩) hf
end
section
variable {X : Cx} {pos : Pos}
end
structure It where
  go : Nat → Hp → Prop
  yld : Nat → Hp → V → Hp → Prop
  stop : Nat → Hp → Prop
noncomputable def FpOk (X : Cx) (pins : List (Addr × Obj)) (H : Hp) (b : Addr) : Prop :=
  H b = none ∧ b ≠ X.env.locals ∧ b ∉ X.fs ∧ (b ∈ X.ex ∨ X.s₀.heap.objs.size ≤ b) ∧ (∀ x c, X.env.cells.lookup x = some c → c ≠ b) ∧ ∀ p ∈ X.pn ++ pins, p.1 ≠ b
theorem Inv.fpOk {X : Cx} {pins : List (Addr × Obj)} {σ : St} {H H' : Hp} {s : Shared} {b : Addr} (I : Inv X pins σ H s) (hb : s.heap.objs.size ≤ b) (hn : H' b = none) : FpOk X pins H' b := by
  refine ⟨hn, Nat.ne_of_gt (Nat.lt_of_lt_of_le I.lt hb), I.nofs hb, .inr (Nat.le_trans I.sz hb), fun x c e z => ?_, fun p hp z => ?_⟩
  · obtain ⟨v, q⟩ := I.cell x c e
    exact absurd (Nat.lt_of_lt_of_le q.lt (by rw [z]; exact hb)) (Nat.lt_irrefl _)
  · exact absurd (Nat.lt_of_lt_of_le (Heap.lt_size (I.pin p hp).1) (by rw [z]; exact hb)) (Nat.lt_irrefl _)
structure Turn (P : Program) (w : World) (K : PySem.W.Frag) (tg : Expr) (J : It) (fp : List Addr) (it : Addr) (tn : Nat → Heap → Prop) : Prop where
  mem : it ∈ fp
  obj : ∀ i h, tn i h → ∀ b ∈ fp, ∃ o, h.get? b = some o ∧ ∀ v, o.data ≠ .cell v
  keep : ∀ i h h', tn i h → (∀ b ∈ fp, ∀ o, h.get? b = some o → h'.get? b = some o) → tn i h'
  item : ∀ (X : Cx), X.prog = P → X.w = w → X.K = K → X.calm = true → ∀ (i : Nat) (pins : List (Addr × Obj)) (s : Shared) (σ : St) (H : Hp) (E : Value → Shared → Prop), Inv X pins σ H s → (∀ b ∈ fp, FpOk X pins H b) → tn i s.heap → J.go i H →
    wpAny (model P w) X.A (pyNext (.ref it)) (fun r s1 => ∃ u, r = some u ∧
      wpAny (model P w) X.A (letOwnedTupleGo tg (.ref it) u) (fun _ s2 => ∃ x H', Inv X pins σ H' s2 ∧ RelV x u ∧ J.yld i H x H' ∧ tn (i + 1) s2.heap ∧ ∀ b ∈ fp, H' b = none) E s1) E s
  done : ∀ (X : Cx), X.prog = P → X.w = w → X.K = K → X.calm = true → ∀ (i : Nat) (pins : List (Addr × Obj)) (s : Shared) (σ : St) (H : Hp) (E : Value → Shared → Prop), Inv X pins σ H s → (∀ b ∈ fp, FpOk X pins H b) → tn i s.heap → J.stop i H →
    wpAny (model P w) X.A (pyNext (.ref it)) (fun r s1 => r = none ∧ Inv X pins σ H s1) E s
  self : ∀ (A : Around) (i : Nat) (s : Shared) (Q : Value → Shared → Prop) (E : Value → Shared → Prop), tn i s.heap → Q (.ref it) s → wpAny (model P w) A (pyIter (.ref it)) Q E s
noncomputable abbrev TI := St → Hp → (It → Hp → Prop) → Prop
noncomputable def PIE (X : Cx) (pins : List (Addr × Obj)) (σ : St) (tg : Expr) (R : It → Hp → Prop) (itv : Value) (s2 : Shared) : Prop :=
  ∃ (it : Addr) (fp : List Addr) (tn : Nat → Heap → Prop) (J : It) (H' : Hp), itv = .ref it ∧ Inv X pins σ H' s2 ∧ Turn X.prog X.w X.K tg J fp it tn ∧ tn 0 s2.heap ∧ (∀ b ∈ fp, FpOk X pins H' b) ∧ R J H'
noncomputable def PI (X : Cx) (tg iter : Expr) (wi : TI) : Prop :=
  ∀ (pins : List (Addr × Obj)) (s : Shared) (σ : St) (H : Hp) (R : It → Hp → Prop), Inv X pins σ H s → wi σ H R →
    wpAny (model X.prog X.w) X.A (eval iter X.env) (fun v s1 => wpAny (model X.prog X.w) X.A (pyIter v) (PIE X pins σ tg R) X.xe s1) X.xe s
theorem go_of {M : Model} {A : Around} {E : Value → Shared → Prop} {s : Shared} {tg : Expr} {it : Addr} {u : Value} {o : Obj} {n : String} {vs : Array Value} {Q : Unit → Shared → Prop} (ho : s.heap.get? it = some o) (hc : o.cls = .type n) (hd : o.data = .fields vs)
    (hn : ["enumerate", "zip", "dict_itemiterator", "dict_reverseitemiterator", "odict_iterator", "itertools.zip_longest", "itertools.pairwise"].contains n = false) (hQ : Q () s) : wpAny M A (letOwnedTupleGo tg (.ref it) u) Q E s := by
  unfold letOwnedTupleGo
  cases tg <;> first
    | exact wpAny_pure hQ
    | (cases u <;> first
        | exact wpAny_pure hQ
        | (refine wpAny_bind (wpAny_load ho ?_)
           rw [hc, hd]
           show wpAny M A (if (["enumerate", "zip", "dict_itemiterator", "dict_reverseitemiterator", "odict_iterator", "itertools.zip_longest", "itertools.pairwise"].contains n && vs[0]? == some (rawInt _)) = true then _ else _) Q E s
           rw [if_neg (by intro h; rw [hn, Bool.false_and] at h; cases h)]
           exact wpAny_pure hQ))
noncomputable def Itl (K : PySem.W.Frag) (a : Addr) : It :=
  ⟨fun i H => ∃ xs x, SqL K H a xs ∧ xs[i]? = some x, fun i H x H' => H' = H ∧ ∀ xs, SqL K H a xs → xs[i]? = some x, fun i H => ∃ xs, SqL K H a xs ∧ xs.length ≤ i⟩
noncomputable def Itr (lo : Int) (n : Nat) : It := ⟨fun i _ => i < n, fun i H x H' => H' = H ∧ x = .int (lo + i), fun i _ => n ≤ i⟩
theorem turn_list {P : Program} {w : World} {K : PySem.W.Frag} {tg : Expr} (a it : Addr) : Turn P w K tg (Itl K a) [it] it (fun i h => h.IsListIter it a i) where
  mem := by simp
  obj := fun i h st b hb => by
    have e : b = it := by simpa using hb
    subst e
    obtain ⟨o, e, c, d⟩ := st
    exact ⟨o, e, fun v z => by rw [d] at z; cases z⟩
  keep := fun i h h' st k => st.at fun o e => k it (by simp) o e
  item := by
    intro X hP hw hK hc i pins s σ H E I hf st hg
    subst hP hw hK
    obtain ⟨xs, x, hq, hx⟩ := hg
    obtain ⟨its, rv, p, hz⟩ := I.list hq
    obtain ⟨u, hu, ru⟩ := rv.get hx
    obtain ⟨f0, f1, f2, f3, f4, f5⟩ := hf it (by simp)
    refine wpAny_pyNext_list_item st p.isList (x := u) (by simpa using hu) fun h' st' sb => ?_
    have I1 : Inv X pins σ H { s with heap := h' } := I.turned (t' := s.toks) (fun b o hb e => (sb.2 b hb).trans e) f0 f1 f3 f4 f5
    obtain ⟨o, e, c, d⟩ := id st'
    exact ⟨u, rfl, go_of (s := { s with heap := h' }) e c d (by decide) ⟨x, H, I1, ru, ⟨rfl, fun ys hy => by rw [I.list_inj hy hq]; exact hx⟩, st', fun b hb => (hf b hb).1⟩⟩
  done := by
    intro X hP hw hK hc i pins s σ H E I hf st hg
    subst hP hw hK
    obtain ⟨xs, hq, hx⟩ := hg
    obtain ⟨its, rv, p, hz⟩ := I.list hq
    obtain ⟨f0, f1, f2, f3, f4, f5⟩ := hf it (by simp)
    have hl := rv.length
    exact wpAny_pyNext_list_end (I.ok.hd hc) st p.isList (by simp; omega) fun h' eb => ⟨rfl, I.turned (t' := s.toks) (fun b o hb e => eb b o hb e) f0 f1 f3 f4 f5⟩
  self := fun _ _ _ _ _ st h => wpAny_pyIter_listiter st h
theorem turn_range {P : Program} {w : World} {K : PySem.W.Frag} {tg : Expr} (it : Addr) (lo : Int) (n : Nat) : Turn P w K tg (Itr lo n) [it] it (fun i h => IsRangeIter h it (lo + (i : Nat) * 1) ((n : Int) - (i : Nat)) 1) where
  mem := by simp
  obj := fun i h st b hb => by
    have e : b = it := by simpa using hb
    subst e
    exact ⟨_, st, fun v z => by
      have z' : Data.fields _ = Data.cell v := z
      cases z'⟩
  keep := fun i h h' st k => k it (by simp) _ st
  item := by
    intro X hP hw hK hc i pins s σ H E I hf st hg
    subst hP hw hK
    obtain ⟨f0, f1, f2, f3, f4, f5⟩ := hf it (by simp)
    have W := Walks.range (prog := X.prog) (w := X.w) (I.ok.hd hc) it lo 1 n
    refine W.item i s _ _ hg st fun v h' tk hv st' kk => ?_
    obtain ⟨t, rfl⟩ := hv
    have I1 : Inv X pins σ H { s with heap := h', toks := tk } := I.turned (fun b o hb e => kk b o (by simpa using hb) e) f0 f1 f3 f4 f5
    refine ⟨_, rfl, go_of (s := { s with heap := h', toks := tk }) (n := "range_iterator") st' rfl rfl (by decide) ⟨.int (lo + i), H, I1, ⟨t, ?_⟩, ⟨rfl, rfl⟩, st', fun b hb => (hf b hb).1⟩⟩
    rw [Int.mul_one]
  done := by
    intro X hP hw hK hc i pins s σ H E I hf st hg
    subst hP hw hK
    obtain ⟨f0, f1, f2, f3, f4, f5⟩ := hf it (by simp)
    exact wpAny_pyNext_range_end (I.ok.hd hc) st (by have : n ≤ i := hg; omega) fun h' eb => ⟨rfl, I.turned (t' := s.toks) (fun b o hb e => eb b o hb e) f0 f1 f3 f4 f5⟩
  self := fun _ _ _ _ _ st h => wpAny_pyIter_rangeiter st h
end L2
namespace L2
open PySem PySem.Spec PyProof.Rows
section
variable {X : Cx} {tg : Expr}
noncomputable def iList (K : PySem.W.Frag) (tl : TE) : TI := fun σ H R => tl σ H fun x H1 => ∃ a, x = .ref a ∧ (∃ xs, SqL K H1 a xs) ∧ R (Itl K a) H1
theorem pi_list {l : Expr} {tl : TE} (hl : PE X l tl) : PI X tg l (iList X.K tl) := by
  intro pins s σ H R I h
  refine thn (hl pins s σ H _ I h) fun v s1 zpat => ?_
  obtain ⟨x, H1, I1, r1, q1⟩ := zpat
  obtain ⟨a, e, ⟨xs, hq⟩, q⟩ := q1
  subst e
  cases r1
  obtain ⟨its, rv, p, hz⟩ := I1.list hq
  refine wpAny_pyIter_list p.isList ?_
  refine ⟨s1.heap.objs.size, [s1.heap.objs.size], _, _, H1, rfl, I1.kept (t' := s1.toks) fun b o e => Heap.get?_push_of_some _ e, turn_list a _, ⟨_, Heap.get?_push_size _ rfl, rfl, rfl⟩, fun b hb => ?_, q⟩
  have e : b = s1.heap.objs.size := by simpa using hb
  subst e
  exact I1.fpOk (Nat.le_refl _) (I1.hok.fresh (Nat.le_refl _))
theorem range_it {pins : List (Addr × Obj)} {σ : St} {H : Hp} {s : Shared} {R : It → Hp → Prop} {E : Value → Shared → Prop} {lo hi : Int} {t u v : Tok} {tk : Nat} (I : Inv X pins σ H s) (h1 : -(2 ^ 62) ≤ lo) (h2 : lo < 2 ^ 62) (h3 : -(2 ^ 62) ≤ hi) (h4 : hi < 2 ^ 62)
    (q : R (Itr lo (hi - lo).toNat) H) : wpAny (model X.prog X.w) X.A (pyIter (.ref s.heap.objs.size)) (PIE X pins σ tg R) E { s with heap := s.heap.push { cls := .type "range", data := .fields #[.int lo t, .int hi u, .int 1 v] }, toks := tk } := by
  refine wpAny_pyIter_range (IsRange.new ..) (small_one h1 h2 h3 h4) ?_
  have I1 : Inv X pins σ H { s with heap := s.heap.push { cls := .type "range", data := .fields #[.int lo t, .int hi u, .int 1 v] }, toks := tk } := I.kept fun b o e => Heap.get?_push_of_some _ e
  refine ⟨(s.heap.push { cls := .type "range", data := .fields #[.int lo t, .int hi u, .int 1 v] }).objs.size, [(s.heap.push { cls := .type "range", data := .fields #[.int lo t, .int hi u, .int 1 v] }).objs.size], _, _, H, rfl,
    I1.kept (t' := tk) fun b o e => Heap.get?_push_of_some _ e, turn_range _ lo (hi - lo).toNat, ?_, fun b hb => ?_, q⟩
  · have e1 : lo + ((0 : Nat) : Int) * 1 = lo := by simp
    have e2 : (((hi - lo).toNat : Nat) : Int) - ((0 : Nat) : Int) = Builtin.Range.rangeSize lo hi 1 := by rw [rangeSize_one]; split <;> omega
    show IsRangeIter _ _ (lo + ((0 : Nat) : Int) * 1) ((((hi - lo).toNat : Nat) : Int) - ((0 : Nat) : Int)) 1
    rw [e1, e2]
    exact Heap.get?_push_size _ rfl
  · have e : b = (s.heap.push { cls := .type "range", data := .fields #[.int lo t, .int hi u, .int 1 v] }).objs.size := by simpa using hb
    subst e
    exact I1.fpOk (Nat.le_refl _) (I1.hok.fresh (Nat.le_refl _))
noncomputable def iRng1 (ta : TA) : TI := fun σ H R => ta σ H fun vs H1 => ∃ j : Int, vs = [.int j] ∧ -(2 ^ 62) ≤ j ∧ j < 2 ^ 62 ∧ R (Itr 0 j.toNat) H1
theorem pi_range1 {a : Expr} {ta : TA} {p pos : Pos} (hg : Gl X "range") (hm : X.mg "range" = none) (ha : PA X [a] ta) (hs : starEach [a] X.env = [(false, eval a X.env)] := by rfl) : PI X tg (.Call (.Name "range" p) [a] [] pos) (iRng1 ta) := by
  intro pins s σ H R I h
  refine Call_ (ld_blt I hg hm boot_range (PyProof.Rows.callWith_type1 (thn (ha pos pins s σ H _ I h) fun us s1 zpat => ?_) hs rfl))
  obtain ⟨vs, H1, I1, r1, q1⟩ := zpat
  obtain ⟨j, e, q1, q2, q⟩ := q1
  subst e
  cases r1 with
  | cons r rr =>
    cases rr
    obtain ⟨t, rfl⟩ := r
    exact call_range_1 (range_it I1 (by omega) (by omega) q1 q2 (by simpa using q))
noncomputable def tFor (wi : TI) (g : TG) (tb : TS) : TS := fun D σ H => wi σ H fun J H1 => ∃ W : Nat → Nat → St → Hp → Prop, (∃ m, W 0 m σ H1) ∧ ∀ i m σ H, W i m σ H →
  (J.stop i H ∧ D.nx σ H) ∨ (J.go i H ∧ ∃ N : St → Hp → Prop, (∀ σ' H', N σ' H' → ∃ m', m' < m ∧ W (i + 1) m' σ' H') ∧ ∀ x H', J.yld i H x H' → g x σ H' fun σ2 H2 => tb { D with nx := N, ct := N, bk := D.nx } σ2 H2)
noncomputable def pinsAt (fp : List Addr) (h : Heap) : List (Addr × Obj) := fp.filterMap fun b => (h.get? b).map fun o => (b, o)
theorem mem_pinsAt {fp : List Addr} {h : Heap} {b : Addr} {o : Obj} (hb : b ∈ fp) (e : h.get? b = some o) : (b, o) ∈ pinsAt fp h := List.mem_filterMap.mpr ⟨b, hb, by rw [e]; rfl⟩
theorem of_pinsAt {fp : List Addr} {h : Heap} {p : Addr × Obj} (hp : p ∈ pinsAt fp h) : p.1 ∈ fp ∧ h.get? p.1 = some p.2 := by
  obtain ⟨b, hb, e⟩ := List.mem_filterMap.mp hp
  cases q : h.get? b with
  | none => rw [q] at e; cases e
  | some o =>
    rw [q] at e
    have e' : (b, o) = p := Option.some.inj e
    subst e'
    exact ⟨hb, q⟩
theorem Inv.pinned {pins : List (Addr × Obj)} {σ : St} {H : Hp} {s : Shared} {fp : List Addr} (I : Inv X pins σ H s) (hf : ∀ b ∈ fp, FpOk X pins H b) (ho : ∀ b ∈ fp, ∃ o, s.heap.get? b = some o ∧ ∀ v, o.data ≠ .cell v) : Inv X (pins ++ pinsAt fp s.heap) σ H s :=
  I.pins_of fun p hp => (List.mem_append.mp hp).elim (fun z => I.pin p (List.mem_append_right _ z)) fun z => by
    obtain ⟨hb, e⟩ := of_pinsAt z
    obtain ⟨f0, f1, f2, _⟩ := hf p.1 hb
    obtain ⟨o, e', d⟩ := ho p.1 hb
    rw [e] at e'; cases e'
    exact ⟨e, f0, f1, f2, d⟩
theorem Inv.unpinned {pins pl : List (Addr × Obj)} {σ : St} {H : Hp} {s : Shared} (I : Inv X (pins ++ pl) σ H s) : Inv X pins σ H s := I.pins_of fun p hp => I.pin p (List.mem_append_right _ (List.mem_append_left _ hp))
theorem ps_for {iter : Expr} {body : List Stmt} {wi : TI} {g : TG} {tb : TS} {pos : Pos} (hp : PassesOwn (model X.prog X.w) X.A X.env X.xe) (hc : X.calm = true) (hi : PI X tg iter wi) (hg : PG X tg g) (hb : PSs X body tb)
    (hs : ∀ x, foldedSetIterable iter X.env x = pure x := by intro _; rfl) : PS X (.For tg iter body [] pos) (tFor wi g tb) := by
  intro pins s σ H D I h
  refine wpAny_For (thn (hi pins s σ H _ I h) fun v s1 h1 => thn h1 fun itv s2 h2 => ?_) hs
  obtain ⟨it, fp, tn, J, H2, e, I2, T, st2, f2, W, ⟨m0, w0⟩, turn⟩ := h2
  subst e
  -- what stays true of the iterator's objects through the loop
  have stat : ∀ {H' : Hp}, (∀ b ∈ fp, H' b = none) → ∀ b ∈ fp, FpOk X pins H' b := fun hn b hb => ⟨hn b hb, (f2 b hb).2⟩
  refine codeAny_forLoop_any (fun n s' => ∃ i σ' H', Inv X pins σ' H' s' ∧ tn i s'.heap ∧ (∀ b ∈ fp, H' b = none) ∧ W i n σ' H') ?_ m0 ⟨0, σ, H2, I2, st2, fun b hb => (f2 b hb).1, w0⟩
  rintro n s3 ⟨i, σ3, H3, I3, st3, fr3, w3⟩
  rcases turn i n σ3 H3 w3 with ⟨stop, qn⟩ | ⟨go, N, hN, step⟩
  · refine wpAny_passesOwn hp (thn (T.done X rfl rfl rfl hc i pins s3 σ3 H3 X.xe I3 (stat fr3) st3 stop) fun r s4 zpat => ?_)
    obtain ⟨hr, I4⟩ := zpat
    subst hr
    exact wpAny_execs_nil ⟨σ3, H3, I4, qn⟩
  · refine wpAny_passesOwn hp (thn (T.item X rfl rfl rfl hc i pins s3 σ3 H3 X.xe I3 (stat fr3) st3 go) fun r s4 zpat => ?_)
    obtain ⟨u, hr, h4⟩ := zpat
    subst hr
    refine wpAny_passesOwn hp (thn h4 fun _ s5 zpat => ?_)
    obtain ⟨x, H5, I5, r5, y5, st5, fr5⟩ := zpat
    have I5' := I5.pinned (stat fr5) (T.obj _ _ st5)
    refine wpAny_passesOwn hp (thn (hg _ s5 σ3 H5 x u _ I5' r5 (step x H5 y5)) fun _ s6 zpat => ?_)
    obtain ⟨σ6, H6, I6, q6⟩ := zpat
    refine wpAny_passesOwn hp (thn (hb _ s6 σ6 H6 _ I6 q6) fun f s7 q7 => ?_)
    have again : ∀ {σ7 : St} {H7 : Hp}, Inv X (pins ++ pinsAt fp s5.heap) σ7 H7 s7 → N σ7 H7 → ∃ m, m < n ∧ ∃ i σ' H', Inv X pins σ' H' s7 ∧ tn i s7.heap ∧ (∀ b ∈ fp, H' b = none) ∧ W i m σ' H' := fun {σ7 H7} I7 n7 => by
      obtain ⟨m', hm, w7⟩ := hN σ7 H7 n7
      refine ⟨m', hm, i + 1, σ7, H7, I7.unpinned, T.keep _ _ _ st5 fun b hb o e => (I7.pin (b, o) (List.mem_append_right _ (List.mem_append_right _ (mem_pinsAt hb e)))).1, fun b hb => ?_, w7⟩
      obtain ⟨o, e, d⟩ := T.obj _ _ st5 b hb
      exact (I7.pin (b, o) (List.mem_append_right _ (List.mem_append_right _ (mem_pinsAt hb e)))).2.1
    cases f with
    | next => obtain ⟨σ7, H7, I7, n7⟩ := q7; exact again I7 n7
    | cont => obtain ⟨σ7, H7, I7, n7⟩ := q7; exact again I7 n7
    | brk => obtain ⟨σ7, H7, I7, q7⟩ := q7; exact ⟨σ7, H7, I7.unpinned, q7⟩
    | ret v => obtain ⟨x7, σ7, H7, I7, r7, q7⟩ := q7; exact ⟨x7, σ7, H7, I7.unpinned, r7, q7⟩
end
theorem for_range {lo : Int} {n : Nat} {g : TG} {tb : TS} {D : Ends} {σ : St} {H : Hp} (Pv : Nat → St → Hp → Prop) (h0 : Pv 0 σ H)
    (hs : ∀ i σ H, i < n → Pv i σ H → g (.int (lo + i)) σ H fun σ2 H2 => tb { D with nx := Pv (i + 1), ct := Pv (i + 1), bk := D.nx } σ2 H2) (hd : ∀ σ H, Pv n σ H → D.nx σ H) :
    ∃ W : Nat → Nat → St → Hp → Prop, (∃ m, W 0 m σ H) ∧ ∀ i m σ H, W i m σ H →
      ((Itr lo n).stop i H ∧ D.nx σ H) ∨ ((Itr lo n).go i H ∧ ∃ N : St → Hp → Prop, (∀ σ' H', N σ' H' → ∃ m', m' < m ∧ W (i + 1) m' σ' H') ∧ ∀ x H', (Itr lo n).yld i H x H' → g x σ H' fun σ2 H2 => tb { D with nx := N, ct := N, bk := D.nx } σ2 H2) := by
  refine ⟨fun i m σ H => m = n - i ∧ i ≤ n ∧ Pv i σ H, ⟨n, by simp, Nat.zero_le _, h0⟩, ?_⟩
  rintro i m σ H ⟨rfl, hi, p⟩
  by_cases hlt : i < n
  · refine .inr ⟨hlt, Pv (i + 1), fun σ' H' p' => ⟨n - (i + 1), by omega, rfl, hlt, p'⟩, fun x H' y => ?_⟩
    obtain ⟨e, y⟩ := y
    subst e y
    exact hs i σ _ hlt p
  · have e : i = n := by omega
    subst e
    exact .inl ⟨Nat.le_refl _, hd σ H p⟩
end L2
namespace L2
open PySem PySem.Spec PyProof.Rows
noncomputable abbrev R2 := V → V → Hp → VK → Prop
noncomputable def OpR (X : Cx) (f : Value → Value → Sem Value) (r : R2) : Prop :=
  ∀ (pins : List (Addr × Obj)) (s : Shared) (σ : St) (H : Hp) (x y : V) (v u : Value) (Q : VK), Inv X pins σ H s → RelV x v → RelV y u → r x y H Q →
    wpAny (model X.prog X.w) X.A (f v u) (EP X pins σ Q) X.xe s
noncomputable def CallR (X : Cx) (f : Value) (r : List V → Hp → VK → Prop) : Prop :=
  ∀ (pins : List (Addr × Obj)) (s : Shared) (σ : St) (H : Hp) (xs : List V) (us : List Value) (Q : VK), Inv X pins σ H s → Vals xs us → r xs H Q →
    wpAny (model X.prog X.w) X.A (call f us) (EP X pins σ Q) X.xe s
noncomputable def tOp (r : R2) (ta tb : TE) : TE := fun σ H Q => ta σ H fun x H1 => tb σ H1 fun y H2 => r x y H2 Q
inductive II (C : Int → Int → Prop) (g : Int → Int → V) (x y : V) (H : Hp) (Q : VK) : Prop where
  | mk (i j : Int) (ex : x = .int i) (ey : y = .int j) (c : C i j) (q : Q (g i j) H) : II C g x y H Q
noncomputable def rI (C : Int → Int → Prop) (g : Int → Int → V) : R2 := fun x y H Q => II C g x y H Q
inductive II0 (g : Int → Int → V) (x y : V) (H : Hp) (Q : VK) : Prop where
  | mk (i j : Int) (ex : x = .int i) (ey : y = .int j) (q : Q (g i j) H) : II0 g x y H Q
noncomputable def rI0 (g : Int → Int → V) : R2 := fun x y H Q => II0 g x y H Q
section
variable {X : Cx} {a b c : Expr} {ta tb tc : TE} {pos : Pos}
theorem binT (ha : PE X a ta) (hb : PE X b tb) {pins : List (Addr × Obj)} {s : Shared} {σ : St} {H : Hp} {R : V → V → Hp → Prop} (I : Inv X pins σ H s)
    (h : ta σ H fun x H1 => tb σ H1 fun y H2 => R x y H2) {Q : Value → Shared → Prop} {f : Value → Value → Sem Value}
    (hf : ∀ v u s2 x y H2, Inv X pins σ H2 s2 → RelV x v → RelV y u → R x y H2 → wpAny (model X.prog X.w) X.A (f v u) Q X.xe s2) :
    wpAny (model X.prog X.w) X.A (eval a X.env) (fun v s₁ => wpAny (model X.prog X.w) X.A (eval b X.env) (fun u s₂ => wpAny (model X.prog X.w) X.A (f v u) Q X.xe s₂) X.xe s₁) X.xe s := by
  refine thn (ha pins s σ H _ I h) fun v s1 zpat => ?_
  obtain ⟨x, H1, I1, r1, q1⟩ := zpat
  refine thn (hb pins s1 σ H1 _ I1 q1) fun u s2 zpat => ?_
  obtain ⟨y, H2, I2, r2, q2⟩ := zpat
  exact hf v u s2 x y H2 I2 r1 r2 q2
theorem pe_op {op : Operator} {r : R2} (ho : OpR X (binaryOp op) r) (ha : PE X a ta) (hb : PE X b tb) : PE X (.BinOp a op b pos) (tOp r ta tb) := by
  intro pins s σ H Q I h
  exact wpAny_BinOp (binT ha hb I h fun v u s2 x y H2 I2 rx ry q => ho pins s2 σ H2 x y v u Q I2 rx ry q)
theorem opI {f : Value → Value → Sem Value} {C : Int → Int → Prop} {g : Int → Int → Int}
    (rule : ∀ (i j : Int) (t u : Tok) (s : Shared) (Q : Value → Shared → Prop) (E : Value → Shared → Prop), C i j → Q (.int (g i j) s.toks) { s with toks := s.toks + 1 } → wpAny (model X.prog X.w) X.A (f (.int i t) (.int j u)) Q E s) :
    OpR X f (rI C fun i j => .int (g i j)) := by
  intro pins s σ H x y v u Q I rx ry h
  obtain ⟨i, j, rfl, rfl, hc, q⟩ := h
  obtain ⟨t, rfl⟩ := rx
  obtain ⟨t', rfl⟩ := ry
  exact rule i j t t' s _ _ hc ⟨.int (g i j), H, I.tok _, ⟨_, rfl⟩, q⟩
theorem opI0 {f : Value → Value → Sem Value} {g : Int → Int → Int}
    (rule : ∀ (i j : Int) (t u : Tok) (s : Shared) (Q : Value → Shared → Prop) (E : Value → Shared → Prop), Q (.int (g i j) s.toks) { s with toks := s.toks + 1 } → wpAny (model X.prog X.w) X.A (f (.int i t) (.int j u)) Q E s) :
    OpR X f (rI0 fun i j => .int (g i j)) := by
  intro pins s σ H x y v u Q I rx ry h
  obtain ⟨i, j, rfl, rfl, q⟩ := h
  obtain ⟨t, rfl⟩ := rx
  obtain ⟨t', rfl⟩ := ry
  exact rule i j t t' s _ _ ⟨.int (g i j), H, I.tok _, ⟨_, rfl⟩, q⟩
theorem opB0 {f : Value → Value → Sem Value} {g : Int → Int → Bool}
    (rule : ∀ (i j : Int) (t u : Tok) (s : Shared) (Q : Value → Shared → Prop) (E : Value → Shared → Prop), Q (.bool (g i j)) s → wpAny (model X.prog X.w) X.A (f (.int i t) (.int j u)) Q E s) :
    OpR X f (rI0 fun i j => .bl (g i j)) := by
  intro pins s σ H x y v u Q I rx ry h
  obtain ⟨i, j, rfl, rfl, q⟩ := h
  obtain ⟨t, rfl⟩ := rx
  obtain ⟨t', rfl⟩ := ry
  exact rule i j t t' s _ _ ⟨.bl (g i j), H, I, rfl, q⟩
noncomputable def CDiv (i j : Int) : Prop := 0 < j ∧ j < 1073741824
noncomputable def CPow (i j : Int) : Prop := 0 ≤ j ∧ j ≤ 1000000 ∧ i.natAbs < 2 ^ 64
noncomputable def CMul (i j : Int) : Prop := (-(2 ^ 64) < i ∧ i < 2 ^ 64) ∨ (-(2 ^ 64) < j ∧ j < 2 ^ 64)
theorem CMul.ok {i j : Int} (h : CMul i j) : IntMulOk i j := by
  rcases h with ⟨h1, h2⟩ | ⟨h1, h2⟩
  · exact .of_left (intBits_le_64 h1 h2)
  · exact .of_right (intBits_le_64 h1 h2)
theorem op_add : OpR X (binaryOp .Add) (rI0 fun i j => .int (i + j)) := opI0 fun _ _ _ _ _ _ _ q => add_int q
theorem op_sub : OpR X (binaryOp .Sub) (rI0 fun i j => .int (i - j)) := opI0 fun _ _ _ _ _ _ _ q => sub_int q
theorem op_mul : OpR X (binaryOp .Mult) (rI CMul fun i j => .int (i * j)) := opI fun _ _ _ _ _ _ _ hc q => mul_int q hc.ok
theorem op_fdiv : OpR X (binaryOp .FloorDiv) (rI CDiv fun i j => .int (i / j)) := opI fun i j _ _ _ _ _ hc q => by
  have h1 : (0 : Int) < j := hc.1
  have h2 : j < 1073741824 := hc.2
  exact floordiv_int (by omega) (by rw [Int.fdiv_eq_ediv_of_nonneg i (by omega)]; exact q) (.inl (PyProof.noPylong_small (by omega)))
theorem op_mod : OpR X (binaryOp .Mod) (rI (fun _ j => 0 < j) fun i j => .int (i % j)) := opI fun i j _ _ _ _ _ hc q => by
  have h1 : (0 : Int) < j := hc
  exact mod_int' (by omega) (by rw [Int.fmod_eq_emod_of_nonneg i (by omega)]; exact q)
theorem op_shl : OpR X (binaryOp .LShift) (rI CPow fun i j => .int (i * 2 ^ j.toNat)) := opI fun _ _ _ _ _ _ _ hc q => lshift_int_small hc.1 hc.2.1 hc.2.2 q
end
noncomputable def scal : V → V → Bool
  | .non, .non => true | .non, .int _ => true | .int _, .non => true | .non, .bl _ => true | .bl _, .non => true | .non, .str _ => true | .str _, .non => true
  | .int _, .int _ => true | .bl _, .bl _ => true | .str _, .str _ => true | .byt _, .byt _ => true
  | .int _, .str _ => true | .str _, .int _ => true | .bl _, .str _ => true | .str _, .bl _ => true
  | _, _ => false
noncomputable def rEq : R2 := fun x y H Q => scal x y = true ∧ Q (.bl (decide (x = y))) H
noncomputable def rNe : R2 := fun x y H Q => scal x y = true ∧ Q (.bl (!decide (x = y))) H
theorem dec_int {i j : Int} : decide (V.int i = V.int j) = (i == j) := by
  rw [Bool.eq_iff_iff]
  simp
theorem dec_bl {i j : Bool} : decide (V.bl i = V.bl j) = (i == j) := by
  rw [Bool.eq_iff_iff]
  simp
theorem dec_str {i j : Str} : decide (V.str i = V.str j) = (i == j) := by
  rw [Bool.eq_iff_iff]
  simp
theorem dec_byt {i j : Array UInt8} : decide (V.byt i = V.byt j) = (i.toList == j.toList) := by
  rw [Bool.eq_iff_iff]
  cases i
  cases j
  simp
section
variable {X : Cx} {a b c : Expr} {ta tb tc : TE} {pos : Pos}
theorem fin_bl {pins : List (Addr × Obj)} {σ : St} {H : Hp} {s : Shared} {Q : VK} {k k' : Bool} (I : Inv X pins σ H s) (q : Q (.bl k) H) (e : k = k') : EP X pins σ Q (.bool k') s := by
  subst e
  exact ⟨.bl k, H, I, rfl, q⟩
theorem op_eq : OpR X (compareOp .Eq) rEq := by
  intro pins s σ H x y v u Q I rx ry h
  obtain ⟨hs, q⟩ := h
  cases x with
  | non =>
    cases rx
    cases y with
    | non => cases ry; exact PySem.EqNone.eq_none_none (fin_bl I q (by simp))
    | bl j => cases ry; exact PySem.EqNone.eq_none_bool (fin_bl I q (by simp))
    | int j => obtain ⟨t', rfl⟩ := ry; exact PySem.EqNone.eq_none_int (fin_bl I q (by simp))
    | str j => obtain ⟨t', rfl⟩ := ry; exact PySem.EqNone.eq_none_str (fin_bl I q (by simp))
    | _ => exact absurd (show false = true from hs) Bool.false_ne_true
  | bl i =>
    cases rx
    cases y with
    | non => cases ry; exact PySem.EqNone.eq_bool_none (fin_bl I q (by simp))
    | bl j => cases ry; exact eq_bool (fin_bl I q dec_bl)
    | str j => obtain ⟨t', rfl⟩ := ry; exact PySem.EqMixed.eq_bool_str (fin_bl I q (by simp))
    | _ => exact absurd (show false = true from hs) Bool.false_ne_true
  | int i =>
    obtain ⟨t, rfl⟩ := rx
    cases y with
    | non => cases ry; exact PySem.EqNone.eq_int_none (fin_bl I q (by simp))
    | int j => obtain ⟨t', rfl⟩ := ry; exact eq_int (fin_bl I q dec_int)
    | str j => obtain ⟨t', rfl⟩ := ry; exact PySem.EqMixed.eq_int_str (fin_bl I q (by simp))
    | _ => exact absurd (show false = true from hs) Bool.false_ne_true
  | str i =>
    obtain ⟨t, rfl⟩ := rx
    cases y with
    | non => cases ry; exact PySem.EqNone.eq_str_none (fin_bl I q (by simp))
    | bl j => cases ry; exact PySem.EqMixed.eq_str_bool (fin_bl I q (by simp))
    | int j => obtain ⟨t', rfl⟩ := ry; exact PySem.EqMixed.eq_str_int (fin_bl I q (by simp))
    | str j => obtain ⟨t', rfl⟩ := ry; exact eq_str (fin_bl I q dec_str)
    | _ => exact absurd (show false = true from hs) Bool.false_ne_true
  | byt i =>
    obtain ⟨t, rfl⟩ := rx
    cases y with
    | byt j => obtain ⟨t', rfl⟩ := ry; exact PySem.W.eq_bytes (fin_bl I q dec_byt)
    | _ => exact absurd (show false = true from hs) Bool.false_ne_true
  | _ => cases y <;> exact absurd (show false = true from hs) Bool.false_ne_true
theorem op_ne : OpR X (compareOp .NotEq) rNe := by
  intro pins s σ H x y v u Q I rx ry h
  obtain ⟨hs, q⟩ := h
  cases x with
  | non =>
    cases rx
    cases y with
    | non => cases ry; exact PySem.EqNone.ne_none_none (fin_bl I q (by simp))
    | bl j => cases ry; exact PySem.EqNone.ne_none_bool (fin_bl I q (by simp))
    | int j => obtain ⟨t', rfl⟩ := ry; exact PySem.EqNone.ne_none_int (fin_bl I q (by simp))
    | str j => obtain ⟨t', rfl⟩ := ry; exact PySem.EqNone.ne_none_str (fin_bl I q (by simp))
    | _ => exact absurd (show false = true from hs) Bool.false_ne_true
  | bl i =>
    cases rx
    cases y with
    | non => cases ry; exact PySem.EqNone.ne_bool_none (fin_bl I q (by simp))
    | bl j => cases ry; exact ne_bool (fin_bl I q (congrArg not dec_bl))
    | str j => obtain ⟨t', rfl⟩ := ry; exact PySem.EqMixed.ne_bool_str (fin_bl I q (by simp))
    | _ => exact absurd (show false = true from hs) Bool.false_ne_true
  | int i =>
    obtain ⟨t, rfl⟩ := rx
    cases y with
    | non => cases ry; exact PySem.EqNone.ne_int_none (fin_bl I q (by simp))
    | int j => obtain ⟨t', rfl⟩ := ry; exact ne_int (fin_bl I q (congrArg not dec_int))
    | str j => obtain ⟨t', rfl⟩ := ry; exact PySem.EqMixed.ne_int_str (fin_bl I q (by simp))
    | _ => exact absurd (show false = true from hs) Bool.false_ne_true
  | str i =>
    obtain ⟨t, rfl⟩ := rx
    cases y with
    | non => cases ry; exact PySem.EqNone.ne_str_none (fin_bl I q (by simp))
    | bl j => cases ry; exact PySem.EqMixed.ne_str_bool (fin_bl I q (by simp))
    | int j => obtain ⟨t', rfl⟩ := ry; exact PySem.EqMixed.ne_str_int (fin_bl I q (by simp))
    | str j => obtain ⟨t', rfl⟩ := ry; exact ne_str (fin_bl I q (congrArg not dec_str))
    | _ => exact absurd (show false = true from hs) Bool.false_ne_true
  | byt i =>
    obtain ⟨t, rfl⟩ := rx
    cases y with
    | byt j => obtain ⟨t', rfl⟩ := ry; exact PySem.W.ne_bytes (fin_bl I q (congrArg not dec_byt))
    | _ => exact absurd (show false = true from hs) Bool.false_ne_true
  | _ => cases y <;> exact absurd (show false = true from hs) Bool.false_ne_true
theorem op_lt : OpR X (compareOp .Lt) (rI0 fun i j => .bl (decide (i < j))) := opB0 fun _ _ _ _ _ _ _ q => lt_int q
theorem op_gt : OpR X (compareOp .Gt) (rI0 fun i j => .bl (decide (j < i))) := opB0 fun _ _ _ _ _ _ _ q => gt_int q
theorem op_notN : OpR X (compareOp .IsNot) (fun x y H Q => y = .non ∧ Q (.bl (!decide (x = .non))) H) := by
  intro pins s σ H x y v u Q I rx ry h
  obtain ⟨rfl, q⟩ := h
  cases ry
  refine isnot_none_gen (fin_bl I q ?_)
  cases x <;> first
    | (cases rx; rfl)
    | (obtain ⟨t, rfl⟩ := rx; rfl)
theorem nomark (b : Expr) {op : CmpOp} (h : op ≠ .In := by decide) (h2 : op ≠ .NotIn := by decide) : behindInMarks op b = false := by
  have e1 : (op == CmpOp.In) = false := by cases op <;> first | rfl | exact absurd rfl h
  have e2 : (op == CmpOp.NotIn) = false := by cases op <;> first | rfl | exact absurd rfl h2
  cases b <;> simp [behindInMarks, e1, e2]
theorem pe_cmpR {op : CmpOp} {r : R2} (ho : OpR X (compareOp op) r) (ha : PE X a ta) (hb : PE X b tb) (hm : behindInMarks op b = false) : PE X (.Compare a [op] [b] pos) (tOp r ta tb) := by
  intro pins s σ H Q I h
  exact wpAny_Compare1 (binT ha hb I h fun v u s2 x y H2 I2 rx ry q => ho pins s2 σ H2 x y v u Q I2 rx ry q) hm
noncomputable def tTest (t : TE) : TT := fun σ H Q => t σ H fun x H' => IT x H' Q
theorem pt_cmpR {op : CmpOp} {r : R2} (ho : OpR X (compareOp op) r) (ha : PE X a ta) (hb : PE X b tb) (hm : behindInMarks op b = false) : PT X (.Compare a [op] [b] pos) (tTest (tOp r ta tb)) := by
  intro pins s σ H Q I h
  refine wpAny_isTrue_Compare1 (thn (ha pins s σ H _ I h) fun v s1 ⟨x, H1, I1, r1, q1⟩ => thn (hb pins s1 σ H1 _ I1 q1) fun u s2 ⟨y, H2, I2, r2, q2⟩ =>
    thn (ho pins s2 σ H2 x y v u _ I2 r1 r2 q2) fun c s3 ⟨z, H3, I3, r3, k, e, q3⟩ => ?_) hm
  subst e
  cases r3
  exact wpAny_truthy_bool ⟨H3, I3, q3⟩
theorem line63 : (sizeLine : Nat) < 2 ^ 63 := by rw [sizeLine_eq]; decide
theorem vals1 {x : V} {us : List Value} (r : Vals [x] us) : ∃ u, us = [u] ∧ RelV x u := by
  cases r with
  | cons r1 r2 => cases r2; exact ⟨_, rfl, r1⟩
theorem vals2 {x y : V} {us : List Value} (r : Vals [x, y] us) : ∃ u w', us = [u, w'] ∧ RelV x u ∧ RelV y w' := by
  cases r with
  | cons r1 r2 =>
    cases r2 with
    | cons r3 r4 => cases r4; exact ⟨_, _, rfl, r1, r3⟩
end
end L2
namespace L2
open PySem PySem.Spec PyProof.Rows
structure ObjM (h : Heap) (x dx C : Addr) (mA : Str → Option Value) : Prop where
  obj : h.get? x = some (PySem.W.instObj C dx)
  ns : h.Ns1 dx mA
  ne : dx ≠ x
theorem lookIn_ns {h : Heap} {dx : Addr} {mA : Str → Option Value} (n : h.Ns1 dx mA) : ∃ od, h.get? dx = some od ∧ ∀ name, PySem.W.lookIn name od = some (mA name) := by
  obtain ⟨o, es, ep, ho, hd, hk, _, hm⟩ := n
  refine ⟨o, ho, fun name => ?_⟩
  have e := hm name
  unfold nsFind findBy at e
  rw [← Array.find?_toList] at e
  unfold PySem.W.lookIn
  rw [hd]
  try dsimp only
  split
  · rename_i y q
    rw [q] at e
    exact congrArg some e
  · rename_i q
    rw [q] at e
    have a : es.toList.any (·.refKey) = false := by
      rw [List.any_eq_false]
      intro y hy
      obtain ⟨z, t, hkey⟩ := hk y (Array.mem_toList_iff.mp hy)
      simp [DictEntry.refKey, hkey]
    have a' : ¬ es.toList.any (·.refKey) = true := by rw [a]; exact Bool.false_ne_true
    rw [if_neg a']
    exact congrArg some e
theorem ObjM.look {h : Heap} {x dx C : Addr} {mA : Str → Option Value} (I : ObjM h x dx C mA) : ∃ od, PySem.W.InstAt h x (PySem.W.instObj C dx) C (some od) ∧ ∀ name, PySem.W.lookIn name od = some (mA name) :=
  let ⟨od, ho, hl⟩ := lookIn_ns I.ns
  ⟨od, ⟨I.obj, rfl, rfl, ho⟩, hl⟩
section
variable {prog : Program} {w : World} {A : Around} {E : Value → Shared → Prop} {s : Shared} {K : PySem.W.Frag} {x dx C f : Addr} {mA : Str → Option Value} {name : Str} {v : Value}
theorem get_map {expr : Bool} {Q : Value → Shared → Prop} (X : K.In s.heap) (I : ObjM s.heap x dx C mA) (hg : PySem.W.plainGet K C name = true) (hh : PySem.W.hasDictIn K C = true)
    (ha : PySem.W.findIn K (.ref C) name = some none) (hv : mA name = some v) (hv' : PySem.W.handedIn v = true) (h : Q v { s with toks := s.toks + 1 }) :
    wpAny (model prog w) A (getAttr (.ref x) name expr) Q E s := by
  obtain ⟨od, J, hl⟩ := I.look
  exact PySem.W.get_value X J (PySem.W.plainGet_of hg).1 (PySem.W.findObj_own hh ha rfl (by rw [hl, hv])) hv' h
theorem get_meth {pl : Sem Bool} {Q : Value × List Value → Shared → Prop} (X : K.In s.heap) (I : ObjM s.heap x dx C mA) (hg : PySem.W.plainGet K C name = true)
    (hf : PySem.W.findIn K (.ref C) name = some (some (.ref f))) (ht : PySem.W.isFn K (.ref f) = true) (hv : mA name = none) (h : Q (.ref f, [.ref x]) s) :
    wpAny (model prog w) A (getMethod (.ref x) name pl) Q E s := by
  obtain ⟨od, J, hl⟩ := I.look
  exact PySem.W.method_fn X J (PySem.W.plainGet_of hg).1 (PySem.W.plainGet_of hg).2 hf (beq_iff_eq.mp ht) (by show (PySem.W.lookIn name od).map (·.isSome) = some false; rw [hl, hv]; rfl) h
theorem set_map {ns : List Str} {Q : Unit → Shared → Prop} (X : K.In s.heap) (I : ObjM s.heap x dx C mA)
    (hs : PySem.W.findIn K (.ref C) "__setattr__" = some (some (.builtin "object.__setattr__"))) (hp : PySem.W.plainOver K C = true) (ht : PySem.W.takerIn K C name = some none) (hh : PySem.W.hasDictIn K C = true)
    (hw : PySem.Within mA ns) (hsz : ns.length ≤ sizeLine)
    (h : ∀ h', ObjM h' x dx C (fun y => if y = name then some v else mA y) → Heap.SameBut dx s.heap h' → Q () { s with heap := h', toks := s.toks + 2 }) :
    wpAny (model prog w) A (setAttr (.ref x) name v) Q E s := by
  obtain ⟨od, J, hl⟩ := I.look
  refine PySem.W.set_plain X J hs (PySem.W.osa_open (s := { s with toks := s.toks + 1 }) (r := none) X J hp ht fun b => ?_)
  obtain ⟨cd, hc, hd'⟩ := PySem.W.any_some hh
  have hx : s.heap.get? x = some ⟨.ref C, some dx, .plain, #[]⟩ := I.obj
  refine wpAny_bind (wpAny_pure (wpAny_bind (wpAny_bind (wpAny_loadPart hx (wpAny_bind (PySem.W.Looks.here (s := { s with toks := s.toks + 1 }) (PySem.W.looks_clsIn X hc) ?_))))))
  rw [hd']
  refine wpAny_pure (a := some dx) (wpAny_bind (wpAny_pure (wpAny_bind ?_)))
  refine wpAny_nsSet1 (s := { s with toks := s.toks + 1 }) I.ns fun h' hn2 hs2 => ?_
  obtain ⟨oD, esD, epD, hoD, hdD, hcD⟩ := hn2.count (PySem.Within.cons name v hw)
  refine wpAny_bind (wpAny_lookBehind hoD (by rw [hdD]; exact pastItsLine_dict (Nat.le_trans hcD (by rw [List.length_cons]; omega))) ?_)
  exact wpAny_pure (h _ ⟨(hs2.2 _ (Ne.symm I.ne)).trans I.obj, hn2, I.ne⟩ hs2)
theorem make_map {R : Result → Shared → Prop} {vs : List Value} {kw : List (Str × Value)} (X : K.In s.heap) (hm : PySem.W.makesIn K C = true)
    (hi : PySem.W.findIn K (.ref C) "__init__" = some (some (.ref f))) (hf : PySem.W.typeIn K (.ref f) = some (.type "function"))
    (h : codeAny (model prog w) (A.under (.builtin "type.__call__" ⟨.ref C :: vs, kw⟩)) (.call (.ref f) ⟨.ref (s.heap.objs.size + 1) :: vs, kw⟩) (PySem.W.InitBack (s.heap.objs.size + 1) R)
      { s with heap := (s.heap.push PySem.W.emptyDict).push (PySem.W.instObj C s.heap.objs.size) }) :
    codeAny (model prog w) A (.call (.ref C) ⟨vs, kw⟩) R s := by
  obtain ⟨hh, g, d, t, os⟩ := s
  exact PySem.W.make_core (PySem.W.makes_of X hm) (PySem.W.looks_findIn X hi) (fun self => PySem.W.bind_fn X self hf) (.inl rfl) h
end
noncomputable def putF (f : Str) (v : V) : List (Str × V) → List (Str × V)
  | [] => [(f, v)]
  | (g, x) :: r => if g = f then (g, v) :: r else (g, x) :: putF f v r
theorem lookup_putF (f g : Str) (v : V) : ∀ fs : List (Str × V), (putF f v fs).lookup g = if g = f then some v else fs.lookup g
  | [] => by
    show List.lookup g [(f, v)] = _
    by_cases h : g = f
    · have hb : (g == f) = true := beq_iff_eq.mpr h
      simp only [List.lookup, hb, if_pos h]
    · have hb : (g == f) = false := beq_eq_false_iff_ne.mpr h
      simp only [List.lookup, hb, if_neg h]
  | (k, x) :: r => by
    have ih := lookup_putF f g v r
    rw [show putF f v ((k, x) :: r) = (if k = f then (k, v) :: r else (k, x) :: putF f v r) from rfl]
    by_cases hk : k = f
    · rw [if_pos hk]
      by_cases h : g = k
      · have hb : (g == k) = true := beq_iff_eq.mpr h
        simp only [List.lookup, hb, if_pos (h.trans hk)]
      · have hb : (g == k) = false := beq_eq_false_iff_ne.mpr h
        simp only [List.lookup, hb, if_neg (fun e : g = f => h (e.trans hk.symm))]
    · rw [if_neg hk]
      by_cases h : g = k
      · have hb : (g == k) = true := beq_iff_eq.mpr h
        simp only [List.lookup, hb, if_neg (fun e : g = f => hk (h.symm.trans e))]
      · have hb : (g == k) = false := beq_eq_false_iff_ne.mpr h
        simp only [List.lookup, hb]
        exact ih
theorem keys_putF (f : Str) (v : V) : ∀ fs : List (Str × V), f ∈ (putF f v fs).map (·.1) ∧ ∀ g, g ∈ fs.map (·.1) → g ∈ (putF f v fs).map (·.1)
  | [] => ⟨by simp [putF], fun g h => by simp at h⟩
  | (k, x) :: r => by
    obtain ⟨i1, i2⟩ := keys_putF f v r
    rw [show putF f v ((k, x) :: r) = (if k = f then (k, v) :: r else (k, x) :: putF f v r) from rfl]
    by_cases hk : k = f
    · rw [if_pos hk]
      subst hk
      exact ⟨by simp, fun g h => by simpa using h⟩
    · rw [if_neg hk]
      refine ⟨?_, fun g h => ?_⟩
      · rw [List.map_cons]
        exact List.mem_cons_of_mem _ i1
      · rw [List.map_cons] at h ⊢
        rcases List.mem_cons.mp h with e | e
        · exact List.mem_cons.mpr (.inl e)
        · exact List.mem_cons_of_mem _ (i2 g e)
theorem length_putF (f : Str) (v : V) : ∀ fs : List (Str × V), (putF f v fs).length ≤ fs.length + 1
  | [] => by simp [putF]
  | (k, x) :: r => by
    have ih := length_putF f v r
    rw [show putF f v ((k, x) :: r) = (if k = f then (k, v) :: r else (k, x) :: putF f v r) from rfl]
    by_cases hk : k = f
    · rw [if_pos hk, List.length_cons, List.length_cons]; omega
    · rw [if_neg hk, List.length_cons, List.length_cons]; omega
theorem RelO.some_of {v : V} {o : Option Value} (r : RelO (some v) o) : ∃ u, o = some u ∧ RelV v u := by
  cases o with
  | none => exact (show False from r).elim
  | some u => exact ⟨u, rfl, r⟩
theorem RelO.none_of {o : Option Value} (r : RelO none o) : o = none := by
  cases o with
  | none => rfl
  | some u => exact (show False from r).elim
theorem handed_of {v : V} {u : Value} (r : RelV v u) : PySem.W.handedIn u = true := by
  cases v with
  | non => cases (show u = Value.none from r); rfl
  | bl b => cases (show u = Value.bool b from r); rfl
  | int i => obtain ⟨t, e⟩ := (show ∃ t, u = Value.int i t from r); cases e; rfl
  | str x => obtain ⟨t, e⟩ := (show ∃ t, u = Value.str x t from r); cases e; rfl
  | byt b => obtain ⟨t, e⟩ := (show ∃ t, u = Value.bytes b t from r); cases e; rfl
  | flt b => obtain ⟨t, e⟩ := (show ∃ t, u = Value.float b t from r); cases e; rfl
  | ref a => cases (show u = Value.ref a from r); rfl
  | ty n => cases (show u = Value.type n from r); rfl
section
variable {P : Program} {w : World} {H H' : Hp} {h h' : Heap} {a C dx : Addr} {fs fs' : List (Str × V)}
theorem ins_get (hok : HOk P w H h) (e : H a = some (.ins C dx fs)) : ∃ mA, ObjM h a dx C mA ∧ (∀ f, RelO (fs.lookup f) (mA f)) ∧ PySem.Within mA (fs.map (·.1)) ∧ fs.length ≤ 1000 ∧ H dx = some (.own a) := by
  obtain ⟨d, z, ne, ob, mA, n, r, q⟩ := (show ObjOk P w H h a (.ins C dx fs) from hok a _ e)
  exact ⟨mA, ⟨ob, n, ne⟩, r, q, z, d⟩
end
structure Cls (K : PySem.W.Frag) (C : Addr) : Prop where
  pg : PySem.W.plainGet K C Str.empty = true
  hd : PySem.W.hasDictIn K C = true
  po : PySem.W.plainOver K C = true
  sa : PySem.W.findIn K (.ref C) "__setattr__" = some (some (.builtin "object.__setattr__"))
theorem Cls.get {K : PySem.W.Frag} {C : Addr} (c : Cls K C) (f : Str) : PySem.W.plainGet K C f = true := c.pg
noncomputable def NoAttr (K : PySem.W.Frag) (C : Addr) (f : Str) : Prop := PySem.W.findIn K (.ref C) f = some none
theorem NoAttr.taker {K : PySem.W.Frag} {C : Addr} {f : Str} (n : NoAttr K C f) : PySem.W.takerIn K C f = some none := by
  unfold PySem.W.takerIn
  rw [show PySem.W.findIn K (.ref C) f = some none from n]
  rfl
structure Meth (K : PySem.W.Frag) (C : Addr) (m : Str) (f : Addr) : Prop where
  at_ : PySem.W.findIn K (.ref C) m = some (some (.ref f))
  fn : PySem.W.isFn K (.ref f) = true
  kp : PySem.W.keepIn K (.ref f) = true
section
variable {X : Cx} {pins : List (Addr × Obj)} {σ : St} {H : Hp} {s : Shared} {a C dx : Addr} {fs : List (Str × V)} {f : Str} {v : V} {A : Around} {E : Value → Shared → Prop}
theorem getattr_ok {b : Bool} {Q : Value → Shared → Prop} (I : Inv X pins σ H s) (e : H a = some (.ins C dx fs)) (c : Cls X.K C) (n : NoAttr X.K C f) (l : fs.lookup f = some v)
    (h : ∀ u s', Inv X pins σ H s' → RelV v u → Q u s') : wpAny (model X.prog X.w) A (getAttr (.ref a) f b) Q E s := by
  obtain ⟨mA, O, r, _, _, _⟩ := ins_get I.hok e
  obtain ⟨u, hu, ru⟩ := RelO.some_of (v := v) (o := mA f) (by rw [← l]; exact r f)
  exact get_map I.kIn O (c.get f) c.hd n hu (handed_of ru) (h u _ (I.tok _) ru)
theorem getmeth_ok {m : Str} {g : Addr} {pl : Sem Bool} {Q : Value × List Value → Shared → Prop} (I : Inv X pins σ H s) (e : H a = some (.ins C dx fs)) (c : Cls X.K C) (k : Meth X.K C m g) (l : fs.lookup m = none)
    (h : Q (.ref g, [.ref a]) s) : wpAny (model X.prog X.w) A (getMethod (.ref a) m pl) Q E s := by
  obtain ⟨mA, O, r, _, _, _⟩ := ins_get I.hok e
  have hn : mA m = none := RelO.none_of (by rw [← l]; exact r m)
  exact get_meth I.kIn O (c.get m) k.at_ k.fn hn h
theorem setattr_ok {y : V} {u : Value} {Q : Unit → Shared → Prop} (I : Inv X pins σ H s) (e : H a = some (.ins C dx fs)) (c : Cls X.K C) (n : NoAttr X.K C f) (hl : fs.length < 1000) (ry : RelV y u)
    (h : ∀ s', Inv X pins σ (upd H a (.ins C dx (putF f y fs))) s' → Q () s') : wpAny (model X.prog X.w) A (setAttr (.ref a) f u) Q E s := by
  obtain ⟨mA, O, r, wi, _, ho⟩ := ins_get I.hok e
  have hz : (fs.map (·.1)).length ≤ sizeLine := by rw [List.length_map, sizeLine_eq]; omega
  refine set_map I.kIn O c.sa c.po n.taker c.hd wi hz fun h' O' sb => h _ ?_
  have hd : ∃ o, h'.get? dx = some o := let ⟨o, _, _, e', _⟩ := O'.ns; ⟨o, e'⟩
  refine I.write (x := a) (e := dx) (by rw [e]; exact True.intro) (.inr ho) (fun b q hb z => (sb.2 b hb).trans z) hd ?_
  refine ⟨by rw [upd_ne O.ne]; exact ho, ?_, O.ne, O'.obj, _, O'.ns, fun g => ?_, fun g hg => ?_⟩
  · have := length_putF f y fs; omega
  · show RelO ((putF f y fs).lookup g) (if g = f then some u else mA g)
    rw [lookup_putF]
    by_cases q : g = f
    · rw [if_pos q, if_pos q]; exact ry
    · rw [if_neg q, if_neg q]; exact r g
  · by_cases q : g = f
    · rw [q]; exact (keys_putF f y fs).1
    · refine (keys_putF f y fs).2 g (wi g fun z => hg ?_)
      show (if g = f then some u else mA g) = none
      rw [if_neg q]; exact z
theorem Inv.made (I : Inv X pins σ H s) : Inv X pins σ (upd (upd H s.heap.objs.size (.own (s.heap.objs.size + 1))) (s.heap.objs.size + 1) (.ins C s.heap.objs.size []))
    { s with heap := (s.heap.push PySem.W.emptyDict).push (PySem.W.instObj C s.heap.objs.size) } := by
  have e1 : (s.heap.push PySem.W.emptyDict).get? s.heap.objs.size = some PySem.W.emptyDict := Heap.get?_push_size s.heap rfl
  have e2 : ((s.heap.push PySem.W.emptyDict).push (PySem.W.instObj C s.heap.objs.size)).get? (s.heap.objs.size + 1) = some (PySem.W.instObj C s.heap.objs.size) := by
    have := Heap.get?_push_size (s.heap.push PySem.W.emptyDict) (o := PySem.W.instObj C s.heap.objs.size) rfl
    rwa [Heap.size_push] at this
  have e3 : (s.heap.push PySem.W.emptyDict).Ns s.heap.objs.size (fun _ => none) := ⟨PySem.W.emptyDict, #[], _, e1, rfl, (fun e he => absurd he (by simp)), fun _ => rfl⟩
  have I1 := I.laid (a := s.heap.objs.size) (o := .own (s.heap.objs.size + 1)) (h' := s.heap.push PySem.W.emptyDict) (t' := s.toks) (fun b u q => Heap.get?_push_of_some _ q) (Nat.le_refl _) ⟨_, e1⟩
  refine I1.laid (a := s.heap.objs.size + 1) (o := .ins C s.heap.objs.size []) (t' := s.toks) (fun b u q => Heap.get?_push_of_some _ q) (Nat.le_of_eq (Heap.size_push _ _)) ?_
  have ne : s.heap.objs.size ≠ s.heap.objs.size + 1 := Nat.ne_of_lt (Nat.lt_succ_self _)
  refine ⟨by rw [upd_ne ne, upd_same], Nat.zero_le _, ne, e2, fun _ => none, (Heap.Ns1.of_empty e3).at fun o q => Heap.get?_push_of_some _ q, fun _ => True.intro, fun y hy => absurd rfl hy⟩
theorem attr_of {prog : Program} {w : World} {env : Env} {e : Expr} {f : Str} {pos : Pos} {s : Shared} {Q : Value → Shared → Prop} (hb : attributeBase e f env (eval e env) = eval e env)
    (h : wpAny (model prog w) A (eval e env) (fun o s₁ => wpAny (model prog w) A (getAttr o f true) Q E s₁) E s) : wpAny (model prog w) A (eval (.Attribute e f pos) env) Q E s :=
  Attribute_any_ h (by rw [arm_eval_Attribute, hb])
end
inductive IFld (K : PySem.W.Frag) (f : Str) (x : V) (H : Hp) (Q : VK) : Prop where
  | mk (a C dx : Addr) (fs : List (Str × V)) (v : V) (ex : x = .ref a) (ea : H a = some (.ins C dx fs)) (c : Cls K C) (n : NoAttr K C f) (l : fs.lookup f = some v) (q : Q v H) : IFld K f x H Q
noncomputable def tFld (K : PySem.W.Frag) (ta : TE) (f : Str) : TE := fun σ H Q => ta σ H fun x H1 => IFld K f x H1 Q
noncomputable def sFld (K : PySem.W.Frag) (ta tv : TE) (f : Str) : TS := fun D σ H => tv σ H fun y H1 => ta σ H1 fun x H2 => ∃ a C dx fs, x = .ref a ∧ H2 a = some (.ins C dx fs) ∧ Cls K C ∧ NoAttr K C f ∧ fs.length < 1000 ∧
  D.nx σ (upd H2 a (.ins C dx (putF f y fs)))
section
variable {X : Cx} {o e value : Expr} {f : Str} {pos pos' tpos : Pos} {ta tv : TE}
theorem pe_fld (he : PE X e ta) (hb : attributeBase e f X.env (eval e X.env) = eval e X.env) : PE X (.Attribute e f pos) (tFld X.K ta f) := by
  intro pins s σ H Q I h
  refine attr_of hb (thn (he pins s σ H _ I h) fun u s1 zpat => ?_)
  obtain ⟨x, H1, I1, rx, a, C, dx, fs, v, ex, ea, c, n, l, q⟩ := zpat
  subst ex
  obtain rfl : u = Value.ref a := rx
  exact getattr_ok I1 ea c n l fun u' s2 I2 ru => ⟨v, H1, I2, ru, q⟩
theorem ps_fld (ha : PE X o ta) (hv : PE X value tv) (hs : swapsWith value (some (.Attribute o f pos')) pos.line X.env = pure false) : PS X (.Assign [.Attribute o f pos'] value pos) (sFld X.K ta tv f) := by
  intro pins s σ H D I h
  refine plainObj_wpAny_Assign_Attribute (thn (hv pins s σ H _ I h) fun u s1 ⟨y, H1, I1, ry, q⟩ => thn (ha pins s1 σ H1 _ I1 q) fun ov s2 zpat => ?_) hs
  obtain ⟨x, H2, I2, rx, a, C, dx, fs, ex, ea, c, n, l, q2⟩ := zpat
  subst ex
  obtain rfl : ov = Value.ref a := rx
  exact setattr_ok I2 ea c n l ry fun s3 I3 => ⟨σ, _, I3, q2⟩
end
section
variable {X : Cx} {pins : List (Addr × Obj)} {σ : St} {H : Hp} {s : Shared} {A : Around} {E : Value → Shared → Prop} {Q : Value → Shared → Prop} {c : Value} {b : Bool}
inductive TyOf (K : PySem.W.Frag) (H : Hp) : V → Value → Prop where
  | non : TyOf K H .non (.type "NoneType")
  | bl (x : Bool) : TyOf K H (.bl x) (.type "bool")
  | int (i : Int) : TyOf K H (.int i) (.type "int")
  | str (x : Str) : TyOf K H (.str x) (.type "str")
  | flt (x : UInt64) : TyOf K H (.flt x) (.type "float")
  | lst {a : Addr} {xs : List V} (e : H a = some (.lst xs)) : TyOf K H (.ref a) (.type "list")
  | frz {a : Addr} {o : Obj} {xs : List V} (e : H a = some (.frz o (.lst xs))) : TyOf K H (.ref a) (.type "list")
  | tup {a : Addr} {xs : List V} (e : H a = some (.tup xs)) : TyOf K H (.ref a) (.type "tuple")
  | dK {a : Addr} {kvs : List (Key × V)} (e : H a = some (.dK kvs)) : TyOf K H (.ref a) (.type "dict")
  | dT {a : Addr} {kvs : List (List Key × V)} (e : H a = some (.dT kvs)) : TyOf K H (.ref a) (.type "dict")
  | ins {a C dx : Addr} {fs : List (Str × V)} (e : H a = some (.ins C dx fs)) (cl : Cls K C) (ha : PySem.W.findIn K (.ref C) "__class__" = some (some (.builtin "object.__class__")))
      (hn : PySem.W.specialIn K (.builtin "object.__class__") "__get__" = some (some (.builtin "getset_descriptor.__get__"))) (htk : PySem.W.takesIn K (.builtin "object.__class__") = some true)
      (hm : PySem.W.mroIn K C (.type "object") = some true) : TyOf K H (.ref a) (.ref C)
theorem isinst_ok {x : V} {u t : Value} (I : Inv X pins σ H s) (rx : RelV x u) (ty : TyOf X.K H x t) (e : PySem.W.kitOne X.K t c = some b) (h : ∀ tk, Q (.bool b) { s with toks := tk }) :
    wpAny (model X.prog X.w) A (call (.builtin "isinstance") [u, c]) Q E s := by
  cases ty with
  | non => cases (show u = Value.none from rx); exact PySem.W.kia_one PySem.W.kitx_none I.kIn True.intro e (fun z => nomatch z) h
  | bl y => cases (show u = Value.bool y from rx); exact PySem.W.kia_one PySem.W.kitx_bool I.kIn True.intro e (fun z => nomatch z) h
  | int i => obtain ⟨t, q⟩ := (show ∃ t, u = Value.int i t from rx); cases q; exact PySem.W.kia_one PySem.W.kitx_int I.kIn True.intro e (fun z => nomatch z) h
  | str y => obtain ⟨t, q⟩ := (show ∃ t, u = Value.str y t from rx); cases q; exact PySem.W.kia_one PySem.W.kitx_str I.kIn True.intro e (fun z => nomatch z) h
  | flt y => obtain ⟨t, q⟩ := (show ∃ t, u = Value.float y t from rx); cases q; exact PySem.W.kia_one PySem.W.kitx_float I.kIn True.intro e (fun z => nomatch z) h
  | @lst a xs ea =>
    cases (show u = Value.ref a from rx)
    obtain ⟨_, _, n, _, h1⟩ := (show ObjOk X.prog X.w H s.heap a (.lst xs) from I.hok a _ ea)
    exact PySem.W.kia_one PySem.W.kitx_list I.kIn ⟨_, h1, rfl⟩ e (fun z => nomatch z) h
  | @frz a ob xs ea =>
    cases (show u = Value.ref a from rx)
    obtain ⟨_, _, _, n, _, h1⟩ := (show ObjOk X.prog X.w H s.heap a (.frz ob (.lst xs)) from I.hok a _ ea)
    exact PySem.W.kia_one PySem.W.kitx_list I.kIn ⟨_, h1, rfl⟩ e (fun z => nomatch z) h
  | @tup a xs ea =>
    cases (show u = Value.ref a from rx)
    obtain ⟨_, _, _, p⟩ := (show ObjOk X.prog X.w H s.heap a (.tup xs) from I.hok a _ ea)
    obtain ⟨o, h1, h2, _⟩ := p
    exact PySem.W.kia_one PySem.W.kitx_tuple I.kIn ⟨o, h1, h2⟩ e (fun z => nomatch z) h
  | @dK a kvs ea =>
    cases (show u = Value.ref a from rx)
    obtain ⟨_, _, vs, _, p⟩ := (show ObjOk X.prog X.w H s.heap a (.dK kvs) from I.hok a _ ea)
    obtain ⟨o, es, ep, h1, h2, _⟩ := p
    exact PySem.W.kia_one PySem.W.kitx_dict I.kIn ⟨o, h1, h2.1⟩ e (fun z => nomatch z) h
  | @dT a kvs ea =>
    cases (show u = Value.ref a from rx)
    obtain ⟨_, _, xs, _, o, es, ep, h1, h2, _⟩ := (show ObjOk X.prog X.w H s.heap a (.dT kvs) from I.hok a _ ea)
    exact PySem.W.kia_one PySem.W.kitx_dict I.kIn ⟨o, h1, h2.1⟩ e (fun z => nomatch z) h
  | @ins a C dx fs ea cl ha hn htk hm =>
    cases (show u = Value.ref a from rx)
    obtain ⟨mA, O, _⟩ := ins_get I.hok ea
    obtain ⟨od, J, _⟩ := O.look
    exact PySem.W.kia_one (PySem.W.kitx_own (cl.get _) cl.hd ha hn htk hm) I.kIn J e (fun z => nomatch z) h
end
end L2
namespace L2
open PySem PySem.Spec PyProof.Rows
structure Room (k : Nat) (A : Around) : Prop where
  hd : A.handled = none
  dp : A.depth + 3 * k + 5 < recursionLimit
  un : A.units + 16 * k + 200 < cLine
theorem Room.mono {j k : Nat} {A : Around} (r : Room k A) (h : j ≤ k) : Room j A := ⟨r.hd, by have := r.dp; omega, by have := r.un; omega⟩
theorem Room.deeper {k : Nat} {A : Around} (r : Room (k + 1) A) (env : Env) : Room k (A.deeper env) :=
  ⟨r.hd, by have := r.dp; show A.depth + 1 + 3 * k + 5 < _; omega, by have := r.un; show A.units + 3 + 16 * k + 200 < _; omega⟩
theorem Room.in1 {k : Nat} {A : Around} (r : Room (k + 1) A) : Room k A.in1 :=
  ⟨r.hd, by have := r.dp; show A.depth + 3 * k + 5 < _; omega, by have := r.un; show A.units + 1 + 16 * k + 200 < _; omega⟩
theorem make_depth {A : Around} {C : Addr} {us : List Value} {kw : List (Str × Value)} : (A.under (.builtin "type.__call__" ⟨.ref C :: us, kw⟩)).depth = A.depth + 1 := by
  first | rfl | simp [Around.under, Code.weight, Code.isCreation, Code.isGuard, Code.isCaller, Code.frames, Code.isFrame, guardIds]
theorem make_units {A : Around} {C : Addr} {us : List Value} {kw : List (Str × Value)} : (A.under (.builtin "type.__call__" ⟨.ref C :: us, kw⟩)).units = A.units + 1 := by
  first | rfl | simp [Around.under, Code.cUnits, Code.frames, Code.isFrame]
theorem Room.make {k : Nat} {A : Around} (r : Room (k + 1) A) (C : Addr) (us : List Value) (kw : List (Str × Value)) : Room k (A.under (.builtin "type.__call__" ⟨.ref C :: us, kw⟩)) :=
  ⟨r.hd, by have := r.dp; rw [make_depth]; omega, by have := r.un; rw [make_units]; omega⟩
theorem Room.depth {k : Nat} {A : Around} (r : Room k A) : A.depth < recursionLimit := by have := r.dp; omega
theorem Room.units {k : Nat} {A : Around} (r : Room k A) : A.units + 64 < cLine := by have := r.un; omega
theorem Room.units0 {k : Nat} {A : Around} (r : Room k A) : A.units < cLine := by have := r.un; omega
noncomputable def tNil : TA := fun _ H Q => Q [] H
noncomputable def tCons (ta : TE) (tr : TA) : TA := fun σ H Q => ta σ H fun x H1 => tr σ H1 fun xs H2 => Q (x :: xs) H2
section
variable {X : Cx} {e : Expr} {es : List Expr} {te : TE} {t : TA} {pos : Pos}
theorem pa_nil : PA X [] tNil := fun _ _ _ _ H Q I h => Calls.spliced_nil ⟨[], H, I, .nil, h⟩
theorem pa_cons (ha : PE X e te) (hr : PA X es t) (hs : starEach (e :: es) X.env = (false, eval e X.env) :: starEach es X.env := by rfl) : PA X (e :: es) (tCons te t) := by
  intro pos pins s σ H Q I h
  rw [hs]
  show wpAny _ _ (spliced ((false, eval e X.env) :: backTo pos (starEach es X.env))) _ _ s
  refine Calls.spliced_cons (thn (ha pins s σ H _ I h) fun u s1 zpat => ?_)
  obtain ⟨x, H1, I1, r1, q1⟩ := zpat
  exact thn (hr pos pins s1 σ H1 _ I1 q1) fun us s2 ⟨xs, H2, I2, r2, q2⟩ => ⟨x :: xs, H2, I2, .cons r1 r2, q2⟩
noncomputable def tTup (t : TA) : TE := fun σ H Q => t σ H fun xs H1 => xs.length ≤ sizeLine ∧ ∀ p, H1 p = none → Q (.ref p) (upd H1 p (.tup xs))
noncomputable def tLst (t : TA) : TE := fun σ H Q => t σ H fun xs H1 => xs.length ≤ sizeLine ∧ ∀ p, H1 p = none → Q (.ref p) (upd H1 p (.lst xs))
theorem pe_tup {x1} (h : PA X es t) : PE X (.Tuple es x1 pos) (tTup t) := by
  intro pins s σ H Q I hq
  refine wpAny_Tuple_spliced (thn (h pos pins s σ H _ I hq) fun us s1 ⟨xs, H1, I1, r, z, q⟩ => ⟨by rw [← r.length]; exact z, ?_⟩)
  have hf : H1 s1.heap.objs.size = none := I1.hok.fresh (Nat.le_refl _)
  refine ⟨.ref s1.heap.objs.size, upd H1 s1.heap.objs.size (.tup xs), I1.laid (t' := s1.toks) (fun b u e => Heap.get?_push_of_some _ e) (Nat.le_refl _) ?_, rfl, q _ hf⟩
  exact ⟨z, us, r, ⟨_, Heap.get?_push_size _ rfl, rfl, _, rfl⟩⟩
theorem pe_lst (h : PA X es t) : PE X (.List es pos) (tLst t) := by
  intro pins s σ H Q I hq
  refine wpAny_List_spliced (thn (h pos pins s σ H _ I hq) fun us s1 ⟨xs, H1, I1, r, z, q⟩ => ⟨by rw [← r.length]; exact z, ?_⟩)
  have hf : H1 s1.heap.objs.size = none := I1.hok.fresh (Nat.le_refl _)
  refine ⟨.ref s1.heap.objs.size, upd H1 s1.heap.objs.size (.lst xs), I1.laid (t' := s1.toks) (fun b u e => Heap.get?_push_of_some _ e) (Nat.le_refl _) ?_, rfl, q _ hf⟩
  exact ⟨z, us, 0, r, Heap.get?_push_size _ rfl⟩
end
noncomputable abbrev Sp := List V → Hp → VK → XK → Prop
noncomputable abbrev CXT := List Env → Hp → Shared → XK → Value → Shared → Prop
structure Env0 (P : Program) (w : World) (K : PySem.W.Frag) (mg : Str → Option Value) (base : Heap) (A : Around) (outer : List Env) (s : Shared) (H : Hp) : Prop where
  frames : A.frames = some outer
  mod : Mod K mg base
  bs : ∀ b o, base.get? b = some o → s.heap.get? b = some o ∧ H b = none
  bsz : base.objs.size ≤ s.heap.objs.size
  funs : s.heap.FunFrames base outer
  frf : ∀ b ∈ frs outer, H b = none
  hok : HOk P w H s.heap
  bare : AllBare s.gens
noncomputable def CE (outer : List Env) (P : Program) (w : World) (H : Hp) (s : Shared) (Q : VK) (u : Value) (s' : Shared) : Prop :=
  ∃ v H', s'.os = s.os ∧ AllBare s'.gens ∧ Un (frs outer) [] H H' s.heap s'.heap ∧ HOk P w H' s'.heap ∧ RelV v u ∧ Q v H'
noncomputable def CR (CX : CXT) (outer : List Env) (P : Program) (w : World) (H : Hp) (s : Shared) (Q : VK) (E : XK) (r : Result) (s' : Shared) : Prop :=
  match r with
  | .ok (.ret u) => CE outer P w H s Q u s'
  | .ok _ => False
  | .error e => CX outer H s E e s'
structure FnOk (P : Program) (w : World) (K : PySem.W.Frag) (mg : Str → Option Value) (base : Heap) (CX : CXT) (k : Nat) (f : Addr) (fd : FuncData) (ps : List Str) (sp : Sp) : Prop where
  len : ∀ vs H Q E, sp vs H Q E → vs.length = ps.length
  run : ∀ (A : Around) (outer : List Env) (s : Shared) (H : Hp) (args : Args) (us : List Value) (vs : List V) (Q : VK) (E : XK), Room k A → Env0 P w K mg base A outer s H → BindsTo s fd args (ps.zip us) → Vals vs us → sp vs H Q E →
    codeAny (model P w) A (.call (.ref f) args) (CR CX outer P w H s Q E) s
theorem FnOk.mono {P : Program} {w : World} {K : PySem.W.Frag} {mg : Str → Option Value} {base : Heap} {CX : CXT} {j k : Nat} {f : Addr} {fd : FuncData} {ps : List Str} {sp : Sp} (F : FnOk P w K mg base CX j f fd ps sp) (h : j ≤ k) :
    FnOk P w K mg base CX k f fd ps sp := ⟨F.len, fun A outer s H args us vs Q E hr => F.run A outer s H args us vs Q E (hr.mono h)⟩
theorem Env0.make {P : Program} {w : World} {K : PySem.W.Frag} {mg : Str → Option Value} {base : Heap} {A : Around} {outer : List Env} {s : Shared} {H : Hp} (e : Env0 P w K mg base A outer s H) (C : Addr) (us : List Value) (kw : List (Str × Value)) :
    Env0 P w K mg base (A.under (.builtin "type.__call__" ⟨.ref C :: us, kw⟩)) outer s H := ⟨by first | exact e.frames | (simpa [Around.under, Code.envs, Code.isFrame, pushEnvs] using e.frames), e.mod, e.bs, e.bsz, e.funs, e.frf, e.hok, e.bare⟩
theorem Env0.in1 {P : Program} {w : World} {K : PySem.W.Frag} {mg : Str → Option Value} {base : Heap} {A : Around} {outer : List Env} {s : Shared} {H : Hp} (e : Env0 P w K mg base A outer s H) :
    Env0 P w K mg base A.in1 outer s H := ⟨e.frames, e.mod, e.bs, e.bsz, e.funs, e.frf, e.hok, e.bare⟩
section
variable {X : Cx} {pins : List (Addr × Obj)} {σ : St} {H : Hp} {s s' : Shared}
theorem Inv.env0 (I : Inv X pins σ H s) : Env0 X.prog X.w X.K X.mg X.base X.A X.stack s H :=
  ⟨I.ok.frames, I.ok.mod, I.bs, Nat.le_trans I.ok.bsz I.sz, I.stack, I.stkFree, I.hok, I.bare⟩
theorem Inv.after {Q : VK} {u : Value} (I : Inv X pins σ H s) (h : CE X.stack X.prog X.w H s Q u s') : EP X pins σ Q u s' := by
  obtain ⟨v, H', os, bare, un, hok, r, q⟩ := h
  obtain ⟨hh, g, d, t, os'⟩ := s'
  obtain rfl : os' = s.os := os
  exact ⟨v, H', I.call (h' := hh) (g' := g) (d' := d) (t' := t) (ch := []) un hok bare (fun b z => absurd z (by simp)), r, q⟩
end
noncomputable def tCall (sp : Sp) (dvs : List V) (E : XK) (t : TA) : TE := fun σ H Q => t σ H fun vs H1 => sp (vs ++ dvs) H1 Q E
inductive IMeth (C : Addr) (m : Str) (x : V) (H : Hp) (R : Prop) : Prop where
  | mk (a dx : Addr) (fs : List (Str × V)) (ex : x = .ref a) (ea : H a = some (.ins C dx fs)) (l : fs.lookup m = none) (q : R) : IMeth C m x H R
noncomputable def tMeth (C : Addr) (m : Str) (sp : Sp) (dvs : List V) (E : XK) (ta : TE) (t : TA) : TE := fun σ H Q => ta σ H fun x H1 => IMeth C m x H1 (
  t σ H1 fun vs H2 => sp (x :: (vs ++ dvs)) H2 Q E)
noncomputable def tMake (C : Addr) (sp : Sp) (dvs : List V) (E : XK) (t : TA) : TE := fun σ H Q => t σ H fun vs H1 => ∀ x dx, H1 x = none → H1 dx = none → dx ≠ x →
  sp (.ref x :: (vs ++ dvs)) (upd (upd H1 dx (.own x)) x (.ins C dx [])) (fun v H2 => v = .non ∧ Q (.ref x) H2) E
noncomputable def Binds (K : PySem.W.Frag) (fd : FuncData) (ps : List Str) (ds : List Value) : Prop :=
  ∀ (s : Shared) (us : List Value), K.In s.heap → (us ++ ds).length = ps.length → BindsTo s fd ⟨us, []⟩ (ps.zip (us ++ ds))
theorem Binds.all {K : PySem.W.Frag} {fd : FuncData} {ps : List Str} (h : ∀ us : List Value, us.length = ps.length → bindArgs fd ⟨us, []⟩ = pure (ps.zip us)) : Binds K fd ps [] := fun s us _ hl => by
  rw [List.append_nil] at hl ⊢
  exact .of_eq (h us hl)
noncomputable def Passes (CX : CXT) (X : Cx) (E : XK) : Prop := ∀ (pins : List (Addr × Obj)) (σ : St) (H : Hp) (s : Shared) (e : Value) (s' : Shared), Inv X pins σ H s → CX X.stack H s E e s' → X.xe e s'
section
variable {X : Cx} {CX : CXT} {k : Nat} {f C : Addr} {fd : FuncData} {ps : List Str} {sp : Sp} {dvs : List V} {ds : List Value} {E : XK} {x m : Str} {p pos apos : Pos} {e o : Expr} {es : List Expr} {ta : TE} {t : TA}
theorem run_fn {pins : List (Addr × Obj)} {σ : St} {H : Hp} {s : Shared} {Q : VK} {us : List Value} {vs : List V} (F : FnOk X.prog X.w X.K X.mg X.base CX k f fd ps sp) (hr : Room k X.A) (hb : Binds X.K fd ps ds) (hd : Vals dvs ds) (hx : Passes CX X E)
    (I : Inv X pins σ H s) (r : Vals vs us) (h : sp (vs ++ dvs) H Q E) : wpAny (model X.prog X.w) X.A (call (.ref f) us) (EP X pins σ Q) X.xe s := by
  have r2 : Vals (vs ++ dvs) (us ++ ds) := r.append hd
  have hl : (us ++ ds).length = ps.length := by rw [← r2.length]; exact F.len _ _ _ _ h
  refine wpAny_call (codeAny_mono (F.run X.A X.stack s H ⟨us, []⟩ (us ++ ds) (vs ++ dvs) Q E hr I.env0 (hb s us I.kIn hl) r2 h) fun r s' hq => ?_)
  cases r with
  | error e => exact hx pins σ H s e s' I hq
  | ok fl =>
    cases fl with
    | ret u => exact I.after hq
    | next => exact False.elim hq
    | brk => exact False.elim hq
    | cont => exact False.elim hq
theorem pe_call (F : FnOk X.prog X.w X.K X.mg X.base CX k f fd ps sp) (hr : Room k X.A) (hg : Gl X x) (hm : X.mg x = some (.ref f)) (hk : PySem.W.keepIn X.K (.ref f) = true) (hb : Binds X.K fd ps ds) (hd : Vals dvs ds) (hx : Passes CX X E)
    (ha : PA X (e :: es) t) (hdb : (x == ("__debug__" : Str)) = false := by decide) (he : starEach (e :: es) X.env = (false, eval e X.env) :: starEach es X.env := by rfl) (hpl : (backTo pos (starEach es X.env)).any (·.1) = false := by rfl) :
    PE X (.Call (.Name x p) (e :: es) [] pos) (tCall sp dvs E t) := by
  intro pins s σ H Q I h
  refine wpAny_Call_Name_kw (ld_glob I hg hm ?_ hdb)
  refine PySem.W.callWith_K (h₀ := X.base) I.ok.mod.kin hk (thn (ha pos pins s σ H _ I h) fun us s1 ⟨vs, H1, I1, r, q⟩ => ⟨I1.kIn, ?_⟩) he hpl
  exact run_fn F hr hb hd hx I1 r q
theorem pe_meth0 {pl : Sem Bool} (he : PE X o ta) (c : Cls X.K C) (hm : Meth X.K C m f) (F : FnOk X.prog X.w X.K X.mg X.base CX k f fd ps sp) (hr : Room k X.A) (hb : Binds X.K fd ps ds) (hd : Vals dvs ds) (hx : Passes CX X E)
    (ht : eval (.Call (.Attribute o m apos) [] [] pos) X.env = (do
      let ov ← eval o X.env
      standAt apos.atName
      let (f, first) ← holding [ov] (getMethod ov m pl)
      callWith pos f first (backTo pos (starEach [] X.env)) (backToKw pos (keywordEach [] X.env))) := by rfl) :
    PE X (.Call (.Attribute o m apos) [] [] pos) (tMeth C m sp dvs E ta tNil) := by
  intro pins s σ H Q I h
  refine PySem.W.methodCall_KW (pl := pl) (thn (he pins s σ H _ I h) fun u s1 zpat => ?_) ht
  obtain ⟨x, H1, I1, rx, a, dx, fs, ex, ea, l, q⟩ := zpat
  subst ex
  obtain rfl : u = Value.ref a := rx
  refine getmeth_ok I1 ea c hm l ?_
  exact PySem.W.callWith_K0 (first := [.ref a]) I1.kIn hm.kp (run_fn (us := [.ref a]) (vs := [.ref a]) F hr hb hd hx I1 (.cons rfl .nil) q)
structure Mk (K : PySem.W.Frag) (C f : Addr) : Prop where
  makes : PySem.W.makesIn K C = true
  init : PySem.W.findIn K (.ref C) "__init__" = some (some (.ref f))
  fn : PySem.W.isFn K (.ref f) = true
  kp : PySem.W.keepIn K (.ref C) = true
theorem run_make {pins : List (Addr × Obj)} {σ : St} {H : Hp} {s : Shared} {Q : VK} {us : List Value} {vs : List V} (M : Mk X.K C f) (F : FnOk X.prog X.w X.K X.mg X.base CX k f fd ps sp) (hr : Room (k + 1) X.A) (hb : Binds X.K fd ps ds) (hd : Vals dvs ds)
    (hx : Passes CX X E) (I : Inv X pins σ H s) (r : Vals vs us)
    (h : ∀ x dx, H x = none → H dx = none → dx ≠ x → sp (.ref x :: (vs ++ dvs)) (upd (upd H dx (.own x)) x (.ins C dx [])) (fun v H2 => v = .non ∧ Q (.ref x) H2) E) :
    wpAny (model X.prog X.w) X.A (call (.ref C) us) (EP X pins σ Q) X.xe s := by
  have hq := h (s.heap.objs.size + 1) s.heap.objs.size (I.hok.fresh (Nat.le_succ _)) (I.hok.fresh (Nat.le_refl _)) (Nat.ne_of_lt (Nat.lt_succ_self _))
  have I2 := Inv.made (C := C) I
  have r2 : Vals (V.ref (s.heap.objs.size + 1) :: (vs ++ dvs)) (Value.ref (s.heap.objs.size + 1) :: (us ++ ds)) := .cons rfl (r.append hd)
  have hl : (Value.ref (s.heap.objs.size + 1) :: us ++ ds).length = ps.length := by
    have e := r2.length
    rw [F.len _ _ _ _ hq] at e
    exact e.symm
  refine wpAny_call (make_map (f := f) I.kIn M.makes M.init (beq_iff_eq.mp M.fn) (codeAny_mono (F.run _ X.stack _ _ ⟨Value.ref (s.heap.objs.size + 1) :: us, []⟩ (Value.ref (s.heap.objs.size + 1) :: (us ++ ds)) _ _ E (hr.make C us [])
    (I2.env0.make C us []) (hb _ (Value.ref (s.heap.objs.size + 1) :: us) I2.kIn hl) r2 hq) fun r s' hq' => ?_))
  cases r with
  | error e => exact hx pins σ _ _ e s' I2 hq'
  | ok fl =>
    cases fl with
    | ret u =>
      obtain ⟨v, H', I3, rv, ev, q3⟩ := I2.after hq'
      subst ev
      exact ⟨rv, ⟨V.ref (s.heap.objs.size + 1), H', I3, rfl, q3⟩⟩
    | next => exact False.elim hq'
    | brk => exact False.elim hq'
    | cont => exact False.elim hq'
theorem pe_make (M : Mk X.K C f) (F : FnOk X.prog X.w X.K X.mg X.base CX k f fd ps sp) (hr : Room (k + 1) X.A) (hg : Gl X x) (hm : X.mg x = some (.ref C)) (hb : Binds X.K fd ps ds) (hd : Vals dvs ds) (hx : Passes CX X E)
    (ha : PA X (e :: es) t) (hdb : (x == ("__debug__" : Str)) = false := by decide) (he : starEach (e :: es) X.env = (false, eval e X.env) :: starEach es X.env := by rfl) (hpl : (backTo pos (starEach es X.env)).any (·.1) = false := by rfl) :
    PE X (.Call (.Name x p) (e :: es) [] pos) (tMake C sp dvs E t) := by
  intro pins s σ H Q I h
  refine wpAny_Call_Name_kw (ld_glob I hg hm ?_ hdb)
  refine PySem.W.callWith_K (h₀ := X.base) I.ok.mod.kin M.kp (thn (ha pos pins s σ H _ I h) fun us s1 ⟨vs, H1, I1, r, q⟩ => ⟨I1.kIn, ?_⟩) he hpl
  exact run_make M F hr hb hd hx I1 r q
end
section
variable {X : Cx} {CX : CXT} {k : Nat} {f C : Addr} {fd : FuncData} {ps ks : List Str} {sp : Sp} {E : XK} {x m : Str} {p pos apos kpos : Pos} {e o : Expr} {es : List Expr} {kws : List Keyword} {te ta : TE} {t tk : TA} {nm : Option Str}
variable {g : List Value → List Value → List Value} {gV : List V → List V → List V}
end
structure FnScope (N P : List Str) (sc : Scope) : Prop where
  kind : sc.kind = .function
  co : sc.isCoroutine = false
  gen : sc.isGenerator = false
  nd : N.Nodup
  pre : N.take P.length = P
  par : ∀ x ∈ P, sc.names.lookup x = some .local ∨ sc.names.lookup x = some .cell
  nofree : ∀ y ∈ sc.names, y.2 ≠ .free
theorem bindL_out {kindOf : Str → Option NameKind} {x : Str} : ∀ {binds : List (Str × Value)} {m : Str → Option Value}, (∀ v, (x, v) ∉ binds) → bindL kindOf binds m x = m x
  | [], _, _ => rfl
  | (n, v) :: r, m, h => by
    unfold bindL
    rw [bindL_out fun w hw => h w (List.mem_cons_of_mem _ hw)]
    split
    · have : x ≠ n := by rintro rfl; exact h v List.mem_cons_self
      simp [this]
    · rfl
theorem bindC_out {kindOf : Str → Option NameKind} {x : Str} : ∀ {binds : List (Str × Value)} {m : Str → Option Value}, (∀ v, (x, v) ∉ binds) → bindC kindOf binds m x = m x
  | [], _, _ => rfl
  | (n, v) :: r, m, h => by
    unfold bindC
    rw [bindC_out fun w hw => h w (List.mem_cons_of_mem _ hw)]
    split
    · rfl
    · have : x ≠ n := by rintro rfl; exact h v List.mem_cons_self
      simp [this]
theorem bindL_get {kindOf : Str → Option NameKind} {x : Str} {v : Value} : ∀ {P : List Str} {vs : List Value} {i : Nat} {m : Str → Option Value}, P.Nodup → P[i]? = some x → vs[i]? = some v → kindOf x = some .local →
    bindL kindOf (P.zip vs) m x = some v
  | [], _, _, _, _, h, _, _ => by simp at h
  | _ :: _, [], _, _, _, _, h, _ => by simp at h
  | p :: P, w :: vs, 0, m, nd, h1, h2, hk => by
    simp at h1 h2; subst h1; subst h2
    show bindL kindOf ((p, w) :: P.zip vs) m p = _
    unfold bindL
    rw [bindL_out fun v hv => (List.nodup_cons.mp nd).1 (List.of_mem_zip hv).1, if_pos hk]
    simp
  | p :: P, w :: vs, i + 1, m, nd, h1, h2, hk => by
    show bindL kindOf ((p, w) :: P.zip vs) m x = _
    unfold bindL
    exact bindL_get (i := i) (List.nodup_cons.mp nd).2 (by simpa using h1) (by simpa using h2) hk
theorem bindC_get {kindOf : Str → Option NameKind} {x : Str} {v : Value} : ∀ {P : List Str} {vs : List Value} {i : Nat} {m : Str → Option Value}, P.Nodup → P[i]? = some x → vs[i]? = some v → kindOf x ≠ some .local →
    bindC kindOf (P.zip vs) m x = some v
  | [], _, _, _, _, h, _, _ => by simp at h
  | _ :: _, [], _, _, _, _, h, _ => by simp at h
  | p :: P, w :: vs, 0, m, nd, h1, h2, hk => by
    simp at h1 h2; subst h1; subst h2
    show bindC kindOf ((p, w) :: P.zip vs) m p = _
    unfold bindC
    rw [bindC_out fun v hv => (List.nodup_cons.mp nd).1 (List.of_mem_zip hv).1, if_neg hk]
    simp
  | p :: P, w :: vs, i + 1, m, nd, h1, h2, hk => by
    show bindC kindOf ((p, w) :: P.zip vs) m x = _
    unfold bindC
    exact bindC_get (i := i) (List.nodup_cons.mp nd).2 (by simpa using h1) (by simpa using h2) hk
noncomputable def start (N : List Str) (vs : List V) : St := vs.map some ++ List.replicate (N.length - vs.length) none
noncomputable def cxOf (CX : CXT) (P : Program) (w : World) (K : PySem.W.Frag) (mg : Str → Option Value) (base : Heap) (N : List Str) (qual : Str) (scope : Scope) (f : Addr) (cd : Value) (A : Around) (outer : List Env) (s : Shared) (H : Hp) (E : XK) : Cx where
  prog := P
  w := w
  K := K
  mg := mg
  base := base
  A := A.deeper (envOfC qual scope s.heap.objs.size f cd)
  N := N
  s₀ := s
  H₀ := H
  env := envOfC qual scope s.heap.objs.size f cd
  outer := outer
  stack := envOfC qual scope s.heap.objs.size f cd :: outer
  ex := []
  calm := true
  fn := fun _ => true
  pn := []
  xe := fun e s' => wpAny (model P w) (A.deeper (envOfC qual scope s.heap.objs.size f cd)) (leaving (envOfC qual scope s.heap.objs.size f cd) e) (fun _ s'' => CX outer H s E e s'') (fun e' s'' => CX outer H s E e' s'') s'
theorem cell_has {sc : Scope} {n : Nat} {x : Str} (h : sc.names.lookup x = some .cell) : ∃ c, (cellsFrom n sc.names []).lookup x = some c := by
  have q := PySem.W.cellsFrom_some sc.names n [] (.inl h)
  exact Option.isSome_iff_exists.mp q
theorem inv_start {CX : CXT} {P : Program} {w : World} {K : PySem.W.Frag} {mg : Str → Option Value} {base : Heap} {N ps : List Str} {qual : Str} {scope : Scope} {f : Addr} {cd : Value} {A : Around} {outer : List Env} {s s1 : Shared} {H : Hp} {E : XK} {us : List Value} {vs : List V}
    (S : FnScope N ps scope) (hd : A.handled = none) (e0 : Env0 P w K mg base A outer s H) (hl : vs.length = ps.length) (r : Vals vs us)
    (x : InCallC s s.heap.objs.size (bindL (envOfC qual scope s.heap.objs.size f cd).kindOf (ps.zip us) fun _ => none) (cellsFrom (s.heap.objs.size + 1) scope.names []) (bindC (envOfC qual scope s.heap.objs.size f cd).kindOf (ps.zip us) fun _ => none) s1) :
    Inv (cxOf CX P w K mg base N qual scope f cd A outer s H E) [] (start N vs) H s1 := by
  have hpl : ps.length ≤ N.length := by have := congrArg List.length S.pre; rw [List.length_take] at this; omega
  obtain ⟨h1, tk, rfl, hk⟩ := x.done
  have noA : ∀ b : Addr, b ∉ (cxOf CX P w K mg base N qual scope f cd A outer s H E).ex := fun b z => absurd (show b ∈ ([] : List Addr) from z) (by simp)
  refine ⟨⟨e0.mod, S.kind, rfl, rfl, Nat.le_refl _, fun y z c h1 h2 => ?_, fun y hy => ?_, fun y c _ h => ?_, fun _ => hd, Around.frames_deeper e0.frames, .inr ⟨rfl, rfl⟩, fun b z => absurd z (noA b), e0.bs, e0.bsz, fun b _ _ => noA b, fun b z => absurd z (noA b), e0.funs, e0.frf⟩,
    rfl, e0.bare, Un.kept hk, ⟨_, x.toInCall.ns, fun i y v h1 h2 h3 => ?_⟩, fun y c h => ⟨_, x.cell y c h⟩, e0.hok.fresh (Nat.le_refl _), fun y c h => ?_, fun p hp => absurd (show p ∈ ([] : List (Addr × Obj)) from hp) (by simp), e0.hok.kept hk, ?_⟩
  · exact name_of_addr x.apart (PySem.mem_of_lookup h1) (PySem.mem_of_lookup h2)
  · have hy : scope.names.lookup y = some .cell ∨ scope.names.lookup y = some .free := hy
    rcases hy with hy | hy
    · exact cell_has hy
    · exact absurd rfl (S.nofree _ (PySem.mem_of_lookup hy))
  · exact Nat.le_of_lt (x.above y c (PySem.mem_of_lookup h))
  · have hi : i < vs.length := by
      unfold start at h2
      by_cases hi : i < vs.length
      · exact hi
      · rw [List.getElem?_append_right (by simpa using hi)] at h2
        rw [List.getElem?_replicate] at h2
        split at h2 <;> cases h2
    have ha : vs[i]? = some v := by
      unfold start at h2
      rw [List.getElem?_append_left (by simpa using hi), List.getElem?_map] at h2
      cases e : vs[i]? with
      | none => rw [e] at h2; cases h2
      | some a => rw [e] at h2; cases h2; rfl
    obtain ⟨u, hu, rv⟩ := r.get ha
    have hp : ps[i]? = some y := by
      rw [← S.pre, List.getElem?_take_of_lt (by omega)]; exact h1
    have ndP : ps.Nodup := by rw [← S.pre]; exact S.nd.sublist (List.take_sublist _ _)
    refine ⟨u, rv, ?_⟩
    rcases S.par y (List.mem_of_getElem? hp) with k | k
    · exact .inl ⟨k, bindL_get ndP hp hu k⟩
    · obtain ⟨c, e⟩ := cell_has (n := s.heap.objs.size + 1) k
      refine .inr ⟨.inl k, c, e, ?_⟩
      have q := x.cell y c e
      rw [bindC_get ndP hp hu (by show scope.names.lookup y ≠ _; rw [k]; decide)] at q
      exact q
  · exact e0.hok.fresh (Nat.le_of_lt (x.above y c (PySem.mem_of_lookup h)))
  · unfold start
    show _ = N.length
    rw [List.length_append, List.length_map, List.length_replicate]
    omega
theorem fn_of {CX : CXT} {P : Program} {w : World} {K : PySem.W.Frag} {mg : Str → Option Value} {base : Heap} {k : Nat} {f : Addr} {name qual : Str} {params : Arguments} {body : List Stmt} {scope : Scope} {dV kV doc pm cdv ct oc : Value} {an od : Option Addr}
    {osl : Array (Option Value)} {N ps : List Str} {sp : Sp} (lk : K.lookup f = some ⟨oc, od, .func (PySem.W.fnOf name qual params body scope dV kV doc pm an cdv ct), osl⟩) (hcd : PySem.W.codeIn K cdv qual = true) (S : FnScope N ps scope)
    (len : ∀ vs H Q E, sp vs H Q E → vs.length = ps.length)
    (hbody : ∀ (A : Around) (outer : List Env) (s : Shared) (H : Hp) (vs : List V) (Q : VK) (E : XK), Room k (A.deeper (envOfC qual scope s.heap.objs.size f cdv)) → sp vs H Q E →
      ∃ t, PSs (cxOf CX P w K mg base N qual scope f cdv A outer s H E) body t ∧ t { nx := fun _ H' => Q .non H', rt := Q } (start N vs) H) :
    FnOk P w K mg base CX (k + 1) f (PySem.W.fnOf name qual params body scope dV kV doc pm an cdv ct) ps sp := by
  refine ⟨len, fun A outer s H args us vs Q E hr e0 hb r hsp => ?_⟩
  have hl := len _ _ _ _ hsp
  have KX : K.In s.heap := e0.mod.kin.keeps fun b o e => (e0.bs b o e).1
  have lim : s.heap.NoLimit := e0.mod.nolimit.keeps fun b o e => (e0.bs b o e).1
  have hkind : ∀ y ∈ ps.zip us, scope.names.lookup y.1 = some .local ∨ (scope.names.lookup y.1 = some .cell ∧ ((cellsFrom (s.heap.objs.size + 1) scope.names []).lookup y.1).isSome = true) := fun ⟨n, v⟩ hy => by
    rcases S.par n (List.of_mem_zip hy).1 with q | q
    · exact .inl q
    · exact .inr ⟨q, PySem.W.cellsFrom_some _ _ _ (.inl q)⟩
  refine codeAny_call_function hr.depth (KX _ _ lk) rfl S.co S.gen rfl (PySem.W.codeRec_of KX hcd) (hb _ _ _ _ ?_)
  refine wpAny_newFunctionEnv_cells S.kind hkind fun env he s1 x => ?_
  subst he
  refine ⟨lim.keeps x.toInCall.keep, codeAny_func ?_⟩
  obtain ⟨t, ht, hq⟩ := hbody A outer s H vs Q E (hr.deeper _) hsp
  have I : Inv (cxOf CX P w K mg base N qual scope f cdv A outer s H E) [] (start N vs) H s1 := inv_start S hr.hd e0 hl r x
  refine wpAny_mono (ht [] s1 (start N vs) H _ I hq) (fun fl s' hs => ?_) fun e s' hs => hs
  have fin : ∀ {σ' : St} {H' : Hp} {v : V} {u : Value}, Inv (cxOf CX P w K mg base N qual scope f cdv A outer s H E) [] σ' H' s' → RelV v u → Q v H' → CE outer P w H s Q u s' :=
    fun {σ' H' v u} J rv q => ⟨v, H', J.os, J.bare, J.base, J.hok, rv, q⟩
  cases fl with
  | ret u =>
    obtain ⟨v, σ', H', J, rv, q⟩ := hs
    exact fin J rv q
  | next =>
    obtain ⟨σ', H', J, q⟩ := hs
    exact fin (v := V.non) (u := Value.none) J rfl q
  | brk =>
    obtain ⟨_, _, _, q⟩ := hs
    exact False.elim q
  | cont =>
    obtain ⟨_, _, _, q⟩ := hs
    exact False.elim q
end L2
namespace L2
open PySem PySem.Spec PyProof.Rows
section
variable {X : Cx} {x : Str} {p pos : Pos} {e : Expr} {es : List Expr} {t : TA} {id T : String} {r : List V → Hp → VK → Prop}
noncomputable def tCB (r : List V → Hp → VK → Prop) (t : TA) : TE := fun σ H Q => t σ H fun vs H1 => r vs H1 Q
theorem pe_callB (hc : CallR X (.builtin id) r) (hg : Gl X x) (hm : X.mg x = none) (hv : bootBuiltins x = some (.builtin id)) (ha : PA X (e :: es) t) (hn : x ≠ "__name__" := by decide) (hdb : (x == ("__debug__" : Str)) = false := by decide)
    (he : starEach (e :: es) X.env = (false, eval e X.env) :: starEach es X.env := by rfl) (hpl : (backTo pos (starEach es X.env)).any (·.1) = false := by rfl) : PE X (.Call (.Name x p) (e :: es) [] pos) (tCB r t) := by
  intro pins s σ H Q I h
  refine wpAny_Call_Name_kw (ld_blt I hg hm hv ?_ hn hdb)
  exact PyProof.Rows.callWith_builtin1 (thn (ha pos pins s σ H _ I h) fun us s1 ⟨vs, H1, I1, r1, q1⟩ => hc pins s1 σ H1 vs us Q I1 r1 q1) he hpl
theorem pe_callTy (hc : CallR X (.type T) r) (hg : Gl X x) (hm : X.mg x = none) (hv : bootBuiltins x = some (.type T)) (ha : PA X (e :: es) t) (hn : x ≠ "__name__" := by decide) (hdb : (x == ("__debug__" : Str)) = false := by decide)
    (he : starEach (e :: es) X.env = (false, eval e X.env) :: starEach es X.env := by rfl) (hpl : (backTo pos (starEach es X.env)).any (·.1) = false := by rfl) : PE X (.Call (.Name x p) (e :: es) [] pos) (tCB r t) := by
  intro pins s σ H Q I h
  refine wpAny_Call_Name_kw (ld_blt I hg hm hv ?_ hn hdb)
  exact PyProof.Rows.callWith_type1 (thn (ha pos pins s σ H _ I h) fun us s1 ⟨vs, H1, I1, r1, q1⟩ => hc pins s1 σ H1 vs us Q I1 r1 q1) he hpl
end
end L2
namespace HT
open PySem PyProof.Rows
section
open PySem.SeqAt
open PySem.AutoSeq1 (wpAny_loadPart')
open PySem.MeetsSeq PySem.MeetsSeq2 PySem.MeetsSeq3
end
section
variable {prog : Program} {w : World} {A : Around} {E : Value → Shared → Prop} {s : Shared}
noncomputable def sIx (n d : Nat) : Option Int → Nat
  | none => d
  | some v => if v < 0 then (v + (n : Int)).toNat else min v.toNat n
theorem sIx_none (n d : Nat) : sIx n d none = d := rfl
theorem sIx_nat (n d k : Nat) : sIx n d (some (k : Int)) = min k n := by
  show (if (k : Int) < 0 then ((k : Int) + (n : Int)).toNat else min (k : Int).toNat n) = min k n
  rw [if_neg (by omega), Int.toNat_natCast]
end
end HT
namespace L2
open PySem PySem.Spec PyProof.Rows
noncomputable abbrev TO := St → Hp → (Option Int → Hp → Prop) → Prop
noncomputable def PO (X : Cx) (e : Option Expr) (t : TO) : Prop :=
  ∀ (pins : List (Addr × Obj)) (s : Shared) (σ : St) (H : Hp) (Q : Option Int → Hp → Prop), Inv X pins σ H s → t σ H Q →
    wpAny (model X.prog X.w) X.A (evalPart e X.env) (fun u s' => ∃ o H', Inv X pins σ H' s' ∧ IsPart u o ∧ Q o H') X.xe s
noncomputable def tNoPart : TO := fun _ H Q => Q none H
noncomputable def tPart (t : TE) : TO := fun σ H Q => t σ H fun x H1 => ∃ i, x = .int i ∧ Q (some i) H1
section
variable {X : Cx} {e : Expr} {te : TE} {lo hi : Option Expr} {tl th : TO} {pos p2 : Pos}
theorem po_none : PO X none tNoPart := by
  intro pins s σ H Q I h
  rw [evalPart_none]
  exact wpAny_pure ⟨none, H, I, .none, h⟩
theorem po_some (h : PE X e te) : PO X (some e) (tPart te) := by
  intro pins s σ H Q I hw
  rw [evalPart_some]
  refine thn (h pins s σ H _ I hw) fun u s1 zpat => ?_
  obtain ⟨x, H1, I1, r1, q1⟩ := zpat
  obtain ⟨i, rfl, q⟩ := q1
  obtain ⟨t, rfl⟩ := r1
  exact ⟨some i, H1, I1, .int i t, q⟩
noncomputable def SlR (X : Cx) (r : V → Option Int → Option Int → Hp → VK → Prop) : Prop :=
  ∀ (pins : List (Addr × Obj)) (s : Shared) (σ : St) (H : Hp) (x : V) (v vl vu : Value) (lo hi : Option Int) (sl : Addr) (Q : VK), Inv X pins σ H s → RelV x v → s.heap.IsSliceOf sl vl vu .none → IsPart vl lo → IsPart vu hi → r x lo hi H Q →
    ∃ T id, typeLookup (.type T) "__getitem__" = pure (some (.builtin id)) ∧ s.TypeIs v T ∧ wpAny (model X.prog X.w) X.A (getItem v (.ref sl)) (EP X pins σ Q) X.xe s
noncomputable def tSl (r : V → Option Int → Option Int → Hp → VK → Prop) (te : TE) (tl th : TO) : TE := fun σ H Q => te σ H fun x H1 => tl σ H1 fun l H2 => th σ H2 fun u H3 => r x l u H3 Q
theorem pe_slice {r : V → Option Int → Option Int → Hp → VK → Prop} (hr : SlR X r) (he : PE X e te) (hl : PO X lo tl) (hu : PO X hi th) : PE X (.Subscript e (.Slice lo hi none p2) pos) (tSl r te tl th) := by
  intro pins s σ H Q I h
  refine Subscript_ (thn (he pins s σ H _ I h) fun v s1 zpat => ?_)
  obtain ⟨x, H1, I1, r1, q1⟩ := zpat
  refine wpAny_Slice (thn (hl pins s1 σ H1 _ I1 q1) fun vl s2 ⟨l, H2, I2, pl, q2⟩ => thn (hu pins s2 σ H2 _ I2 q2) fun vu s3 zpat => ?_)
  obtain ⟨u, H3, I3, pu, q3⟩ := zpat
  rw [evalPart_none]
  refine wpAny_pure ?_
  have I4 : Inv X pins σ H3 { s3 with heap := s3.heap.push { cls := .type "slice", data := .fields #[vl, vu, .none] } } := I3.kept (t' := s3.toks) fun b ob q => Heap.get?_push_of_some _ q
  obtain ⟨T, id, hT, ht, hg⟩ := hr pins { s3 with heap := s3.heap.push { cls := .type "slice", data := .fields #[vl, vu, .none] } } σ H3 x v vl vu l u s3.heap.objs.size Q I4 r1 (Heap.IsSliceOf.new ..) pl pu q3
  show wpAny (model X.prog X.w) X.A (subscriptTail e (.Slice lo hi none p2) v (.ref s3.heap.objs.size)) (EP X pins σ Q) X.xe { s3 with heap := s3.heap.push { cls := .type "slice", data := .fields #[vl, vu, .none] } }
  exact tail_any (ops := [.ref s3.heap.objs.size, v]) ht hT hg (by with_unfolding_all rfl)
noncomputable def cutV (xs : List V) (lo hi : Option Int) : List V := (xs.drop (HT.sIx xs.length 0 lo)).take (HT.sIx xs.length xs.length hi - HT.sIx xs.length 0 lo)
theorem cutV_length (xs : List V) (lo hi : Option Int) : (cutV xs lo hi).length ≤ xs.length := by
  unfold cutV
  rw [List.length_take, List.length_drop]
  omega
end
end L2
namespace L2
open PySem PySem.Spec PyProof.Rows
noncomputable def ixN (n : Nat) (i : Int) : Option Nat := if 0 ≤ i then (if i < n then some i.toNat else none) else if -(n : Int) ≤ i then some (i + n).toNat else none
noncomputable def atI {α : Type} (xs : List α) (i : Int) : Option α := (ixN xs.length i).bind fun j => xs[j]?
theorem ixN_seq {n : Nat} {i : Int} {j : Nat} (h : ixN n i = some j) : seqIndex? i n = some j ∧ j < n ∧ -(n : Int) ≤ i ∧ i < n := by
  unfold ixN at h
  by_cases h0 : 0 ≤ i
  · rw [if_pos h0] at h
    by_cases h1 : i < n
    · rw [if_pos h1] at h
      have e : i.toNat = j := Option.some.inj h
      exact ⟨by rw [seqIndex_of h0 h1, e], by omega, by omega, h1⟩
    · rw [if_neg h1] at h; cases h
  · rw [if_neg h0] at h
    by_cases h1 : -(n : Int) ≤ i
    · rw [if_pos h1] at h
      have e : (i + n).toNat = j := Option.some.inj h
      exact ⟨by rw [seqIndex_neg (by omega) h1, e], by omega, h1, by omega⟩
    · rw [if_neg h1] at h; cases h
theorem atI_get {α : Type} {xs : List α} {i : Int} {v : α} (h : atI xs i = some v) : ∃ j, seqIndex? i xs.length = some j ∧ xs[j]? = some v ∧ j < xs.length ∧ -(xs.length : Int) ≤ i ∧ i < xs.length := by
  unfold atI at h
  cases e : ixN xs.length i with
  | none => rw [e] at h; cases h
  | some j =>
    rw [e] at h
    obtain ⟨h1, h2, h3, h4⟩ := ixN_seq e
    exact ⟨j, h1, h, h2, h3, h4⟩
theorem atI_nat {α : Type} {xs : List α} {j : Nat} {v : α} (h : xs[j]? = some v) : atI xs (j : Int) = some v := by
  have hj : j < xs.length := (List.getElem?_eq_some_iff.mp h).1
  have e : ixN xs.length (j : Int) = some j := by
    unfold ixN
    rw [if_pos (by omega), if_pos (by omega)]; simp
  unfold atI; rw [e]; exact h
noncomputable def PlainIx (b : Expr) : Prop := ∀ o i, subscripted b false o i = operate [o, i] (getItem o i)
noncomputable def IxR (X : Cx) (r : R2) : Prop :=
  ∀ (value slice : Expr) (pins : List (Addr × Obj)) (s : Shared) (σ : St) (H : Hp) (x y : V) (v u : Value) (Q : VK), Inv X pins σ H s → RelV x v → RelV y u → r x y H Q →
    subscripted slice false v u = operate [v, u] (getItem v u) → wpAny (model X.prog X.w) X.A (subscriptTail value slice v u) (EP X pins σ Q) X.xe s
noncomputable def MtR (X : Cx) (id : String) (r : V → List V → Hp → VK → Prop) : Prop :=
  ∀ (pins : List (Addr × Obj)) (s : Shared) (σ : St) (H : Hp) (x : V) (xs : List V) (v : Value) (us : List Value) (Q : VK), Inv X pins σ H s → RelV x v → Vals xs us → r x xs H Q →
    wpAny (model X.prog X.w) X.A (call (.builtin id) (v :: us)) (EP X pins σ Q) X.xe s
section
variable {X : Cx} {a b : Expr} {ta tb : TE} {pos : Pos}
theorem pe_ix {r : R2} (hr : IxR X r) (ha : PE X a ta) (hb : PE X b tb) (hs : PlainIx b) : PE X (.Subscript a b pos) (tOp r ta tb) := by
  intro pins s σ H Q I h
  exact Subscript_ (binT ha hb I h fun v u s2 x y H2 I2 rx ry q => hr a b pins s2 σ H2 x y v u Q I2 rx ry q (hs _ _))
inductive IIxL (K : PySem.W.Frag) (x y : V) (H : Hp) (Q : VK) : Prop where
  | mk (p : Addr) (xs : List V) (i : Int) (v : V) (ex : x = .ref p) (ey : y = .int i) (s : SqL K H p xs) (e : atI xs i = some v) (q : Q v H) : IIxL K x y H Q
noncomputable def rIxL (K : PySem.W.Frag) : R2 := fun x y H Q => IIxL K x y H Q
inductive IIxT (K : PySem.W.Frag) (x y : V) (H : Hp) (Q : VK) : Prop where
  | mk (p : Addr) (xs : List V) (i : Int) (v : V) (ex : x = .ref p) (ey : y = .int i) (s : SqT K H p xs) (e : atI xs i = some v) (q : Q v H) : IIxT K x y H Q
noncomputable def rIxT (K : PySem.W.Frag) : R2 := fun x y H Q => IIxT K x y H Q
noncomputable def rIxS : R2 := fun x y H Q => ∃ z i c, x = .str z ∧ y = .int i ∧ z.length ≤ sizeLine ∧ atI z.cps.toList i = some c ∧ Q (.str ⟨#[c]⟩) H
theorem ix_list : IxR X (rIxL X.K) := by
  intro value slice pins s σ H x y v u Q I rx ry h hs
  obtain ⟨p, xs, i, z, rfl, rfl, hq, he, q⟩ := h
  cases rx
  obtain ⟨t, rfl⟩ := ry
  obtain ⟨its, r, pl, hz⟩ := I.list hq
  obtain ⟨j, h1, h2, h3, h4, h5⟩ := atI_get he
  obtain ⟨w, ew, rw'⟩ := r.get h2
  have hl := r.length
  have hn := line63
  have fin : EP X pins σ Q w s := ⟨z, H, I, rw', q⟩
  by_cases h0 : 0 ≤ i
  · have hj : i.toNat = j := by
      rw [seqIndex_of h0 h5] at h1
      exact Option.some.inj h1
    exact item_listR pl.isList h0 (by omega) (by rw [hj]; simpa using ew) fin hs
  · have hj : (i + (its.toArray.size : Int)).toNat = j := by
      rw [seqIndex_neg (by omega) h4] at h1
      rw [List.size_toArray, ← hl]
      exact Option.some.inj h1
    exact subscriptTail_builtinR (x := w) pl.isList.typeIs slot_list_getitem.lookup
      (wpAny_getItem_list_neg (Q := fun r s' => r = w ∧ EP X pins σ Q r s') pl.isList (by omega) (by rw [List.size_toArray] <;> omega) (by omega) (by rw [hj]; simpa using ew) ⟨rfl, fin⟩) hs
theorem ix_tup : IxR X (rIxT X.K) := by
  intro value slice pins s σ H x y v u Q I rx ry h hs
  obtain ⟨p, xs, i, z, rfl, rfl, hq, he, q⟩ := h
  cases rx
  obtain ⟨t, rfl⟩ := ry
  obtain ⟨its, r, pl, hz⟩ := I.tuple hq
  obtain ⟨j, h1, h2, h3, h4, h5⟩ := atI_get he
  obtain ⟨w, ew, rw'⟩ := r.get h2
  have hl := r.length
  have hn := line63
  have fin : EP X pins σ Q w s := ⟨z, H, I, rw', q⟩
  exact subscriptTail_builtinR (x := w) pl.typeIs slot_tuple_getitem.lookup
    (getItem_tuple (j := j) (Q := fun r s' => r = w ∧ EP X pins σ Q r s') pl (by omega) (by omega) (by rw [List.size_toArray, ← hl]; exact h1) (by simpa using ew) ⟨rfl, fin⟩) hs
theorem ix_str : IxR X rIxS := by
  intro value slice pins s σ H x y v u Q I rx ry h hs
  obtain ⟨z, i, c, rfl, rfl, hz, he, q⟩ := h
  obtain ⟨t, rfl⟩ := rx
  obtain ⟨t', rfl⟩ := ry
  obtain ⟨j, h1, h2, h3, h4, h5⟩ := atI_get he
  have hl : z.cps.toList.length = z.length := by simp [Str.length]
  rw [hl] at h1 h4 h5
  have hn := line63
  exact tail_any (typeIs_str s z t) slot_str_getitem.lookup (getItem_str (c := c) (by
    have e1 : decide (i < -(2 ^ 63 : Int)) = false := decide_eq_false (by omega)
    have e2 : decide (i ≥ 2 ^ 63) = false := decide_eq_false (by omega)
    rw [e1, e2, Bool.or_false]) (by rw [h1]; simpa using h2) ⟨.str ⟨#[c]⟩, H, I.tok _, ⟨_, rfl⟩, q⟩) hs
theorem mapSeq_set (its : List Value) (n j : Nat) (u : Value) : Obj.mapSeq (·.setIfInBounds j u) { cls := .type "list", data := .seq its.toArray n } = { cls := .type "list", data := .seq (its.set j u).toArray n } := by
  simp [Obj.mapSeq]
theorem Inv.lst {pins : List (Addr × Obj)} {σ : St} {H : Hp} {s : Shared} {p : Addr} {xs : List V} (I : Inv X pins σ H s) (h : H p = some (.lst xs)) :
    ∃ (its : List Value) (n : Nat), Vals xs its ∧ s.heap.get? p = some { cls := .type "list", data := .seq its.toArray n } ∧ xs.length ≤ sizeLine := by
  obtain ⟨z, its, n, r, e⟩ := I.hok p _ h
  exact ⟨its, n, r, e, z⟩
theorem Inv.lstUpd {pins : List (Addr × Obj)} {σ : St} {H : Hp} {s : Shared} {p : Addr} {xs ys : List V} {its its' : List Value} {n n' : Nat} {f : Obj → Obj} (I : Inv X pins σ H s) (h : H p = some (.lst xs))
    (ho : s.heap.get? p = some { cls := .type "list", data := .seq its.toArray n }) (hf : f { cls := .type "list", data := .seq its.toArray n } = { cls := .type "list", data := .seq its'.toArray n' }) (r : Vals ys its') (hz : ys.length ≤ sizeLine) (t : Nat) :
    Inv X pins σ (upd H p (.lst ys)) { s with heap := s.heap.update p f, toks := t } := by
  have e : (s.heap.update p f).get? p = some { cls := .type "list", data := .seq its'.toArray n' } := by
    rw [Heap.get?_update_self f ho (by rw [hf] <;> rfl), hf]
  refine I.write (x := p) (e := p) (by rw [h]; trivial) (.inl rfl) (fun b u hb q => (Heap.get?_update_other _ _ (Ne.symm hb)).trans q) ⟨_, e⟩ ?_
  exact ⟨hz, its', n', r, e⟩
noncomputable def rSetL : V → V → V → Hp → (Hp → Prop) → Prop := fun o i v H Q => ∃ p xs k j, o = .ref p ∧ i = .int k ∧ H p = some (.lst xs) ∧ ixN xs.length k = some j ∧ Q (upd H p (.lst (xs.set j v)))
theorem set_list : PSet X rSetL := by
  intro pins s σ H o i v ov iv u Q I ro ri rv h
  obtain ⟨p, xs, k, j, rfl, rfl, hp, hj, q⟩ := h
  cases ro
  obtain ⟨t, rfl⟩ := ri
  obtain ⟨its, n, r, ho, hz⟩ := I.lst hp
  obtain ⟨h1, h2, h3, h4⟩ := ixN_seq hj
  have hl := r.length
  have hn := line63
  have I' : Inv X pins σ (upd H p (.lst (xs.set j v))) { s with heap := s.heap.update p (Obj.mapSeq (·.setIfInBounds j u)) } :=
    I.lstUpd hp ho (mapSeq_set its n j u) (r.set rv j) (by rw [List.length_set]; exact hz) s.toks
  by_cases h0 : 0 ≤ k
  · have hk : k.toNat = j := by
      rw [seqIndex_of h0 h4] at h1
      exact Option.some.inj h1
    exact PySem.W.ki_setAt ho h0 (by omega) (by rw [List.size_toArray, ← hl]; exact h4) (by rw [hk]; exact ⟨_, I', q⟩)
  · have hk : (k + (its.toArray.size : Int)).toNat = j := by
      rw [seqIndex_neg (by omega) h3] at h1
      rw [List.size_toArray, ← hl]
      exact Option.some.inj h1
    exact PySem.W.ki_setBack ho (by omega) (by rw [List.size_toArray, ← hl]; exact h3) (by omega) (by rw [hk]; exact ⟨_, I', q⟩)
theorem slice_bounds (lo hi : Option Int) (n : Nat) : (sliceBounds lo hi none n).1 = ((HT.sIx n 0 lo : Nat) : Int) ∧ (sliceBounds lo hi none n).2.1 = ((HT.sIx n n hi : Nat) : Int) ∧ (sliceBounds lo hi none n).2.2 = 1 := by
  refine ⟨?_, ?_, rfl⟩
  · cases lo with
    | none => simp [sliceBounds, HT.sIx]
    | some i =>
      simp only [sliceBounds, HT.sIx, Option.getD_none, show (1 : Int) > 0 by decide, if_true]
      by_cases h : i < 0
      · simp only [h, if_true] <;> omega
      · simp only [h, if_false] <;> omega
  · cases hi with
    | none => simp [sliceBounds, HT.sIx]
    | some i =>
      simp only [sliceBounds, HT.sIx, Option.getD_none, show (1 : Int) > 0 by decide, if_true]
      by_cases h : i < 0
      · simp only [h, if_true] <;> omega
      · simp only [h, if_false] <;> omega
theorem slicePick_cut (its : List Value) (lo hi : Option Int) : slicePick its.toArray lo hi none = ((its.drop (HT.sIx its.length 0 lo)).take (HT.sIx its.length its.length hi - HT.sIx its.length 0 lo)).toArray := by
  obtain ⟨h1, h2, h3⟩ := slice_bounds lo hi its.toArray.size
  unfold slicePick
  rw [h1, h2, h3]
  simp only [sliceRange_one, pick_run, List.size_toArray] <;> rfl
noncomputable def rSlL (K : PySem.W.Frag) : V → Option Int → Option Int → Hp → VK → Prop := fun x lo hi H Q => ∃ a xs, x = .ref a ∧ SqL K H a xs ∧ ∀ p, H p = none → Q (.ref p) (upd H p (.lst (cutV xs lo hi)))
theorem sl_list : SlR X (rSlL X.K) := by
  intro pins s σ H x v vl vu lo hi sl Q I rx hs pl pu h
  obtain ⟨a, xs, rfl, hx, q⟩ := h
  cases rx
  obtain ⟨its, r, ht, hz⟩ := I.list hx
  have hlen := r.length
  refine ⟨"list", _, slot_list_getitem.lookup, ht.isList.typeIs, ?_⟩
  refine wpAny_getItem_list_slice ht.isList hs pl pu .none (by simp) ?_ (by rw [List.size_toArray] <;> omega)
  rw [slicePick_cut, ← hlen]
  refine ⟨.ref s.heap.objs.size, _, I.laid (t' := s.toks) (o := .lst (cutV xs lo hi)) (fun b ob q => Heap.get?_push_of_some _ q) (Nat.le_refl _) ?_, rfl, q _ (I.hok.fresh (Nat.le_refl _))⟩
  exact ⟨Nat.le_trans (cutV_length xs lo hi) hz, _, 0, (r.drop (HT.sIx xs.length 0 lo)).take (HT.sIx xs.length xs.length hi - HT.sIx xs.length 0 lo), Heap.get?_push_size _ rfl⟩
noncomputable def flatV : V → Bool
  | .non => true
  | .bl _ => true
  | .int _ => true
  | .str _ => true
  | _ => false
noncomputable def eqV : V → V → Bool
  | .non, .non => true
  | .bl a, .bl b => a == b
  | .bl a, .int b => (if a then 1 else 0) == b
  | .int a, .bl b => a == (if b then 1 else 0)
  | .int a, .int b => a == b
  | .str a, .str b => a == b
  | _, _ => false
theorem eqAt_V {A : Around} {s : Shared} {y x : V} {u v : Value} (ry : RelV y u) (rx : RelV x v) (fy : flatV y = true) (fx : flatV x = true) : SeqAt.EqAt A s u v (eqV y x) := by
  cases y with
  | non =>
    cases ry
    cases x with
    | non => cases rx; exact SeqAt.EqAt.same _
    | bl b => cases rx; exact SeqAt.EqAt.none_bool b
    | int b => obtain ⟨t, rfl⟩ := rx; exact SeqAt.EqAt.none_int b t
    | str b => obtain ⟨t, rfl⟩ := rx; exact SeqAt.EqAt.none_str b t
    | _ => exact absurd (show false = true from fx) Bool.false_ne_true
  | bl a =>
    cases ry
    cases x with
    | non => cases rx; exact SeqAt.EqAt.bool_none a
    | bl b => cases rx; exact SeqAt.EqAt.bool_bool a b
    | int b => obtain ⟨t, rfl⟩ := rx; exact SeqAt.EqAt.bool_int a b t
    | str b => obtain ⟨t, rfl⟩ := rx; exact SeqAt.EqAt.bool_str a b t
    | _ => exact absurd (show false = true from fx) Bool.false_ne_true
  | int a =>
    obtain ⟨t', rfl⟩ := ry
    cases x with
    | non => cases rx; exact SeqAt.EqAt.int_none a t'
    | bl b => cases rx; exact SeqAt.EqAt.int_bool a t' b
    | int b => obtain ⟨t, rfl⟩ := rx; exact SeqAt.EqAt.int_int a t' b t
    | str b => obtain ⟨t, rfl⟩ := rx; exact SeqAt.EqAt.int_str a t' b t
    | _ => exact absurd (show false = true from fx) Bool.false_ne_true
  | str a =>
    obtain ⟨t', rfl⟩ := ry
    cases x with
    | non => cases rx; exact SeqAt.EqAt.str_none a t'
    | bl b => cases rx; exact SeqAt.EqAt.str_bool a t' b
    | int b => obtain ⟨t, rfl⟩ := rx; exact SeqAt.EqAt.str_int a t' b t
    | str b => obtain ⟨t, rfl⟩ := rx; exact SeqAt.EqAt.str_str a t' b t
    | _ => exact absurd (show false = true from fx) Bool.false_ne_true
  | _ => exact absurd (show false = true from fy) Bool.false_ne_true
noncomputable def eqU (x : V) (u : Value) : Bool := match u with
  | .none => eqV .non x
  | .bool b => eqV (.bl b) x
  | .int i _ => eqV (.int i) x
  | .str z _ => eqV (.str z) x
  | _ => false
theorem eqU_of {x y : V} {u : Value} (r : RelV y u) (f : flatV y = true) : eqU x u = eqV y x := by
  cases y with
  | non => cases r; rfl
  | bl b => cases r; rfl
  | int i => obtain ⟨t, rfl⟩ := r; rfl
  | str z => obtain ⟨t, rfl⟩ := r; rfl
  | _ => exact absurd (show false = true from f) Bool.false_ne_true
theorem any_eqU {x : V} : ∀ {xs : List V} {us : List Value}, Vals xs us → xs.all flatV = true → us.any (eqU x) = xs.any fun y => eqV y x
  | _, _, .nil, _ => rfl
  | y :: xs, u :: us, .cons r t, f => by
    rw [List.all_cons, Bool.and_eq_true] at f
    rw [List.any_cons, List.any_cons, eqU_of r f.1, any_eqU t f.2]
theorem mem_eqAt {A : Around} {s : Shared} {x : V} {v : Value} (rx : RelV x v) (fx : flatV x = true) : ∀ {xs : List V} {us : List Value}, Vals xs us → xs.all flatV = true → ∀ u ∈ us, SeqAt.EqAt A s u v (eqU x u)
  | _, _, .nil, _ => fun u hu => by cases hu
  | y :: xs, u :: us, .cons r t, f => fun u' hu => by
    rw [List.all_cons, Bool.and_eq_true] at f
    rcases List.mem_cons.mp hu with rfl | hu
    · rw [eqU_of r f.1]; exact eqAt_V r rx f.1 fx
    · exact mem_eqAt rx fx t f.2 u' hu
noncomputable def inV (x : V) (xs : List V) : Bool := xs.any fun y => eqV y x
inductive IIn (K : PySem.W.Frag) (neg : Bool) (x y : V) (H : Hp) (Q : VK) : Prop where
  | mk (p : Addr) (xs : List V) (ey : y = .ref p) (s : SqL K H p xs ∨ SqT K H p xs) (fx : flatV x = true) (fs : xs.all flatV = true) (k : Q (.bl (if neg then !inV x xs else inV x xs)) H) : IIn K neg x y H Q
noncomputable def rIn (K : PySem.W.Frag) (neg : Bool) : R2 := fun x y H Q => IIn K neg x y H Q
theorem op_in_seq : OpR X (compareOp .In) (rIn X.K false) := by
  intro pins s σ H x y v u Q I rx ry h
  obtain ⟨p, xs, rfl, hq, fx, fs, q⟩ := h
  cases ry
  rcases hq with hq | hq
  · obtain ⟨its, r, pl, hz⟩ := I.list hq
    refine SeqAt.in_listAt (eqU x) pl.isList (fun w hw => mem_eqAt rx fx r fs w (by simpa using hw)) ⟨.bl _, H, I, rfl, ?_⟩
    rw [show its.toArray.any (eqU x) = its.any (eqU x) by simp, any_eqU r fs]
    exact q
  · obtain ⟨its, r, pl, hz⟩ := I.tuple hq
    refine SeqAt.in_tupleAt (eqU x) pl (fun w hw => mem_eqAt rx fx r fs w (by simpa using hw)) ⟨.bl _, H, I, rfl, ?_⟩
    rw [show its.toArray.any (eqU x) = its.any (eqU x) by simp, any_eqU r fs]
    exact q
theorem call_len_seq : CallR X (.builtin "len") (fun xs H Q => ∃ p ys, xs = [.ref p] ∧ (SqL X.K H p ys ∨ SqT X.K H p ys) ∧ Q (.int ys.length) H) := by
  intro pins s σ H xs us Q I r h
  obtain ⟨p, ys, rfl, hq, q⟩ := h
  obtain ⟨u, rfl, rx⟩ := vals1 r
  cases rx
  have hn := line63
  rcases hq with hq | hq
  · obtain ⟨its, r', pl, hz⟩ := I.list hq
    have hlen := r'.length
    exact Calls.call_len_list pl.isList (by simp only [List.size_toArray] <;> omega) ⟨.int ys.length, H, I.tok _, ⟨s.toks + 1, by rw [List.size_toArray, hlen]⟩, q⟩
  · obtain ⟨its, r', pl, hz⟩ := I.tuple hq
    have hlen := r'.length
    exact len_tuple pl (by simp only [List.size_toArray] <;> omega) ⟨.int ys.length, H, I.tok _, ⟨s.toks + 1, by rw [List.size_toArray, hlen]⟩, q⟩
theorem call_list_of : CallR X (.type "list") (fun xs H Q => ∃ p ys, xs = [.ref p] ∧ (SqL X.K H p ys ∨ SqT X.K H p ys) ∧ ∀ l, H l = none → Q (.ref l) (upd H l (.lst ys))) := by
  intro pins s σ H xs us Q I r h
  obtain ⟨p, ys, rfl, hq, q⟩ := h
  obtain ⟨u, rfl, rx⟩ := vals1 r
  cases rx
  have fin : ∀ (its : List Value), Vals ys its → ys.length ≤ sizeLine → ∀ (h' : Heap) (c' : Nat), (∀ b o', s.heap.get? b = some o' → h'.get? b = some o') →
      h'.get? s.heap.objs.size = some { cls := .type "list", dict := none, data := .seq its.toArray c', slots := #[] } → EP X pins σ Q (.ref s.heap.objs.size) { s with heap := h' } := fun its r' hz h' c' kp e =>
    ⟨.ref s.heap.objs.size, _, I.laid (t' := s.toks) kp (Nat.le_refl _) (show ObjOk X.prog X.w _ h' _ (.lst ys) from ⟨hz, its, c', r', e⟩), rfl, q _ (I.hok.fresh (Nat.le_refl _))⟩
  rcases hq with hq | hq
  · obtain ⟨its, r', pl, hz⟩ := I.list hq
    have hlen := r'.length
    obtain ⟨o, ho, hc, n, hd⟩ := pl.isList
    exact call_list_seq p (.inl rfl) ho hc hd (fun h' c' kp e => fin its r' hz h' c' kp e) (by simp only [List.size_toArray] <;> omega)
  · obtain ⟨its, r', pl, hz⟩ := I.tuple hq
    have hlen := r'.length
    obtain ⟨o, ho, hc, n, hd⟩ := pl
    exact call_list_seq p (.inr rfl) ho hc hd (fun h' c' kp e => fin its r' hz h' c' kp e) (by simp only [List.size_toArray] <;> omega)
noncomputable def tyV (K : PySem.W.Frag) (T : String) (x : V) (H : Hp) : Prop := match x with
  | .str _ => T = "str"
  | .int _ => T = "int"
  | .ref p => (T = "list" ∧ ∃ xs, SqL K H p xs) ∨ (T = "tuple" ∧ ∃ o, K.lookup p = some o ∧ o.cls = .type "tuple" ∧ o.dict = none) ∨
      (T = "dict" ∧ ((∃ kvs, H p = some (.dK kvs)) ∨ ∃ kvs, H p = some (.dT kvs))) ∨ (T = "set" ∧ ∃ S n, H p = some (.set S n))
  | _ => False
theorem tyV_is {pins : List (Addr × Obj)} {σ : St} {H : Hp} {s : Shared} {T : String} {x : V} {v : Value} (I : Inv X pins σ H s) (r : RelV x v) (ty : tyV X.K T x H) :
    s.TypeIs v T ∧ ∀ a, v = .ref a → ∃ ob, s.heap.get? a = some ob ∧ ob.dict = none := by
  cases x with
  | str z =>
    obtain ⟨t, rfl⟩ := r
    cases (show T = "str" from ty)
    exact ⟨typeIs_str s z t, fun _ e => nomatch e⟩
  | int i =>
    obtain ⟨t, rfl⟩ := r
    cases (show T = "int" from ty)
    exact ⟨typeIs_int s i t, fun _ e => nomatch e⟩
  | ref p =>
    cases r
    rcases ty with ⟨rfl, xs, hq⟩ | ⟨rfl, o, hk, hc, hd⟩ | ⟨rfl, hk⟩ | ⟨rfl, S, n, hk⟩
    · obtain ⟨its, _, pl, _⟩ := I.list hq
      refine ⟨pl.isList.typeIs, fun a e => ?_⟩
      cases e
      obtain ⟨o, n, e, c, hd, _⟩ := pl
      exact ⟨o, e, hd⟩
    · refine ⟨⟨o, I.kIn p o hk, hc⟩, fun a e => ?_⟩
      cases e
      exact ⟨o, I.kIn _ o hk, hd⟩
    · have z : ∃ o, s.heap.get? p = some o ∧ o.ExactDict := by
        rcases hk with ⟨kvs, hk⟩ | ⟨kvs, hk⟩
        · obtain ⟨_, _, _, _, o, _, _, e, ex, _⟩ := I.hok p _ hk
          exact ⟨o, e, ex⟩
        · obtain ⟨_, _, _, _, o, _, _, e, ex, _⟩ := I.hok p _ hk
          exact ⟨o, e, ex⟩
      obtain ⟨o, e, ex⟩ := z
      refine ⟨⟨o, e, ex.1⟩, fun a e2 => ?_⟩
      cases e2
      exact ⟨o, e, ex.2.1⟩
    · obtain ⟨o, _, _, _, e, ex, _⟩ := I.hok p _ hk
      refine ⟨⟨o, e, ex.1⟩, fun a e2 => ?_⟩
      cases e2
      exact ⟨o, e, ex.2.1⟩
  | _ => exact False.elim ty
noncomputable def tBM (K : PySem.W.Frag) (T : String) (r : V → List V → Hp → VK → Prop) (to : TE) (t : TA) : TE := fun σ H Q => to σ H fun x H1 => tyV K T x H1 ∧ t σ H1 fun xs H2 => r x xs H2 Q
variable {o e : Expr} {es : List Expr} {to : TE} {t : TA} {name : Str} {apos cpos : Pos} {T id : String} {r : V → List V → Hp → VK → Prop}
theorem pe_bm (pa : PlainAttrs T) (slot : Slot T name id) (hty : typeOf (.builtin id) = pure (.type "method_descriptor")) (hm : MtR X id r) (ho : PE X o to) (ha : PA X (e :: es) t)
    (hbase : attributeBase o name X.env (eval o X.env) = eval o X.env := by rfl)
    (hfew : ((backTo cpos (starEach (e :: es) X.env)).all (fun x => !x.1) && (backToKw cpos (keywordEach [] X.env)).all (fun x => x.1.isSome)
      && decide ((e :: es).length + ([] : List Keyword).length + (if ([] : List Keyword).isEmpty then 0 else 1) < 30)) = true := by rfl)
    (hline : (apos.endLine == cpos.line) = true := by rfl) (hs : starEach (e :: es) X.env = (false, eval e X.env) :: starEach es X.env := by rfl) (hplain : (backTo cpos (starEach es X.env)).any (·.1) = false := by rfl) :
    PE X (.Call (.Attribute o name apos) (e :: es) [] cpos) (tBM X.K T r to t) := by
  intro pins s σ H Q I h
  refine wpAny_Call_method_late hbase hfew hline rfl (thn (ho pins s σ H _ I h) fun v s1 zpat => ?_)
  obtain ⟨x, H1, I1, r1, ty, q1⟩ := zpat
  obtain ⟨h1, h2⟩ := tyV_is I1 r1 ty
  refine ⟨T, id, pa, slot, hty, h1, h2, ?_⟩
  have hA := ha cpos pins s1 σ H1 _ I1 q1
  rw [hs] at hA ⊢
  refine Calls.callWith_builtin (by show (false || (backTo cpos (starEach es X.env)).any (·.1)) = false; rw [hplain] <;> rfl) (Calls.evalArgs_plain ?_)
  exact thn hA fun us s2 ⟨vs, H2, I2, r2, q2⟩ => hm pins s2 σ H2 x vs v us Q I2 r1 r2 q2
end
end L2
namespace L2
open PySem PySem.Spec PyProof.Rows
noncomputable def MtM (X : Cx) (id : String) (r : V → List V → Hp → VK → Prop) : Prop :=
  ∀ (pins : List (Addr × Obj)) (s : Shared) (σ : St) (H : Hp) (x : V) (xs : List V) (v : Value) (us : List Value) (Q : VK), Inv X pins σ H s → RelV x v → Vals xs us → r x xs H Q →
    wpAny (model X.prog X.w) X.A (call (.builtin id) (v :: us)) (EP X pins σ Q) X.xe s
theorem Vals.one : ∀ {x : V} {us : List Value}, Vals [x] us → ∃ u, us = [u] ∧ RelV x u
  | _, _, .cons r .nil => ⟨_, rfl, r⟩
theorem Vals.two : ∀ {x y : V} {us : List Value}, Vals [x, y] us → ∃ u v, us = [u, v] ∧ RelV x u ∧ RelV y v
  | _, _, _, .cons r (.cons q .nil) => ⟨_, _, rfl, r, q⟩
section
variable {X : Cx} {pins : List (Addr × Obj)} {σ : St} {H : Hp} {s : Shared} {l b : Addr} {xs ys zs : List V}
theorem Inv.lset {its its' : List Value} {n : Nat} {f : Array Value → Array Value} {t' : Nat} (I : Inv X pins σ H s) (hH : H l = some (.lst xs))
    (e : s.heap.get? l = some { cls := .type "list", data := .seq its.toArray n }) (hf : f its.toArray = its'.toArray) (hv : Vals ys its') (hz : ys.length ≤ sizeLine) :
    Inv X pins σ (upd H l (.lst ys)) { s with heap := s.heap.update l (Obj.mapSeq f), toks := t' } := by
  have q := PySem.IsL.update e f
  rw [hf] at q
  refine I.write (x := l) (e := l) (by rw [hH]; exact trivial) (.inl rfl) (fun b' u hb hu => (Heap.get?_update_other s.heap (Obj.mapSeq f) (Ne.symm hb)).trans hu) ⟨_, q⟩ ?_
  exact ⟨hz, its', _, hv, q⟩
theorem Inv.lnew {its : List Value} {t' : Nat} (I : Inv X pins σ H s) (hv : Vals ys its) (hz : ys.length ≤ sizeLine) :
    Inv X pins σ (upd H s.heap.objs.size (.lst ys)) { s with heap := s.heap.push { cls := .type "list", data := .seq its.toArray }, toks := t' } :=
  I.laid (fun _ _ q => Heap.get?_push_of_some _ q) (Nat.le_refl _) ⟨hz, its, 0, hv, Heap.get?_push_size _ rfl⟩
theorem Inv.fresh (I : Inv X pins σ H s) : H s.heap.objs.size = none := I.hok.fresh (Nat.le_refl _)
theorem Inv.lstM (I : Inv X pins σ H s) (hH : H l = some (.lst xs)) : xs.length ≤ sizeLine ∧ ∃ (its : List Value) (n : Nat), Vals xs its ∧ xs.length = its.length ∧ s.heap.get? l = some { cls := .type "list", data := .seq its.toArray n } := by
  obtain ⟨z, its, n, r, e⟩ := I.hok l _ hH
  exact ⟨z, its, n, r, r.length, e⟩
end
section
variable {X : Cx}
inductive IApp (x : V) (vs : List V) (H : Hp) (Q : VK) : Prop where
  | mk (l : Addr) (xs : List V) (y : V) (ex : x = .ref l) (ev : vs = [y]) (eh : H l = some (.lst xs)) (z : xs.length < sizeLine) (q : Q .non (upd H l (.lst (xs ++ [y])))) : IApp x vs H Q
noncomputable def rAppend : V → List V → Hp → VK → Prop := fun x vs H Q => IApp x vs H Q
theorem mt_append : MtM X "list.append" rAppend := by
  intro pins s σ H x vs v us Q I rx rv h
  obtain ⟨l, xs, y, rfl, rfl, hH, hz, q⟩ := h
  cases rx
  obtain ⟨u, rfl, ru⟩ := rv.one
  obtain ⟨z, its, n, r, hl, e⟩ := I.lstM hH
  refine call_meets F.slot_list_append ⟨_, e, rfl⟩ F.entry_list_append (F.args_list_append_2 _ _) (PySem.list_append l its.toArray n u (by rw [List.size_toArray]; omega)) ⟨e, ?_⟩
  refine ⟨.non, _, I.lset (its' := its ++ [u]) hH e (by simp) (r.append (.cons ru .nil)) ?_, rfl, q⟩
  rw [List.length_append, List.length_singleton]
  omega
noncomputable def rCat : R2 := fun x y H Q => ∃ l b xs zs, x = .ref l ∧ y = .ref b ∧ H l = some (.lst xs) ∧ H b = some (.lst zs) ∧ xs.length + zs.length ≤ sizeLine ∧ ∀ p, H p = none → Q (.ref p) (upd H p (.lst (xs ++ zs)))
theorem op_cat : OpR X (binaryOp .Add) rCat := by
  intro pins s σ H x y v u Q I rx ry h
  obtain ⟨l, b, xs, zs, rfl, rfl, hH, hB, hz, q⟩ := h
  cases rx
  cases ry
  obtain ⟨z, its, n, r, hl, e⟩ := I.lstM hH
  obtain ⟨z2, its2, n2, r2, hl2, e2⟩ := I.lstM hB
  refine PySem.P.add_list e e2 ?_ (by rw [List.size_toArray, List.size_toArray]; omega)
  have ea : its.toArray ++ its2.toArray = (its ++ its2).toArray := by simp
  rw [ea]
  exact ⟨.ref _, _, I.lnew (t' := s.toks) (r.append r2) (by rw [List.length_append]; omega), rfl, q _ I.fresh⟩
end
section
variable {prog : Program} {w : World} {A : Around} {E : Value → Shared → Prop} {s : Shared}
end
section
variable {X : Cx}
end
end L2
namespace L2
open PySem PySem.Spec PyProof.Rows
section
variable {κ : Type} [DecidableEq κ]
noncomputable def valV (kvs : List (κ × V)) (k : κ) : Option V := (kvs.find? fun kv => decide (kv.1 = k)).map (·.2)
noncomputable def putK (kvs : List (κ × V)) (k : κ) (v : V) : List (κ × V) :=
  if (kvs.any fun kv => decide (kv.1 = k)) = true then kvs.map (fun kv => if kv.1 = k then (kv.1, v) else kv) else kvs ++ [(k, v)]
noncomputable def dropK (kvs : List (κ × V)) (k : κ) : List (κ × V) := kvs.filter fun kv => decide (kv.1 ≠ k)
theorem RelO.getD {o : Option V} {u : Option Value} {d : V} {d' : Value} (r : RelO o u) (rd : RelV d d') : RelV (o.getD d) (u.getD d') := by
  cases o with
  | none => cases u with
    | none => exact rd
    | some _ => exact (show False from r).elim
  | some _ => cases u with
    | none => exact (show False from r).elim
    | some _ => exact r
theorem KV.any {kvs : List (κ × V)} {vs : List (κ × Value)} (r : KV kvs vs) (k : κ) : (kvs.any fun kv => decide (kv.1 = k)) = vs.any fun kv => decide (kv.1 = k) := by
  unfold KV at r
  induction r with
  | nil => rfl
  | cons h t ih => rw [List.any_cons, List.any_cons, ih, h.1]
theorem KV.drop {kvs : List (κ × V)} {vs : List (κ × Value)} (r : KV kvs vs) (k : κ) : KV (dropK kvs k) (without vs k) := by
  unfold KV at r ⊢
  unfold dropK without
  induction r with
  | nil => exact .nil
  | @cons p q ps qs h t ih =>
    obtain ⟨h1, h2⟩ := h
    rw [List.filter_cons, List.filter_cons]
    by_cases e : p.1 = k
    · have a : ¬ decide (p.1 ≠ k) = true := by simp [e]
      have b : ¬ decide (q.1 ≠ k) = true := by simp [h1.symm.trans e]
      rw [if_neg a, if_neg b]; exact ih
    · have e' : ¬ q.1 = k := fun z => e (h1.trans z)
      have a : decide (p.1 ≠ k) = true := by simp [e]
      have b : decide (q.1 ≠ k) = true := by simp [e']
      rw [if_pos a, if_pos b]; exact .cons ⟨h1, h2⟩ ih
theorem KV.length {kvs : List (κ × V)} {vs : List (κ × Value)} (r : KV kvs vs) : kvs.length = vs.length := Paired.length r
end
noncomputable abbrev KT (H : Hp) : List (List Key × V) → List (List Key × Addr × Value) → Prop := Paired fun p q => p.1 = q.1 ∧ H q.2.1 = some (.tup (p.1.map kV)) ∧ RelV p.2 q.2.2
theorem KT.keeps {H H' : Hp} {kvs : List (List Key × V)} {xs : List (List Key × Addr × Value)} (r : KT H kvs xs) (ht : ∀ b ys, H b = some (.tup ys) → H' b = some (.tup ys)) : KT H' kvs xs :=
  Paired.mapP r fun _ _ z => ⟨z.1, ht _ _ z.2.1, z.2.2⟩
section
variable {P : Program} {w : World} {H : Hp} {h : Heap} {a : Addr}
end
noncomputable def DGet (H : Hp) (a : Addr) (y : V) (r : Option V) : Prop :=
  (∃ kvs k, Rd H a (.dK kvs) ∧ y = kV k ∧ r = valV kvs k) ∨ ∃ kvs k b, Rd H a (.dT kvs) ∧ y = .ref b ∧ H b = some (.tup (k.map kV)) ∧ r = valV kvs k
noncomputable def DPut (H : Hp) (a : Addr) (y v : V) (H' : Hp) : Prop :=
  (∃ kvs k, H a = some (.dK kvs) ∧ y = kV k ∧ kvs.length < sizeLine ∧ H' = upd H a (.dK (putK kvs k v))) ∨
  ∃ kvs k b, H a = some (.dT kvs) ∧ y = .ref b ∧ H b = some (.tup (k.map kV)) ∧ kvs.length < sizeLine ∧ H' = upd H a (.dT (putK kvs k v))
theorem DGet.k {H : Hp} {a : Addr} {kvs : List (Key × V)} {k : Key} (e : H a = some (.dK kvs)) : DGet H a (kV k) (valV kvs k) := .inl ⟨kvs, k, .inl e, rfl, rfl⟩
theorem DGet.t {H : Hp} {a b : Addr} {kvs : List (List Key × V)} {k : List Key} (e : H a = some (.dT kvs)) (eb : H b = some (.tup (k.map kV))) : DGet H a (.ref b) (valV kvs k) := .inr ⟨kvs, k, b, .inl e, rfl, eb, rfl⟩
theorem DPut.k {H : Hp} {a : Addr} {kvs : List (Key × V)} {k : Key} {v : V} (e : H a = some (.dK kvs)) (hl : kvs.length < sizeLine) : DPut H a (kV k) v (upd H a (.dK (putK kvs k v))) := .inl ⟨kvs, k, e, rfl, hl, rfl⟩
theorem DPut.t {H : Hp} {a b : Addr} {kvs : List (List Key × V)} {k : List Key} {v : V} (e : H a = some (.dT kvs)) (eb : H b = some (.tup (k.map kV))) (hl : kvs.length < sizeLine) :
    DPut H a (.ref b) v (upd H a (.dT (putK kvs k v))) := .inr ⟨kvs, k, b, e, rfl, eb, hl, rfl⟩
section
variable {X : Cx} {pins : List (Addr × Obj)} {σ : St} {H : Hp} {s : Shared} {a : Addr} {y v : V} {u r : Value} {o : Option V} {A : Around} {E : Value → Shared → Prop}
end
section
variable {X : Cx} {pins : List (Addr × Obj)} {σ : St} {H : Hp} {s : Shared} {a : Addr} {kvs : List (Key × V)} {k : Key} {u : Value} {A : Around} {E : Value → Shared → Prop}
end
section
variable {X : Cx} {o i e value : Expr} {pos pos' tpos : Pos} {td ty tv : TE}
end
section
variable {X : Cx} {pos : Pos}
end
section
variable {X : Cx} {pins : List (Addr × Obj)} {σ : St} {H : Hp} {s : Shared} {a : Addr} {y d : V} {u r : Value} {o : Option V} {A : Around} {E : Value → Shared → Prop}
end
section
variable {X : Cx} {o e f : Expr} {apos cpos : Pos} {td ty tx : TE}
end
section
variable {X : Cx} {pins : List (Addr × Obj)} {σ : St} {H : Hp} {s : Shared} {a : Addr} {kvs : List (Key × V)} {A : Around} {E : Value → Shared → Prop}
end
section
variable {X : Cx} {pins : List (Addr × Obj)} {σ : St} {H : Hp} {s : Shared} {a : Addr} {y : V} {u : Value} {A : Around} {E : Value → Shared → Prop}
end
end L2
namespace Att
open PySem PySem.W PySem.Calls PyProof.Rows
theorem ints_of_wellAll {P : Params} {h : Heap} : ∀ (ns : List Int) (vs : List Value), WellAll P h vs (ns.map WData.int) → IntsAre vs ns := by
  intro ns
  induction ns with
  | nil =>
    intro vs w
    rw [List.map_nil] at w
    cases w
    exact .nil
  | cons n ns ih =>
    intro vs w
    rw [List.map_cons] at w
    cases w with
    | cons a b =>
      cases a
      exact .cons _ _ (ih _ b)
theorem script_of {l : OpenLaw} {n : Nat} (hn : l.most = some n) {P : Params} {h : Heap} {args : List WData} {vals : List Value}
    (hpre : l.row.toRowW.claim.pre args = true) (hwl : WellAll P h vals args) :
    ∃ a vs ns, vals = [Value.ref a] ∧ args = [WData.list (ns.map WData.int)] ∧ h.get? a = some { cls := .type "list", data := .seq vs.toArray } ∧ IntsAre vs ns ∧ ns.length ≤ n := by
  have hsh : WShape.hasAll [] args [.list .int] = true := (pre_splitW hpre).1
  have hc : l.pre.holds [] { args := args } = true := (pre_splitW hpre).2
  obtain ⟨d, r, rfl, h1, h2⟩ := hasAllW_cons hsh
  obtain rfl := hasAllW_nil h2
  obtain ⟨xs, rfl, h3⟩ := hasW_list h1
  obtain ⟨ns, rfl⟩ := items_int h3
  have hlen : ns.length ≤ n := by
    unfold OpenLaw.pre at hc
    have h4 : (WTm.not (.lt (.lit (.int (n : Int))) (.len (.arg 0)))).holds [] { args := [.list (ns.map .int)] } = true := by
      have h4 := (holds_andW hc).1
      rw [hn] at h4
      exact h4
    have h5 := condW_of h4 (w_not (w_lt w_lit (w_len_list (w_arg rfl))))
    rw [List.length_map] at h5
    refine Nat.le_of_not_lt fun q => ?_
    have q' : (n : Int) < ((ns.length : Nat) : Int) := by omega
    first
      | (rw [decide_eq_true q'] at h5; exact absurd h5 (by decide))
      | (simp at h5; omega)
  cases hwl with
  | cons w1 w2 =>
    cases w2
    cases w1 with
    | list ho hall => exact ⟨_, _, ns, rfl, rfl, ho, ints_of_wellAll ns _ hall, hlen⟩
theorem post_true (l : OpenLaw) (args : List WData) : l.row.toRowW.claim.post args (.bool true) args = true :=
  postW_of (r := l.row.toRowW) (X := (true == true))
    (show WShape.has [] (.bool true) .bool = true by first | rfl | decide | simp [WShape.has, WShape.arms, WShape.armsAll])
    (show (WTm.eq .res (.lit (.bool true))).value [] { args := args, res := some (.bool true), after := args } = some (.bool (true == true)) from w_eq_bool (w_res rfl) w_lit) rfl
theorem attach_call {l : OpenLaw} {n : Nat} {q : Program} {loose : List Str} {XP : (Str → Option Value) → Heap → Prop} {YP : World → Heap → Prop} {d : DefRec}
    (hn : l.most = some n) (hdf : d.params.defaults = [])
    (call : ∀ (w : World) (s₀ s₁ : Shared) (mg mb : Str → Option Value) (fa : Addr) (o : Obj) (pm cd doc : Value) (a : Addr) (vs : List Value) (ns : List Int),
      Ground q loose [] XP w s₀ mg mb s₁.heap → YP w s₁.heap →
      s₁.heap.get? fa = some o → o.data = .func (docDef d.name d.params d.body d.scope pm cd doc) → s₁.heap.CodeRec cd d.name → mg d.name = some (.ref fa) →
      s₁.heap.get? a = some { cls := .type "list", data := .seq vs.toArray } → IntsAre vs ns → ns.length ≤ n → s₁.gens = #[] →
      codeAny (model l.prog w) callerA (.call (.ref fa) ⟨[.ref a], []⟩) (fun r s' => r = .ok (.ret (.bool true)) ∧ OldK s₁.heap s'.heap ∧ s'.os = s₁.os ∧ AllBare s'.gens) s₁) :
    WalkO q loose XP YP l.row.toRowW d [] (fun f vs => PySem.call f vs) := by
  intro w s₀ s₁ mg mb G Y fa o pm cd doc dV kV ho hd hcd hD hmg hg args vals as hpre hlay hrd hwl hlo
  obtain rfl : dV = .none := Dflts.none hD hdf
  obtain rfl : kV = .none := Dflts.noKw hD
  obtain ⟨a, vs, ns, rfl, rfl, hobj, hints, hlen⟩ := script_of hn hpre hwl
  refine enter_call (codeAny_mono (call w s₀ s₁ mg mb fa o pm cd doc a vs ns G Y ho (fd_plain hd) hcd hmg hobj hints hlen hg) fun r s' hq => ?_)
  obtain ⟨rfl, h2, h3, h4⟩ := hq
  exact ⟨.inl ⟨.bool true, .bool true, [], rfl, fun _ => rfl, .bool true, post_true l _, fun _ => ⟨List.Pairwise.nil, fun _ hm => (nomatch hm)⟩⟩, h2, h3, h4⟩
section
variable {prog : Program} {w : World} {A : Around} {E : Value → Shared → Prop} {s : Shared} {K : Frag}
end
end Att
namespace L2
open PySem PySem.Spec PyProof.Rows
theorem vals_ints : ∀ {vs : List Value} {ns : List Int}, IntsAre vs ns → Vals (ns.map V.int) vs
  | _, _, .nil => .nil
  | _, _, .cons n t h => .cons ⟨t, rfl⟩ (vals_ints h)
noncomputable def Only (H : Hp) : Prop := ∀ b, H b = none ∨ ∃ o xs, H b = some (.frz o (.lst xs))
theorem law_call {P : Program} {w : World} {K : PySem.W.Frag} {mg mb : Str → Option Value} {CX : CXT} {k : Nat} {fa a : Addr} {fd : FuncData} {x : Str} {sp : Sp} {s₁ : Shared} {vs : List Value} {ns : List Int}
    (KX : K.In s₁.heap) (hns : s₁.heap.Ns mainGlobals mg) (hb : s₁.heap.Ns builtinsNs mb) (hbb : ∀ x : Str, x ≠ "__name__" → mb x = bootBuiltins x) (hlim : s₁.heap.NoLimit) (hg : s₁.gens = #[])
    (ha : s₁.heap.get? a = some { cls := .type "list", data := .seq vs.toArray }) (hi : IntsAre vs ns) (hl : ns.length ≤ sizeLine) (hr : Room k callerA)
    (F : ∀ base : Heap, K.In base → base.Ns mainGlobals mg → FnOk P w K mg base CX k fa fd [x] sp) (hbind : ∀ (s : Shared) (u : Value), BindsTo s fd ⟨[u], []⟩ [(x, u)])
    (hsp : ∀ H : Hp, Only H → SqL K H a (ns.map V.int) → sp [.ref a] H (fun v _ => v = .bl true) fun _ _ _ => False)
    (hCX : ∀ H e s', CX [] H s₁ (fun _ _ _ => False) e s' → False) :
    codeAny (model P w) callerA (.call (.ref fa) ⟨[.ref a], []⟩) (fun r s' => r = .ok (.ret (.bool true)) ∧ OldK s₁.heap s'.heap ∧ s'.os = s₁.os ∧ AllBare s'.gens) s₁ := by
  have rv := vals_ints hi
  have lenV := hi.length
  -- from an abstract heap in which nothing but the script may be tracked
  have core : ∀ H : Hp, Only H → SqL K H a (ns.map V.int) → HOk P w H s₁.heap → (∀ b, H b ≠ none → b = a) → (H a ≠ none → K.lookup a = none) →
      codeAny (model P w) callerA (.call (.ref fa) ⟨[.ref a], []⟩) (fun r s' => r = .ok (.ret (.bool true)) ∧ OldK s₁.heap s'.heap ∧ s'.os = s₁.os ∧ AllBare s'.gens) s₁ := by
    intro H hO hS hok hA hK
    have base_of : ∀ {b : Addr} {o : Obj}, s₁.heap.get? b = some o → H b = none → (hidT s₁.heap H).get? b = some o := fun e n => hidT_get e n
    have noA : ∀ {b : Addr} {o : Obj} {es : Array DictEntry} {ep : Nat}, s₁.heap.get? b = some o → o.data = .dict es ep → H b = none := fun {b o es ep} e d => by
      cases q : H b with
      | none => rfl
      | some u =>
        have e' : b = a := hA b (by rw [q]; simp)
        subst e'
        rw [ha] at e; cases e
        have d' : Data.seq vs.toArray _ = Data.dict es ep := d
        cases d'
    have nsK : ∀ {b : Addr} {m : Str → Option Value}, s₁.heap.Ns b m → (hidT s₁.heap H).Ns b m := fun {b m} ⟨o, es, ep, e, d, r⟩ => ⟨o, es, ep, base_of e (noA e d), d, r⟩
    have hKb : K.In (hidT s₁.heap H) := fun b o e => base_of (KX b o e) (by
      cases q : H b with
      | none => rfl
      | some u =>
        have e' : b = a := hA b (by rw [q]; simp)
        subst e'
        rw [hK (by rw [q]; simp)] at e; cases e)
    have hM : Mod K mg (hidT s₁.heap H) := ⟨hKb, nsK hns, ⟨mb, nsK hb, hbb⟩, let ⟨mc, h1, h2⟩ := hlim; ⟨mc, nsK h1, h2⟩⟩
    have e0 : Env0 P w K mg (hidT s₁.heap H) callerA [] s₁ H := ⟨rfl, hM, fun b o e => of_hidT e, Nat.le_of_eq (hidT_size _ _), trivial, fun b hb => absurd (show b ∈ ([] : List Addr) from hb) (by simp), hok, .of_eq hg⟩
    refine codeAny_mono ((F _ hKb (nsK hns)).run callerA [] s₁ H ⟨[.ref a], []⟩ [.ref a] [.ref a] _ _ hr e0 (hbind s₁ (.ref a)) (.cons rfl .nil) (hsp H hO hS)) fun r s' h => ?_
    cases r with
    | error e => exact (hCX H e s' h).elim
    | ok fl =>
      cases fl with
      | next => exact False.elim h
      | brk => exact False.elim h
      | cont => exact False.elim h
      | ret u =>
        obtain ⟨v, H', os, bare, un, hok', r', q⟩ := h
        have q' : v = .bl true := q
        subst q'
        obtain rfl : u = Value.bool true := r'
        refine ⟨rfl, OldK.of_keep fun b o e => ?_, os, bare⟩
        cases q : H b with
        | none => exact un.keep b o e q (by intro z; exact absurd (show b ∈ ([] : List Addr) from z) (by simp)) (by simp)
        | some u =>
          rcases hO b with z | ⟨ob, xs, z⟩
          · rw [q] at z; cases z
          · have z2 := un.frzs b ob _ z
            obtain ⟨e1, _⟩ := hok b _ z
            obtain ⟨e2, _⟩ := hok' b _ z2
            rw [e] at e1; cases e1
            exact e2
  cases hk : K.lookup a with
  | some o =>
    -- the script is one of the module's own objects
    have e := KX a o hk
    rw [ha] at e
    cases e
    refine core (fun _ => none) (fun _ => .inl rfl) (.inr ⟨_, vs.toArray, _, hk, rfl, rfl, rfl, by rw [List.size_toArray, lenV]; exact hl, by simpa using rv⟩) (fun b u z => by have z' : (none : Option HO) = some u := z; cases z') (fun b z => absurd rfl z) fun z => absurd rfl z
  | none =>
    refine core (fun b => if b = a then some (.frz { cls := .type "list", data := .seq vs.toArray } (.lst (ns.map V.int))) else none) (fun b => ?_) (.inl (.inr ⟨{ cls := .type "list", data := .seq vs.toArray }, if_pos rfl⟩)) (fun b u z => ?_) (fun b z => ?_) fun _ => hk
    · by_cases hb : b = a
      · exact .inr ⟨_, _, if_pos hb⟩
      · exact .inl (if_neg hb)
    · by_cases hb : b = a
      · have z' := (if_pos hb).symm.trans z
        cases z'
        subst hb
        exact ⟨ha, by rw [List.length_map]; exact hl, vs, _, rv, ha⟩
      · have z' := (if_neg hb).symm.trans z
        cases z'
    · by_cases hb : b = a
      · exact hb
      · exact absurd (if_neg hb) z
end L2
namespace L2
open PySem PySem.Spec PyProof.Rows
theorem walk_of {l : PySem.W.OpenLaw} {n k : Nat} {q : Program} {loose : List Str} {XP : (Str → Option Value) → Heap → Prop} {YP : World → Heap → Prop} {d : DefRec} {K : Params → PySem.W.Frag} {CX : World → CXT} {sp : World → Sp} {x : Str}
    (hn : l.most = some n) (hn2 : n ≤ sizeLine) (hdf : d.params.defaults = []) (hr : Room k callerA)
    (hY : ∀ (w : World) (h : Heap), YP w h → (K w.params).In h)
    (F : ∀ (w : World) (mg : Str → Option Value) (fa : Addr) (h : Heap), (K w.params).In h → h.Ns mainGlobals mg → mg d.name = some (.ref fa) →
      ∃ fd : FuncData, (∀ (s : Shared) (u : Value), BindsTo s fd ⟨[u], []⟩ [(x, u)]) ∧
        ∀ base : Heap, (K w.params).In base → base.Ns mainGlobals mg → FnOk l.prog w (K w.params) mg base (CX w) k fa fd [x] (sp w))
    (hsp : ∀ (w : World) (H : Hp) (a : Addr) (ns : List Int), ns.length ≤ n → Only H → SqL (K w.params) H a (ns.map V.int) → sp w [.ref a] H (fun v _ => v = .bl true) fun _ _ _ => False)
    (hCX : ∀ (w : World) (H : Hp) (s : Shared) (e : Value) (s' : Shared), CX w [] H s (fun _ _ _ => False) e s' → False) :
    PySem.W.WalkO q loose XP YP l.row.toRowW d [] (fun f vs => PySem.call f vs) := by
  refine Att.attach_call hn hdf fun w s₀ s₁ mg mb fa o pm cd doc a vs ns G Y ho hd hcd hmg hobj hints hlen hg => ?_
  have KX := hY w _ Y
  obtain ⟨fd, hb, hF⟩ := F w mg fa _ KX G.T.g hmg
  exact law_call KX G.T.g G.T.b G.T.builtins G.T.nolimit hg hobj hints (Nat.le_trans hlen hn2) hr hF hb (fun H hO hS => hsp w H a ns hlen hO hS) fun H e s' => hCX w H s₁ e s'
end L2
namespace L2
open PySem PySem.Spec PyProof.Rows
noncomputable def inClass (s : Stmt) (j : Nat) : Stmt := match s with
  | .ClassDef _ _ _ body _ _ _ _ _ _ _ => body.getD j (.Pass ⟨0, 0, 0, 0⟩)
  | _ => .Pass ⟨0, 0, 0, 0⟩
noncomputable def defArgs (s : Stmt) : Arguments := match s with
  | .FunctionDef _ a _ _ _ _ _ _ _ _ => a
  | _ => { posonlyargs := [], args := [], vararg := none, kwonlyargs := [], kw_defaults := [], kwarg := none, defaults := [] }
noncomputable def defBody (s : Stmt) : List Stmt := match s with
  | .FunctionDef _ _ b _ _ _ _ _ _ _ => b
  | _ => []
noncomputable def defScope (s : Stmt) : Scope := match s with
  | .FunctionDef _ _ _ _ _ _ sc _ _ _ => sc
  | _ => { kind := .function, names := [], isGenerator := false, isCoroutine := false }
noncomputable abbrev CX0 : CXT := fun _ _ _ _ _ _ => False
noncomputable abbrev E0 : XK := fun _ _ _ => False
theorem pass0 {X : Cx} : Passes CX0 X E0 := fun _ _ _ _ _ _ _ h => h.elim
structure Fun (K : PySem.W.Frag) (x qual : Str) (st : Stmt) (f : Addr) (fd : FuncData) : Prop where
  ex : ∃ (oc : Value) (od : Option Addr) (kV doc pm : Value) (an : Option Addr) (cdv ct : Value) (osl : Array (Option Value)),
    fd = PySem.W.fnOf x qual (defArgs st) (defBody st) (defScope st) .none kV doc pm an cdv ct ∧ K.lookup f = some ⟨oc, od, .func fd, osl⟩ ∧ PySem.W.codeIn K cdv qual = true
  kp : PySem.W.keepIn K (.ref f) = true
section
variable {P : Program} {w : World} {K : PySem.W.Frag} {mg : Str → Option Value} {base : Heap}
theorem Fun.ok {x qual : Str} {st : Stmt} {f : Addr} {fd : FuncData} {N ps : List Str} {k : Nat} {sp : Sp} (F : Fun K x qual st f fd) (S : FnScope N ps (defScope st)) (len : ∀ vs H Q E, sp vs H Q E → vs.length = ps.length)
    (hbody : ∀ (cdv : Value) (A : Around) (outer : List Env) (s : Shared) (H : Hp) (vs : List V) (Q : VK) (E : XK), Room k (A.deeper (envOfC qual (defScope st) s.heap.objs.size f cdv)) → sp vs H Q E →
      ∃ t, PSs (cxOf CX0 P w K mg base N qual (defScope st) f cdv A outer s H E).nox (defBody st) t ∧ t { nx := fun _ H' => Q .non H', rt := Q } (start N vs) H) : FnOk P w K mg base CX0 (k + 1) f fd ps sp := by
  obtain ⟨oc, od, kV, doc, pm, an, cdv, ct, osl, rfl, lk, hcd⟩ := F.ex
  refine fn_of lk hcd S len fun A outer s H vs Q E hr hsp => ?_
  obtain ⟨t, h, q⟩ := hbody cdv A outer s H vs Q E hr hsp
  exact ⟨t, h.nox, q⟩
theorem Fun.binds {x qual : Str} {st : Stmt} {f : Addr} {fd : FuncData} {ps : List Str} (F : Fun K x qual st f fd)
    (h : ∀ (kV doc pm : Value) (an : Option Addr) (cdv ct : Value) (us : List Value), us.length = ps.length → bindArgs (PySem.W.fnOf x qual (defArgs st) (defBody st) (defScope st) .none kV doc pm an cdv ct) ⟨us, []⟩ = pure (ps.zip us)) : Binds K fd ps [] := by
  obtain ⟨oc, od, kV, doc, pm, an, cdv, ct, osl, rfl, lk, hcd⟩ := F.ex
  exact .all (h kV doc pm an cdv ct)
theorem fun_mk {x qual : Str} {st : Stmt} {f : Addr} {oc : Value} {od an : Option Addr} {osl : Array (Option Value)} {kV doc pm cdv ct : Value} (l : K.lookup f = some ⟨oc, od, .func (PySem.W.fnOf x qual (defArgs st) (defBody st) (defScope st) .none kV doc pm an cdv ct), osl⟩)
    (c : PySem.W.codeIn K cdv qual = true) (k : PySem.W.keepIn K (.ref f) = true) : Fun K x qual st f (PySem.W.fnOf x qual (defArgs st) (defBody st) (defScope st) .none kV doc pm an cdv ct) := ⟨⟨oc, od, kV, doc, pm, an, cdv, ct, osl, rfl, l, c⟩, k⟩
end
theorem small1000 {n : Nat} (h : n ≤ 1000) : n < sizeLine := Nat.lt_of_le_of_lt h (by decide)
section
variable {X : Cx}
theorem pv (i : Nat) {x : Str} {pos : Pos} (hN : X.N[i]? = some x := by rfl) (hv : Vis X.env.scope x := by first | exact Or.inl rfl | exact Or.inr (Or.inl rfl) | exact Or.inr (Or.inr rfl)) (hd : (x == ("__debug__" : Str)) = false := by decide)
    (hcd : (x == ("__classdict__" : Str)) = false := by decide) : PE X (.Name x pos) (tVar i) := pe_var hN hv hd hcd
end
theorem iteF {A B : Prop} (h : B) : if false = true then A else B := by
  rw [if_neg Bool.false_ne_true]
  exact h
theorem iteT {A B : Prop} (h : A) : if true = true then A else B := by
  rw [if_pos rfl]
  exact h
theorem ite2 {c A B : Prop} [Decidable c] (h1 : c → A) (h2 : ¬ c → B) : if c then A else B := by
  by_cases h : c
  · rw [if_pos h]
    exact h1 h
  · rw [if_neg h]
    exact h2 h
theorem iteNS {c A B : Prop} [Decidable c] (hc : c) (h : B) : if (!decide c) = true then A else B := by
  rw [decide_eq_true hc]
  exact iteF h
noncomputable def Same (H H' : Hp) : Prop := ∀ b o, H b = some o → H' b = some o
theorem Same.refl (H : Hp) : Same H H := fun _ _ h => h
theorem Same.trans {H H1 H2 : Hp} (a : Same H H1) (b : Same H1 H2) : Same H H2 := fun c o h => b c o (a c o h)
theorem Same.free {H H' : Hp} (e : Same H H') {l : Addr} (h : H' l = Option.none) : H l = Option.none := by
  cases q : H l with
  | none => rfl
  | some o =>
    rw [e l o q] at h
    cases h
theorem Same.seq {K : PySem.W.Frag} {H H' : Hp} {a : Addr} {xs : List V} (e : Same H H') (h : SqL K H a xs) : SqL K H' a xs := by
  rcases h with (h | ⟨o, h⟩) | h
  · exact .inl (.inl (e _ _ h))
  · exact .inl (.inr ⟨o, e _ _ h⟩)
  · exact .inr h
end L2
namespace L2
open PySem PySem.Spec PyProof.Rows
section
variable {X : Cx}
end
section
variable {κ : Type} [DecidableEq κ]
end
end L2
set_option maxHeartbeats 4000000
namespace L2
open PySem PySem.Spec PyProof.Rows
noncomputable def clOf : List (Str × NameKind) → List (Str × Addr) → List (Str × Addr) → List (Str × Addr)
  | [], _, acc => acc
  | (n, k) :: r, cells, acc => if k == .free then clOf r cells ((n, (cells.lookup n).getD 0) :: acc) else clOf r cells acc
noncomputable def cmpChk (N own : List Str) (scope : Scope) (env : Env) : Bool := (scope.names.all fun y => match y.2 with
  | .local => scope.names.lookup y.1 == some .local && (own.contains y.1 || !N.contains y.1)
  | .free => scope.names.lookup y.1 == some .free && (env.kindOf y.1 == some .cell || env.kindOf y.1 == some .free)
  | .cell => false
  | _ => true) && own.all fun y => (scope.names.lookup (".0." ++ y)).isNone
theorem clOf_pure {env : Env} : ∀ (l : List (Str × NameKind)) (acc : List (Str × Addr)), (∀ y ∈ l, y.2 = .free → ∃ c, env.cells.lookup y.1 = some c) →
    (forIn l acc (fun (x : Str × NameKind) (r : List (Str × Addr)) => if (x.2 == NameKind.free) = true then do let c ← cellOf env x.1; pure (ForInStep.yield ((x.1, c) :: r)) else pure (ForInStep.yield r)) : Sem (List (Str × Addr))) = pure (clOf l env.cells acc)
  | [], acc, _ => rfl
  | (n, k) :: r, acc, h => by
    rw [List.forIn_cons]
    unfold clOf
    by_cases hk : (k == NameKind.free) = true
    · have hk' : k = .free := by simpa using hk
      obtain ⟨c, hc⟩ := h (n, k) List.mem_cons_self hk'
      rw [if_pos hk, if_pos hk]
      have e1 : cellOf env n = pure c := by unfold cellOf; rw [hc]
      rw [e1, hc]
      show (forIn r ((n, c) :: acc) _ : Sem _) = _
      exact clOf_pure r _ fun y hy => h y (List.mem_cons_of_mem _ hy)
    · rw [if_neg hk, if_neg hk]
      show (forIn r acc _ : Sem _) = _
      exact clOf_pure r _ fun y hy => h y (List.mem_cons_of_mem _ hy)
theorem closure_is {scope : Scope} {env : Env} (h : ∀ y ∈ scope.names, y.2 = .free → ∃ c, env.cells.lookup y.1 = some c) : closureFor scope env = pure (clOf scope.names env.cells []) := by
  have q := clOf_pure (env := env) scope.names [] h
  unfold closureFor
  show (forIn scope.names [] _ >>= fun r => pure r : Sem _) = _
  rw [← q]
  simp only [bind_pure]
theorem clOf_sub {cells : List (Str × Addr)} {x : Str} {c : Addr} : ∀ (l : List (Str × NameKind)) (acc : List (Str × Addr)), (∀ y ∈ l, y.2 = .free → ∃ c, cells.lookup y.1 = some c) → (∀ c, acc.lookup x = some c → cells.lookup x = some c) →
    (clOf l cells acc).lookup x = some c → cells.lookup x = some c
  | [], acc, _, ha, h => ha c h
  | (n, k) :: r, acc, hl, ha, h => by
    unfold clOf at h
    by_cases hk : (k == NameKind.free) = true
    · rw [if_pos hk] at h
      refine clOf_sub r _ (fun y hy => hl y (List.mem_cons_of_mem _ hy)) (fun c' hc' => ?_) h
      obtain ⟨d, hd⟩ := hl (n, k) List.mem_cons_self (by simpa using hk)
      rw [hd] at hc'
      rw [List.lookup_cons] at hc'
      cases e : x == n with
      | true =>
        rw [e] at hc'
        have e' : x = n := by simpa using e
        rw [e', hd]
        exact hc'
      | false =>
        rw [e] at hc'
        exact ha c' hc'
    · rw [if_neg hk] at h
      exact clOf_sub r acc (fun y hy => hl y (List.mem_cons_of_mem _ hy)) ha h
theorem clOf_has {cells : List (Str × Addr)} {x : Str} : ∀ (l : List (Str × NameKind)) (acc : List (Str × Addr)), ((∃ c, acc.lookup x = some c) ∨ (x, NameKind.free) ∈ l) → ∃ c, (clOf l cells acc).lookup x = some c
  | [], acc, h => by
    rcases h with h | h
    · exact h
    · cases h
  | (n, k) :: r, acc, h => by
    unfold clOf
    by_cases hk : (k == NameKind.free) = true
    · rw [if_pos hk]
      refine clOf_has r _ ?_
      by_cases e : x = n
      · subst e
        exact .inl ⟨_, by rw [List.lookup_cons, beq_self_eq_true]⟩
      · rcases h with ⟨c, h⟩ | h
        · refine .inl ⟨c, ?_⟩
          rw [List.lookup_cons]
          have : (x == n) = false := by simpa using e
          rw [this]; exact h
        · rcases List.mem_cons.mp h with h | h
          · exact absurd (congrArg Prod.fst h) e
          · exact .inr h
    · rw [if_neg hk]
      refine clOf_has r _ ?_
      rcases h with h | h
      · exact .inl h
      · rcases List.mem_cons.mp h with h | h
        · have : k = .free := (congrArg Prod.snd h).symm
          rw [this] at hk
          exact absurd rfl hk
        · exact .inr h
noncomputable def hide (own : List Str) (x : Str) : Str := if own.contains x then ".0." ++ x else x
noncomputable def cxComp (X : Cx) (scope : Scope) (own : List Str) (ex : List Addr) (pn : List (Addr × Obj)) (C : Addr) (s₀ : Shared) (H₀ : Hp) : Cx where
  prog := X.prog
  w := X.w
  K := X.K
  mg := X.mg
  base := X.base
  A := X.A
  N := own ++ X.N.map (hide own)
  s₀ := s₀
  H₀ := H₀
  env := compEnvC scope (clOf scope.names X.env.cells []) C X.env
  outer := X.stack
  stack := X.stack
  ex := ex
  fn := fun _ => false
  calm := X.calm
  pn := pn
  xe := fun _ _ => False
theorem lookup_relabel {env : Env} : ∀ {names : List (Str × NameKind)} {x : Str} {k : NameKind},
    (names.map fun (n, k) => if (k == NameKind.free && env.scope.kind == .function && env.kindOf n == some .cell) then (n, NameKind.cell) else (n, k)).lookup x = some k →
    names.lookup x = some k ∨ (k = .cell ∧ names.lookup x = some .free ∧ env.kindOf x = some .cell)
  | [], _, _, h => by simp at h
  | (n, k') :: r, x, k, h => by
    have ih := @lookup_relabel env r x k
    have h : List.lookup x ((if (k' == NameKind.free && env.scope.kind == .function && env.kindOf n == some .cell) = true then (n, NameKind.cell) else (n, k')) :: _) = some k := h
    cases hx : x == n with
    | true =>
      have e : x = n := by simpa using hx
      by_cases hc : (k' == NameKind.free && env.scope.kind == .function && env.kindOf n == some .cell) = true
      · rw [if_pos hc, List.lookup_cons, hx] at h
        simp only [Bool.and_eq_true, beq_iff_eq] at hc
        have hk : NameKind.cell = k := Option.some.inj h
        refine .inr ⟨hk.symm, ?_, by rw [e]; exact hc.2⟩
        rw [List.lookup_cons, hx, hc.1.1]
      · rw [if_neg hc, List.lookup_cons, hx] at h
        refine .inl ?_
        rw [List.lookup_cons, hx]
        exact h
    | false =>
      have q : List.lookup x (r.map fun (n, k) => if (k == NameKind.free && env.scope.kind == .function && env.kindOf n == some .cell) then (n, NameKind.cell) else (n, k)) = some k := by
        by_cases hc : (k' == NameKind.free && env.scope.kind == .function && env.kindOf n == some .cell) = true
        · rw [if_pos hc, List.lookup_cons, hx] at h; exact h
        · rw [if_neg hc, List.lookup_cons, hx] at h; exact h
      rcases ih q with z | z
      · exact .inl (by rw [List.lookup_cons, hx]; exact z)
      · exact .inr ⟨z.1, by rw [List.lookup_cons, hx]; exact z.2.1, z.2.2⟩
structure CmpOk (X : Cx) (scope : Scope) (own : List Str) : Prop where
  kind : scope.kind = .function
  nocell : ∀ y ∈ scope.names, y.2 ≠ .cell
  loc : ∀ y ∈ scope.names, y.2 = .local → scope.names.lookup y.1 = some .local
  free : ∀ y ∈ scope.names, y.2 = .free → X.env.kindOf y.1 = some .cell ∨ X.env.kindOf y.1 = some .free
  rest : ∀ x, scope.names.lookup x = some .local → x ∈ X.N → x ∈ own
  hid : ∀ y ∈ own, scope.names.lookup (".0." ++ y) = none
theorem cmpOk {X : Cx} {scope : Scope} {own : List Str} (hk : scope.kind = .function) (h : cmpChk X.N own scope X.env = true) : CmpOk X scope own := by
  unfold cmpChk at h
  rw [Bool.and_eq_true, List.all_eq_true, List.all_eq_true] at h
  obtain ⟨h, h2⟩ := h
  have hl : ∀ y ∈ scope.names, y.2 = .local → scope.names.lookup y.1 = some .local ∧ (y.1 ∈ own ∨ y.1 ∉ X.N) := fun y hy e => by
    have q := h y hy
    rw [e] at q
    have q2 : (scope.names.lookup y.1 == some .local && (own.contains y.1 || !X.N.contains y.1)) = true := q
    simp only [Bool.and_eq_true, Bool.or_eq_true, beq_iff_eq, List.contains_iff_mem, Bool.not_eq_true', ← Bool.not_eq_true] at q2
    exact q2
  refine ⟨hk, fun y hy e => ?_, fun y hy e => (hl y hy e).1, fun y hy e => ?_, fun x e hx => ?_, fun y hy => ?_⟩
  · have q := h y hy
    rw [e] at q
    exact absurd q Bool.false_ne_true
  · have q := h y hy
    rw [e] at q
    have q2 : (scope.names.lookup y.1 == some .free && (X.env.kindOf y.1 == some .cell || X.env.kindOf y.1 == some .free)) = true := q
    simp only [Bool.and_eq_true, Bool.or_eq_true, beq_iff_eq] at q2
    exact q2.2
  · rcases (hl (x, .local) (PySem.mem_of_lookup e) rfl).2 with z | z
    · exact z
    · exact absurd hx z
  · exact Option.isNone_iff_eq_none.mp (h2 y hy)
section
variable {X : Cx} {scope : Scope} {own : List Str} {pins : List (Addr × Obj)} {σ : St} {H : Hp} {s : Shared}
theorem CmpOk.cells (c : CmpOk X scope own) (ok : X.Ok) : ∀ y ∈ scope.names, y.2 = .free → ∃ c, X.env.cells.lookup y.1 = some c := fun y hy e => ok.has y.1 (c.free y hy e)
theorem CmpOk.sub (c : CmpOk X scope own) (ok : X.Ok) {x : Str} {a : Addr} (h : (clOf scope.names X.env.cells []).lookup x = some a) : X.env.cells.lookup x = some a :=
  clOf_sub scope.names [] (c.cells ok) (fun _ z => nomatch z) h
theorem CmpOk.kindOf (c : CmpOk X scope own) {C : Addr} {cl : List (Str × Addr)} {x : Str} {k : NameKind} (h : (compEnvC scope cl C X.env).kindOf x = some k) :
    scope.names.lookup x = some k ∨ (k = .cell ∧ scope.names.lookup x = some .free ∧ X.env.kindOf x = some .cell) := lookup_relabel h
theorem CmpOk.free_of (c : CmpOk X scope own) {C : Addr} {cl : List (Str × Addr)} {x : Str} (h : (compEnvC scope cl C X.env).kindOf x = some .cell ∨ (compEnvC scope cl C X.env).kindOf x = some .free) : scope.names.lookup x = some .free := by
  rcases h with h | h
  · rcases c.kindOf h with z | z
    · exact absurd rfl (c.nocell _ (PySem.mem_of_lookup z))
    · exact z.2.1
  · rcases c.kindOf h with z | z
    · exact z
    · exact nomatch z.1
theorem Inv.compOk {fp : List Addr} {C : Addr} (I : Inv X pins σ H s) (c : CmpOk X scope own) (hC : s.heap.objs.size ≤ C) (hf : ∀ b ∈ fp, FpOk X pins H b) (ho : ∀ b ∈ fp, ∃ o, s.heap.get? b = some o) :
    (cxComp X scope own fp (X.pn ++ pins) C s H).Ok where
  mod := I.ok.mod
  kind := c.kind
  glob := I.ok.glob
  blt := I.ok.blt
  above := hC
  inj := fun x y a h1 h2 => I.ok.inj x y a (c.sub I.ok h1) (c.sub I.ok h2)
  has := fun x h => clOf_has scope.names [] (.inr (PySem.mem_of_lookup (c.free_of h)))
  cab := fun x a z _ => absurd z Bool.false_ne_true
  hd := I.ok.hd
  frames := I.ok.frames
  stk := .inl rfl
  exf := fun b hb => by
    obtain ⟨o, e⟩ := ho b hb
    exact ⟨Nat.ne_of_lt (Nat.lt_of_lt_of_le (Heap.lt_size e) hC), fun x a h => (hf b hb).2.2.2.2.1 x a (c.sub I.ok h)⟩
  bs := I.bs
  bsz := Nat.le_trans I.ok.bsz I.sz
  noex := fun b o e hb => by
    rcases (hf b hb).2.2.2.1 with z | z
    · exact I.ok.noex b o e z
    · exact absurd (Nat.lt_of_lt_of_le (Heap.lt_size e) (Nat.le_trans I.ok.bsz z)) (Nat.lt_irrefl _)
  exfs := fun b hb z => by
    rcases List.mem_cons.mp (I.stkSub b z) with e | e
    · exact (hf b hb).2.1 e
    · exact (hf b hb).2.2.1 e
  funs := I.stack
  frf := I.stkFree
noncomputable def turnσ (own : List Str) (σ : St) : St := List.replicate own.length none ++ σ
theorem Inv.compIn {fp : List Addr} {h₁ : Heap} {t' : Nat} {C : Addr} (I : Inv X pins σ H s) (c : CmpOk X scope own) (hC : s.heap.objs.size ≤ C) (hf : ∀ b ∈ fp, FpOk X pins H b) (ho : ∀ b ∈ fp, ∃ o, s.heap.get? b = some o)
    (kp : ∀ b o, s.heap.get? b = some o → h₁.get? b = some o) (hn : h₁.Ns C (fun _ => none)) :
    Inv (cxComp X scope own fp (X.pn ++ pins) C s H) [] (turnσ own σ) H { s with heap := h₁, toks := t' } where
  ok := I.compOk c hC hf ho
  os := rfl
  bare := I.bare
  base := (Un.kept kp : Un (frs X.stack) [] H H s.heap h₁).mono (fun _ z => z) (fun _ z => nomatch z)
  loc := by
    obtain ⟨m, hm, hl⟩ := I.loc
    refine ⟨_, hn, fun i x v e1 e2 e3 => ?_⟩
    have e1 : (own ++ X.N.map (hide own))[i]? = some x := e1
    have e2 : (List.replicate own.length none ++ σ)[i]? = some (some v) := e2
    by_cases hi : i < own.length
    · rw [List.getElem?_append_left (by simpa using hi), List.getElem?_replicate, if_pos hi] at e2
      cases e2
    · have hi : own.length ≤ i := Nat.le_of_not_lt hi
      rw [List.getElem?_append_right (by simpa using hi), List.length_replicate] at e2
      rw [List.getElem?_append_right hi, List.getElem?_map] at e1
      cases e : X.N[i - own.length]? with
      | none => rw [e] at e1; cases e1
      | some y =>
        rw [e] at e1
        have e1 : hide own y = x := Option.some.inj e1
        have vis : scope.names.lookup x = some .free ∨ scope.names.lookup x = some .local := by
          rcases e3 with z | z | z
          · rcases c.kindOf (C := C) (cl := clOf scope.names X.env.cells []) z with z | z
            · exact .inr z
            · exact nomatch z.1
          · exact .inl (c.free_of (C := C) (cl := clOf scope.names X.env.cells []) (.inl z))
          · exact .inl (c.free_of (C := C) (cl := clOf scope.names X.env.cells []) (.inr z))
        have hxy : y = x ∧ ¬ y ∈ own := by
          unfold hide at e1
          by_cases hy : y ∈ own
          · rw [if_pos (by simpa using hy)] at e1
            have := c.hid y hy
            rw [e1] at this
            rcases vis with z | z
            · rw [this] at z; cases z
            · rw [this] at z; cases z
          · rw [if_neg (by simpa using hy)] at e1
            exact ⟨e1, hy⟩
        obtain ⟨rfl, hy⟩ := hxy
        rcases vis with z | z
        · have hk := c.free _ (PySem.mem_of_lookup z) rfl
          obtain ⟨u, ru, lk⟩ := hl _ y v e e2 (by
            rcases hk with q | q
            · exact .inr (.inl q)
            · exact .inr (.inr q))
          refine ⟨u, ru, .inr ?_⟩
          rcases lk with ⟨q, _⟩ | ⟨_, a, ha, hc⟩
          · rcases hk with q' | q'
            · exact nomatch (show some NameKind.local = some NameKind.cell from q.symm.trans q')
            · exact nomatch (show some NameKind.local = some NameKind.free from q.symm.trans q')
          · obtain ⟨a', ha'⟩ := clOf_has (cells := X.env.cells) scope.names [] (.inr (PySem.mem_of_lookup z))
            have e4 := c.sub I.ok ha'
            rw [ha] at e4
            obtain rfl : a = a' := Option.some.inj e4
            refine ⟨?_, a, ha', ?_⟩
            · rcases e3 with q | q | q
              · rcases c.kindOf (C := C) (cl := clOf scope.names X.env.cells []) q with q | q
                · rw [z] at q; cases q
                · exact nomatch q.1
              · exact .inl q
              · exact .inr q
            · obtain ⟨o, e, d⟩ := hc
              exact ⟨o, kp _ _ e, d⟩
        · exact absurd (c.rest y z (List.mem_of_getElem? e)) hy
  cell := fun x a h => by
    obtain ⟨v, z⟩ := I.cell x a (c.sub I.ok h)
    obtain ⟨o, e, d⟩ := z
    exact ⟨v, o, kp _ _ e, d⟩
  free := I.hok.fresh hC
  freeC := fun x a h => I.freeC x a (c.sub I.ok h)
  pin := fun p hp => by
    have hp : p ∈ (X.pn ++ pins) ++ [] := hp
    rw [List.append_nil] at hp
    obtain ⟨e, n, ne, nf, d⟩ := I.pin p hp
    refine ⟨kp _ _ e, n, Nat.ne_of_lt (Nat.lt_of_lt_of_le (Heap.lt_size e) hC), fun z => ?_, d⟩
    rcases List.mem_cons.mp (I.stkSub p.1 z) with q | q
    · exact ne q
    · exact nf q
  hok := I.hok.kept kp
  len := by
    show (List.replicate own.length none ++ σ).length = (own ++ X.N.map (hide own)).length
    rw [List.length_append, List.length_append, List.length_replicate, List.length_map, I.len]
end
end L2
namespace L2
open PySem PySem.Spec PyProof.Rows
section
variable {prog : Program} {w : World} {A : Around} {R : Result → Shared → Prop} {s : Shared}
theorem codeAny_compLoop_gen {elt target iter : Expr} {ifs : List Expr} {scope : Scope} {pos : Pos} {it acc : Value} {env : Env} (I : Nat → Shared → Prop)
    (turn : ∀ n s, I n s → wpAny (model prog w) A (pyNext it) (fun r s₁ => match r with
      | none => R (.ok .next) s₁
      | some v => wpAny (model prog w) A (letOwnedTupleGo target it v) (fun _ s₀ => wpAny (model prog w) A (assign target env v) (fun _ s₂ =>
          wpAny (model prog w) A (forIn ifs true fun c r => if r = true then do let ok ← isTrue c env (eval c env); pure (ForInStep.yield ok) else pure (ForInStep.yield r)) (fun ok s₃ =>
            if ok = true then wpAny (model prog w) A (eval elt env) (fun x s₄ =>
              wpAny (model prog w) A (call (.builtin "list.append") [acc, x]) (fun _ s₅ => ∃ m, m < n ∧ I m s₅) (fun _ _ => False) s₄) (fun _ _ => False) s₃
            else ∃ m, m < n ∧ I m s₃) (fun _ _ => False) s₂) (fun _ _ => False) s₀) (fun _ _ => False) s₁) (fun _ _ => False) s)
    (n : Nat) (h : I n s) :
    codeAny (model prog w) A (.compLoop (.ListComp elt [⟨target, iter, ifs, 0⟩] scope pos) 0 it acc env) R s := by
  refine codeAny_loop rfl I (fun n s hI => ?_) n h
  show wpAny _ A ((compTurn (.ListComp elt [⟨target, iter, ifs, 0⟩] scope pos) 0 it acc env).onRaise (fun x => do noteFrame x env; theTreesLotGoes x)) _ _ s
  refine wpAny_noted ?_
  rw [compTurn_list]
  refine wpAny_bind (wpAny_standAt (wpAny_bind (wpAny_mono (turn n s hI) (fun r s₁ h₁ => ?_) fun _ _ h' => h'.elim)))
  cases r with
  | none => exact wpAny_pure h₁
  | some v =>
    refine wpAny_bind (wpAny_mono h₁ (fun _ s₀ h₀ => ?_) fun _ _ h' => h'.elim)
    refine wpAny_bind (wpAny_mono h₀ (fun _ s₂ h₂ => wpAny_bind (wpAny_mono h₂ (fun ok s₃ h₃ => ?_) fun _ _ h' => h'.elim)) fun _ _ h' => h'.elim)
    cases ok with
    | false => exact wpAny_pure ⟨rfl, h₃⟩
    | true =>
      exact wpAny_bind (wpAny_bind (wpAny_mono h₃ (fun x s₄ h₄ => wpAny_bind (wpAny_mono h₄ (fun _ s₅ h₅ => wpAny_pure (wpAny_pure ⟨rfl, h₅⟩)) fun _ _ h' => h'.elim)) fun _ _ h' => h'.elim))
end
noncomputable def PIf (X : Cx) (ifs : List Expr) (t : TT) : Prop :=
  ∀ (pins : List (Addr × Obj)) (s : Shared) (σ : St) (H : Hp) (Q : Bool → Hp → Prop), Inv X pins σ H s → t σ H Q →
    wpAny (model X.prog X.w) X.A (forIn ifs true fun c r => if r = true then do let ok ← isTrue c X.env (eval c X.env); pure (ForInStep.yield ok) else pure (ForInStep.yield r)) (TP X pins σ Q) X.xe s
noncomputable def tYes : TT := fun _ H Q => Q true H
theorem pif_nil {X : Cx} : PIf X [] tYes := fun _ _ _ H _ I h => wpAny_tests_nil ⟨H, I, h⟩
noncomputable def lsto (its : List Value) (k : Nat) : Obj := { cls := .type "list", data := .seq its.toArray k }
section
variable {X : Cx} {scope : Scope} {own : List Str} {pins : List (Addr × Obj)} {σ σ' : St} {H H' : Hp} {s s' : Shared} {fp : List Addr} {C D : Addr} {its : List Value} {k : Nat} {ys : List V}
theorem Inv.compOut {h'' : Heap} (I : Inv X pins σ H s) (hf : ∀ b ∈ fp, FpOk X pins H b) (hD : s.heap.objs.size ≤ D) (hC : s.heap.objs.size ≤ C) (hDC : D ≠ C)
    (J : Inv (cxComp X scope own fp (X.pn ++ pins) C s H) [(D, lsto its k)] σ' H' s') (r : Vals ys its) (hz : ys.length ≤ sizeLine) (sb : Heap.SameBut C s'.heap h'') :
    Inv X pins σ (upd H' D (.lst ys)) { s' with heap := h'' } := by
  have pD := J.pin (D, lsto its k) (List.mem_append_right _ List.mem_cons_self)
  have ltD : ∀ b o, s.heap.get? b = some o → b ≠ D := fun b o e => Nat.ne_of_lt (Nat.lt_of_lt_of_le (Heap.lt_size e) hD)
  have ltC : ∀ b o, s.heap.get? b = some o → b ≠ C := fun b o e => Nat.ne_of_lt (Nat.lt_of_lt_of_le (Heap.lt_size e) hC)
  have trD : ∀ b o, H b = some o → b ≠ D := fun b o e => Nat.ne_of_lt (Nat.lt_of_lt_of_le (I.hok.lt e) hD)
  have hCn : H' C = none := J.free
  have hDn : H' D = none := pD.2.1
  have B : Un (frs X.stack) fp H H' s.heap s'.heap := J.base
  have U : Un (frs X.stack) fp H (upd H' D (.lst ys)) s.heap h'' :=
    ⟨fun b o e n hb hx => (sb.2 b (ltC b o e)).trans (B.keep b o e n hb hx), fun b o e n hb hx => by
        obtain ⟨sl, q⟩ := B.slot b o e n hb hx
        exact ⟨sl, (sb.2 b (ltC b o e)).trans q⟩,
      fun b o e n hx => by rw [upd_ne (ltD b o e)]; exact B.free b o e n hx,
      fun b o e hx => by
        obtain ⟨o', q⟩ := B.there b o e hx
        exact ⟨o', (sb.2 b (ltC b o e)).trans q⟩,
      fun b xs e => by rw [upd_ne (trD b _ e)]; exact B.tups b xs e,
      fun b o u e => by rw [upd_ne (trD b _ e)]; exact B.frzs b o u e,
      fun b ps e => by rw [upd_ne (trD b _ e)]; exact B.tbls b ps e⟩
  have hok : HOk X.prog X.w (upd H' D (.lst ys)) h'' := fun b u e => by
    by_cases hb : b = D
    · subst hb
      rw [upd_same] at e
      cases e
      exact ⟨hz, its, k, r, (sb.2 b hDC).trans pD.1⟩
    · rw [upd_ne hb] at e
      have nC : ∀ c v, H' c = some v → c ≠ C := fun c v q z => by rw [z, hCn] at q; cases q
      have nD : ∀ c v, H' c = some v → c ≠ D := fun c v q z => by rw [z, hDn] at q; cases q
      refine (J.hok b u e).stay (fun c v hc q => (sb.2 c ?_).trans q) (fun c q => by rw [upd_ne (nD c _ q)]; exact q) fun c xs q => by rw [upd_ne (nD c _ q)]; exact q
      rcases hc with z | z
      · rw [z]; exact nC b u e
      · exact nC c _ z
  exact I.call' (s' := { s' with heap := h'' }) (ch := fp) J.os U hok J.bare fun b hb => ⟨(hf b hb).2.2.2.1, (hf b hb).2.1, (hf b hb).2.2.2.2.1, (hf b hb).2.2.2.2.2⟩
end
noncomputable def CompW (J : It) (m : Nat) (g : TG) (tc : TT) (te : TE) (σ : St) (H1 : Hp) (Q : VK) : Prop := ∃ W : Nat → Nat → List V → Hp → Prop, (∃ n, W 0 n [] H1) ∧ ∀ i n ys H, W i n ys H →
  (J.stop i H ∧ ys.length ≤ sizeLine ∧ ∀ p, H p = none → Q (.ref p) (upd H p (.lst ys))) ∨
  (J.go i H ∧ ys.length < sizeLine ∧ ∃ N : List V → Hp → Prop, (∀ ys' H', N ys' H' → ∃ n', n' < n ∧ W (i + 1) n' ys' H') ∧ ∀ x H', J.yld i H x H' →
    g x (List.replicate m none ++ σ) H' fun σ2 H2 => σ2.drop m = σ ∧ tc σ2 H2 fun b H3 => if b = true then te σ2 H3 fun y H4 => N (ys ++ [y]) H4 else N ys H3)
noncomputable def tComp (m : Nat) (wi : TI) (g : TG) (tc : TT) (te : TE) : TE := fun σ H Q => wi σ H fun J H1 => CompW J m g tc te σ H1 Q
section
variable {X : Cx} {scope : Scope} {own : List Str} {tg iter elt : Expr} {ifs : List Expr} {g : TG} {tc : TT} {te : TE} {wi : TI} {pos : Pos}
theorem comp_block (hcal : X.calm = true) (c : CmpOk X scope own) (hg : ∀ ex pn C s₀ H₀, PG (cxComp X scope own ex pn C s₀ H₀) tg g) (ht : ∀ ex pn C s₀ H₀, PIf (cxComp X scope own ex pn C s₀ H₀) ifs tc)
    (he : ∀ ex pn C s₀ H₀, PE (cxComp X scope own ex pn C s₀ H₀) elt te) {pins : List (Addr × Obj)} {σ : St} {H : Hp} {s : Shared} {E : Value → Shared → Prop} {RR : Value → Addr → Result → Shared → Prop}
    {it : Addr} {fp : List Addr} {tn : Nat → Heap → Prop} {J : It} (I : Inv X pins σ H s) (T : Turn X.prog X.w X.K tg J fp it tn) (t0 : tn 0 s.heap) (hf : ∀ b ∈ fp, FpOk X pins H b) {Fin : List V → Hp → Prop}
    (W : Nat → Nat → List V → Hp → Prop) (w0 : ∃ n, W 0 n [] H) (turn : ∀ i n ys H, W i n ys H → (J.stop i H ∧ ys.length ≤ sizeLine ∧ Fin ys H) ∨
      (J.go i H ∧ ys.length < sizeLine ∧ ∃ N : List V → Hp → Prop, (∀ ys' H', N ys' H' → ∃ n', n' < n ∧ W (i + 1) n' ys' H') ∧ ∀ x H', J.yld i H x H' →
        g x (List.replicate own.length none ++ σ) H' fun σ2 H2 => σ2.drop own.length = σ ∧ tc σ2 H2 fun b H3 => if b = true then te σ2 H3 fun y H4 => N (ys ++ [y]) H4 else N ys H3))
    (hRR : ∀ D C s' ys H', s.heap.objs.size ≤ D → s.heap.objs.size ≤ C → D ≠ C → H' D = none → H' C = none → (∃ m, s'.heap.Ns C m) → (∀ h'', Heap.SameBut C s'.heap h'' → Inv X pins σ (upd H' D (.lst ys)) { s' with heap := h'' }) → Fin ys H' → RR (.ref D) C (.ok .next) s') :
    wpAny (model X.prog X.w) X.A (newList []) (fun acc s₃ => wpAny (model X.prog X.w) X.A (newFunctionEnv scope X.env.globals (clOf scope.names X.env.cells []) [] X.env.qual none .none (some X.env)) (fun cenv s₄ =>
      codeAny (model X.prog X.w) X.A (.compStart (.ListComp elt [⟨tg, iter, ifs, 0⟩] scope pos) 0 (.ref it) acc { cenv with scope := relabel scope X.env }) (RR acc cenv.locals) s₄) E s₃) E s := by
  refine wpAny_newObj_type (wpAny_newFunctionEnv c.nocell (by intro y hy; simp at hy) (fun h₁ hns₁ hsb₁ => ?_) c.kind)
  dsimp only at hns₁ hsb₁ ⊢
  generalize hH2 : s.heap.push { cls := .type "list", dict := none, data := .seq ([] : List Value).toArray } = H2 at hns₁ hsb₁ ⊢
  have hCs : H2.objs.size = s.heap.objs.size + 1 := by rw [← hH2, Heap.size_push]
  generalize hDd : s.heap.objs.size = D at hCs ⊢
  generalize hCd : H2.objs.size = C at hCs hns₁ hsb₁ ⊢
  have hDC : D ≠ C := by rw [hCs]; exact Nat.ne_of_lt (Nat.lt_succ_self _)
  have hD : s.heap.objs.size ≤ D := Nat.le_of_eq hDd
  have hC : s.heap.objs.size ≤ C := by rw [hDd, hCs]; exact Nat.le_succ _
  have lt2 : ∀ b o, s.heap.get? b = some o → b ≠ D ∧ b ≠ C := fun b o e => ⟨Nat.ne_of_lt (Nat.lt_of_lt_of_le (Heap.lt_size e) hD), Nat.ne_of_lt (Nat.lt_of_lt_of_le (Heap.lt_size e) hC)⟩
  have old : ∀ b o, s.heap.get? b = some o → h₁.get? b = some o := fun b o e => hsb₁.extBut b o (lt2 b o e).2 (Heap.get?_push_of_some _ (hH2 ▸ Heap.get?_push_of_some _ e))
  have hacc : h₁.get? D = some (lsto [] 0) := hsb₁.extBut _ _ hDC (Heap.get?_push_of_some _ (by rw [← hH2, ← hDd]; exact Heap.get?_push_size _ rfl))
  have ho : ∀ b ∈ fp, ∃ o, s.heap.get? b = some o := fun b hb => let ⟨o, e, _⟩ := T.obj 0 _ t0 b hb; ⟨o, e⟩
  have nfD : ∀ b ∈ fp, b ≠ D := fun b hb => let ⟨o, e⟩ := ho b hb; (lt2 b o e).1
  have hDn : H D = none := I.hok.fresh hD
  have I1 : Inv (cxComp X scope own fp (X.pn ++ pins) C s H) [(D, lsto [] 0)] (turnσ own σ) H { s with heap := h₁, toks := s.toks + ([] : List (Str × Value)).length } := by
    refine (I.compIn c hC hf ho old (by simpa using hns₁)).pins_of fun p hp => ?_
    have e : p = (D, lsto [] 0) := by simpa using hp
    subst e
    refine ⟨hacc, hDn, hDC, fun z => ?_, fun v z => by cases (show Data.seq _ _ = Data.cell v from z)⟩
    obtain ⟨_, o, e, _⟩ := (I.stack).mem (show D ∈ frs X.stack from z)
    exact (lt2 D o e).1 rfl
  have cellD : ∀ x a, (clOf scope.names X.env.cells []).lookup x = some a → a ≠ D := fun x a h => by
    obtain ⟨v, o, e, _⟩ := I.cell x a (c.sub I.ok h)
    exact (lt2 a o e).1
  have pinD : ∀ p ∈ X.pn ++ pins, p.1 ≠ D := fun p hp => (lt2 _ _ (I.pin p hp).1).1
  have stat : ∀ {H' : Hp} {its : List Value} {k : Nat}, (∀ b ∈ fp, H' b = none) → ∀ b ∈ fp, FpOk (cxComp X scope own fp (X.pn ++ pins) C s H) [(D, lsto its k)] H' b := fun {H' its k} hn b hb => by
    obtain ⟨o, e⟩ := ho b hb
    obtain ⟨f0, f1, f2, f3, f4, f5⟩ := hf b hb
    refine ⟨hn b hb, (lt2 b o e).2, fun z => ?_, .inl hb, fun x a h => f4 x a (c.sub I.ok h), fun p hp => ?_⟩
    · rcases List.mem_cons.mp (I.stkSub b z) with q | q
      · exact f1 q
      · exact f2 q
    · rcases List.mem_append.mp hp with q | q
      · exact f5 p q
      · have : p = (D, lsto its k) := by simpa using q
        subst this
        exact Ne.symm (nfD b hb)
  have weak : ∀ {σ' : St} {H' : Hp} {s' : Shared} {pp : List (Addr × Obj)}, Inv (cxComp X scope own fp (X.pn ++ pins) C s H) pp σ' H' s' → σ'.drop own.length = σ → Inv (cxComp X scope own fp (X.pn ++ pins) C s H) pp (turnσ own σ) H' s' := fun {σ' H' s' pp} I' hd => by
    have hl := I'.len
    have hl1 := I1.len
    refine I'.weak (hl1.trans hl.symm) fun i v e => ?_
    have e : (List.replicate own.length none ++ σ)[i]? = some (some v) := e
    by_cases hi : i < own.length
    · rw [List.getElem?_append_left (by simpa using hi), List.getElem?_replicate, if_pos hi] at e
      cases e
    · have hi : own.length ≤ i := Nat.le_of_not_lt hi
      rw [List.getElem?_append_right (by simpa using hi), List.length_replicate, ← hd, List.getElem?_drop] at e
      rw [show own.length + (i - own.length) = i by omega] at e
      exact e
  obtain ⟨n0, w0⟩ := w0
  have loop : ∀ s₃ : Shared, s₃ = { s with heap := h₁, toks := s.toks + ([] : List (Str × Value)).length } →
      codeAny (model X.prog X.w) X.A (.compLoop (.ListComp elt [⟨tg, iter, ifs, 0⟩] scope pos) 0 (.ref it) (.ref D) (compEnvC scope (clOf scope.names X.env.cells []) C X.env)) (RR (.ref D) C) s₃ := by
    rintro s₃ rfl
    refine codeAny_compLoop_gen (fun n s' => ∃ i σ' H' ys its k, Inv (cxComp X scope own fp (X.pn ++ pins) C s H) [(D, lsto its k)] σ' H' s' ∧ σ'.drop own.length = σ ∧ Vals ys its ∧ tn i s'.heap ∧ (∀ b ∈ fp, H' b = none) ∧ W i n ys H') ?_ n0
      ⟨0, _, H, [], [], 0, I1, by simp [turnσ], .nil, T.keep _ _ _ t0 fun b _ o e => old b o e, fun b hb => (hf b hb).1, w0⟩
    rintro n s3 ⟨i, σ3, H3, ys, its, k, I3, hd3, rv, st3, fr3, w3⟩
    have hlen := rv.length
    rcases turn i n ys H3 w3 with ⟨stop, hz, fin⟩ | ⟨go, hz, N, hN, step⟩
    · refine thn (T.done (cxComp X scope own fp (X.pn ++ pins) C s H) rfl rfl rfl hcal i _ s3 σ3 H3 _ I3 (stat fr3) st3 stop) fun r s4 zpat => ?_
      obtain ⟨hr, I4⟩ := zpat
      subst hr
      obtain ⟨m, hm, _⟩ := id I4.loc
      exact hRR D C s4 ys H3 hD hC hDC (I4.pin (D, lsto its k) (List.mem_append_right _ List.mem_cons_self)).2.1 I4.free ⟨m, hm⟩ (fun h'' sb => I.compOut hf hD hC hDC I4 rv hz sb) fin
    · refine thn (T.item (cxComp X scope own fp (X.pn ++ pins) C s H) rfl rfl rfl hcal i _ s3 σ3 H3 _ I3 (stat fr3) st3 go) fun r s4 zpat => ?_
      obtain ⟨u, hr, h4⟩ := zpat
      subst hr
      refine thn h4 fun _ s5 zpat => ?_
      obtain ⟨x, H5, I5, r5, y5, st5, fr5⟩ := zpat
      have I5' := weak (I5.pinned (stat fr5) (T.obj _ _ st5)) hd3
      refine thn (hg fp (X.pn ++ pins) C s H _ s5 _ H5 x u _ I5' r5 (step x H5 y5)) fun _ s6 zpat => ?_
      obtain ⟨σ6, H6, I6, hd6, q6⟩ := zpat
      refine thn (ht fp (X.pn ++ pins) C s H _ s6 σ6 H6 _ I6 q6) fun b s7 zpat => ?_
      obtain ⟨H7, I7, q7⟩ := zpat
      have tnk : ∀ {σ7 : St} {H7 : Hp} {s7 : Shared}, Inv (cxComp X scope own fp (X.pn ++ pins) C s H) ([(D, lsto its k)] ++ pinsAt fp s5.heap) σ7 H7 s7 → tn (i + 1) s7.heap ∧ ∀ b ∈ fp, H7 b = none := fun {σ7 H7 s7} I7 => by
        refine ⟨T.keep _ _ _ st5 fun b hb o e => (I7.pin (b, o) (List.mem_append_right _ (List.mem_append_right _ (mem_pinsAt hb e)))).1, fun b hb => ?_⟩
        obtain ⟨o, e, d⟩ := T.obj _ _ st5 b hb
        exact (I7.pin (b, o) (List.mem_append_right _ (List.mem_append_right _ (mem_pinsAt hb e)))).2.1
      cases b with
      | false =>
        rw [if_neg Bool.false_ne_true] at q7 ⊢
        obtain ⟨n', hn', w7⟩ := hN _ _ q7
        exact ⟨n', hn', i + 1, σ6, H7, ys, its, k, I7.unpinned, hd6, rv, (tnk I7).1, (tnk I7).2, w7⟩
      | true =>
        rw [if_pos rfl] at q7 ⊢
        refine thn (he fp (X.pn ++ pins) C s H _ s7 σ6 H7 _ I7 q7) fun u8 s8 zpat => ?_
        obtain ⟨y, H8, I8, r8, q8⟩ := zpat
        obtain ⟨n', hn', w8⟩ := hN _ _ q8
        have pD := I8.pin (D, lsto its k) (List.mem_append_right _ (List.mem_append_left _ List.mem_cons_self))
        refine append_at (hsz := by rw [List.size_toArray]; omega) pD.1 fun h9 sb9 hD9 => ?_
        have I8' : Inv (cxComp X scope own fp (X.pn ++ pins) C s H) [] σ6 H8 s8 := I8.pins_of fun p hp => absurd hp (by simp)
        have I9 : Inv (cxComp X scope own fp (X.pn ++ pins) C s H) [] σ6 H8 { s8 with heap := h9 } :=
          I8'.turned (it := D) (t' := s8.toks) (fun b o hb e => (sb9.2 b hb).trans e) pD.2.1 hDC (.inr hD) (fun x a h => cellD x a h) fun p hp => pinD p (by
            have hp : p ∈ (X.pn ++ pins) ++ [] := hp
            rwa [List.append_nil] at hp)
        have I10 : Inv (cxComp X scope own fp (X.pn ++ pins) C s H) [(D, lsto (its ++ [u8]) (k + 1))] σ6 H8 { s8 with heap := h9 } := I9.pins_of fun p hp => by
          have e : p = (D, lsto (its ++ [u8]) (k + 1)) := by simpa using hp
          subst e
          refine ⟨?_, pD.2.1, hDC, pD.2.2.2.1, fun v z => by cases (show Data.seq _ _ = Data.cell v from z)⟩
          rw [hD9, List.push_toArray]
          rfl
        exact ⟨n', hn', i + 1, σ6, H8, ys ++ [y], its ++ [u8], k + 1, I10, hd6, rv.append (.cons r8 .nil),
          T.keep _ _ _ (tnk I8).1 fun b hb o e => (sb9.2 b (nfD b hb)).trans e, (tnk I8).2, w8⟩
  exact codeAny_compStart_list (loop _ rfl) (T.self _ 0 _ _ _ (T.keep _ _ _ t0 fun b _ o e => old b o e) (loop _ rfl))
theorem pe_comp (hcal : X.calm = true) (hi : PI X tg iter wi) (hg : ∀ ex pn C s₀ H₀, PG (cxComp X scope own ex pn C s₀ H₀) tg g) (ht : ∀ ex pn C s₀ H₀, PIf (cxComp X scope own ex pn C s₀ H₀) ifs tc)
    (he : ∀ ex pn C s₀ H₀, PE (cxComp X scope own ex pn C s₀ H₀) elt te) (hk : scope.kind = .function := by rfl) (hch : cmpChk X.N own scope X.env = true := by rfl)
    (hs : ∀ x, foldedSetIterable iter X.env x = pure x := by intro _; rfl) : PE X (.ListComp elt [⟨tg, iter, ifs, 0⟩] scope pos) (tComp own.length wi g tc te) := by
  intro pins s σ H Q I h
  have c : CmpOk X scope own := cmpOk hk hch
  rw [eval_ListComp]
  refine wpAny_comprehension_free (use := none) rfl hs (closure_is (c.cells I.ok)) hk c.loc (thn (hi pins s σ H _ I h) fun v s1 h1 => thn h1 fun itv s2 h2 => ?_)
  obtain ⟨it, fp, tn, J, H2, e, I2, T, st2, f2, W, w0, turn⟩ := h2
  subst e
  refine comp_block (RR := fun acc C => compPost (model X.prog X.w) X.A X.xe none (EP X pins σ Q) acc C) hcal c hg ht he I2 T st2 f2 (Fin := fun ys H => ∀ p, H p = none → Q (.ref p) (upd H p (.lst ys))) W w0 turn ?_
  intro D C s' ys H' hD hC hDC hDn hCn ⟨m, hm⟩ inv fin
  exact ⟨m, hm, fun h'' sb => ⟨.ref D, _, inv h'' sb, rfl, fin D hDn⟩⟩
theorem ps_setcomp {i : Nat} {x : Str} {px spos : Pos} (hcal : X.calm = true) (hN : X.N.Nodup) (hx : X.N[i]? = some x) (hl : Loc X.env.scope x) (hi : PI X tg iter wi) (hg : ∀ ex pn C s₀ H₀, PG (cxComp X scope own ex pn C s₀ H₀) tg g)
    (ht : ∀ ex pn C s₀ H₀, PIf (cxComp X scope own ex pn C s₀ H₀) ifs tc)
    (he : ∀ ex pn C s₀ H₀, PE (cxComp X scope own ex pn C s₀ H₀) elt te) (hk : scope.kind = .function := by rfl) (hch : cmpChk X.N own scope X.env = true := by rfl)
    (hsw : swapsWith (.ListComp elt [⟨tg, iter, ifs, 0⟩] scope pos) (some (.Name x px)) spos.line X.env = pure true := by rfl)
    (hs : ∀ x, foldedSetIterable iter X.env x = pure x := by intro _; rfl) (hf : X.fn x = true ∨ X.env.scope.names.lookup x = some .local := by first | exact .inl rfl | exact .inr rfl | assumption) :
    PS X (.Assign [.Name x px] (.ListComp elt [⟨tg, iter, ifs, 0⟩] scope pos) spos) (tAsg (tComp own.length wi g tc te) (gName i)) := by
  intro pins s σ H D I h
  have c : CmpOk X scope own := cmpOk hk hch
  rw [exec_Assign_Name_used _ _ _ _ hsw]
  refine wpAny_bind (wpAny_standAt (wpAny_bind ?_))
  show wpAny _ X.A (do let _ ← comprehension (.ListComp elt [⟨tg, iter, ifs, 0⟩] scope pos) scope X.env _ (newList []) false (eval iter X.env) (some (assign (.Name x px) X.env))) _ _ s
  refine wpAny_bind (wpAny_mono (wpAny_comprehension_free (use := some (assign (.Name x px) X.env)) (Q := fun _ s' => SP X pins D .next s') rfl hs (closure_is (c.cells I.ok)) hk c.loc
    (thn (hi pins s σ H _ I h) fun v s1 h1 => thn h1 fun itv s2 h2 => ?_)) (fun _ s' hq => wpAny_pure (wpAny_pure hq)) fun _ _ e => e)
  obtain ⟨it, fp, tn, J, H2, e, I2, T, st2, f2, W, w0, turn⟩ := h2
  subst e
  refine comp_block (RR := fun acc C => compPost (model X.prog X.w) X.A X.xe (some (assign (.Name x px) X.env)) (fun _ s' => SP X pins D .next s') acc C) hcal c hg ht he I2 T st2 f2
    (Fin := fun ys H => ∀ p, H p = none → gName i (.ref p) σ (upd H p (.lst ys)) D.nx) W w0 turn ?_
  intro L C s' ys H' hL hC hLC hLn hCn ⟨m, hm⟩ inv fin
  show wpAny _ X.A (assign (.Name x px) X.env (.ref L)) _ _ s'
  have I3 : Inv X pins σ (upd H' L (.lst ys)) s' := inv s'.heap (.refl _ _)
  have lt2 : ∀ b o, s2.heap.get? b = some o → b ≠ C := fun b o e => Nat.ne_of_lt (Nat.lt_of_lt_of_le (Heap.lt_size e) hC)
  have hCL : C ≠ X.env.locals := by
    obtain ⟨m', ⟨o, _, _, e, _⟩, _⟩ := I2.loc
    exact Ne.symm (lt2 _ o e)
  have hCc : ∀ y a, X.env.cells.lookup y = some a → a ≠ C := fun y a e => by
    obtain ⟨v, o, e', _⟩ := I2.cell y a e
    exact lt2 a o e'
  refine wpAny_assign_Name (store_ok2 I3 hN hx hl (v := .ref L) rfl (fun s4 I4 sb4 => ?_) hf)
  obtain ⟨a, sb, ha⟩ := sb4
  have haC : C ≠ a := by
    rcases ha with z | z
    · rw [z]; exact hCL
    · exact Ne.symm (hCc x a z)
  refine ⟨m, hm.sameBut sb haC, fun h'' sb'' => ⟨_, _, I4.turned (it := C) (t' := s4.toks) (fun b o hb e => (sb''.2 b hb).trans e) ?_ hCL (.inr (Nat.le_trans I2.sz hC)) hCc fun p hp => lt2 _ _ (I2.pin p hp).1, fin L hLn⟩⟩
  rw [upd_ne (Ne.symm hLC)]
  exact hCn
end
end L2
namespace L2
open PySem PySem.Spec PyProof.Rows
section
variable {X : Cx}
end
end L2
namespace L2
open PySem PySem.Spec PyProof.Rows
section
variable {X : Cx}
noncomputable def valOf : V → Option Value
  | .ty n => some (.type n)
  | .ref a => some (.ref a)
  | _ => none
theorem call_isi : CallR X (.builtin "isinstance") (fun xs H Q => ∃ x c cv t b, xs = [x, c] ∧ valOf c = some cv ∧ TyOf X.K H x t ∧ PySem.W.kitOne X.K t cv = some b ∧ Q (.bl b) H) := by
  intro pins s σ H xs us Q I r h
  obtain ⟨x, c, cv, t, b, rfl, hc, ty, e, q⟩ := h
  obtain ⟨u, u2, rfl, rx, rc⟩ := vals2 r
  have ec : u2 = cv := by
    cases c with
    | ty n => cases rc; exact Option.some.inj hc
    | ref a => cases rc; exact Option.some.inj hc
    | _ => cases hc
  subst ec
  exact isinst_ok I rx ty e fun tk => ⟨.bl b, H, I.tok _, rfl, q⟩
noncomputable def eqVs : List V → List V → Bool
  | [], [] => true
  | x :: xs, y :: ys => eqV x y && eqVs xs ys
  | _, _ => false
theorem eqVs_len : ∀ {xs ys : List V}, eqVs xs ys = true → xs.length = ys.length
  | [], [], _ => rfl
  | _ :: xs, _ :: ys, h => by
    rw [eqVs, Bool.and_eq_true] at h
    rw [List.length_cons, List.length_cons, eqVs_len h.2]
  | [], _ :: _, h => nomatch h
  | _ :: _, [], h => nomatch h
theorem eqVs_range : ∀ {xs ys : List V}, xs.length = ys.length → (List.range xs.length).all (fun j => eqV (xs.getD j .non) (ys.getD j .non)) = eqVs xs ys
  | [], [], _ => rfl
  | x :: xs, y :: ys, h => by
    have h' : xs.length = ys.length := by simpa using h
    rw [List.length_cons, List.range_succ_eq_map, List.all_cons, List.all_map, eqVs, ← eqVs_range h']
    rfl
  | [], _ :: _, h => nomatch h
  | _ :: _, [], h => nomatch h
theorem eqVs_strs : ∀ (ns ms : List Str), eqVs (ns.map V.str) (ms.map V.str) = decide (ns = ms)
  | [], [] => rfl
  | n :: ns, m :: ms => by
    rw [List.map_cons, List.map_cons, eqVs, eqVs_strs ns ms]
    show ((n == m) && decide (ns = ms)) = decide (n :: ns = m :: ms)
    by_cases h1 : n = m <;> by_cases h2 : ns = ms <;> simp [h1, h2]
  | [], _ :: _ => rfl
  | _ :: _, [] => rfl
theorem getD_lt {α : Type} {xs : List α} {j : Nat} {d : α} (h : j < xs.length) : xs.getD j d = xs[j] := by
  rw [List.getD_eq_getElem?_getD, List.getElem?_eq_getElem h]; rfl
theorem getD_ge {α : Type} {xs : List α} {j : Nat} {d : α} (h : xs.length ≤ j) : xs.getD j d = d := by
  rw [List.getD_eq_getElem?_getD, List.getElem?_eq_none h]; rfl
theorem eqAt_list {A : Around} {s : Shared} {xs ys : List V} {us ws : List Value} (r : Vals xs us) (q : Vals ys ws) (fx : xs.all flatV = true) (fy : ys.all flatV = true) (j : Nat) (h1 : j < us.toArray.size) (h2 : j < ws.toArray.size) :
    SeqAt.EqAt A s us.toArray[j] ws.toArray[j] (eqV (xs.getD j .non) (ys.getD j .non)) := by
  have l1 : j < xs.length := by rw [r.length]; simpa using h1
  have l2 : j < ys.length := by rw [q.length]; simpa using h2
  obtain ⟨u, eu, ru⟩ := r.get (List.getElem?_eq_getElem l1)
  obtain ⟨w, ew, rw'⟩ := q.get (List.getElem?_eq_getElem l2)
  have e1 : us.toArray[j] = u := by
    have : us[j]? = some u := eu
    rw [List.getElem?_eq_getElem (by simpa using h1)] at this
    simpa using Option.some.inj this
  have e2 : ws.toArray[j] = w := by
    have : ws[j]? = some w := ew
    rw [List.getElem?_eq_getElem (by simpa using h2)] at this
    simpa using Option.some.inj this
  rw [e1, e2, getD_lt l1, getD_lt l2]
  exact eqAt_V ru rw' (List.all_eq_true.mp fx _ (List.getElem_mem l1)) (List.all_eq_true.mp fy _ (List.getElem_mem l2))
inductive IEqL (K : PySem.W.Frag) (neg : Bool) (x y : V) (H : Hp) (Q : VK) : Prop where
  | mk (p q : Addr) (xs ys : List V) (ex : x = .ref p) (ey : y = .ref q) (sx : SqL K H p xs) (sy : SqL K H q ys) (fx : xs.all flatV = true) (fy : ys.all flatV = true) (k : Q (.bl (if neg then !eqVs xs ys else eqVs xs ys)) H) : IEqL K neg x y H Q
noncomputable def rEqL (K : PySem.W.Frag) (neg : Bool) : R2 := fun x y H Q => IEqL K neg x y H Q
theorem op_neL (hu : X.A.units < cLine) : OpR X (compareOp .NotEq) (rEqL X.K true) := by
  intro pins s σ H x y v u Q I rx ry h
  obtain ⟨p, q, xs, ys, rfl, rfl, hx, hy, fx, fy, k⟩ := h
  cases rx
  cases ry
  obtain ⟨us, r, pl, hz⟩ := I.list hx
  obtain ⟨ws, r', pl', hz'⟩ := I.list hy
  have l1 := r.length
  have l2 := r'.length
  by_cases hl : xs.length = ys.length
  · have hsz : us.toArray.size = ws.toArray.size := by rw [List.size_toArray, List.size_toArray]; omega
    refine SeqAt.RcNeAt.lists pl.isList pl'.isList hsz hu (fun j h1 h2 => eqAt_list r r' fx fy j h1 h2) _ _ _ _ ⟨.bl _, H, I, rfl, ?_⟩
    rw [List.size_toArray, ← l1, eqVs_range hl]
    exact k
  · refine SeqAt.RcNeAt.lists_lengths pl.isList pl'.isList (by rw [List.size_toArray, List.size_toArray]; simpa using (by omega : us.length ≠ ws.length)) hu _ _ _ _ ⟨.bl _, H, I, rfl, ?_⟩
    have e : eqVs xs ys = false := by
      cases e : eqVs xs ys with
      | false => rfl
      | true => exact absurd (eqVs_len e) hl
    rw [e] at k
    exact k
theorem countP_eqU {x : V} : ∀ {xs : List V} {us : List Value}, Vals xs us → xs.all flatV = true → us.countP (eqU x) = xs.countP fun y => eqV y x
  | _, _, .nil, _ => rfl
  | y :: xs, u :: us, .cons r t, f => by
    rw [List.all_cons, Bool.and_eq_true] at f
    rw [List.countP_cons, List.countP_cons, eqU_of r f.1, countP_eqU t f.2]
theorem mt_count : MtR X "list.count" (fun x vs H Q => ∃ p xs y, x = .ref p ∧ vs = [y] ∧ H p = some (.lst xs) ∧ flatV y = true ∧ xs.all flatV = true ∧ Q (.int (xs.countP fun z => eqV z y : Nat)) H) := by
  intro pins s σ H x vs v us Q I rx rv h
  obtain ⟨p, xs, y, rfl, rfl, hH, fy, fx, q⟩ := h
  cases rx
  obtain ⟨u, rfl, ru⟩ := rv.one
  obtain ⟨z, its, n, r, hl, e⟩ := I.lstM hH
  refine call_meets F.slot_list_count ⟨_, e, rfl⟩ F.entry_list_count (F.args_list_count_2 _ _) (SeqAt.list_countAt p its.toArray n none #[] u (eqU y)) ⟨e, fun w hw => mem_eqAt ru fy r fx w (by simpa using hw), ?_⟩
  show EP X pins σ Q (Value.int ((List.countP (eqU y) its.toArray.toList : Nat)) s.toks) _
  rw [List.toList_toArray, countP_eqU r fx]
  exact ⟨.int (xs.countP fun z => eqV z y : Nat), H, I.tok _, ⟨_, rfl⟩, q⟩
theorem eqU_get {y : V} {xs : List V} {us : List Value} (r : Vals xs us) (f : xs.all flatV = true) (j : Nat) (h : j < us.toArray.size) : eqU y us.toArray[j] = eqV (xs.getD j .non) y := by
  have l1 : j < xs.length := by rw [r.length]; simpa using h
  obtain ⟨u, eu, ru⟩ := r.get (List.getElem?_eq_getElem l1)
  have e1 : us.toArray[j] = u := by
    have : us[j]? = some u := eu
    rw [List.getElem?_eq_getElem (by simpa using h)] at this
    simpa using Option.some.inj this
  rw [e1, getD_lt l1]
  exact eqU_of ru (List.all_eq_true.mp f _ (List.getElem_mem l1))
theorem mt_index : MtR X "list.index" (fun x vs H Q => ∃ p xs y j, x = .ref p ∧ vs = [y] ∧ H p = some (.lst xs) ∧ flatV y = true ∧ xs.all flatV = true ∧ j < xs.length ∧ eqV (xs.getD j .non) y = true ∧ (∀ m, m < j → eqV (xs.getD m .non) y = false) ∧ Q (.int (j : Nat)) H) := by
  intro pins s σ H x vs v us Q I rx rv h
  obtain ⟨p, xs, y, j, rfl, rfl, hH, fy, fx, hj, e1, e2, q⟩ := h
  cases rx
  obtain ⟨u, rfl, ru⟩ := rv.one
  obtain ⟨z, its, n, r, hl, e⟩ := I.lstM hH
  have hs := line63
  have hs2 := sizeLine_eq
  refine call_meets F.slot_list_index ⟨_, e, rfl⟩ F.entry_list_index (F.args_list_index_2 _ _) (SeqAt.list_indexAt p its.toArray n none #[] u (eqU y) j (by rw [List.size_toArray]; omega) (by omega) ?_ ?_) ⟨e, fun w hw => mem_eqAt ru fy r fx w (by simpa using hw), ?_⟩
  · rw [eqU_get r fx]; exact e1
  · intro m hm hmj
    rw [eqU_get r fx]; exact e2 m hmj
  · exact ⟨.int (j : Nat), H, I.tok _, ⟨_, rfl⟩, q⟩
theorem pe_ty {x : Str} {n : String} {pos : Pos} (hg : Gl X x) (hm : X.mg x = none) (hv : bootBuiltins x = some (.type n)) (hn : x ≠ "__name__" := by decide) (hd : (x == ("__debug__" : Str)) = false := by decide) : PE X (.Name x pos) (tC (.ty n)) :=
  pe_bltn hg hm hv (v := .ty n) rfl hn hd
end
section
variable {K : PySem.W.Frag} {m : Nat} {g : TG} {tc : TT} {te : TE} {σ : St} {H : Hp} {Q : VK}
theorem comp_list {a : Addr} {xs : List V} (Pv : Nat → List V → Hp → Prop) (hz : xs.length < sizeLine) (h0 : Pv 0 [] H) (hlen : ∀ i ys H, i ≤ xs.length → Pv i ys H → ys.length ≤ i) (hl : ∀ i ys H, i ≤ xs.length → Pv i ys H → SqL K H a xs)
    (hs : ∀ i x ys H, xs[i]? = some x → Pv i ys H → g x (List.replicate m none ++ σ) H fun σ2 H2 => σ2.drop m = σ ∧ tc σ2 H2 fun b H3 => if b = true then te σ2 H3 fun y H4 => Pv (i + 1) (ys ++ [y]) H4 else Pv (i + 1) ys H3)
    (hd : ∀ ys H, Pv xs.length ys H → ∀ p, H p = none → Q (.ref p) (upd H p (.lst ys))) : CompW (Itl K a) m g tc te σ H Q := by
  refine ⟨fun i n ys H => n = xs.length - i ∧ i ≤ xs.length ∧ Pv i ys H, ⟨xs.length, by simp, Nat.zero_le _, h0⟩, ?_⟩
  rintro i n ys H ⟨rfl, hi, p⟩
  have q := hl i ys H hi p
  have hy := hlen i ys H hi p
  by_cases hlt : i < xs.length
  · refine .inr ⟨⟨xs, xs[i], q, by simp [hlt]⟩, by omega, Pv (i + 1), fun ys' H' p' => ⟨xs.length - (i + 1), by omega, rfl, hlt, p'⟩, fun x H' y => ?_⟩
    obtain ⟨e, y⟩ := y
    subst e
    exact hs i x ys _ (y xs q) p
  · have e : i = xs.length := by omega
    subst e
    exact .inl ⟨⟨xs, q, Nat.le_refl _⟩, by omega, hd ys H p⟩
theorem comp_range {lo : Int} {k : Nat} (Pv : Nat → List V → Hp → Prop) (hz : k < sizeLine) (h0 : Pv 0 [] H) (hlen : ∀ i ys H, i ≤ k → Pv i ys H → ys.length ≤ i)
    (hs : ∀ i ys H, i < k → Pv i ys H → g (.int (lo + i)) (List.replicate m none ++ σ) H fun σ2 H2 => σ2.drop m = σ ∧ tc σ2 H2 fun b H3 => if b = true then te σ2 H3 fun y H4 => Pv (i + 1) (ys ++ [y]) H4 else Pv (i + 1) ys H3)
    (hd : ∀ ys H, Pv k ys H → ∀ p, H p = none → Q (.ref p) (upd H p (.lst ys))) : CompW (Itr lo k) m g tc te σ H Q := by
  refine ⟨fun i n ys H => n = k - i ∧ i ≤ k ∧ Pv i ys H, ⟨k, by simp, Nat.zero_le _, h0⟩, ?_⟩
  rintro i n ys H ⟨rfl, hi, p⟩
  have hy := hlen i ys H hi p
  by_cases hlt : i < k
  · refine .inr ⟨hlt, by omega, Pv (i + 1), fun ys' H' p' => ⟨k - (i + 1), by omega, rfl, hlt, p'⟩, fun x H' y => ?_⟩
    obtain ⟨e, y⟩ := y
    subst e y
    exact hs i ys _ hlt p
  · have e : i = k := by omega
    subst e
    exact .inl ⟨Nat.le_refl _, by omega, hd ys H p⟩
end
end L2
namespace L2
open PySem PySem.Spec PyProof.Rows
section
variable {X : Cx} {K : PySem.W.Frag}
theorem op_inK (h : X.K = K) : OpR X (compareOp .In) (rIn K false) := h ▸ op_in_seq
theorem ix_listK (h : X.K = K) : IxR X (rIxL K) := h ▸ ix_list
theorem ix_tupK (h : X.K = K) : IxR X (rIxT K) := h ▸ ix_tup
theorem len_seqK (h : X.K = K) : CallR X (.builtin "len") (fun xs H Q => ∃ p ys, xs = [.ref p] ∧ (SqL K H p ys ∨ SqT K H p ys) ∧ Q (.int ys.length) H) := h ▸ call_len_seq
theorem list_ofK (h : X.K = K) : CallR X (.type "list") (fun xs H Q => ∃ p ys, xs = [.ref p] ∧ (SqL K H p ys ∨ SqT K H p ys) ∧ ∀ l, H l = none → Q (.ref l) (upd H l (.lst ys))) := h ▸ call_list_of
theorem sl_listK (h : X.K = K) : SlR X (rSlL K) := h ▸ sl_list
theorem isiK (h : X.K = K) : CallR X (.builtin "isinstance") (fun xs H Q => ∃ x c cv t b, xs = [x, c] ∧ valOf c = some cv ∧ TyOf K H x t ∧ PySem.W.kitOne K t cv = some b ∧ Q (.bl b) H) := h ▸ call_isi
theorem op_neLK (h : X.K = K) (hu : X.A.units < cLine) : OpR X (compareOp .NotEq) (rEqL K true) := h ▸ op_neL hu
theorem pi_listK {tg l : Expr} {tl : TE} (h : X.K = K) (hl : PE X l tl) : PI X tg l (iList K tl) := h ▸ pi_list hl
variable {o e : Expr} {es : List Expr} {to : TE} {t : TA} {name : Str} {apos cpos : Pos} {T id : String} {r : V → List V → Hp → VK → Prop}
theorem pe_bmK (hK : X.K = K) (pa : PlainAttrs T) (slot : Slot T name id) (hty : typeOf (.builtin id) = pure (.type "method_descriptor")) (hm : MtR X id r) (ho : PE X o to) (ha : PA X (e :: es) t)
    (hbase : attributeBase o name X.env (eval o X.env) = eval o X.env := by rfl)
    (hfew : ((backTo cpos (starEach (e :: es) X.env)).all (fun x => !x.1) && (backToKw cpos (keywordEach [] X.env)).all (fun x => x.1.isSome)
      && decide ((e :: es).length + ([] : List Keyword).length + (if ([] : List Keyword).isEmpty then 0 else 1) < 30)) = true := by rfl)
    (hline : (apos.endLine == cpos.line) = true := by rfl) (hs : starEach (e :: es) X.env = (false, eval e X.env) :: starEach es X.env := by rfl) (hplain : (backTo cpos (starEach es X.env)).any (·.1) = false := by rfl) :
    PE X (.Call (.Attribute o name apos) (e :: es) [] cpos) (tBM K T r to t) := hK ▸ pe_bm pa slot hty hm ho ha hbase hfew hline hs hplain
end
end L2
namespace L2
open PySem PySem.Spec PySem.W PySem.Calls PyProof.Rows Builtin Builtin.ObjectAttr
theorem bga_kind : builtinKind "BaseException.__getattribute__" = some .slot := by decide +kernel
theorem bga_split : splitId "BaseException.__getattribute__" = some ("BaseException", "__getattribute__") := by decide +kernel
theorem bga_slot : Slot "ValueError" "__getattribute__" "BaseException.__getattribute__" :=
  Slot.of (owner := "BaseException") (n := "__getattribute__") (by rw [typeLookup_type, builtinLookup_eq_fast]; kernel_rfl) (by decide +kernel) (by decide +kernel) (by decide +kernel) (.inl (by decide +kernel)) (by rw [isSubtype_type]; kernel_rfl)
theorem check_bga {M : Model} {A : Around} {E : Value → Shared → Prop} {s : Shared} {x : Value} {nameV : Value} {Q : Unit → Shared → Prop} (LB : Looks M s.heap (isInstance x (.type "BaseException")) true) (q : Q () s) :
    wpAny M A (checkBuiltinCall "BaseException.__getattribute__" ⟨[x, nameV], []⟩) Q E s := by
  have ha : argsOk "BaseException.__getattribute__" ⟨[x, nameV], []⟩ := PySem.F.args_bexc_ga x nameV
  exact check_slot (i := "BaseException.__getattribute__") (owner := "BaseException") (n := "__getattribute__") (self := x) (rest := [nameV]) (kw := []) bga_kind bga_split LB ha q
structure XCls (K : PySem.W.Frag) (C : Addr) : Prop where
  ga : findIn K (.ref C) "__getattribute__" = some (some (.builtin "BaseException.__getattribute__"))
  no : findIn K (.ref C) "__getattr__" = some none
  be : mroIn K C (.type "BaseException") = some true
  ob : mroIn K C (.type "object") = some true
  hd : hasDictIn K C = true
  sa : findIn K (.ref C) "__setattr__" = some (some (.builtin "object.__setattr__"))
  cl : findIn K (.ref C) "__class__" = some (some (.builtin "object.__class__"))
  gs : specialIn K (.builtin "object.__class__") "__get__" = some (some (.builtin "getset_descriptor.__get__"))
  tk : takesIn K (.builtin "object.__class__") = some true
section
variable {prog : Program} {w : World} {A : Around} {E : Value → Shared → Prop} {K : PySem.W.Frag} {x C : Addr} {ox : Obj} {od : Option Obj} {name : Str} {fill expr : Bool} {tk : Tok} {Q : Value → Shared → Prop} {hh : Heap} {g : Array GenState} {d : Drawn} {t : Nat} {os : OsState}
theorem getX_by (X : K.In hh) (I : InstAt hh x ox C od) (c : XCls K C)
    (h : wpAny (model prog w) A.in1 (Builtin.«object.__getattribute__» ⟨[.ref x, .str name tk], []⟩)
      (fun fin s' => match fin with | .done (.ret v) => wpAny (model prog w) A (handedOut v) Q E s' | _ => False) (fun _ _ => False) ⟨hh, g, d, t, os⟩) :
    wpAny (model prog w) A (getAttrBy (.ref x) (.str name tk) fill expr) Q E ⟨hh, g, d, t, os⟩ := by
  have L0 := I.type (M := model prog w)
  have L1 := looks_findIn (M := model prog w) X c.ga
  have L2 := looks_findIn (M := model prog w) X c.no
  have LB : Looks (model prog w) hh (isInstance (.ref x) (.type "BaseException")) true := L0.andThen (looks_mroIn X c.be)
  unfold getAttrBy
  refine wpAny_holding (wpAny_bind (L0.at (wpAny_bind (L1.at ?_))))
  have e0 : (onTheHeap (Value.ref C) && Value.builtin "BaseException.__getattribute__" == Value.builtin "object.__getattribute__") = false := by
    have hx2 : (Value.builtin "BaseException.__getattribute__" == Value.builtin "object.__getattribute__") = false := by decide +kernel
    rw [hx2, Bool.and_false]
  simp only [e0, Bool.false_eq_true, if_false]
  unfold getAttrByItsOwn
  refine wpAny_bind (L2.at ?_)
  have e1 : (expr && onTheHeap (Value.builtin "BaseException.__getattribute__")) = false := by cases expr <;> rfl
  unfold callGetattribute
  simp only [e1, Bool.false_eq_true, if_false]
  unfold boundAndCalled
  refine wpAny_bind (wpAny_attempt (wpAny_holding (wpAny_bind (wpAny_of_eq (bga_slot.bind (.ref x)) ?_))))
  refine wpAny_call ?_
  refine codeAny_call_builtin bga_slot.plain F.entry_bexc_ga ?_
  refine check_bga LB ?_
  refine wpAny_mono h (fun fin s' z => ?_) fun _ _ z => z.elim
  rcases fin with (_ | _ | _ | _) | _ <;> first | exact z | exact z.elim
theorem getX_value {v : Value} (X : K.In hh) (I : InstAt hh x ox C od) (c : XCls K C) (hf : findObj K C od name = some (.value v)) (hv : handedIn v = true) (h : Q v ⟨hh, g, d, t, os⟩) :
    wpAny (model prog w) A (getAttrBy (.ref x) (.str name tk) fill expr) Q E ⟨hh, g, d, t, os⟩ := by
  have L0 := I.type (M := model prog w)
  have L3 := looks_find (M := model prog w) X I hf
  refine getX_by X I c ?_
  refine wpAny_bind (wpAny_pure (wpAny_bind (wpAny_pure (wpAny_bind (L0.at (wpAny_bind (L3.at ?_)))))))
  refine wpAny_pure ?_
  show wpAny _ _ (handedOut v) _ _ _
  rw [handedOut_of hv]; exact wpAny_pure h
theorem getX_class {Q : Option Value → Shared → Prop} (X : K.In hh) (I : InstAt hh x ox C od) (c : XCls K C) (hf : findObj K C od "__class__" = some (.bind (.builtin "getset_descriptor.__get__") (.builtin "object.__class__")))
    (h : Q (some (.ref C)) ⟨hh, g, d, t + 1, os⟩) : wpAny (model prog w) A (getAttr? (.ref x) "__class__") Q E ⟨hh, g, d, t, os⟩ := by
  have L0 := I.type (M := model prog w)
  have L3 := looks_find (M := model prog w) X I hf
  unfold getAttr? getAttrBy?
  refine wpAny_bind (wpAny_mkText (wpAny_bind (wpAny_attempt (getX_by X I c ?_))))
  refine wpAny_bind (wpAny_pure (wpAny_bind (wpAny_pure (wpAny_bind (L0.at (wpAny_bind (L3.at ?_)))))))
  show wpAny _ _ (holding [.builtin "object.__class__"] (call (.builtin "getset_descriptor.__get__") [.builtin "object.__class__", .ref x, .ref C]) >>= ret) _ _ _
  refine wpAny_bind (wpAny_holding (wpAny_call (class_get (s := ⟨hh, g, d, t + 1, os⟩) (ox := ox) (od := od) X I c.ob ?_)))
  refine wpAny_pure ?_
  exact wpAny_pure (wpAny_pure h)
theorem kitx_exc (c : XCls K C) (hf : ∀ od, findObj K C od "__class__" = some (.bind (.builtin "getset_descriptor.__get__") (.builtin "object.__class__"))) : KitX K (.ref x) (.ref C) (fun h => ∃ ox od, InstAt h x ox C od) where
  ty := fun _ _ _ ⟨_, _, I⟩ => I.type
  it := fun _ _ X _ => by
    obtain ⟨cdD, hcD, _⟩ := any_some c.hd
    unfold clsIn at hcD
    split at hcD
    · rename_i c' d' cd' sl' ho
      intro A' Q' E' s' k q
      unfold isType loadHead
      exact wpAny_bind (wpAny_loadPart (k _ _ (X _ _ ho)) (wpAny_pure q))
    · cases hcD
  ne := fun h tp dd its n sl X htp => by
    obtain ⟨cdD, hcD, _⟩ := any_some c.hd
    refine Bool.eq_false_iff.mpr fun q => ?_
    have e : C = tp := Value.ref.inj (beq_iff_eq.mp q)
    subst e
    unfold clsIn at hcD
    split at hcD
    · rename_i c' d' cd' sl' ho
      have z := (X _ _ ho).symm.trans htp
      cases z
    · cases hcD
  ca := fun {prog w A E Q s} X I k => by
    obtain ⟨ox, od, I⟩ := I
    obtain ⟨h0, g, d, tt, os⟩ := s
    exact getX_class X I c (hf od) k
theorem XCls.cls_find (c : XCls K C) (od : Option Obj) : findObj K C od "__class__" = some (.bind (.builtin "getset_descriptor.__get__") (.builtin "object.__class__")) := by
  obtain ⟨cd, hc, _⟩ := any_some c.hd
  unfold findObj
  rw [hc, Option.bind_some, c.cl, Option.bind_some]
  simp [c.gs, c.tk]
end
end L2
namespace L2
open PySem PySem.Spec PySem.W PySem.Calls PyProof.Rows Builtin Builtin.ObjectAttr
noncomputable abbrev excO (C : Addr) (dx : Option Addr) (tp : Addr) : Obj := { cls := .ref C, dict := dx, data := .fields #[.ref tp, .none, .none, .none, .bool false, .none] }
noncomputable abbrev tupO (vs : List Value) : Obj := { cls := .type "tuple", data := .seq vs.toArray }
noncomputable def excInI (K : PySem.W.Frag) (C : Addr) (bmB : List Value) (newId : String) (f : Addr) : Bool := match K.lookup C with
  | some ⟨.type "type", _, .cls cd, sl⟩ => (match cd.mro, sl.toList with
    | .ref C' :: bm, [_, _, _, _, some (.builtin n), _] => C' == C && n == newId && !cd.hasDel && tailIn K bmB bm && nsOkIn K cd.ns && nsIn K cd.ns "__init__" == some (some (.ref f))
    | _, _ => false)
  | _ => false
theorem ns_some_of {K : PySem.W.Frag} {h : Heap} {N : Addr} {mg : Str → Option Value} {n : Str} {v : Value} (X : K.In h) (G : h.Ns N mg) (e : nsIn K N n = some (some v)) : mg n = some v := by
  obtain ⟨o, es, ep, ho, hd, _, hf⟩ := G
  unfold nsIn at e
  split at e
  · rename_i c d es' n' sl q
    have := X _ _ q
    rw [ho] at this
    cases this
    cases hd
    split at e
    · rename_i y he
      rw [← hf]
      unfold nsFind findBy
      rw [← Array.find?_toList, he]
      exact Option.some.inj e
    · split at e <;> cases e
  · cases e
theorem exc_of_in {K : PySem.W.Frag} {h : Heap} {C : Addr} {bmB : List Value} {newId : String} {f : Addr} (X : K.In h) (q : excInI K C bmB newId f = true) :
    ∃ (nm qn : Str) (N : Addr) (bs bm : List Value) (hdct : Bool) (sn : List Str) (sub : List Value) (ab : Bool) (col : Option Bool) (dd : Option Addr) (k0 k1 k2 k3 k5 : Option Value) (mN : Str → Option Value),
      h.get? C = some (excClassObj nm qn C N bs bm hdct sn sub ab col dd k0 k1 k2 k3 k5 newId) ∧ h.Ns N mN ∧ mN "__init__" = some (.ref f) ∧ OwnTail h bmB bm := by
  unfold excInI at q
  split at q
  · rename_i dd cd sl ho
    split at q
    · rename_i C' bm k0 k1 k2 k3 n k5 hm hs
      simp only [Bool.and_eq_true, beq_iff_eq, Bool.not_eq_true'] at q
      obtain ⟨⟨⟨⟨⟨rfl, rfl⟩, hdel⟩, ht⟩, hok⟩, hni⟩ := q
      obtain ⟨nm, bs, mro, ns, qn, hd, sn, sub, ab, col, del⟩ := cd
      dsimp only at hm hdel hok hni
      subst hm hdel
      have hsl : sl = #[k0, k1, k2, k3, some (.builtin n), k5] := by
        obtain ⟨l⟩ := sl
        simp only at hs
        rw [hs]
      subst hsl
      exact ⟨nm, qn, ns, bs, bm, hd, sn, sub, ab, col, dd, k0, k1, k2, k3, k5, _, X _ _ ho, .of_isNs (isNs_of_in X hok), ns_some_of X (.of_isNs (isNs_of_in X hok)) hni, tail_of_in X ht⟩
    · cases q
  · cases q
section
variable {prog : Program} {w : World} {A : Around} {E : Value → Shared → Prop} {K : PySem.W.Frag} {h : Heap} {g : Array GenState} {d : Drawn} {t : Nat} {os : OsState}
variable {C f : Addr} {rest : List Value} {R : Result → Shared → Prop} {bmB : List Value} {B newId initId : String}
theorem type_call_excI (F : ExcBaseFacts B newId initId bmB) (X : K.In h) (q : excInI K C bmB newId f = true) (hf : typeIn K (.ref f) = some (.type "function")) {Q : Fin → Shared → Prop}
    (hq : wpAny (model prog w) A (call (.ref f) (.ref (h.objs.size + 1) :: rest)) (fun v s' => v = .none ∧ Q (.done (.ret (.ref (h.objs.size + 1)))) s') E ⟨(h.push (tupO rest)).push (excO C none h.objs.size), g, d, t, os⟩) (hrest : rest.length ≤ sizeLine) :
    wpAny (model prog w) A (Builtin.«type.__call__» ⟨.ref C :: rest, []⟩) Q E ⟨h, g, d, t, os⟩ := by
  obtain ⟨nm, qn, N, bs, bm, hdct, sn, sub, ab, col, dd, k0, k1, k2, k3, k5, mN, hC, hn, hni, T⟩ := exc_of_in X q
  have hBn := F.hasB
  have k : ∀ b o, h.get? b = some o → ((h.push (tupO rest)).push (excO C none h.objs.size)).get? b = some o := fun b o e => Heap.get?_push_of_some _ (Heap.get?_push_of_some _ e)
  have LF := (bind_fn (M := model prog w) (K := K) (X.keeps k) (.ref (h.objs.size + 1)) hf)
  repeat (first | with_reducible refine wpAny_loadPart_at hC ?_ | with_reducible refine wpAny_madeBy_exc hC ?_ | wp_step)
  refine codeAny_call_builtin_code (Code.quiet_builtin _ F.quiet) (wpAny_check_new_subU F hBn T hC ?_)
  refine codeAny_exc_new_subU F hBn F T hC ?_ hrest
  show wpAny _ _ _ _ _ _
  have hC₁ := k _ _ hC
  have hn₁ : ((h.push (tupO rest)).push (excO C none h.objs.size)).Ns N mN := let ⟨o, es, ep, e, r⟩ := hn; ⟨o, es, ep, k _ _ e, r⟩
  have hget : ((h.push (tupO rest)).push (excO C none h.objs.size)).get? (h.objs.size + 1) = some (excO C none h.objs.size) := by
    have := Heap.get?_push_size (h.push (tupO rest)) (o := excO C none h.objs.size) rfl
    rwa [Heap.size_push] at this
  have hcC : (Value.ref C :: bm).contains (.ref C) = true := by simp
  have T₁ := T.keeps (h' := (h.push (tupO rest)).push (excO C none h.objs.size)) k
  change wpAny (model prog w) A _ Q E ⟨(h.push (tupO rest)).push (excO C none h.objs.size), g, d, t, os⟩
  unfold isInstance
  repeat (first | with_reducible refine wpAny_loadPart_at hget ?_ | (with_reducible refine wpAny_isSubtype_exc hC₁ ?_; rw [hcC]) | wp_step)
  show wpAny _ _ (typeLookup (.ref C) _) _ _ _
  refine wpAny_typeLookup_tail hC₁ hn₁ T₁ F.mroIs F.init.lookup ?_
  rw [hni]
  refine wpAny_holding (wpAny_bind (LF.at ?_))
  refine wpAny_bind (wpAny_mono hq (fun v s' z => ?_) fun _ _ z => z)
  obtain ⟨rfl, z⟩ := z
  exact wpAny_pure (wpAny_pure z)
theorem call_excI (F : ExcBaseFacts B newId initId bmB) (X : K.In h) (q : excInI K C bmB newId f = true) (hf : typeIn K (.ref f) = some (.type "function")) {Q : Value → Shared → Prop}
    (hq : wpAny (model prog w) (A.under (.builtin "type.__call__" ⟨.ref C :: rest, []⟩)) (call (.ref f) (.ref (h.objs.size + 1) :: rest)) (fun v s' => v = .none ∧ Q (.ref (h.objs.size + 1)) s') E ⟨(h.push (tupO rest)).push (excO C none h.objs.size), g, d, t, os⟩)
    (hrest : rest.length ≤ sizeLine) : wpAny (model prog w) A (call (.ref C) rest) Q E ⟨h, g, d, t, os⟩ := by
  obtain ⟨nm, qn, N, bs, bm, hdct, sn, sub, ab, col, dd, k0, k1, k2, k3, k5, mN, hC, hn, hni, T⟩ := exc_of_in X q
  have f1 := tc_lookup
  have f2 := tc_bind (.ref C)
  have hT : (⟨h, g, d, t, os⟩ : Shared).TypeIs (.ref C) "type" := ⟨_, hC, rfl⟩
  refine wpAny_call (codeAny_of_tree ?_)
  show wpAny _ _ (callAny (.ref C) _) _ _ _
  repeat (any_goals (first | assumption | with_reducible refine wpAny_loadPart_at hC ?_ | wp_step))
  refine ⟨rfl, ?_⟩
  refine codeAny_call_builtin_at (Code.quiet_builtin _ (by decide +kernel)) entry_typeCall (wpAny_check_type_call_sub hC (type_call_excI F X q hf ?_ hrest))
  exact hq
end
noncomputable def XO (a C : Addr) (dx : Option Addr) : HO := .ext fun h => ∃ tp, h.get? a = some (excO C dx tp)
theorem XO.ok {P : Program} {w : World} {H : Hp} {h : Heap} {a C tp : Addr} {dx : Option Addr} (e : h.get? a = some (excO C dx tp)) : ObjOk P w H h a (XO a C dx) :=
  ⟨⟨tp, e⟩, ⟨_, e⟩, fun _ _ ⟨tp, q⟩ k => ⟨tp, k _ q⟩⟩
theorem XO.get {P : Program} {w : World} {H : Hp} {h : Heap} {a C : Addr} {dx : Option Addr} (ok : HOk P w H h) (e : H a = some (XO a C dx)) : ∃ tp, h.get? a = some (excO C dx tp) := (ok a _ e).1
structure XMk (K : PySem.W.Frag) (C f : Addr) : Prop where
  ex : excInI K C [.type "ValueError", .type "Exception", .type "BaseException", .type "object"] "ValueError.__new__" f = true
  fn : PySem.W.isFn K (.ref f) = true
  kp : PySem.W.keepIn K (.ref C) = true
noncomputable def tMakeX (C : Addr) (sp : Sp) (E : XK) (t : TA) : TE := fun σ H Q => t σ H fun vs H1 => vs.length ≤ sizeLine ∧ ∀ x, H1 x = none → sp (.ref x :: vs) (upd H1 x (XO x C none)) (fun v H2 => v = .non ∧ Q (.ref x) H2) E
section
variable {X : Cx} {CX : CXT} {k : Nat} {f C : Addr} {fd : FuncData} {ps : List Str} {sp : Sp} {E : XK} {x : Str} {p pos : Pos} {e : Expr} {es : List Expr} {t : TA}
theorem run_makeX {pins : List (Addr × Obj)} {σ : St} {H : Hp} {s : Shared} {Q : VK} {us : List Value} {vs : List V} (M : XMk X.K C f) (F : FnOk X.prog X.w X.K X.mg X.base CX k f fd ps sp) (hr : Room (k + 1) X.A) (hb : Binds X.K fd ps [])
    (hx : Passes CX X E) (I : Inv X pins σ H s) (r : Vals vs us) (hz : vs.length ≤ sizeLine)
    (h : ∀ x, H x = none → sp (.ref x :: vs) (upd H x (XO x C none)) (fun v H2 => v = .non ∧ Q (.ref x) H2) E) :
    wpAny (model X.prog X.w) X.A (call (.ref C) us) (EP X pins σ Q) X.xe s := by
  obtain ⟨hh, g, d, tt, os⟩ := s
  have hq := h (hh.objs.size + 1) (I.hok.fresh (Nat.le_succ _))
  have e2 : ((hh.push (tupO us)).push (excO C none hh.objs.size)).get? (hh.objs.size + 1) = some (excO C none hh.objs.size) := by
    have := Heap.get?_push_size (hh.push (tupO us)) (o := excO C none hh.objs.size) rfl
    rwa [Heap.size_push] at this
  have I1 : Inv X pins σ H ⟨hh.push (tupO us), g, d, tt, os⟩ := I.kept (t' := tt) fun b u q => Heap.get?_push_of_some _ q
  have I2 : Inv X pins σ (upd H (hh.objs.size + 1) (XO (hh.objs.size + 1) C none)) ⟨(hh.push (tupO us)).push (excO C none hh.objs.size), g, d, tt, os⟩ :=
    I1.laid (a := hh.objs.size + 1) (t' := tt) (fun b u q => Heap.get?_push_of_some _ q) (Nat.le_of_eq (Heap.size_push _ _)) (XO.ok e2)
  have r2 : Vals (V.ref (hh.objs.size + 1) :: vs) (Value.ref (hh.objs.size + 1) :: us) := .cons rfl r
  have hl : (Value.ref (hh.objs.size + 1) :: us ++ []).length = ps.length := by
    rw [List.append_nil]
    have e := r2.length
    rw [F.len _ _ _ _ hq] at e
    exact e.symm
  refine call_excI PySem.F.excBase_ValueError I.kIn M.ex (beq_iff_eq.mp M.fn) ?_ (by rw [← r.length]; exact hz)
  refine wpAny_call (codeAny_mono (F.run _ X.stack _ _ ⟨Value.ref (hh.objs.size + 1) :: us, []⟩ (Value.ref (hh.objs.size + 1) :: us) _ _ E (hr.make C us [])
    (I2.env0.make C us []) (by have := hb _ (Value.ref (hh.objs.size + 1) :: us) I2.kIn hl; rwa [List.append_nil] at this) r2 hq) fun r s' hq' => ?_)
  cases r with
  | error e => exact hx pins σ _ _ e s' I2 hq'
  | ok fl =>
    cases fl with
    | ret u =>
      obtain ⟨v, H', I3, rv, ev, q3⟩ := I2.after hq'
      subst ev
      exact ⟨rv, ⟨V.ref (hh.objs.size + 1), H', I3, rfl, q3⟩⟩
    | next => exact False.elim hq'
    | brk => exact False.elim hq'
    | cont => exact False.elim hq'
theorem pe_makeX (M : XMk X.K C f) (F : FnOk X.prog X.w X.K X.mg X.base CX k f fd ps sp) (hr : Room (k + 1) X.A) (hg : Gl X x) (hm : X.mg x = some (.ref C)) (hb : Binds X.K fd ps []) (hx : Passes CX X E)
    (ha : PA X (e :: es) t) (hdb : (x == ("__debug__" : Str)) = false := by decide) (he : starEach (e :: es) X.env = (false, eval e X.env) :: starEach es X.env := by rfl) (hpl : (backTo pos (starEach es X.env)).any (·.1) = false := by rfl) :
    PE X (.Call (.Name x p) (e :: es) [] pos) (tMakeX C sp E t) := by
  intro pins s σ H Q I h
  refine wpAny_Call_Name_kw (ld_glob I hg hm ?_ hdb)
  refine PySem.W.callWith_K (h₀ := X.base) I.ok.mod.kin M.kp (thn (ha pos pins s σ H _ I h) fun us s1 ⟨vs, H1, I1, r, hz, q⟩ => ⟨I1.kIn, ?_⟩) he hpl
  exact run_makeX M F hr hb hx I1 r hz q
end
noncomputable def excTail : List Value → Bool
  | .ref _ :: r => excTail r
  | l => l == [.type "ValueError", .type "Exception", .type "BaseException", .type "object"]
theorem refuse_exc (self : Value) : ∀ {l : List Value}, excTail l = true → refuseLoop self "__setattr__" l = pure ()
  | .ref c :: r, e => by rw [refuseLoop_ref]; exact refuse_exc self (l := r) e
  | [], e => nomatch e
  | .type n :: r, e => by
    have q : (.type n :: r) = [Value.type "ValueError", .type "Exception", .type "BaseException", .type "object"] := by
      unfold excTail at e
      exact beq_iff_eq.mp e
    rw [q]
    kernel_rfl
  | .none :: r, e => by unfold excTail at e; exact nomatch (beq_iff_eq.mp e)
  | .bool _ :: r, e => by unfold excTail at e; exact nomatch (beq_iff_eq.mp e)
  | .int _ _ :: r, e => by unfold excTail at e; exact nomatch (beq_iff_eq.mp e)
  | .str _ _ :: r, e => by unfold excTail at e; exact nomatch (beq_iff_eq.mp e)
  | .bytes _ _ :: r, e => by unfold excTail at e; exact nomatch (beq_iff_eq.mp e)
  | .float _ _ :: r, e => by unfold excTail at e; exact nomatch (beq_iff_eq.mp e)
  | .builtin _ :: r, e => by unfold excTail at e; exact nomatch (beq_iff_eq.mp e)
end L2
namespace L2
open PySem PySem.Spec PySem.W PySem.Calls PyProof.Rows Builtin Builtin.ObjectAttr
noncomputable def excOver (K : PySem.W.Frag) (C : Addr) : Bool := (clsIn K C).any fun cd => excTail cd.mro
section
variable {prog : Program} {w : World} {A : Around} {K : PySem.W.Frag} {x C : Addr} {s : Shared} {R : Result → Shared → Prop}
theorem osa_openX {ox : Obj} {od : Option Obj} {name : Str} {tk : Tok} {v : Value} (X : K.In s.heap) (I : InstAt s.heap x ox C od) (c : XCls K C) (hp : excOver K C = true) (ht : findIn K (.ref C) name = some none)
    (h : wpAny (model prog w) A.in1 (storeInOwnDict (.ref x) (.ref C) (.str name tk) name v false)
      (fun fin s' => match fin with | .done f => R (.ok f) s' | .again c' => c'.quiet = true ∧ codeAny (model prog w) A c' R s') (fun e s' => R (.error e) s') s) :
    codeAny (model prog w) A (.call (.builtin "object.__setattr__") ⟨[.ref x, .str name tk, v], []⟩) R s := by
  have SF := PySem.F.store_object
  obtain ⟨cd, hc, ho⟩ := any_some hp
  have sub : Looks (model prog w) s.heap (isInstance (.ref x) (.type "object")) true := I.type.andThen (looks_mroIn X c.ob)
  refine codeAny_call_builtin SF.slot.plain SF.entry (@check_slot (model prog w) _ _ s "object.__setattr__" "object" "__setattr__" (.ref x) [.str name tk, v] [] _ SF.kind SF.split sub (SF.args (.ref x) (.str name tk) v) ?_)
  have hm : Looks (model prog w) s.heap (mroOf (.ref C)) cd.mro := (looks_clsIn X hc).andThen .now
  rw [osa_eq, refuse_eq]
  refine wpAny_bind (wpAny_bind (I.type.here (wpAny_bind (hm.here ?_))))
  rw [refuse_exc _ ho]
  refine wpAny_pure (wpAny_bind (I.type.here (wpAny_bind ((looks_findIn X ht).here (wpAny_bind (wpAny_pure ?_))))))
  exact h
end
section
variable {X : Cx} {pins : List (Addr × Obj)} {σ : St} {H : Hp} {s : Shared} {a C : Addr} {f : Str} {v : V} {A : Around} {E : Value → Shared → Prop}
theorem XO.inst0 {h : Heap} {tp : Addr} (e : h.get? a = some (excO C none tp)) : InstAt h a (excO C none tp) C none := ⟨e, rfl, rfl, trivial⟩
theorem setattrX_ok {y : V} {u : Value} {Q : Unit → Shared → Prop} (I : Inv X pins σ H s) (e : H a = some (XO a C none)) (c : XCls X.K C) (hp : excOver X.K C = true) (n : NoAttr X.K C f) (ry : RelV y u)
    (h : ∀ d s', H d = none → d ≠ a → Inv X pins σ (upd (upd H d (.xd [(f, y)])) a (XO a C (some d))) s' → Q () s') : wpAny (model X.prog X.w) A (setAttr (.ref a) f u) Q E s := by
  obtain ⟨tp, ho⟩ := XO.get I.hok e
  have J : InstAt s.heap a (excO C none tp) C none := XO.inst0 ho
  obtain ⟨cd, hc, hd'⟩ := any_some c.hd
  refine set_plain I.kIn J c.sa (osa_openX (s := { s with toks := s.toks + 1 }) I.kIn J c hp n ?_)
  -- the dict is made
  have na : s.heap.objs.size ≠ a := Nat.ne_of_gt (Heap.lt_size ho)
  refine wpAny_bind (wpAny_pure (wpAny_bind (wpAny_bind (wpAny_loadPart ho (wpAny_bind (PySem.W.Looks.here (s := { s with toks := s.toks + 1 }) (PySem.W.looks_clsIn I.kIn hc) ?_))))))
  rw [hd']
  show wpAny _ _ (alloc emptyDict >>= fun d => update a (fun o => { o with dict := some d }) >>= fun _ => dictMade (.ref C) a d) _ _ _
  refine wpAny_bind (wpAny_alloc (wpAny_bind ?_))
  have e1 : (s.heap.push emptyDict).get? s.heap.objs.size = some emptyDict := Heap.get?_push_size s.heap rfl
  have e0 : (s.heap.push emptyDict).get? a = some (excO C none tp) := Heap.get?_push_of_some _ ho
  refine wpAny_update e0 ?_
  generalize hh2 : (s.heap.push emptyDict).update a (fun o => { o with dict := some s.heap.objs.size }) = h2
  have e2 : h2.get? a = some (excO C (some s.heap.objs.size) tp) := by rw [← hh2]; exact Heap.get?_update_self _ e0 rfl
  have k2 : ∀ b, b ≠ a → h2.get? b = (s.heap.push emptyDict).get? b := fun b hb => by rw [← hh2]; exact Heap.get?_update_other _ _ (Ne.symm hb)
  have n2 : h2.Ns1 s.heap.objs.size (fun _ => none) := by
    refine Heap.Ns1.of_empty ⟨emptyDict, #[], _, (k2 _ na).trans e1, rfl, (fun e he => absurd he (by simp)), fun _ => rfl⟩
  refine wpAny_pure ?_
  refine wpAny_bind (wpAny_pure (wpAny_bind ?_))
  refine wpAny_nsSet1 (s := { s with heap := h2, toks := s.toks + 1 }) n2 fun h3 n3 sb3 => ?_
  have n3 : h3.Ns1 s.heap.objs.size (fun x => if x = f then some u else none) := n3
  have sb3 : Heap.SameBut s.heap.objs.size h2 h3 := sb3
  obtain ⟨oD, esD, epD, hoD, hdD, hcD⟩ := n3.count (ns := [f]) (fun g hg => by
    by_cases z : g = f
    · rw [z]; exact List.mem_singleton.mpr rfl
    · rw [if_neg z] at hg; exact absurd rfl hg)
  refine wpAny_bind (wpAny_lookBehind hoD (by rw [hdD]; exact pastItsLine_dict (Nat.le_trans hcD (by show 1 ≤ sizeLine + 1; decide))) ?_)
  have nd : H s.heap.objs.size = none := I.hok.fresh (Nat.le_refl _)
  refine wpAny_pure (h s.heap.objs.size _ nd na ?_)
  have e3 : h3.get? a = some (excO C (some s.heap.objs.size) tp) := (sb3.2 a (Ne.symm na)).trans e2
  have k3 : ∀ b o, b ≠ a → s.heap.get? b = some o → h3.get? b = some o := fun b o hb q =>
    (sb3.2 b (Nat.ne_of_lt (Heap.lt_size q))).trans ((k2 b hb).trans (Heap.get?_push_of_some _ q))
  have tr : ∀ b o, H b = some o → b ≠ s.heap.objs.size := fun b o q => ne_of_none q nd
  have un : ∀ b, H b = none → b ≠ a := fun b q z => by rw [z, e] at q; cases q
  refine Inv.step (s := s) (h' := h3) (t' := s.toks + 1 + 1) (g' := s.gens) (d' := s.drawn) (ch := []) I (fun _ z => nomatch z) (fun b o _ _ _ q n => k3 b o (un b n) q) (fun b o _ _ _ q n => ⟨o.slots, k3 b o (un b n) q⟩)
    (fun b o _ q n => by rw [upd_ne (un b n), upd_ne (Nat.ne_of_lt (Heap.lt_size q))]; exact n)
    (fun b o _ q => by
      by_cases z : b = a
      · exact ⟨_, by rw [z]; exact e3⟩
      · exact ⟨o, k3 b o z q⟩)
    (fun b xs q => by rw [upd_ne (ne_of q e (by intro z; cases z)), upd_ne (tr b _ q)]; exact q) (fun b o u q => by rw [upd_ne (ne_of q e (by intro z; cases z)), upd_ne (tr b _ q)]; exact q)
    (fun b ps q => ⟨#[], by rw [upd_ne (ne_of q e (by intro z; cases z)), upd_ne (tr b _ q), q]; simp⟩) (fun m hm => ?_) (fun b u' q => ?_) I.bare
  · obtain ⟨o, es, ep, q, r⟩ := hm
    exact ⟨o, es, ep, k3 _ o (un _ I.free) q, r⟩
  · by_cases hb : b = a
    · subst hb
      rw [upd_same] at q
      cases q
      exact XO.ok e3
    · rw [upd_ne hb] at q
      by_cases hbd : b = s.heap.objs.size
      · subst hbd
        rw [upd_same] at q
        cases q
        refine ⟨_, n3, fun g => ?_⟩
        by_cases z : g = f
        · rw [if_pos z, z, List.lookup_cons, beq_self_eq_true]; exact ry
        · rw [if_neg z, List.lookup_cons, show (g == f) = false by simpa using z]; exact trivial
      · rw [upd_ne hbd] at q
        refine (I.hok b u' q).stay (fun c' v' hc' z => k3 c' v' ?_ z) (fun c' z => by rw [upd_ne (ne_of z e (by intro z; cases z)), upd_ne (tr c' _ z)]; exact z) fun c' ys z => by rw [upd_ne (ne_of z e (by intro z; cases z)), upd_ne (tr c' _ z)]; exact z
        rcases hc' with z | z
        · rw [z]; exact hb
        · exact ne_of z e (by intro z; cases z)
end
noncomputable def sFldX (K : PySem.W.Frag) (ta tv : TE) (f : Str) : TS := fun D σ H => tv σ H fun y H1 => ta σ H1 fun x H2 => ∃ a C, x = .ref a ∧ H2 a = some (XO a C none) ∧ XCls K C ∧ excOver K C = true ∧ NoAttr K C f ∧
  ∀ d, H2 d = none → d ≠ a → D.nx σ (upd (upd H2 d (.xd [(f, y)])) a (XO a C (some d)))
section
variable {X : Cx} {K : PySem.W.Frag} {o e value : Expr} {f : Str} {pos pos' : Pos} {ta tv : TE}
theorem ps_fldX (hK : X.K = K) (ha : PE X o ta) (hv : PE X value tv) (hs : swapsWith value (some (.Attribute o f pos')) pos.line X.env = pure false) : PS X (.Assign [.Attribute o f pos'] value pos) (sFldX K ta tv f) := by
  subst hK
  intro pins s σ H D I h
  refine plainObj_wpAny_Assign_Attribute (thn (hv pins s σ H _ I h) fun u s1 ⟨y, H1, I1, ry, q⟩ => thn (ha pins s1 σ H1 _ I1 q) fun ov s2 zpat => ?_) hs
  obtain ⟨x, H2, I2, rx, a, C, ex, ea, c, hp, n, q2⟩ := zpat
  subst ex
  obtain rfl : ov = Value.ref a := rx
  exact setattrX_ok I2 ea c hp n ry fun d s3 hd hne I3 => ⟨σ, _, I3, q2 d hd hne⟩
end
end L2
namespace My
end My
namespace My
end My
namespace My
end My
namespace My
end My
namespace My
end My
namespace L2
open PySem PySem.Spec PyProof.Rows
inductive EqI (K : PySem.W.Frag) (H : Hp) : V → V → Bool → Prop where
  | flat {x y : V} (fx : flatV x = true) (fy : flatV y = true) : EqI K H x y (eqV x y)
  | same (a : Addr) : EqI K H (.ref a) (.ref a) true
  | tup {a b : Addr} {xs ys : List V} (ha : SqT K H a xs) (hb : SqT K H b ys) (fx : xs.all flatV = true) (fy : ys.all flatV = true) : EqI K H (.ref a) (.ref b) (eqVs xs ys)
theorem eqV_refl {x : V} (h : flatV x = true) : eqV x x = true := by
  cases x with
  | non => rfl
  | bl b => show (b == b) = true; simp
  | int i => show (i == i) = true; simp
  | str z => show (z == z) = true; simp
  | _ => exact absurd (show false = true from h) Bool.false_ne_true
theorem eqVs_refl : ∀ {xs : List V}, xs.all flatV = true → eqVs xs xs = true
  | [], _ => rfl
  | x :: xs, h => by
    rw [List.all_cons, Bool.and_eq_true] at h
    rw [eqVs, eqV_refl h.1, eqVs_refl h.2]; rfl
theorem eqVs_min {xs ys : List V} : ((List.range (min xs.length ys.length)).all (fun j => eqV (xs.getD j .non) (ys.getD j .non)) && xs.length == ys.length) = eqVs xs ys := by
  by_cases h : xs.length = ys.length
  · have e : min xs.length ys.length = xs.length := by omega
    rw [e, eqVs_range h, h, beq_self_eq_true, Bool.and_true]
  · have e : (xs.length == ys.length) = false := by simpa using h
    rw [e, Bool.and_false]
    cases q : eqVs xs ys with
    | false => rfl
    | true => exact absurd (eqVs_len q) h
section
variable {X : Cx}
theorem EqI.at {pins : List (Addr × Obj)} {σ : St} {H : Hp} {s : Shared} {A : Around} {x y : V} {u v : Value} {b : Bool} (I : Inv X pins σ H s) (hu : A.units + 64 < cLine) (rx : RelV x u) (ry : RelV y v) (h : EqI X.K H x y b) : SeqAt.EqAt A s u v b := by
  cases h with
  | flat fx fy => exact eqAt_V rx ry fx fy
  | same a => cases rx; cases ry; exact SeqAt.EqAt.same _
  | tup ha hb fx fy =>
    cases rx; cases ry
    rename_i a b xs ys
    by_cases e : a = b
    · subst e
      have e2 := I.tuple_inj ha hb
      subst e2
      rw [eqVs_refl fx]
      exact SeqAt.EqAt.same _
    · obtain ⟨us, r, p, z⟩ := I.tuple ha
      obtain ⟨ws, r', p', z'⟩ := I.tuple hb
      have q := SeqAt.RcAt.tuples (A := A) (s := s) (e := fun j => eqV (xs.getD j .non) (ys.getD j .non)) (show s.heap.IsTuple a us.toArray from p) (show s.heap.IsTuple b ws.toArray from p') (by omega) (fun j h1 h2 => eqAt_list r r' fx fy j h1 h2)
      rw [List.size_toArray, List.size_toArray, ← r.length, ← r'.length, eqVs_min] at q
      exact SeqAt.EqAt.of_refs e q
theorem call_any (hc : X.calm = true) : CallR X (.builtin "any") (fun xs H Q => ∃ (p : Addr) (bs : List Bool), xs = [.ref p] ∧ SqL X.K H p (bs.map V.bl) ∧ Q (.bl (bs.any id)) H) := by
  intro pins s σ H xs us Q I r h
  obtain ⟨p, bs, rfl, hp, q⟩ := h
  obtain ⟨u, rfl, rx⟩ := vals1 r
  cases rx
  obtain ⟨vs, rel, pl, hz⟩ := I.list hp
  have hl := pl.isList
  have hlen : bs.length = vs.length := by simpa using rel.length
  have hlt : p < s.heap.objs.size := by obtain ⟨_, e, _⟩ := hl; exact Heap.lt_size e
  refine call_any_walk (wpAny_pyIter_list hl ?_)
  refine ⟨s.heap.objs.size, [s.heap.objs.size, p], [s.heap.objs.size], vs.toArray.size, _, _, fun i => (bs[i]?).getD false, rfl, Walks.list (A := X.A.in1) (I.ok.hd hc) _ p (Nat.ne_of_lt hlt) vs.toArray,
    ⟨⟨_, Heap.get?_push_size _ rfl, rfl, rfl⟩, hl.push _⟩, fun i v s' Q' E' hP hQ => ?_, fun h' tk hk => ?_⟩
  · have hP : vs[i]? = some v := by simpa using hP
    have hi : i < vs.length := by
      obtain ⟨h, _⟩ := List.getElem?_eq_some_iff.mp hP
      exact h
    obtain ⟨u, eu, ru⟩ := rel.get (i := i) (x := V.bl bs[i]) (by rw [List.getElem?_map, List.getElem?_eq_getElem (by omega)]; rfl)
    have eu : vs[i]? = some u := eu
    rw [hP] at eu
    obtain rfl := Option.some.inj eu
    cases ru
    have e : bs[i]? = some bs[i] := List.getElem?_eq_getElem (by omega)
    simp only [e, Option.getD_some] at hQ
    exact wpAny_truthy_bool hQ
  · have e : ((List.range vs.toArray.size).any fun i => (bs[i]?).getD false) = bs.any id := by
      rw [List.size_toArray, ← hlen, Bool.eq_iff_iff, List.any_eq_true, List.any_eq_true]
      constructor
      · rintro ⟨i, hi, e⟩
        have hi := List.mem_range.mp hi
        rw [List.getElem?_eq_getElem hi] at e
        exact ⟨bs[i], List.getElem_mem hi, e⟩
      · rintro ⟨b, hb, e⟩
        obtain ⟨i, hi, rfl⟩ := List.mem_iff_getElem.mp hb
        exact ⟨i, List.mem_range.mpr hi, by rw [List.getElem?_eq_getElem hi]; exact e⟩
    rw [e]
    exact ⟨.bl _, H, I.kept fun b o hb => hk b o (fun hm => by rw [List.mem_singleton.mp hm] at hb; exact Nat.lt_irrefl _ (Heap.lt_size hb)) (Heap.get?_push_of_some _ hb), rfl, q⟩
variable {K : PySem.W.Frag}
theorem call_anyK (h : X.K = K) (hc : X.calm = true) : CallR X (.builtin "any") (fun xs H Q => ∃ (p : Addr) (bs : List Bool), xs = [.ref p] ∧ SqL K H p (bs.map V.bl) ∧ Q (.bl (bs.any id)) H) := h ▸ call_any hc
end
end L2
namespace L2
open PySem PySem.Spec PyProof.Rows
section
variable {X : Cx} {tg : Expr}
end
end L2
namespace My
noncomputable def brk (m : Nat) (r : Nat × Nat) : Bool := decide (r.1 &&& m = r.1) && !decide (r.2 &&& m = r.2)
noncomputable def haveP (rl : List (Nat × Nat)) (x : Nat) (ps : List Nat) : Nat := ps.foldl (fun h k => h ||| (rl.getD k (0, 0)).2) x
noncomputable def Walks (rl : List (Nat × Nat)) (x : Nat) (ps : List Nat) : Prop := ∀ i (h : i < ps.length), ps[i] < rl.length ∧ brk (haveP rl x (ps.take i)) (rl.getD ps[i] (0, 0)) = true
end My
namespace My
end My
namespace My
end My
namespace My
end My
namespace My
section
variable {R : Nat → Nat → Bool} {n : Nat}
end
end My
namespace My
open PySem L2
theorem strs_flat (ss : List Str) : (ss.map V.str).all flatV = true := by rw [List.all_map, List.all_eq_true]; intro _ _; rfl
theorem in_strs (s : Str) (ss : List Str) : inV (.str s) (ss.map V.str) = decide (s ∈ ss) := by
  unfold inV
  rw [List.any_map, Bool.eq_iff_iff, List.any_eq_true, decide_eq_true_eq]
  constructor
  · rintro ⟨x, hx, e⟩
    have e : (x == s) = true := e
    have : x = s := by simpa using e
    exact this ▸ hx
  · intro h
    exact ⟨s, h, by show (s == s) = true; simp⟩
theorem cut_take {α : Type} (f : α → V) (xs : List α) (k : Nat) : cutV (xs.map f) none (some (k : Int)) = (xs.take k).map f := by
  unfold cutV
  rw [HT.sIx_none, HT.sIx_nat, List.drop_zero, Nat.sub_zero, List.length_map, List.map_take]
  by_cases h : k ≤ xs.length
  · rw [Nat.min_eq_left h]
  · rw [Nat.min_eq_right (by omega), List.take_of_length_le (by rw [List.length_map]; omega), List.take_of_length_le (by rw [List.length_map]; omega)]
theorem cut_drop {α : Type} (f : α → V) (xs : List α) (k : Nat) : cutV (xs.map f) (some (k : Int)) none = (xs.drop k).map f := by
  unfold cutV
  rw [HT.sIx_none, HT.sIx_nat, List.length_map, List.map_drop]
  by_cases h : k ≤ xs.length
  · rw [Nat.min_eq_left h, List.take_of_length_le (by rw [List.length_drop, List.length_map]; omega)]
  · rw [Nat.min_eq_right (by omega), List.drop_of_length_le (by rw [List.length_map]; omega), List.drop_of_length_le (by rw [List.length_map]; omega), List.take_nil]
end My
namespace L2
open PySem PySem.Spec PyProof.Rows
theorem strs_of : ∀ {ss : List Str} {us : List Value}, Vals (ss.map V.str) us → StrsAre us ss
  | [], _, .nil => .nil
  | s :: ss, _, .cons r t => by
    obtain ⟨k, rfl⟩ := (show ∃ k, _ = Value.str s k from r)
    exact .cons s k (strs_of t)
theorem mt_join {X : Cx} {K : PySem.W.Frag} (hK : X.K = K) : MtR X "str.join" (fun x vs H Q => ∃ (sep : Str) (p : Addr) (ss : List Str), x = .str sep ∧ vs = [.ref p] ∧ SqL K H p (ss.map V.str) ∧ (ss.map (·.length)).sum + ss.length * sep.length ≤ 16777216 ∧ Q (.str (PySem.Txt.join sep ss)) H) := by
  subst hK
  intro pins s σ H x vs v us Q I rx rv h
  obtain ⟨sep, p, ss, rfl, rfl, hp, hz, q⟩ := h
  obtain ⟨t, rfl⟩ := rx
  obtain ⟨u, rfl, ru⟩ := rv.one
  cases ru
  obtain ⟨its, r, pl, _⟩ := I.list hp
  exact join_list pl.isList (strs_of r) hz fun t' k => ⟨.str _, H, I.tok _, ⟨_, rfl⟩, q⟩
end L2
namespace My
open PySem L2
noncomputable def oneS (n : Nat) : Str := ⟨#[n]⟩
noncomputable def sizeS (c k : Nat) : Nat := 2 + (c + k * (c / 7 % 2)) % 7
noncomputable def codesS (c k : Nat) : List Nat := ((List.replicate (sizeS c k) (97 + c / 98 % 26)).set (c / 14 % sizeS c k) (97 + k / 26 % 26)).set ((c / 14 % sizeS c k + 1) % sizeS c k) (97 + k % 26)
noncomputable def nameS (c k : Nat) : Str := if c / 5 % 4 = 1 ∧ k < 26 then oneS (97 + (k + c / 20) % 26) else PySem.Txt.join (Str.ofString "") ((codesS c k).map oneS)
theorem join_codes (l : List Nat) : (PySem.Txt.join (Str.ofString "") (l.map oneS)).cps.toList = l := by
  show (Builtin.Str.glued (Str.ofString "") (l.map oneS)).cps.toList = l
  rw [StrLaws.glued_eq_join]
  have e0 : (Str.ofString "").cps = #[] := by decide +kernel
  induction l with
  | nil => rfl
  | cons a r ih =>
    cases r with
    | nil => rfl
    | cons b r =>
      show (((oneS a).cps ++ (Str.ofString "").cps) ++ (Str.join (Str.ofString "") ((b :: r).map oneS)).cps).toList = _
      rw [e0, Array.append_empty, Array.toList_append, ih]; rfl
theorem codesS_len (c k : Nat) : (codesS c k).length = sizeS c k := by unfold codesS; rw [List.length_set, List.length_set, List.length_replicate]
theorem sizeS_two (c k : Nat) : 2 ≤ sizeS c k := by unfold sizeS; omega
theorem sizeS_le (c k : Nat) : sizeS c k ≤ 8 := by unfold sizeS; omega
theorem codesS_at (c k : Nat) : (codesS c k)[c / 14 % sizeS c k]? = some (97 + k / 26 % 26) := by
  have h := sizeS_two c k
  have hp : c / 14 % sizeS c k < sizeS c k := Nat.mod_lt _ (by omega)
  have hne : (c / 14 % sizeS c k + 1) % sizeS c k ≠ c / 14 % sizeS c k := by
    generalize c / 14 % sizeS c k = p at hp
    by_cases e : p + 1 = sizeS c k
    · rw [e, Nat.mod_self]; omega
    · rw [Nat.mod_eq_of_lt (by omega)]; omega
  unfold codesS
  rw [List.getElem?_set_ne hne, List.getElem?_set_self (by rw [List.length_replicate]; exact hp)]
theorem name_ne {c k k' : Nat} (h : k / 26 % 26 ≠ k' / 26 % 26) (hk' : 26 ≤ k') : nameS c k ≠ nameS c k' := by
  intro e
  unfold nameS at e
  rw [if_neg (show ¬ (c / 5 % 4 = 1 ∧ k' < 26) by omega)] at e
  by_cases a : c / 5 % 4 = 1 ∧ k < 26
  · rw [if_pos a] at e
    have e : (oneS (97 + (k + c / 20) % 26)).cps.toList.length = (PySem.Txt.join (Str.ofString "") ((codesS c k').map oneS)).cps.toList.length := congrArg (fun s : Str => s.cps.toList.length) e
    rw [join_codes, codesS_len] at e
    have := sizeS_two c k'
    have e : 1 = sizeS c k' := e
    omega
  · rw [if_neg a] at e
    have e : (PySem.Txt.join (Str.ofString "") ((codesS c k).map oneS)).cps.toList = (PySem.Txt.join (Str.ofString "") ((codesS c k').map oneS)).cps.toList := congrArg (fun s : Str => s.cps.toList) e
    rw [join_codes, join_codes] at e
    have el := congrArg List.length e
    rw [codesS_len, codesS_len] at el
    have h1 := codesS_at c k
    have h2 := codesS_at c k'
    rw [e, el, h2] at h1
    have := Option.some.inj h1
    omega
noncomputable def abcS : Str := "abcdefghijklmnopqrstuvwxyz"
theorem abcS_list : abcS.cps.toList = (List.range 26).map (97 + ·) := by decide +kernel
theorem abcS_len : abcS.length ≤ sizeLine := by rw [show abcS.length = 26 from by decide +kernel, sizeLine_eq]; decide
theorem abcS_at {j : Nat} (h : j < 26) : atI abcS.cps.toList (j : Int) = some (97 + j) := by
  refine atI_nat ?_
  rw [abcS_list, List.getElem?_map, List.getElem?_range h]; rfl
theorem ones_sum {n : Nat} (ss : List Str) (h : ∀ s ∈ ss, s.length ≤ 1) (hl : ss.length ≤ n) : (ss.map (·.length)).sum + ss.length * (Str.ofString "").length ≤ n := by
  have e : (Str.ofString "").length = 0 := by decide +kernel
  have := StrLaws.sumLen_le ss h
  rw [e]; omega
theorem codes_ones (l : List Nat) : ∀ s ∈ l.map oneS, s.length ≤ 1 := fun s hs => by
  obtain ⟨n, _, rfl⟩ := List.mem_map.mp hs
  exact Nat.le_refl _
end My
namespace L2
open PySem PySem.Spec PySem.W PySem.Calls PyProof.Rows Builtin Builtin.ObjectAttr
noncomputable abbrev xob (C : Addr) (d : Option Addr) (vs : Array Value) : Obj := { cls := .ref C, dict := d, data := .fields vs }
noncomputable def XF (a C : Addr) (d : Option Addr) (T : Addr) : HO := .ext fun h => ∃ vs, h.get? a = some (xob C d vs) ∧ vs[1]? = some (.ref T)
noncomputable def XT (T : Addr) : HO := .ext fun h => ∃ o ts, h.get? T = some o ∧ o.data = .fields ts ∧ ts[3]? = some Value.none
section
variable {P : Program} {w : World} {H : Hp} {h : Heap} {a C T : Addr} {d : Option Addr}
theorem XF.ok {vs : Array Value} (e : h.get? a = some (xob C d vs)) (e1 : vs[1]? = some (.ref T)) : ObjOk P w H h a (XF a C d T) :=
  ⟨⟨vs, e, e1⟩, ⟨_, e⟩, fun _ _ ⟨vs, q, r⟩ k => ⟨vs, k _ q, r⟩⟩
theorem XT.ok {o : Obj} {ts : Array Value} (e : h.get? T = some o) (e1 : o.data = .fields ts) (e3 : ts[3]? = some Value.none) : ObjOk P w H h T (XT T) :=
  ⟨⟨o, ts, e, e1, e3⟩, ⟨_, e⟩, fun _ _ ⟨o, ts, q, r⟩ k => ⟨o, ts, k _ q, r⟩⟩
theorem XF.get (ok : HOk P w H h) (e : H a = some (XF a C d T)) : ∃ vs, h.get? a = some (xob C d vs) ∧ vs[1]? = some (.ref T) := (ok a _ e).1
theorem XT.get (ok : HOk P w H h) (e : H T = some (XT T)) : ∃ o ts, h.get? T = some o ∧ o.data = .fields ts ∧ ts[3]? = some Value.none := (ok T _ e).1
end
theorem obj_at {P : Program} {w : World} {H : Hp} {h : Heap} {a : Addr} {o : HO} (x : ObjOk P w H h a o) : ∃ ob, h.get? a = some ob := by
  cases o with
  | lst xs => obtain ⟨_, _, _, _, e⟩ := x; exact ⟨_, e⟩
  | tup xs => obtain ⟨_, _, _, ob, e, _⟩ := x; exact ⟨ob, e⟩
  | dK kvs => obtain ⟨_, _, _, _, ob, _, _, e, _⟩ := x; exact ⟨ob, e⟩
  | dT kvs => obtain ⟨_, _, _, _, ob, _, _, e, _⟩ := x; exact ⟨ob, e⟩
  | set S n => obtain ⟨ob, _, _, _, e, _⟩ := x; exact ⟨ob, e⟩
  | ins C dx fs => obtain ⟨_, _, _, e, _⟩ := x; exact ⟨_, e⟩
  | own y => exact x
  | xd fs => obtain ⟨_, ⟨ob, _, _, e, _⟩, _⟩ := x; exact ⟨ob, e⟩
  | rng lo hi => obtain ⟨_, _, _, e⟩ := x; exact ⟨_, e⟩
  | frz ob u => exact ⟨ob, x.1⟩
  | tbl ps => exact ⟨_, x⟩
  | met f y => exact ⟨_, x⟩
  | ext φ => exact x.2.1
structure Noted (fs : List Addr) (a C T : Addr) (d : Option Addr) (h h' : Heap) : Prop where
  keep : ∀ b o, b ≠ a → b ∉ fs → h.get? b = some o → h'.get? b = some o
  slot : ∀ b o, b ∈ fs → h.get? b = some o → ∃ sl, h'.get? b = some { o with slots := sl }
  new : h.objs.size ≤ T
  exc : ∃ vs, h'.get? a = some (xob C d vs) ∧ vs[1]? = some (.ref T)
  ent : ∃ o ts, h'.get? T = some o ∧ o.data = .fields ts ∧ ts[3]? = some Value.none
section
variable {M : Model} {A : Around} {E : Value → Shared → Prop} {s : Shared} {base : Heap} {env : Env} {outer : List Env} {L a C : Addr} {d : Option Addr} {vs : Array Value} {Q : Unit → Shared → Prop}
theorem entry_new {head : Value} {had : Bool} (hfr : A.frames = some (env :: outer)) (hl : s.heap.FunFrames base (env :: outer)) (hf : env.frame = some L) (he : s.heap.get? a = some (xob C d vs)) (hsz : 1 < vs.size)
    (k : ∀ T h', Noted ((env :: outer).filterMap (·.frame)) a C T d s.heap h' → Q () { s with heap := h' }) :
    wpAny M A (do let f ← frameOf env; let pl ← entryPlaceOf L had; let b ← EntryCells.newEntry head f .none (rawInt L) .none pl; setField (.ref a) 1 b) (fun _ s' => wpAny M A (setFlight (.ref a) none) Q E s') E s := by
  have nof : a ∉ (env :: outer).filterMap (·.frame) := fun hm => by
    obtain ⟨_, o, ho, hn⟩ := hl.mem hm
    rw [he] at ho
    cases ho
    exact hn vs rfl
  refine wpAny_bind (wpAny_frameOf_fun hfr hl hf fun h1 z1 => wpAny_bind (wpAny_entryPlaceOf fun pl hpl => ?_))
  have e1 : h1.get? a = some (xob C d vs) := (z1.2.1 a nof).trans he
  unfold EntryCells.newEntry newFields
  refine wpAny_bind (wpAny_newObj_type ?_ (hpl.sizeOk5 _ _ _ _ _))
  generalize ho : ({ cls := .type "traceback", dict := none, data := .fields ([head, .ref L, .none, rawInt L, .none] ++ (if pl.isEmpty then List.replicate 6 Value.none else pl)).toArray } : Obj) = ob
  have hsz4 : 3 < ([head, .ref L, .none, rawInt L, .none] ++ (if pl.isEmpty then List.replicate 6 Value.none else pl)).toArray.size := by
    simp only [List.size_toArray, List.length_append, List.length_cons, List.length_nil]; omega
  generalize ht : ([head, .ref L, .none, rawInt L, .none] ++ (if pl.isEmpty then List.replicate 6 Value.none else pl)).toArray = ts at ho hsz4
  have hna : h1.objs.size ≠ a := Nat.ne_of_gt (Heap.lt_size e1)
  have e2 : (h1.push ob).get? a = some (xob C d vs) := Heap.get?_push_of_some _ e1
  have t2 : (h1.push ob).get? h1.objs.size = some ob := Heap.get?_push_size _ (by rw [← ho]; rfl)
  refine wpAny_setField e2 rfl hsz ?_
  have d3 := Obj.data_mapFields (o := xob C d vs) rfl (·.setIfInBounds 1 (Value.ref h1.objs.size))
  have e3 := Heap.get?_update_self (Obj.mapFields (·.setIfInBounds 1 (Value.ref h1.objs.size))) e2 (Obj.isFreed_of_fields d3)
  have t3 := (Heap.get?_update_other (h1.push ob) (Obj.mapFields (·.setIfInBounds 1 (Value.ref h1.objs.size))) (Ne.symm hna)).trans t2
  have eo : Obj.mapFields (·.setIfInBounds 1 (Value.ref h1.objs.size)) (xob C d vs) = xob C d (vs.setIfInBounds 1 (Value.ref h1.objs.size)) := rfl
  rw [eo] at e3
  unfold setFlight
  refine wpAny_bind (wpAny_field e3 rfl (x := .ref h1.objs.size) (by simp [hsz]) ?_)
  rw [if_pos (show (Value.ref h1.objs.size != Value.none) = true from by simp)]
  have hd : ob.data = .fields ts := by rw [← ho]
  refine wpAny_setField t3 hd hsz4 (k h1.objs.size _ ⟨fun b o hb hm q => ?_, fun b o hm q => ?_, Nat.le_of_eq z1.1.symm, ⟨vs.setIfInBounds 1 (Value.ref h1.objs.size), ?_, ?_⟩, ⟨_, _, Heap.get?_update_self _ t3 (Obj.isFreed_of_fields (Obj.data_mapFields hd _)), Obj.data_mapFields hd _, ?_⟩⟩)
  · have q1 : h1.get? b = some o := (z1.2.1 b hm).trans q
    rw [Heap.get?_update_other _ _ (Nat.ne_of_gt (Heap.lt_size q1)), Heap.get?_update_other _ _ (Ne.symm hb)]
    exact Heap.get?_push_of_some _ q1
  · obtain ⟨sl, q1⟩ := z1.2.2 b o q
    refine ⟨sl, ?_⟩
    rw [Heap.get?_update_other _ _ (Nat.ne_of_gt (Heap.lt_size q1)), Heap.get?_update_other _ _ (fun e => nof (by rw [e]; exact hm))]
    exact Heap.get?_push_of_some _ q1
  · rw [Heap.get?_update_other _ _ hna]; exact e3
  · simp [hsz]
  · simp [hsz4]
theorem note_new (hfr : A.frames = some (env :: outer)) (hl : s.heap.FunFrames base (env :: outer)) (hf : env.frame = some L) (he : s.heap.get? a = some (xob C d vs)) (h1 : vs[1]? = some Value.none)
    (k : ∀ T h', Noted ((env :: outer).filterMap (·.frame)) a C T d s.heap h' → Q () { s with heap := h' }) :
    wpAny M A (noteFrame (.ref a) env) (fun _ s' => wpAny M A (setFlight (.ref a) none) Q E s') E s := by
  unfold noteFrame
  simp only [hf]
  refine wpAny_bind (wpAny_field he rfl h1 ?_)
  rw [if_neg (by decide)]
  exact entry_new hfr hl hf he (Array.getElem?_eq_some_iff.mp h1).1 k
theorem note_on {T0 : Addr} {oT : Obj} {ts : Array Value} (hfr : A.frames = some (env :: outer)) (hl : s.heap.FunFrames base (env :: outer)) (hf : env.frame = some L) (he : s.heap.get? a = some (xob C d vs)) (h1 : vs[1]? = some (.ref T0)) (hne : T0 ≠ a)
    (hT : s.heap.get? T0 = some oT) (hd : oT.data = .fields ts) (h3 : ts[3]? = some Value.none)
    (k : ∀ T h', Noted ((env :: outer).filterMap (·.frame)) a C T d (s.heap.update T0 (Obj.mapFields (·.setIfInBounds 3 Value.none))) h' → Q () { s with heap := h' }) :
    wpAny M A (noteFrame (.ref a) env) (fun _ s' => wpAny M A (setFlight (.ref a) none) Q E s') E s := by
  unfold noteFrame
  simp only [hf]
  refine wpAny_bind (wpAny_field he rfl h1 ?_)
  rw [if_pos (show (Value.ref T0 != Value.none) = true from by simp)]
  refine wpAny_bind (wpAny_field hT hd h3 ?_)
  rw [if_neg (show ¬ ((Value.none == rawInt L) = true) from by simp [rawInt])]
  refine wpAny_bind (wpAny_setField hT hd (Array.getElem?_eq_some_iff.mp h3).1 ?_)
  refine entry_new (s := { s with heap := s.heap.update T0 (Obj.mapFields (·.setIfInBounds 3 Value.none)) }) hfr (hl.of_keeps fun b o hb hn => ?_) hf ((Heap.get?_update_other _ _ hne).trans he) (Array.getElem?_eq_some_iff.mp h1).1 k
  by_cases e : b = T0
  · subst e
    rw [hT] at hb
    cases hb
    exact absurd hd (hn ts)
  · exact ⟨o, (Heap.get?_update_other _ _ (Ne.symm e)).trans hb, rfl⟩
end
section
variable {X : Cx} {pins : List (Addr × Obj)} {σ : St} {H : Hp} {s : Shared} {a C : Addr} {d : Option Addr} {A : Around} {E : Value → Shared → Prop} {Q : Unit → Shared → Prop}
theorem Inv.noted {T : Addr} {h0 h' : Heap} {φ : Heap → Prop} (I : Inv X pins σ H s) (e : H a = some (.ext φ)) (k0 : ∀ b o, H b ≠ none → b ≠ a → (∀ ψ, H b ≠ some (.ext ψ)) → s.heap.get? b = some o → h0.get? b = some o)
    (k1 : ∀ b o, H b = none → s.heap.get? b = some o → h0.get? b = some o) (hx : ∀ b ψ, b ≠ a → H b = some (.ext ψ) → ObjOk X.prog X.w (upd (upd H T (XT T)) a (XF a C d T)) h' b (.ext ψ)) (hsz : h0.objs.size = s.heap.objs.size)
    (N : Noted (frs X.stack) a C T d h0 h') : Inv X pins σ (upd (upd H T (XT T)) a (XF a C d T)) { s with heap := h' } := by
  have hT : H T = none := I.hok.fresh (by rw [← hsz]; exact N.new)
  have hTa : T ≠ a := fun z => by rw [z, e] at hT; cases hT
  have na : ∀ b, H b = none → b ≠ a := fun b q z => by rw [z, e] at q; cases q
  have nT : ∀ b o, s.heap.get? b = some o → b ≠ T := fun b o q => Nat.ne_of_lt (Nat.lt_of_lt_of_le (Heap.lt_size q) (by rw [← hsz]; exact N.new))
  have old : ∀ b u, H b = some u → b ≠ T := fun b u q z => by rw [z, hT] at q; cases q
  have nf : ∀ b u, H b = some u → b ∉ frs X.stack := fun b u q z => by rw [I.stkFree b z] at q; cases q
  refine I.call (h' := h') (g' := s.gens) (d' := s.drawn) (t' := s.toks) (ch := []) ⟨fun b o q n hm _ => N.keep b o (na b n) hm (k1 b o n q), fun b o q n hm _ => N.slot b o hm (k1 b o n q), fun b o q n _ => ?_, fun b o q _ => ?_, fun b xs q => ?_, fun b o u q => ?_, fun b ps q => ⟨#[], ?_⟩⟩ (fun b u q => ?_) I.bare (fun _ z => nomatch z)
  · rw [upd_ne (na b n), upd_ne (nT b o q)]; exact n
  · by_cases hb : b = a
    · rw [hb]; obtain ⟨vs, r, _⟩ := N.exc; exact ⟨_, r⟩
    · cases hH : H b with
      | none =>
        by_cases hm : b ∈ frs X.stack
        · obtain ⟨sl, r⟩ := N.slot b o hm (k1 b o hH q); exact ⟨_, r⟩
        · exact ⟨o, N.keep b o hb hm (k1 b o hH q)⟩
      | some u =>
        by_cases hu : ∃ ψ, u = .ext ψ
        · obtain ⟨ψ, rfl⟩ := hu
          exact (hx b ψ hb hH).2.1
        · exact ⟨o, N.keep b o hb (nf b u hH) (k0 b o (by rw [hH]; exact fun z => nomatch z) hb (fun ψ z => hu ⟨ψ, by rw [hH] at z; exact Option.some.inj z⟩) q)⟩
  · rw [upd_ne (ne_of q e (by intro z; cases z)), upd_ne (old b _ q)]; exact q
  · rw [upd_ne (ne_of q e (by intro z; cases z)), upd_ne (old b _ q)]; exact q
  · rw [upd_ne (ne_of q e (by intro z; cases z)), upd_ne (old b _ q), q]; simp
  · by_cases hb : b = a
    · subst hb
      rw [upd_same] at q
      cases q
      obtain ⟨vs, r, r1⟩ := N.exc
      exact XF.ok r r1
    · rw [upd_ne hb] at q
      by_cases hbT : b = T
      · subst hbT
        rw [upd_same] at q
        cases q
        obtain ⟨o, ts, r, r1, r3⟩ := N.ent
        exact XT.ok r r1 r3
      · rw [upd_ne hbT] at q
        by_cases hu : ∃ ψ, u = .ext ψ
        · obtain ⟨ψ, rfl⟩ := hu
          exact hx b ψ hb q
        · refine (I.hok b u q).stay (fun c v hc z => ?_) (fun c z => by rw [upd_ne (ne_of z e (by intro z; cases z)), upd_ne (old c _ z)]; exact z) fun c ys z => by rw [upd_ne (ne_of z e (by intro z; cases z)), upd_ne (old c _ z)]; exact z
          rcases hc with hc | hc
          · subst hc
            exact N.keep c v hb (nf c u q) (k0 c v (by rw [q]; exact fun z => nomatch z) hb (fun ψ z => hu ⟨ψ, by rw [q] at z; exact Option.some.inj z⟩) z)
          · exact N.keep c v (ne_of hc e (by intro z; cases z)) (nf c _ hc) (k0 c v (by rw [hc]; exact fun z => nomatch z) (ne_of hc e (by intro z; cases z)) (fun ψ z => by rw [hc] at z; cases z) z)
noncomputable def AtTop (X : Cx) : Prop := X.stack = X.env :: X.outer ∧ X.env.frame = some X.env.locals
theorem note_fresh (I : Inv X pins σ H s) (ht : AtTop X) (hA : A.frames = X.A.frames) (e : H a = some (XO a C d)) (k : ∀ T s', H T = none → T ≠ a → Inv X pins σ (upd (upd H T (XT T)) a (XF a C d T)) s' → Q () s') :
    wpAny (model X.prog X.w) A (noteFrame (.ref a) X.env) (fun _ s' => wpAny (model X.prog X.w) A (setFlight (.ref a) none) Q E s') E s := by
  obtain ⟨tp, ho⟩ := XO.get I.hok e
  have hst := I.stack
  rw [ht.1] at hst
  refine note_new (d := d) (C := C) (by rw [hA, I.ok.frames, ht.1]) hst ht.2 ho rfl fun T h' N => ?_
  have hT : H T = none := I.hok.fresh N.new
  have hTa : T ≠ a := fun z => by rw [z, e] at hT; cases hT
  have N2 : Noted (frs X.stack) a C T d s.heap h' := by rw [ht.1]; exact N
  refine k T _ hT hTa (I.noted e (fun _ _ _ _ _ q => q) (fun _ _ _ q => q) (fun b ψ hb q => ?_) rfl N2)
  refine (I.hok b _ q).stay (fun c v hc z => ?_) (fun c z => ?_) fun c ys z => ?_
  · rcases hc with hc | hc
    · subst hc
      exact N2.keep c v hb (fun z => by rw [I.stkFree c z] at q; cases q) z
    · exact N2.keep c v (ne_of hc e (by intro z; cases z)) (fun z => by rw [I.stkFree c z] at hc; cases hc) z
  · rw [upd_ne (ne_of z e (by intro z; cases z)), upd_ne (ne_of_none z hT)]; exact z
  · rw [upd_ne (ne_of z e (by intro z; cases z)), upd_ne (ne_of_none z hT)]; exact z
theorem note_again {T0 : Addr} (I : Inv X pins σ H s) (ht : AtTop X) (hA : A.frames = X.A.frames) (e : H a = some (XF a C d T0)) (e0 : H T0 = some (XT T0)) (hne : T0 ≠ a) (k : ∀ T s', H T = none → T ≠ a → Inv X pins σ (upd (upd H T (XT T)) a (XF a C d T)) s' → Q () s') :
    wpAny (model X.prog X.w) A (noteFrame (.ref a) X.env) (fun _ s' => wpAny (model X.prog X.w) A (setFlight (.ref a) none) Q E s') E s := by
  obtain ⟨vs, ho, h1⟩ := XF.get I.hok e
  obtain ⟨oT, ts, hT0, hd0, h30⟩ := XT.get I.hok e0
  have hst := I.stack
  rw [ht.1] at hst
  refine note_on (d := d) (C := C) (by rw [hA, I.ok.frames, ht.1]) hst ht.2 ho h1 hne hT0 hd0 h30 fun T h' N => ?_
  have hs0 : (s.heap.update T0 (Obj.mapFields (·.setIfInBounds 3 Value.none))).objs.size = s.heap.objs.size := Heap.size_after_update ..
  have hT : H T = none := I.hok.fresh (by rw [← hs0]; exact N.new)
  have hTa : T ≠ a := fun z => by rw [z, e] at hT; cases hT
  have oth : ∀ b, b ≠ T0 → (s.heap.update T0 (Obj.mapFields (·.setIfInBounds 3 Value.none))).get? b = s.heap.get? b := fun b hb => Heap.get?_update_other _ _ (Ne.symm hb)
  have N2 : Noted (frs X.stack) a C T d (s.heap.update T0 (Obj.mapFields (·.setIfInBounds 3 Value.none))) h' := by rw [ht.1]; exact N
  refine k T _ hT hTa (I.noted e (fun b o _ _ hn q => (oth b (fun z => by rw [z] at hn; exact hn _ e0)).trans q) (fun b o n q => (oth b (fun z => by rw [z, e0] at n; cases n)).trans q) (fun b ψ hb q => ?_) hs0 N2)
  by_cases hbT : b = T0
  · subst hbT
    rw [e0] at q
    have q := Option.some.inj q
    rw [← q]
    have t1 := Heap.get?_update_self (Obj.mapFields (·.setIfInBounds 3 Value.none)) hT0 (Obj.isFreed_of_fields (Obj.data_mapFields hd0 _))
    exact XT.ok (N2.keep b _ hb (fun z => by rw [I.stkFree b z] at e0; cases e0) t1) (Obj.data_mapFields hd0 _) (by
      have hsz : 3 < ts.size := (Array.getElem?_eq_some_iff.mp h30).1
      simp [hsz])
  · refine (I.hok b _ q).stay (fun c v hc z => ?_) (fun c z => ?_) fun c ys z => ?_
    · rcases hc with hc | hc
      · subst hc
        exact N2.keep c v hb (fun z => by rw [I.stkFree c z] at q; cases q) ((oth c hbT).trans z)
      · exact N2.keep c v (ne_of hc e (by intro z; cases z)) (fun z => by rw [I.stkFree c z] at hc; cases hc) ((oth c (ne_of hc e0 (by intro z; cases z))).trans z)
    · rw [upd_ne (ne_of z e (by intro z; cases z)), upd_ne (ne_of_none z hT)]; exact z
    · rw [upd_ne (ne_of z e (by intro z; cases z)), upd_ne (ne_of_none z hT)]; exact z
end
noncomputable def Flown (H : Hp) (a C : Addr) (d : Option Addr) : Prop := ∃ T, H a = some (XF a C d T) ∧ H T = some (XT T) ∧ T ≠ a
theorem flown_new {H : Hp} {a C T : Addr} {d : Option Addr} (h : T ≠ a) : Flown (upd (upd H T (XT T)) a (XF a C d T)) a C d := ⟨T, upd_same, by rw [upd_ne h]; exact upd_same, h⟩
noncomputable def CXE (P : Program) (w : World) : CXT := fun outer H s E e s' => ∃ (a C : Addr) (H' : Hp), e = .ref a ∧ s'.os = s.os ∧ AllBare s'.gens ∧ Un (frs outer) [] H H' s.heap s'.heap ∧ HOk P w H' s'.heap ∧ E (.ref C) (some a) H'
theorem leaves {P : Program} {w : World} {K : PySem.W.Frag} {mg : Str → Option Value} {base : Heap} {N : List Str} {qual : Str} {scope : Scope} {f : Addr} {cd : Value} {A : Around} {outer : List Env} {s s1 : Shared} {H H1 : Hp} {E : XK} {pins : List (Addr × Obj)} {σ : St} {a C : Addr} {d : Option Addr}
    (I : Inv (cxOf (CXE P w) P w K mg base N qual scope f cd A outer s H E) pins σ H1 s1) (e : H1 a = some (XO a C d)) (q : ∀ T, H1 T = none → T ≠ a → E (.ref C) (some a) (upd (upd H1 T (XT T)) a (XF a C d T))) :
    (cxOf (CXE P w) P w K mg base N qual scope f cd A outer s H E).xe (.ref a) s1 := by
  have ht : AtTop (cxOf (CXE P w) P w K mg base N qual scope f cd A outer s H E) := ⟨rfl, rfl⟩
  show wpAny _ _ (leaving _ _) _ _ _
  unfold leaving
  refine wpAny_bind (note_fresh I ht rfl e fun T s' hT hTa J => ?_)
  exact ⟨a, C, _, rfl, J.os, J.bare, J.base, J.hok, q T hT hTa⟩
theorem passE {P : Program} {w : World} {K : PySem.W.Frag} {mg : Str → Option Value} {base : Heap} {N : List Str} {qual : Str} {scope : Scope} {f : Addr} {cd : Value} {A : Around} {outer : List Env} {s : Shared} {H : Hp} {E : XK} :
    Passes (CXE P w) (cxOf (CXE P w) P w K mg base N qual scope f cd A outer s H E) (fun c o H1 => ∃ a C d, c = .ref C ∧ o = some a ∧ Flown H1 a C d ∧ ∀ T, H1 T = none → T ≠ a → E (.ref C) (some a) (upd (upd H1 T (XT T)) a (XF a C d T))) := by
  intro pins σ H0 s0 e s' I h
  obtain ⟨a, C, H', rfl, os, bare, un, hok, a', C', d, q0, q1, ⟨T0, q2, q3, q4⟩, q⟩ := h
  cases q0
  cases q1
  have J : Inv (cxOf (CXE P w) P w K mg base N qual scope f cd A outer s H E) pins σ H' s' := I.call' os un hok bare (fun b z => nomatch z)
  have ht : AtTop (cxOf (CXE P w) P w K mg base N qual scope f cd A outer s H E) := ⟨rfl, rfl⟩
  show wpAny _ _ (leaving _ _) _ _ _
  unfold leaving
  refine wpAny_bind (note_again J ht rfl q2 q3 q4 fun T2 s2 hT hTa J2 => ?_)
  exact ⟨a, C, _, rfl, J2.os, J2.bare, J2.base, J2.hok, q T2 hT hTa⟩
end L2
namespace L2
open PySem PySem.Spec PySem.W PySem.Calls PyProof.Rows Builtin Builtin.ObjectAttr
noncomputable abbrev bmV : List Value := [.type "ValueError", .type "Exception", .type "BaseException", .type "object"]
inductive ICls (h : Heap) (C : Addr) (bmB : List Value) (newId : String) : Prop where
  | mk (nm qn : Str) (N : Addr) (bs bm : List Value) (hdct : Bool) (sn : List Str) (sub : List Value) (ab : Bool) (col : Option Bool) (dd : Option Addr) (k0 k1 k2 k3 k5 : Option Value) (mN : Str → Option Value) (e1 : h.get? C = some (excClassObj nm qn C N bs bm hdct sn sub ab col dd k0 k1 k2 k3 k5 newId)) (e2 : h.Ns N mN) (e3 : mN "__init__" = none) (e4 : OwnTail h bmB bm) : ICls h C bmB newId
theorem cls_of_in {K : PySem.W.Frag} {h : Heap} {C : Addr} {bmB : List Value} {newId : String} (X : K.In h) (q : excIn K C bmB newId = true) :
    ICls h C bmB newId := by
  unfold excIn at q
  split at q
  · rename_i dd cd sl ho
    split at q
    · rename_i C' bm k0 k1 k2 k3 n k5 hm hs
      simp only [Bool.and_eq_true, beq_iff_eq, Bool.not_eq_true'] at q
      obtain ⟨⟨⟨⟨⟨rfl, rfl⟩, hdel⟩, ht⟩, hok⟩, hni⟩ := q
      obtain ⟨nm, bs, mro, ns, qn, hd, sn, sub, ab, col, del⟩ := cd
      dsimp only at hm hdel hok hni
      subst hm hdel
      have esl : sl = #[k0, k1, k2, k3, some (.builtin n), k5] := by
        cases sl
        simp only at hs
        rw [hs]
      subst esl
      exact ⟨nm, qn, ns, bs, bm, hd, sn, sub, ab, col, dd, k0, k1, k2, k3, k5, _, X _ _ ho, .of_isNs (isNs_of_in X hok), nsMap_none_of_in X hok hni, tail_of_in X ht⟩
    · cases q
  · cases q
noncomputable def XRs (K : PySem.W.Frag) (C : Addr) : Prop := (∃ f, excInI K C bmV "ValueError.__new__" f = true) ∨ excIn K C bmV "ValueError.__new__" = true
inductive IXo (h : Heap) (C : Addr) : Prop where
  | mk (nm qn : Str) (N : Addr) (bs bm : List Value) (hdct : Bool) (sn : List Str) (sub : List Value) (ab : Bool) (col : Option Bool) (dd : Option Addr) (k0 k1 k2 k3 k5 : Option Value) (e1 : h.get? C = some (excClassObj nm qn C N bs bm hdct sn sub ab col dd k0 k1 k2 k3 k5 "ValueError.__new__")) (e2 : bm.contains (.type "BaseException") = true) : IXo h C
theorem XRs.obj {K : PySem.W.Frag} {C : Addr} {h : Heap} (r : XRs K C) (X : K.In h) :
    IXo h C := by
  rcases r with ⟨f, q⟩ | q
  · obtain ⟨nm, qn, N, bs, bm, hdct, sn, sub, ab, col, dd, k0, k1, k2, k3, k5, mN, hC, _, _, T⟩ := exc_of_in X q
    exact ⟨nm, qn, N, bs, bm, hdct, sn, sub, ab, col, dd, k0, k1, k2, k3, k5, hC, T.hasType (by decide +kernel)⟩
  · obtain ⟨nm, qn, N, bs, bm, hdct, sn, sub, ab, col, dd, k0, k1, k2, k3, k5, mN, hC, _, _, T⟩ := cls_of_in X q
    exact ⟨nm, qn, N, bs, bm, hdct, sn, sub, ab, col, dd, k0, k1, k2, k3, k5, hC, T.hasType (by decide +kernel)⟩
section
variable {M : Model} {A : Around} {E : Value → Shared → Prop} {env : Env} {s : Shared} {x : Sem Value} {Q : Flow → Shared → Prop}
variable {nm qn : Str} {C N : Addr} {bs bm : List Value} {hdct : Bool} {sn : List Str} {sub : List Value} {ab : Bool} {col : Option Bool} {dd : Option Addr} {k0 k1 k2 k3 k5 : Option Value} {newId : String}
theorem raise_made (hb : bm.contains (.type "BaseException") = true) (hh : A.handled = none)
    (h : wpAny M A x (fun v s1 => ∃ e t dx, v = .ref e ∧ s1.heap.get? C = some (excClassObj nm qn C N bs bm hdct sn sub ab col dd k0 k1 k2 k3 k5 newId) ∧ s1.heap.get? e = some (excO C dx t) ∧ E (.ref e) s1) E s) :
    wpAny M A (raiseStmt env (some x) none) Q E s := by
  have hB : (Value.ref C :: bm).contains (.type "BaseException") = true := by rw [List.contains_cons, hb]; simp
  unfold raiseStmt
  refine wpAny_bind (wpAny_mono h (fun v s1 h1 => ?_) fun _ _ z => z)
  obtain ⟨e, t, dx, rfl, hC, he, hE⟩ := h1
  obtain ⟨hp, g, d, tk, os⟩ := s1
  repeat (first
    | with_reducible refine wpAny_loadPart_at hC ?_
    | with_reducible refine wpAny_loadPart_at he ?_
    | (with_reducible refine wpAny_isSubtype_exc hC ?_; rw [hB])
    | wp_step)
  exact wpAny_raiseNew_none hh hE
end
noncomputable def sRaise (C : Addr) (te : TE) (E : XK) : TS := fun _ σ H => te σ H fun x H1 => ∃ a d, x = .ref a ∧ H1 a = some (XO a C d) ∧ ∀ T, H1 T = none → T ≠ a → E (.ref C) (some a) (upd (upd H1 T (XT T)) a (XF a C d T))
section
variable {P : Program} {w : World} {K : PySem.W.Frag} {mg : Str → Option Value} {base : Heap} {N : List Str} {qual : Str} {scope : Scope} {f : Addr} {cd : Value} {A : Around} {outer : List Env} {s0 : Shared} {H0 : Hp} {E : XK} {e : Expr} {te : TE} {pos : Pos} {C : Addr}
theorem ps_raise (R : XRs K C) (he : PE (cxOf (CXE P w) P w K mg base N qual scope f cd A outer s0 H0 E) e te) : PS (cxOf (CXE P w) P w K mg base N qual scope f cd A outer s0 H0 E) (.Raise (some e) none pos) (sRaise C te E) := by
  intro pins s σ H D I h
  obtain ⟨nm, qn, Nn, bs, bm, hdct, sn, sub, ab, col, dd, k0, k1, k2, k3, k5, hC, hb⟩ := R.obj I.ok.mod.kin
  show wpAny _ _ (do standAt pos; raiseStmt _ (some (do let v ← eval e _; standAt pos; pure v)) none) _ _ _
  refine wpAny_bind (wpAny_standAt (raise_made (C := C) (nm := nm) (qn := qn) (N := Nn) (bs := bs) (bm := bm) (hdct := hdct) (sn := sn) (sub := sub) (ab := ab) (col := col) (dd := dd) (k0 := k0) (k1 := k1) (k2 := k2) (k3 := k3) (k5 := k5) (newId := "ValueError.__new__") hb (I.ok.hd rfl) ?_))
  refine wpAny_bind (thn (he pins s σ H _ I h) fun v s1 ⟨x, H1, I1, rx, a, d, ex, ea, q⟩ => wpAny_bind (wpAny_standAt (wpAny_pure ?_)))
  subst ex
  obtain rfl : v = Value.ref a := rx
  obtain ⟨tp, ho⟩ := XO.get I1.hok ea
  exact ⟨a, tp, d, rfl, I1.bk _ _ hC, ho, leaves I1 ea q⟩
end
structure XMk0 (K : PySem.W.Frag) (C : Addr) : Prop where
  ex : excIn K C bmV "ValueError.__new__" = true
  kp : PySem.W.keepIn K (.ref C) = true
noncomputable def tMakeX0 (C : Addr) : TE := fun _ H Q => ∀ x, H x = none → Q (.ref x) (upd H x (XO x C none))
section
variable {X : Cx} {C : Addr} {x : Str} {p pos : Pos}
theorem pe_makeX0 (M : XMk0 X.K C) (hg : Gl X x) (hm : X.mg x = some (.ref C)) (hdb : (x == ("__debug__" : Str)) = false := by decide) : PE X (.Call (.Name x p) [] [] pos) (tMakeX0 C) := by
  intro pins s σ H Q I h
  refine wpAny_Call_Name_kw (ld_glob I hg hm ?_ hdb)
  refine PySem.W.callWith_K0 I.kIn M.kp ?_
  obtain ⟨nm, qn, N, bs, bm, hdct, sn, sub, ab, col, dd, k0, k1, k2, k3, k5, mN, hC, hn, hni, T⟩ := cls_of_in I.kIn M.ex
  obtain ⟨hh, g, d, t, os⟩ := s
  refine wpAny_call_exc_subU PySem.F.excBase_ValueError (by decide +kernel) PySem.F.excBase_ValueError T hC hn hni (fun h' a hm => ?_)
  obtain ⟨tp, e1, _, _⟩ := hm.there
  have ha : H a = none := by
    cases q : H a with
    | none => rfl
    | some o =>
      obtain ⟨ob, ho⟩ := obj_at (I.hok a o q)
      rw [hm.new] at ho; cases ho
  have u : Un X.fs [] H (upd H a (XO a C none)) hh h' := ⟨fun b o q _ _ _ => hm.keeps b o q, fun b o q _ _ _ => ⟨o.slots, hm.keeps b o q⟩, fun b o q n _ => by rw [upd_ne (fun z => by rw [z, hm.new] at q; cases q)]; exact n, fun b o q _ => ⟨o, hm.keeps b o q⟩,
    fun b xs q => by rw [upd_ne (ne_of_none q ha)]; exact q, fun b o u q => by rw [upd_ne (ne_of_none q ha)]; exact q, fun b ps q => ⟨#[], by rw [upd_ne (ne_of_none q ha), q]; simp⟩⟩
  refine ⟨.ref a, _, I.un (t' := t) u (fun b o q => ?_), rfl, h a ha⟩
  by_cases hb : b = a
  · subst hb
    rw [upd_same] at q
    cases q
    exact XO.ok e1
  · rw [upd_ne hb] at q
    exact (I.hok b o q).stay (fun c v _ z => hm.keeps c v z) (fun c z => by rw [upd_ne (ne_of_none z ha)]; exact z) fun c ys z => by rw [upd_ne (ne_of_none z ha)]; exact z
end
section
variable {P : Program} {w : World} {K : PySem.W.Frag} {mg : Str → Option Value} {base : Heap}
theorem Fun.okE {x qual : Str} {st : Stmt} {f : Addr} {fd : FuncData} {N ps : List Str} {k : Nat} {sp : Sp} (F : Fun K x qual st f fd) (S : FnScope N ps (defScope st)) (len : ∀ vs H Q E, sp vs H Q E → vs.length = ps.length)
    (hbody : ∀ (cdv : Value) (A : Around) (outer : List Env) (s : Shared) (H : Hp) (vs : List V) (Q : VK) (E : XK), Room k (A.deeper (envOfC qual (defScope st) s.heap.objs.size f cdv)) → sp vs H Q E →
      ∃ t, PSs (cxOf (CXE P w) P w K mg base N qual (defScope st) f cdv A outer s H E) (defBody st) t ∧ t { nx := fun _ H' => Q .non H', rt := Q } (start N vs) H) : FnOk P w K mg base (CXE P w) (k + 1) f fd ps sp := by
  obtain ⟨oc, od, kV, doc, pm, an, cdv, ct, osl, rfl, lk, hcd⟩ := F.ex
  exact fn_of lk hcd S len fun A outer s H vs Q E hr hsp => hbody cdv A outer s H vs Q E hr hsp
end
noncomputable def PassesS (CX : CXT) (X : Cx) (E : St → XK) : Prop := ∀ (pins : List (Addr × Obj)) (σ : St) (H : Hp) (s : Shared) (e : Value) (s' : Shared), Inv X pins σ H s → CX X.stack H s (E σ) e s' → X.xe e s'
noncomputable def tCallE (sp : Sp) (dvs : List V) (E : St → XK) (t : TA) : TE := fun σ H Q => t σ H fun vs H1 => sp (vs ++ dvs) H1 Q (E σ)
section
variable {X : Cx} {CX : CXT} {k : Nat} {f C : Addr} {fd : FuncData} {ps : List Str} {sp : Sp} {dvs : List V} {ds : List Value} {x m : Str} {p pos apos : Pos} {e o : Expr} {es : List Expr} {ta : TE} {t : TA}
theorem run_fnE {E : XK} {pins : List (Addr × Obj)} {σ : St} {H : Hp} {s : Shared} {Q : VK} {us : List Value} {vs : List V} (F : FnOk X.prog X.w X.K X.mg X.base CX k f fd ps sp) (hr : Room k X.A) (hb : Binds X.K fd ps ds) (hd : Vals dvs ds)
    (hx : ∀ e s', CX X.stack H s E e s' → X.xe e s') (I : Inv X pins σ H s) (r : Vals vs us) (h : sp (vs ++ dvs) H Q E) : wpAny (model X.prog X.w) X.A (call (.ref f) us) (EP X pins σ Q) X.xe s := by
  have r2 : Vals (vs ++ dvs) (us ++ ds) := r.append hd
  have hl : (us ++ ds).length = ps.length := by rw [← r2.length]; exact F.len _ _ _ _ h
  refine wpAny_call (codeAny_mono (F.run X.A X.stack s H ⟨us, []⟩ (us ++ ds) (vs ++ dvs) Q E hr I.env0 (hb s us I.kIn hl) r2 h) fun r s' hq => ?_)
  cases r with
  | error e => exact hx e s' hq
  | ok fl =>
    cases fl with
    | ret u => exact I.after hq
    | next => exact False.elim hq
    | brk => exact False.elim hq
    | cont => exact False.elim hq
variable {E : St → XK}
theorem pe_callE (F : FnOk X.prog X.w X.K X.mg X.base CX k f fd ps sp) (hr : Room k X.A) (hg : Gl X x) (hm : X.mg x = some (.ref f)) (hk : PySem.W.keepIn X.K (.ref f) = true) (hb : Binds X.K fd ps ds) (hd : Vals dvs ds) (hx : PassesS CX X E)
    (ha : PA X (e :: es) t) (hdb : (x == ("__debug__" : Str)) = false := by decide) (he : starEach (e :: es) X.env = (false, eval e X.env) :: starEach es X.env := by rfl) (hpl : (backTo pos (starEach es X.env)).any (·.1) = false := by rfl) :
    PE X (.Call (.Name x p) (e :: es) [] pos) (tCallE sp dvs E t) := by
  intro pins s σ H Q I h
  refine wpAny_Call_Name_kw (ld_glob I hg hm ?_ hdb)
  refine PySem.W.callWith_K (h₀ := X.base) I.ok.mod.kin hk (thn (ha pos pins s σ H _ I h) fun us s1 ⟨vs, H1, I1, r, q⟩ => ⟨I1.kIn, ?_⟩) he hpl
  exact run_fnE F hr hb hd (fun e s' => hx pins σ H1 s1 e s' I1) I1 r q
end
noncomputable abbrev Cx.tried (X : Cx) (pn : List (Addr × Obj)) (W : Value → Shared → Prop) : Cx := { X with pn := pn, xe := W }
noncomputable abbrev Cx.suite (X : Cx) (a : Addr) : Cx := { X with A := X.A.mark (some (.ref a)), calm := false, xe := fun _ _ => False }
section
variable {X : Cx} {pins : List (Addr × Obj)} {σ : St} {H : Hp} {s : Shared} {W : Value → Shared → Prop} {a : Addr}
theorem Inv.tried (I : Inv X pins σ H s) : Inv (X.tried (X.pn ++ pins) W) [] σ H s :=
  ⟨⟨I.ok.mod, I.ok.kind, I.ok.glob, I.ok.blt, I.ok.above, I.ok.inj, I.ok.has, I.ok.cab, I.ok.hd, I.ok.frames, I.ok.stk, I.ok.exf, I.ok.bs, I.ok.bsz, I.ok.noex, I.ok.exfs, I.ok.funs, I.ok.frf⟩, I.os, I.bare, I.base, I.loc, I.cell, I.free, I.freeC, fun p hp => I.pin p (by simpa using hp), I.hok, I.len⟩
theorem Inv.untried {pins' : List (Addr × Obj)} (I : Inv (X.tried (X.pn ++ pins) W) pins' σ H s) : Inv X pins σ H s :=
  ⟨⟨I.ok.mod, I.ok.kind, I.ok.glob, I.ok.blt, I.ok.above, I.ok.inj, I.ok.has, I.ok.cab, I.ok.hd, I.ok.frames, I.ok.stk, I.ok.exf, I.ok.bs, I.ok.bsz, I.ok.noex, I.ok.exfs, I.ok.funs, I.ok.frf⟩, I.os, I.bare, I.base, I.loc, I.cell, I.free, I.freeC, fun p hp => I.pin p (List.mem_append_left _ hp), I.hok, I.len⟩
theorem Inv.insuite (I : Inv X pins σ H s) : Inv (X.suite a) pins σ H s :=
  ⟨⟨I.ok.mod, I.ok.kind, I.ok.glob, I.ok.blt, I.ok.above, I.ok.inj, I.ok.has, I.ok.cab, (fun z => nomatch z), I.ok.frames, I.ok.stk, I.ok.exf, I.ok.bs, I.ok.bsz, I.ok.noex, I.ok.exfs, I.ok.funs, I.ok.frf⟩, I.os, I.bare, I.base, I.loc, I.cell, I.free, I.freeC, I.pin, I.hok, I.len⟩
theorem Inv.outsuite (J : X.Ok) (I : Inv (X.suite a) pins σ H s) : Inv X pins σ H s :=
  ⟨J, I.os, I.bare, I.base, I.loc, I.cell, I.free, I.freeC, I.pin, I.hok, I.len⟩
theorem flight_none {M : Model} {A : Around} {E : Value → Shared → Prop} {Q : Unit → Shared → Prop} {C T : Addr} {d : Option Addr} (I : Inv X pins σ H s) (e : H a = some (XF a C d T)) (e0 : H T = some (XT T)) (k : ∀ s', Inv X pins σ H s' → Q () s') :
    wpAny M A (setFlight (.ref a) none) Q E s := by
  obtain ⟨vs, ho, h1⟩ := XF.get I.hok e
  obtain ⟨oT, ts, hT, hd, h3⟩ := XT.get I.hok e0
  have hsz : 3 < ts.size := (Array.getElem?_eq_some_iff.mp h3).1
  refine wpAny_setFlight_none ho rfl h1 hT hd hsz (k _ ?_)
  have oth : ∀ b, b ≠ T → (s.heap.update T (Obj.mapFields (·.setIfInBounds 3 Value.none))).get? b = s.heap.get? b := fun b hb => Heap.get?_update_other _ _ (Ne.symm hb)
  have nT : ∀ b, H b = none → b ≠ T := fun b n z => by rw [z, e0] at n; cases n
  have t1 := Heap.get?_update_self (Obj.mapFields (·.setIfInBounds 3 Value.none)) hT (Obj.isFreed_of_fields (Obj.data_mapFields hd _))
  have u : Un X.fs [] H H s.heap (s.heap.update T (Obj.mapFields (·.setIfInBounds 3 Value.none))) := ⟨fun b o q n _ _ => (oth b (nT b n)).trans q, fun b o q n _ _ => ⟨o.slots, (oth b (nT b n)).trans q⟩, fun _ _ _ n _ => n, fun b o q _ => by
    by_cases hb : b = T
    · rw [hb]; exact ⟨_, t1⟩
    · exact ⟨o, (oth b hb).trans q⟩, fun _ _ q => q, fun _ _ _ q => q, fun b ps q => ⟨#[], by rw [q]; simp⟩⟩
  refine I.un (t' := s.toks) u fun b o q => ?_
  by_cases hb : b = T
  · subst hb
    rw [e0] at q
    rw [← Option.some.inj q]
    exact XT.ok t1 (Obj.data_mapFields hd _) (by simp [hsz])
  · refine (I.hok b o q).stay (fun c v hc z => (oth c ?_).trans z) (fun _ z => z) fun _ _ z => z
    rcases hc with hc | hc
    · rw [hc]; exact hb
    · exact ne_of hc e0 (by intro z; cases z)
theorem name_goes {M : Model} {A : Around} {E : Value → Shared → Prop} {Q : Unit → Shared → Prop} {i : Nat} {n : Str} {pos : Pos} (I : Inv X pins σ H s) (hN : X.N.Nodup) (hi : X.N[i]? = some n) (hk : X.env.scope.names.lookup n = some .local) (k : ∀ s', Inv X pins (σ.set i none) H s' → Q () s') :
    wpAny M A (do bindName X.env n .none; unbindBehindTheSuite X.env n pos) Q E s := by
  obtain ⟨m, hn, hl⟩ := id I.loc
  have hcls : (X.env.scope.kind == .class || (X.env.scope.kind == .module && X.env.locals != X.env.globals)) = false := by rw [I.ok.kind]; rfl
  have hiσ : i < σ.length := by rw [I.len]; exact (List.getElem?_eq_some_iff.mp hi).1
  have cne := I.cne
  refine wpAny_nameGoes_keeps hk hn hcls fun h' v hn' hs => ?_
  have ab : ∀ b o, X.s₀.heap.get? b = some o → b ≠ X.env.locals := fun b o e => Nat.ne_of_lt (Nat.lt_of_lt_of_le (Heap.lt_size e) I.ok.above)
  refine k _ ⟨I.ok, I.os, I.bare, ⟨fun b o e n hb hx => (hs.2 b (ab b o e)).trans (I.base.keep b o e n hb hx), fun b o e n hb hx => ?_, I.base.free, fun b o e hx => ?_, I.base.tups, I.base.frzs, I.base.tbls⟩, ⟨_, hn', fun j y v' e1 e2 e3 => ?_⟩, fun y c e => ?_, I.free, I.freeC, fun p hp => ?_, fun b ob e => ?_, by simpa using I.len⟩
  · obtain ⟨sl, e1⟩ := I.base.slot b o e n hb hx
    exact ⟨sl, (hs.2 b (ab b o e)).trans e1⟩
  · obtain ⟨o', e1⟩ := I.base.there b o e hx
    exact ⟨o', (hs.2 b (ab b o e)).trans e1⟩
  · by_cases hj : j = i
    · subst hj
      rw [List.getElem?_set_self hiσ] at e2
      cases e2
    · rw [List.getElem?_set_ne (Ne.symm hj)] at e2
      obtain ⟨u', r', q⟩ := hl j y v' e1 e2 e3
      refine ⟨u', r', ?_⟩
      rcases q with ⟨k, e⟩ | ⟨k, c, e, z⟩
      · refine .inl ⟨k, ?_⟩
        have : y ≠ n := fun e => hj (nodup_ix hN e1 (e ▸ hi))
        simp [this, e]
      · exact .inr ⟨k, c, e, z.sameBut hs (cne y c e)⟩
  · obtain ⟨w', z⟩ := I.cell y c e
    exact ⟨w', z.sameBut hs (cne y c e)⟩
  · obtain ⟨e, n, ne, nf, d⟩ := I.pin p hp
    exact ⟨(hs.2 p.1 ne).trans e, n, ne, nf, d⟩
  · refine (I.hok b ob e).stay (fun c w' hc q => (hs.2 c ?_).trans q) (fun _ q => q) fun _ _ q => q
    rintro rfl
    rcases hc with rfl | hc
    · rw [I.free] at e; cases e
    · rw [I.free] at hc; cases hc
end
noncomputable def sTry (K : PySem.W.Frag) (CT : Addr) (i : Nat) (tb : (St → XK) → TS) (ts : TS) : TS := fun D σ H => ∃ EX : St → XK,
  (∀ σ1 H1 a C, EX σ1 (.ref C) (some a) H1 → ∃ d, Flown H1 a C d ∧ exmOne K (.ref C) (.ref CT) = some true ∧ ∀ T2, H1 T2 = none → T2 ≠ a →
    ts { nx := fun σ' H' => D.nx (σ'.set i none) H', rt := D.rt, bk := fun σ' H' => D.bk (σ'.set i none) H', ct := fun σ' H' => D.ct (σ'.set i none) H' } (σ1.set i (some (.ref a))) (upd (upd H1 T2 (XT T2)) a (XF a C d T2))) ∧ tb EX D σ H
section
variable {X : Cx} {K : PySem.W.Frag} {CT : Addr} {i : Nat} {x n : Str} {body suite : List Stmt} {b0 : Stmt} {np hpos pos : Pos} {tb : (St → XK) → TS} {ts : TS}
theorem ps_try (hK : X.K = K) (ht : AtTop X) (hN : X.N.Nodup) (hi : X.N[i]? = some n) (hk : X.env.scope.names.lookup n = some .local) (hg : Gl X x) (hm : X.mg x = some (.ref CT))
    (hb : ∀ (pn : List (Addr × Obj)) (W : Value → Shared → Prop) (EX : St → XK), PassesS (CXE X.prog X.w) (X.tried pn W) EX → PSs (X.tried pn W) body (tb EX)) (hs : ∀ a, PSs (X.suite a) (b0 :: suite) ts) (hd : (x == ("__debug__" : Str)) = false := by decide) :
    PS X (.Try body [.ExceptHandler (some (.Name x np)) (some n) (b0 :: suite) hpos] [] [] pos) (sTry K CT i tb ts) := by
  subst hK
  intro pins s σ H D I h
  obtain ⟨EX, hh, h0⟩ := h
  refine wpAny_Try_except ?_
  refine wpAny_mono (hb (X.pn ++ pins) (fun e s1 => wpAny (model X.prog X.w) X.A (noteFrame e X.env) (fun _ s2 => wpAny (model X.prog X.w) X.A (setFlight e none) (fun _ s3 => wpAny (model X.prog X.w) X.A (handleBy e X.env [.ExceptHandler (some (.Name x np)) (some n) (b0 :: suite) hpos]) (SP X pins D) X.xe s3) X.xe s2) X.xe s1) EX ?_ [] s σ H D I.tried h0) (fun f s1 q => ?_) fun e s1 q => q
  · intro pins' σ' H' s' e s2 J hc
    obtain ⟨a, C, H2, rfl, os, bare, un, hok, q⟩ := hc
    have J2 := J.call' os un hok bare (fun b z => nomatch z)
    have J3 : Inv X pins σ' H2 s2 := J2.untried
    obtain ⟨d, ⟨T, e1, e2, e3⟩, hx, hts⟩ := hh σ' H2 a C q
    refine note_again J3 ht rfl e1 e2 e3 fun T2 s3 hT hTa J4 => ?_
    have hts := hts T2 hT hTa
    have f1 : (upd (upd H2 T2 (XT T2)) a (XF a C d T2)) a = some (XF a C d T2) := upd_same
    have f2 : (upd (upd H2 T2 (XT T2)) a (XF a C d T2)) T2 = some (XT T2) := by rw [upd_ne hTa]; exact upd_same
    generalize upd (upd H2 T2 (XT T2)) a (XF a C d T2) = H4 at J4 hts f1 f2
    refine wpAny_handleBy_cons (codeAny_handlers_test (ld_glob (X := X.suite a) J4.insuite hg hm ?_ hd)) (by intro q; cases q)
    obtain ⟨vs, ho, _⟩ := XF.get J4.hok f1
    refine (exm_one J4.kIn ((Looks.ld ho).andThen .now) hx).here ?_
    refine codeAny_handlers_suite_as ?_
    refine flight_none (X := X.suite a) J4.insuite f1 f2 fun s5 J5 => ?_
    refine store_ok (X := X.suite a) (v := .ref a) J5 hN hi (.inl hk) rfl (fun s6 J6 => ?_) (.inr hk)
    refine wpAny_mono (hs a pins s6 _ H4 _ J6 hts) (fun f s7 q7 => ?_) fun _ _ z => z.elim
    cases f with
    | next =>
      obtain ⟨σ7, H7, J7, q7⟩ := q7
      exact name_goes (Inv.outsuite I.ok J7) hN hi hk fun s8 J8 => ⟨_, H7, J8, q7⟩
    | brk =>
      obtain ⟨σ7, H7, J7, q7⟩ := q7
      exact name_goes (Inv.outsuite I.ok J7) hN hi hk fun s8 J8 => ⟨_, H7, J8, q7⟩
    | cont =>
      obtain ⟨σ7, H7, J7, q7⟩ := q7
      exact name_goes (Inv.outsuite I.ok J7) hN hi hk fun s8 J8 => ⟨_, H7, J8, q7⟩
    | ret u =>
      obtain ⟨v, σ7, H7, J7, r7, q7⟩ := q7
      exact name_goes (Inv.outsuite I.ok J7) hN hi hk fun s8 J8 => ⟨v, _, H7, J8, r7, q7⟩
  · cases f with
    | next =>
      obtain ⟨σ', H', J, q⟩ := q
      exact wpAny_execs_nil ⟨σ', H', J.untried, q⟩
    | brk => obtain ⟨σ', H', J, q⟩ := q; exact ⟨σ', H', J.untried, q⟩
    | cont => obtain ⟨σ', H', J, q⟩ := q; exact ⟨σ', H', J.untried, q⟩
    | ret u => obtain ⟨v, σ', H', J, r, q⟩ := q; exact ⟨v, σ', H', J.untried, r, q⟩
end
section
variable {X : Cx} {pins : List (Addr × Obj)} {σ : St} {H : Hp} {s : Shared} {a C T : Addr} {d : Option Addr} {f : Str} {v : V} {A : Around} {E : Value → Shared → Prop} {K : PySem.W.Frag} {e : Expr} {pos : Pos} {ta : TE}
inductive IIsiF (K : PySem.W.Frag) (xs : List V) (H : Hp) (Q : VK) : Prop where
  | mk (a C : Addr) (d : Option Addr) (T : Addr) (c : V) (cv : Value) (b : Bool) (e : xs = [.ref a, c]) (ec : valOf c = some cv) (ea : H a = some (XF a C d T)) (ed : ∀ dx, d = some dx → ∃ fs, H dx = some (.xd fs)) (cl : XCls K C) (ek : PySem.W.kitOne K (.ref C) cv = some b) (q : Q (.bl b) H) : IIsiF K xs H Q
theorem isiFK (hK : X.K = K) : CallR X (.builtin "isinstance") (fun xs H Q => IIsiF K xs H Q) := by
  subst hK
  intro pins s σ H xs us Q I r h
  obtain ⟨a, C, d, T, c, cv, b, rfl, hc, ea, hd, cl, q, k⟩ := h
  obtain ⟨u, u2, rfl, rx, rc⟩ := vals2 r
  cases rx
  have ec : u2 = cv := by
    cases c with
    | ty n => cases rc; exact Option.some.inj hc
    | ref a => cases rc; exact Option.some.inj hc
    | _ => cases hc
  subst ec
  obtain ⟨vs, ho, _⟩ := XF.get I.hok ea
  refine PySem.W.kia_one (kitx_exc (x := a) cl cl.cls_find) I.kIn ?_ q (fun z => nomatch z) fun tk => ⟨.bl b, H, I.tok _, rfl, k⟩
  cases d with
  | none => exact ⟨_, none, ho, rfl, rfl, trivial⟩
  | some dx =>
    obtain ⟨fs, hx⟩ := hd dx rfl
    obtain ⟨mA, ⟨od, _, _, hod, _⟩, r⟩ := (show ObjOk X.prog X.w H s.heap dx (.xd fs) from I.hok dx _ hx)
    exact ⟨_, some od, ho, rfl, rfl, hod⟩
noncomputable def tFldF (K : PySem.W.Frag) (ta : TE) (f : Str) : TE := fun σ H Q => ta σ H fun x H1 => ∃ a C d T fs v, x = .ref a ∧ H1 a = some (XF a C (some d) T) ∧ H1 d = some (.xd fs) ∧ XCls K C ∧ NoAttr K C f ∧ fs.lookup f = some v ∧ Q v H1
theorem pe_fldF (hK : X.K = K) (he : PE X e ta) (hb : attributeBase e f X.env (eval e X.env) = eval e X.env) : PE X (.Attribute e f pos) (tFldF K ta f) := by
  subst hK
  intro pins s σ H Q I h
  refine attr_of hb (thn (he pins s σ H _ I h) fun u s1 zpat => ?_)
  obtain ⟨x, H1, I1, rx, a, C, d, T, fs, v, ex, ea, hd, c, n, l, q⟩ := zpat
  subst ex
  obtain rfl : u = Value.ref a := rx
  obtain ⟨vs, ho, _⟩ := XF.get I1.hok ea
  obtain ⟨mA, n1, r⟩ := (show ObjOk X.prog X.w H1 s1.heap d (.xd fs) from I1.hok d _ hd)
  obtain ⟨od, hod, hl⟩ := lookIn_ns n1
  obtain ⟨u, hu, ru⟩ := RelO.some_of (v := v) (o := mA f) (by rw [← l]; exact r f)
  have J : InstAt s1.heap a (xob C (some d) vs) C (some od) := ⟨ho, rfl, rfl, hod⟩
  obtain ⟨hh, g, dr, t, os⟩ := s1
  unfold getAttr
  refine wpAny_bind (wpAny_mkText (getX_value (K := X.K) I1.kIn J c (PySem.W.findObj_own c.hd n rfl (by rw [hl, hu])) (handed_of ru) ?_))
  exact ⟨v, H1, I1.tok _, ru, q⟩
end
end L2
namespace My
open PySem L2
noncomputable def nv (k : Nat) : V := .int k
theorem pow_one (k : Nat) : (1 * 2 ^ (k : Int).toNat : Int) = ((2 ^ k : Nat) : Int) := by simp
theorem getI {α : Type} {f : α → V} {xs : List α} {i : Nat} {y : V} (h : (xs.map f)[i]? = some y) : ∃ (hi : i < xs.length), y = f xs[i] := by
  rw [List.getElem?_map] at h
  cases e : xs[i]? with
  | none => rw [e] at h; cases h
  | some z =>
    rw [e] at h
    obtain ⟨hi, q⟩ := List.getElem?_eq_some_iff.mp e
    exact ⟨hi, by rw [q]; exact (Option.some.inj h).symm⟩
theorem atI_map {α : Type} {f : α → V} {xs : List α} {i : Nat} (h : i < xs.length) : atI (xs.map f) (i : Int) = some (f xs[i]) :=
  atI_nat (by rw [List.getElem?_map, List.getElem?_eq_getElem h]; rfl)
theorem cpow (k : Nat) (h : k < 1000) : CPow 1 (k : Int) := ⟨by omega, by omega, by decide⟩
theorem line1000 {n : Nat} (h : n ≤ 1000) : n < sizeLine := small1000 h
theorem same_new {H : Hp} {p : Addr} (h : H p = none) (o : HO) : Same H (upd H p o) := fun b u q => by rw [upd_ne (ne_of_none q h)]; exact q
theorem same_one {H H' : Hp} {p : Addr} (s : Same H H') (h : H' p = none) (o : HO) : Same H (upd H' p o) := s.trans (same_new h o)
theorem same_upd {H H' : Hp} {p : Addr} (s : Same H H') (h : H p = none) (o : HO) : Same H (upd H' p o) := fun b u q => by rw [upd_ne (ne_of_none q h)]; exact s b u q
theorem ixN_nat {n j : Nat} (h : j < n) : ixN n (j : Int) = some j := by
  unfold ixN
  rw [if_pos (by omega), if_pos (by omega)]; rfl
theorem emod_nat (x : Int) {n : Nat} (h : 0 < n) : ∃ k : Nat, x % (n : Int) = (k : Int) ∧ k < n := by
  have h0 := Int.emod_nonneg x (show (n : Int) ≠ 0 by omega)
  have h1 := Int.emod_lt_of_pos x (show (0 : Int) < (n : Int) by omega)
  exact ⟨(x % (n : Int)).toNat, by omega, by omega⟩
theorem pow_posN (w : Nat) : 0 < 2 ^ w := Nat.pow_pos (by decide)
theorem pow_pos' (k : Nat) : (0 : Int) < ((2 ^ k : Nat) : Int) := by
  have := Nat.pow_pos (n := k) (show 0 < 2 by decide)
  omega
inductive IspCell (K : PySem.W.Frag) (vs : List V) (H : Hp) (Q : VK) (E : XK) : Prop where
  | mk (a : Addr) (ns : List Int) (k : Nat) (hh0 : vs = [.ref a, .int k]) (hh1 : SqL K H a (ns.map V.int)) (hh2 : Q (.int (ns.getD k 0)) H) : IspCell K vs H Q E
noncomputable def spCell (K : PySem.W.Frag) : Sp := fun vs H Q E => IspCell K vs H Q E
inductive IspWhole (vs : List V) (H : Hp) (Q : VK) (E : XK) : Prop where
  | mk (i : Int) (hh0 : vs = [.int i]) (hh1 : Q (.bl true) H) : IspWhole vs H Q E
noncomputable def spWhole : Sp := fun vs H Q E => IspWhole vs H Q E
inductive IspLaw (K : PySem.W.Frag) (vs : List V) (H : Hp) (Q : VK) (E : XK) : Prop where
  | mk (a : Addr) (ns : List Int) (hh0 : vs = [.ref a]) (hh1 : SqL K H a (ns.map V.int)) (hh2 : ns.length ≤ 63) (hh3 : ∀ H', Q (.bl true) H') : IspLaw K vs H Q E
noncomputable def spLaw (K : PySem.W.Frag) : Sp := fun vs H Q E => IspLaw K vs H Q E
noncomputable def Rows (w : Nat) (rs : List Nat) : Prop := ∀ r ∈ rs, r < 2 ^ w
theorem cutV_ints (ns : List Int) (lo hi : Option Int) : ∃ cs : List Int, cutV (ns.map V.int) lo hi = cs.map V.int ∧ cs.length ≤ ns.length := by
  unfold cutV
  refine ⟨(ns.drop (HT.sIx (ns.map V.int).length 0 lo)).take (HT.sIx (ns.map V.int).length (ns.map V.int).length hi - HT.sIx (ns.map V.int).length 0 lo), ?_, ?_⟩
  · rw [← List.map_drop, ← List.map_take]
  · rw [List.length_take, List.length_drop]; omega
noncomputable def top (i : Nat) : Stmt := PySem.Challenge.pw_traitlattice_k35_one_on_another.main.body.getD i (.Pass ⟨0, 0, 0, 0⟩)
noncomputable abbrev s_Twice_init : Stmt := inClass (top 4) 0
noncomputable abbrev s_TooLarge_init : Stmt := inClass (top 5) 0
noncomputable abbrev s_Table_init : Stmt := inClass (top 15) 0
noncomputable abbrev s_Table_things : Stmt := inClass (top 15) 1
noncomputable abbrev s_Table_columns : Stmt := inClass (top 15) 2
noncomputable abbrev s_Table_rows : Stmt := inClass (top 15) 3
noncomputable abbrev s_names_together : Stmt := top 17
noncomputable abbrev s_upon : Stmt := top 18
noncomputable abbrev s_law_cell_at : Stmt := top 20
noncomputable abbrev s_law_mixed : Stmt := top 21
noncomputable abbrev s_law_name_by : Stmt := top 22
noncomputable abbrev s_law_whole : Stmt := top 23
noncomputable abbrev s_law_texts : Stmt := top 24
noncomputable abbrev s_law_numbers : Stmt := top 25
noncomputable abbrev s_law_kind : Stmt := top 26
noncomputable abbrev s_law_due_kind : Stmt := top 27
noncomputable abbrev s_law_turned : Stmt := top 28
noncomputable abbrev s_law_table_alike : Stmt := top 29
noncomputable abbrev s_law_made : Stmt := top 30
noncomputable abbrev s_law_counts : Stmt := top 31
noncomputable abbrev s_law : Stmt := top 32
theorem sc_Twice_init : FnScope ["self", "line"] ["self", "line"] (defScope s_Twice_init) := ⟨rfl, rfl, rfl, by decide +kernel, rfl, by decide +kernel, by decide +kernel⟩
theorem sc_TooLarge_init : FnScope ["self", "line"] ["self", "line"] (defScope s_TooLarge_init) := ⟨rfl, rfl, rfl, by decide +kernel, rfl, by decide +kernel, by decide +kernel⟩
theorem sc_Table_init : FnScope ["self", "things", "columns", "rows"] ["self", "things", "columns", "rows"] (defScope s_Table_init) := ⟨rfl, rfl, rfl, by decide +kernel, rfl, by decide +kernel, by decide +kernel⟩
theorem sc_Table_things : FnScope ["self"] ["self"] (defScope s_Table_things) := ⟨rfl, rfl, rfl, by decide +kernel, rfl, by decide +kernel, by decide +kernel⟩
theorem sc_Table_columns : FnScope ["self"] ["self"] (defScope s_Table_columns) := ⟨rfl, rfl, rfl, by decide +kernel, rfl, by decide +kernel, by decide +kernel⟩
theorem sc_Table_rows : FnScope ["self"] ["self"] (defScope s_Table_rows) := ⟨rfl, rfl, rfl, by decide +kernel, rfl, by decide +kernel, by decide +kernel⟩
theorem sc_names_together : FnScope ["first", "second", "most"] ["first", "second", "most"] (defScope s_names_together) := ⟨rfl, rfl, rfl, by decide +kernel, rfl, by decide +kernel, by decide +kernel⟩
theorem sc_upon : FnScope ["one", "other", "things"] ["one", "other"] (defScope s_upon) := ⟨rfl, rfl, rfl, by decide +kernel, rfl, by decide +kernel, by decide +kernel⟩
theorem sc_law_cell_at : FnScope ["_law_script", "_law_k"] ["_law_script", "_law_k"] (defScope s_law_cell_at) := ⟨rfl, rfl, rfl, by decide +kernel, rfl, by decide +kernel, by decide +kernel⟩
theorem sc_law_mixed : FnScope ["_law_number", "_law_k", "_law_turned_here"] ["_law_number", "_law_k"] (defScope s_law_mixed) := ⟨rfl, rfl, rfl, by decide +kernel, rfl, by decide +kernel, by decide +kernel⟩
theorem sc_law_name_by : FnScope ["_law_cell", "_law_k", "_law_some", "_law_size", "_law_place", "_law_signs"] ["_law_cell", "_law_k"] (defScope s_law_name_by) := ⟨rfl, rfl, rfl, by decide +kernel, rfl, by decide +kernel, by decide +kernel⟩
theorem sc_law_whole : FnScope ["_law_found"] ["_law_found"] (defScope s_law_whole) := ⟨rfl, rfl, rfl, by decide +kernel, rfl, by decide +kernel, by decide +kernel⟩
theorem sc_law_texts : FnScope ["_law_found", "_law_due", "_law_k"] ["_law_found", "_law_due"] (defScope s_law_texts) := ⟨rfl, rfl, rfl, by decide +kernel, rfl, by decide +kernel, by decide +kernel⟩
theorem sc_law_numbers : FnScope ["_law_found", "_law_due", "_law_k"] ["_law_found", "_law_due"] (defScope s_law_numbers) := ⟨rfl, rfl, rfl, by decide +kernel, rfl, by decide +kernel, by decide +kernel⟩
theorem sc_law_kind : FnScope ["_law_error", "_law_kinds", "_law_others"] ["_law_error"] (defScope s_law_kind) := ⟨rfl, rfl, rfl, by decide +kernel, rfl, by decide +kernel, by decide +kernel⟩
theorem sc_law_due_kind : FnScope ["_law_unlike", "_law_twice", "_law_large"] ["_law_unlike", "_law_twice", "_law_large"] (defScope s_law_due_kind) := ⟨rfl, rfl, rfl, by decide +kernel, rfl, by decide +kernel, by decide +kernel⟩
theorem sc_law_turned : FnScope ["_law_names", "_law_stranger", "_law_number", "_law_most", "_law_found", "_law_at", "_law_kept"] ["_law_names", "_law_stranger", "_law_number", "_law_most"] (defScope s_law_turned) := ⟨rfl, rfl, rfl, by decide +kernel, rfl, by decide +kernel, by decide +kernel⟩
theorem sc_law_table_alike : FnScope ["_law_table", "_law_things", "_law_heads", "_law_sets", "_law_turn", "_law_told_things", "_law_told_heads", "_law_told_sets"] ["_law_table", "_law_things", "_law_heads", "_law_sets"] (defScope s_law_table_alike) := ⟨rfl, rfl, rfl, by decide +kernel, rfl, by decide +kernel, by decide +kernel⟩
theorem sc_law_made : FnScope ["_law_things", "_law_heads", "_law_sets", "_law_handed", "_law_table"] ["_law_things", "_law_heads", "_law_sets"] (defScope s_law_made) := ⟨rfl, rfl, rfl, by decide +kernel, rfl, by decide +kernel, by decide +kernel⟩
theorem sc_law_counts : FnScope ["_law_number", "_law_many", "_law_first", "_law_other"] ["_law_number", "_law_many"] (defScope s_law_counts) := ⟨rfl, rfl, rfl, by decide +kernel, rfl, by decide +kernel, by decide +kernel⟩
theorem sc_law : FnScope ["_law_script", "_law_number", "_law_cells", "_law_counts_here", "_law_wide", "_law_heads", "_law_some", "_law_more", "_law_mixed_here", "_law_twice", "_law_others", "_law_lefts", "_law_rights", "_law_one", "_law_two", "_law_kept", "_law_laid", "e", "_law_due"] ["_law_script"] (defScope s_law) := ⟨rfl, rfl, rfl, by decide +kernel, rfl, by decide +kernel, by decide +kernel⟩
structure Txt_Table (K : PySem.W.Frag) (C : Addr) : Prop where
  cl : Cls K C
  n_thing_names : NoAttr K C "thing_names"
  n_column_names : NoAttr K C "column_names"
  n_thing_rows : NoAttr K C "thing_rows"
theorem b_ValueError : bootBuiltins "ValueError" = some (.type "ValueError") := by decide +kernel
theorem b_any : bootBuiltins "any" = some (.builtin "any") := by decide +kernel
theorem b_bool : bootBuiltins "bool" = some (.type "bool") := by decide +kernel
theorem b_int : bootBuiltins "int" = some (.type "int") := by decide +kernel
theorem b_isinstance : bootBuiltins "isinstance" = some (.builtin "isinstance") := by decide +kernel
theorem b_list : bootBuiltins "list" = some (.type "list") := by decide +kernel
theorem b_str : bootBuiltins "str" = some (.type "str") := by decide +kernel
@[elab_as_elim] theorem len1 {α : Type} {P : List α → Prop} {us : List α} (hl : us.length = 1) (h : ∀ a, P [a]) : P us := match us, hl with | [a], _ => h a
@[elab_as_elim] theorem len2 {α : Type} {P : List α → Prop} {us : List α} (hl : us.length = 2) (h : ∀ a b, P [a, b]) : P us := match us, hl with | [a, b], _ => h a b
@[elab_as_elim] theorem len3 {α : Type} {P : List α → Prop} {us : List α} (hl : us.length = 3) (h : ∀ a b c, P [a, b, c]) : P us := match us, hl with | [a, b, c], _ => h a b c
@[elab_as_elim] theorem len4 {α : Type} {P : List α → Prop} {us : List α} (hl : us.length = 4) (h : ∀ a b c d, P [a, b, c, d]) : P us := match us, hl with | [a, b, c, d], _ => h a b c d
theorem nd_names_together_0 : ((["name"] : List Str) ++ (["first", "second", "most"] : List Str).map (hide ["name"])).Nodup := by decide +kernel
theorem nd_law_name_by_1 : ((["_law_x"] : List Str) ++ (["_law_cell", "_law_k", "_law_some", "_law_size", "_law_place", "_law_signs"] : List Str).map (hide ["_law_x"])).Nodup := by decide +kernel
theorem nd_law_2 : ((["_law_cell"] : List Str) ++ (["_law_script", "_law_number", "_law_cells", "_law_counts_here", "_law_wide", "_law_heads", "_law_some", "_law_more", "_law_mixed_here", "_law_twice", "_law_others", "_law_lefts", "_law_rights", "_law_one", "_law_two", "_law_kept", "_law_laid", "e", "_law_due"] : List Str).map (hide ["_law_cell"])).Nodup := by decide +kernel
theorem nd_law_3 : ((["_law_k"] : List Str) ++ (["_law_script", "_law_number", "_law_cells", "_law_counts_here", "_law_wide", "_law_heads", "_law_some", "_law_more", "_law_mixed_here", "_law_twice", "_law_others", "_law_lefts", "_law_rights", "_law_one", "_law_two", "_law_kept", "_law_laid", "e", "_law_due"] : List Str).map (hide ["_law_k"])).Nodup := by decide +kernel
theorem nd_law_4 : ((["_law_k"] : List Str) ++ (["_law_script", "_law_number", "_law_cells", "_law_counts_here", "_law_wide", "_law_heads", "_law_some", "_law_more", "_law_mixed_here", "_law_twice", "_law_others", "_law_lefts", "_law_rights", "_law_one", "_law_two", "_law_kept", "_law_laid", "e", "_law_due"] : List Str).map (hide ["_law_k"])).Nodup := by decide +kernel
theorem nd_law_5 : ((["_law_k"] : List Str) ++ (["_law_script", "_law_number", "_law_cells", "_law_counts_here", "_law_wide", "_law_heads", "_law_some", "_law_more", "_law_mixed_here", "_law_twice", "_law_others", "_law_lefts", "_law_rights", "_law_one", "_law_two", "_law_kept", "_law_laid", "e", "_law_due"] : List Str).map (hide ["_law_k"])).Nodup := by decide +kernel
theorem nd_law_6 : ((["_law_k"] : List Str) ++ (["_law_script", "_law_number", "_law_cells", "_law_counts_here", "_law_wide", "_law_heads", "_law_some", "_law_more", "_law_mixed_here", "_law_twice", "_law_others", "_law_lefts", "_law_rights", "_law_one", "_law_two", "_law_kept", "_law_laid", "e", "_law_due"] : List Str).map (hide ["_law_k"])).Nodup := by decide +kernel
theorem nd_law_7 : ((["_law_k"] : List Str) ++ (["_law_script", "_law_number", "_law_cells", "_law_counts_here", "_law_wide", "_law_heads", "_law_some", "_law_more", "_law_mixed_here", "_law_twice", "_law_others", "_law_lefts", "_law_rights", "_law_one", "_law_two", "_law_kept", "_law_laid", "e", "_law_due"] : List Str).map (hide ["_law_k"])).Nodup := by decide +kernel
theorem nd_law_8 : ((["_law_k"] : List Str) ++ (["_law_script", "_law_number", "_law_cells", "_law_counts_here", "_law_wide", "_law_heads", "_law_some", "_law_more", "_law_mixed_here", "_law_twice", "_law_others", "_law_lefts", "_law_rights", "_law_one", "_law_two", "_law_kept", "_law_laid", "e", "_law_due"] : List Str).map (hide ["_law_k"])).Nodup := by decide +kernel
section
variable {P : Program} {w : World} {K : PySem.W.Frag} {mg : Str → Option Value} {base : Heap}
noncomputable def Ruls (H : Hp) (prs : List (Addr × Nat × Nat)) : Prop := ∀ q ∈ prs, H q.1 = some (.tup [nv q.2.1, nv q.2.2])
theorem Ruls.same {H H' : Hp} {prs : List (Addr × Nat × Nat)} (h : Ruls H prs) (g : Same H H') : Ruls H' prs := fun q hq => g _ _ (h q hq)
theorem tup0 (x y : V) : atI [x, y] 0 = some x := rfl
theorem tup1 (x y : V) : atI [x, y] 1 = some y := rfl
theorem Ruls.nil {H : Hp} : Ruls H [] := fun _ h => nomatch h
theorem seq_join {t u : TS} {D : Ends} {σ : St} {H : Hp} (R : St → Hp → Prop) (go : ∀ σ' H', R σ' H' → u D σ' H') (h : ∀ nx' : St → Hp → Prop, (∀ σ' H', R σ' H' → nx' σ' H') → t { D with nx := nx' } σ H) : tSeq t u D σ H := h (u D) go
theorem two_line : 2 ≤ sizeLine := by rw [sizeLine_eq]; decide
noncomputable def OptAt (H : Hp) (o : Option (Addr × Nat × Nat)) : Prop := ∀ t, o = some t → H t.1 = some (.tup [nv t.2.1, nv t.2.2])
theorem OptAt.same {H H' : Hp} {o : Option (Addr × Nat × Nat)} (h : OptAt H o) (g : Same H H') : OptAt H' o := fun t e => g _ _ (h t e)
noncomputable def Kept (S : List Addr) (H H' : Hp) : Prop := ∀ p o, p ∉ S → H p = some o → H' p = some o
theorem Kept.refl {S : List Addr} {H : Hp} : Kept S H H := fun _ _ _ h => h
theorem Kept.trans {S : List Addr} {H H1 H2 : Hp} (a : Kept S H H1) (b : Kept S H1 H2) : Kept S H H2 := fun p o hp h => b p o hp (a p o hp h)
theorem Kept.same {S : List Addr} {H H1 H2 : Hp} (a : Kept S H H1) (b : Same H1 H2) : Kept S H H2 := fun p o hp h => b p o (a p o hp h)
theorem Kept.upd {S : List Addr} {H H1 : Hp} {q : Addr} {u : HO} (a : Kept S H H1) (hq : q ∈ S) : Kept S H (upd H1 q u) := fun p o hp h => by
  rw [upd_ne (fun e => hp (by rw [e]; exact hq))]; exact a p o hp h
theorem Kept.new {S : List Addr} {H H1 : Hp} {q : Addr} {u : HO} (a : Kept S H H1) (hq : H1 q = none) : Kept S H (L2.upd H1 q u) := fun p o hp h => by
  have := a p o hp h
  rw [upd_ne (ne_of_none this hq)]; exact this
theorem Kept.sub {S T : List Addr} {H H1 : Hp} (a : Kept S H H1) (h : ∀ p ∈ S, p ∈ T) : Kept T H H1 := fun p o hp e => a p o (fun z => hp (h p z)) e
theorem Same.kept {S : List Addr} {H0 H H' : Hp} (g : Same H0 H) (k : Kept S H H') (n : ∀ s ∈ S, H0 s = none) : Same H0 H' := fun p o h => k p o (fun hs => by rw [n p hs] at h; cases h) (g p o h)
theorem nm1 {p x : Addr} (h : p ≠ x) : p ∉ [x] := by simpa using h
theorem Ruls.kept {S : List Addr} {H H' : Hp} {prs : List (Addr × Nat × Nat)} (h : Ruls H prs) (k : Kept S H H') (n : ∀ s ∈ S, ∀ xs, H s ≠ some (.tup xs)) : Ruls H' prs := fun q hq => k _ _ (fun z => n _ z _ (h q hq)) (h q hq)
theorem OptAt.kept {S : List Addr} {H H' : Hp} {o : Option (Addr × Nat × Nat)} (h : OptAt H o) (k : Kept S H H') (n : ∀ s ∈ S, ∀ xs, H s ≠ some (.tup xs)) : OptAt H' o := fun t e => k _ _ (fun z => n _ z _ (h t e)) (h t e)
theorem made_same {C x dx : Addr} {H H' : Hp} (nx : H x = none) (ndx : H dx = none) (k : Kept [x] (upd (upd H dx (.own x)) x (.ins C dx [])) H') : Same H H' := fun p o h => by
  have h1 := ne_of_none h nx
  have h2 := ne_of_none h ndx
  exact k p o (nm1 h1) (by rw [upd_ne h1, upd_ne h2]; exact h)
structure EK (K : PySem.W.Frag) (Ds : List Addr) (C : Addr) (i : Nat) : Prop where
  xc : XCls K C
  ve : PySem.W.kitOne K (.ref C) (.type "ValueError") = some true
  is : ∀ (j : Nat) (D : Addr), Ds[j]? = some D → PySem.W.kitOne K (.ref C) (.ref D) = some (decide (j = i))
  lt : i < 11
theorem ek_is {K : PySem.W.Frag} {C d0 d1 d2 d3 d4 d5 d6 d7 d8 d9 d10 : Addr} {i : Nat} (h0 : PySem.W.kitOne K (.ref C) (.ref d0) = some (decide (0 = i))) (h1 : PySem.W.kitOne K (.ref C) (.ref d1) = some (decide (1 = i))) (h2 : PySem.W.kitOne K (.ref C) (.ref d2) = some (decide (2 = i)))
    (h3 : PySem.W.kitOne K (.ref C) (.ref d3) = some (decide (3 = i))) (h4 : PySem.W.kitOne K (.ref C) (.ref d4) = some (decide (4 = i))) (h5 : PySem.W.kitOne K (.ref C) (.ref d5) = some (decide (5 = i))) (h6 : PySem.W.kitOne K (.ref C) (.ref d6) = some (decide (6 = i)))
    (h7 : PySem.W.kitOne K (.ref C) (.ref d7) = some (decide (7 = i))) (h8 : PySem.W.kitOne K (.ref C) (.ref d8) = some (decide (8 = i))) (h9 : PySem.W.kitOne K (.ref C) (.ref d9) = some (decide (9 = i))) (h10 : PySem.W.kitOne K (.ref C) (.ref d10) = some (decide (10 = i))) :
    ∀ (j : Nat) (D : Addr), [d0, d1, d2, d3, d4, d5, d6, d7, d8, d9, d10][j]? = some D → PySem.W.kitOne K (.ref C) (.ref D) = some (decide (j = i))
  | 0, _, e => by cases e; exact h0
  | 1, _, e => by cases e; exact h1
  | 2, _, e => by cases e; exact h2
  | 3, _, e => by cases e; exact h3
  | 4, _, e => by cases e; exact h4
  | 5, _, e => by cases e; exact h5
  | 6, _, e => by cases e; exact h6
  | 7, _, e => by cases e; exact h7
  | 8, _, e => by cases e; exact h8
  | 9, _, e => by cases e; exact h9
  | 10, _, e => by cases e; exact h10
  | j + 11, _, e => by cases e
theorem cs3 {P : Nat → Addr → Prop} {a b c : Addr} (h0 : P 0 a) (h1 : P 1 b) (h2 : P 2 c) : ∀ j x, [a, b, c][j]? = some x → P j x
  | 0, _, e => by cases e; exact h0
  | 1, _, e => by cases e; exact h1
  | 2, _, e => by cases e; exact h2
  | j + 3, _, e => by cases e
theorem same_raise {H : Hp} {a T : Addr} {u v w : HO} (ha : H a = none) (hT : (upd H a u) T = none) : Same H (upd (upd (upd H a u) T v) a w) := fun b o q => by
  have hb : b ≠ a := ne_of_none q ha
  have hbT : b ≠ T := fun e => by rw [← e, upd_ne hb, q] at hT; cases hT
  rw [upd_ne hb, upd_ne hbT, upd_ne hb]; exact q
theorem Flown.same {H H' : Hp} {a C : Addr} {d : Option Addr} (h : Flown H a C d) (g : Same H H') : Flown H' a C d :=
  let ⟨T, h1, h2, h3⟩ := h; ⟨T, g _ _ h1, g _ _ h2, h3⟩
theorem if_known {c : TT} {t u : TS} {D : Ends} {σ : St} {H : Hp} (b : Bool) (hc : ∀ Q : Bool → Hp → Prop, Q b H → c σ H Q) (h : if b = true then t D σ H else u D σ H) : tIfS c t u D σ H := hc _ h
noncomputable def tabF (a b c : Addr) : List (Str × V) := [("thing_names", .ref a), ("column_names", .ref b), ("thing_rows", .ref c)]
structure TabB (C : Addr) (H : Hp) (x a b c : Addr) (ts cs : List Str) (rs : List Nat) : Prop where
  ins : ∃ dx, H x = some (.ins C dx (tabF a b c))
  th : H a = some (.lst (ts.map V.str))
  co : H b = some (.lst (cs.map V.str))
  ro : H c = some (.lst (rs.map nv))
theorem TabB.same {C : Addr} {H H' : Hp} {x a b c : Addr} {ts cs : List Str} {rs : List Nat} (t : TabB C H x a b c ts cs rs) (g : Same H H') : TabB C H' x a b c ts cs rs :=
  let ⟨dx, h⟩ := t.ins; ⟨⟨dx, g _ _ h⟩, g _ _ t.th, g _ _ t.co, g _ _ t.ro⟩
inductive IspTbInit (K : PySem.W.Frag) (C : Addr) (vs : List V) (H : Hp) (Q : VK) (E : XK) : Prop where
  | mk (x dx p1 p2 p3 : Addr) (ts cs : List Str) (rs : List Nat) (hh0 : vs = [.ref x, .ref p1, .ref p2, .ref p3]) (hh1 : H x = some (.ins C dx [])) (hh2 : SqL K H p1 (ts.map V.str)) (hh3 : SqL K H p2 (cs.map V.str)) (hh4 : SqL K H p3 (rs.map nv)) (hh5 : ∀ H' a b c, H a = none → H b = none → H c = none → TabB C H' x a b c ts cs rs → Kept [x] H H' → Q .non H') : IspTbInit K C vs H Q E
noncomputable def spTbInit (K : PySem.W.Frag) (C : Addr) : Sp := fun vs H Q E => IspTbInit K C vs H Q E
inductive IspTbThings (C : Addr) (vs : List V) (H : Hp) (Q : VK) (E : XK) : Prop where
  | mk (x a b c : Addr) (ts cs : List Str) (rs : List Nat) (hh0 : vs = [.ref x]) (hh1 : TabB C H x a b c ts cs rs) (hh2 : ∀ r, H r = none → Q (.ref r) (upd H r (.lst (ts.map V.str)))) : IspTbThings C vs H Q E
noncomputable def spTbThings (C : Addr) : Sp := fun vs H Q E => IspTbThings C vs H Q E
inductive IspTbColumns (C : Addr) (vs : List V) (H : Hp) (Q : VK) (E : XK) : Prop where
  | mk (x a b c : Addr) (ts cs : List Str) (rs : List Nat) (hh0 : vs = [.ref x]) (hh1 : TabB C H x a b c ts cs rs) (hh2 : ∀ r, H r = none → Q (.ref r) (upd H r (.lst (cs.map V.str)))) : IspTbColumns C vs H Q E
noncomputable def spTbColumns (C : Addr) : Sp := fun vs H Q E => IspTbColumns C vs H Q E
inductive IspTbRows (C : Addr) (vs : List V) (H : Hp) (Q : VK) (E : XK) : Prop where
  | mk (x a b c : Addr) (ts cs : List Str) (rs : List Nat) (hh0 : vs = [.ref x]) (hh1 : TabB C H x a b c ts cs rs) (hh2 : ∀ r, H r = none → Q (.ref r) (upd H r (.lst (rs.map nv)))) : IspTbRows C vs H Q E
noncomputable def spTbRows (C : Addr) : Sp := fun vs H Q E => IspTbRows C vs H Q E
theorem none_new {H : Hp} {a p : Addr} {o : HO} (h : (upd H a o) p = none) : H p = none ∧ p ≠ a := by
  have h1 : p ≠ a := fun e => by rw [e, upd_same] at h; cases h
  rw [upd_ne h1] at h
  exact ⟨h, h1⟩
theorem init_step {C x dx a : Addr} {H H0 : Hp} {fs : List (Str × V)} {f : Str} {xs : List V} (hx : H x = some (.ins C dx fs)) (ha : H a = none) (k : Kept [x] H0 H) :
    (upd (upd H a (.lst xs)) x (.ins C dx (putF f (.ref a) fs))) x = some (.ins C dx (putF f (.ref a) fs)) ∧ (upd (upd H a (.lst xs)) x (.ins C dx (putF f (.ref a) fs))) a = some (.lst xs) ∧
    Kept [x] H0 (upd (upd H a (.lst xs)) x (.ins C dx (putF f (.ref a) fs))) ∧ Kept [x] H (upd (upd H a (.lst xs)) x (.ins C dx (putF f (.ref a) fs))) ∧
    (∀ p, (upd (upd H a (.lst xs)) x (.ins C dx (putF f (.ref a) fs))) p = none → H p = none ∧ p ≠ a) ∧ (upd H a (.lst xs)) x = some (.ins C dx fs) := by
  have nax : a ≠ x := fun e => by rw [e, hx] at ha; cases ha
  refine ⟨upd_same, by rw [upd_ne nax]; exact upd_same, (k.new ha).upd (by simp), (Kept.refl.new ha).upd (by simp), fun p hp => ?_, by rw [upd_ne (Ne.symm nax)]; exact hx⟩
  exact none_new (none_new hp).1
theorem Kept.sq {K : PySem.W.Frag} {C x dx p : Addr} {H H' : Hp} {fs : List (Str × V)} {xs : List V} (k : Kept [x] H H') (hx : H x = some (.ins C dx fs)) (h : SqL K H p xs) : SqL K H' p xs := by
  rcases h with (h | ⟨o, h⟩) | h
  · exact .inl (.inl (k _ _ (nm1 (ne_of h hx (by intro z; cases z))) h))
  · exact .inl (.inr ⟨o, k _ _ (nm1 (ne_of h hx (by intro z; cases z))) h⟩)
  · exact .inr h
theorem ok_Table_init {C_Table : Addr} (T_Table : Txt_Table K C_Table)
    {f_Table_init : Addr} {fd_Table_init : FuncData} (F_Table_init : Fun K "__init__" "Table.__init__" s_Table_init f_Table_init fd_Table_init)
    (z_list : mg "list" = none) :
    FnOk P w K mg base CX0 1 f_Table_init fd_Table_init ["self", "things", "columns", "rows"] (spTbInit K C_Table) := by
  refine F_Table_init.ok sc_Table_init (fun vs H Q E h => ?_) (fun cdv A outer s H vs Q E hr h => ?_)
  · obtain ⟨x, dx, p1, p2, p3, ts, cs, rs, rfl, hx, h1, h2, h3, q⟩ := h
    rfl
  obtain ⟨x, dx, p1, p2, p3, ts, cs, rs, rfl, hx, h1, h2, h3, q⟩ := h
  refine ⟨_, (pss_cons (ps_fld (pv 0) (pe_callTy (list_ofK (K := K) rfl) rfl z_list b_list (pa_cons (pv 1) pa_nil)) rfl)
      (pss_cons (ps_fld (pv 0) (pe_callTy (list_ofK (K := K) rfl) rfl z_list b_list (pa_cons (pv 2) pa_nil)) rfl)
      (pss_one (ps_fld (pv 0) (pe_callTy (list_ofK (K := K) rfl) rfl z_list b_list (pa_cons (pv 3) pa_nil)) rfl)))), ?_⟩
  refine ⟨_, rfl, p1, _, rfl, .inl h1, fun a ha => ?_⟩
  obtain ⟨e1, e2, e3, e4, e5, e6⟩ := init_step (f := "thing_names") (xs := ts.map V.str) hx ha (Kept.refl (S := [x]) (H := H))
  refine ⟨_, rfl, x, C_Table, dx, _, rfl, e6, T_Table.cl, T_Table.n_thing_names, by decide, ?_⟩
  have s2 := e4.sq hx h2
  have s3 := e4.sq hx h3
  try dsimp only
  generalize upd (upd H a (.lst (ts.map V.str))) x (.ins C_Table dx (putF "thing_names" (.ref a) [])) = H1 at e1 e2 e3 e4 e5 s2 s3
  refine ⟨_, rfl, p2, _, rfl, .inl s2, fun b hb => ?_⟩
  obtain ⟨f1, f2, f3, f4, f5, f6⟩ := init_step (f := "column_names") (xs := cs.map V.str) e1 hb e3
  refine ⟨_, rfl, x, C_Table, dx, _, rfl, f6, T_Table.cl, T_Table.n_column_names, (show 1 < 1000 by decide), ?_⟩
  have s3 := f4.sq e1 s3
  have na : a ≠ x := fun e => by rw [e, hx] at ha; cases ha
  have f7 := f4 _ _ (nm1 na) e2
  try dsimp only
  generalize upd (upd H1 b (.lst (cs.map V.str))) x (.ins C_Table dx (putF "column_names" (.ref b) (putF "thing_names" (.ref a) []))) = H2 at f1 f2 f3 f4 f5 f7 s3
  refine ⟨_, rfl, p3, _, rfl, .inl s3, fun c hc => ?_⟩
  obtain ⟨g1, g2, g3, g4, g5, g6⟩ := init_step (f := "thing_rows") (xs := rs.map nv) f1 hc f3
  refine ⟨_, rfl, x, C_Table, dx, _, rfl, g6, T_Table.cl, T_Table.n_thing_rows, (show 2 < 1000 by decide), ?_⟩
  have nb : b ≠ x := fun e => by rw [e, e1] at hb; cases hb
  exact q _ a b c ha (e5 b hb).1 (e5 c (f5 c hc).1).1 ⟨⟨dx, g1⟩, g4 _ _ (nm1 na) f7, g4 _ _ (nm1 nb) f2, g2⟩ g3
theorem ok_Table_things {C_Table : Addr} (T_Table : Txt_Table K C_Table)
    {f_Table_things : Addr} {fd_Table_things : FuncData} (F_Table_things : Fun K "things" "Table.things" s_Table_things f_Table_things fd_Table_things)
    (z_list : mg "list" = none) :
    FnOk P w K mg base CX0 1 f_Table_things fd_Table_things ["self"] (spTbThings C_Table) := by
  refine F_Table_things.ok sc_Table_things (fun vs H Q E h => ?_) (fun cdv A outer s H vs Q E hr h => ?_)
  · obtain ⟨x, a, b, c, ts, cs, rs, rfl, t, q⟩ := h
    rfl
  obtain ⟨x, a, b, c, ts, cs, rs, rfl, t, q⟩ := h
  refine ⟨_, (pss_one (ps_ret (pe_callTy (list_ofK (K := K) rfl) rfl z_list b_list (pa_cons (pe_fld (pv 0) rfl) pa_nil)))), ?_⟩
  obtain ⟨dx, hx⟩ := t.ins
  exact ⟨_, rfl, x, C_Table, dx, _, _, rfl, hx, T_Table.cl, T_Table.n_thing_names, rfl, a, _, rfl, .inl (SqL.of t.th), fun r hr => q r hr⟩
theorem ok_Table_columns {C_Table : Addr} (T_Table : Txt_Table K C_Table)
    {f_Table_columns : Addr} {fd_Table_columns : FuncData} (F_Table_columns : Fun K "columns" "Table.columns" s_Table_columns f_Table_columns fd_Table_columns)
    (z_list : mg "list" = none) :
    FnOk P w K mg base CX0 1 f_Table_columns fd_Table_columns ["self"] (spTbColumns C_Table) := by
  refine F_Table_columns.ok sc_Table_columns (fun vs H Q E h => ?_) (fun cdv A outer s H vs Q E hr h => ?_)
  · obtain ⟨x, a, b, c, ts, cs, rs, rfl, t, q⟩ := h
    rfl
  obtain ⟨x, a, b, c, ts, cs, rs, rfl, t, q⟩ := h
  refine ⟨_, (pss_one (ps_ret (pe_callTy (list_ofK (K := K) rfl) rfl z_list b_list (pa_cons (pe_fld (pv 0) rfl) pa_nil)))), ?_⟩
  obtain ⟨dx, hx⟩ := t.ins
  exact ⟨_, rfl, x, C_Table, dx, _, _, rfl, hx, T_Table.cl, T_Table.n_column_names, rfl, b, _, rfl, .inl (SqL.of t.co), fun r hr => q r hr⟩
theorem ok_Table_rows {C_Table : Addr} (T_Table : Txt_Table K C_Table)
    {f_Table_rows : Addr} {fd_Table_rows : FuncData} (F_Table_rows : Fun K "rows" "Table.rows" s_Table_rows f_Table_rows fd_Table_rows)
    (z_list : mg "list" = none) :
    FnOk P w K mg base CX0 1 f_Table_rows fd_Table_rows ["self"] (spTbRows C_Table) := by
  refine F_Table_rows.ok sc_Table_rows (fun vs H Q E h => ?_) (fun cdv A outer s H vs Q E hr h => ?_)
  · obtain ⟨x, a, b, c, ts, cs, rs, rfl, t, q⟩ := h
    rfl
  obtain ⟨x, a, b, c, ts, cs, rs, rfl, t, q⟩ := h
  refine ⟨_, (pss_one (ps_ret (pe_callTy (list_ofK (K := K) rfl) rfl z_list b_list (pa_cons (pe_fld (pv 0) rfl) pa_nil)))), ?_⟩
  obtain ⟨dx, hx⟩ := t.ins
  exact ⟨_, rfl, x, C_Table, dx, _, _, rfl, hx, T_Table.cl, T_Table.n_thing_rows, rfl, c, _, rfl, .inl (SqL.of t.ro), fun r hr => q r hr⟩
structure ErrAt (H : Hp) (a C : Addr) (f : Str) (v : V) : Prop where
  ex : ∃ d, H a = some (XO a C (some d)) ∧ H d = some (.xd [(f, v)])
inductive IspInitX (K : PySem.W.Frag) (f : Str) (vs : List V) (H : Hp) (Q : VK) (E : XK) : Prop where
  | mk (a C : Addr) (y : V) (hh0 : vs = [.ref a, y]) (hh1 : H a = some (XO a C none)) (hh2 : XCls K C) (hh3 : excOver K C = true) (hh4 : NoAttr K C f) (hh5 : ∀ H', ErrAt H' a C f y → (∀ b o, H b = some o → b ≠ a → H' b = some o) → Q .non H') : IspInitX K f vs H Q E
noncomputable def spInitX (K : PySem.W.Frag) (f : Str) : Sp := fun vs H Q E => IspInitX K f vs H Q E
theorem init_end {H : Hp} {a C : Addr} {f : Str} {y : V} {Q : VK} (hA : H a = some (XO a C none)) (k : ∀ H', ErrAt H' a C f y → (∀ b o, H b = some o → b ≠ a → H' b = some o) → Q .non H') :
    ∀ d, H d = none → d ≠ a → Q .non (upd (upd H d (.xd [(f, y)])) a (XO a C (some d))) := fun d hd hne => by
  refine k _ ⟨d, upd_same, by rw [upd_ne hne, upd_same]⟩ fun b o e hb => ?_
  rw [upd_ne hb, upd_ne (ne_of_none e hd)]
  exact e
theorem ok_Twice_init {f_Twice_init : Addr} {fd_Twice_init : FuncData} (F_Twice_init : Fun K "__init__" "Twice.__init__" s_Twice_init f_Twice_init fd_Twice_init) :
    FnOk P w K mg base CX0 1 f_Twice_init fd_Twice_init ["self", "line"] (spInitX K "line") := by
  refine F_Twice_init.ok sc_Twice_init (fun vs H Q E h => ?_) (fun cdv A outer s H vs Q E hr h => ?_)
  · obtain ⟨a, C, y, rfl, hA, hc, ho, hn, k⟩ := h
    rfl
  obtain ⟨a, C, y, rfl, hA, hc, ho, hn, k⟩ := h
  refine ⟨_, (pss_one (ps_fldX (K := K) rfl (pv 0) (pv 1) rfl)), ?_⟩
  exact ⟨_, rfl, _, rfl, a, C, rfl, hA, hc, ho, hn, init_end hA k⟩
theorem ok_TooLarge_init {f_TooLarge_init : Addr} {fd_TooLarge_init : FuncData} (F_TooLarge_init : Fun K "__init__" "TooLarge.__init__" s_TooLarge_init f_TooLarge_init fd_TooLarge_init) :
    FnOk P w K mg base CX0 1 f_TooLarge_init fd_TooLarge_init ["self", "line"] (spInitX K "line") := by
  refine F_TooLarge_init.ok sc_TooLarge_init (fun vs H Q E h => ?_) (fun cdv A outer s H vs Q E hr h => ?_)
  · obtain ⟨a, C, y, rfl, hA, hc, ho, hn, k⟩ := h
    rfl
  obtain ⟨a, C, y, rfl, hA, hc, ho, hn, k⟩ := h
  refine ⟨_, (pss_one (ps_fldX (K := K) rfl (pv 0) (pv 1) rfl)), ?_⟩
  exact ⟨_, rfl, _, rfl, a, C, rfl, hA, hc, ho, hn, init_end hA k⟩
structure Cgt (H : Hp) (e c : Addr) (j : Nat) : Prop where
  ex : ∃ d : Option Addr, Flown H e c d ∧ (∀ dx, d = some dx → H dx = some (.xd [("line", .int 0)])) ∧ (j ≠ 0 → d ≠ none)
theorem Cgt.same {H H' : Hp} {e c : Addr} {j : Nat} (h : Cgt H e c j) (g : Same H H') : Cgt H' e c j :=
  let ⟨d, h1, h2, h3⟩ := h.ex; ⟨d, Flown.same h1 g, fun dx q => g _ _ (h2 dx q), h3⟩
theorem line_up {K : PySem.W.Frag} {H : Hp} {C : Addr} {E : XK} {j : Nat} (xc : XCls K C) (xo : excOver K C = true) (xn : NoAttr K C "line") (k : ∀ e H', H e = none → Same H H' → Cgt H' e C j → E (.ref C) (some e) H') (e : Addr) (he : H e = none) :
    spInitX K "line" [.ref e, .int 0] (upd H e (XO e C none)) (fun v H2 => v = .non ∧ ∃ a d, (V.ref e) = .ref a ∧ H2 a = some (XO a C d) ∧ ∀ T, H2 T = none → T ≠ a → E (.ref C) (some a) (upd (upd H2 T (XT T)) a (XF a C d T))) E0 := by
  refine ⟨e, C, .int 0, rfl, upd_same, xc, xo, xn, fun H' hE hk => ?_⟩
  obtain ⟨d, h1, h2⟩ := hE.ex
  refine ⟨rfl, e, some d, rfl, h1, fun T hT hTe => k e _ he (fun b o q => ?_) ⟨some d, flown_new hTe, fun dx z => ?_, (fun _ z => nomatch z)⟩⟩
  · have hb : b ≠ e := ne_of_none q he
    have q1 := hk b o (by rw [upd_ne hb]; exact q) hb
    rw [upd_ne hb, upd_ne (ne_of_none q1 hT)]
    exact q1
  · cases z
    rw [upd_ne (ne_of h2 h1 (by intro z; cases z)), upd_ne (ne_of_none h2 hT)]
    exact h2
noncomputable def dueN (xs ys : List Str) (m : Nat) : Option Nat := if ys.any (fun y => decide (y ∈ xs)) = true then some 1 else if m < xs.length + ys.length then some 2 else none
inductive IspNamesE (Cs : List Addr) (vs : List V) (H : Hp) (Q : VK) (E : XK) : Prop where
  | mk (p q : Addr) (xs ys : List Str) (m : Nat) (hh0 : vs = [.ref p, .ref q, .int m]) (hh1 : H p = some (.lst (xs.map V.str))) (hh2 : H q = some (.lst (ys.map V.str))) (hh3 : xs.length ≤ 400) (hh4 : ys.length ≤ 400) (hh5 : (∀ j c, dueN xs ys m = some j → Cs[j]? = some c → ∀ e H', Same H H' → H e = none → Cgt H' e c j → E (.ref c) (some e) H')) (hh6 : (dueN xs ys m = none → ∀ r H', Same H H' → H r = none → H' r = some (.lst ((xs ++ ys).map V.str)) → Q (.ref r) H')) : IspNamesE Cs vs H Q E
noncomputable def spNamesE (Cs : List Addr) : Sp := fun vs H Q E => IspNamesE Cs vs H Q E
theorem any_bls (ys : List Str) (p : Str → Bool) : (ys.map p).any id = ys.any p := by rw [List.any_map]; rfl
theorem ok_names_together {f_names_together : Addr} {fd_names_together : FuncData} (F_names_together : Fun K "names_together" "names_together" s_names_together f_names_together fd_names_together)
    (XC1 : XCls K C_Twice) (xo1 : excOver K C_Twice = true) (xn1 : NoAttr K C_Twice "line") (XC2 : XCls K C_TooLarge) (xo2 : excOver K C_TooLarge = true) (xn2 : NoAttr K C_TooLarge "line")
    {f_Twice_init : Addr} {fd_Twice_init : FuncData} (G_Twice_init : FnOk P w K mg base CX0 1 f_Twice_init fd_Twice_init ["self", "line"] (spInitX K "line")) (b_Twice_init : Binds K fd_Twice_init ["self", "line"] [])
    {f_TooLarge_init : Addr} {fd_TooLarge_init : FuncData} (G_TooLarge_init : FnOk P w K mg base CX0 1 f_TooLarge_init fd_TooLarge_init ["self", "line"] (spInitX K "line")) (b_TooLarge_init : Binds K fd_TooLarge_init ["self", "line"] [])
    (m_Twice : mg "Twice" = some (.ref C_Twice))
    (m_TooLarge : mg "TooLarge" = some (.ref C_TooLarge))
    (M_Twice : XMk K C_Twice f_Twice_init)
    (M_TooLarge : XMk K C_TooLarge f_TooLarge_init)
    (R_Twice : XRs K C_Twice)
    (R_TooLarge : XRs K C_TooLarge)
    (z_any : mg "any" = none)
    (z_len : mg "len" = none) :
    FnOk P w K mg base (CXE P w) 3 f_names_together fd_names_together ["first", "second", "most"] (spNamesE [C_Unlike, C_Twice, C_TooLarge]) := by
  refine F_names_together.okE sc_names_together (fun vs H Q E h => ?_) (fun cdv A outer s H vs Q E hr h => ?_)
  · obtain ⟨p, s, xs, ys, m, rfl, hp, hs, hl1, hl2, qE, q⟩ := h
    rfl
  obtain ⟨p, s, xs, ys, m, rfl, hp, hs, hl1, hl2, qE, q⟩ := h
  refine ⟨_, (pss_cons (ps_if (pt_val (pe_callB (call_anyK (K := K) rfl (by rfl)) rfl z_any b_any (pa_cons (pe_comp (own := ["name"]) rfl (pi_listK (K := K) rfl (pv 1)) (fun _ _ _ _ _ => (pg_name (i := 0) nd_names_together_0 rfl (Or.inl rfl))) (fun _ _ _ _ _ => pif_nil) (fun _ _ _ _ _ => (pe_cmpR (op_inK (K := K) rfl) (pv 0) (pv 1) (by with_unfolding_all rfl)))) pa_nil))) (pss_one (ps_raise R_Twice (pe_makeX M_Twice G_Twice_init (hr.mono (by decide)) rfl m_Twice b_Twice_init pass0 (pa_cons pe_int pa_nil)))) pss_nil)
      (pss_cons (ps_if (pt_cmpR op_gt (pe_op op_add (pe_callB (len_seqK (K := K) rfl) rfl z_len PySem.boot_len (pa_cons (pv 0) pa_nil)) (pe_callB (len_seqK (K := K) rfl) rfl z_len PySem.boot_len (pa_cons (pv 1) pa_nil))) (pv 2) (nomark _)) (pss_one (ps_raise R_TooLarge (pe_makeX M_TooLarge G_TooLarge_init (hr.mono (by decide)) rfl m_TooLarge b_TooLarge_init pass0 (pa_cons pe_int pa_nil)))) pss_nil)
      (pss_one (ps_ret (pe_op op_cat (pv 0) (pv 1)))))), ?_⟩
  refine ⟨_, rfl, s, rfl, ⟨_, SqL.of hs⟩, ?_⟩
  refine comp_list (K := K) (a := s) (xs := ys.map V.str) (fun i zs H2 => zs = ((ys.take i).map fun y => decide (y ∈ xs)).map V.bl ∧ H = H2) (by rw [List.length_map]; exact line1000 (by omega)) ⟨rfl, rfl⟩ (fun i zs H2 hi h => by rw [h.1, List.length_map, List.length_map, List.length_take]; omega) (fun i zs H2 hi h => h.2 ▸ SqL.of hs) (fun i z zs H2 hi h => ?_) (fun zs H2 h => ?_)
  · obtain ⟨rfl, rfl⟩ := h
    obtain ⟨hil, rfl⟩ := getI hi
    refine ⟨rfl, _, rfl, _, rfl, p, _, rfl, .inl (SqL.of hp), rfl, strs_flat xs, ?_, rfl⟩
    show _ ++ [V.bl (inV (.str ys[i]) (xs.map V.str))] = _
    rw [in_strs, ← List.take_append_getElem hil, List.map_append, List.map_append]; rfl
  · obtain ⟨rfl, rfl⟩ := h
    rw [List.length_map, List.take_length]
    intro c hc
    have n_H1 := same_new hc (.lst ((ys.map fun y => decide (y ∈ xs)).map V.bl))
    have e_H1 : (upd H c (.lst ((ys.map fun y => decide (y ∈ xs)).map V.bl))) c = some (.lst ((ys.map fun y => decide (y ∈ xs)).map V.bl)) := upd_same
    generalize upd H c (.lst ((ys.map fun y => decide (y ∈ xs)).map V.bl)) = H1 at n_H1 e_H1
    refine ⟨c, _, rfl, SqL.of e_H1, _, rfl, ?_⟩
    rw [any_bls]
    unfold dueN at qE q
    cases ht : ys.any fun y => decide (y ∈ xs) with
    | true =>
      rw [ht, if_pos rfl] at qE
      exact iteT ⟨(by show 1 ≤ sizeLine; decide), line_up (j := 1) XC1 xo1 xn1 fun e H' he g hc => qE 1 _ rfl rfl e H' (n_H1.trans g) (n_H1.free he) hc⟩
    | false =>
      rw [ht, if_neg Bool.false_ne_true] at qE q
      refine iteF ⟨_, rfl, p, _, rfl, .inl (SqL.of (n_H1 _ _ hp)), _, rfl, s, _, rfl, .inl (SqL.of (n_H1 _ _ hs)), _, _, rfl, rfl, _, rfl, _, _, rfl, rfl, _, rfl, ?_⟩
      rw [List.length_map, List.length_map]
      by_cases hm : m < xs.length + ys.length
      · rw [if_pos hm] at qE
        rw [decide_eq_true (show (m : Int) < (xs.length : Int) + (ys.length : Int) from by omega)]
        exact iteT ⟨(by show 1 ≤ sizeLine; decide), line_up (j := 2) XC2 xo2 xn2 fun e H' he g hc => qE 2 _ rfl rfl e H' (n_H1.trans g) (n_H1.free he) hc⟩
      · rw [if_neg hm] at q
        rw [decide_eq_false (show ¬ (m : Int) < (xs.length : Int) + (ys.length : Int) from by omega)]
        refine iteF ⟨_, rfl, _, rfl, p, s, _, _, rfl, rfl, n_H1 _ _ hp, n_H1 _ _ hs, by rw [List.length_map, List.length_map]; exact Nat.le_of_lt (line1000 (by omega)), fun r hr => ?_⟩
        rw [← List.map_append]
        exact q rfl r _ (same_one n_H1 hr _) (n_H1.free hr) upd_same
noncomputable def dueJ (ts us cs ds : List Str) (m : Nat) : Option Nat := if ts = us then dueN cs ds m else some 0
theorem cgt_new {H : Hp} {e c T : Addr} (h : T ≠ e) : Cgt (upd (upd H T (XT T)) e (XF e c none T)) e c 0 := ⟨none, flown_new h, (fun _ z => nomatch z), fun z => absurd rfl z⟩
theorem Cgt.on {H0 H1 : Hp} {e c T d0 : Addr} {j : Nat} {d : Option Addr} (f1 : H1 e = some (XF e c d d0)) (f4 : ∀ dx, d = some dx → H1 dx = some (.xd [("line", .int 0)])) (f5 : j ≠ 0 → d ≠ none) (g : Same H0 H1) (he : H0 e = none) (hT : H1 T = none) (hTe : T ≠ e) :
    Same H0 (upd (upd H1 T (XT T)) e (XF e c d T)) ∧ Cgt (upd (upd H1 T (XT T)) e (XF e c d T)) e c j := by
  refine ⟨fun p u h => ?_, ⟨d, flown_new hTe, fun y z => ?_, f5⟩⟩
  · rw [upd_ne (ne_of_none h he), upd_ne (ne_of_none (g _ _ h) hT)]
    exact g _ _ h
  · have hy := f4 y z
    rw [upd_ne (ne_of hy f1 (by intro z; cases z)), upd_ne (ne_of_none hy hT)]
    exact hy
theorem Cgt.up {H0 H1 : Hp} {e c : Addr} {j : Nat} {E : XK} (h : Cgt H1 e c j) (g : Same H0 H1) (he : H0 e = none) (k : ∀ H', Same H0 H' → Cgt H' e c j → E (.ref c) (some e) H') :
    ∃ a C d, Value.ref c = Value.ref C ∧ some e = some a ∧ Flown H1 a C d ∧ ∀ T, H1 T = none → T ≠ a → E (.ref C) (some a) (upd (upd H1 T (XT T)) a (XF a C d T)) := by
  obtain ⟨d, ⟨T0, f1, f2, f3⟩, f4, f5⟩ := h.ex
  refine ⟨e, c, d, rfl, rfl, ⟨T0, f1, f2, f3⟩, fun T hT hTe => ?_⟩
  obtain ⟨h1, h2⟩ := Cgt.on f1 f4 f5 g he hT hTe
  exact k _ h1 h2
inductive IspUponE (C : Addr) (Cs : List Addr) (vs : List V) (H : Hp) (Q : VK) (E : XK) : Prop where
  | mk (x a b c y a2 b2 c2 : Addr) (ts us cs ds : List Str) (rs ss : List Nat) (hh0 : vs = [.ref x, .ref y]) (hh1 : TabB C H x a b c ts cs rs) (hh2 : TabB C H y a2 b2 c2 us ds ss) (hh3 : ts.length ≤ 400) (hh4 : us.length ≤ 400) (hh5 : rs.length + ss.length ≤ 900) (hh6 : (∀ j c, dueJ cs ds ts us 60 = some j → Cs[j]? = some c → ∀ e H', Same H H' → H e = none → Cgt H' e c j → E (.ref c) (some e) H')) (hh7 : (dueJ cs ds ts us 60 = none → ∀ z a3 b3 c3 H', Same H H' → TabB C H' z a3 b3 c3 (ts ++ us) cs (rs ++ ss) → Q (.ref z) H')) : IspUponE C Cs vs H Q E
noncomputable def spUponE (C : Addr) (Cs : List Addr) : Sp := fun vs H Q E => IspUponE C Cs vs H Q E
theorem ok_upon {C_Table : Addr} (T_Table : Txt_Table K C_Table)
    {f_upon : Addr} {fd_upon : FuncData} (F_upon : Fun K "upon" "upon" s_upon f_upon fd_upon)
    {f_Table_columns : Addr} {fd_Table_columns : FuncData} (G_Table_columns : FnOk P w K mg base CX0 1 f_Table_columns fd_Table_columns ["self"] (spTbColumns C_Table)) (b_Table_columns : Binds K fd_Table_columns ["self"] [])
    (h_Table_columns : Meth K C_Table "columns" f_Table_columns)
    {f_names_together : Addr} {fd_names_together : FuncData} (G_names_together : FnOk P w K mg base (CXE P w) 3 f_names_together fd_names_together ["first", "second", "most"] (spNamesE [C_Unlike, C_Twice, C_TooLarge])) (b_names_together : Binds K fd_names_together ["first", "second", "most"] []) (k_names_together : PySem.W.keepIn K (.ref f_names_together) = true) (m_names_together : mg "names_together" = some (.ref f_names_together))
    {f_Table_things : Addr} {fd_Table_things : FuncData} (G_Table_things : FnOk P w K mg base CX0 1 f_Table_things fd_Table_things ["self"] (spTbThings C_Table)) (b_Table_things : Binds K fd_Table_things ["self"] [])
    (h_Table_things : Meth K C_Table "things" f_Table_things)
    {f_Table_init : Addr} {fd_Table_init : FuncData} (G_Table_init : FnOk P w K mg base CX0 1 f_Table_init fd_Table_init ["self", "things", "columns", "rows"] (spTbInit K C_Table)) (b_Table_init : Binds K fd_Table_init ["self", "things", "columns", "rows"] [])
    {f_Table_rows : Addr} {fd_Table_rows : FuncData} (G_Table_rows : FnOk P w K mg base CX0 1 f_Table_rows fd_Table_rows ["self"] (spTbRows C_Table)) (b_Table_rows : Binds K fd_Table_rows ["self"] [])
    (h_Table_rows : Meth K C_Table "rows" f_Table_rows)
    (m_Unlike : mg "Unlike" = some (.ref C_Unlike))
    (M_Unlike : XMk0 K C_Unlike)
    (R_Unlike : XRs K C_Unlike)
    (M_Table : Mk K C_Table f_Table_init) (m_Table : mg "Table" = some (.ref C_Table))
    {tk_MOST_THINGS : Tok} (c_MOST_THINGS : mg "MOST_THINGS" = some (.int 60 tk_MOST_THINGS)) :
    FnOk P w K mg base (CXE P w) 5 f_upon fd_upon ["one", "other"] (spUponE C_Table [C_Unlike, C_Twice, C_TooLarge]) := by
  refine F_upon.okE sc_upon (fun vs H Q E h => ?_) (fun cdv A outer s H vs Q E hr h => ?_)
  · obtain ⟨x, a, b, c, y, a2, b2, c2, ts, us, cs, ds, rs, ss, rfl, t, u, hl, hm, hl2, qE, q⟩ := h
    rfl
  obtain ⟨x, a, b, c, y, a2, b2, c2, ts, us, cs, ds, rs, ss, rfl, t, u, hl, hm, hl2, qE, q⟩ := h
  refine ⟨_, (pss_cons (ps_if (pt_cmpR (op_neLK (K := K) rfl hr.units0) (pe_meth0 (pv 0) T_Table.cl h_Table_columns G_Table_columns (hr.mono (by decide)) b_Table_columns .nil pass0) (pe_meth0 (pv 1) T_Table.cl h_Table_columns G_Table_columns (hr.mono (by decide)) b_Table_columns .nil pass0) (nomark _)) (pss_one (ps_raise R_Unlike (pe_makeX0 M_Unlike rfl m_Unlike))) pss_nil)
      (pss_cons (ps_set (i := 2) sc_upon.nd rfl (Or.inl rfl) (pe_call G_names_together (hr.mono (by decide)) rfl m_names_together k_names_together b_names_together .nil passE (pa_cons (pe_meth0 (pv 0) T_Table.cl h_Table_things G_Table_things (hr.mono (by decide)) b_Table_things .nil pass0) (pa_cons (pe_meth0 (pv 1) T_Table.cl h_Table_things G_Table_things (hr.mono (by decide)) b_Table_things .nil pass0) (pa_cons (pe_glob (v := .int 60) rfl c_MOST_THINGS ⟨_, rfl⟩) pa_nil)))))
      (pss_one (ps_ret (pe_make M_Table G_Table_init (hr.mono (by decide)) rfl m_Table b_Table_init .nil pass0 (pa_cons (pv 2) (pa_cons (pe_meth0 (pv 0) T_Table.cl h_Table_columns G_Table_columns (hr.mono (by decide)) b_Table_columns .nil pass0) (pa_cons (pe_op op_cat (pe_meth0 (pv 0) T_Table.cl h_Table_rows G_Table_rows (hr.mono (by decide)) b_Table_rows .nil pass0) (pe_meth0 (pv 1) T_Table.cl h_Table_rows G_Table_rows (hr.mono (by decide)) b_Table_rows .nil pass0)) pa_nil)))))))), ?_⟩
  obtain ⟨dx, hx⟩ := t.ins
  obtain ⟨dy, hy⟩ := u.ins
  refine ⟨_, rfl, x, dx, _, rfl, hx, rfl, x, a, b, c, ts, cs, rs, rfl, t, fun r1 hr1 => ?_⟩
  have n_H1 := same_new hr1 (.lst (cs.map V.str))
  have e_H1 : (upd H r1 (.lst (cs.map V.str))) r1 = some (.lst (cs.map V.str)) := upd_same
  generalize upd H r1 (.lst (cs.map V.str)) = H1 at n_H1 e_H1
  refine ⟨_, rfl, y, dy, _, rfl, n_H1 _ _ hy, rfl, y, a2, b2, c2, us, ds, ss, rfl, u.same n_H1, fun r2 hr2 => ?_⟩
  have n_H2 := same_new hr2 (.lst (ds.map V.str))
  have e_H2 : (upd H1 r2 (.lst (ds.map V.str))) r2 = some (.lst (ds.map V.str)) := upd_same
  generalize upd H1 r2 (.lst (ds.map V.str)) = H2 at n_H2 e_H2
  have g2 := n_H1.trans n_H2
  refine ⟨r1, r2, _, _, rfl, rfl, SqL.of (n_H2 _ _ e_H1), SqL.of e_H2, strs_flat cs, strs_flat ds, _, rfl, ?_⟩
  rw [eqVs_strs]
  unfold dueJ at qE q
  by_cases e : cs = ds
  case neg =>
    rw [if_neg e] at qE
    rw [decide_eq_false e]
    exact iteT fun e he => ⟨e, none, rfl, upd_same, fun T hT hTe => qE 0 _ rfl rfl e _ (g2.trans (same_raise he hT)) (g2.free he) (cgt_new hTe)⟩
  subst e
  rw [if_pos rfl] at qE q
  rw [decide_eq_true rfl]
  refine iteF ?_
  refine ⟨_, rfl, x, dx, _, rfl, g2 _ _ hx, rfl, x, a, b, c, ts, cs, rs, rfl, t.same g2, fun r3 hr3 => ?_⟩
  have n_H3 := same_new hr3 (.lst (ts.map V.str))
  have e_H3 : (upd H2 r3 (.lst (ts.map V.str))) r3 = some (.lst (ts.map V.str)) := upd_same
  generalize upd H2 r3 (.lst (ts.map V.str)) = H3 at n_H3 e_H3
  have g3 := g2.trans n_H3
  refine ⟨_, rfl, y, dy, _, rfl, g3 _ _ hy, rfl, y, a2, b2, c2, us, cs, ss, rfl, u.same g3, fun r4 hr4 => ?_⟩
  have n_H4 := same_new hr4 (.lst (us.map V.str))
  have e_H4 : (upd H3 r4 (.lst (us.map V.str))) r4 = some (.lst (us.map V.str)) := upd_same
  generalize upd H3 r4 (.lst (us.map V.str)) = H4 at n_H4 e_H4
  have g4 := g3.trans n_H4
  refine ⟨r3, r4, ts, us, 60, rfl, n_H4 _ _ e_H3, e_H4, hl, hm, (fun j c hd hc e H' g he hF => hF.up (g4.trans g) (g4.free he) fun H2 g2 hF2 => qE j c hd hc e H2 g2 (g4.free he) hF2), fun hnone r5 H5 k5 _ h5 => ?_⟩
  have q := q hnone
  clear qE
  have g5 := g4.trans k5
  refine ⟨_, rfl, _, rfl, x, dx, _, rfl, g5 _ _ hx, rfl, x, a, b, c, ts, cs, rs, rfl, t.same g5, fun r6 hr6 => ?_⟩
  have n_H6 := same_new hr6 (.lst (cs.map V.str))
  have e_H6 : (upd H5 r6 (.lst (cs.map V.str))) r6 = some (.lst (cs.map V.str)) := upd_same
  generalize upd H5 r6 (.lst (cs.map V.str)) = H6 at n_H6 e_H6
  have g6 := g5.trans n_H6
  refine ⟨_, rfl, x, dx, _, rfl, g6 _ _ hx, rfl, x, a, b, c, ts, cs, rs, rfl, t.same g6, fun r7 hr7 => ?_⟩
  have n_H7 := same_new hr7 (.lst (rs.map nv))
  have e_H7 : (upd H6 r7 (.lst (rs.map nv))) r7 = some (.lst (rs.map nv)) := upd_same
  generalize upd H6 r7 (.lst (rs.map nv)) = H7 at n_H7 e_H7
  have g7 := g6.trans n_H7
  refine ⟨_, rfl, y, dy, _, rfl, g7 _ _ hy, rfl, y, a2, b2, c2, us, cs, ss, rfl, u.same g7, fun r8 hr8 => ?_⟩
  have n_H8 := same_new hr8 (.lst (ss.map nv))
  have e_H8 : (upd H7 r8 (.lst (ss.map nv))) r8 = some (.lst (ss.map nv)) := upd_same
  generalize upd H7 r8 (.lst (ss.map nv)) = H8 at n_H8 e_H8
  have g8 := g7.trans n_H8
  refine ⟨r7, r8, _, _, rfl, rfl, n_H8 _ _ e_H7, e_H8, by rw [List.length_map, List.length_map]; exact Nat.le_of_lt (line1000 (by omega)), fun r9 hr9 => ?_⟩
  rw [← List.map_append]
  have n_H9 := same_new hr9 (.lst ((rs ++ ss).map nv))
  have e_H9 : (upd H8 r9 (.lst ((rs ++ ss).map nv))) r9 = some (.lst ((rs ++ ss).map nv)) := upd_same
  generalize upd H8 r9 (.lst ((rs ++ ss).map nv)) = H9 at n_H9 e_H9
  have n69 := n_H7.trans (n_H8.trans n_H9)
  have h6 := n69 _ _ e_H6
  have h59 := n69 _ _ (n_H6 _ _ h5)
  intro z dz nz ndz nez
  have gz : Same H9 (upd (upd H9 dz (.own z)) z (.ins C_Table dz [])) := made_same nz ndz Kept.refl
  refine ⟨z, dz, r5, r6, r9, ts ++ us, cs, rs ++ ss, rfl, upd_same, SqL.of (gz _ _ h59), SqL.of (gz _ _ h6), SqL.of (gz _ _ e_H9), fun H10 a3 b3 c3 _ _ _ tz k10 => ⟨rfl, ?_⟩⟩
  exact q z a3 b3 c3 H10 ((g8.trans n_H9).trans (made_same nz ndz k10)) tz
theorem ok_law_cell_at {f_law_cell_at : Addr} {fd_law_cell_at : FuncData} (F_law_cell_at : Fun K "_law_cell_at" "_law_cell_at" s_law_cell_at f_law_cell_at fd_law_cell_at)
    (z_len : mg "len" = none) :
    FnOk P w K mg base CX0 1 f_law_cell_at fd_law_cell_at ["_law_script", "_law_k"] (spCell K) := by
  refine F_law_cell_at.ok sc_law_cell_at (fun vs H Q E h => ?_) (fun cdv A outer s H vs Q E hr h => ?_)
  · obtain ⟨a, ns, k, rfl, hS, q⟩ := h
    rfl
  obtain ⟨a, ns, k, rfl, hS, q⟩ := h
  refine ⟨_, (pss_cons (ps_if (pt_cmpR op_lt (pv 1) (pe_callB (len_seqK (K := K) rfl) rfl z_len PySem.boot_len (pa_cons (pv 0) pa_nil)) (nomark _)) (pss_one (ps_ret (pe_ix (ix_listK (K := K) rfl) (pv 0) (pv 1) (by intro _ _; rfl)))) pss_nil)
      (pss_one (ps_ret pe_int))), ?_⟩
  refine ⟨_, rfl, _, rfl, a, _, rfl, .inl hS, _, _, rfl, rfl, _, rfl, ?_⟩
  rw [List.length_map]
  refine ite2 (fun c => ?_) (fun c => ?_)
  · have c' : (k : Int) < (ns.length : Int) := of_decide_eq_true c
    have hk : k < ns.length := by omega
    refine ⟨_, rfl, _, rfl, a, _, _, _, rfl, rfl, hS, atI_map hk, ?_⟩
    rw [getD_lt hk] at q
    exact q
  · have c' : ¬ (k : Int) < (ns.length : Int) := of_decide_eq_false (Bool.eq_false_iff.mpr c)
    rw [getD_ge (by omega)] at q
    exact q
inductive IspMixed (vs : List V) (H : Hp) (Q : VK) (E : XK) : Prop where
  | mk (n : Int) (k : Nat) (hh0 : vs = [.int n, .int k]) (hh1 : k ≤ 1000) (hh2 : ∀ r : Nat, r < 998244353 → Q (nv r) H) : IspMixed vs H Q E
noncomputable def spMixed : Sp := fun vs H Q E => IspMixed vs H Q E
theorem ok_law_mixed {f_law_mixed : Addr} {fd_law_mixed : FuncData} (F_law_mixed : Fun K "_law_mixed" "_law_mixed" s_law_mixed f_law_mixed fd_law_mixed) :
    FnOk P w K mg base CX0 1 f_law_mixed fd_law_mixed ["_law_number", "_law_k"] (spMixed) := by
  refine F_law_mixed.ok sc_law_mixed (fun vs H Q E h => ?_) (fun cdv A outer s H vs Q E hr h => ?_)
  · obtain ⟨n, k, rfl, hk, q⟩ := h
    rfl
  obtain ⟨n, k, rfl, hk, q⟩ := h
  refine ⟨_, (pss_cons (ps_set (i := 2) sc_law_mixed.nd rfl (Or.inl rfl) (pe_op op_mod (pe_op op_mul (pe_op op_add (pe_op op_add (pe_op op_mod (pv 0) pe_int) (pe_op op_mul pe_int (pv 1))) pe_int) pe_int) pe_int))
      (pss_one (ps_ret (pe_op op_mod (pe_op op_mul (pv 2) (pe_op op_add (pe_op op_add (pe_op op_mod (pv 2) pe_int) (pv 1)) pe_int)) pe_int)))), ?_⟩
  obtain ⟨m, em, hm⟩ := emod_nat n (n := 1000000007) (by decide)
  have em : n % 1000000007 = (m : Int) := em
  refine ⟨_, rfl, _, _, rfl, rfl, (by show (0 : Int) < 1000000007; decide), _, rfl, _, _, rfl, rfl, .inl ⟨by decide, by decide⟩, _, _, rfl, rfl, _, _, rfl, rfl, _, _, rfl, rfl, .inr ⟨by decide, by decide⟩, _, _, rfl, rfl, (by show (0 : Int) < 2147483647; decide), ?_⟩
  try dsimp only
  obtain ⟨t, et, ht⟩ := emod_nat ((n % 1000000007 + 7 * (k : Int) + 1) * 48271) (n := 2147483647) (by decide)
  have et : ((n % 1000000007 + 7 * (k : Int) + 1) * 48271) % 2147483647 = (t : Int) := et
  rw [et]
  have h64 : (2 : Int) ^ 64 = 18446744073709551616 := by decide
  refine ⟨_, rfl, _, rfl, _, _, rfl, rfl, (by show (0 : Int) < 1009; decide), _, rfl, _, _, rfl, rfl, _, _, rfl, rfl, _, _, rfl, rfl, .inl ⟨by omega, by omega⟩, _, _, rfl, rfl, (by show (0 : Int) < 998244353; decide), ?_⟩
  try dsimp only
  obtain ⟨r, er, hr⟩ := emod_nat ((t : Int) * ((t : Int) % 1009 + (k : Int) + 3)) (n := 998244353) (by decide)
  have er : ((t : Int) * ((t : Int) % 1009 + (k : Int) + 3)) % 998244353 = (r : Int) := er
  rw [er]
  exact q r hr
theorem gn_step {i : Nat} {v : V} {σ : St} {H : Hp} {k : St → Hp → Prop} (h : k (σ.set i (some v)) H) : gName i v σ H k := h
theorem set_step {v : V} {i : Nat} {u : TS} {D : Ends} {σ : St} {H : Hp} (h : u D (σ.set i (some v)) H) : tSeq (tAsg (tC v) (gName i)) u D σ H := h
theorem cut_len (ns : List Int) {a b : Nat} : (cutV (ns.map V.int) (some (a : Int)) (some (b : Int))).length ≤ b - a := by
  unfold cutV
  rw [List.length_take, HT.sIx_nat, HT.sIx_nat]
  omega
inductive IspName (vs : List V) (H : Hp) (Q : VK) (E : XK) : Prop where
  | mk (cell : Int) (k c : Nat) (hh0 : vs = [.int cell, .int k]) (hh1 : k ≤ 1000) (hh2 : cell % 1000003 = (c : Int)) (hh3 : ∀ H', Same H H' → Q (.str (nameS c k)) H') : IspName vs H Q E
noncomputable def spName : Sp := fun vs H Q E => IspName vs H Q E
theorem set_strs (l : List Nat) (j n : Nat) : (((l.map oneS).map V.str).set j (.str ⟨#[n]⟩)) = ((l.set j n).map oneS).map V.str := by rw [List.map_set, List.map_set]; rfl
theorem ok_law_name_by {f_law_name_by : Addr} {fd_law_name_by : FuncData} (F_law_name_by : Fun K "_law_name_by" "_law_name_by" s_law_name_by f_law_name_by fd_law_name_by)
    (z_range : mg "range" = none) :
    FnOk P w K mg base CX0 1 f_law_name_by fd_law_name_by ["_law_cell", "_law_k"] (spName) := by
  refine F_law_name_by.ok sc_law_name_by (fun vs H Q E h => ?_) (fun cdv A outer s H vs Q E hr h => ?_)
  · obtain ⟨cell, k, c, rfl, hk, ec, q⟩ := h
    rfl
  obtain ⟨cell, k, c, rfl, hk, ec, q⟩ := h
  refine ⟨_, (pss_cons (ps_set (i := 2) sc_law_name_by.nd rfl (Or.inr rfl) pe_str)
      (pss_cons (ps_set (i := 0) sc_law_name_by.nd rfl (Or.inr rfl) (pe_op op_mod (pv 0) pe_int))
      (pss_cons (ps_if (PW.pt (pw_and (pt_cmpR op_eq (pe_op op_mod (pe_op op_fdiv (pv 0) pe_int) pe_int) pe_int (nomark _)) (pw_and1 (pt_cmpR op_lt (pv 1) pe_int (nomark _))))) (pss_one (ps_ret (pe_ix ix_str (pv 2) (pe_op op_mod (pe_op op_add (pv 1) (pe_op op_fdiv (pv 0) pe_int)) pe_int) (by intro _ _; rfl)))) pss_nil)
      (pss_cons (ps_set (i := 3) sc_law_name_by.nd rfl (Or.inl rfl) (pe_op op_add pe_int (pe_op op_mod (pe_op op_add (pv 0) (pe_op op_mul (pv 1) (pe_op op_mod (pe_op op_fdiv (pv 0) pe_int) pe_int))) pe_int)))
      (pss_cons (ps_set (i := 4) sc_law_name_by.nd rfl (Or.inl rfl) (pe_op op_mod (pe_op op_fdiv (pv 0) pe_int) (pv 3)))
      (pss_cons (ps_setcomp (i := 5) (own := ["_law_x"]) rfl sc_law_name_by.nd rfl (Or.inl rfl) (pi_range1 rfl z_range (pa_cons (pv 3) pa_nil)) (fun _ _ _ _ _ => (pg_name (i := 0) nd_law_name_by_1 rfl (Or.inl rfl))) (fun _ _ _ _ _ => pif_nil) (fun _ _ _ _ _ => (pe_ix ix_str (pv 3) (pe_op op_mod (pe_op op_fdiv (pv 1) pe_int) pe_int) (by intro _ _; rfl))))
      (pss_cons (ps_asg (pe_ix ix_str (pv 2) (pe_op op_mod (pe_op op_fdiv (pv 1) pe_int) pe_int) (by intro _ _; rfl)) (pg_sub (pv 5) (pv 4) set_list))
      (pss_cons (ps_asg (pe_ix ix_str (pv 2) (pe_op op_mod (pv 1) pe_int) (by intro _ _; rfl)) (pg_sub (pv 5) (pe_op op_mod (pe_op op_add (pv 4) pe_int) (pv 3)) set_list))
      (pss_one (ps_ret (pe_bmK (K := K) rfl PySem.F.plainAttrs_str PySem.F.slot_str_join PySem.F.type_str_join (mt_join (K := K) rfl) pe_str (pa_cons (pv 5) pa_nil)))))))))))), ?_⟩
  have hc : c < 1000003 := by have := Int.emod_lt_of_pos cell (show (0 : Int) < 1000003 by decide); omega
  refine ⟨_, rfl, _, _, rfl, rfl, (by show (0 : Int) < 1000003; decide), ?_⟩
  try dsimp only
  rw [ec]
  refine gn_step ?_
  unfold nameS at q
  refine if_known (decide (c / 5 % 4 = 1 ∧ k < 26)) (fun Q' hQ => ?_) ?_
  · refine ⟨_, rfl, _, _, rfl, rfl, ⟨by decide, by decide⟩, _, _, rfl, rfl, (by show (0 : Int) < 4; decide), rfl, _, rfl, ?_⟩
    by_cases h1 : c / 5 % 4 = 1
    · rw [decide_eq_true (show V.int ((c : Int) / 5 % 4) = V.int 1 from congrArg V.int (by omega))]
      refine iteT ⟨_, rfl, _, _, rfl, rfl, _, rfl, ?_⟩
      have e : decide ((k : Int) < 26) = decide (c / 5 % 4 = 1 ∧ k < 26) := by rw [Bool.eq_iff_iff, decide_eq_true_eq, decide_eq_true_eq]; omega
      rw [e]; exact hQ
    · rw [decide_eq_false (show ¬ V.int ((c : Int) / 5 % 4) = V.int 1 from fun z => h1 (by have := V.int.inj z; omega))]
      rw [decide_eq_false (fun z => h1 z.1)] at hQ
      exact iteF hQ
  by_cases hA : c / 5 % 4 = 1 ∧ k < 26
  · rw [if_pos hA] at q
    rw [decide_eq_true hA]
    have e1 : ((k : Int) + (c : Int) / 20) % 26 = (((k + c / 20) % 26 : Nat) : Int) := rfl
    refine iteT ⟨_, rfl, _, rfl, _, rfl, _, _, rfl, rfl, ⟨by decide, by decide⟩, _, _, rfl, rfl, _, _, rfl, rfl, (by show (0 : Int) < 26; decide), abcS, _, _, rfl, rfl, abcS_len, (by rw [e1]; exact abcS_at (Nat.mod_lt _ (by decide))), q _ (Same.refl _)⟩
  rw [if_neg hA] at q
  rw [decide_eq_false hA]
  refine iteF ⟨_, rfl, _, rfl, _, rfl, _, _, rfl, rfl, ⟨by decide, by decide⟩, _, _, rfl, rfl, (by show (0 : Int) < 2; decide), _, _, rfl, rfl, .inl ⟨by omega, by omega⟩, _, _, rfl, rfl, _, _, rfl, rfl, (by show (0 : Int) < 7; decide), _, _, rfl, rfl, ?_⟩
  have hs2 := sizeS_two c k
  have hs8 := sizeS_le c k
  have es : (2 : Int) + ((c : Int) + (k : Int) * ((c : Int) / 7 % 2)) % 7 = ((sizeS c k : Nat) : Int) := rfl
  try dsimp only
  rw [es]
  have hp : c / 14 % sizeS c k < sizeS c k := Nat.mod_lt _ (by omega)
  refine ⟨_, rfl, _, _, rfl, rfl, ⟨by decide, by decide⟩, _, rfl, _, _, rfl, rfl, (by omega), ?_⟩
  have ep : (c : Int) / 14 % ((sizeS c k : Nat) : Int) = ((c / 14 % sizeS c k : Nat) : Int) := rfl
  try dsimp only
  rw [ep]
  unfold codesS at q
  generalize sizeS c k = sz at hs2 hs8 hp q es
  generalize c / 14 % sz = pl at hp q ep
  refine ⟨_, rfl, _, rfl, by omega, by omega, ?_⟩
  rw [Int.toNat_natCast]
  have e2 : (c : Int) / 98 % 26 = ((c / 98 % 26 : Nat) : Int) := rfl
  refine comp_range (k := sz) (fun i ys H2 => ys = ((List.replicate i (97 + c / 98 % 26)).map oneS).map V.str ∧ H = H2) (line1000 (by omega)) ⟨rfl, rfl⟩ (fun i ys H2 hi h => by rw [h.1, List.length_map, List.length_map, List.length_replicate]; exact Nat.le_refl _) (fun i ys H2 hi h => ?_) (fun ys H2 h => ?_)
  · obtain ⟨rfl, rfl⟩ := h
    refine ⟨rfl, _, rfl, _, rfl, _, _, rfl, rfl, ⟨by decide, by decide⟩, _, _, rfl, rfl, (by show (0 : Int) < 26; decide), abcS, _, _, rfl, rfl, abcS_len, (by rw [e2]; exact abcS_at (Nat.mod_lt _ (by decide))), ?_, rfl⟩
    rw [List.replicate_succ', List.map_append, List.map_append]; rfl
  obtain ⟨rfl, rfl⟩ := h
  intro p hp1
  have n_H1 := same_new hp1 (.lst (((List.replicate sz (97 + c / 98 % 26)).map oneS).map V.str))
  have e_H1 : (upd H p (.lst (((List.replicate sz (97 + c / 98 % 26)).map oneS).map V.str))) p = some (.lst (((List.replicate sz (97 + c / 98 % 26)).map oneS).map V.str)) := upd_same
  generalize upd H p (.lst (((List.replicate sz (97 + c / 98 % 26)).map oneS).map V.str)) = H1 at n_H1 e_H1
  have e3 : (k : Int) / 26 % 26 = ((k / 26 % 26 : Nat) : Int) := rfl
  have e4 : (k : Int) % 26 = ((k % 26 : Nat) : Int) := rfl
  refine ⟨_, rfl, _, rfl, _, _, rfl, rfl, ⟨by decide, by decide⟩, _, _, rfl, rfl, (by show (0 : Int) < 26; decide), abcS, _, _, rfl, rfl, abcS_len, (by rw [e3]; exact abcS_at (Nat.mod_lt _ (by decide))), _, rfl, _, rfl, p, _, _, pl, rfl, rfl, e_H1, (by rw [List.length_map, List.length_map, List.length_replicate]; exact ixN_nat hp), ?_⟩
  have g2 : Same H (upd H1 p (.lst ((((List.replicate sz (97 + c / 98 % 26)).set pl (97 + k / 26 % 26)).map oneS).map V.str))) := same_upd n_H1 hp1 _
  have h2 : (upd H1 p (.lst ((((List.replicate sz (97 + c / 98 % 26)).set pl (97 + k / 26 % 26)).map oneS).map V.str))) p = _ := upd_same
  try dsimp only
  rw [set_strs (List.replicate sz (97 + c / 98 % 26)) pl (97 + k / 26 % 26)]
  generalize upd H1 p (.lst ((((List.replicate sz (97 + c / 98 % 26)).set pl (97 + k / 26 % 26)).map oneS).map V.str)) = H2 at g2 h2
  have e5 : ((pl : Int) + 1) % ((sz : Nat) : Int) = (((pl + 1) % sz : Nat) : Int) := rfl
  refine ⟨_, rfl, _, rfl, _, _, rfl, rfl, (by show (0 : Int) < 26; decide), abcS, _, _, rfl, rfl, abcS_len, (by rw [e4]; exact abcS_at (Nat.mod_lt _ (by decide))), _, rfl, _, rfl, _, _, rfl, rfl, _, rfl, _, _, rfl, rfl, (by omega), p, _, _, (pl + 1) % sz, rfl, rfl, h2, (by rw [e5, List.length_map, List.length_map, List.length_set, List.length_replicate]; exact ixN_nat (Nat.mod_lt _ (by omega))), ?_⟩
  have h3 : (upd H2 p (.lst (((((List.replicate sz (97 + c / 98 % 26)).set pl (97 + k / 26 % 26)).set ((pl + 1) % sz) (97 + k % 26)).map oneS).map V.str))) p = _ := upd_same
  try dsimp only
  rw [set_strs _ ((pl + 1) % sz) (97 + k % 26)]
  refine ⟨rfl, _, rfl, _, p, _, rfl, rfl, SqL.of h3, ones_sum _ (codes_ones _) (by rw [List.length_map, List.length_set, List.length_set, List.length_replicate]; omega), q _ (same_upd g2 hp1 _)⟩
theorem ok_law_whole {f_law_whole : Addr} {fd_law_whole : FuncData} (F_law_whole : Fun K "_law_whole" "_law_whole" s_law_whole f_law_whole fd_law_whole)
    (z_isinstance : mg "isinstance" = none)
    (z_bool : mg "bool" = none)
    (z_int : mg "int" = none) :
    FnOk P w K mg base CX0 1 f_law_whole fd_law_whole ["_law_found"] (spWhole) := by
  refine F_law_whole.ok sc_law_whole (fun vs H Q E h => ?_) (fun cdv A outer s H vs Q E hr h => ?_)
  · obtain ⟨i, rfl, q⟩ := h
    rfl
  obtain ⟨i, rfl, q⟩ := h
  refine ⟨_, (pss_one (ps_ret (pe_and (pe_callB (isiK (K := K) rfl) rfl z_isinstance b_isinstance (pa_cons (pv 0) (pa_cons (pe_ty rfl z_int b_int) pa_nil))) (pe_one (pe_not (pe_callB (isiK (K := K) rfl) rfl z_isinstance b_isinstance (pa_cons (pv 0) (pa_cons (pe_ty rfl z_bool b_bool) pa_nil)))))))), ?_⟩
  refine ⟨_, rfl, _, _, _, _, _, rfl, rfl, TyOf.int i, rfl, _, rfl, ?_⟩
  refine ⟨_, rfl, _, _, _, _, _, rfl, rfl, TyOf.int i, rfl, _, rfl, ?_⟩
  exact q
inductive IspTexts (K : PySem.W.Frag) (vs : List V) (H : Hp) (Q : VK) (E : XK) : Prop where
  | mk (p q : Addr) (ss : List Str) (hh0 : vs = [.ref p, .ref q]) (hh1 : H p = some (.lst (ss.map V.str))) (hh2 : SqL K H q (ss.map V.str)) (hh3 : ss.length ≤ 1000) (hh4 : Q (.bl true) H) : IspTexts K vs H Q E
noncomputable def spTexts (K : PySem.W.Frag) : Sp := fun vs H Q E => IspTexts K vs H Q E
theorem ok_law_texts {f_law_texts : Addr} {fd_law_texts : FuncData} (F_law_texts : Fun K "_law_texts" "_law_texts" s_law_texts f_law_texts fd_law_texts)
    (z_len : mg "len" = none)
    (z_isinstance : mg "isinstance" = none)
    (z_list : mg "list" = none)
    (z_range : mg "range" = none)
    (z_str : mg "str" = none) :
    FnOk P w K mg base CX0 1 f_law_texts fd_law_texts ["_law_found", "_law_due"] (spTexts K) := by
  refine F_law_texts.ok sc_law_texts (fun vs H Q E h => ?_) (fun cdv A outer s H vs Q E hr h => ?_)
  · obtain ⟨p, s, ss, rfl, hp, hs, hl, q⟩ := h
    rfl
  obtain ⟨p, s, ss, rfl, hp, hs, hl, q⟩ := h
  refine ⟨_, (pss_cons (ps_if (PW.pt (pw_or (pt_not (pt_val (pe_callB (isiK (K := K) rfl) rfl z_isinstance b_isinstance (pa_cons (pv 0) (pa_cons (pe_ty rfl z_list b_list) pa_nil))))) (pw_or1 (pt_cmpR op_ne (pe_callB (len_seqK (K := K) rfl) rfl z_len PySem.boot_len (pa_cons (pv 0) pa_nil)) (pe_callB (len_seqK (K := K) rfl) rfl z_len PySem.boot_len (pa_cons (pv 1) pa_nil)) (nomark _))))) (pss_one (ps_ret pe_bl)) pss_nil)
      (pss_cons (ps_for PassesOwn.never rfl (pi_range1 rfl z_range (pa_cons (pe_callB (len_seqK (K := K) rfl) rfl z_len PySem.boot_len (pa_cons (pv 1) pa_nil)) pa_nil)) (pg_name (i := 2) sc_law_texts.nd rfl (Or.inl rfl)) (pss_one (ps_if (PW.pt (pw_or (pt_not (pt_val (pe_callB (isiK (K := K) rfl) rfl z_isinstance b_isinstance (pa_cons (pe_ix (ix_listK (K := K) rfl) (pv 0) (pv 2) (by intro _ _; rfl)) (pa_cons (pe_ty rfl z_str b_str) pa_nil))))) (pw_or1 (pt_cmpR op_ne (pe_ix (ix_listK (K := K) rfl) (pv 0) (pv 2) (by intro _ _; rfl)) (pe_ix (ix_listK (K := K) rfl) (pv 1) (pv 2) (by intro _ _; rfl)) (nomark _))))) (pss_one (ps_ret pe_bl)) pss_nil)))
      (pss_one (ps_ret pe_bl)))), ?_⟩
  refine ⟨_, rfl, _, _, _, _, _, rfl, rfl, TyOf.lst hp, rfl, _, rfl, iteF ?_⟩
  refine ⟨_, rfl, p, _, rfl, .inl (SqL.of hp), _, rfl, s, _, rfl, .inl hs, rfl, _, rfl, iteNS rfl ?_⟩
  refine ⟨_, rfl, s, _, rfl, .inl hs, _, rfl, by omega, by rw [List.length_map]; omega, ?_⟩
  rw [List.length_map, Int.toNat_natCast]
  refine for_range (n := ss.length) (fun i σ H2 => ∃ v, σ = [some (.ref p), some (.ref s), v] ∧ H = H2) ⟨_, rfl, rfl⟩ ?_ ?_
  · rintro i σ H2 hi ⟨v, rfl, rfl⟩
    have e : atI (ss.map V.str) (0 + (i : Int)) = some (V.str ss[i]) := by rw [Int.zero_add]; exact atI_map hi
    refine ⟨_, rfl, _, rfl, p, _, _, _, rfl, rfl, SqL.of hp, e, _, _, _, _, _, rfl, rfl, TyOf.str _, rfl, _, rfl, iteF ?_⟩
    refine ⟨_, rfl, _, rfl, p, _, _, _, rfl, rfl, SqL.of hp, e, _, rfl, _, rfl, s, _, _, _, rfl, rfl, hs, e, rfl, _, rfl, iteNS rfl ?_⟩
    exact ⟨_, rfl, rfl⟩
  rintro σ H2 ⟨v, rfl, rfl⟩
  exact q
inductive IspNumbers (K : PySem.W.Frag) (vs : List V) (H : Hp) (Q : VK) (E : XK) : Prop where
  | mk (p q : Addr) (rs : List Nat) (hh0 : vs = [.ref p, .ref q]) (hh1 : H p = some (.lst (rs.map nv))) (hh2 : SqL K H q (rs.map nv)) (hh3 : rs.length ≤ 1000) (hh4 : Q (.bl true) H) : IspNumbers K vs H Q E
noncomputable def spNumbers (K : PySem.W.Frag) : Sp := fun vs H Q E => IspNumbers K vs H Q E
theorem ok_law_numbers {f_law_numbers : Addr} {fd_law_numbers : FuncData} (F_law_numbers : Fun K "_law_numbers" "_law_numbers" s_law_numbers f_law_numbers fd_law_numbers)
    {f_law_whole : Addr} {fd_law_whole : FuncData} (G_law_whole : FnOk P w K mg base CX0 1 f_law_whole fd_law_whole ["_law_found"] (spWhole)) (b_law_whole : Binds K fd_law_whole ["_law_found"] []) (k_law_whole : PySem.W.keepIn K (.ref f_law_whole) = true) (m_law_whole : mg "_law_whole" = some (.ref f_law_whole))
    (z_len : mg "len" = none)
    (z_isinstance : mg "isinstance" = none)
    (z_list : mg "list" = none)
    (z_range : mg "range" = none) :
    FnOk P w K mg base CX0 2 f_law_numbers fd_law_numbers ["_law_found", "_law_due"] (spNumbers K) := by
  refine F_law_numbers.ok sc_law_numbers (fun vs H Q E h => ?_) (fun cdv A outer s H vs Q E hr h => ?_)
  · obtain ⟨p, s, rs, rfl, hp, hs, hl, q⟩ := h
    rfl
  obtain ⟨p, s, rs, rfl, hp, hs, hl, q⟩ := h
  refine ⟨_, (pss_cons (ps_if (PW.pt (pw_or (pt_not (pt_val (pe_callB (isiK (K := K) rfl) rfl z_isinstance b_isinstance (pa_cons (pv 0) (pa_cons (pe_ty rfl z_list b_list) pa_nil))))) (pw_or1 (pt_cmpR op_ne (pe_callB (len_seqK (K := K) rfl) rfl z_len PySem.boot_len (pa_cons (pv 0) pa_nil)) (pe_callB (len_seqK (K := K) rfl) rfl z_len PySem.boot_len (pa_cons (pv 1) pa_nil)) (nomark _))))) (pss_one (ps_ret pe_bl)) pss_nil)
      (pss_cons (ps_for PassesOwn.never rfl (pi_range1 rfl z_range (pa_cons (pe_callB (len_seqK (K := K) rfl) rfl z_len PySem.boot_len (pa_cons (pv 1) pa_nil)) pa_nil)) (pg_name (i := 2) sc_law_numbers.nd rfl (Or.inl rfl)) (pss_one (ps_if (PW.pt (pw_or (pt_not (pt_val (pe_call G_law_whole (hr.mono (by decide)) rfl m_law_whole k_law_whole b_law_whole .nil pass0 (pa_cons (pe_ix (ix_listK (K := K) rfl) (pv 0) (pv 2) (by intro _ _; rfl)) pa_nil)))) (pw_or1 (pt_cmpR op_ne (pe_ix (ix_listK (K := K) rfl) (pv 0) (pv 2) (by intro _ _; rfl)) (pe_ix (ix_listK (K := K) rfl) (pv 1) (pv 2) (by intro _ _; rfl)) (nomark _))))) (pss_one (ps_ret pe_bl)) pss_nil)))
      (pss_one (ps_ret pe_bl)))), ?_⟩
  refine ⟨_, rfl, _, _, _, _, _, rfl, rfl, TyOf.lst hp, rfl, _, rfl, iteF ?_⟩
  refine ⟨_, rfl, p, _, rfl, .inl (SqL.of hp), _, rfl, s, _, rfl, .inl hs, rfl, _, rfl, iteNS rfl ?_⟩
  refine ⟨_, rfl, s, _, rfl, .inl hs, _, rfl, by omega, by rw [List.length_map]; omega, ?_⟩
  rw [List.length_map, Int.toNat_natCast]
  refine for_range (n := rs.length) (fun i σ H2 => ∃ v, σ = [some (.ref p), some (.ref s), v] ∧ H = H2) ⟨_, rfl, rfl⟩ ?_ ?_
  · rintro i σ H2 hi ⟨v, rfl, rfl⟩
    have e : atI (rs.map nv) (0 + (i : Int)) = some (nv rs[i]) := by rw [Int.zero_add]; exact atI_map hi
    refine ⟨_, rfl, _, rfl, p, _, _, _, rfl, rfl, SqL.of hp, e, _, rfl, _, rfl, iteF ?_⟩
    refine ⟨_, rfl, _, rfl, p, _, _, _, rfl, rfl, SqL.of hp, e, _, rfl, _, rfl, s, _, _, _, rfl, rfl, hs, e, rfl, _, rfl, iteNS rfl ?_⟩
    exact ⟨_, rfl, rfl⟩
  rintro σ H2 ⟨v, rfl, rfl⟩
  exact q
noncomputable def kindT : Option Nat → Str
  | none => "none"
  | some 0 => "unlike"
  | some 1 => "twice"
  | some _ => "large"
noncomputable def kindB (u t l : Bool) : Option Nat := if u then some 0 else if t then some 1 else if l then some 2 else none
inductive IspDueK (vs : List V) (H : Hp) (Q : VK) (E : XK) : Prop where
  | mk (u t l : Bool) (hh0 : vs = [.bl u, .bl t, .bl l]) (hh1 : Q (.str (kindT (kindB u t l))) H) : IspDueK vs H Q E
noncomputable def spDueK : Sp := fun vs H Q E => IspDueK vs H Q E
theorem ok_law_due_kind {f_law_due_kind : Addr} {fd_law_due_kind : FuncData} (F_law_due_kind : Fun K "_law_due_kind" "_law_due_kind" s_law_due_kind f_law_due_kind fd_law_due_kind) :
    FnOk P w K mg base CX0 1 f_law_due_kind fd_law_due_kind ["_law_unlike", "_law_twice", "_law_large"] (spDueK) := by
  refine F_law_due_kind.ok sc_law_due_kind (fun vs H Q E h => ?_) (fun cdv A outer s H vs Q E hr h => ?_)
  · obtain ⟨u, t, l, rfl, q⟩ := h
    rfl
  obtain ⟨u, t, l, rfl, q⟩ := h
  refine ⟨_, (pss_cons (ps_if (pt_val (pv 0)) (pss_one (ps_ret pe_str)) pss_nil)
      (pss_cons (ps_if (pt_val (pv 1)) (pss_one (ps_ret pe_str)) pss_nil)
      (pss_cons (ps_if (pt_val (pv 2)) (pss_one (ps_ret pe_str)) pss_nil)
      (pss_one (ps_ret pe_str))))), ?_⟩
  refine ⟨_, rfl, _, rfl, ?_⟩
  cases u with
  | true => exact iteT q
  | false =>
    refine iteF ⟨_, rfl, _, rfl, ?_⟩
    cases t with
    | true => exact iteT q
    | false =>
      refine iteF ⟨_, rfl, _, rfl, ?_⟩
      cases l with
      | true => exact iteT q
      | false => exact iteF q
inductive IspTbAlike (K : PySem.W.Frag) (C : Addr) (vs : List V) (H : Hp) (Q : VK) (E : XK) : Prop where
  | mk (x a b c q1 q2 q3 : Addr) (ts cs : List Str) (rs : List Nat) (hh0 : vs = [.ref x, .ref q1, .ref q2, .ref q3]) (hh1 : TabB C H x a b c ts cs rs) (hh2 : SqL K H q1 (ts.map V.str)) (hh3 : SqL K H q2 (cs.map V.str)) (hh4 : SqL K H q3 (rs.map nv)) (hh5 : ts.length ≤ 900) (hh6 : cs.length ≤ 900) (hh7 : rs.length ≤ 900) (hh8 : ∀ H', Same H H' → Q (.bl true) H') : IspTbAlike K C vs H Q E
noncomputable def spTbAlike (K : PySem.W.Frag) (C : Addr) : Sp := fun vs H Q E => IspTbAlike K C vs H Q E
theorem ok_law_table_alike {C_Table : Addr} (T_Table : Txt_Table K C_Table)
    {f_law_table_alike : Addr} {fd_law_table_alike : FuncData} (F_law_table_alike : Fun K "_law_table_alike" "_law_table_alike" s_law_table_alike f_law_table_alike fd_law_table_alike)
    {f_Table_things : Addr} {fd_Table_things : FuncData} (G_Table_things : FnOk P w K mg base CX0 1 f_Table_things fd_Table_things ["self"] (spTbThings C_Table)) (b_Table_things : Binds K fd_Table_things ["self"] [])
    (h_Table_things : Meth K C_Table "things" f_Table_things)
    {f_Table_columns : Addr} {fd_Table_columns : FuncData} (G_Table_columns : FnOk P w K mg base CX0 1 f_Table_columns fd_Table_columns ["self"] (spTbColumns C_Table)) (b_Table_columns : Binds K fd_Table_columns ["self"] [])
    (h_Table_columns : Meth K C_Table "columns" f_Table_columns)
    {f_Table_rows : Addr} {fd_Table_rows : FuncData} (G_Table_rows : FnOk P w K mg base CX0 1 f_Table_rows fd_Table_rows ["self"] (spTbRows C_Table)) (b_Table_rows : Binds K fd_Table_rows ["self"] [])
    (h_Table_rows : Meth K C_Table "rows" f_Table_rows)
    {f_law_texts : Addr} {fd_law_texts : FuncData} (G_law_texts : FnOk P w K mg base CX0 1 f_law_texts fd_law_texts ["_law_found", "_law_due"] (spTexts K)) (b_law_texts : Binds K fd_law_texts ["_law_found", "_law_due"] []) (k_law_texts : PySem.W.keepIn K (.ref f_law_texts) = true) (m_law_texts : mg "_law_texts" = some (.ref f_law_texts))
    {f_law_numbers : Addr} {fd_law_numbers : FuncData} (G_law_numbers : FnOk P w K mg base CX0 2 f_law_numbers fd_law_numbers ["_law_found", "_law_due"] (spNumbers K)) (b_law_numbers : Binds K fd_law_numbers ["_law_found", "_law_due"] []) (k_law_numbers : PySem.W.keepIn K (.ref f_law_numbers) = true) (m_law_numbers : mg "_law_numbers" = some (.ref f_law_numbers))
    (z_range : mg "range" = none) :
    FnOk P w K mg base CX0 3 f_law_table_alike fd_law_table_alike ["_law_table", "_law_things", "_law_heads", "_law_sets"] (spTbAlike K C_Table) := by
  refine F_law_table_alike.ok sc_law_table_alike (fun vs H Q E h => ?_) (fun cdv A outer s H vs Q E hr h => ?_)
  · obtain ⟨x, a, b, c, q1, q2, q3, ts, cs, rs, rfl, t, h1, h2, h3, l1, l2, l3, q⟩ := h
    rfl
  obtain ⟨x, a, b, c, q1, q2, q3, ts, cs, rs, rfl, t, h1, h2, h3, l1, l2, l3, q⟩ := h
  refine ⟨_, (pss_cons (ps_for PassesOwn.never rfl (pi_range1 rfl z_range (pa_cons pe_int pa_nil)) (pg_name (i := 4) sc_law_table_alike.nd rfl (Or.inl rfl)) (pss_cons (ps_set (i := 5) sc_law_table_alike.nd rfl (Or.inl rfl) (pe_meth0 (pv 0) T_Table.cl h_Table_things G_Table_things (hr.mono (by decide)) b_Table_things .nil pass0))
      (pss_cons (ps_set (i := 6) sc_law_table_alike.nd rfl (Or.inl rfl) (pe_meth0 (pv 0) T_Table.cl h_Table_columns G_Table_columns (hr.mono (by decide)) b_Table_columns .nil pass0))
      (pss_cons (ps_set (i := 7) sc_law_table_alike.nd rfl (Or.inl rfl) (pe_meth0 (pv 0) T_Table.cl h_Table_rows G_Table_rows (hr.mono (by decide)) b_Table_rows .nil pass0))
      (pss_cons (ps_if (PW.pt (pw_or (pt_not (pt_val (pe_call G_law_texts (hr.mono (by decide)) rfl m_law_texts k_law_texts b_law_texts .nil pass0 (pa_cons (pv 5) (pa_cons (pv 1) pa_nil))))) (pw_or1 (pt_not (pt_val (pe_call G_law_texts (hr.mono (by decide)) rfl m_law_texts k_law_texts b_law_texts .nil pass0 (pa_cons (pv 6) (pa_cons (pv 2) pa_nil)))))))) (pss_one (ps_ret pe_bl)) pss_nil)
      (pss_cons (ps_if (pt_not (pt_val (pe_call G_law_numbers (hr.mono (by decide)) rfl m_law_numbers k_law_numbers b_law_numbers .nil pass0 (pa_cons (pv 7) (pa_cons (pv 3) pa_nil))))) (pss_one (ps_ret pe_bl)) pss_nil)
      (pss_cons (ps_expr (pe_bmK (K := K) rfl PySem.F.plainAttrs_list PySem.F.slot_list_append PySem.F.type_list_append mt_append (pv 5) (pa_cons pe_str pa_nil)))
      (pss_cons (ps_expr (pe_bmK (K := K) rfl PySem.F.plainAttrs_list PySem.F.slot_list_append PySem.F.type_list_append mt_append (pv 6) (pa_cons pe_str pa_nil)))
      (pss_one (ps_expr (pe_bmK (K := K) rfl PySem.F.plainAttrs_list PySem.F.slot_list_append PySem.F.type_list_append mt_append (pv 7) (pa_cons pe_int pa_nil))))))))))))
      (pss_one (ps_ret pe_bl))), ?_⟩
  refine ⟨2, rfl, by decide, by decide, ?_⟩
  refine for_range (n := 2) (fun i σ H2 => ∃ v1 v2 v3 v4, σ = [some (.ref x), some (.ref q1), some (.ref q2), some (.ref q3), v1, v2, v3, v4] ∧ Same H H2) ⟨_, _, _, _, rfl, Same.refl _⟩ ?_ ?_
  · rintro i σ H0 hi ⟨v1, v2, v3, v4, rfl, g⟩
    have t0 := t.same g
    obtain ⟨dx, hx⟩ := t0.ins
    refine ⟨_, rfl, x, dx, _, rfl, hx, rfl, x, a, b, c, ts, cs, rs, rfl, t0, fun r1 hr1 => ?_⟩
    have n_H1 := same_new hr1 (.lst (ts.map V.str))
    have e_H1 : (upd H0 r1 (.lst (ts.map V.str))) r1 = some (.lst (ts.map V.str)) := upd_same
    generalize upd H0 r1 (.lst (ts.map V.str)) = H1 at n_H1 e_H1
    refine ⟨_, rfl, x, dx, _, rfl, n_H1 _ _ hx, rfl, x, a, b, c, ts, cs, rs, rfl, t0.same n_H1, fun r2 hr2 => ?_⟩
    have n_H2 := same_new hr2 (.lst (cs.map V.str))
    have e_H2 : (upd H1 r2 (.lst (cs.map V.str))) r2 = some (.lst (cs.map V.str)) := upd_same
    generalize upd H1 r2 (.lst (cs.map V.str)) = H2 at n_H2 e_H2
    have n02 := n_H1.trans n_H2
    refine ⟨_, rfl, x, dx, _, rfl, n02 _ _ hx, rfl, x, a, b, c, ts, cs, rs, rfl, t0.same n02, fun r3 hr3 => ?_⟩
    have n_H3 := same_new hr3 (.lst (rs.map nv))
    have e_H3 : (upd H2 r3 (.lst (rs.map nv))) r3 = some (.lst (rs.map nv)) := upd_same
    generalize upd H2 r3 (.lst (rs.map nv)) = H3 at n_H3 e_H3
    have n03 := n02.trans n_H3
    have e1 := n_H3 _ _ (n_H2 _ _ e_H1)
    have e2 := n_H3 _ _ e_H2
    have g3 := g.trans n03
    have o1 : H r1 = none := g.free hr1
    have o2 : H r2 = none := g.free (n_H1.free hr2)
    have o3 : H r3 = none := g.free (n02.free hr3)
    have d12 : r2 ≠ r1 := fun e => by rw [e, e_H1] at hr2; cases hr2
    have d13 : r3 ≠ r1 := fun e => by rw [e, n_H2 _ _ e_H1] at hr3; cases hr3
    have d23 : r3 ≠ r2 := fun e => by rw [e, e_H2] at hr3; cases hr3
    refine ⟨_, rfl, _, rfl, r1, q1, ts, rfl, e1, g3.seq h1, by omega, _, rfl, iteF ?_⟩
    refine ⟨_, rfl, _, rfl, r2, q2, cs, rfl, e2, g3.seq h2, by omega, _, rfl, iteF ?_⟩
    refine ⟨_, rfl, _, rfl, r3, q3, rs, rfl, e_H3, g3.seq h3, by omega, _, rfl, iteF ?_⟩
    refine ⟨_, rfl, .inl ⟨rfl, _, SqL.of e1⟩, r1, _, _, rfl, rfl, e1, by rw [List.length_map]; exact line1000 (by omega), ?_⟩
    have g4 := same_upd g3 o1 (.lst (ts.map V.str ++ [.str (Str.ofString "z")]))
    have e24 : (upd H3 r1 (.lst (ts.map V.str ++ [.str (Str.ofString "z")]))) r2 = some (.lst (cs.map V.str)) := by rw [upd_ne d12]; exact e2
    have e34 : (upd H3 r1 (.lst (ts.map V.str ++ [.str (Str.ofString "z")]))) r3 = some (.lst (rs.map nv)) := by rw [upd_ne d13]; exact e_H3
    try dsimp only
    generalize upd H3 r1 (.lst (ts.map V.str ++ [.str (Str.ofString "z")])) = H4 at g4 e24 e34
    refine ⟨_, rfl, .inl ⟨rfl, _, SqL.of e24⟩, r2, _, _, rfl, rfl, e24, by rw [List.length_map]; exact line1000 (by omega), ?_⟩
    have g5 := same_upd g4 o2 (.lst (cs.map V.str ++ [.str (Str.ofString "z")]))
    have e35 : (upd H4 r2 (.lst (cs.map V.str ++ [.str (Str.ofString "z")]))) r3 = some (.lst (rs.map nv)) := by rw [upd_ne d23]; exact e34
    try dsimp only
    generalize upd H4 r2 (.lst (cs.map V.str ++ [.str (Str.ofString "z")])) = H5 at g5 e35
    refine ⟨_, rfl, .inl ⟨rfl, _, SqL.of e35⟩, r3, _, _, rfl, rfl, e35, by rw [List.length_map]; exact line1000 (by omega), ?_⟩
    exact ⟨_, _, _, _, rfl, same_upd g5 o3 _⟩
  rintro σ H0 ⟨v1, v2, v3, v4, rfl, g⟩
  exact q _ g
inductive IspTbMade (K : PySem.W.Frag) (C : Addr) (vs : List V) (H : Hp) (Q : VK) (E : XK) : Prop where
  | mk (q1 q2 q3 : Addr) (ts cs : List Str) (rs : List Nat) (hh0 : vs = [.ref q1, .ref q2, .ref q3]) (hh1 : SqL K H q1 (ts.map V.str)) (hh2 : SqL K H q2 (cs.map V.str)) (hh3 : SqL K H q3 (rs.map nv)) (hh4 : ts.length ≤ 900) (hh5 : cs.length ≤ 900) (hh6 : rs.length ≤ 900) (hh7 : ∀ x a b c H', Same H H' → TabB C H' x a b c ts cs rs → Q (.ref x) H') : IspTbMade K C vs H Q E
noncomputable def spTbMade (K : PySem.W.Frag) (C : Addr) : Sp := fun vs H Q E => IspTbMade K C vs H Q E
theorem TabB.apart {C : Addr} {H : Hp} {x a b c r : Addr} {ts cs : List Str} {rs : List Nat} {o : HO} (t : TabB C H x a b c ts cs rs) (h0 : x ≠ r) (h1 : a ≠ r) (h2 : b ≠ r) (h3 : c ≠ r) : TabB C (upd H r o) x a b c ts cs rs :=
  let ⟨dx, h⟩ := t.ins; ⟨⟨dx, by rw [upd_ne h0]; exact h⟩, by rw [upd_ne h1]; exact t.th, by rw [upd_ne h2]; exact t.co, by rw [upd_ne h3]; exact t.ro⟩
theorem ok_law_made {C_Table : Addr} (T_Table : Txt_Table K C_Table)
    {f_law_made : Addr} {fd_law_made : FuncData} (F_law_made : Fun K "_law_made" "_law_made" s_law_made f_law_made fd_law_made)
    {f_Table_init : Addr} {fd_Table_init : FuncData} (G_Table_init : FnOk P w K mg base CX0 1 f_Table_init fd_Table_init ["self", "things", "columns", "rows"] (spTbInit K C_Table)) (b_Table_init : Binds K fd_Table_init ["self", "things", "columns", "rows"] [])
    (M_Table : Mk K C_Table f_Table_init) (m_Table : mg "Table" = some (.ref C_Table))
    (z_list : mg "list" = none) :
    FnOk P w K mg base CX0 3 f_law_made fd_law_made ["_law_things", "_law_heads", "_law_sets"] (spTbMade K C_Table) := by
  refine F_law_made.ok sc_law_made (fun vs H Q E h => ?_) (fun cdv A outer s H vs Q E hr h => ?_)
  · obtain ⟨q1, q2, q3, ts, cs, rs, rfl, h1, h2, h3, l1, l2, l3, q⟩ := h
    rfl
  obtain ⟨q1, q2, q3, ts, cs, rs, rfl, h1, h2, h3, l1, l2, l3, q⟩ := h
  refine ⟨_, (pss_cons (ps_set (i := 3) sc_law_made.nd rfl (Or.inl rfl) (pe_lst (pa_cons (pe_callTy (list_ofK (K := K) rfl) rfl z_list b_list (pa_cons (pv 0) pa_nil)) (pa_cons (pe_callTy (list_ofK (K := K) rfl) rfl z_list b_list (pa_cons (pv 1) pa_nil)) (pa_cons (pe_callTy (list_ofK (K := K) rfl) rfl z_list b_list (pa_cons (pv 2) pa_nil)) pa_nil)))))
      (pss_cons (ps_set (i := 4) sc_law_made.nd rfl (Or.inl rfl) (pe_make M_Table G_Table_init (hr.mono (by decide)) rfl m_Table b_Table_init .nil pass0 (pa_cons (pe_ix (ix_listK (K := K) rfl) (pv 3) pe_int (by intro _ _; rfl)) (pa_cons (pe_ix (ix_listK (K := K) rfl) (pv 3) pe_int (by intro _ _; rfl)) (pa_cons (pe_ix (ix_listK (K := K) rfl) (pv 3) pe_int (by intro _ _; rfl)) pa_nil)))))
      (pss_cons (ps_expr (pe_bmK (K := K) rfl PySem.F.plainAttrs_list PySem.F.slot_list_append PySem.F.type_list_append mt_append (pe_ix (ix_listK (K := K) rfl) (pv 3) pe_int (by intro _ _; rfl)) (pa_cons pe_str pa_nil)))
      (pss_cons (ps_expr (pe_bmK (K := K) rfl PySem.F.plainAttrs_list PySem.F.slot_list_append PySem.F.type_list_append mt_append (pe_ix (ix_listK (K := K) rfl) (pv 3) pe_int (by intro _ _; rfl)) (pa_cons pe_str pa_nil)))
      (pss_cons (ps_expr (pe_bmK (K := K) rfl PySem.F.plainAttrs_list PySem.F.slot_list_append PySem.F.type_list_append mt_append (pe_ix (ix_listK (K := K) rfl) (pv 3) pe_int (by intro _ _; rfl)) (pa_cons pe_int pa_nil)))
      (pss_one (ps_ret (pv 4)))))))), ?_⟩
  refine ⟨_, rfl, q1, _, rfl, .inl h1, fun r1 hr1 => ?_⟩
  have n_H1 := same_new hr1 (.lst (ts.map V.str))
  have e_H1 : (upd H r1 (.lst (ts.map V.str))) r1 = some (.lst (ts.map V.str)) := upd_same
  generalize upd H r1 (.lst (ts.map V.str)) = H1 at n_H1 e_H1
  refine ⟨_, rfl, q2, _, rfl, .inl (n_H1.seq h2), fun r2 hr2 => ?_⟩
  have n_H2 := same_new hr2 (.lst (cs.map V.str))
  have e_H2 : (upd H1 r2 (.lst (cs.map V.str))) r2 = some (.lst (cs.map V.str)) := upd_same
  generalize upd H1 r2 (.lst (cs.map V.str)) = H2 at n_H2 e_H2
  have n02 := n_H1.trans n_H2
  refine ⟨_, rfl, q3, _, rfl, .inl (n02.seq h3), fun r3 hr3 => ?_⟩
  have n_H3 := same_new hr3 (.lst (rs.map nv))
  have e_H3 : (upd H2 r3 (.lst (rs.map nv))) r3 = some (.lst (rs.map nv)) := upd_same
  generalize upd H2 r3 (.lst (rs.map nv)) = H3 at n_H3 e_H3
  have n03 := n02.trans n_H3
  have e1 := n_H3 _ _ (n_H2 _ _ e_H1)
  have e2 := n_H3 _ _ e_H2
  refine ⟨by show 3 ≤ sizeLine; decide, fun r4 hr4 => ?_⟩
  have n_H4 := same_new hr4 (.lst [.ref r1, .ref r2, .ref r3])
  have e_H4 : (upd H3 r4 (.lst [.ref r1, .ref r2, .ref r3])) r4 = some (.lst [.ref r1, .ref r2, .ref r3]) := upd_same
  generalize upd H3 r4 (.lst [.ref r1, .ref r2, .ref r3]) = H4 at n_H4 e_H4
  have n04 := n03.trans n_H4
  have f1 := n_H4 _ _ e1
  have f2 := n_H4 _ _ e2
  have f3 := n_H4 _ _ e_H3
  have o1 : H r1 = none := hr1
  have o2 : H r2 = none := n_H1.free hr2
  have o3 : H r3 = none := n02.free hr3
  have d12 : r2 ≠ r1 := fun e => by rw [e, e_H1] at hr2; cases hr2
  have d13 : r3 ≠ r1 := fun e => by rw [e, n_H2 _ _ e_H1] at hr3; cases hr3
  have d23 : r3 ≠ r2 := fun e => by rw [e, e_H2] at hr3; cases hr3
  have d14 : r4 ≠ r1 := fun e => by rw [e, e1] at hr4; cases hr4
  have d24 : r4 ≠ r2 := fun e => by rw [e, e2] at hr4; cases hr4
  have d34 : r4 ≠ r3 := fun e => by rw [e, e_H3] at hr4; cases hr4
  refine ⟨_, rfl, r4, _, _, _, rfl, rfl, SqL.of e_H4, rfl, _, rfl, r4, _, _, _, rfl, rfl, SqL.of e_H4, rfl, _, rfl, r4, _, _, _, rfl, rfl, SqL.of e_H4, rfl, fun x dx nx ndx nex => ?_⟩
  have gx : Same H4 (upd (upd H4 dx (.own x)) x (.ins C_Table dx [])) := made_same nx ndx Kept.refl
  refine ⟨x, dx, r1, r2, r3, ts, cs, rs, rfl, upd_same, SqL.of (gx _ _ f1), SqL.of (gx _ _ f2), SqL.of (gx _ _ f3), fun H5 a b c na nb nc tx kx => ⟨rfl, ?_⟩⟩
  have g45 := made_same nx ndx kx
  have g5 := n04.trans g45
  have i1 := g45 _ _ f1
  have i2 := g45 _ _ f2
  have i3 := g45 _ _ f3
  have i4 := g45 _ _ e_H4
  have apart : ∀ p r : Addr, (upd (upd H4 dx (.own x)) x (.ins C_Table dx [])) p = none → ∀ o, H4 r = some o → p ≠ r := fun p r hp o hr e => by rw [e, gx _ _ hr] at hp; cases hp
  have xr : ∀ r o, H4 r = some o → x ≠ r := fun r o hr e => by rw [e, hr] at nx; cases nx
  refine ⟨_, rfl, r4, _, _, _, rfl, rfl, SqL.of i4, rfl, .inl ⟨rfl, _, SqL.of i1⟩, r1, _, _, rfl, rfl, i1, by rw [List.length_map]; exact line1000 (by omega), ?_⟩
  have t6 : TabB C_Table (upd H5 r1 (.lst (ts.map V.str ++ [.str (Str.ofString "z")]))) x a b c ts cs rs := tx.apart (xr _ _ f1) (apart _ _ na _ f1) (apart _ _ nb _ f1) (apart _ _ nc _ f1)
  have g6 := same_upd g5 o1 (.lst (ts.map V.str ++ [.str (Str.ofString "z")]))
  have j2 : (upd H5 r1 (.lst (ts.map V.str ++ [.str (Str.ofString "z")]))) r2 = some (.lst (cs.map V.str)) := by rw [upd_ne d12]; exact i2
  have j3 : (upd H5 r1 (.lst (ts.map V.str ++ [.str (Str.ofString "z")]))) r3 = some (.lst (rs.map nv)) := by rw [upd_ne d13]; exact i3
  have j4 : (upd H5 r1 (.lst (ts.map V.str ++ [.str (Str.ofString "z")]))) r4 = some (.lst [.ref r1, .ref r2, .ref r3]) := by rw [upd_ne d14]; exact i4
  try dsimp only
  generalize upd H5 r1 (.lst (ts.map V.str ++ [.str (Str.ofString "z")])) = H6 at t6 g6 j2 j3 j4
  refine ⟨_, rfl, r4, _, _, _, rfl, rfl, SqL.of j4, rfl, .inl ⟨rfl, _, SqL.of j2⟩, r2, _, _, rfl, rfl, j2, by rw [List.length_map]; exact line1000 (by omega), ?_⟩
  have t7 : TabB C_Table (upd H6 r2 (.lst (cs.map V.str ++ [.str (Str.ofString "z")]))) x a b c ts cs rs := t6.apart (xr _ _ f2) (apart _ _ na _ f2) (apart _ _ nb _ f2) (apart _ _ nc _ f2)
  have g7 := same_upd g6 o2 (.lst (cs.map V.str ++ [.str (Str.ofString "z")]))
  have k3 : (upd H6 r2 (.lst (cs.map V.str ++ [.str (Str.ofString "z")]))) r3 = some (.lst (rs.map nv)) := by rw [upd_ne d23]; exact j3
  have k4 : (upd H6 r2 (.lst (cs.map V.str ++ [.str (Str.ofString "z")]))) r4 = some (.lst [.ref r1, .ref r2, .ref r3]) := by rw [upd_ne d24]; exact j4
  try dsimp only
  generalize upd H6 r2 (.lst (cs.map V.str ++ [.str (Str.ofString "z")])) = H7 at t7 g7 k3 k4
  refine ⟨_, rfl, r4, _, _, _, rfl, rfl, SqL.of k4, rfl, .inl ⟨rfl, _, SqL.of k3⟩, r3, _, _, rfl, rfl, k3, by rw [List.length_map]; exact line1000 (by omega), ?_⟩
  exact ⟨_, rfl, q x a b c _ (same_upd g7 o3 _) (t7.apart (xr _ _ f3) (apart _ _ na _ f3) (apart _ _ nb _ f3) (apart _ _ nc _ f3))⟩
noncomputable def numJ (j : Nat) : Nat := if j = 0 then 10 else j
theorem num_of {j : Nat} (h : j < 3) : decide (10 = numJ j) = decide (j = 0) ∧ decide (1 = numJ j) = decide (j = 1) ∧ decide (2 = numJ j) = decide (j = 2) ∧ ∀ n, (n = 0 ∨ (3 ≤ n ∧ n < 10)) → decide (n = numJ j) = false := by
  rcases (show j = 0 ∨ j = 1 ∨ j = 2 by omega) with rfl | rfl | rfl
  · exact ⟨rfl, rfl, rfl, fun n hn => decide_eq_false (show ¬ n = 10 by omega)⟩
  · exact ⟨rfl, rfl, rfl, fun n hn => decide_eq_false (show ¬ n = 1 by omega)⟩
  · exact ⟨rfl, rfl, rfl, fun n hn => decide_eq_false (show ¬ n = 2 by omega)⟩
inductive IspKind (Cs : List Addr) (vs : List V) (H : Hp) (Q : VK) (E : XK) : Prop where
  | mk (j : Nat) (c e : Addr) (hh0 : vs = [.ref e]) (hh1 : j < 3) (hh2 : Cs[j]? = some c) (hh3 : Cgt H e c j) (hh4 : ∀ H', Same H H' → Q (.str (kindT (some j))) H') : IspKind Cs vs H Q E
noncomputable def spKind (Cs : List Addr) : Sp := fun vs H Q E => IspKind Cs vs H Q E
theorem kind_one {j : Nat} (h : j < 3) : ([V.bl (decide (j = 0)), V.bl (decide (j = 1)), V.bl (decide (j = 2))].countP fun z => eqV z (.bl true)) = 1 := by
  rcases (show j = 0 ∨ j = 1 ∨ j = 2 by omega) with rfl | rfl | rfl <;> rfl
theorem kind_at {j : Nat} (h : j < 3) : eqV ([V.bl (decide (j = 0)), V.bl (decide (j = 1)), V.bl (decide (j = 2))].getD j .non) (.bl true) = true ∧ (∀ m, m < j → eqV ([V.bl (decide (j = 0)), V.bl (decide (j = 1)), V.bl (decide (j = 2))].getD m .non) (.bl true) = false) ∧ atI [V.str (Str.ofString "unlike"), V.str (Str.ofString "twice"), V.str (Str.ofString "large")] (j : Int) = some (.str (kindT (some j))) := by
  rcases (show j = 0 ∨ j = 1 ∨ j = 2 by omega) with rfl | rfl | rfl
  · exact ⟨rfl, fun m hm => absurd hm (by omega), rfl⟩
  · refine ⟨rfl, fun m hm => ?_, rfl⟩
    rw [show m = 0 by omega]; rfl
  · refine ⟨rfl, fun m hm => ?_, rfl⟩
    rcases (show m = 0 ∨ m = 1 by omega) with rfl | rfl <;> rfl
theorem ok_law_kind {f_law_kind : Addr} {fd_law_kind : FuncData} (F_law_kind : Fun K "_law_kind" "_law_kind" s_law_kind f_law_kind fd_law_kind)
    (hek : ∀ (j : Nat) (c : Addr), [C_Unlike, C_Twice, C_TooLarge][j]? = some c → EK K [C_BadText, C_Twice, C_TooLarge, C_Gap, C_Unknown, C_AtEnd, C_BadSet, C_NotBroken, C_Against, C_OutOfPlace, C_Unlike] c (numJ j)) (hn1 : NoAttr K C_Twice "line") (hn2 : NoAttr K C_TooLarge "line")
    {f_law_whole : Addr} {fd_law_whole : FuncData} (G_law_whole : FnOk P w K mg base CX0 1 f_law_whole fd_law_whole ["_law_found"] (spWhole)) (b_law_whole : Binds K fd_law_whole ["_law_found"] []) (k_law_whole : PySem.W.keepIn K (.ref f_law_whole) = true) (m_law_whole : mg "_law_whole" = some (.ref f_law_whole))
    (m_TooLarge : mg "TooLarge" = some (.ref C_TooLarge))
    (m_Twice : mg "Twice" = some (.ref C_Twice))
    (m_Unlike : mg "Unlike" = some (.ref C_Unlike))
    (m_Gap : mg "Gap" = some (.ref C_Gap))
    (m_Unknown : mg "Unknown" = some (.ref C_Unknown))
    (m_BadText : mg "BadText" = some (.ref C_BadText))
    (m_NotBroken : mg "NotBroken" = some (.ref C_NotBroken))
    (m_BadSet : mg "BadSet" = some (.ref C_BadSet))
    (m_AtEnd : mg "AtEnd" = some (.ref C_AtEnd))
    (m_OutOfPlace : mg "OutOfPlace" = some (.ref C_OutOfPlace))
    (m_Against : mg "Against" = some (.ref C_Against))
    (z_isinstance : mg "isinstance" = none)
    (z_ValueError : mg "ValueError" = none) :
    FnOk P w K mg base CX0 2 f_law_kind fd_law_kind ["_law_error"] (spKind [C_Unlike, C_Twice, C_TooLarge]) := by
  refine F_law_kind.ok sc_law_kind (fun vs H Q E h => ?_) (fun cdv A outer s H vs Q E hr h => ?_)
  · obtain ⟨j, c, e, rfl, hj, hc, hF, q⟩ := h
    rfl
  obtain ⟨j, c, e, rfl, hj, hc, hF, q⟩ := h
  refine ⟨_, (pss_cons (ps_set (i := 1) sc_law_kind.nd rfl (Or.inl rfl) (pe_lst (pa_cons (pe_callB (isiFK (K := K) rfl) rfl z_isinstance b_isinstance (pa_cons (pv 0) (pa_cons (pe_glob (v := .ref C_Unlike) rfl m_Unlike rfl) pa_nil))) (pa_cons (pe_callB (isiFK (K := K) rfl) rfl z_isinstance b_isinstance (pa_cons (pv 0) (pa_cons (pe_glob (v := .ref C_Twice) rfl m_Twice rfl) pa_nil))) (pa_cons (pe_callB (isiFK (K := K) rfl) rfl z_isinstance b_isinstance (pa_cons (pv 0) (pa_cons (pe_glob (v := .ref C_TooLarge) rfl m_TooLarge rfl) pa_nil))) pa_nil)))))
      (pss_cons (ps_set (i := 2) sc_law_kind.nd rfl (Or.inl rfl) (pe_lst (pa_cons (pe_callB (isiFK (K := K) rfl) rfl z_isinstance b_isinstance (pa_cons (pv 0) (pa_cons (pe_glob (v := .ref C_BadText) rfl m_BadText rfl) pa_nil))) (pa_cons (pe_callB (isiFK (K := K) rfl) rfl z_isinstance b_isinstance (pa_cons (pv 0) (pa_cons (pe_glob (v := .ref C_Unknown) rfl m_Unknown rfl) pa_nil))) (pa_cons (pe_callB (isiFK (K := K) rfl) rfl z_isinstance b_isinstance (pa_cons (pv 0) (pa_cons (pe_glob (v := .ref C_Gap) rfl m_Gap rfl) pa_nil))) pa_nil)))))
      (pss_cons (ps_set (i := 2) sc_law_kind.nd rfl (Or.inl rfl) (pe_op op_cat (pv 2) (pe_lst (pa_cons (pe_callB (isiFK (K := K) rfl) rfl z_isinstance b_isinstance (pa_cons (pv 0) (pa_cons (pe_glob (v := .ref C_AtEnd) rfl m_AtEnd rfl) pa_nil))) (pa_cons (pe_callB (isiFK (K := K) rfl) rfl z_isinstance b_isinstance (pa_cons (pv 0) (pa_cons (pe_glob (v := .ref C_BadSet) rfl m_BadSet rfl) pa_nil))) (pa_cons (pe_callB (isiFK (K := K) rfl) rfl z_isinstance b_isinstance (pa_cons (pv 0) (pa_cons (pe_glob (v := .ref C_NotBroken) rfl m_NotBroken rfl) pa_nil))) pa_nil))))))
      (pss_cons (ps_set (i := 2) sc_law_kind.nd rfl (Or.inl rfl) (pe_op op_cat (pv 2) (pe_lst (pa_cons (pe_callB (isiFK (K := K) rfl) rfl z_isinstance b_isinstance (pa_cons (pv 0) (pa_cons (pe_glob (v := .ref C_Against) rfl m_Against rfl) pa_nil))) (pa_cons (pe_callB (isiFK (K := K) rfl) rfl z_isinstance b_isinstance (pa_cons (pv 0) (pa_cons (pe_glob (v := .ref C_OutOfPlace) rfl m_OutOfPlace rfl) pa_nil))) pa_nil)))))
      (pss_cons (ps_if (PW.pt (pw_or (pt_not (pt_val (pe_callB (isiFK (K := K) rfl) rfl z_isinstance b_isinstance (pa_cons (pv 0) (pa_cons (pe_ty rfl z_ValueError b_ValueError) pa_nil))))) (pw_or (pt_cmpR op_ne (pe_bmK (K := K) rfl PySem.F.plainAttrs_list PySem.F.slot_list_count PySem.F.type_list_count mt_count (pv 1) (pa_cons pe_bl pa_nil)) pe_int (nomark _)) (pw_or1 (pt_cmpR (op_inK (K := K) rfl) pe_bl (pv 2) (by with_unfolding_all rfl)))))) (pss_one (ps_ret pe_str)) pss_nil)
      (pss_cons (ps_if (PW.pt (pw_and (pt_not (pt_val (pe_ix (ix_listK (K := K) rfl) (pv 1) pe_int (by intro _ _; rfl)))) (pw_and1 (PW.pt (pw_or (pt_not (pt_val (pe_call G_law_whole (hr.mono (by decide)) rfl m_law_whole k_law_whole b_law_whole .nil pass0 (pa_cons (pe_fldF (K := K) rfl (pv 0) rfl) pa_nil)))) (pw_or1 (pt_cmpR op_ne (pe_fldF (K := K) rfl (pv 0) rfl) pe_int (nomark _)))))))) (pss_one (ps_ret pe_str)) pss_nil)
      (pss_one (ps_ret (pe_ix (ix_listK (K := K) rfl) (pe_lst (pa_cons pe_str (pa_cons pe_str (pa_cons pe_str pa_nil)))) (pe_bmK (K := K) rfl PySem.F.plainAttrs_list PySem.F.slot_list_index PySem.F.type_list_index mt_index (pv 1) (pa_cons pe_bl pa_nil)) (by intro _ _; rfl)))))))))), ?_⟩
  have E := hek j c hc
  obtain ⟨d, ⟨T, hA, _, _⟩, hD, hj0⟩ := hF.ex
  obtain ⟨m10, m1, m2, m0⟩ := num_of hj
  have i10 := E.is 10 _ rfl
  have i1 := E.is 1 _ rfl
  have i2 := E.is 2 _ rfl
  have i0 := E.is 0 _ rfl
  have i4 := E.is 4 _ rfl
  have i3 := E.is 3 _ rfl
  have i5 := E.is 5 _ rfl
  have i6 := E.is 6 _ rfl
  have i7 := E.is 7 _ rfl
  have i8 := E.is 8 _ rfl
  have i9 := E.is 9 _ rfl
  rw [m10] at i10
  rw [m1] at i1
  rw [m2] at i2
  rw [m0 0 (by omega)] at i0
  rw [m0 4 (by omega)] at i4
  rw [m0 3 (by omega)] at i3
  rw [m0 5 (by omega)] at i5
  rw [m0 6 (by omega)] at i6
  rw [m0 7 (by omega)] at i7
  rw [m0 8 (by omega)] at i8
  rw [m0 9 (by omega)] at i9
  have nd : ∀ {H' : Hp}, Same H H' → ∀ dx, d = some dx → ∃ fs, H' dx = some (.xd fs) := fun g dx z => ⟨_, g _ _ (hD dx z)⟩
  have s0 := Same.refl H
  refine ⟨_, rfl, e, c, d, T, _, _, _, rfl, rfl, hA, nd s0, E.xc, i10, _, rfl, e, c, d, T, _, _, _, rfl, rfl, hA, nd s0, E.xc, i1, _, rfl, e, c, d, T, _, _, _, rfl, rfl, hA, nd s0, E.xc, i2, (by show 3 ≤ sizeLine; decide), fun p1 hp1 => ?_⟩
  have n_H1 := same_new hp1 (.lst [V.bl (decide (j = 0)), V.bl (decide (j = 1)), V.bl (decide (j = 2))])
  have e_H1 : (upd H p1 (.lst [V.bl (decide (j = 0)), V.bl (decide (j = 1)), V.bl (decide (j = 2))])) p1 = some (.lst [V.bl (decide (j = 0)), V.bl (decide (j = 1)), V.bl (decide (j = 2))]) := upd_same
  generalize upd H p1 (.lst [V.bl (decide (j = 0)), V.bl (decide (j = 1)), V.bl (decide (j = 2))]) = H1 at n_H1 e_H1
  have hA1 := n_H1 _ _ hA
  refine ⟨_, rfl, e, c, d, T, _, _, _, rfl, rfl, hA1, nd n_H1, E.xc, i0, _, rfl, e, c, d, T, _, _, _, rfl, rfl, hA1, nd n_H1, E.xc, i4, _, rfl, e, c, d, T, _, _, _, rfl, rfl, hA1, nd n_H1, E.xc, i3, (by show 3 ≤ sizeLine; decide), fun p2 hp2 => ?_⟩
  have n_H2 := same_new hp2 (.lst [V.bl false, V.bl false, V.bl false])
  have e_H2 : (upd H1 p2 (.lst [V.bl false, V.bl false, V.bl false])) p2 = some (.lst [V.bl false, V.bl false, V.bl false]) := upd_same
  generalize upd H1 p2 (.lst [V.bl false, V.bl false, V.bl false]) = H2 at n_H2 e_H2
  have g2 := n_H1.trans n_H2
  have hA2 := g2 _ _ hA
  refine ⟨_, rfl, _, rfl, e, c, d, T, _, _, _, rfl, rfl, hA2, nd g2, E.xc, i5, _, rfl, e, c, d, T, _, _, _, rfl, rfl, hA2, nd g2, E.xc, i6, _, rfl, e, c, d, T, _, _, _, rfl, rfl, hA2, nd g2, E.xc, i7, (by show 3 ≤ sizeLine; decide), fun p3 hp3 => ?_⟩
  have n_H3 := same_new hp3 (.lst [V.bl false, V.bl false, V.bl false])
  have e_H3 : (upd H2 p3 (.lst [V.bl false, V.bl false, V.bl false])) p3 = some (.lst [V.bl false, V.bl false, V.bl false]) := upd_same
  generalize upd H2 p3 (.lst [V.bl false, V.bl false, V.bl false]) = H3 at n_H3 e_H3
  refine ⟨p2, p3, _, _, rfl, rfl, n_H3 _ _ e_H2, e_H3, (by show 6 ≤ sizeLine; decide), fun p4 hp4 => ?_⟩
  have n_H4 := same_new hp4 (.lst ([V.bl false, V.bl false, V.bl false] ++ [V.bl false, V.bl false, V.bl false]))
  have e_H4 : (upd H3 p4 (.lst ([V.bl false, V.bl false, V.bl false] ++ [V.bl false, V.bl false, V.bl false]))) p4 = some (.lst ([V.bl false, V.bl false, V.bl false] ++ [V.bl false, V.bl false, V.bl false])) := upd_same
  generalize upd H3 p4 (.lst ([V.bl false, V.bl false, V.bl false] ++ [V.bl false, V.bl false, V.bl false])) = H4 at n_H4 e_H4
  have n24 := n_H3.trans n_H4
  have g4 := g2.trans n24
  have hA4 := g4 _ _ hA
  refine ⟨_, rfl, _, rfl, e, c, d, T, _, _, _, rfl, rfl, hA4, nd g4, E.xc, i8, _, rfl, e, c, d, T, _, _, _, rfl, rfl, hA4, nd g4, E.xc, i9, (by show 2 ≤ sizeLine; decide), fun p5 hp5 => ?_⟩
  have n_H5 := same_new hp5 (.lst [V.bl false, V.bl false])
  have e_H5 : (upd H4 p5 (.lst [V.bl false, V.bl false])) p5 = some (.lst [V.bl false, V.bl false]) := upd_same
  generalize upd H4 p5 (.lst [V.bl false, V.bl false]) = H5 at n_H5 e_H5
  refine ⟨p4, p5, _, _, rfl, rfl, n_H5 _ _ e_H4, e_H5, (by show 8 ≤ sizeLine; decide), fun p6 hp6 => ?_⟩
  have n_H6 := same_new hp6 (.lst (([V.bl false, V.bl false, V.bl false] ++ [V.bl false, V.bl false, V.bl false]) ++ [V.bl false, V.bl false]))
  have e_H6 : (upd H5 p6 (.lst (([V.bl false, V.bl false, V.bl false] ++ [V.bl false, V.bl false, V.bl false]) ++ [V.bl false, V.bl false]))) p6 = some (.lst (([V.bl false, V.bl false, V.bl false] ++ [V.bl false, V.bl false, V.bl false]) ++ [V.bl false, V.bl false])) := upd_same
  generalize upd H5 p6 (.lst (([V.bl false, V.bl false, V.bl false] ++ [V.bl false, V.bl false, V.bl false]) ++ [V.bl false, V.bl false])) = H6 at n_H6 e_H6
  have n46 := n_H5.trans n_H6
  have n16 := n_H2.trans (n24.trans n46)
  have g6 := n_H1.trans n16
  have h1 := n16 _ _ e_H1
  have hA6 := g6 _ _ hA
  clear n16 n46 g4 hA4 n24 g2 hA2 hA1 n_H1 n_H2 n_H3 n_H4 n_H5 n_H6 e_H1 e_H2 e_H3 e_H4 e_H5 i0 i1 i2 i3 i4 i5 i6 i7 i8 i9 i10 m10 m1 m2 m0
  refine ⟨_, rfl, e, c, d, T, _, _, _, rfl, rfl, hA6, nd g6, E.xc, E.ve, _, rfl, iteF ?_⟩
  refine ⟨_, rfl, .inl ⟨rfl, _, SqL.of h1⟩, p1, _, _, rfl, rfl, h1, rfl, rfl, rfl, _, rfl, iteNS (by rw [kind_one hj]; rfl) ?_⟩
  refine ⟨_, rfl, p6, _, rfl, .inl (SqL.of e_H6), rfl, rfl, _, rfl, iteF ?_⟩
  try dsimp only [tNext]
  refine if_known false (fun Q' hQ => ?_) (iteF ?_)
  · refine ⟨_, rfl, p1, _, _, _, rfl, rfl, SqL.of h1, rfl, _, rfl, ?_⟩
    by_cases z : j = 0
    · rw [decide_eq_true z]
      exact iteF hQ
    · rw [decide_eq_false z]
      cases d with
      | none => exact absurd rfl (hj0 z)
      | some dx =>
        have hD6 := g6 _ _ (hD dx rfl)
        have hna : NoAttr K c "line" := by
          rcases (show j = 1 ∨ j = 2 by omega) with rfl | rfl
          · cases hc; exact hn1
          · cases hc; exact hn2
        refine iteT ⟨_, rfl, e, c, dx, T, _, _, rfl, hA6, hD6, E.xc, hna, rfl, _, rfl, _, rfl, iteF ?_⟩
        exact ⟨_, rfl, e, c, dx, T, _, _, rfl, hA6, hD6, E.xc, hna, rfl, rfl, _, rfl, hQ⟩
  · obtain ⟨a1, a2, a3⟩ := kind_at hj
    refine ⟨by show 3 ≤ sizeLine; decide, fun r hr => ?_⟩
    have k := same_new hr (.lst [V.str (Str.ofString "unlike"), V.str (Str.ofString "twice"), V.str (Str.ofString "large")])
    exact ⟨_, rfl, .inl ⟨rfl, _, SqL.of (k _ _ h1)⟩, p1, _, _, j, rfl, rfl, k _ _ h1, rfl, rfl, hj, a1, a2, r, _, _, _, rfl, rfl, SqL.of upd_same, a3, q _ (g6.trans k)⟩
theorem if_either {c : TT} {t u : TS} {D : Ends} {σ : St} {H : Hp} (hc : ∀ Q : Bool → Hp → Prop, (∀ b, Q b H) → c σ H Q) (ht : t D σ H) (hu : u D σ H) : tIfS c t u D σ H :=
  hc _ fun b => by cases b with | true => exact iteT ht | false => exact iteF hu
inductive IspTurned (K : PySem.W.Frag) (vs : List V) (H : Hp) (Q : VK) (E : XK) : Prop where
  | mk (p : Addr) (ss : List Str) (st : Str) (n m : Nat) (hh0 : vs = [.ref p, .str st, .int n, .int m]) (hh1 : SqL K H p (ss.map V.str)) (hh2 : ss.length ≤ 100) (hh3 : ∀ (r : Addr) (us : List Str) (H' : Hp), Same H H' → H' r = some (.lst (us.map V.str)) → us.length ≤ ss.length + 1 → Q (.ref r) H') : IspTurned K vs H Q E
noncomputable def spTurned (K : PySem.W.Frag) : Sp := fun vs H Q E => IspTurned K vs H Q E
theorem nat_dec {a b : Nat} : decide (V.int (a : Int) = V.int (b : Int)) = decide (a = b) := by
  rw [Bool.eq_iff_iff, decide_eq_true_eq, decide_eq_true_eq]
  exact ⟨fun z => by have := V.int.inj z; omega, fun z => by rw [z]⟩
theorem ok_law_turned {f_law_turned : Addr} {fd_law_turned : FuncData} (F_law_turned : Fun K "_law_turned" "_law_turned" s_law_turned f_law_turned fd_law_turned)
    (z_list : mg "list" = none)
    (z_len : mg "len" = none) :
    FnOk P w K mg base CX0 1 f_law_turned fd_law_turned ["_law_names", "_law_stranger", "_law_number", "_law_most"] (spTurned K) := by
  refine F_law_turned.ok sc_law_turned (fun vs H Q E h => ?_) (fun cdv A outer s H vs Q E hr h => ?_)
  · obtain ⟨p, ss, st, n, m, rfl, hp, hl, q⟩ := h
    rfl
  obtain ⟨p, ss, st, n, m, rfl, hp, hl, q⟩ := h
  refine ⟨_, (pss_cons (ps_set (i := 4) sc_law_turned.nd rfl (Or.inl rfl) (pe_callTy (list_ofK (K := K) rfl) rfl z_list b_list (pa_cons (pv 0) pa_nil)))
      (pss_cons (ps_if (PW.pt (pw_or (pt_cmpR op_eq (pe_callB (len_seqK (K := K) rfl) rfl z_len PySem.boot_len (pa_cons (pv 4) pa_nil)) pe_int (nomark _)) (pw_or1 (PW.pt (pw_and (pt_cmpR op_eq (pe_op op_mod (pv 2) pe_int) pe_int (nomark _)) (pw_and1 (pt_cmpR op_lt (pe_callB (len_seqK (K := K) rfl) rfl z_len PySem.boot_len (pa_cons (pv 4) pa_nil)) (pv 3) (nomark _)))))))) (pss_one (ps_ret (pe_op op_cat (pv 4) (pe_lst (pa_cons (pv 1) pa_nil))))) pss_nil)
      (pss_cons (ps_set (i := 5) sc_law_turned.nd rfl (Or.inl rfl) (pe_op op_mod (pe_op op_fdiv (pv 2) pe_int) (pe_callB (len_seqK (K := K) rfl) rfl z_len PySem.boot_len (pa_cons (pv 4) pa_nil))))
      (pss_cons (ps_if (PW.pt (pw_and (pt_cmpR op_eq (pe_op op_mod (pv 2) pe_int) pe_int (nomark _)) (pw_and1 (pt_cmpR op_gt (pv 5) pe_int (nomark _))))) (pss_cons (ps_set (i := 6) sc_law_turned.nd rfl (Or.inl rfl) (pe_ix (ix_listK (K := K) rfl) (pv 4) pe_int (by intro _ _; rfl)))
      (pss_cons (ps_asg (pe_ix (ix_listK (K := K) rfl) (pv 4) (pv 5) (by intro _ _; rfl)) (pg_sub (pv 4) pe_int set_list))
      (pss_cons (ps_asg (pv 6) (pg_sub (pv 4) (pv 5) set_list))
      (pss_one (ps_ret (pv 4)))))) pss_nil)
      (pss_cons (ps_if (pt_cmpR op_eq (pe_op op_mod (pv 2) pe_int) pe_int (nomark _)) (pss_one (ps_ret (pe_op op_cat (pe_slice (sl_listK (K := K) rfl) (pv 4) po_none (po_some (pv 5))) (pe_slice (sl_listK (K := K) rfl) (pv 4) (po_some (pe_op op_add (pv 5) pe_int)) po_none)))) pss_nil)
      (pss_cons (ps_asg (pv 1) (pg_sub (pv 4) (pv 5) set_list))
      (pss_one (ps_ret (pv 4))))))))), ?_⟩
  refine ⟨_, rfl, p, _, rfl, .inl hp, fun f hf => ?_⟩
  have n_H1 := same_new hf (.lst (ss.map V.str))
  have e_H1 : (upd H f (.lst (ss.map V.str))) f = some (.lst (ss.map V.str)) := upd_same
  generalize upd H f (.lst (ss.map V.str)) = H1 at n_H1 e_H1
  have lz : ∀ {k : Nat}, k ≤ 300 → k ≤ sizeLine := fun h => Nat.le_of_lt (line1000 (by omega))
  refine gn_step ?_
  try dsimp only
  refine if_known (decide (ss.length = 0) || (decide (n % 4 = 0) && decide (ss.length < m))) (fun Q' hQ => ?_) ?_
  · refine ⟨_, rfl, f, _, rfl, .inl (SqL.of e_H1), rfl, _, rfl, ?_⟩
    rw [List.length_map, show decide (V.int ((ss.length : Nat) : Int) = V.int 0) = decide (ss.length = 0) from nat_dec (b := 0)]
    cases h1 : decide (ss.length = 0) with
    | true => rw [h1] at hQ; exact iteT hQ
    | false =>
      rw [h1] at hQ
      refine iteF ⟨_, rfl, _, _, rfl, rfl, (by show (0 : Int) < 4; decide), rfl, _, rfl, ?_⟩
      rw [show decide (V.int ((n : Int) % 4) = V.int 0) = decide (n % 4 = 0) from nat_dec (a := n % 4) (b := 0)]
      cases h2 : decide (n % 4 = 0) with
      | false => rw [h2] at hQ; exact iteF hQ
      | true =>
        rw [h2] at hQ
        refine iteT ⟨_, rfl, f, _, rfl, .inl (SqL.of e_H1), _, rfl, _, _, rfl, rfl, _, rfl, ?_⟩
        rw [List.length_map, show decide (((ss.length : Nat) : Int) < (m : Int)) = decide (ss.length < m) from by rw [Bool.eq_iff_iff, decide_eq_true_eq, decide_eq_true_eq]; omega]
        exact hQ
  cases hb : (decide (ss.length = 0) || (decide (n % 4 = 0) && decide (ss.length < m))) with
  | true =>
    refine iteT ⟨_, rfl, _, rfl, (by show 1 ≤ sizeLine; decide), fun r hr => ⟨f, r, _, _, rfl, rfl, same_new hr (.lst [V.str st]) _ _ e_H1, upd_same, (by rw [List.length_map]; exact lz (show ss.length + 1 ≤ 300 by omega)), fun r2 hr2 => ?_⟩⟩
    refine q r2 (ss ++ [st]) _ (same_one (n_H1.trans (same_new hr (.lst [V.str st]))) hr2 _) ?_ (by rw [List.length_append]; exact Nat.le_refl _)
    rw [List.map_append]; exact upd_same
  | false =>
    have h0 : 0 < ss.length := by
      rw [Bool.or_eq_false_iff, decide_eq_false_iff_not] at hb
      omega
    refine iteF ⟨_, rfl, _, _, rfl, rfl, ⟨by decide, by decide⟩, _, rfl, f, _, rfl, .inl (SqL.of e_H1), _, _, rfl, rfl, (by rw [List.length_map]; omega), ?_⟩
    have ha : n / 4 % ss.length < ss.length := Nat.mod_lt _ h0
    have ea : (n : Int) / 4 % ((ss.length : Nat) : Int) = ((n / 4 % ss.length : Nat) : Int) := rfl
    try dsimp only
    rw [List.length_map, ea]
    generalize n / 4 % ss.length = at' at ha ea
    refine gn_step (if_either (fun Q' hQ => ?_) ?_ ?_)
    · refine ⟨_, rfl, _, _, rfl, rfl, (by show (0 : Int) < 4; decide), rfl, _, rfl, ite2 (fun _ => ?_) (fun _ => hQ _)⟩
      exact ⟨_, rfl, _, _, rfl, rfl, _, rfl, hQ _⟩
    · have i0 : atI (ss.map V.str) 0 = some (V.str ss[0]) := atI_map h0
      refine ⟨_, rfl, f, _, _, _, rfl, rfl, SqL.of e_H1, i0, ?_⟩
      refine ⟨_, rfl, _, rfl, f, _, _, _, rfl, rfl, SqL.of e_H1, atI_map ha, _, rfl, f, _, _, 0, rfl, rfl, e_H1, (by rw [List.length_map]; exact ixN_nat h0), ?_⟩
      have h2 : (upd H1 f (.lst ((ss.map V.str).set 0 (.str ss[at'])))) f = some (.lst ((ss.map V.str).set 0 (.str ss[at']))) := upd_same
      refine ⟨_, rfl, _, rfl, _, rfl, f, _, _, at', rfl, rfl, h2, (by rw [List.length_set, List.length_map]; exact ixN_nat ha), ?_⟩
      refine ⟨_, rfl, q f ((ss.set 0 ss[at']).set at' ss[0]) _ (same_upd (same_upd n_H1 hf _) hf _) ?_ (by rw [List.length_set, List.length_set]; omega)⟩
      rw [List.map_set, List.map_set]; exact upd_same
    · dsimp only [tNext]
      refine if_either (fun Q' hQ => ⟨_, rfl, _, _, rfl, rfl, (by show (0 : Int) < 4; decide), rfl, _, rfl, hQ _⟩) ?_ ?_
      · refine ⟨_, rfl, _, rfl, _, rfl, f, _, rfl, SqL.of e_H1, fun r1 hr1 => ?_⟩
        rw [cut_take V.str]
        have n_H2 := same_new hr1 (.lst ((ss.take at').map V.str))
        have e_H2 : (upd H1 r1 (.lst ((ss.take at').map V.str))) r1 = some (.lst ((ss.take at').map V.str)) := upd_same
        generalize upd H1 r1 (.lst ((ss.take at').map V.str)) = H2 at n_H2 e_H2
        refine ⟨_, rfl, _, rfl, _, _, rfl, rfl, _, rfl, f, _, rfl, SqL.of (n_H2 _ _ e_H1), fun r2 hr2 => ?_⟩
        rw [show ((at' : Int) + 1) = ((at' + 1 : Nat) : Int) from rfl, cut_drop V.str]
        have n_H3 := same_new hr2 (.lst ((ss.drop (at' + 1)).map V.str))
        have e_H3 : (upd H2 r2 (.lst ((ss.drop (at' + 1)).map V.str))) r2 = some (.lst ((ss.drop (at' + 1)).map V.str)) := upd_same
        generalize upd H2 r2 (.lst ((ss.drop (at' + 1)).map V.str)) = H3 at n_H3 e_H3
        refine ⟨r1, r2, _, _, rfl, rfl, n_H3 _ _ e_H2, e_H3, (by rw [List.length_map, List.length_map, List.length_take, List.length_drop]; exact lz (by omega)), fun r3 hr3 => ?_⟩
        rw [← List.map_append]
        exact q r3 _ _ (same_one (n_H1.trans (n_H2.trans n_H3)) hr3 _) upd_same (by rw [List.length_append, List.length_take, List.length_drop]; omega)
      · refine ⟨_, rfl, _, rfl, _, rfl, f, _, _, at', rfl, rfl, e_H1, (by rw [List.length_map]; exact ixN_nat ha), ?_⟩
        refine ⟨_, rfl, q f (ss.set at' st) _ (same_upd n_H1 hf _) ?_ (by rw [List.length_set]; omega)⟩
        rw [List.map_set]; exact upd_same
structure IsOwn (K : PySem.W.Frag) (C : Addr) : Prop where
  cl : Cls K C
  oc : PySem.W.findIn K (.ref C) "__class__" = some (some (.builtin "object.__class__"))
  gs : PySem.W.specialIn K (.builtin "object.__class__") "__get__" = some (some (.builtin "getset_descriptor.__get__"))
  tk : PySem.W.takesIn K (.builtin "object.__class__") = some true
  om : PySem.W.mroIn K C (.type "object") = some true
  ki : PySem.W.kitOne K (.ref C) (.ref C) = some true
noncomputable def nmL (c b n : Nat) : List Str := (List.range n).map fun i => nameS c (b + i)
theorem nmL_len (c b n : Nat) : (nmL c b n).length = n := by unfold nmL; rw [List.length_map, List.length_range]
theorem nmL_snoc (c b n : Nat) : nmL c b (n + 1) = nmL c b n ++ [nameS c (b + n)] := by unfold nmL; rw [List.range_succ, List.map_append]; rfl
theorem nmL_apart {c b f o : Nat} (h : (b = 30 ∧ f ≤ 20 ∧ o ≤ 20) ∨ (b = 130 ∧ f ≤ 60 ∧ o ≤ 60)) : ∀ y ∈ nmL c b o, y ∉ nmL c 0 f := fun y hy hz => by
  unfold nmL at hy hz
  obtain ⟨i, hi, rfl⟩ := List.mem_map.mp hy
  obtain ⟨k, hk, e⟩ := List.mem_map.mp hz
  rw [List.mem_range] at hi hk
  exact name_ne (by omega) (by omega) e
theorem tw_join {t : TE} {i : Nat} {u : TS} {D : Ends} {σ : St} {H : Hp} (b : Bool) (hc : ∀ Q : VK, Q (.bl b) H → t σ H Q) (h : u D (σ.set i (some (.bl b))) H) : tSeq (tAsg t (gName i)) u D σ H := hc _ h
theorem due_same {ts us cs ds : List Str} {tw lg : Bool} {m : Nat} (h1 : tw = ds.any fun y => decide (y ∈ cs)) (h2 : lg = decide (m < cs.length + ds.length)) : kindB (!decide (us = ts)) tw lg = dueJ ts us cs ds m := by
  unfold kindB dueJ dueN
  by_cases e : ts = us
  · subst e
    rw [if_pos rfl, decide_eq_true rfl, h1, h2]
    by_cases z : m < cs.length + ds.length
    · rw [if_pos z, decide_eq_true z]; rfl
    · rw [if_neg z, decide_eq_false z]; rfl
  · rw [if_neg e, decide_eq_false (fun z => e z.symm)]; rfl
theorem due_small {ts us cs ds : List Str} {m j : Nat} (h : dueJ ts us cs ds m = some j) : j < 3 := by
  unfold dueJ dueN at h
  split at h
  · split at h
    · cases h; decide
    · split at h
      · cases h; decide
      · cases h
  · cases h; decide
theorem kind_none : ∀ {o : Option Nat}, (∀ j, o = some j → j < 3) → decide (V.str (kindT o) = V.str (Str.ofString "none")) = o.isNone
  | none, _ => by decide +kernel
  | some 0, _ => by decide +kernel
  | some 1, _ => by decide +kernel
  | some 2, _ => by decide +kernel
  | some (j + 3), h => absurd (h _ rfl) (by omega)
structure Tried (C : Addr) (Cs : List Addr) (H : Hp) (due : Option Nat) (ts cs : List Str) (rs : List Nat) (kv lv : V) : Prop where
  ex : (due = none ∧ kv = .non ∧ ∃ z a b c, lv = .ref z ∧ TabB C H z a b c ts cs rs) ∨ ∃ j c e, due = some j ∧ kv = .ref e ∧ Cs[j]? = some c ∧ Cgt H e c j
inductive IspCounts (vs : List V) (H : Hp) (Q : VK) (E : XK) : Prop where
  | mk (n m : Nat) (hh0 : vs = [.int n, .int m]) (hh1 : m ≤ 60) (hh2 : ∀ (t : Addr) (f o : Nat) (H' : Hp), f ≤ 60 → o ≤ 60 → Same H H' → H' t = some (.tup [nv f, nv o]) → Q (.ref t) H') : IspCounts vs H Q E
noncomputable def spCounts : Sp := fun vs H Q E => IspCounts vs H Q E
theorem ok_law_counts {f_law_counts : Addr} {fd_law_counts : FuncData} (F_law_counts : Fun K "_law_counts" "_law_counts" s_law_counts f_law_counts fd_law_counts) :
    FnOk P w K mg base CX0 1 f_law_counts fd_law_counts ["_law_number", "_law_many"] (spCounts) := by
  refine F_law_counts.ok sc_law_counts (fun vs H Q E h => ?_) (fun cdv A outer s H vs Q E hr h => ?_)
  · obtain ⟨n, m, rfl, hm, q⟩ := h
    rfl
  obtain ⟨n, m, rfl, hm, q⟩ := h
  refine ⟨_, (pss_cons (ps_set (i := 2) sc_law_counts.nd rfl (Or.inl rfl) (pe_op op_mod (pe_op op_fdiv (pv 0) pe_int) (pe_op op_add (pv 1) pe_int)))
      (pss_cons (ps_set (i := 3) sc_law_counts.nd rfl (Or.inl rfl) (pe_op op_sub (pv 1) (pv 2)))
      (pss_cons (ps_if (pt_cmpR op_eq (pe_op op_mod (pv 0) pe_int) pe_int (nomark _)) (pss_one (ps_set (i := 3) sc_law_counts.nd rfl (Or.inl rfl) (pe_op op_sub pe_int (pv 2)))) pss_nil)
      (pss_cons (ps_if (pt_cmpR op_eq (pe_op op_mod (pv 0) pe_int) pe_int (nomark _)) (pss_cons (ps_set (i := 2) sc_law_counts.nd rfl (Or.inl rfl) (pe_op op_add pe_int (pe_op op_mod (pe_op op_fdiv (pv 0) pe_int) pe_int)))
      (pss_one (ps_set (i := 3) sc_law_counts.nd rfl (Or.inl rfl) (pe_op op_add (pe_op op_sub pe_int (pv 2)) (pe_op op_mod (pe_op op_fdiv (pv 0) pe_int) (pv 2)))))) pss_nil)
      (pss_one (ps_ret (pe_tup (pa_cons (pv 2) (pa_cons (pv 3) pa_nil))))))))), ?_⟩
  have h1 : n / 61 % (m + 1) < m + 1 := Nat.mod_lt _ (by omega)
  refine ⟨_, rfl, _, _, rfl, rfl, ⟨by decide, by decide⟩, _, rfl, _, _, rfl, rfl, _, _, rfl, rfl, (by omega), ?_⟩
  try dsimp only
  rw [show (n : Int) / 61 % ((m : Int) + 1) = ((n / 61 % (m + 1) : Nat) : Int) from rfl]
  generalize n / 61 % (m + 1) = f at h1
  refine ⟨_, rfl, _, rfl, _, _, rfl, rfl, ?_⟩
  try dsimp only
  rw [show (m : Int) - (f : Int) = ((m - f : Nat) : Int) by omega]
  refine gn_step ?_
  try dsimp only
  refine seq_join (fun σ H2 => ∃ o : Nat, σ = [some (.int n), some (.int m), some (.int f), some (.int o)] ∧ o ≤ 60 ∧ H = H2) ?_ fun nx' hnx => ?_
  case refine_2 =>
    refine ⟨_, rfl, _, _, rfl, rfl, (by show (0 : Int) < 4; decide), rfl, _, rfl, ite2 (fun _ => ?_) (fun _ => hnx _ _ ⟨m - f, rfl, by omega, rfl⟩)⟩
    refine ⟨_, rfl, _, _, rfl, rfl, hnx _ _ ⟨60 - f, ?_, by omega, rfl⟩⟩
    try dsimp only
    rw [show (60 : Int) - (f : Int) = ((60 - f : Nat) : Int) by omega]; rfl
  rintro σ H2 ⟨o, rfl, ho, rfl⟩
  refine seq_join (fun σ H2 => ∃ f o : Nat, σ = [some (.int n), some (.int m), some (.int f), some (.int o)] ∧ f ≤ 60 ∧ o ≤ 60 ∧ H = H2) ?_ fun nx' hnx => ?_
  case refine_2 =>
    refine ⟨_, rfl, _, _, rfl, rfl, (by show (0 : Int) < 4; decide), rfl, _, rfl, ite2 (fun _ => ?_) (fun _ => hnx _ _ ⟨f, o, rfl, by omega, ho, rfl⟩)⟩
    refine ⟨_, rfl, _, _, rfl, rfl, ⟨by decide, by decide⟩, _, _, rfl, rfl, (by show (0 : Int) < 60; decide), _, _, rfl, rfl, ?_⟩
    try dsimp only
    rw [show (1 : Int) + (n : Int) / 61 % 60 = ((1 + n / 61 % 60 : Nat) : Int) from rfl]
    have hf1 : n / 61 % 60 < 60 := Nat.mod_lt _ (by decide)
    generalize n / 61 % 60 = f1 at hf1
    obtain ⟨o1, eo1, ho1⟩ := emod_nat ((n : Int) / 3660) (n := 1 + f1) (by omega)
    refine ⟨_, rfl, _, _, rfl, rfl, _, rfl, _, _, rfl, rfl, ⟨by decide, by decide⟩, _, rfl, _, _, rfl, rfl, (by omega), _, _, rfl, rfl, hnx _ _ ⟨1 + f1, 60 - f1 + o1, ?_, by omega, by omega, rfl⟩⟩
    try dsimp only
    rw [eo1, show (61 : Int) - ((1 + f1 : Nat) : Int) + (o1 : Int) = ((60 - f1 + o1 : Nat) : Int) by omega]; rfl
  rintro σ H2 ⟨f, o, rfl, hf, ho, rfl⟩
  exact ⟨_, rfl, _, rfl, two_line, fun t ht => q t f o _ hf ho (same_new ht _) upd_same⟩
theorem ok_law {f_law : Addr} {fd_law : FuncData} (F_law : Fun K "law" "law" s_law f_law fd_law)
    (IS : IsOwn K C_Table) (hem : ∀ (j : Nat) (c : Addr), [C_Unlike, C_Twice, C_TooLarge][j]? = some c → PySem.W.exmOne K (.ref c) (.ref C_TraitError) = some true)
    {f_law_mixed : Addr} {fd_law_mixed : FuncData} (G_law_mixed : FnOk P w K mg base CX0 1 f_law_mixed fd_law_mixed ["_law_number", "_law_k"] (spMixed)) (b_law_mixed : Binds K fd_law_mixed ["_law_number", "_law_k"] []) (k_law_mixed : PySem.W.keepIn K (.ref f_law_mixed) = true) (m_law_mixed : mg "_law_mixed" = some (.ref f_law_mixed))
    {f_law_cell_at : Addr} {fd_law_cell_at : FuncData} (G_law_cell_at : FnOk P w K mg base CX0 1 f_law_cell_at fd_law_cell_at ["_law_script", "_law_k"] (spCell K)) (b_law_cell_at : Binds K fd_law_cell_at ["_law_script", "_law_k"] []) (k_law_cell_at : PySem.W.keepIn K (.ref f_law_cell_at) = true) (m_law_cell_at : mg "_law_cell_at" = some (.ref f_law_cell_at))
    {f_law_counts : Addr} {fd_law_counts : FuncData} (G_law_counts : FnOk P w K mg base CX0 1 f_law_counts fd_law_counts ["_law_number", "_law_many"] (spCounts)) (b_law_counts : Binds K fd_law_counts ["_law_number", "_law_many"] []) (k_law_counts : PySem.W.keepIn K (.ref f_law_counts) = true) (m_law_counts : mg "_law_counts" = some (.ref f_law_counts))
    {f_law_name_by : Addr} {fd_law_name_by : FuncData} (G_law_name_by : FnOk P w K mg base CX0 1 f_law_name_by fd_law_name_by ["_law_cell", "_law_k"] (spName)) (b_law_name_by : Binds K fd_law_name_by ["_law_cell", "_law_k"] []) (k_law_name_by : PySem.W.keepIn K (.ref f_law_name_by) = true) (m_law_name_by : mg "_law_name_by" = some (.ref f_law_name_by))
    {f_law_turned : Addr} {fd_law_turned : FuncData} (G_law_turned : FnOk P w K mg base CX0 1 f_law_turned fd_law_turned ["_law_names", "_law_stranger", "_law_number", "_law_most"] (spTurned K)) (b_law_turned : Binds K fd_law_turned ["_law_names", "_law_stranger", "_law_number", "_law_most"] []) (k_law_turned : PySem.W.keepIn K (.ref f_law_turned) = true) (m_law_turned : mg "_law_turned" = some (.ref f_law_turned))
    {f_law_made : Addr} {fd_law_made : FuncData} (G_law_made : FnOk P w K mg base CX0 3 f_law_made fd_law_made ["_law_things", "_law_heads", "_law_sets"] (spTbMade K C_Table)) (b_law_made : Binds K fd_law_made ["_law_things", "_law_heads", "_law_sets"] []) (k_law_made : PySem.W.keepIn K (.ref f_law_made) = true) (m_law_made : mg "_law_made" = some (.ref f_law_made))
    {f_upon : Addr} {fd_upon : FuncData} (G_upon : FnOk P w K mg base (CXE P w) 5 f_upon fd_upon ["one", "other"] (spUponE C_Table [C_Unlike, C_Twice, C_TooLarge])) (b_upon : Binds K fd_upon ["one", "other"] []) (k_upon : PySem.W.keepIn K (.ref f_upon) = true) (m_upon : mg "upon" = some (.ref f_upon))
    {f_law_due_kind : Addr} {fd_law_due_kind : FuncData} (G_law_due_kind : FnOk P w K mg base CX0 1 f_law_due_kind fd_law_due_kind ["_law_unlike", "_law_twice", "_law_large"] (spDueK)) (b_law_due_kind : Binds K fd_law_due_kind ["_law_unlike", "_law_twice", "_law_large"] []) (k_law_due_kind : PySem.W.keepIn K (.ref f_law_due_kind) = true) (m_law_due_kind : mg "_law_due_kind" = some (.ref f_law_due_kind))
    {f_law_table_alike : Addr} {fd_law_table_alike : FuncData} (G_law_table_alike : FnOk P w K mg base CX0 3 f_law_table_alike fd_law_table_alike ["_law_table", "_law_things", "_law_heads", "_law_sets"] (spTbAlike K C_Table)) (b_law_table_alike : Binds K fd_law_table_alike ["_law_table", "_law_things", "_law_heads", "_law_sets"] []) (k_law_table_alike : PySem.W.keepIn K (.ref f_law_table_alike) = true) (m_law_table_alike : mg "_law_table_alike" = some (.ref f_law_table_alike))
    {f_law_kind : Addr} {fd_law_kind : FuncData} (G_law_kind : FnOk P w K mg base CX0 2 f_law_kind fd_law_kind ["_law_error"] (spKind [C_Unlike, C_Twice, C_TooLarge])) (b_law_kind : Binds K fd_law_kind ["_law_error"] []) (k_law_kind : PySem.W.keepIn K (.ref f_law_kind) = true) (m_law_kind : mg "_law_kind" = some (.ref f_law_kind))
    (m_TraitError : mg "TraitError" = some (.ref C_TraitError))
    (m_Table : mg "Table" = some (.ref C_Table))
    (z_len : mg "len" = none)
    (z_range : mg "range" = none)
    (z_list : mg "list" = none)
    (z_isinstance : mg "isinstance" = none) :
    FnOk P w K mg base CX0 6 f_law fd_law ["_law_script"] (spLaw K) := by
  refine F_law.ok sc_law (fun vs H Q E h => ?_) (fun cdv A outer s H vs Q E hr h => ?_)
  · obtain ⟨a0, ns, rfl, hA, hn, q⟩ := h
    rfl
  obtain ⟨a0, ns, rfl, hA, hn, q⟩ := h
  refine ⟨_, (pss_cons (ps_set (i := 1) sc_law.nd rfl (Or.inr rfl) (pe_call G_law_mixed (hr.mono (by decide)) rfl m_law_mixed k_law_mixed b_law_mixed .nil pass0 (pa_cons (pe_call G_law_cell_at (hr.mono (by decide)) rfl m_law_cell_at k_law_cell_at b_law_cell_at .nil pass0 (pa_cons (pv 0) (pa_cons pe_int pa_nil))) (pa_cons pe_int pa_nil))))
      (pss_cons (ps_set (i := 2) sc_law.nd rfl (Or.inr rfl) (pe_comp (own := ["_law_cell"]) rfl (pi_listK (K := K) rfl (pe_slice (sl_listK (K := K) rfl) (pv 0) (po_some pe_int) (po_some pe_int))) (fun _ _ _ _ _ => (pg_name (i := 0) nd_law_2 rfl (Or.inl rfl))) (fun _ _ _ _ _ => pif_nil) (fun _ _ _ _ _ => (pe_op op_mod (pv 0) pe_int))))
      (pss_cons (ps_set (i := 3) sc_law.nd rfl (Or.inr rfl) (pe_call G_law_counts (hr.mono (by decide)) rfl m_law_counts k_law_counts b_law_counts .nil pass0 (pa_cons (pv 1) (pa_cons (pe_callB (len_seqK (K := K) rfl) rfl z_len PySem.boot_len (pa_cons (pv 2) pa_nil)) pa_nil))))
      (pss_cons (ps_set (i := 4) sc_law.nd rfl (Or.inr rfl) (pe_op op_mod (pe_call G_law_cell_at (hr.mono (by decide)) rfl m_law_cell_at k_law_cell_at b_law_cell_at .nil pass0 (pa_cons (pv 0) (pa_cons pe_int pa_nil))) pe_int))
      (pss_cons (ps_setcomp (i := 5) (own := ["_law_k"]) rfl sc_law.nd rfl (Or.inl rfl) (pi_range1 rfl z_range (pa_cons (pv 4) pa_nil)) (fun _ _ _ _ _ => (pg_name (i := 0) nd_law_3 rfl (Or.inl rfl))) (fun _ _ _ _ _ => pif_nil) (fun _ _ _ _ _ => (pe_call G_law_name_by (hr.mono (by decide)) rfl m_law_name_by k_law_name_by b_law_name_by .nil pass0 (pa_cons (pe_call G_law_cell_at (hr.mono (by decide)) rfl m_law_cell_at k_law_cell_at b_law_cell_at .nil pass0 (pa_cons (pv 1) (pa_cons pe_int pa_nil))) (pa_cons (pv 0) pa_nil)))))
      (pss_cons (ps_setcomp (i := 6) (own := ["_law_k"]) rfl sc_law.nd rfl (Or.inl rfl) (pi_range1 rfl z_range (pa_cons (pe_ix (ix_tupK (K := K) rfl) (pv 3) pe_int (by intro _ _; rfl)) pa_nil)) (fun _ _ _ _ _ => (pg_name (i := 0) nd_law_4 rfl (Or.inl rfl))) (fun _ _ _ _ _ => pif_nil) (fun _ _ _ _ _ => (pe_call G_law_name_by (hr.mono (by decide)) rfl m_law_name_by k_law_name_by b_law_name_by .nil pass0 (pa_cons (pe_call G_law_cell_at (hr.mono (by decide)) rfl m_law_cell_at k_law_cell_at b_law_cell_at .nil pass0 (pa_cons (pv 1) (pa_cons pe_int pa_nil))) (pa_cons (pv 0) pa_nil)))))
      (pss_cons (ps_setcomp (i := 7) (own := ["_law_k"]) rfl sc_law.nd rfl (Or.inl rfl) (pi_range1 rfl z_range (pa_cons (pe_ix (ix_tupK (K := K) rfl) (pv 3) pe_int (by intro _ _; rfl)) pa_nil)) (fun _ _ _ _ _ => (pg_name (i := 0) nd_law_5 rfl (Or.inl rfl))) (fun _ _ _ _ _ => pif_nil) (fun _ _ _ _ _ => (pe_call G_law_name_by (hr.mono (by decide)) rfl m_law_name_by k_law_name_by b_law_name_by .nil pass0 (pa_cons (pe_call G_law_cell_at (hr.mono (by decide)) rfl m_law_cell_at k_law_cell_at b_law_cell_at .nil pass0 (pa_cons (pv 1) (pa_cons pe_int pa_nil))) (pa_cons (pe_op op_add pe_int (pv 0)) pa_nil)))))
      (pss_cons (ps_set (i := 8) sc_law.nd rfl (Or.inl rfl) (pe_call G_law_mixed (hr.mono (by decide)) rfl m_law_mixed k_law_mixed b_law_mixed .nil pass0 (pa_cons (pe_call G_law_cell_at (hr.mono (by decide)) rfl m_law_cell_at k_law_cell_at b_law_cell_at .nil pass0 (pa_cons (pv 0) (pa_cons pe_int pa_nil))) (pa_cons pe_int pa_nil))))
      (pss_cons (ps_set (i := 9) sc_law.nd rfl (Or.inl rfl) (pe_and (pe_cmpR op_eq (pe_op op_mod (pv 8) pe_int) pe_int (nomark _)) (pe_and (pe_cmpR op_gt (pe_ix (ix_tupK (K := K) rfl) (pv 3) pe_int (by intro _ _; rfl)) pe_int (nomark _)) (pe_one (pe_cmpR op_gt (pe_ix (ix_tupK (K := K) rfl) (pv 3) pe_int (by intro _ _; rfl)) pe_int (nomark _))))))
      (pss_cons (ps_if (pt_val (pv 9)) (pss_one (ps_asg (pe_ix (ix_listK (K := K) rfl) (pv 6) (pe_op op_mod (pe_op op_fdiv (pv 8) pe_int) (pe_ix (ix_tupK (K := K) rfl) (pv 3) pe_int (by intro _ _; rfl))) (by intro _ _; rfl)) (pg_sub (pv 7) (pe_op op_mod (pe_op op_fdiv (pv 8) pe_int) (pe_ix (ix_tupK (K := K) rfl) (pv 3) pe_int (by intro _ _; rfl))) set_list))) pss_nil)
      (pss_cons (ps_set (i := 10) sc_law.nd rfl (Or.inr rfl) (pe_callTy (list_ofK (K := K) rfl) rfl z_list b_list (pa_cons (pv 5) pa_nil)))
      (pss_cons (ps_if (pt_cmpR op_eq (pe_op op_mod (pe_op op_fdiv (pv 8) pe_int) pe_int) pe_int (nomark _)) (pss_one (ps_set (i := 10) sc_law.nd rfl (Or.inr rfl) (pe_call G_law_turned (hr.mono (by decide)) rfl m_law_turned k_law_turned b_law_turned .nil pass0 (pa_cons (pv 5) (pa_cons (pe_call G_law_name_by (hr.mono (by decide)) rfl m_law_name_by k_law_name_by b_law_name_by .nil pass0 (pa_cons (pe_call G_law_cell_at (hr.mono (by decide)) rfl m_law_cell_at k_law_cell_at b_law_cell_at .nil pass0 (pa_cons (pv 0) (pa_cons pe_int pa_nil))) (pa_cons pe_int pa_nil))) (pa_cons (pe_op op_fdiv (pv 8) pe_int) (pa_cons pe_int pa_nil))))))) pss_nil)
      (pss_cons (ps_set (i := 2) sc_law.nd rfl (Or.inr rfl) (pe_op op_cat (pv 2) (pe_comp (own := ["_law_k"]) rfl (pi_range1 rfl z_range (pa_cons (pe_op op_add (pe_ix (ix_tupK (K := K) rfl) (pv 3) pe_int (by intro _ _; rfl)) (pe_ix (ix_tupK (K := K) rfl) (pv 3) pe_int (by intro _ _; rfl))) pa_nil)) (fun _ _ _ _ _ => (pg_name (i := 0) nd_law_6 rfl (Or.inl rfl))) (fun _ _ _ _ _ => pif_nil) (fun _ _ _ _ _ => (pe_call G_law_mixed (hr.mono (by decide)) rfl m_law_mixed k_law_mixed b_law_mixed .nil pass0 (pa_cons (pv 2) (pa_cons (pv 0) pa_nil)))))))
      (pss_cons (ps_setcomp (i := 11) (own := ["_law_k"]) rfl sc_law.nd rfl (Or.inl rfl) (pi_range1 rfl z_range (pa_cons (pe_ix (ix_tupK (K := K) rfl) (pv 3) pe_int (by intro _ _; rfl)) pa_nil)) (fun _ _ _ _ _ => (pg_name (i := 0) nd_law_7 rfl (Or.inl rfl))) (fun _ _ _ _ _ => pif_nil) (fun _ _ _ _ _ => (pe_op op_mod (pe_call G_law_mixed (hr.mono (by decide)) rfl m_law_mixed k_law_mixed b_law_mixed .nil pass0 (pa_cons (pe_ix (ix_listK (K := K) rfl) (pv 3) (pv 0) (by intro _ _; rfl)) (pa_cons pe_int pa_nil))) (pe_op op_shl pe_int (pv 5)))))
      (pss_cons (ps_setcomp (i := 12) (own := ["_law_k"]) rfl sc_law.nd rfl (Or.inl rfl) (pi_range1 rfl z_range (pa_cons (pe_ix (ix_tupK (K := K) rfl) (pv 3) pe_int (by intro _ _; rfl)) pa_nil)) (fun _ _ _ _ _ => (pg_name (i := 0) nd_law_8 rfl (Or.inl rfl))) (fun _ _ _ _ _ => pif_nil) (fun _ _ _ _ _ => (pe_op op_mod (pe_call G_law_mixed (hr.mono (by decide)) rfl m_law_mixed k_law_mixed b_law_mixed .nil pass0 (pa_cons (pe_ix (ix_listK (K := K) rfl) (pv 3) (pe_op op_add (pe_ix (ix_tupK (K := K) rfl) (pv 4) pe_int (by intro _ _; rfl)) (pv 0)) (by intro _ _; rfl)) (pa_cons pe_int pa_nil))) (pe_op op_shl pe_int (pe_callB (len_seqK (K := K) rfl) rfl z_len PySem.boot_len (pa_cons (pv 11) pa_nil))))))
      (pss_cons (ps_set (i := 13) sc_law.nd rfl (Or.inl rfl) (pe_call G_law_made (hr.mono (by decide)) rfl m_law_made k_law_made b_law_made .nil pass0 (pa_cons (pv 6) (pa_cons (pv 5) (pa_cons (pv 11) pa_nil)))))
      (pss_cons (ps_set (i := 14) sc_law.nd rfl (Or.inl rfl) (pe_call G_law_made (hr.mono (by decide)) rfl m_law_made k_law_made b_law_made .nil pass0 (pa_cons (pv 7) (pa_cons (pv 10) (pa_cons (pv 12) pa_nil)))))
      (pss_cons (ps_set (i := 15) sc_law.nd rfl (Or.inl rfl) pe_non)
      (pss_cons (ps_set (i := 16) sc_law.nd rfl (Or.inl rfl) pe_non)
      (pss_cons (ps_try (K := K) (CT := C_TraitError) (i := 17) rfl ⟨rfl, rfl⟩ sc_law.nd rfl rfl rfl m_TraitError (fun pn W EX hp => (pss_one (ps_set (i := 16) sc_law.nd rfl (Or.inl rfl) (pe_callE G_upon (hr.mono (by decide)) rfl m_upon k_upon b_upon .nil hp (pa_cons (pv 13) (pa_cons (pv 14) pa_nil)))))) (fun a => (pss_one (ps_set (i := 15) sc_law.nd rfl (Or.inl rfl) (pv 17)))))
      (pss_cons (ps_set (i := 18) sc_law.nd rfl (Or.inl rfl) (pe_call G_law_due_kind (hr.mono (by decide)) rfl m_law_due_kind k_law_due_kind b_law_due_kind .nil pass0 (pa_cons (pe_cmpR (op_neLK (K := K) rfl hr.units0) (pv 10) (pv 5) (nomark _)) (pa_cons (pv 9) (pa_cons (pe_cmpR op_gt (pe_op op_add (pe_ix (ix_tupK (K := K) rfl) (pv 3) pe_int (by intro _ _; rfl)) (pe_ix (ix_tupK (K := K) rfl) (pv 3) pe_int (by intro _ _; rfl))) pe_int (nomark _)) pa_nil)))))
      (pss_cons (ps_if (PW.pt (pw_or (pt_not (pt_val (pe_call G_law_table_alike (hr.mono (by decide)) rfl m_law_table_alike k_law_table_alike b_law_table_alike .nil pass0 (pa_cons (pv 13) (pa_cons (pv 6) (pa_cons (pv 5) (pa_cons (pv 11) pa_nil))))))) (pw_or1 (pt_not (pt_val (pe_call G_law_table_alike (hr.mono (by decide)) rfl m_law_table_alike k_law_table_alike b_law_table_alike .nil pass0 (pa_cons (pv 14) (pa_cons (pv 7) (pa_cons (pv 10) (pa_cons (pv 12) pa_nil)))))))))) (pss_one (ps_ret pe_bl)) pss_nil)
      (pss_cons (ps_if (pt_cmpR op_ne (pv 18) pe_str (nomark _)) (pss_one (ps_ret (pe_and (pe_cmpR op_notN (pv 15) pe_non (nomark _)) (pe_one (pe_cmpR op_eq (pe_call G_law_kind (hr.mono (by decide)) rfl m_law_kind k_law_kind b_law_kind .nil pass0 (pa_cons (pv 15) pa_nil)) (pv 18) (nomark _)))))) pss_nil)
      (pss_cons (ps_if (PW.pt (pw_or (pt_cmpR op_notN (pv 15) pe_non (nomark _)) (pw_or1 (pt_not (pt_val (pe_callB (isiK (K := K) rfl) rfl z_isinstance b_isinstance (pa_cons (pv 16) (pa_cons (pe_glob (v := .ref C_Table) rfl m_Table rfl) pa_nil)))))))) (pss_one (ps_ret pe_bl)) pss_nil)
      (pss_one (ps_ret (pe_call G_law_table_alike (hr.mono (by decide)) rfl m_law_table_alike k_law_table_alike b_law_table_alike .nil pass0 (pa_cons (pv 16) (pa_cons (pe_op op_cat (pv 6) (pv 7)) (pa_cons (pv 5) (pa_cons (pe_op op_cat (pv 11) (pv 12)) pa_nil))))))))))))))))))))))))))))))), ?_⟩
  obtain ⟨c1, ec1, hc1⟩ := emod_nat (ns.getD 1 0) (n := 1000003) (by decide)
  have ec1 : ns.getD 1 0 % 1000003 = (c1 : Int) := ec1
  obtain ⟨c2, ec2, hc2⟩ := emod_nat (ns.getD 2 0) (n := 1000003) (by decide)
  have ec2 : ns.getD 2 0 % 1000003 = (c2 : Int) := ec2
  -- number, cells
  refine ⟨_, rfl, a0, ns, 3, rfl, hA, _, 0, rfl, by decide, fun N hN => ?_⟩
  refine ⟨_, rfl, _, rfl, _, rfl, a0, _, rfl, hA, fun p0 hp0 => ⟨p0, rfl, ⟨_, SqL.of upd_same⟩, ?_⟩⟩
  have hcl : (cutV (ns.map V.int) (some 5) (some 65)).length ≤ 60 := cut_len ns (a := 5) (b := 65)
  obtain ⟨cs, ecs, _⟩ := cutV_ints ns (some 5) (some 65)
  try dsimp only
  rw [ecs] at hcl ⊢
  rw [List.length_map] at hcl
  have n_H1 := same_new hp0 (.lst (cs.map V.int))
  have e_H1 : (upd H p0 (.lst (cs.map V.int))) p0 = some (.lst (cs.map V.int)) := upd_same
  generalize upd H p0 (.lst (cs.map V.int)) = H1 at n_H1 e_H1
  refine comp_list (K := K) (a := p0) (xs := cs.map V.int) (fun i ys H2 => ∃ ks : List Nat, ys = ks.map nv ∧ ks.length = i ∧ H1 = H2) (by rw [List.length_map]; exact line1000 (by omega)) ⟨[], rfl, rfl, rfl⟩ (fun i ys H2 hi ⟨ks, e, l, _⟩ => by rw [e, List.length_map, l]; exact Nat.le_refl _) (fun i ys H2 hi ⟨_, _, _, e⟩ => e ▸ SqL.of e_H1) (fun i x ys H2 hi h => ?_) (fun ys H2 h => ?_)
  · obtain ⟨ks, rfl, l, rfl⟩ := h
    obtain ⟨hil, rfl⟩ := getI hi
    obtain ⟨m, em, hm⟩ := emod_nat cs[i] (n := 1000000007) (by decide)
    refine ⟨rfl, _, rfl, _, _, rfl, rfl, (by show (0 : Int) < 1000000007; decide), ks ++ [m], ?_, by rw [List.length_append, l]; rfl, rfl⟩
    rw [List.map_append]
    show _ ++ [V.int (cs[i] % ((1000000007 : Nat) : Int))] = _
    rw [em]; rfl
  obtain ⟨ks, rfl, hks, rfl⟩ := h
  rw [List.length_map] at hks
  intro p hp
  have n_H2 := same_new hp (.lst (ks.map nv))
  have e_H2 : (upd H1 p (.lst (ks.map nv))) p = some (.lst (ks.map nv)) := upd_same
  generalize upd H1 p (.lst (ks.map nv)) = H2 at n_H2 e_H2
  have hkl : ks.length ≤ 60 := by omega
  have g2 := n_H1.trans n_H2
  -- counts, wide
  refine ⟨_, rfl, _, rfl, p, _, rfl, .inl (SqL.of e_H2), N, ks.length, (by rw [List.length_map]; rfl), hkl, fun cn f o J2 hf ho n22 hcn => ?_⟩
  have g2 := g2.trans n22
  have hp2 := n22 _ _ e_H2
  clear n22 e_H2 n_H2 n_H1 e_H1
  obtain ⟨wd, ewd, hwd⟩ := emod_nat (ns.getD 0 0) (n := 11) (by decide)
  have ewd : ns.getD 0 0 % 11 = (wd : Int) := ewd
  refine ⟨_, rfl, a0, ns, 0, rfl, g2.seq hA, _, _, rfl, rfl, (by show (0 : Int) < 11; decide), ?_⟩
  try dsimp only
  rw [ewd]
  -- heads, some, more
  refine ⟨_, rfl, _, rfl, by omega, by omega, ?_⟩
  rw [Int.toNat_natCast]
  refine comp_range (k := wd) (fun i ys J => ys = (nmL c1 0 i).map V.str ∧ Same J2 J) (line1000 (by omega)) ⟨rfl, Same.refl _⟩ (fun i ys J hi h => by rw [h.1, List.length_map, nmL_len]; exact Nat.le_refl _) (fun i ys J hi h => ?_) (fun ys J3 h => ?_)
  · obtain ⟨rfl, g⟩ := h
    refine ⟨rfl, _, rfl, a0, ns, 1, rfl, (g2.trans g).seq hA, _, rfl, ns.getD 1 0, 0 + i, c1, (by rw [Int.zero_add, Nat.zero_add]; rfl), by omega, ec1, fun J' g' => ⟨?_, g.trans g'⟩⟩
    rw [nmL_snoc, List.map_append]; rfl
  obtain ⟨rfl, kJ3⟩ := h
  intro h5 hh5
  have n_H3 := same_new hh5 (.lst ((nmL c1 0 wd).map V.str))
  have e_H3 : (upd J3 h5 (.lst ((nmL c1 0 wd).map V.str))) h5 = some (.lst ((nmL c1 0 wd).map V.str)) := upd_same
  generalize upd J3 h5 (.lst ((nmL c1 0 wd).map V.str)) = H3 at n_H3 e_H3
  have k23 := kJ3.trans n_H3
  have g3 := g2.trans k23
  have hp3 := k23 _ _ hp2
  have hcn3 := k23 _ _ hcn
  refine ⟨_, rfl, cn, _, _, _, rfl, rfl, SqT.of hcn3, tup0 _ _, _, rfl, by omega, by omega, ?_⟩
  rw [Int.toNat_natCast]
  refine comp_range (k := f) (fun i ys J => ys = (nmL c2 0 i).map V.str ∧ Same H3 J) (line1000 (by omega)) ⟨rfl, Same.refl _⟩ (fun i ys J hi h => by rw [h.1, List.length_map, nmL_len]; exact Nat.le_refl _) (fun i ys J hi h => ?_) (fun ys J4 h => ?_)
  · obtain ⟨rfl, g⟩ := h
    refine ⟨rfl, _, rfl, a0, ns, 2, rfl, (g3.trans g).seq hA, _, rfl, ns.getD 2 0, 0 + i, c2, (by rw [Int.zero_add, Nat.zero_add]; rfl), by omega, ec2, fun J' g' => ⟨?_, g.trans g'⟩⟩
    rw [nmL_snoc, List.map_append]; rfl
  obtain ⟨rfl, kJ4⟩ := h
  intro s6 hs6
  have n_H4 := same_new hs6 (.lst ((nmL c2 0 f).map V.str))
  have e_H4 : (upd J4 s6 (.lst ((nmL c2 0 f).map V.str))) s6 = some (.lst ((nmL c2 0 f).map V.str)) := upd_same
  generalize upd J4 s6 (.lst ((nmL c2 0 f).map V.str)) = H4 at n_H4 e_H4
  have k34 := kJ4.trans n_H4
  have g4 := g3.trans k34
  have hp4 := k34 _ _ hp3
  have hcn4 := k34 _ _ hcn3
  have hh4 := k34 _ _ e_H3
  refine ⟨_, rfl, cn, _, _, _, rfl, rfl, SqT.of hcn4, tup1 _ _, _, rfl, by omega, by omega, ?_⟩
  rw [Int.toNat_natCast]
  refine comp_range (k := o) (fun i ys J => ys = (nmL c2 130 i).map V.str ∧ Same H4 J) (line1000 (by omega)) ⟨rfl, Same.refl _⟩ (fun i ys J hi h => by rw [h.1, List.length_map, nmL_len]; exact Nat.le_refl _) (fun i ys J hi h => ?_) (fun ys J5 h => ?_)
  · obtain ⟨rfl, g⟩ := h
    refine ⟨rfl, _, rfl, a0, ns, 2, rfl, (g4.trans g).seq hA, _, rfl, _, _, rfl, rfl, ns.getD 2 0, 130 + i, c2, (by rw [Int.zero_add]; rfl), by omega, ec2, fun J' g' => ⟨?_, g.trans g'⟩⟩
    rw [nmL_snoc, List.map_append]; rfl
  obtain ⟨rfl, kJ5⟩ := h
  intro m7 hm7
  have n_H5 := same_new hm7 (.lst ((nmL c2 130 o).map V.str))
  have e_H5 : (upd J5 m7 (.lst ((nmL c2 130 o).map V.str))) m7 = some (.lst ((nmL c2 130 o).map V.str)) := upd_same
  generalize upd J5 m7 (.lst ((nmL c2 130 o).map V.str)) = H5 at n_H5 e_H5
  have k45 := kJ5.trans n_H5
  have g5 := g4.trans k45
  have hp5 := k45 _ _ hp4
  have hcn5 := k45 _ _ hcn4
  have hh5' := k45 _ _ hh4
  have hs5 := k45 _ _ e_H4
  have om7 : H m7 = none := g4.free (kJ5.free hm7)
  have d7c : cn ≠ m7 := fun e => by rw [← e, kJ5 _ _ hcn4] at hm7; cases hm7
  have d7s : s6 ≠ m7 := fun e => by rw [← e, kJ5 _ _ e_H4] at hm7; cases hm7
  have d7h : h5 ≠ m7 := fun e => by rw [← e, kJ5 _ _ hh4] at hm7; cases hm7
  have d7p : p ≠ m7 := fun e => by rw [← e, kJ5 _ _ hp4] at hm7; cases hm7
  clear kJ3 k23 kJ4 k34 kJ5 k45 n_H3 n_H4 n_H5 e_H3 e_H4 hp3 hp4 hcn3 hcn4 hcn hp2 hh4 g2 g3 g4 hm7 hh5 hs6 hp hp0
  have hap := nmL_apart (c := c2) (b := 130) (f := f) (o := o) (by omega)
  have hhl : (nmL c1 0 wd).length = wd := nmL_len _ _ _
  have hsl : (nmL c2 0 f).length = f := nmL_len _ _ _
  generalize nmL c1 0 wd = hds at hh5' hhl
  generalize nmL c2 0 f = som at hs5 hsl hap
  have hml : (nmL c2 130 o).length = o := nmL_len _ _ _
  generalize nmL c2 130 o = mor at e_H5 hml hap
  -- mixed, twice
  refine ⟨_, rfl, a0, ns, 3, rfl, g5.seq hA, _, 1, rfl, by decide, fun M hM => ?_⟩
  refine gn_step ?_
  try dsimp only
  refine tw_join (decide (M % 4 = 1) && (decide (0 < f) && decide (0 < o))) (fun Q' hQ => ?_) ?_
  · refine ⟨_, rfl, _, _, rfl, rfl, (by show (0 : Int) < 4; decide), rfl, _, rfl, ?_⟩
    rw [show decide (V.int ((M : Int) % 4) = V.int 1) = decide (M % 4 = 1) from nat_dec (a := M % 4) (b := 1)]
    cases h1 : decide (M % 4 = 1) with
    | false => rw [h1] at hQ; exact iteF hQ
    | true =>
      rw [h1] at hQ
      refine iteT ⟨_, rfl, cn, _, _, _, rfl, rfl, SqT.of hcn5, tup0 _ _, _, _, rfl, rfl, _, rfl, ?_⟩
      rw [show decide ((0 : Int) < (f : Int)) = decide (0 < f) from by rw [Bool.eq_iff_iff, decide_eq_true_eq, decide_eq_true_eq]; omega]
      cases h2 : decide (0 < f) with
      | false => rw [h2] at hQ; exact iteF hQ
      | true =>
        rw [h2] at hQ
        refine iteT ⟨_, rfl, cn, _, _, _, rfl, rfl, SqT.of hcn5, tup1 _ _, _, _, rfl, rfl, ?_⟩
        try dsimp only
        rw [show decide ((0 : Int) < (o : Int)) = decide (0 < o) from by rw [Bool.eq_iff_iff, decide_eq_true_eq, decide_eq_true_eq]; omega]
        exact hQ
  have htw : (decide (M % 4 = 1) && (decide (0 < f) && decide (0 < o))) = true → 0 < f ∧ 0 < o := fun h => by
    simp only [Bool.and_eq_true, decide_eq_true_eq] at h; exact h.2
  generalize (decide (M % 4 = 1) && (decide (0 < f) && decide (0 < o))) = tw at htw
  refine seq_join (fun σ J => ∃ us : List Str, σ = [some (.ref a0), some (nv N), some (.ref p), some (.ref cn), some (.int wd), some (.ref h5), some (.ref s6), some (.ref m7), some (nv M), some (.bl tw), none, none, none, none, none, none, none, none, none] ∧ (tw = us.any fun y => decide (y ∈ som)) ∧ us.length = o ∧ J m7 = some (.lst (us.map V.str)) ∧ J p = some (.lst (ks.map nv)) ∧ J h5 = some (.lst (hds.map V.str)) ∧ J s6 = some (.lst (som.map V.str)) ∧ J cn = some (.tup [nv f, nv o]) ∧ Same H J) ?_ fun nx' hnx => ?_
  case refine_2 =>
    refine ⟨_, rfl, _, rfl, ?_⟩
    cases tw with
    | false =>
      refine iteF (hnx _ _ ⟨mor, rfl, ?_, hml, e_H5, hp5, hh5', hs5, hcn5, g5⟩)
      symm
      rw [List.any_eq_false]
      intro y hy
      rw [decide_eq_true_eq]
      exact hap y hy
    | true =>
      obtain ⟨hf0, ho0⟩ := htw rfl
      have a1 : M / 240 % f < som.length := by rw [hsl]; exact Nat.mod_lt _ hf0
      have a2 : M / 4 % o < mor.length := by rw [hml]; exact Nat.mod_lt _ ho0
      refine iteT ⟨_, rfl, _, rfl, _, _, rfl, rfl, ⟨by decide, by decide⟩, _, rfl, cn, _, _, _, rfl, rfl, SqT.of hcn5, tup0 _ _, _, _, rfl, rfl, (by show (0 : Int) < (f : Int); omega), s6, _, _, _, rfl, rfl, SqL.of hs5, atI_map (i := M / 240 % f) a1, _, rfl, _, rfl, _, _, rfl, rfl, ⟨by decide, by decide⟩, _, rfl, cn, _, _, _, rfl, rfl, SqT.of hcn5, tup1 _ _, _, _, rfl, rfl, (by show (0 : Int) < (o : Int); omega), m7, _, _, M / 4 % o, rfl, rfl, e_H5, (by rw [List.length_map]; exact ixN_nat a2), ?_⟩
      refine hnx _ _ ⟨mor.set (M / 4 % o) som[M / 240 % f], rfl, ?_, by rw [List.length_set]; exact hml, by rw [List.map_set]; exact upd_same, by rw [upd_ne d7p]; exact hp5, by rw [upd_ne d7h]; exact hh5', by rw [upd_ne d7s]; exact hs5, by rw [upd_ne d7c]; exact hcn5, same_upd g5 om7 _⟩
      symm
      rw [List.any_eq_true]
      exact ⟨_, List.mem_set a2 _, decide_eq_true (List.getElem_mem a1)⟩
  clear hh5' hs5 hp5 hcn5 e_H5 g5 hap hml
  rintro σ H5 ⟨us, rfl, hany, hml, hm5, hp5, hh5, hs5, hcn5, g5⟩
  -- others
  refine ⟨_, rfl, h5, _, rfl, .inl (SqL.of hh5), fun w0 hw0 => ?_⟩
  have n_H6 := same_new hw0 (.lst (hds.map V.str))
  have e_H6 : (upd H5 w0 (.lst (hds.map V.str))) w0 = some (.lst (hds.map V.str)) := upd_same
  generalize upd H5 w0 (.lst (hds.map V.str)) = H6 at n_H6 e_H6
  have g6 := g5.trans n_H6
  have hh6 := n_H6 _ _ hh5
  refine gn_step ?_
  try dsimp only
  refine seq_join (fun σ J => ∃ (po : Addr) (ds : List Str), σ = [some (.ref a0), some (nv N), some (.ref p), some (.ref cn), some (.int wd), some (.ref h5), some (.ref s6), some (.ref m7), some (nv M), some (.bl tw), some (.ref po), none, none, none, none, none, none, none, none] ∧ ds.length ≤ 11 ∧ J po = some (.lst (ds.map V.str)) ∧ Same H6 J) ?_ fun nx' hnx => ?_
  case refine_2 =>
    refine ⟨_, rfl, _, _, rfl, rfl, ⟨by decide, by decide⟩, _, _, rfl, rfl, (by show (0 : Int) < 4; decide), rfl, _, rfl, ite2 (fun _ => ?_) (fun _ => hnx _ _ ⟨w0, hds, rfl, by omega, e_H6, Same.refl _⟩)⟩
    refine ⟨_, rfl, _, rfl, a0, ns, 1, rfl, g6.seq hA, _, 61, c1, rfl, by decide, ec1, fun J1 k1 => ?_⟩
    refine ⟨_, rfl, _, _, rfl, rfl, ⟨by decide, by decide⟩, h5, hds, _, M / 29, 10, rfl, SqL.of (k1 _ _ hh6), by omega, fun r us J2 k2 hr hl => hnx _ _ ⟨r, us, rfl, by omega, hr, k1.trans k2⟩⟩
  rintro σ H7 ⟨po, ds, rfl, hdl, hpo, n67⟩
  have n57 := n_H6.trans n67
  have g7 := g5.trans n57
  have hp7 := n57 _ _ hp5
  have hh7 := n57 _ _ hh5
  have hs7 := n57 _ _ hs5
  have hm7 := n57 _ _ hm5
  have hcn7 := n57 _ _ hcn5
  clear n57 n67 n_H6 e_H6 g6 hh6 hw0 hp5 hh5 hs5 hm5 hcn5
  -- the longer cells
  refine ⟨_, rfl, _, rfl, cn, _, _, _, rfl, rfl, SqT.of hcn7, tup0 _ _, _, rfl, cn, _, _, _, rfl, rfl, SqT.of hcn7, tup1 _ _, _, _, rfl, rfl, (f + o : Nat), rfl, by omega, by omega, ?_⟩
  rw [Int.toNat_natCast]
  refine comp_range (k := f + o) (fun i ys J => ∃ qs : List Nat, ys = qs.map nv ∧ qs.length = i ∧ H7 = J) (line1000 (by omega)) ⟨[], rfl, rfl, rfl⟩ (fun i ys J hi ⟨qs, e, l, _⟩ => by rw [e, List.length_map, l]; exact Nat.le_refl _) (fun i ys J hi h => ?_) (fun ys J h => ?_)
  · obtain ⟨qs, rfl, l, rfl⟩ := h
    refine ⟨rfl, _, rfl, _, rfl, _, i, (by rw [Int.zero_add]; rfl), by omega, fun r hr => ⟨qs ++ [r], ?_, by rw [List.length_append, l]; rfl, rfl⟩⟩
    rw [List.map_append]; rfl
  obtain ⟨qs, rfl, hql, rfl⟩ := h
  intro w1 hw1
  have n_H8 := same_new hw1 (.lst (qs.map nv))
  have e_H8 : (upd H7 w1 (.lst (qs.map nv))) w1 = some (.lst (qs.map nv)) := upd_same
  generalize upd H7 w1 (.lst (qs.map nv)) = H8 at n_H8 e_H8
  refine ⟨p, w1, _, _, rfl, rfl, n_H8 _ _ hp7, e_H8, (by rw [List.length_map, List.length_map]; exact Nat.le_of_lt (line1000 (by omega))), fun p2 hp2 => ?_⟩
  rw [← List.map_append]
  have hal : f + o ≤ (ks ++ qs).length := by rw [List.length_append]; omega
  have n_H9 := same_new hp2 (.lst ((ks ++ qs).map nv))
  have e_H9 : (upd H8 p2 (.lst ((ks ++ qs).map nv))) p2 = some (.lst ((ks ++ qs).map nv)) := upd_same
  generalize upd H8 p2 (.lst ((ks ++ qs).map nv)) = H9 at n_H9 e_H9
  generalize ks ++ qs = al at e_H9 hal
  have n79 := n_H8.trans n_H9
  have g9 := g7.trans n79
  have hh9 := n79 _ _ hh7
  have hs9 := n79 _ _ hs7
  have hm9 := n79 _ _ hm7
  have hcn9 := n79 _ _ hcn7
  have hpo9 := n79 _ _ hpo
  have ha9 := e_H9
  clear n79 n_H8 n_H9 e_H8 e_H9 hp7 hh7 hs7 hm7 hcn7 hpo hw1 hp2 g7
  -- lefts
  refine ⟨_, rfl, cn, _, _, _, rfl, rfl, SqT.of hcn9, tup0 _ _, _, rfl, by omega, by omega, ?_⟩
  rw [Int.toNat_natCast]
  refine comp_range (k := f) (fun i ys J => ∃ rs : List Nat, ys = rs.map nv ∧ rs.length = i ∧ H9 = J) (line1000 (by omega)) ⟨[], rfl, rfl, rfl⟩ (fun i ys J hi ⟨qs, e, l, _⟩ => by rw [e, List.length_map, l]; exact Nat.le_refl _) (fun i ys J hi h => ?_) (fun ys J h => ?_)
  · obtain ⟨rs, rfl, l, rfl⟩ := h
    have hpp : (0 : Int) < 1 * 2 ^ ((wd : Int)).toNat := by rw [pow_one]; exact pow_pos' wd
    refine ⟨rfl, _, rfl, _, rfl, p2, _, _, _, rfl, rfl, SqL.of ha9, (by rw [Int.zero_add]; exact atI_map (show i < al.length by omega)), _, 1, rfl, by decide, fun r hr => ⟨_, rfl, _, _, rfl, rfl, cpow wd (by omega), _, _, rfl, rfl, hpp, ?_⟩⟩
    obtain ⟨m, em, hm⟩ := emod_nat (r : Int) (pow_posN wd)
    refine ⟨rs ++ [m], ?_, by rw [List.length_append, l]; rfl, rfl⟩
    rw [List.map_append]
    show _ ++ [V.int ((r : Int) % (1 * 2 ^ ((wd : Int)).toNat))] = _
    rw [pow_one, em]; rfl
  obtain ⟨ls, rfl, hls, rfl⟩ := h
  intro l11 hl11
  have n_I1 := same_new hl11 (.lst (ls.map nv))
  have e_I1 : (upd H9 l11 (.lst (ls.map nv))) l11 = some (.lst (ls.map nv)) := upd_same
  generalize upd H9 l11 (.lst (ls.map nv)) = I1 at n_I1 e_I1
  -- rights
  refine ⟨_, rfl, cn, _, _, _, rfl, rfl, SqT.of (n_I1 _ _ hcn9), tup1 _ _, _, rfl, by omega, by omega, ?_⟩
  rw [Int.toNat_natCast]
  refine comp_range (k := o) (fun i ys J => ∃ rs : List Nat, ys = rs.map nv ∧ rs.length = i ∧ I1 = J) (line1000 (by omega)) ⟨[], rfl, rfl, rfl⟩ (fun i ys J hi ⟨qs, e, l, _⟩ => by rw [e, List.length_map, l]; exact Nat.le_refl _) (fun i ys J hi h => ?_) (fun ys J h => ?_)
  · obtain ⟨rs, rfl, l, rfl⟩ := h
    have hpp : (0 : Int) < 1 * 2 ^ (((ds.map V.str).length : Nat) : Int).toNat := by rw [pow_one]; exact pow_pos' _
    refine ⟨rfl, _, rfl, _, rfl, cn, _, _, _, rfl, rfl, SqT.of (n_I1 _ _ hcn9), tup0 _ _, _, rfl, _, _, rfl, rfl, p2, _, _, _, rfl, rfl, SqL.of (n_I1 _ _ ha9), (by rw [Int.zero_add]; exact atI_map (i := f + i) (show f + i < al.length by omega)), _, 2, rfl, by decide, fun r hr => ⟨_, rfl, po, _, rfl, .inl (SqL.of (n_I1 _ _ hpo9)), _, _, rfl, rfl, cpow _ (by rw [List.length_map]; omega), _, _, rfl, rfl, hpp, ?_⟩⟩
    obtain ⟨m, em, hm⟩ := emod_nat (r : Int) (pow_posN (ds.map V.str).length)
    refine ⟨rs ++ [m], ?_, by rw [List.length_append, l]; rfl, rfl⟩
    rw [List.map_append]
    show _ ++ [V.int ((r : Int) % (1 * 2 ^ (((ds.map V.str).length : Nat) : Int).toNat))] = _
    rw [pow_one, em]; rfl
  obtain ⟨rs, rfl, hrs, rfl⟩ := h
  intro r12 hr12
  have n_I2 := same_new hr12 (.lst (rs.map nv))
  have e_I2 : (upd I1 r12 (.lst (rs.map nv))) r12 = some (.lst (rs.map nv)) := upd_same
  generalize upd I1 r12 (.lst (rs.map nv)) = I2 at n_I2 e_I2
  have n92 := n_I1.trans n_I2
  have g8 := g9.trans n92
  have hh8 := n92 _ _ hh9
  have hs8 := n92 _ _ hs9
  have hm8 := n92 _ _ hm9
  have hcn8 := n92 _ _ hcn9
  have hpo8 := n92 _ _ hpo9
  have hl8 := n_I2 _ _ e_I1
  have hr8 := e_I2
  clear n92 n_I1 n_I2 e_I1 e_I2 hh9 hs9 hm9 hcn9 hpo9 ha9 hl11 hr12 g9
  -- one, two
  refine ⟨_, rfl, _, rfl, _, rfl, s6, h5, l11, som, hds, ls, rfl, SqL.of hs8, SqL.of hh8, SqL.of hl8, by omega, by omega, by omega, fun x xa xb xc J1 k1 tx => ?_⟩
  refine ⟨_, rfl, _, rfl, _, rfl, m7, po, r12, us, ds, rs, rfl, SqL.of (k1 _ _ hm8), SqL.of (k1 _ _ hpo8), SqL.of (k1 _ _ hr8), by omega, by omega, by omega, fun y ya yb yc J2 k2 ty => ?_⟩
  have k12 := k1.trans k2
  have tx2 := tx.same k2
  have hh2 := k12 _ _ hh8
  have hs2 := k12 _ _ hs8
  have hm2 := k12 _ _ hm8
  have hcn2 := k12 _ _ hcn8
  have hpo2 := k12 _ _ hpo8
  have hl2 := k12 _ _ hl8
  have hr2 := k12 _ _ hr8
  clear k1 k2 k12 tx hh8 hs8 hm8 hcn8 hpo8 hl8 hr8 g8
  -- the try
  refine gn_step ?_
  try dsimp only
  refine set_step ?_
  refine set_step ?_
  try dsimp only
  refine seq_join (fun σ J => ∃ kv lv : V, σ = [some (.ref a0), some (nv N), some (.ref p2), some (.ref cn), some (.int wd), some (.ref h5), some (.ref s6), some (.ref m7), some (nv M), some (.bl tw), some (.ref po), some (.ref l11), some (.ref r12), some (.ref x), some (.ref y), some kv, some lv, none, none] ∧ Tried C_Table [C_Unlike, C_Twice, C_TooLarge] J (dueJ hds ds som us 60) (som ++ us) hds (ls ++ rs) kv lv ∧ Same J2 J) ?_ fun nx' hnx => ?_
  case refine_2 =>
    refine ⟨fun σ1 c v H1 => ∃ (j : Nat) (cc e : Addr), σ1 = [some (.ref a0), some (nv N), some (.ref p2), some (.ref cn), some (.int wd), some (.ref h5), some (.ref s6), some (.ref m7), some (nv M), some (.bl tw), some (.ref po), some (.ref l11), some (.ref r12), some (.ref x), some (.ref y), some .non, some .non, none, none] ∧ c = .ref cc ∧ v = some e ∧ J2 e = none ∧ dueJ hds ds som us 60 = some j ∧ [C_Unlike, C_Twice, C_TooLarge][j]? = some cc ∧ Same J2 H1 ∧ Cgt H1 e cc j, ?_, ?_⟩
    · rintro σ1 H1 e cc ⟨j, cc', e', rfl, h1, h2, he, hd, hc, g, hF⟩
      cases h1
      cases h2
      obtain ⟨d, ⟨T0, f1, f2, f3⟩, f4, f5⟩ := hF.ex
      refine ⟨d, ⟨T0, f1, f2, f3⟩, hem j _ hc, fun T2 hT hTe => ?_⟩
      obtain ⟨s1, s2⟩ := Cgt.on f1 f4 f5 g he hT hTe
      exact ⟨_, rfl, hnx _ _ ⟨.ref e, .non, rfl, ⟨.inr ⟨j, cc, e, hd, rfl, hc, s2⟩⟩, s1⟩⟩
    · refine ⟨_, rfl, _, rfl, x, xa, xb, xc, y, ya, yb, yc, som, us, hds, ds, ls, rs, rfl, tx2, ty, by omega, by omega, by omega, (fun j c hd hc e H1 g he hF => ⟨j, c, e, rfl, rfl, rfl, he, hd, hc, g, hF⟩), fun hnone z za zb zc H1 g tz => ?_⟩
      exact hnx _ _ ⟨.non, .ref z, rfl, ⟨.inl ⟨hnone, rfl, z, za, zb, zc, rfl, tz⟩⟩, g⟩
  rintro σ J3 ⟨kv, lv, rfl, hT, n23⟩
  have hh3 := n23 _ _ hh2
  have hs3 := n23 _ _ hs2
  have hm3 := n23 _ _ hm2
  have hcn3 := n23 _ _ hcn2
  have hpo3 := n23 _ _ hpo2
  have hl3 := n23 _ _ hl2
  have hr3 := n23 _ _ hr2
  have tx3 := tx2.same n23
  have ty3 := ty.same n23
  clear n23 hh2 hs2 hm2 hcn2 hpo2 hl2 hr2 tx2 ty
  -- due
  refine ⟨_, rfl, _, rfl, po, h5, _, _, rfl, rfl, SqL.of hpo3, SqL.of hh3, strs_flat ds, strs_flat hds, ?_⟩
  rw [eqVs_strs, if_pos rfl]
  refine ⟨_, rfl, _, rfl, cn, _, _, _, rfl, rfl, SqT.of hcn3, tup0 _ _, _, rfl, cn, _, _, _, rfl, rfl, SqT.of hcn3, tup1 _ _, _, _, rfl, rfl, _, _, rfl, rfl, _, tw, decide ((60 : Int) < (f : Int) + (o : Int)), rfl, ?_⟩
  rw [due_same (ts := hds) (us := ds) (cs := som) (ds := us) (m := 60) hany (by rw [hsl, hml, Bool.eq_iff_iff, decide_eq_true_eq, decide_eq_true_eq]; omega)]
  have hsm : ∀ j, dueJ hds ds som us 60 = some j → j < 3 := fun j => due_small
  have hkn := kind_none hsm
  -- both tables as they were
  refine ⟨_, rfl, _, rfl, _, rfl, _, rfl, x, xa, xb, xc, s6, h5, l11, som, hds, ls, rfl, tx3, SqL.of hs3, SqL.of hh3, SqL.of hl3, by omega, by omega, by omega, fun J4 n34 => ⟨_, rfl, iteF ?_⟩⟩
  refine ⟨_, rfl, _, rfl, _, rfl, _, rfl, y, ya, yb, yc, m7, po, r12, us, ds, rs, rfl, ty3.same n34, SqL.of (n34 _ _ hm3), SqL.of (n34 _ _ hpo3), SqL.of (n34 _ _ hr3), by omega, by omega, by omega, fun J5 n45 => ⟨_, rfl, iteF ?_⟩⟩
  have n35 := n34.trans n45
  refine ⟨_, rfl, rfl, _, rfl, ?_⟩
  show if (!decide (V.str (kindT (dueJ hds ds som us 60)) = V.str (Str.ofString "none"))) = true then _ else _
  rw [hkn]
  rcases hT.ex with ⟨hnone, rfl, z, za, zb, zc, rfl, tz⟩ | ⟨j, c, e, hdj, rfl, hc, hF⟩
  case inr =>
    rw [hdj]
    refine iteT ⟨_, rfl, rfl, _, rfl, iteT ?_⟩
    refine ⟨_, rfl, j, c, e, rfl, hsm j hdj, hc, hF.same n35, fun J6 n56 => ⟨_, rfl, rfl, ?_⟩⟩
    rw [decide_eq_true rfl]
    exact q _
  rw [hnone]
  refine iteF ⟨_, rfl, rfl, _, rfl, iteF ?_⟩
  have tz5 := tz.same n35
  obtain ⟨dz, hz⟩ := tz5.ins
  refine ⟨_, rfl, _, _, _, _, _, rfl, rfl, TyOf.ins hz IS.cl IS.oc IS.gs IS.tk IS.om, IS.ki, _, rfl, iteF ?_⟩
  refine ⟨_, rfl, _, rfl, _, rfl, s6, m7, _, _, rfl, rfl, n35 _ _ hs3, n35 _ _ hm3, (by rw [List.length_map, List.length_map]; exact Nat.le_of_lt (line1000 (by omega))), fun w8 hw8 => ?_⟩
  rw [← List.map_append]
  have n_J6 := same_new hw8 (.lst ((som ++ us).map V.str))
  have e_J6 : (upd J5 w8 (.lst ((som ++ us).map V.str))) w8 = some (.lst ((som ++ us).map V.str)) := upd_same
  generalize upd J5 w8 (.lst ((som ++ us).map V.str)) = J6 at n_J6 e_J6
  have n36 := n35.trans n_J6
  refine ⟨_, rfl, _, rfl, _, rfl, l11, r12, _, _, rfl, rfl, n36 _ _ hl3, n36 _ _ hr3, (by rw [List.length_map, List.length_map]; exact Nat.le_of_lt (line1000 (by omega))), fun w9 hw9 => ?_⟩
  rw [← List.map_append]
  have n_J7 := same_new hw9 (.lst ((ls ++ rs).map nv))
  have e_J7 : (upd J6 w9 (.lst ((ls ++ rs).map nv))) w9 = some (.lst ((ls ++ rs).map nv)) := upd_same
  generalize upd J6 w9 (.lst ((ls ++ rs).map nv)) = J7 at n_J7 e_J7
  have n37 := n36.trans n_J7
  exact ⟨z, za, zb, zc, w8, h5, w9, som ++ us, hds, ls ++ rs, rfl, tz.same n37, SqL.of (n_J7 _ _ e_J6), SqL.of (n37 _ _ hh3), SqL.of e_J7, by rw [List.length_append]; omega, by omega, by rw [List.length_append]; omega, fun J8 _ => q J8⟩
end
theorem all_mk {l : PySem.W.OpenLaw} {w : World} {K : PySem.W.Frag} {h : Heap} {mg : Str → Option Value} {fa f1 f2 f3 f4 f5 f6 f7 f8 f9 f10 f11 f12 f13 f14 f15 f16 f17 f18 f19 f20 f21 C_TraitError C_BadText C_Twice C_TooLarge C_Unknown C_Gap C_AtEnd C_BadSet C_NotBroken C_Against C_OutOfPlace C_Unlike C_Table : Addr} (X : K.In h) (G : h.Ns mainGlobals mg) (hfa : mg "law" = some (.ref fa))
    {od1 od2 od3 od4 od5 od6 od7 od8 od9 od10 od11 od12 od13 od14 od15 od16 od17 od18 od19 od20 od21 an1 an2 an3 an4 an5 an6 an7 an8 an9 an10 an11 an12 an13 an14 an15 an16 an17 an18 an19 an20 an21 : Option Addr} {sl1 sl2 sl3 sl4 sl5 sl6 sl7 sl8 sl9 sl10 sl11 sl12 sl13 sl14 sl15 sl16 sl17 sl18 sl19 sl20 sl21 : Array (Option Value)} {oc1 oc2 oc3 oc4 oc5 oc6 oc7 oc8 oc9 oc10 oc11 oc12 oc13 oc14 oc15 oc16 oc17 oc18 oc19 oc20 oc21 kV1 kV2 kV3 kV4 kV5 kV6 kV7 kV8 kV9 kV10 kV11 kV12 kV13 kV14 kV15 kV16 kV17 kV18 kV19 kV20 kV21 dc1 dc2 dc3 dc4 dc5 dc6 dc7 dc8 dc9 dc10 dc11 dc12 dc13 dc14 dc15 dc16 dc17 dc18 dc19 dc20 dc21 pm1 pm2 pm3 pm4 pm5 pm6 pm7 pm8 pm9 pm10 pm11 pm12 pm13 pm14 pm15 pm16 pm17 pm18 pm19 pm20 pm21 cd1 cd2 cd3 cd4 cd5 cd6 cd7 cd8 cd9 cd10 cd11 cd12 cd13 cd14 cd15 cd16 cd17 cd18 cd19 cd20 cd21 ct1 ct2 ct3 ct4 ct5 ct6 ct7 ct8 ct9 ct10 ct11 ct12 ct13 ct14 ct15 ct16 ct17 ct18 ct19 ct20 ct21 : Value}
    (a_TraitError : PySem.W.nsIn K mainGlobals "TraitError" = some (some (.ref C_TraitError)))
    (a_BadText : PySem.W.nsIn K mainGlobals "BadText" = some (some (.ref C_BadText)))
    (a_Twice : PySem.W.nsIn K mainGlobals "Twice" = some (some (.ref C_Twice)))
    (a_TooLarge : PySem.W.nsIn K mainGlobals "TooLarge" = some (some (.ref C_TooLarge)))
    (a_Unknown : PySem.W.nsIn K mainGlobals "Unknown" = some (some (.ref C_Unknown)))
    (a_Gap : PySem.W.nsIn K mainGlobals "Gap" = some (some (.ref C_Gap)))
    (a_AtEnd : PySem.W.nsIn K mainGlobals "AtEnd" = some (some (.ref C_AtEnd)))
    (a_BadSet : PySem.W.nsIn K mainGlobals "BadSet" = some (some (.ref C_BadSet)))
    (a_NotBroken : PySem.W.nsIn K mainGlobals "NotBroken" = some (some (.ref C_NotBroken)))
    (a_Against : PySem.W.nsIn K mainGlobals "Against" = some (some (.ref C_Against)))
    (a_OutOfPlace : PySem.W.nsIn K mainGlobals "OutOfPlace" = some (some (.ref C_OutOfPlace)))
    (a_Unlike : PySem.W.nsIn K mainGlobals "Unlike" = some (some (.ref C_Unlike)))
    (a_Table : PySem.W.nsIn K mainGlobals "Table" = some (some (.ref C_Table)))
    {tk_MOST_THINGS : Tok} (a_MOST_THINGS : PySem.W.nsIn K mainGlobals "MOST_THINGS" = some (some (.int 60 tk_MOST_THINGS)))
    (a1 : PySem.W.findIn K (.ref C_Twice) "__init__" = some (some (.ref f1))) (l1 : K.lookup f1 = some ⟨oc1, od1, .func (PySem.W.fnOf "__init__" "Twice.__init__" (defArgs s_Twice_init) (defBody s_Twice_init) (defScope s_Twice_init) .none kV1 dc1 pm1 an1 cd1 ct1), sl1⟩) (c1 : PySem.W.codeIn K cd1 "Twice.__init__" = true) (k1 : PySem.W.keepIn K (.ref f1) = true)
    (a2 : PySem.W.findIn K (.ref C_TooLarge) "__init__" = some (some (.ref f2))) (l2 : K.lookup f2 = some ⟨oc2, od2, .func (PySem.W.fnOf "__init__" "TooLarge.__init__" (defArgs s_TooLarge_init) (defBody s_TooLarge_init) (defScope s_TooLarge_init) .none kV2 dc2 pm2 an2 cd2 ct2), sl2⟩) (c2 : PySem.W.codeIn K cd2 "TooLarge.__init__" = true) (k2 : PySem.W.keepIn K (.ref f2) = true)
    (a3 : PySem.W.findIn K (.ref C_Table) "__init__" = some (some (.ref f3))) (l3 : K.lookup f3 = some ⟨oc3, od3, .func (PySem.W.fnOf "__init__" "Table.__init__" (defArgs s_Table_init) (defBody s_Table_init) (defScope s_Table_init) .none kV3 dc3 pm3 an3 cd3 ct3), sl3⟩) (c3 : PySem.W.codeIn K cd3 "Table.__init__" = true) (k3 : PySem.W.keepIn K (.ref f3) = true)
    (i3 : PySem.W.isFn K (.ref f3) = true)
    (a4 : PySem.W.findIn K (.ref C_Table) "things" = some (some (.ref f4))) (l4 : K.lookup f4 = some ⟨oc4, od4, .func (PySem.W.fnOf "things" "Table.things" (defArgs s_Table_things) (defBody s_Table_things) (defScope s_Table_things) .none kV4 dc4 pm4 an4 cd4 ct4), sl4⟩) (c4 : PySem.W.codeIn K cd4 "Table.things" = true) (k4 : PySem.W.keepIn K (.ref f4) = true)
    (i4 : PySem.W.isFn K (.ref f4) = true)
    (a5 : PySem.W.findIn K (.ref C_Table) "columns" = some (some (.ref f5))) (l5 : K.lookup f5 = some ⟨oc5, od5, .func (PySem.W.fnOf "columns" "Table.columns" (defArgs s_Table_columns) (defBody s_Table_columns) (defScope s_Table_columns) .none kV5 dc5 pm5 an5 cd5 ct5), sl5⟩) (c5 : PySem.W.codeIn K cd5 "Table.columns" = true) (k5 : PySem.W.keepIn K (.ref f5) = true)
    (i5 : PySem.W.isFn K (.ref f5) = true)
    (a6 : PySem.W.findIn K (.ref C_Table) "rows" = some (some (.ref f6))) (l6 : K.lookup f6 = some ⟨oc6, od6, .func (PySem.W.fnOf "rows" "Table.rows" (defArgs s_Table_rows) (defBody s_Table_rows) (defScope s_Table_rows) .none kV6 dc6 pm6 an6 cd6 ct6), sl6⟩) (c6 : PySem.W.codeIn K cd6 "Table.rows" = true) (k6 : PySem.W.keepIn K (.ref f6) = true)
    (i6 : PySem.W.isFn K (.ref f6) = true)
    (a7 : PySem.W.nsIn K mainGlobals "names_together" = some (some (.ref f7))) (l7 : K.lookup f7 = some ⟨oc7, od7, .func (PySem.W.fnOf "names_together" "names_together" (defArgs s_names_together) (defBody s_names_together) (defScope s_names_together) .none kV7 dc7 pm7 an7 cd7 ct7), sl7⟩) (c7 : PySem.W.codeIn K cd7 "names_together" = true) (k7 : PySem.W.keepIn K (.ref f7) = true)
    (a8 : PySem.W.nsIn K mainGlobals "upon" = some (some (.ref f8))) (l8 : K.lookup f8 = some ⟨oc8, od8, .func (PySem.W.fnOf "upon" "upon" (defArgs s_upon) (defBody s_upon) (defScope s_upon) .none kV8 dc8 pm8 an8 cd8 ct8), sl8⟩) (c8 : PySem.W.codeIn K cd8 "upon" = true) (k8 : PySem.W.keepIn K (.ref f8) = true)
    (a9 : PySem.W.nsIn K mainGlobals "_law_cell_at" = some (some (.ref f9))) (l9 : K.lookup f9 = some ⟨oc9, od9, .func (PySem.W.fnOf "_law_cell_at" "_law_cell_at" (defArgs s_law_cell_at) (defBody s_law_cell_at) (defScope s_law_cell_at) .none kV9 dc9 pm9 an9 cd9 ct9), sl9⟩) (c9 : PySem.W.codeIn K cd9 "_law_cell_at" = true) (k9 : PySem.W.keepIn K (.ref f9) = true)
    (a10 : PySem.W.nsIn K mainGlobals "_law_mixed" = some (some (.ref f10))) (l10 : K.lookup f10 = some ⟨oc10, od10, .func (PySem.W.fnOf "_law_mixed" "_law_mixed" (defArgs s_law_mixed) (defBody s_law_mixed) (defScope s_law_mixed) .none kV10 dc10 pm10 an10 cd10 ct10), sl10⟩) (c10 : PySem.W.codeIn K cd10 "_law_mixed" = true) (k10 : PySem.W.keepIn K (.ref f10) = true)
    (a11 : PySem.W.nsIn K mainGlobals "_law_name_by" = some (some (.ref f11))) (l11 : K.lookup f11 = some ⟨oc11, od11, .func (PySem.W.fnOf "_law_name_by" "_law_name_by" (defArgs s_law_name_by) (defBody s_law_name_by) (defScope s_law_name_by) .none kV11 dc11 pm11 an11 cd11 ct11), sl11⟩) (c11 : PySem.W.codeIn K cd11 "_law_name_by" = true) (k11 : PySem.W.keepIn K (.ref f11) = true)
    (a12 : PySem.W.nsIn K mainGlobals "_law_whole" = some (some (.ref f12))) (l12 : K.lookup f12 = some ⟨oc12, od12, .func (PySem.W.fnOf "_law_whole" "_law_whole" (defArgs s_law_whole) (defBody s_law_whole) (defScope s_law_whole) .none kV12 dc12 pm12 an12 cd12 ct12), sl12⟩) (c12 : PySem.W.codeIn K cd12 "_law_whole" = true) (k12 : PySem.W.keepIn K (.ref f12) = true)
    (a13 : PySem.W.nsIn K mainGlobals "_law_texts" = some (some (.ref f13))) (l13 : K.lookup f13 = some ⟨oc13, od13, .func (PySem.W.fnOf "_law_texts" "_law_texts" (defArgs s_law_texts) (defBody s_law_texts) (defScope s_law_texts) .none kV13 dc13 pm13 an13 cd13 ct13), sl13⟩) (c13 : PySem.W.codeIn K cd13 "_law_texts" = true) (k13 : PySem.W.keepIn K (.ref f13) = true)
    (a14 : PySem.W.nsIn K mainGlobals "_law_numbers" = some (some (.ref f14))) (l14 : K.lookup f14 = some ⟨oc14, od14, .func (PySem.W.fnOf "_law_numbers" "_law_numbers" (defArgs s_law_numbers) (defBody s_law_numbers) (defScope s_law_numbers) .none kV14 dc14 pm14 an14 cd14 ct14), sl14⟩) (c14 : PySem.W.codeIn K cd14 "_law_numbers" = true) (k14 : PySem.W.keepIn K (.ref f14) = true)
    (a15 : PySem.W.nsIn K mainGlobals "_law_kind" = some (some (.ref f15))) (l15 : K.lookup f15 = some ⟨oc15, od15, .func (PySem.W.fnOf "_law_kind" "_law_kind" (defArgs s_law_kind) (defBody s_law_kind) (defScope s_law_kind) .none kV15 dc15 pm15 an15 cd15 ct15), sl15⟩) (c15 : PySem.W.codeIn K cd15 "_law_kind" = true) (k15 : PySem.W.keepIn K (.ref f15) = true)
    (a16 : PySem.W.nsIn K mainGlobals "_law_due_kind" = some (some (.ref f16))) (l16 : K.lookup f16 = some ⟨oc16, od16, .func (PySem.W.fnOf "_law_due_kind" "_law_due_kind" (defArgs s_law_due_kind) (defBody s_law_due_kind) (defScope s_law_due_kind) .none kV16 dc16 pm16 an16 cd16 ct16), sl16⟩) (c16 : PySem.W.codeIn K cd16 "_law_due_kind" = true) (k16 : PySem.W.keepIn K (.ref f16) = true)
    (a17 : PySem.W.nsIn K mainGlobals "_law_turned" = some (some (.ref f17))) (l17 : K.lookup f17 = some ⟨oc17, od17, .func (PySem.W.fnOf "_law_turned" "_law_turned" (defArgs s_law_turned) (defBody s_law_turned) (defScope s_law_turned) .none kV17 dc17 pm17 an17 cd17 ct17), sl17⟩) (c17 : PySem.W.codeIn K cd17 "_law_turned" = true) (k17 : PySem.W.keepIn K (.ref f17) = true)
    (a18 : PySem.W.nsIn K mainGlobals "_law_table_alike" = some (some (.ref f18))) (l18 : K.lookup f18 = some ⟨oc18, od18, .func (PySem.W.fnOf "_law_table_alike" "_law_table_alike" (defArgs s_law_table_alike) (defBody s_law_table_alike) (defScope s_law_table_alike) .none kV18 dc18 pm18 an18 cd18 ct18), sl18⟩) (c18 : PySem.W.codeIn K cd18 "_law_table_alike" = true) (k18 : PySem.W.keepIn K (.ref f18) = true)
    (a19 : PySem.W.nsIn K mainGlobals "_law_made" = some (some (.ref f19))) (l19 : K.lookup f19 = some ⟨oc19, od19, .func (PySem.W.fnOf "_law_made" "_law_made" (defArgs s_law_made) (defBody s_law_made) (defScope s_law_made) .none kV19 dc19 pm19 an19 cd19 ct19), sl19⟩) (c19 : PySem.W.codeIn K cd19 "_law_made" = true) (k19 : PySem.W.keepIn K (.ref f19) = true)
    (a20 : PySem.W.nsIn K mainGlobals "_law_counts" = some (some (.ref f20))) (l20 : K.lookup f20 = some ⟨oc20, od20, .func (PySem.W.fnOf "_law_counts" "_law_counts" (defArgs s_law_counts) (defBody s_law_counts) (defScope s_law_counts) .none kV20 dc20 pm20 an20 cd20 ct20), sl20⟩) (c20 : PySem.W.codeIn K cd20 "_law_counts" = true) (k20 : PySem.W.keepIn K (.ref f20) = true)
    (a21 : PySem.W.nsIn K mainGlobals "law" = some (some (.ref f21))) (l21 : K.lookup f21 = some ⟨oc21, od21, .func (PySem.W.fnOf "law" "law" (defArgs s_law) (defBody s_law) (defScope s_law) .none kV21 dc21 pm21 an21 cd21 ct21), sl21⟩) (c21 : PySem.W.codeIn K cd21 "law" = true) (k21 : PySem.W.keepIn K (.ref f21) = true)
    (pg_Table : PySem.W.plainGet K C_Table Str.empty = true) (hd_Table : PySem.W.hasDictIn K C_Table = true) (po_Table : PySem.W.plainOver K C_Table = true) (sa_Table : PySem.W.findIn K (.ref C_Table) "__setattr__" = some (some (.builtin "object.__setattr__"))) (mk_Table : PySem.W.makesIn K C_Table = true) (kc_Table : PySem.W.keepIn K (.ref C_Table) = true)
    (n_Table_thing_names : PySem.W.findIn K (.ref C_Table) "thing_names" = some none)
    (n_Table_column_names : PySem.W.findIn K (.ref C_Table) "column_names" = some none)
    (n_Table_thing_rows : PySem.W.findIn K (.ref C_Table) "thing_rows" = some none)
    (oc_Table : PySem.W.findIn K (.ref C_Table) "__class__" = some (some (.builtin "object.__class__"))) (om_Table : PySem.W.mroIn K C_Table (.type "object") = some true) (ki_Table : PySem.W.kitOne K (.ref C_Table) (.ref C_Table) = some true)
    (xga_Twice : PySem.W.findIn K (.ref C_Twice) "__getattribute__" = some (some (.builtin "BaseException.__getattribute__")))
    (xno_Twice : PySem.W.findIn K (.ref C_Twice) "__getattr__" = some none)
    (xbe_Twice : PySem.W.mroIn K C_Twice (.type "BaseException") = some true)
    (xob_Twice : PySem.W.mroIn K C_Twice (.type "object") = some true)
    (xhd_Twice : PySem.W.hasDictIn K C_Twice = true)
    (xsa_Twice : PySem.W.findIn K (.ref C_Twice) "__setattr__" = some (some (.builtin "object.__setattr__")))
    (xcl_Twice : PySem.W.findIn K (.ref C_Twice) "__class__" = some (some (.builtin "object.__class__")))
    (xex_Twice : excInI K C_Twice [.type "ValueError", .type "Exception", .type "BaseException", .type "object"] "ValueError.__new__" f1 = true) (xfn_Twice : PySem.W.isFn K (.ref f1) = true) (xkp_Twice : PySem.W.keepIn K (.ref C_Twice) = true) (xov_Twice : excOver K C_Twice = true)
    (xnf_Twice : PySem.W.findIn K (.ref C_Twice) "line" = some none)
    (xm_Twice : PySem.W.exmOne K (.ref C_Twice) (.ref C_TraitError) = some true)
    (xi_Twice_ValueError : PySem.W.kitOne K (.ref C_Twice) (.type "ValueError") = some true)
    (xi_Twice_BadText : PySem.W.kitOne K (.ref C_Twice) (.ref C_BadText) = some false)
    (xi_Twice_Twice : PySem.W.kitOne K (.ref C_Twice) (.ref C_Twice) = some true)
    (xi_Twice_TooLarge : PySem.W.kitOne K (.ref C_Twice) (.ref C_TooLarge) = some false)
    (xi_Twice_Gap : PySem.W.kitOne K (.ref C_Twice) (.ref C_Gap) = some false)
    (xi_Twice_Unknown : PySem.W.kitOne K (.ref C_Twice) (.ref C_Unknown) = some false)
    (xi_Twice_AtEnd : PySem.W.kitOne K (.ref C_Twice) (.ref C_AtEnd) = some false)
    (xi_Twice_BadSet : PySem.W.kitOne K (.ref C_Twice) (.ref C_BadSet) = some false)
    (xi_Twice_NotBroken : PySem.W.kitOne K (.ref C_Twice) (.ref C_NotBroken) = some false)
    (xi_Twice_Against : PySem.W.kitOne K (.ref C_Twice) (.ref C_Against) = some false)
    (xi_Twice_OutOfPlace : PySem.W.kitOne K (.ref C_Twice) (.ref C_OutOfPlace) = some false)
    (xi_Twice_Unlike : PySem.W.kitOne K (.ref C_Twice) (.ref C_Unlike) = some false)
    (xga_TooLarge : PySem.W.findIn K (.ref C_TooLarge) "__getattribute__" = some (some (.builtin "BaseException.__getattribute__")))
    (xno_TooLarge : PySem.W.findIn K (.ref C_TooLarge) "__getattr__" = some none)
    (xbe_TooLarge : PySem.W.mroIn K C_TooLarge (.type "BaseException") = some true)
    (xob_TooLarge : PySem.W.mroIn K C_TooLarge (.type "object") = some true)
    (xhd_TooLarge : PySem.W.hasDictIn K C_TooLarge = true)
    (xsa_TooLarge : PySem.W.findIn K (.ref C_TooLarge) "__setattr__" = some (some (.builtin "object.__setattr__")))
    (xcl_TooLarge : PySem.W.findIn K (.ref C_TooLarge) "__class__" = some (some (.builtin "object.__class__")))
    (xex_TooLarge : excInI K C_TooLarge [.type "ValueError", .type "Exception", .type "BaseException", .type "object"] "ValueError.__new__" f2 = true) (xfn_TooLarge : PySem.W.isFn K (.ref f2) = true) (xkp_TooLarge : PySem.W.keepIn K (.ref C_TooLarge) = true) (xov_TooLarge : excOver K C_TooLarge = true)
    (xnf_TooLarge : PySem.W.findIn K (.ref C_TooLarge) "line" = some none)
    (xm_TooLarge : PySem.W.exmOne K (.ref C_TooLarge) (.ref C_TraitError) = some true)
    (xi_TooLarge_ValueError : PySem.W.kitOne K (.ref C_TooLarge) (.type "ValueError") = some true)
    (xi_TooLarge_BadText : PySem.W.kitOne K (.ref C_TooLarge) (.ref C_BadText) = some false)
    (xi_TooLarge_Twice : PySem.W.kitOne K (.ref C_TooLarge) (.ref C_Twice) = some false)
    (xi_TooLarge_TooLarge : PySem.W.kitOne K (.ref C_TooLarge) (.ref C_TooLarge) = some true)
    (xi_TooLarge_Gap : PySem.W.kitOne K (.ref C_TooLarge) (.ref C_Gap) = some false)
    (xi_TooLarge_Unknown : PySem.W.kitOne K (.ref C_TooLarge) (.ref C_Unknown) = some false)
    (xi_TooLarge_AtEnd : PySem.W.kitOne K (.ref C_TooLarge) (.ref C_AtEnd) = some false)
    (xi_TooLarge_BadSet : PySem.W.kitOne K (.ref C_TooLarge) (.ref C_BadSet) = some false)
    (xi_TooLarge_NotBroken : PySem.W.kitOne K (.ref C_TooLarge) (.ref C_NotBroken) = some false)
    (xi_TooLarge_Against : PySem.W.kitOne K (.ref C_TooLarge) (.ref C_Against) = some false)
    (xi_TooLarge_OutOfPlace : PySem.W.kitOne K (.ref C_TooLarge) (.ref C_OutOfPlace) = some false)
    (xi_TooLarge_Unlike : PySem.W.kitOne K (.ref C_TooLarge) (.ref C_Unlike) = some false)
    (xga_Unlike : PySem.W.findIn K (.ref C_Unlike) "__getattribute__" = some (some (.builtin "BaseException.__getattribute__")))
    (xno_Unlike : PySem.W.findIn K (.ref C_Unlike) "__getattr__" = some none)
    (xbe_Unlike : PySem.W.mroIn K C_Unlike (.type "BaseException") = some true)
    (xob_Unlike : PySem.W.mroIn K C_Unlike (.type "object") = some true)
    (xhd_Unlike : PySem.W.hasDictIn K C_Unlike = true)
    (xsa_Unlike : PySem.W.findIn K (.ref C_Unlike) "__setattr__" = some (some (.builtin "object.__setattr__")))
    (xcl_Unlike : PySem.W.findIn K (.ref C_Unlike) "__class__" = some (some (.builtin "object.__class__")))
    (xe0_Unlike : PySem.W.excIn K C_Unlike bmV "ValueError.__new__" = true) (xkp_Unlike : PySem.W.keepIn K (.ref C_Unlike) = true)
    (xm_Unlike : PySem.W.exmOne K (.ref C_Unlike) (.ref C_TraitError) = some true)
    (xi_Unlike_ValueError : PySem.W.kitOne K (.ref C_Unlike) (.type "ValueError") = some true)
    (xi_Unlike_BadText : PySem.W.kitOne K (.ref C_Unlike) (.ref C_BadText) = some false)
    (xi_Unlike_Twice : PySem.W.kitOne K (.ref C_Unlike) (.ref C_Twice) = some false)
    (xi_Unlike_TooLarge : PySem.W.kitOne K (.ref C_Unlike) (.ref C_TooLarge) = some false)
    (xi_Unlike_Gap : PySem.W.kitOne K (.ref C_Unlike) (.ref C_Gap) = some false)
    (xi_Unlike_Unknown : PySem.W.kitOne K (.ref C_Unlike) (.ref C_Unknown) = some false)
    (xi_Unlike_AtEnd : PySem.W.kitOne K (.ref C_Unlike) (.ref C_AtEnd) = some false)
    (xi_Unlike_BadSet : PySem.W.kitOne K (.ref C_Unlike) (.ref C_BadSet) = some false)
    (xi_Unlike_NotBroken : PySem.W.kitOne K (.ref C_Unlike) (.ref C_NotBroken) = some false)
    (xi_Unlike_Against : PySem.W.kitOne K (.ref C_Unlike) (.ref C_Against) = some false)
    (xi_Unlike_OutOfPlace : PySem.W.kitOne K (.ref C_Unlike) (.ref C_OutOfPlace) = some false)
    (xi_Unlike_Unlike : PySem.W.kitOne K (.ref C_Unlike) (.ref C_Unlike) = some true)
    (xgs : PySem.W.specialIn K (.builtin "object.__class__") "__get__" = some (some (.builtin "getset_descriptor.__get__"))) (xtk : PySem.W.takesIn K (.builtin "object.__class__") = some true)
    (z_ValueError : PySem.W.nsIn K mainGlobals "ValueError" = some none)
    (z_any : PySem.W.nsIn K mainGlobals "any" = some none)
    (z_bool : PySem.W.nsIn K mainGlobals "bool" = some none)
    (z_int : PySem.W.nsIn K mainGlobals "int" = some none)
    (z_isinstance : PySem.W.nsIn K mainGlobals "isinstance" = some none)
    (z_len : PySem.W.nsIn K mainGlobals "len" = some none)
    (z_list : PySem.W.nsIn K mainGlobals "list" = some none)
    (z_range : PySem.W.nsIn K mainGlobals "range" = some none)
    (z_str : PySem.W.nsIn K mainGlobals "str" = some none) :
    ∃ fd : FuncData, (∀ (s : Shared) (v : Value), BindsTo s fd ⟨[v], []⟩ [("_law_script", v)]) ∧ ∀ base : Heap, K.In base → base.Ns mainGlobals mg → FnOk l.prog w K mg base CX0 6 fa fd ["_law_script"] (spLaw K) := by
  have e := hfa.symm.trans (PySem.W.mg_of X G a21)
  cases e
  have F1 := fun_mk (st := s_Twice_init) l1 c1 k1
  have b1 := F1.binds (ps := ["self", "line"]) fun _ _ _ _ _ _ us hl => len2 hl fun _ _ => rfl
  have F2 := fun_mk (st := s_TooLarge_init) l2 c2 k2
  have b2 := F2.binds (ps := ["self", "line"]) fun _ _ _ _ _ _ us hl => len2 hl fun _ _ => rfl
  have F3 := fun_mk (st := s_Table_init) l3 c3 k3
  have b3 := F3.binds (ps := ["self", "things", "columns", "rows"]) fun _ _ _ _ _ _ us hl => len4 hl fun _ _ _ _ => rfl
  have F4 := fun_mk (st := s_Table_things) l4 c4 k4
  have b4 := F4.binds (ps := ["self"]) fun _ _ _ _ _ _ us hl => len1 hl fun _ => rfl
  have F5 := fun_mk (st := s_Table_columns) l5 c5 k5
  have b5 := F5.binds (ps := ["self"]) fun _ _ _ _ _ _ us hl => len1 hl fun _ => rfl
  have F6 := fun_mk (st := s_Table_rows) l6 c6 k6
  have b6 := F6.binds (ps := ["self"]) fun _ _ _ _ _ _ us hl => len1 hl fun _ => rfl
  have F7 := fun_mk (st := s_names_together) l7 c7 k7
  have b7 := F7.binds (ps := ["first", "second", "most"]) fun _ _ _ _ _ _ us hl => len3 hl fun _ _ _ => rfl
  have m7 := PySem.W.mg_of X G a7
  have F8 := fun_mk (st := s_upon) l8 c8 k8
  have b8 := F8.binds (ps := ["one", "other"]) fun _ _ _ _ _ _ us hl => len2 hl fun _ _ => rfl
  have m8 := PySem.W.mg_of X G a8
  have F9 := fun_mk (st := s_law_cell_at) l9 c9 k9
  have b9 := F9.binds (ps := ["_law_script", "_law_k"]) fun _ _ _ _ _ _ us hl => len2 hl fun _ _ => rfl
  have m9 := PySem.W.mg_of X G a9
  have F10 := fun_mk (st := s_law_mixed) l10 c10 k10
  have b10 := F10.binds (ps := ["_law_number", "_law_k"]) fun _ _ _ _ _ _ us hl => len2 hl fun _ _ => rfl
  have m10 := PySem.W.mg_of X G a10
  have F11 := fun_mk (st := s_law_name_by) l11 c11 k11
  have b11 := F11.binds (ps := ["_law_cell", "_law_k"]) fun _ _ _ _ _ _ us hl => len2 hl fun _ _ => rfl
  have m11 := PySem.W.mg_of X G a11
  have F12 := fun_mk (st := s_law_whole) l12 c12 k12
  have b12 := F12.binds (ps := ["_law_found"]) fun _ _ _ _ _ _ us hl => len1 hl fun _ => rfl
  have m12 := PySem.W.mg_of X G a12
  have F13 := fun_mk (st := s_law_texts) l13 c13 k13
  have b13 := F13.binds (ps := ["_law_found", "_law_due"]) fun _ _ _ _ _ _ us hl => len2 hl fun _ _ => rfl
  have m13 := PySem.W.mg_of X G a13
  have F14 := fun_mk (st := s_law_numbers) l14 c14 k14
  have b14 := F14.binds (ps := ["_law_found", "_law_due"]) fun _ _ _ _ _ _ us hl => len2 hl fun _ _ => rfl
  have m14 := PySem.W.mg_of X G a14
  have F15 := fun_mk (st := s_law_kind) l15 c15 k15
  have b15 := F15.binds (ps := ["_law_error"]) fun _ _ _ _ _ _ us hl => len1 hl fun _ => rfl
  have m15 := PySem.W.mg_of X G a15
  have F16 := fun_mk (st := s_law_due_kind) l16 c16 k16
  have b16 := F16.binds (ps := ["_law_unlike", "_law_twice", "_law_large"]) fun _ _ _ _ _ _ us hl => len3 hl fun _ _ _ => rfl
  have m16 := PySem.W.mg_of X G a16
  have F17 := fun_mk (st := s_law_turned) l17 c17 k17
  have b17 := F17.binds (ps := ["_law_names", "_law_stranger", "_law_number", "_law_most"]) fun _ _ _ _ _ _ us hl => len4 hl fun _ _ _ _ => rfl
  have m17 := PySem.W.mg_of X G a17
  have F18 := fun_mk (st := s_law_table_alike) l18 c18 k18
  have b18 := F18.binds (ps := ["_law_table", "_law_things", "_law_heads", "_law_sets"]) fun _ _ _ _ _ _ us hl => len4 hl fun _ _ _ _ => rfl
  have m18 := PySem.W.mg_of X G a18
  have F19 := fun_mk (st := s_law_made) l19 c19 k19
  have b19 := F19.binds (ps := ["_law_things", "_law_heads", "_law_sets"]) fun _ _ _ _ _ _ us hl => len3 hl fun _ _ _ => rfl
  have m19 := PySem.W.mg_of X G a19
  have F20 := fun_mk (st := s_law_counts) l20 c20 k20
  have b20 := F20.binds (ps := ["_law_number", "_law_many"]) fun _ _ _ _ _ _ us hl => len2 hl fun _ _ => rfl
  have m20 := PySem.W.mg_of X G a20
  have F21 := fun_mk (st := s_law) l21 c21 k21
  have m21 := PySem.W.mg_of X G a21
  have m_TraitError := PySem.W.mg_of X G a_TraitError
  have m_BadText := PySem.W.mg_of X G a_BadText
  have m_Twice := PySem.W.mg_of X G a_Twice
  have m_TooLarge := PySem.W.mg_of X G a_TooLarge
  have m_Unknown := PySem.W.mg_of X G a_Unknown
  have m_Gap := PySem.W.mg_of X G a_Gap
  have m_AtEnd := PySem.W.mg_of X G a_AtEnd
  have m_BadSet := PySem.W.mg_of X G a_BadSet
  have m_NotBroken := PySem.W.mg_of X G a_NotBroken
  have m_Against := PySem.W.mg_of X G a_Against
  have m_OutOfPlace := PySem.W.mg_of X G a_OutOfPlace
  have m_Unlike := PySem.W.mg_of X G a_Unlike
  have m_Table := PySem.W.mg_of X G a_Table
  have c_MOST_THINGS := PySem.W.mg_of X G a_MOST_THINGS
  have T_Table : Txt_Table K C_Table := ⟨⟨pg_Table, hd_Table, po_Table, sa_Table⟩, n_Table_thing_names, n_Table_column_names, n_Table_thing_rows⟩
  have M_Table : Mk K C_Table f3 := ⟨mk_Table, a3, i3, kc_Table⟩
  have h4 : Meth K C_Table "things" f4 := ⟨a4, i4, k4⟩
  have h5 : Meth K C_Table "columns" f5 := ⟨a5, i5, k5⟩
  have h6 : Meth K C_Table "rows" f6 := ⟨a6, i6, k6⟩
  have XC_Twice : XCls K C_Twice := ⟨xga_Twice, xno_Twice, xbe_Twice, xob_Twice, xhd_Twice, xsa_Twice, xcl_Twice, xgs, xtk⟩
  have M_Twice : XMk K C_Twice f1 := ⟨xex_Twice, xfn_Twice, xkp_Twice⟩
  have R_Twice : XRs K C_Twice := .inl ⟨_, xex_Twice⟩
  have XC_TooLarge : XCls K C_TooLarge := ⟨xga_TooLarge, xno_TooLarge, xbe_TooLarge, xob_TooLarge, xhd_TooLarge, xsa_TooLarge, xcl_TooLarge, xgs, xtk⟩
  have M_TooLarge : XMk K C_TooLarge f2 := ⟨xex_TooLarge, xfn_TooLarge, xkp_TooLarge⟩
  have R_TooLarge : XRs K C_TooLarge := .inl ⟨_, xex_TooLarge⟩
  have XC_Unlike : XCls K C_Unlike := ⟨xga_Unlike, xno_Unlike, xbe_Unlike, xob_Unlike, xhd_Unlike, xsa_Unlike, xcl_Unlike, xgs, xtk⟩
  have M_Unlike : XMk0 K C_Unlike := ⟨xe0_Unlike, xkp_Unlike⟩
  have R_Unlike : XRs K C_Unlike := .inr xe0_Unlike
  have IS_Table : IsOwn K C_Table := ⟨T_Table.cl, oc_Table, xgs, xtk, om_Table, ki_Table⟩
  have E_Unlike : EK K [C_BadText, C_Twice, C_TooLarge, C_Gap, C_Unknown, C_AtEnd, C_BadSet, C_NotBroken, C_Against, C_OutOfPlace, C_Unlike] C_Unlike 10 := ⟨XC_Unlike, xi_Unlike_ValueError, ek_is xi_Unlike_BadText xi_Unlike_Twice xi_Unlike_TooLarge xi_Unlike_Gap xi_Unlike_Unknown xi_Unlike_AtEnd xi_Unlike_BadSet xi_Unlike_NotBroken xi_Unlike_Against xi_Unlike_OutOfPlace xi_Unlike_Unlike, by decide⟩
  have E_Twice : EK K [C_BadText, C_Twice, C_TooLarge, C_Gap, C_Unknown, C_AtEnd, C_BadSet, C_NotBroken, C_Against, C_OutOfPlace, C_Unlike] C_Twice 1 := ⟨XC_Twice, xi_Twice_ValueError, ek_is xi_Twice_BadText xi_Twice_Twice xi_Twice_TooLarge xi_Twice_Gap xi_Twice_Unknown xi_Twice_AtEnd xi_Twice_BadSet xi_Twice_NotBroken xi_Twice_Against xi_Twice_OutOfPlace xi_Twice_Unlike, by decide⟩
  have E_TooLarge : EK K [C_BadText, C_Twice, C_TooLarge, C_Gap, C_Unknown, C_AtEnd, C_BadSet, C_NotBroken, C_Against, C_OutOfPlace, C_Unlike] C_TooLarge 2 := ⟨XC_TooLarge, xi_TooLarge_ValueError, ek_is xi_TooLarge_BadText xi_TooLarge_Twice xi_TooLarge_TooLarge xi_TooLarge_Gap xi_TooLarge_Unknown xi_TooLarge_AtEnd xi_TooLarge_BadSet xi_TooLarge_NotBroken xi_TooLarge_Against xi_TooLarge_OutOfPlace xi_TooLarge_Unlike, by decide⟩
  have H3_ek := cs3 (P := fun j c => EK K [C_BadText, C_Twice, C_TooLarge, C_Gap, C_Unknown, C_AtEnd, C_BadSet, C_NotBroken, C_Against, C_OutOfPlace, C_Unlike] c (numJ j)) E_Unlike E_Twice E_TooLarge
  have H3_em := cs3 (P := fun _ c => PySem.W.exmOne K (.ref c) (.ref C_TraitError) = some true) xm_Unlike xm_Twice xm_TooLarge
  have y_ValueError := PySem.W.mg_none_of X G z_ValueError
  have y_any := PySem.W.mg_none_of X G z_any
  have y_bool := PySem.W.mg_none_of X G z_bool
  have y_int := PySem.W.mg_none_of X G z_int
  have y_isinstance := PySem.W.mg_none_of X G z_isinstance
  have y_len := PySem.W.mg_none_of X G z_len
  have y_list := PySem.W.mg_none_of X G z_list
  have y_range := PySem.W.mg_none_of X G z_range
  have y_str := PySem.W.mg_none_of X G z_str
  refine ⟨PySem.W.fnOf "law" "law" (defArgs s_law) (defBody s_law) (defScope s_law) .none kV21 dc21 pm21 an21 cd21 ct21, fun s v => .of_eq rfl, fun base _ _ => ?_⟩
  have G10 := ok_law_mixed (P := l.prog) (w := w) (mg := mg) (base := base) F10
  have G9 := ok_law_cell_at (P := l.prog) (w := w) (mg := mg) (base := base) F9 y_len
  have G20 := ok_law_counts (P := l.prog) (w := w) (mg := mg) (base := base) F20
  have G11 := ok_law_name_by (P := l.prog) (w := w) (mg := mg) (base := base) F11 y_range
  have G17 := ok_law_turned (P := l.prog) (w := w) (mg := mg) (base := base) F17 y_list y_len
  have G3 := ok_Table_init (P := l.prog) (w := w) (mg := mg) (base := base) T_Table F3 y_list
  have G19 := ok_law_made (P := l.prog) (w := w) (mg := mg) (base := base) T_Table F19 G3 b3 M_Table m_Table y_list
  have G5 := ok_Table_columns (P := l.prog) (w := w) (mg := mg) (base := base) T_Table F5 y_list
  have G1 := ok_Twice_init (P := l.prog) (w := w) (mg := mg) (base := base) F1
  have G2 := ok_TooLarge_init (P := l.prog) (w := w) (mg := mg) (base := base) F2
  have G7 := ok_names_together (P := l.prog) (w := w) (mg := mg) (base := base) F7 XC_Twice xov_Twice xnf_Twice XC_TooLarge xov_TooLarge xnf_TooLarge (C_Unlike := C_Unlike) G1 b1 G2 b2 m_Twice m_TooLarge M_Twice M_TooLarge R_Twice R_TooLarge y_any y_len
  have G4 := ok_Table_things (P := l.prog) (w := w) (mg := mg) (base := base) T_Table F4 y_list
  have G6 := ok_Table_rows (P := l.prog) (w := w) (mg := mg) (base := base) T_Table F6 y_list
  have G8 := ok_upon (P := l.prog) (w := w) (mg := mg) (base := base) T_Table F8 (C_Twice := C_Twice) (C_TooLarge := C_TooLarge) G5 b5 h5 G7 b7 k7 m7 G4 b4 h4 G3 b3 G6 b6 h6 m_Unlike M_Unlike R_Unlike M_Table m_Table c_MOST_THINGS
  have G16 := ok_law_due_kind (P := l.prog) (w := w) (mg := mg) (base := base) F16
  have G13 := ok_law_texts (P := l.prog) (w := w) (mg := mg) (base := base) F13 y_len y_isinstance y_list y_range y_str
  have G12 := ok_law_whole (P := l.prog) (w := w) (mg := mg) (base := base) F12 y_isinstance y_bool y_int
  have G14 := ok_law_numbers (P := l.prog) (w := w) (mg := mg) (base := base) F14 G12 b12 k12 m12 y_len y_isinstance y_list y_range
  have G18 := ok_law_table_alike (P := l.prog) (w := w) (mg := mg) (base := base) T_Table F18 G4 b4 h4 G5 b5 h5 G6 b6 h6 G13 b13 k13 m13 G14 b14 k14 m14 y_range
  have G15 := ok_law_kind (P := l.prog) (w := w) (mg := mg) (base := base) F15 H3_ek xnf_Twice xnf_TooLarge G12 b12 k12 m12 m_TooLarge m_Twice m_Unlike m_Gap m_Unknown m_BadText m_NotBroken m_BadSet m_AtEnd m_OutOfPlace m_Against y_isinstance y_ValueError
  have G21 := ok_law (P := l.prog) (w := w) (mg := mg) (base := base) F21 IS_Table H3_em G10 b10 k10 m10 G9 b9 k9 m9 G20 b20 k20 m20 G11 b11 k11 m11 G17 b17 k17 m17 G19 b19 k19 m19 G8 b8 k8 m8 G16 b16 k16 m16 G18 b18 k18 m18 G15 b15 k15 m15 m_TraitError m_Table y_len y_range y_list y_isinstance
  exact G21
theorem walk {l : PySem.W.OpenLaw} {q : Program} {loose : List Str} {XP : (Str → Option Value) → Heap → Prop} {YP : World → Heap → Prop} {d : DefRec} {K : Params → PySem.W.Frag} (hn : l.most = some 63) (hdf : d.params.defaults = [])
    (hY : ∀ (w : World) (h : Heap), YP w h → (K w.params).In h)
    (F : ∀ (w : World) (mg : Str → Option Value) (fa : Addr) (h : Heap), (K w.params).In h → h.Ns mainGlobals mg → mg d.name = some (.ref fa) →
      ∃ fd : FuncData, (∀ (s : Shared) (u : Value), BindsTo s fd ⟨[u], []⟩ [("_law_script", u)]) ∧ ∀ base : Heap, (K w.params).In base → base.Ns mainGlobals mg → FnOk l.prog w (K w.params) mg base CX0 6 fa fd ["_law_script"] (spLaw (K w.params))) :
    PySem.W.WalkO q loose XP YP l.row.toRowW d [] (fun f vs => PySem.call f vs) :=
  L2.walk_of (n := 63) (k := 6) (x := "_law_script") (CX := fun _ => CX0) (sp := fun w => spLaw (K w.params)) hn (by decide) hdf ⟨rfl, by decide, by decide⟩ hY F (fun _ _ a ns hl _ hS => ⟨a, ns, rfl, hS, hl, fun _ => rfl⟩) fun _ _ _ _ _ h => h.elim
end My
open PySem PySem.W PyProof.Rows
set_option maxRecDepth 100000 in
set_option maxHeartbeats 0 in
theorem PySem.Challenge.cw_traitlattice_k35_one_on_another_holds : PySem.Challenge.rw_traitlattice_k35_one_on_another.Holds := by
  w_on; o_law; k_head; (case hw => w_witness2)
  k_fill
  refine My.walk (l := PySem.Challenge.rw_traitlattice_k35_one_on_another) rfl rfl (fun w h Y => PySem.W.kIn_of Y) ?F
  case F =>
    intro w mg fa h KX G hmg
    refine' My.all_mk KX G hmg ?a_TraitError ?a_BadText ?a_Twice ?a_TooLarge ?a_Unknown ?a_Gap ?a_AtEnd ?a_BadSet ?a_NotBroken ?a_Against ?a_OutOfPlace ?a_Unlike ?a_Table ?a_MOST_THINGS ?a1 ?l1 ?c1 ?k1 ?a2 ?l2 ?c2 ?k2 ?a3 ?l3 ?c3 ?k3 ?i3 ?a4 ?l4 ?c4 ?k4 ?i4 ?a5 ?l5 ?c5 ?k5 ?i5 ?a6 ?l6 ?c6 ?k6 ?i6 ?a7 ?l7 ?c7 ?k7 ?a8 ?l8 ?c8 ?k8 ?a9 ?l9 ?c9 ?k9 ?a10 ?l10 ?c10 ?k10 ?a11 ?l11 ?c11 ?k11 ?a12 ?l12 ?c12 ?k12 ?a13 ?l13 ?c13 ?k13 ?a14 ?l14 ?c14 ?k14 ?a15 ?l15 ?c15 ?k15 ?a16 ?l16 ?c16 ?k16 ?a17 ?l17 ?c17 ?k17 ?a18 ?l18 ?c18 ?k18 ?a19 ?l19 ?c19 ?k19 ?a20 ?l20 ?c20 ?k20 ?a21 ?l21 ?c21 ?k21 ?pg_Table ?hd_Table ?po_Table ?sa_Table ?mk_Table ?kc_Table ?n_Table_thing_names ?n_Table_column_names ?n_Table_thing_rows ?oc_Table ?om_Table ?ki_Table ?xga_Twice ?xno_Twice ?xbe_Twice ?xob_Twice ?xhd_Twice ?xsa_Twice ?xcl_Twice ?xex_Twice ?xfn_Twice ?xkp_Twice ?xov_Twice ?xnf_Twice ?xm_Twice ?xi_Twice_ValueError ?xi_Twice_BadText ?xi_Twice_Twice ?xi_Twice_TooLarge ?xi_Twice_Gap ?xi_Twice_Unknown ?xi_Twice_AtEnd ?xi_Twice_BadSet ?xi_Twice_NotBroken ?xi_Twice_Against ?xi_Twice_OutOfPlace ?xi_Twice_Unlike ?xga_TooLarge ?xno_TooLarge ?xbe_TooLarge ?xob_TooLarge ?xhd_TooLarge ?xsa_TooLarge ?xcl_TooLarge ?xex_TooLarge ?xfn_TooLarge ?xkp_TooLarge ?xov_TooLarge ?xnf_TooLarge ?xm_TooLarge ?xi_TooLarge_ValueError ?xi_TooLarge_BadText ?xi_TooLarge_Twice ?xi_TooLarge_TooLarge ?xi_TooLarge_Gap ?xi_TooLarge_Unknown ?xi_TooLarge_AtEnd ?xi_TooLarge_BadSet ?xi_TooLarge_NotBroken ?xi_TooLarge_Against ?xi_TooLarge_OutOfPlace ?xi_TooLarge_Unlike ?xga_Unlike ?xno_Unlike ?xbe_Unlike ?xob_Unlike ?xhd_Unlike ?xsa_Unlike ?xcl_Unlike ?xe0_Unlike ?xkp_Unlike ?xm_Unlike ?xi_Unlike_ValueError ?xi_Unlike_BadText ?xi_Unlike_Twice ?xi_Unlike_TooLarge ?xi_Unlike_Gap ?xi_Unlike_Unknown ?xi_Unlike_AtEnd ?xi_Unlike_BadSet ?xi_Unlike_NotBroken ?xi_Unlike_Against ?xi_Unlike_OutOfPlace ?xi_Unlike_Unlike ?xgs ?xtk ?z_ValueError ?z_any ?z_bool ?z_int ?z_isinstance ?z_len ?z_list ?z_range ?z_str
    (case a_TraitError => k_is)
    (case a_BadText => k_is)
    (case a_Twice => k_is)
    (case a_TooLarge => k_is)
    (case a_Unknown => k_is)
    (case a_Gap => k_is)
    (case a_AtEnd => k_is)
    (case a_BadSet => k_is)
    (case a_NotBroken => k_is)
    (case a_Against => k_is)
    (case a_OutOfPlace => k_is)
    (case a_Unlike => k_is)
    (case a_Table => k_is)
    (case a_MOST_THINGS => k_is)
    (case a1 => k_is)
    (case l1 => k_is)
    (case c1 => k_is)
    (case k1 => k_is)
    (case a2 => k_is)
    (case l2 => k_is)
    (case c2 => k_is)
    (case k2 => k_is)
    (case a3 => k_is)
    (case l3 => k_is)
    (case c3 => k_is)
    (case k3 => k_is)
    (case i3 => k_is)
    (case a4 => k_is)
    (case l4 => k_is)
    (case c4 => k_is)
    (case k4 => k_is)
    (case i4 => k_is)
    (case a5 => k_is)
    (case l5 => k_is)
    (case c5 => k_is)
    (case k5 => k_is)
    (case i5 => k_is)
    (case a6 => k_is)
    (case l6 => k_is)
    (case c6 => k_is)
    (case k6 => k_is)
    (case i6 => k_is)
    (case a7 => k_is)
    (case l7 => k_is)
    (case c7 => k_is)
    (case k7 => k_is)
    (case a8 => k_is)
    (case l8 => k_is)
    (case c8 => k_is)
    (case k8 => k_is)
    (case a9 => k_is)
    (case l9 => k_is)
    (case c9 => k_is)
    (case k9 => k_is)
    (case a10 => k_is)
    (case l10 => k_is)
    (case c10 => k_is)
    (case k10 => k_is)
    (case a11 => k_is)
    (case l11 => k_is)
    (case c11 => k_is)
    (case k11 => k_is)
    (case a12 => k_is)
    (case l12 => k_is)
    (case c12 => k_is)
    (case k12 => k_is)
    (case a13 => k_is)
    (case l13 => k_is)
    (case c13 => k_is)
    (case k13 => k_is)
    (case a14 => k_is)
    (case l14 => k_is)
    (case c14 => k_is)
    (case k14 => k_is)
    (case a15 => k_is)
    (case l15 => k_is)
    (case c15 => k_is)
    (case k15 => k_is)
    (case a16 => k_is)
    (case l16 => k_is)
    (case c16 => k_is)
    (case k16 => k_is)
    (case a17 => k_is)
    (case l17 => k_is)
    (case c17 => k_is)
    (case k17 => k_is)
    (case a18 => k_is)
    (case l18 => k_is)
    (case c18 => k_is)
    (case k18 => k_is)
    (case a19 => k_is)
    (case l19 => k_is)
    (case c19 => k_is)
    (case k19 => k_is)
    (case a20 => k_is)
    (case l20 => k_is)
    (case c20 => k_is)
    (case k20 => k_is)
    (case a21 => k_is)
    (case l21 => k_is)
    (case c21 => k_is)
    (case k21 => k_is)
    (case pg_Table => k_is)
    (case hd_Table => k_is)
    (case po_Table => k_is)
    (case sa_Table => k_is)
    (case mk_Table => k_is)
    (case kc_Table => k_is)
    (case n_Table_thing_names => k_is)
    (case n_Table_column_names => k_is)
    (case n_Table_thing_rows => k_is)
    (case oc_Table => k_is)
    (case om_Table => k_is)
    (case ki_Table => kit_is)
    (case xga_Twice => k_is)
    (case xno_Twice => k_is)
    (case xbe_Twice => k_is)
    (case xob_Twice => k_is)
    (case xhd_Twice => k_is)
    (case xsa_Twice => k_is)
    (case xcl_Twice => k_is)
    (case xex_Twice => kernel_rfl)
    (case xfn_Twice => k_is)
    (case xkp_Twice => k_is)
    (case xov_Twice => kernel_rfl)
    (case xnf_Twice => k_is)
    (case xm_Twice => kernel_rfl)
    (case xi_Twice_ValueError => kit_is)
    (case xi_Twice_BadText => kit_is)
    (case xi_Twice_Twice => kit_is)
    (case xi_Twice_TooLarge => kit_is)
    (case xi_Twice_Gap => kit_is)
    (case xi_Twice_Unknown => kit_is)
    (case xi_Twice_AtEnd => kit_is)
    (case xi_Twice_BadSet => kit_is)
    (case xi_Twice_NotBroken => kit_is)
    (case xi_Twice_Against => kit_is)
    (case xi_Twice_OutOfPlace => kit_is)
    (case xi_Twice_Unlike => kit_is)
    (case xga_TooLarge => k_is)
    (case xno_TooLarge => k_is)
    (case xbe_TooLarge => k_is)
    (case xob_TooLarge => k_is)
    (case xhd_TooLarge => k_is)
    (case xsa_TooLarge => k_is)
    (case xcl_TooLarge => k_is)
    (case xex_TooLarge => kernel_rfl)
    (case xfn_TooLarge => k_is)
    (case xkp_TooLarge => k_is)
    (case xov_TooLarge => kernel_rfl)
    (case xnf_TooLarge => k_is)
    (case xm_TooLarge => kernel_rfl)
    (case xi_TooLarge_ValueError => kit_is)
    (case xi_TooLarge_BadText => kit_is)
    (case xi_TooLarge_Twice => kit_is)
    (case xi_TooLarge_TooLarge => kit_is)
    (case xi_TooLarge_Gap => kit_is)
    (case xi_TooLarge_Unknown => kit_is)
    (case xi_TooLarge_AtEnd => kit_is)
    (case xi_TooLarge_BadSet => kit_is)
    (case xi_TooLarge_NotBroken => kit_is)
    (case xi_TooLarge_Against => kit_is)
    (case xi_TooLarge_OutOfPlace => kit_is)
    (case xi_TooLarge_Unlike => kit_is)
    (case xga_Unlike => k_is)
    (case xno_Unlike => k_is)
    (case xbe_Unlike => k_is)
    (case xob_Unlike => k_is)
    (case xhd_Unlike => k_is)
    (case xsa_Unlike => k_is)
    (case xcl_Unlike => k_is)
    (case xe0_Unlike => kernel_rfl)
    (case xkp_Unlike => k_is)
    (case xm_Unlike => kernel_rfl)
    (case xi_Unlike_ValueError => kit_is)
    (case xi_Unlike_BadText => kit_is)
    (case xi_Unlike_Twice => kit_is)
    (case xi_Unlike_TooLarge => kit_is)
    (case xi_Unlike_Gap => kit_is)
    (case xi_Unlike_Unknown => kit_is)
    (case xi_Unlike_AtEnd => kit_is)
    (case xi_Unlike_BadSet => kit_is)
    (case xi_Unlike_NotBroken => kit_is)
    (case xi_Unlike_Against => kit_is)
    (case xi_Unlike_OutOfPlace => kit_is)
    (case xi_Unlike_Unlike => kit_is)
    (case xgs => k_is)
    (case xtk => k_is)
    (case z_ValueError => k_is)
    (case z_any => k_is)
    (case z_bool => k_is)
    (case z_int => k_is)
    (case z_isinstance => k_is)
    (case z_len => k_is)
    (case z_list => k_is)
    (case z_range => k_is)
    (case z_str => k_is)