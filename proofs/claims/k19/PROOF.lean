import PyProof.Rows.All
import Wide.All
import OpenK.AllK
import Wide.FinOn
import Lean
import PyProof.EqAt
import PyProof.EqKinds
import PyProof.TupleCall
import PySem.Challenge.RW_downstair_k19_read
set_option Elab.async false
set_option linter.all false
set_option maxRecDepth 100000

namespace L2
open PySem PySem.Spec PyProof.Rows

noncomputable abbrev Key := Sum Int Str
noncomputable def keyIs : Key → Value → Bool
  | .inl k, v => Value.isInt k v
  | .inr x, v => Value.isStrOf x v
noncomputable def keyH (w : World) : Key → Int
  | .inl k => hashInt k
  | .inr x => hashStr w x
theorem keyIs_shape : ∀ {k : Key} {v : Value}, keyIs k v = true → (∃ i t, k = Sum.inl i ∧ v = Value.int i t) ∨ (∃ x t, k = Sum.inr x ∧ v = Value.str x t)
  | .inl i, v, h => by
    obtain ⟨t, e⟩ := Value.isInt_shape (k := i) (v := v) h
    exact .inl ⟨i, t, rfl, e⟩
  | .inr x, v, h => by
    obtain ⟨t, e⟩ := Value.isStrOf_shape (x := x) (v := v) h
    exact .inr ⟨x, t, rfl, e⟩
theorem key_ll (a b : Int) : decide ((Sum.inl a : Key) = Sum.inl b) = (a == b) := by
  by_cases e : a = b
  · subst e; simp
  · have h : ¬ (Sum.inl a : Key) = Sum.inl b := fun q => e (Sum.inl.inj q)
    rw [decide_eq_false h]
    exact (beq_eq_false_iff_ne.mpr e).symm
theorem key_rr (a b : Str) : decide ((Sum.inr a : Key) = Sum.inr b) = decide (a = b) := by
  by_cases e : a = b
  · subst e; simp
  · have h : ¬ (Sum.inr a : Key) = Sum.inr b := fun q => e (Sum.inr.inj q)
    rw [decide_eq_false h, decide_eq_false e]
theorem key_lr (a : Int) (b : Str) : decide ((Sum.inl a : Key) = Sum.inr b) = false := decide_eq_false (fun q => nomatch q)
theorem key_rl (a : Str) (b : Int) : decide ((Sum.inr a : Key) = Sum.inl b) = false := decide_eq_false (fun q => nomatch q)

noncomputable def mixKind (prog : Program) (w : World) : PySem.KeyKind prog w Key where
  is := keyIs
  hash := keyH w
  inj := fun v a b ha hb => by
    rcases keyIs_shape ha with ⟨i, t, rfl, rfl⟩ | ⟨x, t, rfl, rfl⟩
    · rcases keyIs_shape hb with ⟨j, u, rfl, e⟩ | ⟨y, u, rfl, e⟩
      · injection e with e1 _; rw [e1]
      · exact nomatch e
    · rcases keyIs_shape hb with ⟨j, u, rfl, e⟩ | ⟨y, u, rfl, e⟩
      · exact nomatch e
      · injection e with e1 _; rw [e1]
  byValue := fun k v h => by
    rcases keyIs_shape h with ⟨i, t, rfl, rfl⟩ | ⟨x, t, rfl, rfl⟩ <;> rfl
  pyHash := fun hv h => by
    rcases keyIs_shape hv with ⟨i, t, rfl, rfl⟩ | ⟨x, t, rfl, rfl⟩
    · exact wpAny_pyHash_int h
    · exact wpAny_pyHash_str h
  eqBool := fun hu hv h => by
    rcases keyIs_shape hu with ⟨i, t, rfl, rfl⟩ | ⟨x, t, rfl, rfl⟩
    · rcases keyIs_shape hv with ⟨j, u, rfl, rfl⟩ | ⟨y, u, rfl, rfl⟩
      · rw [key_ll] at h; exact wpAny_eqBool_int h
      · rw [key_lr] at h; exact SeqAt.EqAt.int_str i t y u _ _ _ _ h
    · rcases keyIs_shape hv with ⟨j, u, rfl, rfl⟩ | ⟨y, u, rfl, rfl⟩
      · rw [key_rl] at h; exact SeqAt.EqAt.str_int x t j u _ _ _ _ h
      · rw [key_rr] at h; exact wpAny_eqBool_str h
  «strs» := fun k x t v h => by
    rcases keyIs_shape h with ⟨i, u, rfl, e⟩ | ⟨y, u, rfl, e⟩
    · exact nomatch e
    · injection e with e1 _
      subst e1
      cases v <;> rfl

end L2

namespace L2
open PySem PySem.Spec PyProof.Rows

inductive V where
  | non | bl (b : Bool) | int (i : Int) | str (x : Str) | byt (b : Array UInt8) | flt (b : UInt64) | ref (a : Addr) | ty (n : String)
  deriving DecidableEq

noncomputable def RelV : V → Value → Prop
  | .non, u => u = Value.none
  | .bl b, u => u = Value.bool b
  | .int i, u => ∃ t, u = Value.int i t
  | .str x, u => ∃ t, u = Value.str x t
  | .byt b, u => ∃ t, u = Value.bytes b t
  | .flt b, u => ∃ t, u = Value.float b t
  | .ref a, u => u = Value.ref a
  | .ty n, u => u = Value.type n

noncomputable abbrev Vals : List V → List Value → Prop := Paired RelV
theorem Vals.length {xs : List V} {us : List Value} (r : Vals xs us) : xs.length = us.length := Paired.length r
theorem Vals.get : ∀ {xs : List V} {us : List Value} {i : Nat} {x : V}, Vals xs us → xs[i]? = some x → ∃ u, us[i]? = some u ∧ RelV x u
  | _, _, _, _, .nil, e => by simp at e
  | _, _, 0, _, .cons r _, e => by simp at e; subst e; exact ⟨_, rfl, r⟩
  | _, _, i + 1, x, .cons _ t, e => by
    obtain ⟨u, h1, h2⟩ := Vals.get (i := i) (x := x) t (by simpa using e)
    exact ⟨u, by simpa using h1, h2⟩
theorem Vals.set {x : V} {u : Value} (r : RelV x u) : ∀ {xs : List V} {us : List Value} (i : Nat), Vals xs us → Vals (xs.set i x) (us.set i u)
  | _, _, _, .nil => .nil
  | _, _, 0, .cons _ t => .cons r t
  | _, _, i + 1, .cons q t => .cons q (Vals.set r i t)
theorem Vals.append : ∀ {xs ys : List V} {us ws : List Value}, Vals xs us → Vals ys ws → Vals (xs ++ ys) (us ++ ws)
  | _, _, _, _, .nil, s => s
  | _, _, _, _, .cons r t, s => .cons r (Vals.append t s)
theorem Vals.take : ∀ {xs : List V} {us : List Value} (n : Nat), Vals xs us → Vals (xs.take n) (us.take n)
  | _, _, 0, _ => .nil
  | _, _, _ + 1, .nil => .nil
  | _, _, n + 1, .cons r t => .cons r (Vals.take n t)
theorem Vals.drop : ∀ {xs : List V} {us : List Value} (n : Nat), Vals xs us → Vals (xs.drop n) (us.drop n)
  | _, _, 0, r => r
  | _, _, _ + 1, .nil => .nil
  | _, _, n + 1, .cons _ t => Vals.drop n t
noncomputable def RelO : Option V → Option Value → Prop
  | some v, some u => RelV v u
  | none, none => True
  | _, _ => False
noncomputable def KV {κ : Type} : List (κ × V) → List (κ × Value) → Prop := Paired fun (p : κ × V) (q : κ × Value) => p.1 = q.1 ∧ RelV p.2 q.2

noncomputable def kV : Key → V
  | .inl i => .int i
  | .inr x => .str x

inductive HO where
  /-- a list -/
  | lst (xs : List V)
  /-- a tuple (never changes) -/
  | tup (xs : List V)
  /-- a dict whose keys are ints and texts; one whose keys are tuples of ints and texts (the empty one is both) -/
  | dK (kvs : List (Key × V)) | dT (kvs : List (List Key × V))
  /-- a set of ints: its members, its size -/
  | set (S : Int → Bool) (n : Nat)
  /-- an instance of the class at C, its dict at dx, its attributes -/
  | ins (C dx : Addr) (fs : List (Str × V))
  /-- the dict of the instance at x -/
  | own (x : Addr)
  /-- the dict of an exception -/
  | xd (fs : List (Str × V))
  /-- a bound method, f of x -/
  | met (f x : Addr)
  /-- a range object lo, lo + 1, .. below hi -/
  | rng (lo hi : Int)
  /-- a thing that is known to the object (the script; a dict while a loop walks it): read, never written while it is so -/
  | frz (o : Obj) (u : HO)
  /-- a code object's table -/
  | tbl (ps : Array Value)
  /-- any other thing, by what is true of its one object (a def of one's own: SetO a S n := HO.ext fun h => ..) -/
  | ext (φ : Heap → Prop)

noncomputable abbrev Hp := Addr → Option HO
noncomputable def upd (H : Hp) (a : Addr) (o : HO) : Hp := fun b => if b = a then some o else H b
theorem upd_same {H : Hp} {a : Addr} {o : HO} : upd H a o a = some o := by unfold upd; rw [if_pos rfl]
theorem upd_ne {H : Hp} {a b : Addr} {o : HO} (h : b ≠ a) : upd H a o b = H b := by unfold upd; rw [if_neg h]
theorem ne_of_none {H : Hp} {a b : Addr} {o : HO} (h : H a = some o) (h' : H b = none) : a ≠ b := by
  intro e; subst e; rw [h] at h'; cases h'

section
variable (P : Program) (w : World)
noncomputable def ObjOk (H : Hp) (h : Heap) (a : Addr) : HO → Prop
  | .lst xs => xs.length ≤ sizeLine ∧ ∃ (its : List Value) (n : Nat), Vals xs its ∧ h.get? a = some { cls := .type "list", data := .seq its.toArray n }
  | .tup xs => xs.length ≤ sizeLine ∧ ∃ its : List Value, Vals xs its ∧ IsTup h a its.toArray
  | .dK kvs => kvs.length ≤ sizeLine ∧ (a == sysModules) = false ∧ ∃ vs, KV kvs vs ∧ h.DictOf (mixKind P w) a vs
  | .dT kvs => kvs.length ≤ sizeLine ∧ (a == sysModules) = false ∧ ∃ xs : List (List Key × Addr × Value),
      Paired (fun (p : List Key × V) (q : List Key × Addr × Value) => p.1 = q.1 ∧ H q.2.1 = some (.tup (p.1.map kV)) ∧ RelV p.2 q.2.2) kvs xs ∧
      ∃ o es ep, h.get? a = some o ∧ o.ExactDict ∧ o.data = .dict es ep ∧ es.toList = xs.map (entryOfKey (tupleKind (mixKind P w))) ∧ (xs.map (·.1)).Nodup
  | .set S n => h.SetOf (intKind P w) a S n
  | .ins C dx fs => H dx = some (.own a) ∧ fs.length ≤ 1000 ∧ dx ≠ a ∧ h.get? a = some (PySem.W.instObj C dx) ∧
      ∃ mA, h.Ns1 dx mA ∧ (∀ f, RelO (fs.lookup f) (mA f)) ∧ PySem.Within mA (fs.map (·.1))
  | .own _ => ∃ o, h.get? a = some o
  | .xd fs => ∃ mA, h.Ns1 a mA ∧ ∀ f, RelO (fs.lookup f) (mA f)
  | .rng lo hi => ∃ t u v, h.get? a = some { cls := .type "range", data := .fields #[.int lo t, .int hi u, .int 1 v] }
  | .frz o u => h.get? a = some o ∧ ObjOk H h a u
  | .tbl ps => h.get? a = some { cls := .none, data := .fields ps }
  | .met f x => h.get? a = some (PySem.W.methodObj (.ref f) (.ref x))
  | .ext φ => φ h ∧ (∃ o, h.get? a = some o) ∧ ∀ h1 h2 : Heap, φ h1 → (∀ o, h1.get? a = some o → h2.get? a = some o) → φ h2
noncomputable def HOk (H : Hp) (h : Heap) : Prop := ∀ a o, H a = some o → ObjOk P w H h a o
end

section
variable {P : Program} {w : World} {H H' : Hp} {h h' : Heap} {a : Addr} {o : HO}
theorem ObjOk.lt (x : ObjOk P w H h a o) : a < h.objs.size := by
  cases o with
  | lst xs => obtain ⟨_, _, _, _, e⟩ := x; exact Heap.lt_size e
  | tup xs => obtain ⟨_, _, _, p⟩ := x; exact p.lt
  | dK kvs => obtain ⟨_, _, _, _, o, _, _, e, _⟩ := x; exact Heap.lt_size e
  | dT kvs => obtain ⟨_, _, _, _, o, _, _, e, _⟩ := x; exact Heap.lt_size e
  | set S n => obtain ⟨o, _, _, _, e, _⟩ := x; exact Heap.lt_size e
  | ins C dx fs => obtain ⟨_, _, _, e, _⟩ := x; exact Heap.lt_size e
  | own y => obtain ⟨_, e⟩ := x; exact Heap.lt_size e
  | xd fs => obtain ⟨_, ⟨_, _, _, e, _⟩, _⟩ := x; exact Heap.lt_size e
  | rng lo hi => obtain ⟨_, _, _, e⟩ := x; exact Heap.lt_size e
  | frz ob u => obtain ⟨e, _⟩ := x; exact Heap.lt_size e
  | tbl ps => exact Heap.lt_size (show h.get? a = some _ from x)
  | met f y => exact Heap.lt_size (show h.get? a = some _ from x)
  | ext φ => obtain ⟨_, ⟨_, e⟩, _⟩ := x; exact Heap.lt_size e
theorem Paired.mapP {α β : Type} {F G : α → β → Prop} : ∀ {l₁ : List α} {l₂ : List β}, Paired F l₁ l₂ → (∀ a b, F a b → G a b) → Paired G l₁ l₂
  | _, _, .nil, _ => .nil
  | _, _, .cons r t, f => .cons (f _ _ r) (Paired.mapP t f)
theorem ObjOk.stay (x : ObjOk P w H h a o) (k : ∀ b u, (b = a ∨ H b = some (.own a)) → h.get? b = some u → h'.get? b = some u)
    (ho : ∀ b, H b = some (.own a) → H' b = some (.own a)) (ht : ∀ b xs, H b = some (.tup xs) → H' b = some (.tup xs)) : ObjOk P w H' h' a o := by
  induction o with
  | lst xs => obtain ⟨z, its, n, r, e⟩ := x; exact ⟨z, its, n, r, k _ _ (.inl rfl) e⟩
  | tup xs => obtain ⟨z, its, r, ob, e, c⟩ := x; exact ⟨z, its, r, ob, k _ _ (.inl rfl) e, c⟩
  | dK kvs => obtain ⟨z, y, vs, r, ob, es, ep, e, c⟩ := x; exact ⟨z, y, vs, r, ob, es, ep, k _ _ (.inl rfl) e, c⟩
  | dT kvs =>
    obtain ⟨z, y, xs, r, ob, es, ep, e, c⟩ := x
    exact ⟨z, y, xs, Paired.mapP r fun p q z => ⟨z.1, ht _ _ z.2.1, z.2.2⟩, ob, es, ep, k _ _ (.inl rfl) e, c⟩
  | set S n => obtain ⟨ob, es, ep, t, e, c⟩ := x; exact ⟨ob, es, ep, t, k _ _ (.inl rfl) e, c⟩
  | ins C dx fs =>
    obtain ⟨d, z, ne, e, mA, ⟨od, es, ep, e2, c⟩, r⟩ := x
    exact ⟨ho _ d, z, ne, k _ _ (.inl rfl) e, mA, ⟨od, es, ep, k _ _ (.inr d) e2, c⟩, r⟩
  | own y => obtain ⟨ob, e⟩ := x; exact ⟨ob, k _ _ (.inl rfl) e⟩
  | xd fs => obtain ⟨mA, ⟨od, es, ep, e, c⟩, r⟩ := x; exact ⟨mA, ⟨od, es, ep, k _ _ (.inl rfl) e, c⟩, r⟩
  | rng lo hi => obtain ⟨t, u, v, e⟩ := x; exact ⟨t, u, v, k _ _ (.inl rfl) e⟩
  | frz ob u ih => obtain ⟨e, q⟩ := x; exact ⟨k _ _ (.inl rfl) e, ih q⟩
  | tbl ps =>
    have e : h.get? a = some { cls := .none, data := .fields ps } := x
    show h'.get? a = some { cls := .none, data := .fields ps }
    exact k a _ (.inl rfl) e
  | met f y =>
    have e : h.get? a = some (PySem.W.methodObj (.ref f) (.ref y)) := x
    show h'.get? a = some (PySem.W.methodObj (.ref f) (.ref y))
    exact k a _ (.inl rfl) e
  | ext φ => obtain ⟨p, ⟨o, e⟩, st⟩ := x; exact ⟨st _ _ p fun o q => k _ _ (.inl rfl) q, ⟨o, k _ _ (.inl rfl) e⟩, st⟩
theorem HOk.lt (x : HOk P w H h) (e : H a = some o) : a < h.objs.size := (x a o e).lt
theorem HOk.fresh (x : HOk P w H h) (e : h.objs.size ≤ a) : H a = none := by
  cases q : H a with
  | none => rfl
  | some u => exact absurd (Nat.lt_of_lt_of_le (x.lt q) e) (Nat.lt_irrefl _)
theorem HOk.kept (x : HOk P w H h) (k : ∀ b u, h.get? b = some u → h'.get? b = some u) : HOk P w H h' := fun a o e =>
  (x a o e).stay (fun b u _ q => k b u q) (fun _ q => q) fun _ _ q => q
theorem HOk.laid (x : HOk P w H h) (k : ∀ b u, h.get? b = some u → h'.get? b = some u) (hp : h.objs.size ≤ a) (new : ObjOk P w (upd H a o) h' a o) : HOk P w (upd H a o) h' := fun b u e => by
  have hn := x.fresh hp
  by_cases hb : b = a
  · subst hb; rw [upd_same] at e; cases e; exact new
  · rw [upd_ne hb] at e
    exact (x b u e).stay (fun c v _ q => k c v q) (fun c q => by rw [upd_ne (ne_of_none q hn)]; exact q) fun c xs q => by rw [upd_ne (ne_of_none q hn)]; exact q
end

noncomputable def Rd (H : Hp) (a : Addr) (u : HO) : Prop := H a = some u ∨ ∃ o, H a = some (.frz o u)
theorem Rd.of {H : Hp} {a : Addr} {u : HO} (h : H a = some u) : Rd H a u := .inl h
theorem Rd.ok {P : Program} {w : World} {H : Hp} {h : Heap} {a : Addr} {u : HO} (r : Rd H a u) (x : HOk P w H h) : ObjOk P w H h a u := by
  rcases r with r | ⟨o, r⟩
  · exact x a u r
  · obtain ⟨_, q⟩ := x a _ r
    exact q
noncomputable def Mut : Option HO → Prop
  | some (.lst _) => True
  | some (.dK _) => True
  | some (.dT _) => True
  | some (.set _ _) => True
  | some (.ins _ _ _) => True
  | some (.ext _) => True
  | _ => False
section
variable {P : Program} {w : World} {H : Hp} {h h' : Heap} {x e : Addr} {o' : HO}
theorem HOk.write (ok : HOk P w H h) (mu : Mut (H x)) (he : e = x ∨ H e = some (.own x)) (k : ∀ b u, b ≠ e → h.get? b = some u → h'.get? b = some u) (heo : ∃ u, h'.get? e = some u)
    (new : ObjOk P w (upd H x o') h' x o') : HOk P w (upd H x o') h' := fun b u q => by
  have nown : ∀ c y, H c = some (.own y) → c ≠ x := fun c y r z => by subst z; rw [r] at mu; exact mu
  have ntup : ∀ c xs, H c = some (.tup xs) → c ≠ x := fun c xs r z => by subst z; rw [r] at mu; exact mu
  by_cases hb : b = x
  · subst hb; rw [upd_same] at q; cases q; exact new
  · rw [upd_ne hb] at q
    by_cases hbe : b = e
    · have q' : H b = some (.own x) := by
        rcases he with z | z
        · exact absurd (hbe.trans z) hb
        · rw [hbe]; exact z
      rw [q] at q'; cases q'
      obtain ⟨v, hv⟩ := heo
      exact ⟨v, by rw [hbe]; exact hv⟩
    · refine (ok b u q).stay (fun c v hc r => k c v ?_ r) (fun c r => by rw [upd_ne (nown c b r)]; exact r) fun c xs r => by rw [upd_ne (ntup c xs r)]; exact r
      rcases hc with rfl | hc
      · exact hbe
      · rintro rfl
        rcases he with z | z
        · exact nown c b hc z
        · rw [hc] at z; cases z; exact hb rfl
end


structure Un (fs ex : List Addr) (H H' : Hp) (h h' : Heap) : Prop where
  keep : ∀ b o, h.get? b = some o → H b = none → b ∉ fs → b ∉ ex → h'.get? b = some o
  slot : ∀ b o, h.get? b = some o → H b = none → b ∈ fs → b ∉ ex → ∃ sl, h'.get? b = some { o with slots := sl }
  free : ∀ b o, h.get? b = some o → H b = none → b ∉ ex → H' b = none
  there : ∀ b o, h.get? b = some o → b ∉ ex → ∃ o', h'.get? b = some o'
  tups : ∀ b xs, H b = some (.tup xs) → H' b = some (.tup xs)
  frzs : ∀ b o u, H b = some (.frz o u) → H' b = some (.frz o u)
  tbls : ∀ b ps, H b = some (.tbl ps) → ∃ more, H' b = some (.tbl (ps ++ more))
section
variable {fs fs' ex ex' : List Addr} {H H1 H2 : Hp} {h h1 h2 h' : Heap} {a x e : Addr} {o : HO}
theorem Un.any (u : Un fs ex H H1 h h1) {b : Addr} {ob : Obj} (q : h.get? b = some ob) (n : H b = none) (hx : b ∉ ex) : ∃ sl, h1.get? b = some { ob with slots := sl } := by
  by_cases hb : b ∈ fs
  · exact u.slot b ob q n hb hx
  · exact ⟨ob.slots, u.keep b ob q n hb hx⟩
theorem Un.trans (a : Un fs ex H H1 h h1) (b : Un fs ex H1 H2 h1 h2) : Un fs ex H H2 h h2 where
  keep := fun c ob q n hc hx => b.keep c ob (a.keep c ob q n hc hx) (a.free c ob q n hx) hc hx
  slot := fun c ob q n hc hx => by
    obtain ⟨sl, e1⟩ := a.slot c ob q n hc hx
    obtain ⟨sl', e2⟩ := b.slot c _ e1 (a.free c ob q n hx) hc hx
    exact ⟨sl', e2⟩
  free := fun c ob q n hx => by
    obtain ⟨o', e1⟩ := a.there c ob q hx
    exact b.free c o' e1 (a.free c ob q n hx) hx
  there := fun c ob q hx => by
    obtain ⟨o', e1⟩ := a.there c ob q hx
    exact b.there c o' e1 hx
  tups := fun c xs q => b.tups c xs (a.tups c xs q)
  frzs := fun c ob xs q => b.frzs c ob xs (a.frzs c ob xs q)
  tbls := fun c ps q => by
    obtain ⟨m1, e1⟩ := a.tbls c ps q
    obtain ⟨m2, e2⟩ := b.tbls c _ e1
    exact ⟨m1 ++ m2, by rw [e2, Array.append_assoc]⟩
theorem Un.kept (k : ∀ b u, h.get? b = some u → h'.get? b = some u) : Un fs ex H H h h' :=
  ⟨fun b ob q _ _ _ => k b ob q, fun b ob q _ _ _ => ⟨ob.slots, k b ob q⟩, fun _ _ _ n _ => n, fun b ob q _ => ⟨ob, k b ob q⟩, fun _ _ q => q, fun _ _ _ q => q, fun _ ps q => ⟨#[], by rw [q]; simp⟩⟩
theorem Un.refl : Un fs ex H H h h := Un.kept fun _ _ q => q
theorem Un.laid (k : ∀ b u, h.get? b = some u → h'.get? b = some u) (hp : h.objs.size ≤ a) (hn : H a = none) : Un fs ex H (upd H a o) h h' where
  keep := fun b u q _ _ _ => k b u q
  slot := fun b u q _ _ _ => ⟨u.slots, k b u q⟩
  free := fun b u q n _ => by rw [upd_ne (Nat.ne_of_lt (Nat.lt_of_lt_of_le (Heap.lt_size q) hp))]; exact n
  there := fun b u q _ => ⟨u, k b u q⟩
  tups := fun b xs q => by rw [upd_ne (ne_of_none q hn)]; exact q
  frzs := fun b u xs q => by rw [upd_ne (ne_of_none q hn)]; exact q
  tbls := fun b ps q => ⟨#[], by rw [upd_ne (ne_of_none q hn), q]; simp⟩
theorem Un.write (mu : Mut (H x)) (he : e = x ∨ H e = some (.own x)) (k : ∀ b u, b ≠ e → h.get? b = some u → h'.get? b = some u) (heo : ∃ u, h'.get? e = some u) : Un fs ex H (upd H x o) h h' := by
  have hx : ∀ b, H b = none → b ≠ x := fun b n z => by subst z; rw [n] at mu; exact mu
  have hb : ∀ b, H b = none → b ≠ e := fun b n z => by
    subst z
    rcases he with r | r
    · exact hx b n r
    · rw [n] at r; cases r
  have hm : ∀ b u, H b = some u → ¬ Mut (some u) → b ≠ x := fun b u q nm z => by subst z; rw [q] at mu; exact nm mu
  refine ⟨fun b u q n _ _ => k b u (hb b n) q, fun b u q n _ _ => ⟨u.slots, k b u (hb b n) q⟩, fun b u q n _ => by rw [upd_ne (hx b n)]; exact n, fun b u q _ => ?_,
    fun b xs q => by rw [upd_ne (hm b _ q fun z => z)]; exact q, fun b u xs q => by rw [upd_ne (hm b _ q fun z => z)]; exact q, fun b ps q => ⟨#[], by rw [upd_ne (hm b _ q fun z => z), q]; simp⟩⟩
  by_cases hbe : b = e
  · subst hbe; exact heo
  · exact ⟨u, k b u hbe q⟩
theorem Un.mono (u : Un fs ex H H1 h h1) (hs : ∀ b ∈ fs, b ∈ fs') (hx : ∀ b ∈ ex, b ∈ ex') : Un fs' ex' H H1 h h1 :=
  ⟨fun b ob q n hb he => u.keep b ob q n (fun z => hb (hs b z)) fun z => he (hx b z), fun _ _ q n _ he => u.any q n fun z => he (hx _ z), fun b ob q n he => u.free b ob q n fun z => he (hx b z), fun b ob q he => u.there b ob q fun z => he (hx b z), u.tups, u.frzs, u.tbls⟩
end


noncomputable def trk (h : Heap) (H : Hp) : List Addr := (List.range h.objs.size).filter fun a => (H a).isSome
noncomputable def hidT (h : Heap) (H : Hp) : Heap := PySem.W.hideAll h (trk h H)
theorem hidT_size (h : Heap) (H : Hp) : (hidT h H).objs.size = h.objs.size := PySem.W.hideAll_size _ _
theorem hidT_get {h : Heap} {H : Hp} {b : Addr} {o : Obj} (e : h.get? b = some o) (n : H b = none) : (hidT h H).get? b = some o :=
  PySem.W.hideAll_get _ e fun hm => by
    have q : (H b).isSome = true := (List.mem_filter.mp hm).2
    rw [n] at q; simp at q
theorem of_hidT {h : Heap} {H : Hp} {b : Addr} {o : Obj} (e : (hidT h H).get? b = some o) : h.get? b = some o ∧ H b = none := by
  have e' : h.get? b = some o := PySem.W.of_hideAll (trk h H) e
  refine ⟨e', ?_⟩
  cases q : H b with
  | none => rfl
  | some x =>
    have hm : b ∈ trk h H := List.mem_filter.mpr ⟨List.mem_range.mpr (Heap.lt_size e'), by simp [q]⟩
    have z : (hidT h H).get? b = none := PySem.W.hideAll_none (trk h H) hm
    rw [z] at e; cases e


noncomputable def allNews (g h : Heap) (L : Addr) : List (Addr × Obj) := (List.range h.objs.size).filterMap fun a => if a = L ∨ (g.get? a).isSome = true then none else (h.get? a).map fun o => (a, o)
noncomputable def rest (g h : Heap) (L d : Addr) : List (Addr × Obj) := (allNews g h L).filter fun p => decide (p.1 ≠ d)
end L2

namespace L2
open PySem PySem.Spec PyProof.Rows

structure Mod (K : PySem.W.Frag) (mg : Str → Option Value) (base : Heap) : Prop where
  kin : K.In base
  glob : base.Ns mainGlobals mg
  blt : ∃ mb, base.Ns builtinsNs mb ∧ ∀ x : Str, x ≠ "__name__" → mb x = bootBuiltins x
  nolimit : base.NoLimit

structure Cx where
  prog : Program
  w : World
  K : PySem.W.Frag
  mg : Str → Option Value
  base : Heap
  A : Around
  N : List Str
  s₀ : Shared
  H₀ : Hp
  env : Env
  outer : List Env
  stack : List Env
  ex : List Addr
  fn : Str → Bool
  calm : Bool
  pn : List (Addr × Obj)
  xe : Value → Shared → Prop
noncomputable def frs (l : List Env) : List Addr := l.filterMap (·.frame)
noncomputable abbrev Cx.fs (X : Cx) : List Addr := frs X.outer

noncomputable def Vis (sc : Scope) (x : Str) : Prop := sc.names.lookup x = some .local ∨ sc.names.lookup x = some .cell ∨ sc.names.lookup x = some .free
noncomputable def Loc (sc : Scope) (x : Str) : Prop := sc.names.lookup x = some .local ∨ sc.names.lookup x = some .cell
noncomputable def Look (env : Env) (h : Heap) (m : Str → Option Value) (x : Str) (u : Value) : Prop :=
  (env.kindOf x = some .local ∧ m x = some u) ∨ ((env.kindOf x = some .cell ∨ env.kindOf x = some .free) ∧ ∃ c, env.cells.lookup x = some c ∧ h.IsCell c (some u))

structure Cx.Ok (X : Cx) : Prop where
  mod : Mod X.K X.mg X.base
  kind : X.env.scope.kind = .function
  glob : X.env.globals = mainGlobals
  blt : X.env.builtins = builtinsNs
  above : X.s₀.heap.objs.size ≤ X.env.locals
  inj : ∀ x y c, X.env.cells.lookup x = some c → X.env.cells.lookup y = some c → x = y
  has : ∀ x, (X.env.kindOf x = some .cell ∨ X.env.kindOf x = some .free) → ∃ c, X.env.cells.lookup x = some c
  cab : ∀ x c, X.fn x = true → X.env.cells.lookup x = some c → X.s₀.heap.objs.size ≤ c
  hd : X.calm = true → X.A.handled = none
  frames : X.A.frames = some X.stack
  stk : X.stack = X.outer ∨ (X.stack = X.env :: X.outer ∧ X.env.frame = some X.env.locals)
  exf : ∀ b ∈ X.ex, b ≠ X.env.locals ∧ ∀ x c, X.env.cells.lookup x = some c → c ≠ b
  bs : ∀ b o, X.base.get? b = some o → X.s₀.heap.get? b = some o ∧ X.H₀ b = none
  bsz : X.base.objs.size ≤ X.s₀.heap.objs.size
  noex : ∀ b o, X.base.get? b = some o → b ∉ X.ex
  exfs : ∀ b ∈ X.ex, b ∉ X.fs
  funs : X.s₀.heap.FunFrames X.base X.outer
  frf : ∀ b ∈ X.fs, X.H₀ b = none

structure Inv (X : Cx) (pins : List (Addr × Obj)) (σ : List (Option V)) (H : Hp) (s : Shared) : Prop where
  ok : X.Ok
  os : s.os = X.s₀.os
  bare : AllBare s.gens
  base : Un X.fs X.ex X.H₀ H X.s₀.heap s.heap
  loc : ∃ m, s.heap.Ns X.env.locals m ∧ ∀ (i : Nat) (x : Str) (v : V), X.N[i]? = some x → σ[i]? = some (some v) → Vis X.env.scope x → ∃ u, RelV v u ∧ Look X.env s.heap m x u
  cell : ∀ x c, X.env.cells.lookup x = some c → ∃ v, s.heap.IsCell c v
  free : H X.env.locals = none
  freeC : ∀ x c, X.env.cells.lookup x = some c → H c = none
  pin : ∀ p ∈ X.pn ++ pins, s.heap.get? p.1 = some p.2 ∧ H p.1 = none ∧ p.1 ≠ X.env.locals ∧ p.1 ∉ X.fs ∧ ∀ v, p.2.data ≠ .cell v
  hok : HOk X.prog X.w H s.heap
  len : σ.length = X.N.length

section
variable {X : Cx} {pins : List (Addr × Obj)} {σ : List (Option V)} {H H' : Hp} {s : Shared} {h' : Heap}

theorem Cx.Ok.nofr (ok : X.Ok) {b : Addr} {o : Obj} (e : X.base.get? b = some o) : b ∉ X.fs := fun hb => by
  have := (ok.funs.mem hb).1
  rw [e] at this; cases this
theorem Inv.bs (I : Inv X pins σ H s) : ∀ b o, X.base.get? b = some o → s.heap.get? b = some o ∧ H b = none := fun b o e =>
  ⟨I.base.keep b o (I.ok.bs b o e).1 (I.ok.bs b o e).2 (I.ok.nofr e) (I.ok.noex b o e), I.base.free b o (I.ok.bs b o e).1 (I.ok.bs b o e).2 (I.ok.noex b o e)⟩
theorem Inv.bk (I : Inv X pins σ H s) : ∀ b o, X.base.get? b = some o → s.heap.get? b = some o := fun b o e => (I.bs b o e).1
theorem Inv.mod (I : Inv X pins σ H s) : Mod X.K X.mg X.base := I.ok.mod
theorem Inv.kIn (I : Inv X pins σ H s) : X.K.In s.heap := I.ok.mod.kin.keeps I.bk
theorem Inv.nolimit (I : Inv X pins σ H s) : s.heap.NoLimit := I.ok.mod.nolimit.keeps I.bk
theorem Inv.fr (I : Inv X pins σ H s) : ∃ m, Fr X.base X.env.locals s.heap m :=
  let ⟨m, hn, _⟩ := I.loc
  ⟨m, hn, I.bk, Nat.le_trans I.ok.bsz I.ok.above⟩
theorem Inv.lt (I : Inv X pins σ H s) : X.env.locals < s.heap.objs.size := let ⟨_, hn, _⟩ := I.loc; hn.lt
theorem Inv.sz (I : Inv X pins σ H s) : X.s₀.heap.objs.size ≤ s.heap.objs.size := Nat.le_trans I.ok.above (Nat.le_of_lt I.lt)
theorem Inv.nofs (I : Inv X pins σ H s) {a : Addr} (h : s.heap.objs.size ≤ a) : a ∉ X.fs := fun hb => by
  obtain ⟨_, o, ho, _⟩ := I.ok.funs.mem hb
  exact absurd (Nat.lt_of_lt_of_le (Heap.lt_size ho) (Nat.le_trans I.sz h)) (Nat.lt_irrefl _)
theorem Inv.cne (I : Inv X pins σ H s) : ∀ x c, X.env.cells.lookup x = some c → c ≠ X.env.locals := fun x c e z => by
  obtain ⟨v, o, ho, hd⟩ := I.cell x c e
  obtain ⟨m, ⟨o', es, ep, ho', hd', _⟩, _⟩ := I.loc
  rw [z, ho'] at ho; cases ho; rw [hd'] at hd; cases hd
theorem Inv.funs (I : Inv X pins σ H s) : s.heap.FunFrames X.base X.outer := by
  have all : ∀ (l : List Env), (∀ b ∈ frs l, b ∈ X.fs) → X.s₀.heap.FunFrames X.base l → s.heap.FunFrames X.base l := by
    intro l
    induction l with
    | nil => intro _ _; trivial
    | cons env r ih =>
      intro hs hl
      obtain ⟨hk, ⟨L, o, hf, hn, ho, hd⟩, hr⟩ := hl
      have hL : L ∈ X.fs := hs L (by unfold frs; rw [List.filterMap_cons, hf]; exact List.mem_cons_self)
      obtain ⟨sl, e⟩ := I.base.slot L o ho (I.ok.frf L hL) hL fun z => I.ok.exfs L z hL
      exact ⟨hk, ⟨L, _, hf, hn, e, hd⟩, ih (fun b hb => hs b (by unfold frs; rw [List.filterMap_cons, hf]; exact List.mem_cons_of_mem _ hb)) hr⟩
  exact all X.outer (fun _ hb => hb) I.ok.funs

theorem Inv.stack (I : Inv X pins σ H s) : s.heap.FunFrames X.base X.stack := by
  rcases I.ok.stk with e | ⟨e, hf⟩
  · rw [e]; exact I.funs
  · rw [e]
    obtain ⟨m, hn, _⟩ := I.loc
    refine .cons (by rw [I.ok.kind]; decide) hf hn ?_ I.funs
    exact Heap.get?_none_of_le (Nat.le_trans I.ok.bsz I.ok.above)
theorem Inv.stkSub (I : Inv X pins σ H s) : ∀ b ∈ frs X.stack, b ∈ X.env.locals :: X.fs := fun b hb => by
  rcases I.ok.stk with e | ⟨e, hf⟩
  · rw [e] at hb; exact List.mem_cons_of_mem _ hb
  · rw [e] at hb
    unfold frs at hb
    rw [List.filterMap_cons, hf] at hb
    exact hb
theorem Inv.stkFree (I : Inv X pins σ H s) : ∀ b ∈ frs X.stack, H b = none := fun b hb => by
  rcases List.mem_cons.mp (I.stkSub b hb) with e | hb
  · rw [e]; exact I.free
  · obtain ⟨_, o, ho, _⟩ := I.ok.funs.mem hb
    exact I.base.free b o ho (I.ok.frf b hb) fun z => I.ok.exfs b z hb

theorem Inv.step {g' : Array GenState} {t' : Nat} {d' : Drawn} {ch : List Addr} (I : Inv X pins σ H s)
    (hch : ∀ b ∈ ch, (b ∈ X.ex ∨ X.s₀.heap.objs.size ≤ b) ∧ b ≠ X.env.locals ∧ (∀ x c, X.env.cells.lookup x = some c → c ≠ b) ∧ ∀ p ∈ X.pn ++ pins, p.1 ≠ b)
    (keep : ∀ b o, b ≠ X.env.locals → b ∉ X.fs → b ∉ ch → s.heap.get? b = some o → H b = none → h'.get? b = some o)
    (slot : ∀ b o, b ≠ X.env.locals → b ∈ X.fs → b ∉ ch → s.heap.get? b = some o → H b = none → ∃ sl, h'.get? b = some { o with slots := sl }) (free : ∀ b o, b ∉ ch → s.heap.get? b = some o → H b = none → H' b = none)
    (there : ∀ b o, b ∉ ch → s.heap.get? b = some o → ∃ o', h'.get? b = some o')
    (tups : ∀ b xs, H b = some (.tup xs) → H' b = some (.tup xs)) (frzs : ∀ b o u, H b = some (.frz o u) → H' b = some (.frz o u)) (tbls : ∀ b ps, H b = some (.tbl ps) → ∃ more, H' b = some (.tbl (ps ++ more)))
    (ns : ∀ m, s.heap.Ns X.env.locals m → h'.Ns X.env.locals m) (hok : HOk X.prog X.w H' h') (hg : AllBare g') :
    Inv X pins σ H' { s with heap := h', gens := g', drawn := d', toks := t' } := by
  have neL : ∀ b o, X.s₀.heap.get? b = some o → b ≠ X.env.locals := fun b o e => Nat.ne_of_lt (Nat.lt_of_lt_of_le (Heap.lt_size e) I.ok.above)
  have neC : ∀ b o, X.s₀.heap.get? b = some o → b ∉ X.ex → b ∉ ch := fun b o e hx hb => by
    rcases (hch b hb).1 with z | z
    · exact hx z
    · exact absurd (Nat.lt_of_lt_of_le (Heap.lt_size e) z) (Nat.lt_irrefl _)
  have cellK : ∀ x c, X.env.cells.lookup x = some c → ∀ v, s.heap.IsCell c v → h'.IsCell c v := fun x c e v ⟨o, ho, hd⟩ => by
    have nch : c ∉ ch := fun z => (hch c z).2.2.1 x c e rfl
    by_cases hc : c ∈ X.fs
    · obtain ⟨sl, q⟩ := slot c o (I.cne x c e) hc nch ho (I.freeC x c e)
      exact ⟨_, q, hd⟩
    · exact ⟨o, keep c o (I.cne x c e) hc nch ho (I.freeC x c e), hd⟩
  refine ⟨I.ok, I.os, hg, ⟨fun b o e n hb hx => ?_, fun b o e n hb hx => ?_, fun b o e n hx => ?_, fun b o e hx => ?_, fun b xs e => tups b xs (I.base.tups b xs e), fun b o xs e => frzs b o xs (I.base.frzs b o xs e), fun b ps e => ?_⟩, ?_, fun x c e => ?_, ?_, fun x c e => ?_, fun p hp => ?_, hok, I.len⟩
  · exact keep b o (neL b o e) hb (neC b o e hx) (I.base.keep b o e n hb hx) (I.base.free b o e n hx)
  · obtain ⟨sl, e1⟩ := I.base.slot b o e n hb hx
    obtain ⟨sl', e2⟩ := slot b _ (neL b o e) hb (neC b o e hx) e1 (I.base.free b o e n hx)
    exact ⟨sl', e2⟩
  · obtain ⟨o', e1⟩ := I.base.there b o e hx
    exact free b o' (neC b o e hx) e1 (I.base.free b o e n hx)
  · obtain ⟨o', e1⟩ := I.base.there b o e hx
    exact there b o' (neC b o e hx) e1
  · obtain ⟨m1, e1⟩ := I.base.tbls b ps e
    obtain ⟨m2, e2⟩ := tbls b _ e1
    exact ⟨m1 ++ m2, by rw [e2, Array.append_assoc]⟩
  · obtain ⟨m, hn, hl⟩ := I.loc
    refine ⟨m, ns m hn, fun i x v e1 e2 e3 => ?_⟩
    obtain ⟨u, r, l⟩ := hl i x v e1 e2 e3
    refine ⟨u, r, ?_⟩
    rcases l with l | ⟨k, c, e, z⟩
    · exact .inl l
    · exact .inr ⟨k, c, e, cellK x c e _ z⟩
  · obtain ⟨v, z⟩ := I.cell x c e
    exact ⟨v, cellK x c e v z⟩
  · obtain ⟨m, ⟨o, _, _, ho, _⟩, _⟩ := I.loc
    exact free _ o (fun z => (hch _ z).2.1 rfl) ho I.free
  · obtain ⟨v, o, ho, hd⟩ := I.cell x c e
    exact free c o (fun z => (hch c z).2.2.1 x c e rfl) ho (I.freeC x c e)
  · obtain ⟨e, n, ne, nf, d⟩ := I.pin p hp
    have nch : p.1 ∉ ch := fun z => (hch p.1 z).2.2.2 p hp rfl
    exact ⟨keep p.1 p.2 ne nf nch e n, free p.1 p.2 nch e n, ne, nf, d⟩
theorem Inv.un {t' : Nat} (I : Inv X pins σ H s) (u : Un X.fs [] H H' s.heap h') (hok : HOk X.prog X.w H' h') : Inv X pins σ H' { s with heap := h', toks := t' } := by
  obtain ⟨m, ⟨o, es, ep, ho, r⟩, _⟩ := id I.loc
  obtain ⟨sl, hL⟩ := u.any ho I.free (by simp)
  exact I.step (g' := s.gens) (d' := s.drawn) (ch := []) (fun _ z => nomatch z) (fun b o _ hb _ e n => u.keep b o e n hb (by simp)) (fun b o _ hb _ e n => u.slot b o e n hb (by simp)) (fun b o _ e n => u.free b o e n (by simp)) (fun b o _ e => u.there b o e (by simp)) u.tups u.frzs u.tbls (fun m' hm => by
    obtain ⟨o', es', ep', ho', r'⟩ := hm
    rw [ho] at ho'; cases ho'
    exact ⟨_, es', ep', hL, r'⟩) hok I.bare
theorem Inv.call {g' : Array GenState} {t' : Nat} {d' : Drawn} {ch : List Addr} (I : Inv X pins σ H s) (u : Un (frs X.stack) ch H H' s.heap h') (hok : HOk X.prog X.w H' h') (hg : AllBare g')
    (hch : ∀ b ∈ ch, (b ∈ X.ex ∨ X.s₀.heap.objs.size ≤ b) ∧ b ≠ X.env.locals ∧ (∀ x c, X.env.cells.lookup x = some c → c ≠ b) ∧ ∀ p ∈ X.pn ++ pins, p.1 ≠ b) :
    Inv X pins σ H' { s with heap := h', gens := g', drawn := d', toks := t' } := by
  obtain ⟨m, ⟨o, es, ep, ho, r⟩, _⟩ := id I.loc
  obtain ⟨sl, hL⟩ := u.any ho I.free fun z => (hch _ z).2.1 rfl
  exact I.step (ch := ch) hch (fun b o hL hb hc e n => u.keep b o e n (fun z => (List.mem_cons.mp (I.stkSub b z)).elim hL hb) hc) (fun b o _ _ hc e n => u.any e n hc) (fun b o hc e n => u.free b o e n hc) (fun b o hc e => u.there b o e hc) u.tups u.frzs u.tbls (fun m' hm => by
    obtain ⟨o', es', ep', ho', r'⟩ := hm
    rw [ho] at ho'; cases ho'
    exact ⟨_, es', ep', hL, r'⟩) hok hg
theorem Inv.turned {t' : Nat} {it : Addr} (I : Inv X pins σ H s) (k : ∀ b o, b ≠ it → s.heap.get? b = some o → h'.get? b = some o) (hn : H it = none) (hL : it ≠ X.env.locals)
    (h1 : it ∈ X.ex ∨ X.s₀.heap.objs.size ≤ it) (h2 : ∀ x c, X.env.cells.lookup x = some c → c ≠ it) (h3 : ∀ p ∈ X.pn ++ pins, p.1 ≠ it) : Inv X pins σ H { s with heap := h', toks := t' } := by
  have nit : ∀ b u, H b = some u → b ≠ it := fun b u e z => by rw [z, hn] at e; cases e
  refine I.step (g' := s.gens) (d' := s.drawn) (ch := [it]) (fun b hb => ?_) (fun b o _ _ hc e _ => k b o (fun z => hc (by simp [z])) e) (fun b o _ _ hc e _ => ⟨o.slots, k b o (fun z => hc (by simp [z])) e⟩) (fun _ _ _ _ n => n)
    (fun b o hc e => ⟨o, k b o (fun z => hc (by simp [z])) e⟩) (fun _ _ e => e) (fun _ _ _ e => e) (fun b ps e => ⟨#[], by rw [e]; simp⟩) (fun m hm => ?_) (fun b u e => ?_) I.bare
  · have e : b = it := by simpa using hb
    subst e
    exact ⟨h1, hL, h2, h3⟩
  · obtain ⟨o, es, ep, ho, r⟩ := hm
    exact ⟨o, es, ep, k _ o (Ne.symm hL) ho, r⟩
  · refine (I.hok b u e).stay (fun c v hc q => k c v ?_ q) (fun _ q => q) fun _ _ q => q
    rcases hc with z | z
    · rw [z]; exact nit b u e
    · exact nit c _ z
theorem Inv.tok (I : Inv X pins σ H s) (t : Nat) : Inv X pins σ H { s with toks := t } := I.un (h' := s.heap) (t' := t) Un.refl I.hok
theorem Inv.kept {t' : Nat} (I : Inv X pins σ H s) (k : ∀ b u, s.heap.get? b = some u → h'.get? b = some u) : Inv X pins σ H { s with heap := h', toks := t' } := I.un (Un.kept k) (I.hok.kept k)
theorem Inv.laid {a : Addr} {o : HO} {t' : Nat} (I : Inv X pins σ H s) (k : ∀ b u, s.heap.get? b = some u → h'.get? b = some u) (hp : s.heap.objs.size ≤ a) (new : ObjOk X.prog X.w (upd H a o) h' a o) :
    Inv X pins σ (upd H a o) { s with heap := h', toks := t' } := I.un (Un.laid k hp (I.hok.fresh hp)) (I.hok.laid k hp new)
theorem Inv.write {x e : Addr} {o : HO} {t' : Nat} (I : Inv X pins σ H s) (mu : Mut (H x)) (he : e = x ∨ H e = some (.own x)) (k : ∀ b u, b ≠ e → s.heap.get? b = some u → h'.get? b = some u) (heo : ∃ u, h'.get? e = some u)
    (new : ObjOk X.prog X.w (upd H x o) h' x o) : Inv X pins σ (upd H x o) { s with heap := h', toks := t' } := I.un (Un.write mu he k heo) (I.hok.write mu he k heo new)
theorem Inv.pins_of {pins' : List (Addr × Obj)} (I : Inv X pins σ H s) (h : ∀ p ∈ pins', s.heap.get? p.1 = some p.2 ∧ H p.1 = none ∧ p.1 ≠ X.env.locals ∧ p.1 ∉ X.fs ∧ ∀ v, p.2.data ≠ .cell v) : Inv X pins' σ H s :=
  ⟨I.ok, I.os, I.bare, I.base, I.loc, I.cell, I.free, I.freeC, fun p hp => (List.mem_append.mp hp).elim (fun z => I.pin p (List.mem_append_left _ z)) (h p), I.hok, I.len⟩

theorem nodup_ix {N : List Str} (hN : N.Nodup) {i j : Nat} {x : Str} (a : N[i]? = some x) (b : N[j]? = some x) : i = j := by
  obtain ⟨h1, e1⟩ := List.getElem?_eq_some_iff.mp a
  obtain ⟨h2, e2⟩ := List.getElem?_eq_some_iff.mp b
  exact (List.getElem_inj hN).mp (e1.trans e2.symm)

theorem store_ok2 {M : Model} {A : Around} {E : Value → Shared → Prop} {i : Nat} {x : Str} {v : V} {u : Value} {Q : Unit → Shared → Prop} (I : Inv X pins σ H s) (hN : X.N.Nodup) (hi : X.N[i]? = some x) (hx : Loc X.env.scope x) (r : RelV v u)
    (h : ∀ s', Inv X pins (σ.set i (some v)) H s' → (∃ a, Heap.SameBut a s.heap s'.heap ∧ (a = X.env.locals ∨ X.env.cells.lookup x = some a)) → Q () s') (hf : X.fn x = true ∨ X.env.scope.names.lookup x = some .local := by first | exact .inl rfl | exact .inr rfl | assumption) : wpAny M A (storeName X.env x u) Q E s := by
  obtain ⟨m, hn, hl⟩ := id I.loc
  have hcls : (X.env.scope.kind == .class || (X.env.scope.kind == .module && X.env.locals != X.env.globals)) = false := by rw [I.ok.kind]; rfl
  have hiσ : i < σ.length := by rw [I.len]; exact (List.getElem?_eq_some_iff.mp hi).1
  have cne := I.cne
  have tracked : ∀ {a : Addr} {h' : Heap}, (∃ o, s.heap.get? a = some o ∧ H a = none) → Heap.SameBut a s.heap h' → HOk X.prog X.w H h' := fun {a h'} ha hs b ob e => by
    obtain ⟨_, _, hfree⟩ := ha
    refine (I.hok b ob e).stay (fun c w' hc q => (hs.2 c ?_).trans q) (fun _ q => q) fun _ _ q => q
    rintro rfl
    rcases hc with rfl | hc
    · rw [hfree] at e; cases e
    · rw [hfree] at hc; cases hc
  rcases hx with hk | hk
  · refine wpAny_storeName_local hk hn (fun h' hn' hs => ?_) hcls
    obtain ⟨oL, _, _, hoL, _⟩ := id hn
    refine h _ ⟨I.ok, I.os, I.bare, ⟨fun b o e n hb hx => ?_, fun b o e n hb hx => ?_, I.base.free, fun b o e hx => ?_, I.base.tups, I.base.frzs, I.base.tbls⟩, ⟨_, hn', fun j y v' e1 e2 e3 => ?_⟩, fun y c e => ?_, I.free, I.freeC, fun p hp => ?_, tracked ⟨oL, hoL, I.free⟩ hs, by simpa using I.len⟩ ⟨_, hs, .inl rfl⟩
    · exact (hs.2 b (Nat.ne_of_lt (Nat.lt_of_lt_of_le (Heap.lt_size e) I.ok.above))).trans (I.base.keep b o e n hb hx)
    · obtain ⟨sl, e1⟩ := I.base.slot b o e n hb hx
      exact ⟨sl, (hs.2 b (Nat.ne_of_lt (Nat.lt_of_lt_of_le (Heap.lt_size e) I.ok.above))).trans e1⟩
    · obtain ⟨o', e1⟩ := I.base.there b o e hx
      exact ⟨o', (hs.2 b (Nat.ne_of_lt (Nat.lt_of_lt_of_le (Heap.lt_size e) I.ok.above))).trans e1⟩
    · by_cases hj : j = i
      · subst hj
        rw [hi] at e1; cases e1
        rw [List.getElem?_set_self hiσ] at e2
        cases e2
        exact ⟨u, r, .inl ⟨hk, by simp⟩⟩
      · rw [List.getElem?_set_ne (Ne.symm hj)] at e2
        obtain ⟨u', r', q⟩ := hl j y v' e1 e2 e3
        refine ⟨u', r', ?_⟩
        rcases q with ⟨k, e⟩ | ⟨k, c, e, z⟩
        · refine .inl ⟨k, ?_⟩
          have : y ≠ x := fun e => hj (nodup_ix hN e1 (e ▸ hi))
          simp [this, e]
        · exact .inr ⟨k, c, e, z.sameBut hs (cne y c e)⟩
    · obtain ⟨w', z⟩ := I.cell y c e
      exact ⟨w', z.sameBut hs (cne y c e)⟩
    · obtain ⟨e, n, ne, nf, d⟩ := I.pin p hp
      exact ⟨(hs.2 p.1 ne).trans e, n, ne, nf, d⟩
  · have hfn : X.fn x = true := by
      rcases hf with z | z
      · exact z
      · rw [z] at hk; cases hk
    obtain ⟨c, hc⟩ := I.ok.has x (.inl hk)
    obtain ⟨w', z⟩ := I.cell x c hc
    refine wpAny_storeName_cell I.ok.kind hk hc z (fun h' hc' hs => ?_)
    obtain ⟨oc, hoc, hocd⟩ := id z
    refine h { s with heap := h' } ⟨I.ok, I.os, I.bare, ⟨fun b o e n hb hx => ?_, fun b o e n hb hx => ?_, I.base.free, fun b o e hx => ?_, I.base.tups, I.base.frzs, I.base.tbls⟩, ⟨m, hn.sameBut hs (Ne.symm (cne x c hc)), fun j y v' e1 e2 e3 => ?_⟩, fun y c' e => ?_, I.free, I.freeC, fun p hp => ?_, tracked ⟨oc, hoc, I.freeC x c hc⟩ hs, by simpa using I.len⟩ ⟨c, hs, .inr hc⟩
    · exact (hs.2 b (Nat.ne_of_lt (Nat.lt_of_lt_of_le (Heap.lt_size e) (I.ok.cab x c hfn hc)))).trans (I.base.keep b o e n hb hx)
    · obtain ⟨sl, e1⟩ := I.base.slot b o e n hb hx
      exact ⟨sl, (hs.2 b (Nat.ne_of_lt (Nat.lt_of_lt_of_le (Heap.lt_size e) (I.ok.cab x c hfn hc)))).trans e1⟩
    · obtain ⟨o', e1⟩ := I.base.there b o e hx
      exact ⟨o', (hs.2 b (Nat.ne_of_lt (Nat.lt_of_lt_of_le (Heap.lt_size e) (I.ok.cab x c hfn hc)))).trans e1⟩
    · by_cases hj : j = i
      · subst hj
        rw [hi] at e1; cases e1
        rw [List.getElem?_set_self hiσ] at e2
        cases e2
        exact ⟨u, r, .inr ⟨.inl hk, c, hc, hc'⟩⟩
      · rw [List.getElem?_set_ne (Ne.symm hj)] at e2
        obtain ⟨u', r', q⟩ := hl j y v' e1 e2 e3
        refine ⟨u', r', ?_⟩
        rcases q with q | ⟨k, c', e, z'⟩
        · exact .inl q
        · refine .inr ⟨k, c', e, z'.sameBut hs ?_⟩
          rintro rfl
          exact hj (nodup_ix hN e1 (I.ok.inj _ _ _ e hc ▸ hi))
    · by_cases hcc : c' = c
      · subst hcc; exact ⟨_, hc'⟩
      · obtain ⟨w2, z2⟩ := I.cell y c' e
        exact ⟨w2, z2.sameBut hs hcc⟩
    · obtain ⟨e, n, ne, nf, d⟩ := I.pin p hp
      refine ⟨(hs.2 p.1 ?_).trans e, n, ne, nf, d⟩
      intro q
      rw [q, hoc] at e
      have q' : oc = p.2 := Option.some.inj e
      exact d w' (by rw [← q']; exact hocd)
theorem store_ok {M : Model} {A : Around} {E : Value → Shared → Prop} {i : Nat} {x : Str} {v : V} {u : Value} {Q : Unit → Shared → Prop} (I : Inv X pins σ H s) (hN : X.N.Nodup) (hi : X.N[i]? = some x) (hx : Loc X.env.scope x) (r : RelV v u)
    (h : ∀ s', Inv X pins (σ.set i (some v)) H s' → Q () s') (hf : X.fn x = true ∨ X.env.scope.names.lookup x = some .local := by first | exact .inl rfl | exact .inr rfl | assumption) : wpAny M A (storeName X.env x u) Q E s :=
  store_ok2 I hN hi hx r (fun s' I' _ => h s' I') hf
theorem Inv.call' {s' : Shared} {ch : List Addr} (I : Inv X pins σ H s) (ho : s'.os = s.os) (u : Un (frs X.stack) ch H H' s.heap s'.heap) (hok : HOk X.prog X.w H' s'.heap) (hg : AllBare s'.gens)
    (hch : ∀ b ∈ ch, (b ∈ X.ex ∨ X.s₀.heap.objs.size ≤ b) ∧ b ≠ X.env.locals ∧ (∀ x c, X.env.cells.lookup x = some c → c ≠ b) ∧ ∀ p ∈ X.pn ++ pins, p.1 ≠ b) : Inv X pins σ H' s' := by
  obtain ⟨h', g', d', t', o'⟩ := s'
  have e : o' = s.os := ho
  subst e
  exact I.call (g' := g') (t' := t') (d' := d') u hok hg hch
end


noncomputable abbrev XK := Value → Option Addr → Hp → Prop
noncomputable abbrev St := List (Option V)
noncomputable abbrev VK := V → Hp → Prop
noncomputable abbrev TE := St → Hp → VK → Prop
noncomputable abbrev TT := St → Hp → (Bool → Hp → Prop) → Prop
noncomputable abbrev TA := St → Hp → (List V → Hp → Prop) → Prop
structure Ends where
  nx : St → Hp → Prop
  rt : VK
  bk : St → Hp → Prop := fun _ _ => False
  ct : St → Hp → Prop := fun _ _ => False
noncomputable abbrev TS := Ends → St → Hp → Prop

noncomputable def EP (X : Cx) (pins : List (Addr × Obj)) (σ : St) (Q : VK) (u : Value) (s' : Shared) : Prop := ∃ v H', Inv X pins σ H' s' ∧ RelV v u ∧ Q v H'
noncomputable def TP (X : Cx) (pins : List (Addr × Obj)) (σ : St) (Q : Bool → Hp → Prop) (b : Bool) (s' : Shared) : Prop := ∃ H', Inv X pins σ H' s' ∧ Q b H'
noncomputable def AP (X : Cx) (pins : List (Addr × Obj)) (σ : St) (Q : List V → Hp → Prop) (us : List Value) (s' : Shared) : Prop := ∃ vs H', Inv X pins σ H' s' ∧ Vals vs us ∧ Q vs H'
noncomputable def SP (X : Cx) (pins : List (Addr × Obj)) (D : Ends) (f : Flow) (s' : Shared) : Prop :=
  match f with
  | .next => ∃ σ' H', Inv X pins σ' H' s' ∧ D.nx σ' H'
  | .brk => ∃ σ' H', Inv X pins σ' H' s' ∧ D.bk σ' H'
  | .cont => ∃ σ' H', Inv X pins σ' H' s' ∧ D.ct σ' H'
  | .ret u => ∃ v σ' H', Inv X pins σ' H' s' ∧ RelV v u ∧ D.rt v H'

noncomputable def PE (X : Cx) (e : Expr) (t : TE) : Prop :=
  ∀ (pins : List (Addr × Obj)) (s : Shared) (σ : St) (H : Hp) (Q : VK), Inv X pins σ H s → t σ H Q → wpAny (model X.prog X.w) X.A (eval e X.env) (EP X pins σ Q) X.xe s
noncomputable def PT (X : Cx) (e : Expr) (t : TT) : Prop :=
  ∀ (pins : List (Addr × Obj)) (s : Shared) (σ : St) (H : Hp) (Q : Bool → Hp → Prop), Inv X pins σ H s → t σ H Q → wpAny (model X.prog X.w) X.A (isTrue e X.env (eval e X.env)) (TP X pins σ Q) X.xe s
noncomputable def PW (X : Cx) (e : Expr) (t : TT) : Prop :=
  ∀ (whole : Sem Value) (pins : List (Addr × Obj)) (s : Shared) (σ : St) (H : Hp) (Q : Bool → Hp → Prop), Inv X pins σ H s → t σ H Q → wpAny (model X.prog X.w) X.A (isTrue e X.env whole) (TP X pins σ Q) X.xe s
theorem PW.pt {X : Cx} {e : Expr} {t : TT} (h : PW X e t) : PT X e t := h _
noncomputable def PA (X : Cx) (es : List Expr) (t : TA) : Prop :=
  ∀ (pos : Pos) (pins : List (Addr × Obj)) (s : Shared) (σ : St) (H : Hp) (Q : List V → Hp → Prop), Inv X pins σ H s → t σ H Q → wpAny (model X.prog X.w) X.A (spliced (backTo pos (starEach es X.env))) (AP X pins σ Q) X.xe s
noncomputable def PS (X : Cx) (st : Stmt) (t : TS) : Prop :=
  ∀ (pins : List (Addr × Obj)) (s : Shared) (σ : St) (H : Hp) (D : Ends), Inv X pins σ H s → t D σ H → wpAny (model X.prog X.w) X.A (exec st X.env) (SP X pins D) X.xe s
noncomputable def PSs (X : Cx) (st : List Stmt) (t : TS) : Prop :=
  ∀ (pins : List (Addr × Obj)) (s : Shared) (σ : St) (H : Hp) (D : Ends), Inv X pins σ H s → t D σ H → wpAny (model X.prog X.w) X.A (execs st X.env) (SP X pins D) X.xe s
theorem thn {α : Type} {t : Sem α} {Q Q' : α → Shared → Prop} {M : Model} {A : Around} {E : Value → Shared → Prop} {s : Shared} (h : wpAny M A t Q E s) (hQ : ∀ a s, Q a s → Q' a s) : wpAny M A t Q' E s := wpAny_mono h hQ fun _ _ x => x
end L2

namespace L2
open PySem PySem.Spec PyProof.Rows
section
variable {X : Cx}


noncomputable def tVar (i : Nat) : TE := fun σ H Q => ∃ v, σ[i]? = some (some v) ∧ Q v H
noncomputable def tC (v : V) : TE := fun _ H Q => Q v H
theorem pe_var {i : Nat} {x : Str} {pos : Pos} (hN : X.N[i]? = some x) (hv : Vis X.env.scope x) (hd : (x == ("__debug__" : Str)) = false := by decide) (hcd : (x == ("__classdict__" : Str)) = false := by decide) : PE X (.Name x pos) (tVar i) := by
  intro pins s σ H Q I h
  obtain ⟨v, e, h⟩ := h
  obtain ⟨m, hn, hl⟩ := I.loc
  obtain ⟨u, r, l⟩ := hl i x v hN e hv
  have fin : EP X pins σ Q u s := ⟨v, H, I, r, h⟩
  rcases l with ⟨hk, hm⟩ | ⟨hk, c, hc, hcell⟩
  · exact wpAny_Name (wpAny_loadName_local I.ok.kind hk hn hm fin) hd
  · rcases hk with hk | hk
    · exact wpAny_Name (wpAny_loadName_cell I.ok.kind hk hc hcell fin) hd
    · exact wpAny_Name (wpAny_loadName_free I.ok.kind hk hc hcell fin hcd) hd
theorem pe_int {i j pos} : PE X (.Constant (.int i) j pos) (tC (.int i)) := fun _ _ _ H _ I h => wpAny_Constant_int ⟨.int i, H, I.tok _, ⟨_, rfl⟩, h⟩
theorem pe_bl {b j pos} : PE X (.Constant (.bool b) j pos) (tC (.bl b)) := fun _ _ _ H _ I h => Constant_bool ⟨.bl b, H, I, rfl, h⟩
theorem pe_non {j pos} : PE X (.Constant .none j pos) (tC .non) := fun _ _ _ H _ I h => Constant_none ⟨.non, H, I, rfl, h⟩
theorem pe_str {x j pos} : PE X (.Constant (.str x) j pos) (tC (.str x)) := fun _ _ _ H _ I h => Calls.Constant_str ⟨.str x, H, I.tok _, ⟨_, rfl⟩, h⟩

noncomputable def Gl (X : Cx) (x : Str) : Prop := X.env.kindOf x = some .globalImplicit
theorem ld_glob {E : Value → Shared → Prop} {pins : List (Addr × Obj)} {s : Shared} {σ : St} {H : Hp} {x : Str} {u : Value} {pos : Pos} {Q : Value → Shared → Prop} (I : Inv X pins σ H s) (hg : Gl X x) (hm : X.mg x = some u) (h : Q u s)
    (hd : (x == ("__debug__" : Str)) = false := by decide) : wpAny (model X.prog X.w) X.A (eval (.Name x pos) X.env) Q E s :=
  Calls.Name_function_global I.ok.kind hg (Calls.loadGlobal_global (by rw [I.ok.glob]; exact I.mod.glob.keeps I.bk) hm h) hd
theorem ld_blt {E : Value → Shared → Prop} {pins : List (Addr × Obj)} {s : Shared} {σ : St} {H : Hp} {x : Str} {u : Value} {pos : Pos} {Q : Value → Shared → Prop} (I : Inv X pins σ H s) (hg : Gl X x) (hm : X.mg x = none) (hv : bootBuiltins x = some u) (h : Q u s)
    (hn : x ≠ "__name__" := by decide) (hd : (x == ("__debug__" : Str)) = false := by decide) : wpAny (model X.prog X.w) X.A (eval (.Name x pos) X.env) Q E s := by
  obtain ⟨mb, h1, h2⟩ := I.mod.blt
  exact Calls.Name_function_global I.ok.kind hg (Calls.loadGlobal_builtin (by rw [I.ok.glob]; exact I.mod.glob.keeps I.bk) hm (by rw [I.ok.blt]; exact h1.keeps I.bk) ((h2 x hn).trans hv) h) hd
theorem pe_glob {x : Str} {v : V} {u : Value} {pos : Pos} (hg : Gl X x) (hm : X.mg x = some u) (r : RelV v u) (hd : (x == ("__debug__" : Str)) = false := by decide) : PE X (.Name x pos) (tC v) :=
  fun _ _ _ H _ I h => ld_glob I hg hm ⟨v, H, I, r, h⟩ hd
theorem pe_bltn {x : Str} {v : V} {u : Value} {pos : Pos} (hg : Gl X x) (hm : X.mg x = none) (hv : bootBuiltins x = some u) (r : RelV v u) (hn : x ≠ "__name__" := by decide) (hd : (x == ("__debug__" : Str)) = false := by decide) : PE X (.Name x pos) (tC v) :=
  fun _ _ _ H _ I h => ld_blt I hg hm hv ⟨v, H, I, r, h⟩ hn hd


variable {a b : Expr} {ta tb : TE} {pos : Pos}


variable {tA tB' : TT} {rest : List Expr}
noncomputable def tAnd (t u : TT) : TT := fun σ H Q => t σ H fun c H1 => if c = true then u σ H1 Q else Q false H1
noncomputable def tOr (t u : TT) : TT := fun σ H Q => t σ H fun c H1 => if c = true then Q true H1 else u σ H1 Q
noncomputable def tNot (t : TT) : TT := fun σ H Q => t σ H fun c H1 => Q (!c) H1
theorem pw_and1 (ha : PT X a tA) : PW X (.BoolOp .And [a] pos) tA := by
  intro wh pins s σ H Q I h
  refine isTrue_and (thn (ha pins s σ H Q I h) fun c s1 e => ?_)
  cases c with
  | true => exact isTrue_and_nil e
  | false => exact e
theorem pw_or1 (ha : PT X a tA) : PW X (.BoolOp .Or [a] pos) tA := by
  intro wh pins s σ H Q I h
  refine isTrue_or (thn (ha pins s σ H Q I h) fun c s1 e => ?_)
  cases c with
  | false => exact isTrue_or_nil e
  | true => exact e
theorem pw_and (ha : PT X a tA) (hb : PW X (.BoolOp .And (b :: rest) pos) tB') : PW X (.BoolOp .And (a :: b :: rest) pos) (tAnd tA tB') := by
  intro wh pins s σ H Q I h
  refine isTrue_and (thn (ha pins s σ H _ I h) fun c s1 ⟨H1, I1, q1⟩ => ?_)
  cases c with
  | true => exact hb wh pins s1 σ H1 Q I1 q1
  | false => exact ⟨H1, I1, q1⟩
theorem pw_or (ha : PT X a tA) (hb : PW X (.BoolOp .Or (b :: rest) pos) tB') : PW X (.BoolOp .Or (a :: b :: rest) pos) (tOr tA tB') := by
  intro wh pins s σ H Q I h
  refine isTrue_or (thn (ha pins s σ H _ I h) fun c s1 ⟨H1, I1, q1⟩ => ?_)
  cases c with
  | true => exact ⟨H1, I1, q1⟩
  | false => exact hb wh pins s1 σ H1 Q I1 q1
theorem pt_not (ha : PT X a tA) : PT X (.UnaryOp .Not a pos) (tNot tA) := by
  intro pins s σ H Q I h
  exact isTrue_not (ha pins s σ H (fun c H1 => Q (!c) H1) I h)
noncomputable def tAndV (ta tb : TE) : TE := fun σ H Q => ta σ H fun x H1 => ∃ c, x = .bl c ∧ if c = true then tb σ H1 Q else Q (.bl false) H1
noncomputable def tNotV (ta : TE) : TE := fun σ H Q => ta σ H fun x H1 => ∃ c, x = .bl c ∧ Q (.bl (!c)) H1
theorem pe_one {op} {t : TE} (h : PE X a t) : PE X (.BoolOp op [a] pos) t := fun pins s σ H Q I hw => BoolOp_one (h pins s σ H Q I hw)
theorem pe_and (ha : PE X a ta) (hb : PE X (.BoolOp .And (b :: rest) pos) tb) : PE X (.BoolOp .And (a :: b :: rest) pos) (tAndV ta tb) := by
  intro pins s σ H Q I h
  refine BoolOp_and (thn (ha pins s σ H _ I h) fun v s1 ⟨x, H1, I1, r1, q1⟩ => ?_)
  obtain ⟨c, rfl, q1⟩ := q1
  cases r1
  refine wpAny_truthy_bool ?_
  cases c with
  | true => exact hb pins s1 σ H1 Q I1 q1
  | false => exact ⟨.bl false, H1, I1, rfl, q1⟩
theorem pe_not (ha : PE X a ta) : PE X (.UnaryOp .Not a pos) (tNotV ta) := by
  intro pins s σ H Q I h
  refine UnaryOp_ (thn (ha pins s σ H _ I h) fun v s1 ⟨x, H1, I1, r1, q1⟩ => ?_)
  obtain ⟨c, rfl, q1⟩ := q1
  cases r1
  exact not_of (wpAny_truthy_bool ⟨.bl (!c), H1, I1, rfl, q1⟩)
end
end L2

namespace L2
open PySem PySem.Spec PyProof.Rows


noncomputable def SqL (K : PySem.W.Frag) (H : Hp) (a : Addr) (xs : List V) : Prop :=
  Rd H a (.lst xs) ∨
    ∃ (o : Obj) (its : Array Value) (n : Nat), K.lookup a = some o ∧ o.cls = .type "list" ∧ o.dict = none ∧ o.data = .seq its n ∧ its.size ≤ sizeLine ∧ Vals xs its.toList
noncomputable def SqT (K : PySem.W.Frag) (H : Hp) (a : Addr) (xs : List V) : Prop :=
  Rd H a (.tup xs) ∨
    ∃ (o : Obj) (its : Array Value) (n : Nat), K.lookup a = some o ∧ o.cls = .type "tuple" ∧ o.data = .seq its n ∧ its.size ≤ sizeLine ∧ Vals xs its.toList
noncomputable def absV : Value → Option V
  | .none => some .non
  | .bool b => some (.bl b)
  | .int i _ => some (.int i)
  | .str x _ => some (.str x)
  | .bytes b _ => some (.byt b)
  | .float b _ => some (.flt b)
  | .ref a => some (.ref a)
  | .type n => some (.ty n)
  | _ => none
theorem RelV.abs {x : V} {u : Value} (r : RelV x u) : absV u = some x := by
  cases x with
  | non => cases r; rfl
  | bl _ => cases r; rfl
  | int _ => obtain ⟨t, rfl⟩ := r; rfl
  | str _ => obtain ⟨t, rfl⟩ := r; rfl
  | byt _ => obtain ⟨t, rfl⟩ := r; rfl
  | flt _ => obtain ⟨t, rfl⟩ := r; rfl
  | ref _ => cases r; rfl
  | ty _ => cases r; rfl
theorem RelV.inj {x y : V} {u : Value} (r : RelV x u) (q : RelV y u) : x = y := Option.some.inj (r.abs.symm.trans q.abs)
theorem Vals.inj : ∀ {xs ys : List V} {us : List Value}, Vals xs us → Vals ys us → xs = ys
  | _, _, _, .nil, .nil => rfl
  | _, _, _, .cons r t, .cons r' t' => by rw [r.inj r', Vals.inj t t']
section
variable {X : Cx} {pins : List (Addr × Obj)} {σ : St} {H : Hp} {s : Shared} {a : Addr} {xs ys : List V}
theorem SqL.of {K : PySem.W.Frag} (h : H a = some (.lst xs)) : SqL K H a xs := .inl (.inl h)
theorem SqT.of {K : PySem.W.Frag} (h : H a = some (.tup xs)) : SqT K H a xs := .inl (.inl h)
theorem Inv.list (I : Inv X pins σ H s) (h : SqL X.K H a xs) : ∃ its : List Value, Vals xs its ∧ PlainL s.heap a its.toArray ∧ xs.length ≤ sizeLine := by
  rcases h with h | ⟨o, its, n, hk, hc, hd, hs, hz, r⟩
  · obtain ⟨z, its, n, r, e⟩ := h.ok I.hok
    exact ⟨its, r, ⟨_, n, e, rfl, rfl, rfl⟩, z⟩
  · refine ⟨its.toList, r, ⟨o, n, I.kIn a o hk, hc, hd, by simpa using hs⟩, ?_⟩
    have e := r.length
    simp only [Array.length_toList] at e
    omega
theorem Inv.tuple (I : Inv X pins σ H s) (h : SqT X.K H a xs) : ∃ its : List Value, Vals xs its ∧ IsTup s.heap a its.toArray ∧ xs.length ≤ sizeLine := by
  rcases h with h | ⟨o, its, n, hk, hc, hs, hz, r⟩
  · obtain ⟨z, its, r, p⟩ := h.ok I.hok
    exact ⟨its, r, p, z⟩
  · refine ⟨its.toList, r, ⟨o, I.kIn a o hk, hc, n, by simpa using hs⟩, ?_⟩
    have e := r.length
    simp only [Array.length_toList] at e
    omega
theorem Inv.list_inj (I : Inv X pins σ H s) (h : SqL X.K H a xs) (h' : SqL X.K H a ys) : xs = ys := by
  obtain ⟨its, r, ⟨o, n, e, _, _, d⟩, _⟩ := I.list h
  obtain ⟨its', r', ⟨o', n', e', _, _, d'⟩, _⟩ := I.list h'
  rw [e] at e'; cases e'
  rw [d] at d'
  injection d' with d1 _
  have : its = its' := by simpa using congrArg Array.toList d1
  subst this
  exact r.inj r'
theorem Inv.tuple_inj (I : Inv X pins σ H s) (h : SqT X.K H a xs) (h' : SqT X.K H a ys) : xs = ys := by
  obtain ⟨its, r, ⟨o, e, _, n, d⟩, _⟩ := I.tuple h
  obtain ⟨its', r', ⟨o', e', _, n', d'⟩, _⟩ := I.tuple h'
  rw [e] at e'; cases e'
  rw [d] at d'
  injection d' with d1 _
  have : its = its' := by simpa using congrArg Array.toList d1
  subst this
  exact r.inj r'
end


noncomputable abbrev Cx.wish (X : Cx) (E : Value → Shared → Prop) : Cx := { X with xe := E }
noncomputable abbrev Cx.nox (X : Cx) : Cx := X.wish fun _ _ => False
theorem Cx.Ok.wish {X : Cx} (ok : X.Ok) (E : Value → Shared → Prop) : (X.wish E).Ok :=
  ⟨ok.mod, ok.kind, ok.glob, ok.blt, ok.above, ok.inj, ok.has, ok.cab, ok.hd, ok.frames, ok.stk, ok.exf, ok.bs, ok.bsz, ok.noex, ok.exfs, ok.funs, ok.frf⟩
theorem Cx.Ok.unwish {X : Cx} {E : Value → Shared → Prop} (ok : (X.wish E).Ok) : X.Ok :=
  ⟨ok.mod, ok.kind, ok.glob, ok.blt, ok.above, ok.inj, ok.has, ok.cab, ok.hd, ok.frames, ok.stk, ok.exf, ok.bs, ok.bsz, ok.noex, ok.exfs, ok.funs, ok.frf⟩
section
variable {X : Cx} {pins : List (Addr × Obj)} {σ : St} {H : Hp} {s : Shared} {E : Value → Shared → Prop}
theorem Inv.wish (I : Inv X pins σ H s) (E : Value → Shared → Prop) : Inv (X.wish E) pins σ H s := ⟨I.ok.wish E, I.os, I.bare, I.base, I.loc, I.cell, I.free, I.freeC, I.pin, I.hok, I.len⟩
theorem Inv.unwish (I : Inv (X.wish E) pins σ H s) : Inv X pins σ H s := ⟨I.ok.unwish, I.os, I.bare, I.base, I.loc, I.cell, I.free, I.freeC, I.pin, I.hok, I.len⟩
theorem SP.unwish {D : Ends} {f : Flow} {s' : Shared} (h : SP (X.wish E) pins D f s') : SP X pins D f s' := by
  cases f with
  | next => obtain ⟨σ', H', I, q⟩ := h; exact ⟨σ', H', I.unwish, q⟩
  | brk => obtain ⟨σ', H', I, q⟩ := h; exact ⟨σ', H', I.unwish, q⟩
  | cont => obtain ⟨σ', H', I, q⟩ := h; exact ⟨σ', H', I.unwish, q⟩
  | ret u => obtain ⟨v, σ', H', I, r, q⟩ := h; exact ⟨v, σ', H', I.unwish, r, q⟩
theorem PE.nox {e : Expr} {t : TE} (h : PE X.nox e t) : PE X e t := fun pins s σ H Q I hw =>
  wpAny_mono (h pins s σ H Q (I.wish _) hw) (fun _ _ ⟨v, H', I', r, q⟩ => ⟨v, H', I'.unwish, r, q⟩) fun _ _ z => False.elim z
theorem PT.nox {e : Expr} {t : TT} (h : PT X.nox e t) : PT X e t := fun pins s σ H Q I hw =>
  wpAny_mono (h pins s σ H Q (I.wish _) hw) (fun _ _ ⟨H', I', q⟩ => ⟨H', I'.unwish, q⟩) fun _ _ z => False.elim z
theorem PSs.nox {st : List Stmt} {t : TS} (h : PSs X.nox st t) : PSs X st t := fun pins s σ H D I hw =>
  wpAny_mono (h pins s σ H D (I.wish _) hw) (fun _ _ q => q.unwish) fun _ _ z => False.elim z
end


section
variable {X : Cx} {st : Stmt} {rest : List Stmt} {t u : TS} {e : Expr} {te : TE} {pos : Pos}
noncomputable def tNext : TS := fun D σ H => D.nx σ H
noncomputable def tSeq (t u : TS) : TS := fun D σ H => t { D with nx := u D } σ H
theorem pss_nil : PSs X [] tNext := fun _ _ σ H _ I h => wpAny_execs_nil ⟨σ, H, I, h⟩
theorem pss_cons (h1 : PS X st t) (h2 : PSs X rest u) : PSs X (st :: rest) (tSeq t u) := by
  intro pins s σ H D I h
  refine wpAny_execs_cons (thn (h1 pins s σ H { D with nx := u D } I h) fun f s1 q => ?_)
  cases f with
  | next =>
    obtain ⟨σ', H', I', q⟩ := q
    exact h2 pins s1 σ' H' D I' q
  | ret v => exact q
  | brk => exact q
  | cont => exact q
theorem pss_one (h1 : PS X st t) : PSs X [st] t := by
  intro pins s σ H D I h
  refine wpAny_execs_cons (thn (h1 pins s σ H D I h) fun f s1 q => ?_)
  cases f with
  | next => exact wpAny_execs_nil q
  | ret v => exact q
  | brk => exact q
  | cont => exact q
theorem Inv.quiet {pins : List (Addr × Obj)} {σ : St} {H : Hp} {s : Shared} (I : Inv X pins σ H s) : interactive X.env = false := by simp [interactive, I.ok.kind]
noncomputable def tDrop (te : TE) : TS := fun D σ H => te σ H fun _ H1 => D.nx σ H1
theorem ps_expr (he : PE X e te) (hs : swapsWith e none pos.line X.env = pure false := by rfl) : PS X (.Expr e pos) (tDrop te) := by
  intro pins s σ H D I h
  exact wpAny_Expr_any (thn (he pins s σ H _ I h) fun v s1 ⟨x, H1, I1, r1, q1⟩ => ⟨σ, H1, I1, q1⟩) I.quiet hs
noncomputable def tRet (te : TE) : TS := fun D σ H => te σ H D.rt
theorem ps_ret (he : PE X e te) : PS X (.Return (some e) pos) (tRet te) := by
  intro pins s σ H D I h
  exact wpAny_Return_some (thn (he pins s σ H _ I h) fun v s1 ⟨x, H1, I1, r1, q1⟩ => ⟨x, σ, H1, I1, r1, q1⟩)
noncomputable def tIfS (c : TT) (t u : TS) : TS := fun D σ H => c σ H fun b H1 => if b = true then t D σ H1 else u D σ H1
theorem ps_if {c : Expr} {a b : List Stmt} {tc : TT} (hc : PT X c tc) (ha : PSs X a t) (hb : PSs X b u) : PS X (.If c a b pos) (tIfS tc t u) := by
  intro pins s σ H D I h
  refine wpAny_If (thn (hc pins s σ H _ I h) fun d s1 ⟨H1, I1, q1⟩ => ?_)
  cases d with
  | true => exact ha pins s1 σ H1 D I1 q1
  | false => exact hb pins s1 σ H1 D I1 q1
end


noncomputable abbrev TG := V → St → Hp → (St → Hp → Prop) → Prop
noncomputable def PG (X : Cx) (target : Expr) (t : TG) : Prop :=
  ∀ (pins : List (Addr × Obj)) (s : Shared) (σ : St) (H : Hp) (v : V) (u : Value) (Q : St → Hp → Prop), Inv X pins σ H s → RelV v u → t v σ H Q →
    wpAny (model X.prog X.w) X.A (assign target X.env u) (fun _ s' => ∃ σ' H', Inv X pins σ' H' s' ∧ Q σ' H') X.xe s
noncomputable abbrev TSet := V → V → V → Hp → (Hp → Prop) → Prop
noncomputable def PSet (X : Cx) (t : TSet) : Prop :=
  ∀ (pins : List (Addr × Obj)) (s : Shared) (σ : St) (H : Hp) (o i v : V) (ov iv u : Value) (Q : Hp → Prop), Inv X pins σ H s → RelV o ov → RelV i iv → RelV v u → t o i v H Q →
    wpAny (model X.prog X.w) X.A (setItem ov iv u) (fun _ s' => ∃ H', Inv X pins σ H' s' ∧ Q H') X.xe s
section
variable {X : Cx} {pos : Pos}
noncomputable def gName (i : Nat) : TG := fun v σ H Q => Q (σ.set i (some v)) H
theorem pg_name {i : Nat} {x : Str} (hN : X.N.Nodup) (hi : X.N[i]? = some x) (hx : Loc X.env.scope x) (hf : X.fn x = true ∨ X.env.scope.names.lookup x = some .local := by first | exact .inl rfl | exact .inr rfl | assumption) : PG X (.Name x pos) (gName i) := by
  intro pins s σ H v u Q I r h
  exact wpAny_assign_Name (store_ok I hN hi hx r (fun s' I' => ⟨_, H, I', h⟩) hf)
noncomputable def gSub (to ti : TE) (t : TSet) : TG := fun v σ H Q => to σ H fun o H1 => ti σ H1 fun i H2 => t o i v H2 fun H3 => Q σ H3
theorem pg_sub {o i : Expr} {to ti : TE} {t : TSet} (ho : PE X o to) (hi : PE X i ti) (hs : PSet X t)
    (ha : ∀ v, assign (.Subscript o i pos) X.env v = (do
      let ov ← holding [v] (eval o X.env)
      let iv ← holding [v, ov] (eval i X.env)
      standAt pos
      holding [v, ov, iv] (setItem ov iv v)
      release [v, ov, iv] []) := by intro _; rfl) : PG X (.Subscript o i pos) (gSub to ti t) := by
  intro pins s σ H v u Q I r h
  rw [ha]
  refine wpAny_bind (wpAny_holding (thn (ho pins s σ H _ I h) fun ov s1 ⟨x, H1, I1, r1, q1⟩ => ?_))
  refine wpAny_bind (wpAny_holding (thn (hi pins s1 σ H1 _ I1 q1) fun iv s2 ⟨y, H2, I2, r2, q2⟩ => ?_))
  refine wpAny_bind (wpAny_standAt (wpAny_bind (wpAny_holding (thn (hs pins s2 σ H2 x y v ov iv u _ I2 r1 r2 r q2) fun _ s3 ⟨H3, I3, q3⟩ => ?_))))
  exact wpAny_release ⟨σ, H3, I3, q3⟩
noncomputable def tAsg (te : TE) (g : TG) : TS := fun D σ H => te σ H fun x H1 => g x σ H1 D.nx
theorem ps_asg {tg e : Expr} {te : TE} {g : TG} (he : PE X e te) (hg : PG X tg g) (hs : swapsWithSole [tg] e pos.line X.env = pure false := by rfl) (hw : swappedStores [tg] e X.env = pure none := by rfl)
    (h1 : (assignEach [tg] X.env).map (·.2) = [assign tg X.env] := by rfl) : PS X (.Assign [tg] e pos) (tAsg te g) := by
  intro pins s σ H D I h
  refine wpAny_Assign_stores (thn (he pins s σ H _ I h) fun v s1 ⟨x, H1, I1, r1, q1⟩ => ?_) hs hw
  rw [h1]
  exact thn (hg pins s1 σ H1 x v _ I1 r1 q1) fun _ s2 q => q
theorem ps_set {i : Nat} {x : Str} {e : Expr} {te : TE} {pos' : Pos} (hN : X.N.Nodup) (hi : X.N[i]? = some x) (hx : Loc X.env.scope x) (he : PE X e te) (hs : swapsWith e (some (.Name x pos')) pos.line X.env = pure false := by rfl) (hf : X.fn x = true ∨ X.env.scope.names.lookup x = some .local := by first | exact .inl rfl | exact .inr rfl | assumption) :
    PS X (.Assign [.Name x pos'] e pos) (tAsg te (gName i)) := by
  intro pins s σ H D I h
  refine wpAny_Assign_Name (thn (he pins s σ H _ I h) fun v s1 ⟨y, H1, I1, r1, q1⟩ => ?_) hs
  exact store_ok I1 hN hi hx r1 (fun s2 I2 => ⟨_, H1, I2, q1⟩) hf
end


section
variable {X : Cx} {pos : Pos}
end


structure It where
  go : Nat → Hp → Prop
  yld : Nat → Hp → V → Hp → Prop
  stop : Nat → Hp → Prop
noncomputable def FpOk (X : Cx) (pins : List (Addr × Obj)) (H : Hp) (b : Addr) : Prop :=
  H b = none ∧ b ≠ X.env.locals ∧ b ∉ X.fs ∧ (b ∈ X.ex ∨ X.s₀.heap.objs.size ≤ b) ∧ (∀ x c, X.env.cells.lookup x = some c → c ≠ b) ∧ ∀ p ∈ X.pn ++ pins, p.1 ≠ b
theorem Inv.fpOk {X : Cx} {pins : List (Addr × Obj)} {σ : St} {H H' : Hp} {s : Shared} {b : Addr} (I : Inv X pins σ H s) (hb : s.heap.objs.size ≤ b) (hn : H' b = none) : FpOk X pins H' b := by
  refine ⟨hn, Nat.ne_of_gt (Nat.lt_of_lt_of_le I.lt hb), I.nofs hb, .inr (Nat.le_trans I.sz hb), fun x c e z => ?_, fun p hp z => ?_⟩
  · obtain ⟨v, q⟩ := I.cell x c e
    exact absurd (Nat.lt_of_lt_of_le q.lt (by rw [z]; exact hb)) (Nat.lt_irrefl _)
  · exact absurd (Nat.lt_of_lt_of_le (Heap.lt_size (I.pin p hp).1) (by rw [z]; exact hb)) (Nat.lt_irrefl _)
structure Turn (P : Program) (w : World) (K : PySem.W.Frag) (tg : Expr) (J : It) (fp : List Addr) (it : Addr) (tn : Nat → Heap → Prop) : Prop where
  mem : it ∈ fp
  obj : ∀ i h, tn i h → ∀ b ∈ fp, ∃ o, h.get? b = some o ∧ ∀ v, o.data ≠ .cell v
  keep : ∀ i h h', tn i h → (∀ b ∈ fp, ∀ o, h.get? b = some o → h'.get? b = some o) → tn i h'
  item : ∀ (X : Cx), X.prog = P → X.w = w → X.K = K → X.calm = true → ∀ (i : Nat) (pins : List (Addr × Obj)) (s : Shared) (σ : St) (H : Hp) (E : Value → Shared → Prop), Inv X pins σ H s → (∀ b ∈ fp, FpOk X pins H b) → tn i s.heap → J.go i H →
    wpAny (model P w) X.A (pyNext (.ref it)) (fun r s1 => ∃ u, r = some u ∧
      wpAny (model P w) X.A (letOwnedTupleGo tg (.ref it) u) (fun _ s2 => ∃ x H', Inv X pins σ H' s2 ∧ RelV x u ∧ J.yld i H x H' ∧ tn (i + 1) s2.heap ∧ ∀ b ∈ fp, H' b = none) E s1) E s
  done : ∀ (X : Cx), X.prog = P → X.w = w → X.K = K → X.calm = true → ∀ (i : Nat) (pins : List (Addr × Obj)) (s : Shared) (σ : St) (H : Hp) (E : Value → Shared → Prop), Inv X pins σ H s → (∀ b ∈ fp, FpOk X pins H b) → tn i s.heap → J.stop i H →
    wpAny (model P w) X.A (pyNext (.ref it)) (fun r s1 => r = none ∧ Inv X pins σ H s1) E s
  self : ∀ (A : Around) (i : Nat) (s : Shared) (Q : Value → Shared → Prop) (E : Value → Shared → Prop), tn i s.heap → Q (.ref it) s → wpAny (model P w) A (pyIter (.ref it)) Q E s
noncomputable abbrev TI := St → Hp → (It → Hp → Prop) → Prop
noncomputable def PIE (X : Cx) (pins : List (Addr × Obj)) (σ : St) (tg : Expr) (R : It → Hp → Prop) (itv : Value) (s2 : Shared) : Prop :=
  ∃ (it : Addr) (fp : List Addr) (tn : Nat → Heap → Prop) (J : It) (H' : Hp), itv = .ref it ∧ Inv X pins σ H' s2 ∧ Turn X.prog X.w X.K tg J fp it tn ∧ tn 0 s2.heap ∧ (∀ b ∈ fp, FpOk X pins H' b) ∧ R J H'
noncomputable def PI (X : Cx) (tg iter : Expr) (wi : TI) : Prop :=
  ∀ (pins : List (Addr × Obj)) (s : Shared) (σ : St) (H : Hp) (R : It → Hp → Prop), Inv X pins σ H s → wi σ H R →
    wpAny (model X.prog X.w) X.A (eval iter X.env) (fun v s1 => wpAny (model X.prog X.w) X.A (pyIter v) (PIE X pins σ tg R) X.xe s1) X.xe s

theorem go_of {M : Model} {A : Around} {E : Value → Shared → Prop} {s : Shared} {tg : Expr} {it : Addr} {u : Value} {o : Obj} {n : String} {vs : Array Value} {Q : Unit → Shared → Prop} (ho : s.heap.get? it = some o) (hc : o.cls = .type n) (hd : o.data = .fields vs)
    (hn : ["enumerate", "zip", "dict_itemiterator", "dict_reverseitemiterator", "odict_iterator", "itertools.zip_longest", "itertools.pairwise"].contains n = false) (hQ : Q () s) : wpAny M A (letOwnedTupleGo tg (.ref it) u) Q E s := by
  unfold letOwnedTupleGo
  cases tg <;> first
    | exact wpAny_pure hQ
    | (cases u <;> first
        | exact wpAny_pure hQ
        | (refine wpAny_bind (wpAny_load ho ?_)
           rw [hc, hd]
           show wpAny M A (if (["enumerate", "zip", "dict_itemiterator", "dict_reverseitemiterator", "odict_iterator", "itertools.zip_longest", "itertools.pairwise"].contains n && vs[0]? == some (rawInt _)) = true then _ else _) Q E s
           rw [if_neg (by intro h; rw [hn, Bool.false_and] at h; cases h)]
           exact wpAny_pure hQ))

noncomputable def Itl (K : PySem.W.Frag) (a : Addr) : It :=
  ⟨fun i H => ∃ xs x, SqL K H a xs ∧ xs[i]? = some x, fun i H x H' => H' = H ∧ ∀ xs, SqL K H a xs → xs[i]? = some x, fun i H => ∃ xs, SqL K H a xs ∧ xs.length ≤ i⟩
noncomputable def Itt (K : PySem.W.Frag) (a : Addr) : It :=
  ⟨fun i H => ∃ xs x, SqT K H a xs ∧ xs[i]? = some x, fun i H x H' => H' = H ∧ ∀ xs, SqT K H a xs → xs[i]? = some x, fun i H => ∃ xs, SqT K H a xs ∧ xs.length ≤ i⟩
noncomputable def Itr (lo : Int) (n : Nat) : It := ⟨fun i _ => i < n, fun i H x H' => H' = H ∧ x = .int (lo + i), fun i _ => n ≤ i⟩
theorem turn_list {P : Program} {w : World} {K : PySem.W.Frag} {tg : Expr} (a it : Addr) : Turn P w K tg (Itl K a) [it] it (fun i h => h.IsListIter it a i) where
  mem := by simp
  obj := fun i h st b hb => by
    have e : b = it := by simpa using hb
    subst e
    obtain ⟨o, e, c, d⟩ := st
    exact ⟨o, e, fun v z => by rw [d] at z; cases z⟩
  keep := fun i h h' st k => st.at fun o e => k it (by simp) o e
  item := by
    intro X hP hw hK hc i pins s σ H E I hf st hg
    subst hP hw hK
    obtain ⟨xs, x, hq, hx⟩ := hg
    obtain ⟨its, rv, p, hz⟩ := I.list hq
    obtain ⟨u, hu, ru⟩ := rv.get hx
    obtain ⟨f0, f1, f2, f3, f4, f5⟩ := hf it (by simp)
    refine wpAny_pyNext_list_item st p.isList (x := u) (by simpa using hu) fun h' st' sb => ?_
    have I1 : Inv X pins σ H { s with heap := h' } := I.turned (t' := s.toks) (fun b o hb e => (sb.2 b hb).trans e) f0 f1 f3 f4 f5
    obtain ⟨o, e, c, d⟩ := id st'
    exact ⟨u, rfl, go_of (s := { s with heap := h' }) e c d (by decide) ⟨x, H, I1, ru, ⟨rfl, fun ys hy => by rw [I.list_inj hy hq]; exact hx⟩, st', fun b hb => (hf b hb).1⟩⟩
  done := by
    intro X hP hw hK hc i pins s σ H E I hf st hg
    subst hP hw hK
    obtain ⟨xs, hq, hx⟩ := hg
    obtain ⟨its, rv, p, hz⟩ := I.list hq
    obtain ⟨f0, f1, f2, f3, f4, f5⟩ := hf it (by simp)
    have hl := rv.length
    exact wpAny_pyNext_list_end (I.ok.hd hc) st p.isList (by simp; omega) fun h' eb => ⟨rfl, I.turned (t' := s.toks) (fun b o hb e => eb b o hb e) f0 f1 f3 f4 f5⟩
  self := fun _ _ _ _ _ st h => wpAny_pyIter_listiter st h
theorem turn_tuple {P : Program} {w : World} {K : PySem.W.Frag} {tg : Expr} (a it : Addr) : Turn P w K tg (Itt K a) [it] it (fun i h => h.IsTupleIter it a i) where
  mem := by simp
  obj := fun i h st b hb => by
    have e : b = it := by simpa using hb
    subst e
    obtain ⟨o, e, c, d⟩ := st
    exact ⟨o, e, fun v z => by rw [d] at z; cases z⟩
  keep := fun i h h' st k => st.at fun o e => k it (by simp) o e
  item := by
    intro X hP hw hK hc i pins s σ H E I hf st hg
    subst hP hw hK
    obtain ⟨xs, x, hq, hx⟩ := hg
    obtain ⟨its, rv, p, hz⟩ := I.tuple hq
    obtain ⟨u, hu, ru⟩ := rv.get hx
    obtain ⟨f0, f1, f2, f3, f4, f5⟩ := hf it (by simp)
    refine wpAny_pyNext_tuple_item st (show s.heap.IsTuple a its.toArray from p) (x := u) (by simpa using hu) fun h' st' sb => ?_
    have I1 : Inv X pins σ H { s with heap := h' } := I.turned (t' := s.toks) (fun b o hb e => (sb.2 b hb).trans e) f0 f1 f3 f4 f5
    obtain ⟨o, e, c, d⟩ := id st'
    exact ⟨u, rfl, go_of (s := { s with heap := h' }) e c d (by decide) ⟨x, H, I1, ru, ⟨rfl, fun ys hy => by rw [I.tuple_inj hy hq]; exact hx⟩, st', fun b hb => (hf b hb).1⟩⟩
  done := by
    intro X hP hw hK hc i pins s σ H E I hf st hg
    subst hP hw hK
    obtain ⟨xs, hq, hx⟩ := hg
    obtain ⟨its, rv, p, hz⟩ := I.tuple hq
    obtain ⟨f0, f1, f2, f3, f4, f5⟩ := hf it (by simp)
    have hl := rv.length
    exact wpAny_pyNext_tuple_end (I.ok.hd hc) st (show s.heap.IsTuple a its.toArray from p) (by simp; omega) fun h' eb => ⟨rfl, I.turned (t' := s.toks) (fun b o hb e => eb b o hb e) f0 f1 f3 f4 f5⟩
  self := fun _ _ _ _ _ st h => wpAny_pyIter_tupleiter st h
theorem turn_range {P : Program} {w : World} {K : PySem.W.Frag} {tg : Expr} (it : Addr) (lo : Int) (n : Nat) : Turn P w K tg (Itr lo n) [it] it (fun i h => IsRangeIter h it (lo + (i : Nat) * 1) ((n : Int) - (i : Nat)) 1) where
  mem := by simp
  obj := fun i h st b hb => by
    have e : b = it := by simpa using hb
    subst e
    exact ⟨_, st, fun v z => by
      have z' : Data.fields _ = Data.cell v := z
      cases z'⟩
  keep := fun i h h' st k => k it (by simp) _ st
  item := by
    intro X hP hw hK hc i pins s σ H E I hf st hg
    subst hP hw hK
    obtain ⟨f0, f1, f2, f3, f4, f5⟩ := hf it (by simp)
    have W := Walks.range (prog := X.prog) (w := X.w) (I.ok.hd hc) it lo 1 n
    refine W.item i s _ _ hg st fun v h' tk hv st' kk => ?_
    obtain ⟨t, rfl⟩ := hv
    have I1 : Inv X pins σ H { s with heap := h', toks := tk } := I.turned (fun b o hb e => kk b o (by simpa using hb) e) f0 f1 f3 f4 f5
    refine ⟨_, rfl, go_of (s := { s with heap := h', toks := tk }) (n := "range_iterator") st' rfl rfl (by decide) ⟨.int (lo + i), H, I1, ⟨t, ?_⟩, ⟨rfl, rfl⟩, st', fun b hb => (hf b hb).1⟩⟩
    rw [Int.mul_one]
  done := by
    intro X hP hw hK hc i pins s σ H E I hf st hg
    subst hP hw hK
    obtain ⟨f0, f1, f2, f3, f4, f5⟩ := hf it (by simp)
    exact wpAny_pyNext_range_end (I.ok.hd hc) st (by have : n ≤ i := hg; omega) fun h' eb => ⟨rfl, I.turned (t' := s.toks) (fun b o hb e => eb b o hb e) f0 f1 f3 f4 f5⟩
  self := fun _ _ _ _ _ st h => wpAny_pyIter_rangeiter st h
end L2

namespace L2
open PySem PySem.Spec PyProof.Rows
section
variable {X : Cx} {tg : Expr}
noncomputable def iList (K : PySem.W.Frag) (tl : TE) : TI := fun σ H R => tl σ H fun x H1 => ∃ a, x = .ref a ∧ (∃ xs, SqL K H1 a xs) ∧ R (Itl K a) H1
noncomputable def iTup (K : PySem.W.Frag) (tl : TE) : TI := fun σ H R => tl σ H fun x H1 => ∃ a, x = .ref a ∧ (∃ xs, SqT K H1 a xs) ∧ R (Itt K a) H1
theorem pi_list {l : Expr} {tl : TE} (hl : PE X l tl) : PI X tg l (iList X.K tl) := by
  intro pins s σ H R I h
  refine thn (hl pins s σ H _ I h) fun v s1 ⟨x, H1, I1, r1, q1⟩ => ?_
  obtain ⟨a, e, ⟨xs, hq⟩, q⟩ := q1
  subst e
  cases r1
  obtain ⟨its, rv, p, hz⟩ := I1.list hq
  refine wpAny_pyIter_list p.isList ?_
  refine ⟨s1.heap.objs.size, [s1.heap.objs.size], _, _, H1, rfl, I1.kept (t' := s1.toks) fun b o e => Heap.get?_push_of_some _ e, turn_list a _, ⟨_, Heap.get?_push_size _ rfl, rfl, rfl⟩, fun b hb => ?_, q⟩
  have e : b = s1.heap.objs.size := by simpa using hb
  subst e
  exact I1.fpOk (Nat.le_refl _) (I1.hok.fresh (Nat.le_refl _))
theorem pi_tup {l : Expr} {tl : TE} (hl : PE X l tl) : PI X tg l (iTup X.K tl) := by
  intro pins s σ H R I h
  refine thn (hl pins s σ H _ I h) fun v s1 ⟨x, H1, I1, r1, q1⟩ => ?_
  obtain ⟨a, e, ⟨xs, hq⟩, q⟩ := q1
  subst e
  cases r1
  obtain ⟨its, rv, p, hz⟩ := I1.tuple hq
  refine wpAny_pyIter_tuple (show s1.heap.IsTuple a its.toArray from p) ?_
  refine ⟨s1.heap.objs.size, [s1.heap.objs.size], _, _, H1, rfl, I1.kept (t' := s1.toks) fun b o e => Heap.get?_push_of_some _ e, turn_tuple a _, ⟨_, Heap.get?_push_size _ rfl, rfl, rfl⟩, fun b hb => ?_, q⟩
  have e : b = s1.heap.objs.size := by simpa using hb
  subst e
  exact I1.fpOk (Nat.le_refl _) (I1.hok.fresh (Nat.le_refl _))
theorem range_it {pins : List (Addr × Obj)} {σ : St} {H : Hp} {s : Shared} {R : It → Hp → Prop} {E : Value → Shared → Prop} {lo hi : Int} {t u v : Tok} {tk : Nat} (I : Inv X pins σ H s) (h1 : -(2 ^ 62) ≤ lo) (h2 : lo < 2 ^ 62) (h3 : -(2 ^ 62) ≤ hi) (h4 : hi < 2 ^ 62)
    (q : R (Itr lo (hi - lo).toNat) H) : wpAny (model X.prog X.w) X.A (pyIter (.ref s.heap.objs.size)) (PIE X pins σ tg R) E { s with heap := s.heap.push { cls := .type "range", data := .fields #[.int lo t, .int hi u, .int 1 v] }, toks := tk } := by
  refine wpAny_pyIter_range (IsRange.new ..) (small_one h1 h2 h3 h4) ?_
  have I1 : Inv X pins σ H { s with heap := s.heap.push { cls := .type "range", data := .fields #[.int lo t, .int hi u, .int 1 v] }, toks := tk } := I.kept fun b o e => Heap.get?_push_of_some _ e
  refine ⟨(s.heap.push { cls := .type "range", data := .fields #[.int lo t, .int hi u, .int 1 v] }).objs.size, [(s.heap.push { cls := .type "range", data := .fields #[.int lo t, .int hi u, .int 1 v] }).objs.size], _, _, H, rfl,
    I1.kept (t' := tk) fun b o e => Heap.get?_push_of_some _ e, turn_range _ lo (hi - lo).toNat, ?_, fun b hb => ?_, q⟩
  · have e1 : lo + ((0 : Nat) : Int) * 1 = lo := by simp
    have e2 : (((hi - lo).toNat : Nat) : Int) - ((0 : Nat) : Int) = Builtin.Range.rangeSize lo hi 1 := by rw [rangeSize_one]; split <;> omega
    show IsRangeIter _ _ (lo + ((0 : Nat) : Int) * 1) ((((hi - lo).toNat : Nat) : Int) - ((0 : Nat) : Int)) 1
    rw [e1, e2]
    exact Heap.get?_push_size _ rfl
  · have e : b = (s.heap.push { cls := .type "range", data := .fields #[.int lo t, .int hi u, .int 1 v] }).objs.size := by simpa using hb
    subst e
    exact I1.fpOk (Nat.le_refl _) (I1.hok.fresh (Nat.le_refl _))
noncomputable def iRng1 (ta : TA) : TI := fun σ H R => ta σ H fun vs H1 => ∃ j : Int, vs = [.int j] ∧ -(2 ^ 62) ≤ j ∧ j < 2 ^ 62 ∧ R (Itr 0 j.toNat) H1
theorem pi_range1 {a : Expr} {ta : TA} {p pos : Pos} (hg : Gl X "range") (hm : X.mg "range" = none) (ha : PA X [a] ta) (hs : starEach [a] X.env = [(false, eval a X.env)] := by rfl) : PI X tg (.Call (.Name "range" p) [a] [] pos) (iRng1 ta) := by
  intro pins s σ H R I h
  refine Call_ (ld_blt I hg hm boot_range (PyProof.Rows.callWith_type1 (thn (ha pos pins s σ H _ I h) fun us s1 ⟨vs, H1, I1, r1, q1⟩ => ?_) hs rfl))
  obtain ⟨j, e, q1, q2, q⟩ := q1
  subst e
  cases r1 with
  | cons r rr =>
    cases rr
    obtain ⟨t, rfl⟩ := r
    exact call_range_1 (range_it I1 (by omega) (by omega) q1 q2 (by simpa using q))

noncomputable def tFor (wi : TI) (g : TG) (tb : TS) : TS := fun D σ H => wi σ H fun J H1 => ∃ W : Nat → Nat → St → Hp → Prop, (∃ m, W 0 m σ H1) ∧ ∀ i m σ H, W i m σ H →
  (J.stop i H ∧ D.nx σ H) ∨ (J.go i H ∧ ∃ N : St → Hp → Prop, (∀ σ' H', N σ' H' → ∃ m', m' < m ∧ W (i + 1) m' σ' H') ∧ ∀ x H', J.yld i H x H' → g x σ H' fun σ2 H2 => tb { D with nx := N, ct := N, bk := D.nx } σ2 H2)
noncomputable def pinsAt (fp : List Addr) (h : Heap) : List (Addr × Obj) := fp.filterMap fun b => (h.get? b).map fun o => (b, o)
theorem mem_pinsAt {fp : List Addr} {h : Heap} {b : Addr} {o : Obj} (hb : b ∈ fp) (e : h.get? b = some o) : (b, o) ∈ pinsAt fp h := List.mem_filterMap.mpr ⟨b, hb, by rw [e]; rfl⟩
theorem of_pinsAt {fp : List Addr} {h : Heap} {p : Addr × Obj} (hp : p ∈ pinsAt fp h) : p.1 ∈ fp ∧ h.get? p.1 = some p.2 := by
  obtain ⟨b, hb, e⟩ := List.mem_filterMap.mp hp
  cases q : h.get? b with
  | none => rw [q] at e; cases e
  | some o =>
    rw [q] at e
    have e' : (b, o) = p := Option.some.inj e
    subst e'
    exact ⟨hb, q⟩
theorem Inv.pinned {pins : List (Addr × Obj)} {σ : St} {H : Hp} {s : Shared} {fp : List Addr} (I : Inv X pins σ H s) (hf : ∀ b ∈ fp, FpOk X pins H b) (ho : ∀ b ∈ fp, ∃ o, s.heap.get? b = some o ∧ ∀ v, o.data ≠ .cell v) : Inv X (pins ++ pinsAt fp s.heap) σ H s :=
  I.pins_of fun p hp => (List.mem_append.mp hp).elim (fun z => I.pin p (List.mem_append_right _ z)) fun z => by
    obtain ⟨hb, e⟩ := of_pinsAt z
    obtain ⟨f0, f1, f2, _⟩ := hf p.1 hb
    obtain ⟨o, e', d⟩ := ho p.1 hb
    rw [e] at e'; cases e'
    exact ⟨e, f0, f1, f2, d⟩
theorem Inv.unpinned {pins pl : List (Addr × Obj)} {σ : St} {H : Hp} {s : Shared} (I : Inv X (pins ++ pl) σ H s) : Inv X pins σ H s := I.pins_of fun p hp => I.pin p (List.mem_append_right _ (List.mem_append_left _ hp))
theorem ps_for {iter : Expr} {body : List Stmt} {wi : TI} {g : TG} {tb : TS} {pos : Pos} (hp : PassesOwn (model X.prog X.w) X.A X.env X.xe) (hc : X.calm = true) (hi : PI X tg iter wi) (hg : PG X tg g) (hb : PSs X body tb)
    (hs : ∀ x, foldedSetIterable iter X.env x = pure x := by intro _; rfl) : PS X (.For tg iter body [] pos) (tFor wi g tb) := by
  intro pins s σ H D I h
  refine wpAny_For (thn (hi pins s σ H _ I h) fun v s1 h1 => thn h1 fun itv s2 h2 => ?_) hs
  obtain ⟨it, fp, tn, J, H2, e, I2, T, st2, f2, W, ⟨m0, w0⟩, turn⟩ := h2
  subst e
  -- what stays true of the iterator's objects through the loop
  have stat : ∀ {H' : Hp}, (∀ b ∈ fp, H' b = none) → ∀ b ∈ fp, FpOk X pins H' b := fun hn b hb => ⟨hn b hb, (f2 b hb).2⟩
  refine codeAny_forLoop_any (fun n s' => ∃ i σ' H', Inv X pins σ' H' s' ∧ tn i s'.heap ∧ (∀ b ∈ fp, H' b = none) ∧ W i n σ' H') ?_ m0 ⟨0, σ, H2, I2, st2, fun b hb => (f2 b hb).1, w0⟩
  rintro n s3 ⟨i, σ3, H3, I3, st3, fr3, w3⟩
  rcases turn i n σ3 H3 w3 with ⟨stop, qn⟩ | ⟨go, N, hN, step⟩
  · refine wpAny_passesOwn hp (thn (T.done X rfl rfl rfl hc i pins s3 σ3 H3 X.xe I3 (stat fr3) st3 stop) fun r s4 ⟨hr, I4⟩ => ?_)
    subst hr
    exact wpAny_execs_nil ⟨σ3, H3, I4, qn⟩
  · refine wpAny_passesOwn hp (thn (T.item X rfl rfl rfl hc i pins s3 σ3 H3 X.xe I3 (stat fr3) st3 go) fun r s4 ⟨u, hr, h4⟩ => ?_)
    subst hr
    refine wpAny_passesOwn hp (thn h4 fun _ s5 ⟨x, H5, I5, r5, y5, st5, fr5⟩ => ?_)
    have I5' := I5.pinned (stat fr5) (T.obj _ _ st5)
    refine wpAny_passesOwn hp (thn (hg _ s5 σ3 H5 x u _ I5' r5 (step x H5 y5)) fun _ s6 ⟨σ6, H6, I6, q6⟩ => ?_)
    refine wpAny_passesOwn hp (thn (hb _ s6 σ6 H6 _ I6 q6) fun f s7 q7 => ?_)
    have again : ∀ {σ7 : St} {H7 : Hp}, Inv X (pins ++ pinsAt fp s5.heap) σ7 H7 s7 → N σ7 H7 → ∃ m, m < n ∧ ∃ i σ' H', Inv X pins σ' H' s7 ∧ tn i s7.heap ∧ (∀ b ∈ fp, H' b = none) ∧ W i m σ' H' := fun {σ7 H7} I7 n7 => by
      obtain ⟨m', hm, w7⟩ := hN σ7 H7 n7
      refine ⟨m', hm, i + 1, σ7, H7, I7.unpinned, T.keep _ _ _ st5 fun b hb o e => (I7.pin (b, o) (List.mem_append_right _ (List.mem_append_right _ (mem_pinsAt hb e)))).1, fun b hb => ?_, w7⟩
      obtain ⟨o, e, d⟩ := T.obj _ _ st5 b hb
      exact (I7.pin (b, o) (List.mem_append_right _ (List.mem_append_right _ (mem_pinsAt hb e)))).2.1
    cases f with
    | next => obtain ⟨σ7, H7, I7, n7⟩ := q7; exact again I7 n7
    | cont => obtain ⟨σ7, H7, I7, n7⟩ := q7; exact again I7 n7
    | brk => obtain ⟨σ7, H7, I7, q7⟩ := q7; exact ⟨σ7, H7, I7.unpinned, q7⟩
    | ret v => obtain ⟨x7, σ7, H7, I7, r7, q7⟩ := q7; exact ⟨x7, σ7, H7, I7.unpinned, r7, q7⟩
end


end L2

namespace L2
open PySem PySem.Spec PyProof.Rows

noncomputable abbrev R2 := V → V → Hp → VK → Prop
noncomputable def OpR (X : Cx) (f : Value → Value → Sem Value) (r : R2) : Prop :=
  ∀ (pins : List (Addr × Obj)) (s : Shared) (σ : St) (H : Hp) (x y : V) (v u : Value) (Q : VK), Inv X pins σ H s → RelV x v → RelV y u → r x y H Q →
    wpAny (model X.prog X.w) X.A (f v u) (EP X pins σ Q) X.xe s
noncomputable def UnR (X : Cx) (f : Value → Sem Value) (r : V → Hp → VK → Prop) : Prop :=
  ∀ (pins : List (Addr × Obj)) (s : Shared) (σ : St) (H : Hp) (x : V) (v : Value) (Q : VK), Inv X pins σ H s → RelV x v → r x H Q →
    wpAny (model X.prog X.w) X.A (f v) (EP X pins σ Q) X.xe s
noncomputable def CallR (X : Cx) (f : Value) (r : List V → Hp → VK → Prop) : Prop :=
  ∀ (pins : List (Addr × Obj)) (s : Shared) (σ : St) (H : Hp) (xs : List V) (us : List Value) (Q : VK), Inv X pins σ H s → Vals xs us → r xs H Q →
    wpAny (model X.prog X.w) X.A (call f us) (EP X pins σ Q) X.xe s
noncomputable def TruR (X : Cx) (r : V → Hp → (Bool → Hp → Prop) → Prop) : Prop :=
  ∀ (pins : List (Addr × Obj)) (s : Shared) (σ : St) (H : Hp) (x : V) (v : Value) (Q : Bool → Hp → Prop), Inv X pins σ H s → RelV x v → r x H Q →
    wpAny (model X.prog X.w) X.A (truthy v) (TP X pins σ Q) X.xe s

noncomputable def tOp (r : R2) (ta tb : TE) : TE := fun σ H Q => ta σ H fun x H1 => tb σ H1 fun y H2 => r x y H2 Q
noncomputable def tUn (r : V → Hp → VK → Prop) (ta : TE) : TE := fun σ H Q => ta σ H fun x H1 => r x H1 Q
noncomputable def rI (C : Int → Int → Prop) (g : Int → Int → V) : R2 := fun x y H Q => ∃ i j, x = .int i ∧ y = .int j ∧ C i j ∧ Q (g i j) H
noncomputable def rI0 (g : Int → Int → V) : R2 := fun x y H Q => ∃ i j, x = .int i ∧ y = .int j ∧ Q (g i j) H
noncomputable def rU (g : Int → V) : V → Hp → VK → Prop := fun x H Q => ∃ i, x = .int i ∧ Q (g i) H

section
variable {X : Cx} {a b c : Expr} {ta tb tc : TE} {pos : Pos}

theorem binT (ha : PE X a ta) (hb : PE X b tb) {pins : List (Addr × Obj)} {s : Shared} {σ : St} {H : Hp} {R : V → V → Hp → Prop} (I : Inv X pins σ H s)
    (h : ta σ H fun x H1 => tb σ H1 fun y H2 => R x y H2) {Q : Value → Shared → Prop} {f : Value → Value → Sem Value}
    (hf : ∀ v u s2 x y H2, Inv X pins σ H2 s2 → RelV x v → RelV y u → R x y H2 → wpAny (model X.prog X.w) X.A (f v u) Q X.xe s2) :
    wpAny (model X.prog X.w) X.A (eval a X.env) (fun v s₁ => wpAny (model X.prog X.w) X.A (eval b X.env) (fun u s₂ => wpAny (model X.prog X.w) X.A (f v u) Q X.xe s₂) X.xe s₁) X.xe s := by
  refine thn (ha pins s σ H _ I h) fun v s1 ⟨x, H1, I1, r1, q1⟩ => ?_
  refine thn (hb pins s1 σ H1 _ I1 q1) fun u s2 ⟨y, H2, I2, r2, q2⟩ => ?_
  exact hf v u s2 x y H2 I2 r1 r2 q2

theorem pe_op {op : Operator} {r : R2} (ho : OpR X (binaryOp op) r) (ha : PE X a ta) (hb : PE X b tb) : PE X (.BinOp a op b pos) (tOp r ta tb) := by
  intro pins s σ H Q I h
  exact wpAny_BinOp (binT ha hb I h fun v u s2 x y H2 I2 rx ry q => ho pins s2 σ H2 x y v u Q I2 rx ry q)
theorem pe_un {op : UnaryOp} {r : V → Hp → VK → Prop} (ho : UnR X (unaryOp op) r) (ha : PE X a ta) : PE X (.UnaryOp op a pos) (tUn r ta) := by
  intro pins s σ H Q I h
  exact UnaryOp_ (thn (ha pins s σ H _ I h) fun v s1 ⟨x, H1, I1, r1, q1⟩ => ho pins s1 σ H1 x v Q I1 r1 q1)

theorem opI {f : Value → Value → Sem Value} {C : Int → Int → Prop} {g : Int → Int → Int}
    (rule : ∀ (i j : Int) (t u : Tok) (s : Shared) (Q : Value → Shared → Prop) (E : Value → Shared → Prop), C i j → Q (.int (g i j) s.toks) { s with toks := s.toks + 1 } → wpAny (model X.prog X.w) X.A (f (.int i t) (.int j u)) Q E s) :
    OpR X f (rI C fun i j => .int (g i j)) := by
  intro pins s σ H x y v u Q I rx ry h
  obtain ⟨i, j, rfl, rfl, hc, q⟩ := h
  obtain ⟨t, rfl⟩ := rx
  obtain ⟨t', rfl⟩ := ry
  exact rule i j t t' s _ _ hc ⟨.int (g i j), H, I.tok _, ⟨_, rfl⟩, q⟩
theorem opI0 {f : Value → Value → Sem Value} {g : Int → Int → Int}
    (rule : ∀ (i j : Int) (t u : Tok) (s : Shared) (Q : Value → Shared → Prop) (E : Value → Shared → Prop), Q (.int (g i j) s.toks) { s with toks := s.toks + 1 } → wpAny (model X.prog X.w) X.A (f (.int i t) (.int j u)) Q E s) :
    OpR X f (rI0 fun i j => .int (g i j)) := by
  intro pins s σ H x y v u Q I rx ry h
  obtain ⟨i, j, rfl, rfl, q⟩ := h
  obtain ⟨t, rfl⟩ := rx
  obtain ⟨t', rfl⟩ := ry
  exact rule i j t t' s _ _ ⟨.int (g i j), H, I.tok _, ⟨_, rfl⟩, q⟩
theorem opB0 {f : Value → Value → Sem Value} {g : Int → Int → Bool}
    (rule : ∀ (i j : Int) (t u : Tok) (s : Shared) (Q : Value → Shared → Prop) (E : Value → Shared → Prop), Q (.bool (g i j)) s → wpAny (model X.prog X.w) X.A (f (.int i t) (.int j u)) Q E s) :
    OpR X f (rI0 fun i j => .bl (g i j)) := by
  intro pins s σ H x y v u Q I rx ry h
  obtain ⟨i, j, rfl, rfl, q⟩ := h
  obtain ⟨t, rfl⟩ := rx
  obtain ⟨t', rfl⟩ := ry
  exact rule i j t t' s _ _ ⟨.bl (g i j), H, I, rfl, q⟩

noncomputable def CDiv (i j : Int) : Prop := 0 < j ∧ j < 1073741824
noncomputable def CMul (i j : Int) : Prop := (-(2 ^ 64) < i ∧ i < 2 ^ 64) ∨ (-(2 ^ 64) < j ∧ j < 2 ^ 64)
theorem CMul.ok {i j : Int} (h : CMul i j) : IntMulOk i j := by
  rcases h with ⟨h1, h2⟩ | ⟨h1, h2⟩
  · exact .of_left (intBits_le_64 h1 h2)
  · exact .of_right (intBits_le_64 h1 h2)
theorem op_add : OpR X (binaryOp .Add) (rI0 fun i j => .int (i + j)) := opI0 fun _ _ _ _ _ _ _ q => add_int q
theorem op_sub : OpR X (binaryOp .Sub) (rI0 fun i j => .int (i - j)) := opI0 fun _ _ _ _ _ _ _ q => sub_int q
theorem op_mul : OpR X (binaryOp .Mult) (rI CMul fun i j => .int (i * j)) := opI fun _ _ _ _ _ _ _ hc q => mul_int q hc.ok
theorem op_fdiv : OpR X (binaryOp .FloorDiv) (rI CDiv fun i j => .int (i / j)) := opI fun i j _ _ _ _ _ hc q => by
  have h1 : (0 : Int) < j := hc.1
  have h2 : j < 1073741824 := hc.2
  exact floordiv_int (by omega) (by rw [Int.fdiv_eq_ediv_of_nonneg i (by omega)]; exact q) (.inl (PyProof.noPylong_small (by omega)))
theorem op_mod : OpR X (binaryOp .Mod) (rI (fun _ j => 0 < j) fun i j => .int (i % j)) := opI fun i j _ _ _ _ _ hc q => by
  have h1 : (0 : Int) < j := hc
  exact mod_int' (by omega) (by rw [Int.fmod_eq_emod_of_nonneg i (by omega)]; exact q)
theorem unI {f : Value → Sem Value} {g : Int → Int}
    (rule : ∀ (i : Int) (t : Tok) (s : Shared) (Q : Value → Shared → Prop) (E : Value → Shared → Prop), Q (.int (g i) s.toks) { s with toks := s.toks + 1 } → wpAny (model X.prog X.w) X.A (f (.int i t)) Q E s) :
    UnR X f (rU fun i => .int (g i)) := by
  intro pins s σ H x v Q I rx h
  obtain ⟨i, rfl, q⟩ := h
  obtain ⟨t, rfl⟩ := rx
  exact rule i t s _ _ ⟨.int (g i), H, I.tok _, ⟨_, rfl⟩, q⟩
theorem un_neg : UnR X (unaryOp .USub) (rU fun i => .int (-i)) := unI fun _ _ _ _ _ q => neg_int q

end


noncomputable def scal : V → V → Bool
  | .non, .non => true | .non, .int _ => true | .int _, .non => true | .non, .bl _ => true | .bl _, .non => true | .non, .str _ => true | .str _, .non => true
  | .int _, .int _ => true | .bl _, .bl _ => true | .str _, .str _ => true | .byt _, .byt _ => true
  | .int _, .str _ => true | .str _, .int _ => true | .bl _, .str _ => true | .str _, .bl _ => true
  | _, _ => false
noncomputable def rEq : R2 := fun x y H Q => scal x y = true ∧ Q (.bl (decide (x = y))) H
noncomputable def rNe : R2 := fun x y H Q => scal x y = true ∧ Q (.bl (!decide (x = y))) H

theorem dec_int {i j : Int} : decide (V.int i = V.int j) = (i == j) := by
  rw [Bool.eq_iff_iff]
  simp
theorem dec_bl {i j : Bool} : decide (V.bl i = V.bl j) = (i == j) := by
  rw [Bool.eq_iff_iff]
  simp
theorem dec_str {i j : Str} : decide (V.str i = V.str j) = (i == j) := by
  rw [Bool.eq_iff_iff]
  simp
theorem dec_byt {i j : Array UInt8} : decide (V.byt i = V.byt j) = (i.toList == j.toList) := by
  rw [Bool.eq_iff_iff]
  cases i
  cases j
  simp

section
variable {X : Cx} {a b c : Expr} {ta tb tc : TE} {pos : Pos}
theorem fin_bl {pins : List (Addr × Obj)} {σ : St} {H : Hp} {s : Shared} {Q : VK} {k k' : Bool} (I : Inv X pins σ H s) (q : Q (.bl k) H) (e : k = k') : EP X pins σ Q (.bool k') s := by
  subst e
  exact ⟨.bl k, H, I, rfl, q⟩
theorem op_eq : OpR X (compareOp .Eq) rEq := by
  intro pins s σ H x y v u Q I rx ry h
  obtain ⟨hs, q⟩ := h
  cases x with
  | non =>
    cases rx
    cases y with
    | non => cases ry; exact PySem.EqNone.eq_none_none (fin_bl I q (by simp))
    | bl j => cases ry; exact PySem.EqNone.eq_none_bool (fin_bl I q (by simp))
    | int j => obtain ⟨t', rfl⟩ := ry; exact PySem.EqNone.eq_none_int (fin_bl I q (by simp))
    | str j => obtain ⟨t', rfl⟩ := ry; exact PySem.EqNone.eq_none_str (fin_bl I q (by simp))
    | _ => exact absurd (show false = true from hs) Bool.false_ne_true
  | bl i =>
    cases rx
    cases y with
    | non => cases ry; exact PySem.EqNone.eq_bool_none (fin_bl I q (by simp))
    | bl j => cases ry; exact eq_bool (fin_bl I q dec_bl)
    | str j => obtain ⟨t', rfl⟩ := ry; exact PySem.EqMixed.eq_bool_str (fin_bl I q (by simp))
    | _ => exact absurd (show false = true from hs) Bool.false_ne_true
  | int i =>
    obtain ⟨t, rfl⟩ := rx
    cases y with
    | non => cases ry; exact PySem.EqNone.eq_int_none (fin_bl I q (by simp))
    | int j => obtain ⟨t', rfl⟩ := ry; exact eq_int (fin_bl I q dec_int)
    | str j => obtain ⟨t', rfl⟩ := ry; exact PySem.EqMixed.eq_int_str (fin_bl I q (by simp))
    | _ => exact absurd (show false = true from hs) Bool.false_ne_true
  | str i =>
    obtain ⟨t, rfl⟩ := rx
    cases y with
    | non => cases ry; exact PySem.EqNone.eq_str_none (fin_bl I q (by simp))
    | bl j => cases ry; exact PySem.EqMixed.eq_str_bool (fin_bl I q (by simp))
    | int j => obtain ⟨t', rfl⟩ := ry; exact PySem.EqMixed.eq_str_int (fin_bl I q (by simp))
    | str j => obtain ⟨t', rfl⟩ := ry; exact eq_str (fin_bl I q dec_str)
    | _ => exact absurd (show false = true from hs) Bool.false_ne_true
  | byt i =>
    obtain ⟨t, rfl⟩ := rx
    cases y with
    | byt j => obtain ⟨t', rfl⟩ := ry; exact PySem.W.eq_bytes (fin_bl I q dec_byt)
    | _ => exact absurd (show false = true from hs) Bool.false_ne_true
  | _ => cases y <;> exact absurd (show false = true from hs) Bool.false_ne_true
theorem op_ne : OpR X (compareOp .NotEq) rNe := by
  intro pins s σ H x y v u Q I rx ry h
  obtain ⟨hs, q⟩ := h
  cases x with
  | non =>
    cases rx
    cases y with
    | non => cases ry; exact PySem.EqNone.ne_none_none (fin_bl I q (by simp))
    | bl j => cases ry; exact PySem.EqNone.ne_none_bool (fin_bl I q (by simp))
    | int j => obtain ⟨t', rfl⟩ := ry; exact PySem.EqNone.ne_none_int (fin_bl I q (by simp))
    | str j => obtain ⟨t', rfl⟩ := ry; exact PySem.EqNone.ne_none_str (fin_bl I q (by simp))
    | _ => exact absurd (show false = true from hs) Bool.false_ne_true
  | bl i =>
    cases rx
    cases y with
    | non => cases ry; exact PySem.EqNone.ne_bool_none (fin_bl I q (by simp))
    | bl j => cases ry; exact ne_bool (fin_bl I q (congrArg not dec_bl))
    | str j => obtain ⟨t', rfl⟩ := ry; exact PySem.EqMixed.ne_bool_str (fin_bl I q (by simp))
    | _ => exact absurd (show false = true from hs) Bool.false_ne_true
  | int i =>
    obtain ⟨t, rfl⟩ := rx
    cases y with
    | non => cases ry; exact PySem.EqNone.ne_int_none (fin_bl I q (by simp))
    | int j => obtain ⟨t', rfl⟩ := ry; exact ne_int (fin_bl I q (congrArg not dec_int))
    | str j => obtain ⟨t', rfl⟩ := ry; exact PySem.EqMixed.ne_int_str (fin_bl I q (by simp))
    | _ => exact absurd (show false = true from hs) Bool.false_ne_true
  | str i =>
    obtain ⟨t, rfl⟩ := rx
    cases y with
    | non => cases ry; exact PySem.EqNone.ne_str_none (fin_bl I q (by simp))
    | bl j => cases ry; exact PySem.EqMixed.ne_str_bool (fin_bl I q (by simp))
    | int j => obtain ⟨t', rfl⟩ := ry; exact PySem.EqMixed.ne_str_int (fin_bl I q (by simp))
    | str j => obtain ⟨t', rfl⟩ := ry; exact ne_str (fin_bl I q (congrArg not dec_str))
    | _ => exact absurd (show false = true from hs) Bool.false_ne_true
  | byt i =>
    obtain ⟨t, rfl⟩ := rx
    cases y with
    | byt j => obtain ⟨t', rfl⟩ := ry; exact PySem.W.ne_bytes (fin_bl I q (congrArg not dec_byt))
    | _ => exact absurd (show false = true from hs) Bool.false_ne_true
  | _ => cases y <;> exact absurd (show false = true from hs) Bool.false_ne_true

theorem op_lt : OpR X (compareOp .Lt) (rI0 fun i j => .bl (decide (i < j))) := opB0 fun _ _ _ _ _ _ _ q => lt_int q
theorem op_le : OpR X (compareOp .LtE) (rI0 fun i j => .bl (decide (i ≤ j))) := opB0 fun _ _ _ _ _ _ _ q => le_int q
theorem op_in_str : OpR X (compareOp .In) (fun x y H Q => ∃ i j, x = .str i ∧ y = .str j ∧ Q (.bl (!(Builtin.Str.occurrences j i 0 j.length 1).isEmpty)) H) := by
  intro pins s σ H x y v u Q I rx ry h
  obtain ⟨i, j, rfl, rfl, q⟩ := h
  obtain ⟨t, rfl⟩ := rx
  obtain ⟨t', rfl⟩ := ry
  exact in_str (fin_bl I q rfl)

theorem op_isN : OpR X (compareOp .Is) (fun x y H Q => y = .non ∧ Q (.bl (decide (x = .non))) H) := by
  intro pins s σ H x y v u Q I rx ry h
  obtain ⟨rfl, q⟩ := h
  cases ry
  refine is_none_gen (fin_bl I q ?_)
  cases x <;> first
    | (cases rx; rfl)
    | (obtain ⟨t, rfl⟩ := rx; rfl)
theorem op_notN : OpR X (compareOp .IsNot) (fun x y H Q => y = .non ∧ Q (.bl (!decide (x = .non))) H) := by
  intro pins s σ H x y v u Q I rx ry h
  obtain ⟨rfl, q⟩ := h
  cases ry
  refine isnot_none_gen (fin_bl I q ?_)
  cases x <;> first
    | (cases rx; rfl)
    | (obtain ⟨t, rfl⟩ := rx; rfl)

theorem nomark (b : Expr) {op : CmpOp} (h : op ≠ .In := by decide) (h2 : op ≠ .NotIn := by decide) : behindInMarks op b = false := by
  have e1 : (op == CmpOp.In) = false := by cases op <;> first | rfl | exact absurd rfl h
  have e2 : (op == CmpOp.NotIn) = false := by cases op <;> first | rfl | exact absurd rfl h2
  cases b <;> simp [behindInMarks, e1, e2]
theorem pe_cmpR {op : CmpOp} {r : R2} (ho : OpR X (compareOp op) r) (ha : PE X a ta) (hb : PE X b tb) (hm : behindInMarks op b = false) : PE X (.Compare a [op] [b] pos) (tOp r ta tb) := by
  intro pins s σ H Q I h
  exact wpAny_Compare1 (binT ha hb I h fun v u s2 x y H2 I2 rx ry q => ho pins s2 σ H2 x y v u Q I2 rx ry q) hm
noncomputable def tTest (t : TE) : TT := fun σ H Q => t σ H fun x H' => ∃ k, x = .bl k ∧ Q k H'
theorem pt_cmpR {op : CmpOp} {r : R2} (ho : OpR X (compareOp op) r) (ha : PE X a ta) (hb : PE X b tb) (hm : behindInMarks op b = false) : PT X (.Compare a [op] [b] pos) (tTest (tOp r ta tb)) := by
  intro pins s σ H Q I h
  refine wpAny_isTrue_Compare1 (thn (ha pins s σ H _ I h) fun v s1 ⟨x, H1, I1, r1, q1⟩ => thn (hb pins s1 σ H1 _ I1 q1) fun u s2 ⟨y, H2, I2, r2, q2⟩ =>
    thn (ho pins s2 σ H2 x y v u _ I2 r1 r2 q2) fun c s3 ⟨z, H3, I3, r3, k, e, q3⟩ => ?_) hm
  subst e
  cases r3
  exact wpAny_truthy_bool ⟨H3, I3, q3⟩
noncomputable def tChain (r r' : R2) (ta tb tc : TE) : TE := fun σ H Q => ta σ H fun x H1 => tb σ H1 fun y H2 => r x y H2 fun z H3 => ∃ k, z = .bl k ∧
  (if k = true then tc σ H3 fun w' H4 => r' y w' H4 Q else Q (.bl false) H3)
theorem pt_chain {op op' : CmpOp} {r r' : R2} (ho : OpR X (compareOp op) r) (ho' : OpR X (compareOp op') r') (ha : PE X a ta) (hb : PE X b tb) (hc : PE X c tc)
    (hm : lastMarks [op, op'] [b, c] = false := by with_unfolding_all rfl) : PT X (.Compare a [op, op'] [b, c] pos) (tTest (tChain r r' ta tb tc)) := by
  intro pins s σ H Q I h
  refine isTrue_chain (thn (ha pins s σ H _ I h) fun v s1 ⟨x, H1, I1, r1, q1⟩ => test_link (thn (hb pins s1 σ H1 _ I1 q1) fun u s2 ⟨y, H2, I2, r2, q2⟩ =>
    thn (ho pins s2 σ H2 x y v u _ I2 r1 r2 q2) fun d s3 ⟨z, H3, I3, r3, k, e, q3⟩ => ?_)) hm
  subst e
  cases r3
  refine wpAny_truthy_bool ?_
  cases k with
  | false =>
    obtain ⟨k', e', q'⟩ := q3
    cases e'
    exact ite_ff ⟨H3, I3, q'⟩
  | true =>
    refine ite_tt (test_last (thn (hc pins s3 σ H3 _ I3 q3) fun w' s4 ⟨z', H4, I4, r4, q4⟩ => thn (ho' pins s4 σ H4 y z' u w' _ I4 r2 r4 q4) fun d' s5 ⟨z2, H5, I5, r5, k2, e2, q5⟩ => ?_))
    subst e2
    cases r5
    exact wpAny_truthy_bool ⟨H5, I5, q5⟩


noncomputable def TruV (K : PySem.W.Frag) (x : V) (H : Hp) (k : Bool) : Prop :=
  match x with
  | .non => k = false
  | .bl b => k = b
  | .int i => k = (i != 0)
  | .str y => y.length ≤ sizeLine ∧ k = ((y.length : Int) != 0)
  | .byt y => y.size ≤ sizeLine ∧ k = ((y.size : Int) != 0)
  | .ref p => (∃ xs, SqL K H p xs ∧ k = !xs.isEmpty) ∨ (∃ xs, SqT K H p xs ∧ k = !xs.isEmpty) ∨ ∃ kvs, H p = some (.dK kvs) ∧ k = !kvs.isEmpty
  | _ => False
theorem isEmpty_kv {κ : Type} {kvs : List (κ × V)} {vs : List (κ × Value)} (r : KV kvs vs) : (!vs.isEmpty) = !kvs.isEmpty := by
  cases r <;> rfl
theorem isEmpty_of {xs : List V} {its : List Value} (r : Vals xs its) : (!its.toArray.isEmpty) = !xs.isEmpty := by
  cases r <;> simp
theorem line63 : (sizeLine : Nat) < 2 ^ 63 := by rw [sizeLine_eq]; decide
theorem tru_ok : TruR X (fun x H Q => ∃ k, TruV X.K x H k ∧ Q k H) := by
  intro pins s σ H x v Q I rx h
  obtain ⟨k, e, q⟩ := h
  have hl := line63
  have hs : sizeLine = 16777216 := sizeLine_eq
  cases x with
  | non =>
    cases rx
    have e' : k = false := e
    subst e'
    exact truthy_none ⟨H, I, q⟩
  | bl b =>
    cases rx
    have e' : k = b := e
    subst e'
    exact wpAny_truthy_bool ⟨H, I, q⟩
  | int i =>
    obtain ⟨t, rfl⟩ := rx
    have e' : k = (i != 0) := e
    subst e'
    exact PySem.P.truthy_int ⟨H, I, q⟩
  | str y =>
    obtain ⟨t, rfl⟩ := rx
    obtain ⟨hy, e'⟩ : y.length ≤ sizeLine ∧ k = ((y.length : Int) != 0) := e
    subst e'
    exact PySem.P.truthy_str (by omega) ⟨H, I.tok _, q⟩
  | byt y =>
    obtain ⟨t, rfl⟩ := rx
    obtain ⟨hy, e'⟩ : y.size ≤ sizeLine ∧ k = ((y.size : Int) != 0) := e
    subst e'
    exact PySem.W.truthy_bytes (by omega) ⟨H, I.tok _, q⟩
  | ref p =>
    cases rx
    have e' : (∃ xs, SqL X.K H p xs ∧ k = !xs.isEmpty) ∨ (∃ xs, SqT X.K H p xs ∧ k = !xs.isEmpty) ∨ ∃ kvs, H p = some (.dK kvs) ∧ k = !kvs.isEmpty := e
    rcases e' with ⟨xs, hx, e'⟩ | ⟨xs, hx, e'⟩ | ⟨kvs, hx, e'⟩
    · subst e'
      obtain ⟨its, r, pl, hz⟩ := I.list hx
      have hlen := r.length
      exact wpAny_truthy_list pl.isList (by simp only [List.size_toArray]; omega) ⟨H, I.tok _, by rw [isEmpty_of r]; exact q⟩
    · subst e'
      obtain ⟨its, r, pl, hz⟩ := I.tuple hx
      have hlen := r.length
      exact truthy_tuple pl (by simp only [List.size_toArray]; omega) ⟨H, I.tok _, by rw [isEmpty_of r]; exact q⟩
    · subst e'
      obtain ⟨hz, hS, vs, r, m⟩ : kvs.length ≤ sizeLine ∧ (p == sysModules) = false ∧ ∃ vs, KV kvs vs ∧ s.heap.DictOf (mixKind X.prog X.w) p vs := I.hok p _ hx
      have hlen : kvs.length = vs.length := Paired.length r
      exact wpAny_truthy_dict hS m (by omega) ⟨H, I.tok _, by rw [isEmpty_kv r]; exact q⟩
  | _ => exact (show False from e).elim
theorem pt_truth (ha : PE X a ta) (he : ∀ whole, isTrue a X.env whole = (do let v ← whole; standAt a.pos; holding [v] (truthy v))) :
    PT X a (fun σ H Q => ta σ H fun x H' => ∃ k, TruV X.K x H' k ∧ Q k H') := by
  intro pins s σ H Q I h
  exact isTrue_plain (thn (ha pins s σ H _ I h) fun v s1 ⟨x, H1, I1, r1, q1⟩ => tru_ok pins s1 σ H1 x v Q I1 r1 q1) (he _)


theorem op_add_str : OpR X (binaryOp .Add) (fun x y H Q => ∃ i j, x = .str i ∧ y = .str j ∧ i.length + j.length ≤ sizeLine ∧ Q (.str (i ++ j)) H) := by
  intro pins s σ H x y v u Q I rx ry h
  obtain ⟨i, j, rfl, rfl, hz, q⟩ := h
  obtain ⟨t, rfl⟩ := rx
  obtain ⟨t', rfl⟩ := ry
  exact add_str (fun t' tk => ⟨.str (i ++ j), H, I.tok _, ⟨_, rfl⟩, q⟩) hz

theorem vals1 {x : V} {us : List Value} (r : Vals [x] us) : ∃ u, us = [u] ∧ RelV x u := by
  cases r with
  | cons r1 r2 => cases r2; exact ⟨_, rfl, r1⟩
theorem vals2 {x y : V} {us : List Value} (r : Vals [x, y] us) : ∃ u w', us = [u, w'] ∧ RelV x u ∧ RelV y w' := by
  cases r with
  | cons r1 r2 =>
    cases r2 with
    | cons r3 r4 => cases r4; exact ⟨_, _, rfl, r1, r3⟩
theorem call_str_int : CallR X (.type "str") (fun xs H Q => ∃ i, xs = [.int i] ∧ i.natAbs.log2 < 1920 ∧ Q (.str (toString i)) H) := by
  intro pins s σ H xs us Q I r h
  obtain ⟨i, rfl, hz, q⟩ := h
  obtain ⟨u, rfl, t, rfl⟩ := vals1 r
  exact PySem.P.str_of_int hz ⟨.str _, H, I.tok _, ⟨_, rfl⟩, q⟩
end
end L2

namespace L2
open PySem PySem.Spec PyProof.Rows


structure ObjM (h : Heap) (x dx C : Addr) (mA : Str → Option Value) : Prop where
  obj : h.get? x = some (PySem.W.instObj C dx)
  ns : h.Ns1 dx mA
  ne : dx ≠ x

theorem lookIn_ns {h : Heap} {dx : Addr} {mA : Str → Option Value} (n : h.Ns1 dx mA) : ∃ od, h.get? dx = some od ∧ ∀ name, PySem.W.lookIn name od = some (mA name) := by
  obtain ⟨o, es, ep, ho, hd, hk, _, hm⟩ := n
  refine ⟨o, ho, fun name => ?_⟩
  have e := hm name
  unfold nsFind findBy at e
  rw [← Array.find?_toList] at e
  unfold PySem.W.lookIn
  rw [hd]
  dsimp only
  split
  · rename_i y q
    rw [q] at e
    exact congrArg some e
  · rename_i q
    rw [q] at e
    have a : es.toList.any (·.refKey) = false := by
      rw [List.any_eq_false]
      intro y hy
      obtain ⟨z, t, hkey⟩ := hk y (Array.mem_toList_iff.mp hy)
      simp [DictEntry.refKey, hkey]
    have a' : ¬ es.toList.any (·.refKey) = true := by rw [a]; exact Bool.false_ne_true
    rw [if_neg a']
    exact congrArg some e

theorem ObjM.look {h : Heap} {x dx C : Addr} {mA : Str → Option Value} (I : ObjM h x dx C mA) : ∃ od, PySem.W.InstAt h x (PySem.W.instObj C dx) C (some od) ∧ ∀ name, PySem.W.lookIn name od = some (mA name) :=
  let ⟨od, ho, hl⟩ := lookIn_ns I.ns
  ⟨od, ⟨I.obj, rfl, rfl, ho⟩, hl⟩

section
variable {prog : Program} {w : World} {A : Around} {E : Value → Shared → Prop} {s : Shared} {K : PySem.W.Frag} {x dx C f : Addr} {mA : Str → Option Value} {name : Str} {v : Value}

end


section
variable {P : Program} {w : World} {H H' : Hp} {h h' : Heap} {a C dx : Addr} {fs fs' : List (Str × V)}
theorem ins_get (hok : HOk P w H h) (e : H a = some (.ins C dx fs)) : ∃ mA, ObjM h a dx C mA ∧ (∀ f, RelO (fs.lookup f) (mA f)) ∧ PySem.Within mA (fs.map (·.1)) ∧ fs.length ≤ 1000 ∧ H dx = some (.own a) := by
  obtain ⟨d, z, ne, ob, mA, n, r, q⟩ := (show ObjOk P w H h a (.ins C dx fs) from hok a _ e)
  exact ⟨mA, ⟨ob, n, ne⟩, r, q, z, d⟩
end


structure Cls (K : PySem.W.Frag) (C : Addr) : Prop where
  pg : PySem.W.plainGet K C Str.empty = true
  hd : PySem.W.hasDictIn K C = true
  po : PySem.W.plainOver K C = true
  sa : PySem.W.findIn K (.ref C) "__setattr__" = some (some (.builtin "object.__setattr__"))
theorem Cls.get {K : PySem.W.Frag} {C : Addr} (c : Cls K C) (f : Str) : PySem.W.plainGet K C f = true := c.pg
structure Con (K : PySem.W.Frag) (C : Addr) (f : Str) (v : V) (u : Value) : Prop where
  at_ : PySem.W.findIn K (.ref C) f = some (some u)
  rel : RelV v u
  get : PySem.W.specialIn K u "__get__" = some none
  cp : PySem.W.copiedNames.contains f = false
structure Meth (K : PySem.W.Frag) (C : Addr) (m : Str) (f : Addr) : Prop where
  at_ : PySem.W.findIn K (.ref C) m = some (some (.ref f))
  fn : PySem.W.isFn K (.ref f) = true
  kp : PySem.W.keepIn K (.ref f) = true

section
variable {X : Cx} {pins : List (Addr × Obj)} {σ : St} {H : Hp} {s : Shared} {a C dx : Addr} {fs : List (Str × V)} {f : Str} {v : V} {A : Around} {E : Value → Shared → Prop}

end


section
variable {X : Cx} {o e value : Expr} {f : Str} {pos pos' tpos : Pos} {ta tv : TE}
end


section
variable {X : Cx} {pins : List (Addr × Obj)} {σ : St} {H : Hp} {s : Shared} {A : Around} {E : Value → Shared → Prop} {Q : Value → Shared → Prop} {c : Value} {b : Bool}
inductive TyOf (K : PySem.W.Frag) (H : Hp) : V → Value → Prop where
  | non : TyOf K H .non (.type "NoneType")
  | bl (x : Bool) : TyOf K H (.bl x) (.type "bool")
  | int (i : Int) : TyOf K H (.int i) (.type "int")
  | str (x : Str) : TyOf K H (.str x) (.type "str")
  | flt (x : UInt64) : TyOf K H (.flt x) (.type "float")
  | lst {a : Addr} {xs : List V} (e : H a = some (.lst xs)) : TyOf K H (.ref a) (.type "list")
  | frz {a : Addr} {o : Obj} {xs : List V} (e : H a = some (.frz o (.lst xs))) : TyOf K H (.ref a) (.type "list")
  | tup {a : Addr} {xs : List V} (e : H a = some (.tup xs)) : TyOf K H (.ref a) (.type "tuple")
  | dK {a : Addr} {kvs : List (Key × V)} (e : H a = some (.dK kvs)) : TyOf K H (.ref a) (.type "dict")
  | dT {a : Addr} {kvs : List (List Key × V)} (e : H a = some (.dT kvs)) : TyOf K H (.ref a) (.type "dict")
  | ins {a C dx : Addr} {fs : List (Str × V)} (e : H a = some (.ins C dx fs)) (cl : Cls K C) (ha : PySem.W.findIn K (.ref C) "__class__" = some (some (.builtin "object.__class__")))
      (hn : PySem.W.specialIn K (.builtin "object.__class__") "__get__" = some (some (.builtin "getset_descriptor.__get__"))) (htk : PySem.W.takesIn K (.builtin "object.__class__") = some true)
      (hm : PySem.W.mroIn K C (.type "object") = some true) : TyOf K H (.ref a) (.ref C)
theorem isinst_ok {x : V} {u t : Value} (I : Inv X pins σ H s) (rx : RelV x u) (ty : TyOf X.K H x t) (e : PySem.W.kitOne X.K t c = some b) (h : ∀ tk, Q (.bool b) { s with toks := tk }) :
    wpAny (model X.prog X.w) A (call (.builtin "isinstance") [u, c]) Q E s := by
  cases ty with
  | non => cases (show u = Value.none from rx); exact PySem.W.kia_one PySem.W.kitx_none I.kIn True.intro e (fun z => nomatch z) h
  | bl y => cases (show u = Value.bool y from rx); exact PySem.W.kia_one PySem.W.kitx_bool I.kIn True.intro e (fun z => nomatch z) h
  | int i => obtain ⟨t, q⟩ := (show ∃ t, u = Value.int i t from rx); cases q; exact PySem.W.kia_one PySem.W.kitx_int I.kIn True.intro e (fun z => nomatch z) h
  | str y => obtain ⟨t, q⟩ := (show ∃ t, u = Value.str y t from rx); cases q; exact PySem.W.kia_one PySem.W.kitx_str I.kIn True.intro e (fun z => nomatch z) h
  | flt y => obtain ⟨t, q⟩ := (show ∃ t, u = Value.float y t from rx); cases q; exact PySem.W.kia_one PySem.W.kitx_float I.kIn True.intro e (fun z => nomatch z) h
  | @lst a xs ea =>
    cases (show u = Value.ref a from rx)
    obtain ⟨_, _, n, _, h1⟩ := (show ObjOk X.prog X.w H s.heap a (.lst xs) from I.hok a _ ea)
    exact PySem.W.kia_one PySem.W.kitx_list I.kIn ⟨_, h1, rfl⟩ e (fun z => nomatch z) h
  | @frz a ob xs ea =>
    cases (show u = Value.ref a from rx)
    obtain ⟨_, _, _, n, _, h1⟩ := (show ObjOk X.prog X.w H s.heap a (.frz ob (.lst xs)) from I.hok a _ ea)
    exact PySem.W.kia_one PySem.W.kitx_list I.kIn ⟨_, h1, rfl⟩ e (fun z => nomatch z) h
  | @tup a xs ea =>
    cases (show u = Value.ref a from rx)
    obtain ⟨_, _, _, p⟩ := (show ObjOk X.prog X.w H s.heap a (.tup xs) from I.hok a _ ea)
    obtain ⟨o, h1, h2, _⟩ := p
    exact PySem.W.kia_one PySem.W.kitx_tuple I.kIn ⟨o, h1, h2⟩ e (fun z => nomatch z) h
  | @dK a kvs ea =>
    cases (show u = Value.ref a from rx)
    obtain ⟨_, _, vs, _, p⟩ := (show ObjOk X.prog X.w H s.heap a (.dK kvs) from I.hok a _ ea)
    obtain ⟨o, es, ep, h1, h2, _⟩ := p
    exact PySem.W.kia_one PySem.W.kitx_dict I.kIn ⟨o, h1, h2.1⟩ e (fun z => nomatch z) h
  | @dT a kvs ea =>
    cases (show u = Value.ref a from rx)
    obtain ⟨_, _, xs, _, o, es, ep, h1, h2, _⟩ := (show ObjOk X.prog X.w H s.heap a (.dT kvs) from I.hok a _ ea)
    exact PySem.W.kia_one PySem.W.kitx_dict I.kIn ⟨o, h1, h2.1⟩ e (fun z => nomatch z) h
  | @ins a C dx fs ea cl ha hn htk hm =>
    cases (show u = Value.ref a from rx)
    obtain ⟨mA, O, _⟩ := ins_get I.hok ea
    obtain ⟨od, J, _⟩ := O.look
    exact PySem.W.kia_one (PySem.W.kitx_own (cl.get _) cl.hd ha hn htk hm) I.kIn J e (fun z => nomatch z) h
end
end L2

namespace L2
open PySem PySem.Spec PyProof.Rows


structure Room (k : Nat) (A : Around) : Prop where
  hd : A.handled = none
  dp : A.depth + 3 * k + 5 < recursionLimit
  un : A.units + 16 * k + 200 < cLine
theorem Room.mono {j k : Nat} {A : Around} (r : Room k A) (h : j ≤ k) : Room j A := ⟨r.hd, by have := r.dp; omega, by have := r.un; omega⟩
theorem Room.deeper {k : Nat} {A : Around} (r : Room (k + 1) A) (env : Env) : Room k (A.deeper env) :=
  ⟨r.hd, by have := r.dp; show A.depth + 1 + 3 * k + 5 < _; omega, by have := r.un; show A.units + 3 + 16 * k + 200 < _; omega⟩
theorem Room.in1 {k : Nat} {A : Around} (r : Room (k + 1) A) : Room k A.in1 :=
  ⟨r.hd, by have := r.dp; show A.depth + 3 * k + 5 < _; omega, by have := r.un; show A.units + 1 + 16 * k + 200 < _; omega⟩
theorem Room.depth {k : Nat} {A : Around} (r : Room k A) : A.depth < recursionLimit := by have := r.dp; omega
theorem Room.units {k : Nat} {A : Around} (r : Room k A) : A.units + 64 < cLine := by have := r.un; omega

noncomputable def tNil : TA := fun _ H Q => Q [] H
noncomputable def tCons (ta : TE) (tr : TA) : TA := fun σ H Q => ta σ H fun x H1 => tr σ H1 fun xs H2 => Q (x :: xs) H2
section
variable {X : Cx} {e : Expr} {es : List Expr} {te : TE} {t : TA} {pos : Pos}
theorem pa_nil : PA X [] tNil := fun _ _ _ _ H Q I h => Calls.spliced_nil ⟨[], H, I, .nil, h⟩
theorem pa_cons (ha : PE X e te) (hr : PA X es t) (hs : starEach (e :: es) X.env = (false, eval e X.env) :: starEach es X.env := by rfl) : PA X (e :: es) (tCons te t) := by
  intro pos pins s σ H Q I h
  rw [hs]
  show wpAny _ _ (spliced ((false, eval e X.env) :: backTo pos (starEach es X.env))) _ _ s
  refine Calls.spliced_cons (thn (ha pins s σ H _ I h) fun u s1 ⟨x, H1, I1, r1, q1⟩ => ?_)
  exact thn (hr pos pins s1 σ H1 _ I1 q1) fun us s2 ⟨xs, H2, I2, r2, q2⟩ => ⟨x :: xs, H2, I2, .cons r1 r2, q2⟩

noncomputable def tTup (t : TA) : TE := fun σ H Q => t σ H fun xs H1 => xs.length ≤ sizeLine ∧ ∀ p, H1 p = none → Q (.ref p) (upd H1 p (.tup xs))
noncomputable def tLst (t : TA) : TE := fun σ H Q => t σ H fun xs H1 => xs.length ≤ sizeLine ∧ ∀ p, H1 p = none → Q (.ref p) (upd H1 p (.lst xs))
theorem pe_tup {x1} (h : PA X es t) : PE X (.Tuple es x1 pos) (tTup t) := by
  intro pins s σ H Q I hq
  refine wpAny_Tuple_spliced (thn (h pos pins s σ H _ I hq) fun us s1 ⟨xs, H1, I1, r, z, q⟩ => ⟨by rw [← r.length]; exact z, ?_⟩)
  have hf : H1 s1.heap.objs.size = none := I1.hok.fresh (Nat.le_refl _)
  refine ⟨.ref s1.heap.objs.size, upd H1 s1.heap.objs.size (.tup xs), I1.laid (t' := s1.toks) (fun b u e => Heap.get?_push_of_some _ e) (Nat.le_refl _) ?_, rfl, q _ hf⟩
  exact ⟨z, us, r, ⟨_, Heap.get?_push_size _ rfl, rfl, _, rfl⟩⟩
theorem pe_lst (h : PA X es t) : PE X (.List es pos) (tLst t) := by
  intro pins s σ H Q I hq
  refine wpAny_List_spliced (thn (h pos pins s σ H _ I hq) fun us s1 ⟨xs, H1, I1, r, z, q⟩ => ⟨by rw [← r.length]; exact z, ?_⟩)
  have hf : H1 s1.heap.objs.size = none := I1.hok.fresh (Nat.le_refl _)
  refine ⟨.ref s1.heap.objs.size, upd H1 s1.heap.objs.size (.lst xs), I1.laid (t' := s1.toks) (fun b u e => Heap.get?_push_of_some _ e) (Nat.le_refl _) ?_, rfl, q _ hf⟩
  exact ⟨z, us, 0, r, Heap.get?_push_size _ rfl⟩
end


noncomputable abbrev Sp := List V → Hp → VK → XK → Prop
noncomputable abbrev CXT := List Env → Hp → Shared → XK → Value → Shared → Prop

structure Env0 (P : Program) (w : World) (K : PySem.W.Frag) (mg : Str → Option Value) (base : Heap) (A : Around) (outer : List Env) (s : Shared) (H : Hp) : Prop where
  frames : A.frames = some outer
  mod : Mod K mg base
  bs : ∀ b o, base.get? b = some o → s.heap.get? b = some o ∧ H b = none
  bsz : base.objs.size ≤ s.heap.objs.size
  funs : s.heap.FunFrames base outer
  frf : ∀ b ∈ frs outer, H b = none
  hok : HOk P w H s.heap
  bare : AllBare s.gens
noncomputable def CE (outer : List Env) (P : Program) (w : World) (H : Hp) (s : Shared) (Q : VK) (u : Value) (s' : Shared) : Prop :=
  ∃ v H', s'.os = s.os ∧ AllBare s'.gens ∧ Un (frs outer) [] H H' s.heap s'.heap ∧ HOk P w H' s'.heap ∧ RelV v u ∧ Q v H'
noncomputable def CR (CX : CXT) (outer : List Env) (P : Program) (w : World) (H : Hp) (s : Shared) (Q : VK) (E : XK) (r : Result) (s' : Shared) : Prop :=
  match r with
  | .ok (.ret u) => CE outer P w H s Q u s'
  | .ok _ => False
  | .error e => CX outer H s E e s'
structure FnOk (P : Program) (w : World) (K : PySem.W.Frag) (mg : Str → Option Value) (base : Heap) (CX : CXT) (k : Nat) (f : Addr) (fd : FuncData) (ps : List Str) (sp : Sp) : Prop where
  len : ∀ vs H Q E, sp vs H Q E → vs.length = ps.length
  run : ∀ (A : Around) (outer : List Env) (s : Shared) (H : Hp) (args : Args) (us : List Value) (vs : List V) (Q : VK) (E : XK), Room k A → Env0 P w K mg base A outer s H → BindsTo s fd args (ps.zip us) → Vals vs us → sp vs H Q E →
    codeAny (model P w) A (.call (.ref f) args) (CR CX outer P w H s Q E) s
theorem FnOk.mono {P : Program} {w : World} {K : PySem.W.Frag} {mg : Str → Option Value} {base : Heap} {CX : CXT} {j k : Nat} {f : Addr} {fd : FuncData} {ps : List Str} {sp : Sp} (F : FnOk P w K mg base CX j f fd ps sp) (h : j ≤ k) :
    FnOk P w K mg base CX k f fd ps sp := ⟨F.len, fun A outer s H args us vs Q E hr => F.run A outer s H args us vs Q E (hr.mono h)⟩
theorem Env0.in1 {P : Program} {w : World} {K : PySem.W.Frag} {mg : Str → Option Value} {base : Heap} {A : Around} {outer : List Env} {s : Shared} {H : Hp} (e : Env0 P w K mg base A outer s H) :
    Env0 P w K mg base A.in1 outer s H := ⟨e.frames, e.mod, e.bs, e.bsz, e.funs, e.frf, e.hok, e.bare⟩

section
variable {X : Cx} {pins : List (Addr × Obj)} {σ : St} {H : Hp} {s s' : Shared}
theorem Inv.env0 (I : Inv X pins σ H s) : Env0 X.prog X.w X.K X.mg X.base X.A X.stack s H :=
  ⟨I.ok.frames, I.ok.mod, I.bs, Nat.le_trans I.ok.bsz I.sz, I.stack, I.stkFree, I.hok, I.bare⟩
theorem Inv.after {Q : VK} {u : Value} (I : Inv X pins σ H s) (h : CE X.stack X.prog X.w H s Q u s') : EP X pins σ Q u s' := by
  obtain ⟨v, H', os, bare, un, hok, r, q⟩ := h
  obtain ⟨hh, g, d, t, os'⟩ := s'
  obtain rfl : os' = s.os := os
  exact ⟨v, H', I.call (h' := hh) (g' := g) (d' := d) (t' := t) (ch := []) un hok bare (fun b z => absurd z (by simp)), r, q⟩
end


noncomputable def tCall (sp : Sp) (dvs : List V) (E : XK) (t : TA) : TE := fun σ H Q => t σ H fun vs H1 => sp (vs ++ dvs) H1 Q E
noncomputable def Binds (K : PySem.W.Frag) (fd : FuncData) (ps : List Str) (ds : List Value) : Prop :=
  ∀ (s : Shared) (us : List Value), K.In s.heap → (us ++ ds).length = ps.length → BindsTo s fd ⟨us, []⟩ (ps.zip (us ++ ds))
theorem Binds.all {K : PySem.W.Frag} {fd : FuncData} {ps : List Str} (h : ∀ us : List Value, us.length = ps.length → bindArgs fd ⟨us, []⟩ = pure (ps.zip us)) : Binds K fd ps [] := fun s us _ hl => by
  rw [List.append_nil] at hl ⊢
  exact .of_eq (h us hl)

noncomputable def Passes (CX : CXT) (X : Cx) (E : XK) : Prop := ∀ (pins : List (Addr × Obj)) (σ : St) (H : Hp) (s : Shared) (e : Value) (s' : Shared), Inv X pins σ H s → CX X.stack H s E e s' → X.xe e s'

section
variable {X : Cx} {CX : CXT} {k : Nat} {f C : Addr} {fd : FuncData} {ps : List Str} {sp : Sp} {dvs : List V} {ds : List Value} {E : XK} {x m : Str} {p pos apos : Pos} {e o : Expr} {es : List Expr} {ta : TE} {t : TA}

theorem run_fn {pins : List (Addr × Obj)} {σ : St} {H : Hp} {s : Shared} {Q : VK} {us : List Value} {vs : List V} (F : FnOk X.prog X.w X.K X.mg X.base CX k f fd ps sp) (hr : Room k X.A) (hb : Binds X.K fd ps ds) (hd : Vals dvs ds) (hx : Passes CX X E)
    (I : Inv X pins σ H s) (r : Vals vs us) (h : sp (vs ++ dvs) H Q E) : wpAny (model X.prog X.w) X.A (call (.ref f) us) (EP X pins σ Q) X.xe s := by
  have r2 : Vals (vs ++ dvs) (us ++ ds) := r.append hd
  have hl : (us ++ ds).length = ps.length := by rw [← r2.length]; exact F.len _ _ _ _ h
  refine wpAny_call (codeAny_mono (F.run X.A X.stack s H ⟨us, []⟩ (us ++ ds) (vs ++ dvs) Q E hr I.env0 (hb s us I.kIn hl) r2 h) fun r s' hq => ?_)
  cases r with
  | error e => exact hx pins σ H s e s' I hq
  | ok fl =>
    cases fl with
    | ret u => exact I.after hq
    | next => exact False.elim hq
    | brk => exact False.elim hq
    | cont => exact False.elim hq

theorem pe_call (F : FnOk X.prog X.w X.K X.mg X.base CX k f fd ps sp) (hr : Room k X.A) (hg : Gl X x) (hm : X.mg x = some (.ref f)) (hk : PySem.W.keepIn X.K (.ref f) = true) (hb : Binds X.K fd ps ds) (hd : Vals dvs ds) (hx : Passes CX X E)
    (ha : PA X (e :: es) t) (hdb : (x == ("__debug__" : Str)) = false := by decide) (he : starEach (e :: es) X.env = (false, eval e X.env) :: starEach es X.env := by rfl) (hpl : (backTo pos (starEach es X.env)).any (·.1) = false := by rfl) :
    PE X (.Call (.Name x p) (e :: es) [] pos) (tCall sp dvs E t) := by
  intro pins s σ H Q I h
  refine wpAny_Call_Name_kw (ld_glob I hg hm ?_ hdb)
  refine PySem.W.callWith_K (h₀ := X.base) I.ok.mod.kin hk (thn (ha pos pins s σ H _ I h) fun us s1 ⟨vs, H1, I1, r, q⟩ => ⟨I1.kIn, ?_⟩) he hpl
  exact run_fn F hr hb hd hx I1 r q
structure Mk (K : PySem.W.Frag) (C f : Addr) : Prop where
  makes : PySem.W.makesIn K C = true
  init : PySem.W.findIn K (.ref C) "__init__" = some (some (.ref f))
  fn : PySem.W.isFn K (.ref f) = true
  kp : PySem.W.keepIn K (.ref C) = true

end


section
variable {X : Cx} {CX : CXT} {k : Nat} {f C : Addr} {fd : FuncData} {ps ks : List Str} {sp : Sp} {E : XK} {x m : Str} {p pos apos kpos : Pos} {e o : Expr} {es : List Expr} {kws : List Keyword} {te ta : TE} {t tk : TA} {nm : Option Str}
structure KBinds (K : PySem.W.Frag) (fd : FuncData) (ps ks : List Str) (g : List Value → List Value → List Value) (gV : List V → List V → List V) : Prop where
  to : ∀ (s : Shared) (us ws : List Value), K.In s.heap → (g us ws).length = ps.length → BindsTo s fd ⟨us, ks.zip ws⟩ (ps.zip (g us ws))
  rel : ∀ {vs : List V} {us : List Value} {zs : List V} {ws : List Value}, Vals vs us → Vals zs ws → Vals (gV vs zs) (g us ws)
variable {g : List Value → List Value → List Value} {gV : List V → List V → List V}
end


structure FnScope (N P : List Str) (sc : Scope) : Prop where
  kind : sc.kind = .function
  co : sc.isCoroutine = false
  gen : sc.isGenerator = false
  nd : N.Nodup
  pre : N.take P.length = P
  par : ∀ x ∈ P, sc.names.lookup x = some .local ∨ sc.names.lookup x = some .cell
  nofree : ∀ y ∈ sc.names, y.2 ≠ .free

theorem bindL_out {kindOf : Str → Option NameKind} {x : Str} : ∀ {binds : List (Str × Value)} {m : Str → Option Value}, (∀ v, (x, v) ∉ binds) → bindL kindOf binds m x = m x
  | [], _, _ => rfl
  | (n, v) :: r, m, h => by
    unfold bindL
    rw [bindL_out fun w hw => h w (List.mem_cons_of_mem _ hw)]
    split
    · have : x ≠ n := by rintro rfl; exact h v List.mem_cons_self
      simp [this]
    · rfl
theorem bindC_out {kindOf : Str → Option NameKind} {x : Str} : ∀ {binds : List (Str × Value)} {m : Str → Option Value}, (∀ v, (x, v) ∉ binds) → bindC kindOf binds m x = m x
  | [], _, _ => rfl
  | (n, v) :: r, m, h => by
    unfold bindC
    rw [bindC_out fun w hw => h w (List.mem_cons_of_mem _ hw)]
    split
    · rfl
    · have : x ≠ n := by rintro rfl; exact h v List.mem_cons_self
      simp [this]
theorem bindL_get {kindOf : Str → Option NameKind} {x : Str} {v : Value} : ∀ {P : List Str} {vs : List Value} {i : Nat} {m : Str → Option Value}, P.Nodup → P[i]? = some x → vs[i]? = some v → kindOf x = some .local →
    bindL kindOf (P.zip vs) m x = some v
  | [], _, _, _, _, h, _, _ => by simp at h
  | _ :: _, [], _, _, _, _, h, _ => by simp at h
  | p :: P, w :: vs, 0, m, nd, h1, h2, hk => by
    simp at h1 h2; subst h1; subst h2
    show bindL kindOf ((p, w) :: P.zip vs) m p = _
    unfold bindL
    rw [bindL_out fun v hv => (List.nodup_cons.mp nd).1 (List.of_mem_zip hv).1, if_pos hk]
    simp
  | p :: P, w :: vs, i + 1, m, nd, h1, h2, hk => by
    show bindL kindOf ((p, w) :: P.zip vs) m x = _
    unfold bindL
    exact bindL_get (i := i) (List.nodup_cons.mp nd).2 (by simpa using h1) (by simpa using h2) hk
theorem bindC_get {kindOf : Str → Option NameKind} {x : Str} {v : Value} : ∀ {P : List Str} {vs : List Value} {i : Nat} {m : Str → Option Value}, P.Nodup → P[i]? = some x → vs[i]? = some v → kindOf x ≠ some .local →
    bindC kindOf (P.zip vs) m x = some v
  | [], _, _, _, _, h, _, _ => by simp at h
  | _ :: _, [], _, _, _, _, h, _ => by simp at h
  | p :: P, w :: vs, 0, m, nd, h1, h2, hk => by
    simp at h1 h2; subst h1; subst h2
    show bindC kindOf ((p, w) :: P.zip vs) m p = _
    unfold bindC
    rw [bindC_out fun v hv => (List.nodup_cons.mp nd).1 (List.of_mem_zip hv).1, if_neg hk]
    simp
  | p :: P, w :: vs, i + 1, m, nd, h1, h2, hk => by
    show bindC kindOf ((p, w) :: P.zip vs) m x = _
    unfold bindC
    exact bindC_get (i := i) (List.nodup_cons.mp nd).2 (by simpa using h1) (by simpa using h2) hk

noncomputable def start (N : List Str) (vs : List V) : St := vs.map some ++ List.replicate (N.length - vs.length) none

noncomputable def cxOf (CX : CXT) (P : Program) (w : World) (K : PySem.W.Frag) (mg : Str → Option Value) (base : Heap) (N : List Str) (qual : Str) (scope : Scope) (f : Addr) (cd : Value) (A : Around) (outer : List Env) (s : Shared) (H : Hp) (E : XK) : Cx where
  prog := P
  w := w
  K := K
  mg := mg
  base := base
  A := A.deeper (envOfC qual scope s.heap.objs.size f cd)
  N := N
  s₀ := s
  H₀ := H
  env := envOfC qual scope s.heap.objs.size f cd
  outer := outer
  stack := envOfC qual scope s.heap.objs.size f cd :: outer
  ex := []
  calm := true
  fn := fun _ => true
  pn := []
  xe := fun e s' => wpAny (model P w) (A.deeper (envOfC qual scope s.heap.objs.size f cd)) (leaving (envOfC qual scope s.heap.objs.size f cd) e) (fun _ s'' => CX outer H s E e s'') (fun e' s'' => CX outer H s E e' s'') s'

theorem cell_has {sc : Scope} {n : Nat} {x : Str} (h : sc.names.lookup x = some .cell) : ∃ c, (cellsFrom n sc.names []).lookup x = some c := by
  have q := PySem.W.cellsFrom_some sc.names n [] (.inl h)
  exact Option.isSome_iff_exists.mp q

theorem inv_start {CX : CXT} {P : Program} {w : World} {K : PySem.W.Frag} {mg : Str → Option Value} {base : Heap} {N ps : List Str} {qual : Str} {scope : Scope} {f : Addr} {cd : Value} {A : Around} {outer : List Env} {s s1 : Shared} {H : Hp} {E : XK} {us : List Value} {vs : List V}
    (S : FnScope N ps scope) (hd : A.handled = none) (e0 : Env0 P w K mg base A outer s H) (hl : vs.length = ps.length) (r : Vals vs us)
    (x : InCallC s s.heap.objs.size (bindL (envOfC qual scope s.heap.objs.size f cd).kindOf (ps.zip us) fun _ => none) (cellsFrom (s.heap.objs.size + 1) scope.names []) (bindC (envOfC qual scope s.heap.objs.size f cd).kindOf (ps.zip us) fun _ => none) s1) :
    Inv (cxOf CX P w K mg base N qual scope f cd A outer s H E) [] (start N vs) H s1 := by
  have hpl : ps.length ≤ N.length := by have := congrArg List.length S.pre; rw [List.length_take] at this; omega
  obtain ⟨h1, tk, rfl, hk⟩ := x.done
  have noA : ∀ b : Addr, b ∉ (cxOf CX P w K mg base N qual scope f cd A outer s H E).ex := fun b z => absurd (show b ∈ ([] : List Addr) from z) (by simp)
  refine ⟨⟨e0.mod, S.kind, rfl, rfl, Nat.le_refl _, fun y z c h1 h2 => ?_, fun y hy => ?_, fun y c _ h => ?_, fun _ => hd, Around.frames_deeper e0.frames, .inr ⟨rfl, rfl⟩, fun b z => absurd z (noA b), e0.bs, e0.bsz, fun b _ _ => noA b, fun b z => absurd z (noA b), e0.funs, e0.frf⟩,
    rfl, e0.bare, Un.kept hk, ⟨_, x.toInCall.ns, fun i y v h1 h2 h3 => ?_⟩, fun y c h => ⟨_, x.cell y c h⟩, e0.hok.fresh (Nat.le_refl _), fun y c h => ?_, fun p hp => absurd (show p ∈ ([] : List (Addr × Obj)) from hp) (by simp), e0.hok.kept hk, ?_⟩
  · exact name_of_addr x.apart (PySem.mem_of_lookup h1) (PySem.mem_of_lookup h2)
  · have hy : scope.names.lookup y = some .cell ∨ scope.names.lookup y = some .free := hy
    rcases hy with hy | hy
    · exact cell_has hy
    · exact absurd rfl (S.nofree _ (PySem.mem_of_lookup hy))
  · exact Nat.le_of_lt (x.above y c (PySem.mem_of_lookup h))
  · have hi : i < vs.length := by
      unfold start at h2
      by_cases hi : i < vs.length
      · exact hi
      · rw [List.getElem?_append_right (by simpa using hi)] at h2
        rw [List.getElem?_replicate] at h2
        split at h2 <;> cases h2
    have ha : vs[i]? = some v := by
      unfold start at h2
      rw [List.getElem?_append_left (by simpa using hi), List.getElem?_map] at h2
      cases e : vs[i]? with
      | none => rw [e] at h2; cases h2
      | some a => rw [e] at h2; cases h2; rfl
    obtain ⟨u, hu, rv⟩ := r.get ha
    have hp : ps[i]? = some y := by
      rw [← S.pre, List.getElem?_take_of_lt (by omega)]; exact h1
    have ndP : ps.Nodup := by rw [← S.pre]; exact S.nd.sublist (List.take_sublist _ _)
    refine ⟨u, rv, ?_⟩
    rcases S.par y (List.mem_of_getElem? hp) with k | k
    · exact .inl ⟨k, bindL_get ndP hp hu k⟩
    · obtain ⟨c, e⟩ := cell_has (n := s.heap.objs.size + 1) k
      refine .inr ⟨.inl k, c, e, ?_⟩
      have q := x.cell y c e
      rw [bindC_get ndP hp hu (by show scope.names.lookup y ≠ _; rw [k]; decide)] at q
      exact q
  · exact e0.hok.fresh (Nat.le_of_lt (x.above y c (PySem.mem_of_lookup h)))
  · unfold start
    show _ = N.length
    rw [List.length_append, List.length_map, List.length_replicate]
    omega

theorem fn_of {CX : CXT} {P : Program} {w : World} {K : PySem.W.Frag} {mg : Str → Option Value} {base : Heap} {k : Nat} {f : Addr} {name qual : Str} {params : Arguments} {body : List Stmt} {scope : Scope} {dV kV doc pm cdv ct oc : Value} {an od : Option Addr}
    {osl : Array (Option Value)} {N ps : List Str} {sp : Sp} (lk : K.lookup f = some ⟨oc, od, .func (PySem.W.fnOf name qual params body scope dV kV doc pm an cdv ct), osl⟩) (hcd : PySem.W.codeIn K cdv qual = true) (S : FnScope N ps scope)
    (len : ∀ vs H Q E, sp vs H Q E → vs.length = ps.length)
    (hbody : ∀ (A : Around) (outer : List Env) (s : Shared) (H : Hp) (vs : List V) (Q : VK) (E : XK), Room k (A.deeper (envOfC qual scope s.heap.objs.size f cdv)) → sp vs H Q E →
      ∃ t, PSs (cxOf CX P w K mg base N qual scope f cdv A outer s H E) body t ∧ t { nx := fun _ H' => Q .non H', rt := Q } (start N vs) H) :
    FnOk P w K mg base CX (k + 1) f (PySem.W.fnOf name qual params body scope dV kV doc pm an cdv ct) ps sp := by
  refine ⟨len, fun A outer s H args us vs Q E hr e0 hb r hsp => ?_⟩
  have hl := len _ _ _ _ hsp
  have KX : K.In s.heap := e0.mod.kin.keeps fun b o e => (e0.bs b o e).1
  have lim : s.heap.NoLimit := e0.mod.nolimit.keeps fun b o e => (e0.bs b o e).1
  have hkind : ∀ y ∈ ps.zip us, scope.names.lookup y.1 = some .local ∨ (scope.names.lookup y.1 = some .cell ∧ ((cellsFrom (s.heap.objs.size + 1) scope.names []).lookup y.1).isSome = true) := fun ⟨n, v⟩ hy => by
    rcases S.par n (List.of_mem_zip hy).1 with q | q
    · exact .inl q
    · exact .inr ⟨q, PySem.W.cellsFrom_some _ _ _ (.inl q)⟩
  refine codeAny_call_function hr.depth (KX _ _ lk) rfl S.co S.gen rfl (PySem.W.codeRec_of KX hcd) (hb _ _ _ _ ?_)
  refine wpAny_newFunctionEnv_cells S.kind hkind fun env he s1 x => ?_
  subst he
  refine ⟨lim.keeps x.toInCall.keep, codeAny_func ?_⟩
  obtain ⟨t, ht, hq⟩ := hbody A outer s H vs Q E (hr.deeper _) hsp
  have I : Inv (cxOf CX P w K mg base N qual scope f cdv A outer s H E) [] (start N vs) H s1 := inv_start S hr.hd e0 hl r x
  refine wpAny_mono (ht [] s1 (start N vs) H _ I hq) (fun fl s' hs => ?_) fun e s' hs => hs
  have fin : ∀ {σ' : St} {H' : Hp} {v : V} {u : Value}, Inv (cxOf CX P w K mg base N qual scope f cdv A outer s H E) [] σ' H' s' → RelV v u → Q v H' → CE outer P w H s Q u s' :=
    fun {σ' H' v u} J rv q => ⟨v, H', J.os, J.bare, J.base, J.hok, rv, q⟩
  cases fl with
  | ret u =>
    obtain ⟨v, σ', H', J, rv, q⟩ := hs
    exact fin J rv q
  | next =>
    obtain ⟨σ', H', J, q⟩ := hs
    exact fin (v := V.non) (u := Value.none) J rfl q
  | brk =>
    obtain ⟨_, _, _, q⟩ := hs
    exact False.elim q
  | cont =>
    obtain ⟨_, _, _, q⟩ := hs
    exact False.elim q
end L2

namespace L2
open PySem PySem.Spec PyProof.Rows
section
variable {X : Cx} {x : Str} {p pos : Pos} {e : Expr} {es : List Expr} {t : TA} {id T : String} {r : List V → Hp → VK → Prop}

noncomputable def tCB (r : List V → Hp → VK → Prop) (t : TA) : TE := fun σ H Q => t σ H fun vs H1 => r vs H1 Q
theorem pe_callB (hc : CallR X (.builtin id) r) (hg : Gl X x) (hm : X.mg x = none) (hv : bootBuiltins x = some (.builtin id)) (ha : PA X (e :: es) t) (hn : x ≠ "__name__" := by decide) (hdb : (x == ("__debug__" : Str)) = false := by decide)
    (he : starEach (e :: es) X.env = (false, eval e X.env) :: starEach es X.env := by rfl) (hpl : (backTo pos (starEach es X.env)).any (·.1) = false := by rfl) : PE X (.Call (.Name x p) (e :: es) [] pos) (tCB r t) := by
  intro pins s σ H Q I h
  refine wpAny_Call_Name_kw (ld_blt I hg hm hv ?_ hn hdb)
  exact PyProof.Rows.callWith_builtin1 (thn (ha pos pins s σ H _ I h) fun us s1 ⟨vs, H1, I1, r1, q1⟩ => hc pins s1 σ H1 vs us Q I1 r1 q1) he hpl
theorem pe_callTy (hc : CallR X (.type T) r) (hg : Gl X x) (hm : X.mg x = none) (hv : bootBuiltins x = some (.type T)) (ha : PA X (e :: es) t) (hn : x ≠ "__name__" := by decide) (hdb : (x == ("__debug__" : Str)) = false := by decide)
    (he : starEach (e :: es) X.env = (false, eval e X.env) :: starEach es X.env := by rfl) (hpl : (backTo pos (starEach es X.env)).any (·.1) = false := by rfl) : PE X (.Call (.Name x p) (e :: es) [] pos) (tCB r t) := by
  intro pins s σ H Q I h
  refine wpAny_Call_Name_kw (ld_blt I hg hm hv ?_ hn hdb)
  exact PyProof.Rows.callWith_type1 (thn (ha pos pins s σ H _ I h) fun us s1 ⟨vs, H1, I1, r1, q1⟩ => hc pins s1 σ H1 vs us Q I1 r1 q1) he hpl
end
end L2

namespace HT
open PySem PyProof.Rows

section
open PySem.SeqAt
open PySem.AutoSeq1 (wpAny_loadPart')
open PySem.MeetsSeq PySem.MeetsSeq2 PySem.MeetsSeq3

end

section
variable {prog : Program} {w : World} {A : Around} {E : Value → Shared → Prop} {s : Shared}

theorem cat_tup {t b : Addr} {vs ws : List Value} {Q : Value → Shared → Prop} (ht : IsTup s.heap t vs.toArray) (hb : IsTup s.heap b ws.toArray) (hv : vs ≠ [])
    (h1 : ws = [] → Q (.ref t) s) (h2 : ws ≠ [] → Q (.ref s.heap.objs.size) { s with heap := s.heap.push { cls := .type "tuple", data := .seq (vs ++ ws).toArray } })
    (hsz : vs.length + ws.length ≤ sizeLine) : wpAny (model prog w) A (binaryOp .Add (.ref t) (.ref b)) Q E s := by
  obtain ⟨⟨cls, dd, data, sl⟩, ho, hc, n, hd⟩ := id ht
  obtain ⟨⟨cls2, dd2, data2, sl2⟩, ho2, hc2, n2, hd2⟩ := id hb
  simp only at hc hd hc2 hd2
  subst hc hd hc2 hd2
  have e : vs.toArray ++ ws.toArray = (vs ++ ws).toArray := by simp
  by_cases hw : ws = []
  · exact concat_meets ⟨_, ho, rfl⟩ ⟨_, ho2, rfl⟩ noFill_tuple_add seq_tuple_add PySem.F.slot_tuple_add PySem.F.entry_tuple_add (PySem.F.args_tuple_add_2 _ _)
      (tuple_addW1 t b vs.toArray ws.toArray n n2 dd dd2 sl sl2 (by simpa using hv) (by simp [hw])) ⟨ho, ho2, h1 hw⟩
  · refine concat_meets ⟨_, ho, rfl⟩ ⟨_, ho2, rfl⟩ noFill_tuple_add seq_tuple_add PySem.F.slot_tuple_add PySem.F.entry_tuple_add (PySem.F.args_tuple_add_2 _ _)
      (tuple_addW2 t b vs.toArray ws.toArray n n2 dd dd2 sl sl2 (by simpa using hv) (by simpa using hw) (by rw [List.size_toArray, List.size_toArray]; exact hsz)) ⟨ho, ho2, ?_⟩
    rw [e]
    exact h2 hw


noncomputable def sIx (n d : Nat) : Option Int → Nat
  | none => d
  | some v => if v < 0 then (v + (n : Int)).toNat else min v.toNat n
theorem sIx_le (n d : Nat) (hd : d ≤ n) (o : Option Int) : sIx n d o ≤ n := by
  cases o with
  | none => exact hd
  | some v =>
    show (if v < 0 then (v + (n : Int)).toNat else min v.toNat n) ≤ n
    by_cases hv : v < 0
    · rw [if_pos hv]; omega
    · rw [if_neg hv]; exact Nat.min_le_right _ _
theorem clip_eq (v : Int) (n d : Nat) : (if v < 0 then max (v + (n : Int)) 0 else min v (n : Int)) = ((sIx n d (some v) : Nat) : Int) := by
  show (if v < 0 then max (v + (n : Int)) 0 else min v (n : Int)) = (((if v < 0 then (v + (n : Int)).toNat else min v.toNat n) : Nat) : Int)
  by_cases hv : v < 0
  · simp only [if_pos hv]; omega
  · simp only [if_neg hv]; omega
theorem adjust_gen (lo hi : Option Int) (n : Nat) : Builtin.Slice.sliceAdjust lo hi 1 (n : Int) = (((sIx n 0 lo : Nat) : Int), ((sIx n n hi : Nat) : Int)) := by
  have h1 : ¬ ((1 : Int) < 0) := by omega
  unfold Builtin.Slice.sliceAdjust
  simp only [h1, if_false]
  refine Prod.ext ?_ ?_
  · cases lo with
    | none => rfl
    | some v => exact clip_eq v n 0
  · cases hi with
    | none => rfl
    | some v => exact clip_eq v n n
theorem places_gen (i j : Nat) : Builtin.Slice.slicePlaces (i : Int) (j : Int) 1 = j - i := by
  unfold Builtin.Slice.slicePlaces
  have h1 : (1 : Int) > 0 := by omega
  simp only [h1, if_true, Int.ediv_one]
  split <;> omega
theorem slicePart_ {v : Value} {o : Option Int} {Q : Option Int → Shared → Prop} (p : IsPart v o) (h : Q o s) : wpAny (model prog w) A (Builtin.Slice.slicePartIndex v) Q E s := by
  cases p with
  | none => exact slicePart_none h
  | int i t => exact slicePart_int h
theorem sliceApplied_gen {sl : Addr} {vl vu : Value} {lo hi : Option Int} {n : Nat} {Q : Int × Int × Nat → Shared → Prop} (hs : s.heap.IsSliceOf sl vl vu .none) (pl : IsPart vl lo) (pu : IsPart vu hi)
    (h : Q (((sIx n 0 lo : Nat) : Int), 1, sIx n n hi - sIx n 0 lo) s) : wpAny (model prog w) A (Builtin.Slice.sliceApplied (.ref sl) (pure (n : Int))) Q E s := by
  obtain ⟨os, hos, hcs, hds⟩ := id hs
  unfold Builtin.Slice.sliceApplied Builtin.Slice.sliceFields
  refine wpAny_bind (wpAny_bind (wpAny_field hos hds (x := vl) rfl (wpAny_bind (wpAny_field hos hds (x := vu) rfl (wpAny_bind (wpAny_field hos hds (x := .none) rfl (wpAny_pure ?_)))))))
  refine wpAny_bind (slicePart_none ?_)
  show wpAny _ _ (if ((1 : Int) == 0) = true then _ else _) _ _ s
  rw [if_neg (by decide)]
  refine wpAny_bind (slicePart_ pl (wpAny_bind (slicePart_ pu (wpAny_bind (wpAny_pure ?_)))))
  show wpAny _ _ (match Builtin.Slice.sliceAdjust lo hi 1 (n : Int) with | (lo, hi) => pure (lo, (1 : Int), Builtin.Slice.slicePlaces lo hi 1)) _ _ s
  rw [adjust_gen lo hi n]
  show wpAny _ _ (pure (((sIx n 0 lo : Nat) : Int), (1 : Int), Builtin.Slice.slicePlaces ((sIx n 0 lo : Nat) : Int) ((sIx n n hi : Nat) : Int) 1)) _ _ s
  rw [places_gen]
  exact wpAny_pure h
theorem pick_gen (xs : Array Value) (i k : Nat) : ((List.range k).filterMap fun (m : Nat) => xs[((i : Int) + (m : Int) * 1).toNat]?).toArray = ((xs.toList.drop i).take k).toArray := by
  have e : (fun (m : Nat) => xs[((i : Int) + (m : Int) * 1).toNat]?) = fun m => xs[i + m]? := by
    funext m
    have : ((i : Int) + (m : Int) * 1).toNat = i + m := by omega
    rw [this]
  rw [e]
  have := pick_run xs i k
  rw [List.filterMap_map] at this
  have e2 : ((fun x => xs[x]?) ∘ fun x => i + x) = fun m => xs[i + m]? := rfl
  rw [e2] at this
  rw [this]

theorem getItem_tuple_cut {t sl : Addr} {items : Array Value} {vl vu : Value} {lo hi : Option Int} {Q : Value → Shared → Prop} (ht : IsTup s.heap t items) (hs : s.heap.IsSliceOf sl vl vu .none) (pl : IsPart vl lo) (pu : IsPart vu hi)
    (hw : ¬ (sIx items.size 0 lo = 0 ∧ sIx items.size items.size hi = items.size))
    (h : Q (.ref s.heap.objs.size) { s with heap := s.heap.push { cls := .type "tuple", data := .seq ((items.toList.drop (sIx items.size 0 lo)).take (sIx items.size items.size hi - sIx items.size 0 lo)).toArray } })
    (hsz : items.size ≤ sizeLine) : wpAny (model prog w) A (getItem (.ref t) (.ref sl)) Q E s := by
  have htake : sizeOk (.seq ((items.toList.drop (sIx items.size 0 lo)).take (sIx items.size items.size hi - sIx items.size 0 lo)).toArray) := by
    show ((items.toList.drop (sIx items.size 0 lo)).take (sIx items.size items.size hi - sIx items.size 0 lo)).toArray.size ≤ sizeLine
    rw [List.size_toArray, List.length_take, List.length_drop, Array.length_toList]
    omega
  have hj : sIx items.size items.size hi ≤ items.size := sIx_le _ _ (Nat.le_refl _) hi
  obtain ⟨os, hos, hcs, hds⟩ := id hs
  have hTs : s.TypeIs (.ref sl) "slice" := ⟨os, hos, hcs⟩
  unfold getItem
  try with_reducible refine wpAny_holding ?_
  first | refine wpAny_bind (wpAny_pure ?_) | skip
  refine wpAny_bind (wpAny_sequenceKey ht.typeIs (by decide) ?_)
  refine wpAny_bind (wpAny_callSpecial?_slot (name := Str.ofString "__getitem__") ht.typeIs PyProof.Rows.slot_tuple_getitem
    (wpAny_call_entry PyProof.Rows.slot_tuple_getitem ht.typeIs entry_tuple_getitem ?_ (args_tuple_getitem _ _)))
  show wpAny _ _ (Builtin.Tuple.tupleItemsOf (.ref t) >>= _) _ _ s
  refine wpAny_bind (tupleItemsOf_ ht ?_)
  refine wpAny_bind (wpAny_typeOf hTs ?_)
  rw [if_pos (by decide)]
  refine wpAny_bind (sliceApplied_gen hs pl pu ?_)
  have hno : ¬ ((((sIx items.size 0 lo : Nat) : Int) == 0 && (1 : Int) == 1 && (sIx items.size items.size hi - sIx items.size 0 lo) == items.size) = true) := by
    intro q
    rw [Bool.and_eq_true, Bool.and_eq_true] at q
    have q1 : ((sIx items.size 0 lo : Nat) : Int) = 0 := eq_of_beq q.1.1
    have q2 : sIx items.size items.size hi - sIx items.size 0 lo = items.size := eq_of_beq q.2
    exact hw ⟨by omega, by omega⟩
  show wpAny _ _ (if (((sIx items.size 0 lo : Nat) : Int) == 0 && (1 : Int) == 1 && (sIx items.size items.size hi - sIx items.size 0 lo) == items.size) = true then _ else _) _ _ s
  rw [if_neg hno, pick_gen]
  first
    | exact wpAny_bind (m := Builtin.Tuple.tupleExact _) (wpAny_newObj_type (wpAny_pure ⟨_, rfl, wpAny_pure h⟩) htake)
    | exact wpAny_bind (m := Builtin.Tuple.tupleExact _) (wpAny_newObj_type (wpAny_bind (wpAny_pure (wpAny_pure ⟨_, rfl, wpAny_pure h⟩))) htake)
    | exact wpAny_bind (wpAny_bind (m := Builtin.Tuple.tupleExact _) (wpAny_newObj_type (wpAny_pure (wpAny_pure ⟨_, rfl, wpAny_pure h⟩)) htake))
    | exact wpAny_bind (wpAny_bind (m := Builtin.Tuple.tupleExact _) (wpAny_newObj_type (wpAny_pure ⟨_, rfl, wpAny_pure h⟩) htake))
end
end HT

namespace L2
open PySem PySem.Spec PyProof.Rows


noncomputable abbrev TO := St → Hp → (Option Int → Hp → Prop) → Prop
noncomputable def PO (X : Cx) (e : Option Expr) (t : TO) : Prop :=
  ∀ (pins : List (Addr × Obj)) (s : Shared) (σ : St) (H : Hp) (Q : Option Int → Hp → Prop), Inv X pins σ H s → t σ H Q →
    wpAny (model X.prog X.w) X.A (evalPart e X.env) (fun u s' => ∃ o H', Inv X pins σ H' s' ∧ IsPart u o ∧ Q o H') X.xe s
noncomputable def tNoPart : TO := fun _ H Q => Q none H
noncomputable def tPart (t : TE) : TO := fun σ H Q => t σ H fun x H1 => ∃ i, x = .int i ∧ Q (some i) H1

section
variable {X : Cx} {e : Expr} {te : TE} {lo hi : Option Expr} {tl th : TO} {pos p2 : Pos}

theorem po_none : PO X none tNoPart := by
  intro pins s σ H Q I h
  rw [evalPart_none]
  exact wpAny_pure ⟨none, H, I, .none, h⟩
theorem po_some (h : PE X e te) : PO X (some e) (tPart te) := by
  intro pins s σ H Q I hw
  rw [evalPart_some]
  refine thn (h pins s σ H _ I hw) fun u s1 ⟨x, H1, I1, r1, q1⟩ => ?_
  obtain ⟨i, rfl, q⟩ := q1
  obtain ⟨t, rfl⟩ := r1
  exact ⟨some i, H1, I1, .int i t, q⟩

noncomputable def SlR (X : Cx) (r : V → Option Int → Option Int → Hp → VK → Prop) : Prop :=
  ∀ (pins : List (Addr × Obj)) (s : Shared) (σ : St) (H : Hp) (x : V) (v vl vu : Value) (lo hi : Option Int) (sl : Addr) (Q : VK), Inv X pins σ H s → RelV x v → s.heap.IsSliceOf sl vl vu .none → IsPart vl lo → IsPart vu hi → r x lo hi H Q →
    ∃ T id, typeLookup (.type T) "__getitem__" = pure (some (.builtin id)) ∧ s.TypeIs v T ∧ wpAny (model X.prog X.w) X.A (getItem v (.ref sl)) (EP X pins σ Q) X.xe s
noncomputable def tSl (r : V → Option Int → Option Int → Hp → VK → Prop) (te : TE) (tl th : TO) : TE := fun σ H Q => te σ H fun x H1 => tl σ H1 fun l H2 => th σ H2 fun u H3 => r x l u H3 Q
theorem pe_slice {r : V → Option Int → Option Int → Hp → VK → Prop} (hr : SlR X r) (he : PE X e te) (hl : PO X lo tl) (hu : PO X hi th) : PE X (.Subscript e (.Slice lo hi none p2) pos) (tSl r te tl th) := by
  intro pins s σ H Q I h
  refine Subscript_ (thn (he pins s σ H _ I h) fun v s1 ⟨x, H1, I1, r1, q1⟩ => ?_)
  refine wpAny_Slice (thn (hl pins s1 σ H1 _ I1 q1) fun vl s2 ⟨l, H2, I2, pl, q2⟩ => thn (hu pins s2 σ H2 _ I2 q2) fun vu s3 ⟨u, H3, I3, pu, q3⟩ => ?_)
  rw [evalPart_none]
  refine wpAny_pure ?_
  have I4 : Inv X pins σ H3 { s3 with heap := s3.heap.push { cls := .type "slice", data := .fields #[vl, vu, .none] } } := I3.kept (t' := s3.toks) fun b ob q => Heap.get?_push_of_some _ q
  obtain ⟨T, id, hT, ht, hg⟩ := hr pins { s3 with heap := s3.heap.push { cls := .type "slice", data := .fields #[vl, vu, .none] } } σ H3 x v vl vu l u s3.heap.objs.size Q I4 r1 (Heap.IsSliceOf.new ..) pl pu q3
  show wpAny (model X.prog X.w) X.A (subscriptTail e (.Slice lo hi none p2) v (.ref s3.heap.objs.size)) (EP X pins σ Q) X.xe { s3 with heap := s3.heap.push { cls := .type "slice", data := .fields #[vl, vu, .none] } }
  exact tail_any (ops := [.ref s3.heap.objs.size, v]) ht hT hg (by with_unfolding_all rfl)

noncomputable def cutV (xs : List V) (lo hi : Option Int) : List V := (xs.drop (HT.sIx xs.length 0 lo)).take (HT.sIx xs.length xs.length hi - HT.sIx xs.length 0 lo)
theorem cutV_length (xs : List V) (lo hi : Option Int) : (cutV xs lo hi).length ≤ xs.length := by
  unfold cutV
  rw [List.length_take, List.length_drop]
  omega
noncomputable def rSlT (K : PySem.W.Frag) : V → Option Int → Option Int → Hp → VK → Prop := fun x lo hi H Q => ∃ a xs, x = .ref a ∧ SqT K H a xs ∧
  ¬ (HT.sIx xs.length 0 lo = 0 ∧ HT.sIx xs.length xs.length hi = xs.length) ∧ ∀ p, H p = none → Q (.ref p) (upd H p (.tup (cutV xs lo hi)))
theorem sl_tup : SlR X (rSlT X.K) := by
  intro pins s σ H x v vl vu lo hi sl Q I rx hs pl pu h
  obtain ⟨a, xs, rfl, hx, hw, q⟩ := h
  cases rx
  obtain ⟨its, r, ht, hz⟩ := I.tuple hx
  have hlen : its.toArray.size = xs.length := by rw [List.size_toArray]; exact r.length.symm
  refine ⟨"tuple", _, PyProof.Rows.slot_tuple_getitem.lookup, ht.typeIs, ?_⟩
  refine HT.getItem_tuple_cut ht hs pl pu (by rw [hlen]; exact hw) ?_ (by rw [hlen]; exact hz)
  rw [hlen]
  refine ⟨.ref s.heap.objs.size, _, I.laid (t' := s.toks) (o := .tup (cutV xs lo hi)) (fun b ob q => Heap.get?_push_of_some _ q) (Nat.le_refl _) ?_, rfl, q _ (I.hok.fresh (Nat.le_refl _))⟩
  exact ⟨Nat.le_trans (cutV_length xs lo hi) hz, _, (r.drop (HT.sIx xs.length 0 lo)).take (HT.sIx xs.length xs.length hi - HT.sIx xs.length 0 lo), IsTup.new _ _⟩


noncomputable def rCatT (K : PySem.W.Frag) : R2 := fun x y H Q => ∃ a b xs ys, x = .ref a ∧ y = .ref b ∧ SqT K H a xs ∧ SqT K H b ys ∧ xs ≠ [] ∧ xs.length + ys.length ≤ sizeLine ∧
  (ys = [] → Q (.ref a) H) ∧ (ys ≠ [] → ∀ p, H p = none → Q (.ref p) (upd H p (.tup (xs ++ ys))))
theorem Vals.nil_iff {xs : List V} {us : List Value} (r : Vals xs us) : us = [] ↔ xs = [] := by
  cases r with
  | nil => simp
  | cons _ _ => simp
theorem op_catT : OpR X (binaryOp .Add) (rCatT X.K) := by
  intro pins s σ H x y v u Q I rx ry h
  obtain ⟨a, b, xs, ys, rfl, rfl, ha, hb, hx, hz, q1, q2⟩ := h
  cases rx
  cases ry
  obtain ⟨its, r1, p1, _⟩ := I.tuple ha
  obtain ⟨its2, r2, p2, _⟩ := I.tuple hb
  refine HT.cat_tup p1 p2 (fun z => hx (r1.nil_iff.mp z)) (fun z => ⟨.ref a, H, I, rfl, q1 (r2.nil_iff.mp z)⟩) (fun z => ?_) (by rw [← r1.length, ← r2.length]; exact hz)
  refine ⟨.ref s.heap.objs.size, _, I.laid (t' := s.toks) (o := .tup (xs ++ ys)) (fun b ob q => Heap.get?_push_of_some _ q) (Nat.le_refl _) ?_, rfl, q2 (fun w => z (r2.nil_iff.mpr w)) _ (I.hok.fresh (Nat.le_refl _))⟩
  exact ⟨by rw [List.length_append]; exact hz, _, r1.append r2, IsTup.new _ _⟩
end
end L2

namespace L2
open PySem PySem.Spec PyProof.Rows


noncomputable def ixN (n : Nat) (i : Int) : Option Nat := if 0 ≤ i then (if i < n then some i.toNat else none) else if -(n : Int) ≤ i then some (i + n).toNat else none
noncomputable def atI {α : Type} (xs : List α) (i : Int) : Option α := (ixN xs.length i).bind fun j => xs[j]?
theorem ixN_seq {n : Nat} {i : Int} {j : Nat} (h : ixN n i = some j) : seqIndex? i n = some j ∧ j < n ∧ -(n : Int) ≤ i ∧ i < n := by
  unfold ixN at h
  by_cases h0 : 0 ≤ i
  · rw [if_pos h0] at h
    by_cases h1 : i < n
    · rw [if_pos h1] at h
      have e : i.toNat = j := Option.some.inj h
      exact ⟨by rw [seqIndex_of h0 h1, e], by omega, by omega, h1⟩
    · rw [if_neg h1] at h; cases h
  · rw [if_neg h0] at h
    by_cases h1 : -(n : Int) ≤ i
    · rw [if_pos h1] at h
      have e : (i + n).toNat = j := Option.some.inj h
      exact ⟨by rw [seqIndex_neg (by omega) h1, e], by omega, h1, by omega⟩
    · rw [if_neg h1] at h; cases h
theorem atI_get {α : Type} {xs : List α} {i : Int} {v : α} (h : atI xs i = some v) : ∃ j, seqIndex? i xs.length = some j ∧ xs[j]? = some v ∧ j < xs.length ∧ -(xs.length : Int) ≤ i ∧ i < xs.length := by
  unfold atI at h
  cases e : ixN xs.length i with
  | none => rw [e] at h; cases h
  | some j =>
    rw [e] at h
    obtain ⟨h1, h2, h3, h4⟩ := ixN_seq e
    exact ⟨j, h1, h, h2, h3, h4⟩

noncomputable def PlainIx (b : Expr) : Prop := ∀ o i, subscripted b false o i = operate [o, i] (getItem o i)
noncomputable def IxR (X : Cx) (r : R2) : Prop :=
  ∀ (value slice : Expr) (pins : List (Addr × Obj)) (s : Shared) (σ : St) (H : Hp) (x y : V) (v u : Value) (Q : VK), Inv X pins σ H s → RelV x v → RelV y u → r x y H Q →
    subscripted slice false v u = operate [v, u] (getItem v u) → wpAny (model X.prog X.w) X.A (subscriptTail value slice v u) (EP X pins σ Q) X.xe s
noncomputable def MtR (X : Cx) (id : String) (r : V → List V → Hp → VK → Prop) : Prop :=
  ∀ (pins : List (Addr × Obj)) (s : Shared) (σ : St) (H : Hp) (x : V) (xs : List V) (v : Value) (us : List Value) (Q : VK), Inv X pins σ H s → RelV x v → Vals xs us → r x xs H Q →
    wpAny (model X.prog X.w) X.A (call (.builtin id) (v :: us)) (EP X pins σ Q) X.xe s
section
variable {X : Cx} {a b : Expr} {ta tb : TE} {pos : Pos}
theorem pe_ix {r : R2} (hr : IxR X r) (ha : PE X a ta) (hb : PE X b tb) (hs : PlainIx b) : PE X (.Subscript a b pos) (tOp r ta tb) := by
  intro pins s σ H Q I h
  exact Subscript_ (binT ha hb I h fun v u s2 x y H2 I2 rx ry q => hr a b pins s2 σ H2 x y v u Q I2 rx ry q (hs _ _))

noncomputable def rIxL (K : PySem.W.Frag) : R2 := fun x y H Q => ∃ p xs i v, x = .ref p ∧ y = .int i ∧ SqL K H p xs ∧ atI xs i = some v ∧ Q v H
noncomputable def rIxT (K : PySem.W.Frag) : R2 := fun x y H Q => ∃ p xs i v, x = .ref p ∧ y = .int i ∧ SqT K H p xs ∧ atI xs i = some v ∧ Q v H
noncomputable def rIxS : R2 := fun x y H Q => ∃ z i c, x = .str z ∧ y = .int i ∧ z.length ≤ sizeLine ∧ atI z.cps.toList i = some c ∧ Q (.str ⟨#[c]⟩) H
theorem ix_list : IxR X (rIxL X.K) := by
  intro value slice pins s σ H x y v u Q I rx ry h hs
  obtain ⟨p, xs, i, z, rfl, rfl, hq, he, q⟩ := h
  cases rx
  obtain ⟨t, rfl⟩ := ry
  obtain ⟨its, r, pl, hz⟩ := I.list hq
  obtain ⟨j, h1, h2, h3, h4, h5⟩ := atI_get he
  obtain ⟨w, ew, rw'⟩ := r.get h2
  have hl := r.length
  have hn := line63
  have fin : EP X pins σ Q w s := ⟨z, H, I, rw', q⟩
  by_cases h0 : 0 ≤ i
  · have hj : i.toNat = j := by
      rw [seqIndex_of h0 h5] at h1
      exact Option.some.inj h1
    exact item_listR pl.isList h0 (by omega) (by rw [hj]; simpa using ew) fin hs
  · have hj : (i + (its.toArray.size : Int)).toNat = j := by
      rw [seqIndex_neg (by omega) h4] at h1
      rw [List.size_toArray, ← hl]
      exact Option.some.inj h1
    exact subscriptTail_builtinR (x := w) pl.isList.typeIs slot_list_getitem.lookup
      (wpAny_getItem_list_neg (Q := fun r s' => r = w ∧ EP X pins σ Q r s') pl.isList (by omega) (by rw [List.size_toArray] <;> omega) (by omega) (by rw [hj]; simpa using ew) ⟨rfl, fin⟩) hs
theorem ix_tup : IxR X (rIxT X.K) := by
  intro value slice pins s σ H x y v u Q I rx ry h hs
  obtain ⟨p, xs, i, z, rfl, rfl, hq, he, q⟩ := h
  cases rx
  obtain ⟨t, rfl⟩ := ry
  obtain ⟨its, r, pl, hz⟩ := I.tuple hq
  obtain ⟨j, h1, h2, h3, h4, h5⟩ := atI_get he
  obtain ⟨w, ew, rw'⟩ := r.get h2
  have hl := r.length
  have hn := line63
  have fin : EP X pins σ Q w s := ⟨z, H, I, rw', q⟩
  exact subscriptTail_builtinR (x := w) pl.typeIs slot_tuple_getitem.lookup
    (getItem_tuple (j := j) (Q := fun r s' => r = w ∧ EP X pins σ Q r s') pl (by omega) (by omega) (by rw [List.size_toArray, ← hl]; exact h1) (by simpa using ew) ⟨rfl, fin⟩) hs
theorem ix_str : IxR X rIxS := by
  intro value slice pins s σ H x y v u Q I rx ry h hs
  obtain ⟨z, i, c, rfl, rfl, hz, he, q⟩ := h
  obtain ⟨t, rfl⟩ := rx
  obtain ⟨t', rfl⟩ := ry
  obtain ⟨j, h1, h2, h3, h4, h5⟩ := atI_get he
  have hl : z.cps.toList.length = z.length := by simp [Str.length]
  rw [hl] at h1 h4 h5
  have hn := line63
  exact tail_any (typeIs_str s z t) slot_str_getitem.lookup (getItem_str (c := c) (by
    have e1 : decide (i < -(2 ^ 63 : Int)) = false := decide_eq_false (by omega)
    have e2 : decide (i ≥ 2 ^ 63) = false := decide_eq_false (by omega)
    rw [e1, e2, Bool.or_false]) (by rw [h1]; simpa using h2) ⟨.str ⟨#[c]⟩, H, I.tok _, ⟨_, rfl⟩, q⟩) hs

theorem mapSeq_set (its : List Value) (n j : Nat) (u : Value) : Obj.mapSeq (·.setIfInBounds j u) { cls := .type "list", data := .seq its.toArray n } = { cls := .type "list", data := .seq (its.set j u).toArray n } := by
  simp [Obj.mapSeq]
theorem Inv.lst {pins : List (Addr × Obj)} {σ : St} {H : Hp} {s : Shared} {p : Addr} {xs : List V} (I : Inv X pins σ H s) (h : H p = some (.lst xs)) :
    ∃ (its : List Value) (n : Nat), Vals xs its ∧ s.heap.get? p = some { cls := .type "list", data := .seq its.toArray n } ∧ xs.length ≤ sizeLine := by
  obtain ⟨z, its, n, r, e⟩ := I.hok p _ h
  exact ⟨its, n, r, e, z⟩
theorem Inv.lstUpd {pins : List (Addr × Obj)} {σ : St} {H : Hp} {s : Shared} {p : Addr} {xs ys : List V} {its its' : List Value} {n n' : Nat} {f : Obj → Obj} (I : Inv X pins σ H s) (h : H p = some (.lst xs))
    (ho : s.heap.get? p = some { cls := .type "list", data := .seq its.toArray n }) (hf : f { cls := .type "list", data := .seq its.toArray n } = { cls := .type "list", data := .seq its'.toArray n' }) (r : Vals ys its') (hz : ys.length ≤ sizeLine) (t : Nat) :
    Inv X pins σ (upd H p (.lst ys)) { s with heap := s.heap.update p f, toks := t } := by
  have e : (s.heap.update p f).get? p = some { cls := .type "list", data := .seq its'.toArray n' } := by
    rw [Heap.get?_update_self f ho (by rw [hf] <;> rfl), hf]
  refine I.write (x := p) (e := p) (by rw [h]; trivial) (.inl rfl) (fun b u hb q => (Heap.get?_update_other _ _ (Ne.symm hb)).trans q) ⟨_, e⟩ ?_
  exact ⟨hz, its', n', r, e⟩
noncomputable def rSetL : V → V → V → Hp → (Hp → Prop) → Prop := fun o i v H Q => ∃ p xs k j, o = .ref p ∧ i = .int k ∧ H p = some (.lst xs) ∧ ixN xs.length k = some j ∧ Q (upd H p (.lst (xs.set j v)))
theorem set_list : PSet X rSetL := by
  intro pins s σ H o i v ov iv u Q I ro ri rv h
  obtain ⟨p, xs, k, j, rfl, rfl, hp, hj, q⟩ := h
  cases ro
  obtain ⟨t, rfl⟩ := ri
  obtain ⟨its, n, r, ho, hz⟩ := I.lst hp
  obtain ⟨h1, h2, h3, h4⟩ := ixN_seq hj
  have hl := r.length
  have hn := line63
  have I' : Inv X pins σ (upd H p (.lst (xs.set j v))) { s with heap := s.heap.update p (Obj.mapSeq (·.setIfInBounds j u)) } :=
    I.lstUpd hp ho (mapSeq_set its n j u) (r.set rv j) (by rw [List.length_set]; exact hz) s.toks
  by_cases h0 : 0 ≤ k
  · have hk : k.toNat = j := by
      rw [seqIndex_of h0 h4] at h1
      exact Option.some.inj h1
    exact PySem.W.ki_setAt ho h0 (by omega) (by rw [List.size_toArray, ← hl]; exact h4) (by rw [hk]; exact ⟨_, I', q⟩)
  · have hk : (k + (its.toArray.size : Int)).toNat = j := by
      rw [seqIndex_neg (by omega) h3] at h1
      rw [List.size_toArray, ← hl]
      exact Option.some.inj h1
    exact PySem.W.ki_setBack ho (by omega) (by rw [List.size_toArray, ← hl]; exact h3) (by omega) (by rw [hk]; exact ⟨_, I', q⟩)


theorem slice_bounds (lo hi : Option Int) (n : Nat) : (sliceBounds lo hi none n).1 = ((HT.sIx n 0 lo : Nat) : Int) ∧ (sliceBounds lo hi none n).2.1 = ((HT.sIx n n hi : Nat) : Int) ∧ (sliceBounds lo hi none n).2.2 = 1 := by
  refine ⟨?_, ?_, rfl⟩
  · cases lo with
    | none => simp [sliceBounds, HT.sIx]
    | some i =>
      simp only [sliceBounds, HT.sIx, Option.getD_none, show (1 : Int) > 0 by decide, if_true]
      by_cases h : i < 0
      · simp only [h, if_true] <;> omega
      · simp only [h, if_false] <;> omega
  · cases hi with
    | none => simp [sliceBounds, HT.sIx]
    | some i =>
      simp only [sliceBounds, HT.sIx, Option.getD_none, show (1 : Int) > 0 by decide, if_true]
      by_cases h : i < 0
      · simp only [h, if_true] <;> omega
      · simp only [h, if_false] <;> omega
theorem slicePick_cut (its : List Value) (lo hi : Option Int) : slicePick its.toArray lo hi none = ((its.drop (HT.sIx its.length 0 lo)).take (HT.sIx its.length its.length hi - HT.sIx its.length 0 lo)).toArray := by
  obtain ⟨h1, h2, h3⟩ := slice_bounds lo hi its.toArray.size
  unfold slicePick
  rw [h1, h2, h3]
  simp only [sliceRange_one, pick_run, List.size_toArray] <;> rfl
noncomputable def rSlL (K : PySem.W.Frag) : V → Option Int → Option Int → Hp → VK → Prop := fun x lo hi H Q => ∃ a xs, x = .ref a ∧ SqL K H a xs ∧ ∀ p, H p = none → Q (.ref p) (upd H p (.lst (cutV xs lo hi)))
theorem sl_list : SlR X (rSlL X.K) := by
  intro pins s σ H x v vl vu lo hi sl Q I rx hs pl pu h
  obtain ⟨a, xs, rfl, hx, q⟩ := h
  cases rx
  obtain ⟨its, r, ht, hz⟩ := I.list hx
  have hlen := r.length
  refine ⟨"list", _, slot_list_getitem.lookup, ht.isList.typeIs, ?_⟩
  refine wpAny_getItem_list_slice ht.isList hs pl pu .none (by simp) ?_ (by rw [List.size_toArray] <;> omega)
  rw [slicePick_cut, ← hlen]
  refine ⟨.ref s.heap.objs.size, _, I.laid (t' := s.toks) (o := .lst (cutV xs lo hi)) (fun b ob q => Heap.get?_push_of_some _ q) (Nat.le_refl _) ?_, rfl, q _ (I.hok.fresh (Nat.le_refl _))⟩
  exact ⟨Nat.le_trans (cutV_length xs lo hi) hz, _, 0, (r.drop (HT.sIx xs.length 0 lo)).take (HT.sIx xs.length xs.length hi - HT.sIx xs.length 0 lo), Heap.get?_push_size _ rfl⟩


theorem op_notIn_str : OpR X (compareOp .NotIn) (fun x y H Q => ∃ i j, x = .str i ∧ y = .str j ∧ Q (.bl (!(!(Builtin.Str.occurrences j i 0 j.length 1).isEmpty))) H) := by
  intro pins s σ H x y v u Q I rx ry h
  obtain ⟨i, j, rfl, rfl, q⟩ := h
  obtain ⟨t, rfl⟩ := rx
  obtain ⟨t', rfl⟩ := ry
  exact notIn_str ⟨.bl _, H, I, rfl, q⟩


theorem call_len_seq : CallR X (.builtin "len") (fun xs H Q => ∃ p ys, xs = [.ref p] ∧ (SqL X.K H p ys ∨ SqT X.K H p ys) ∧ Q (.int ys.length) H) := by
  intro pins s σ H xs us Q I r h
  obtain ⟨p, ys, rfl, hq, q⟩ := h
  obtain ⟨u, rfl, rx⟩ := vals1 r
  cases rx
  have hn := line63
  rcases hq with hq | hq
  · obtain ⟨its, r', pl, hz⟩ := I.list hq
    have hlen := r'.length
    exact Calls.call_len_list pl.isList (by simp only [List.size_toArray] <;> omega) ⟨.int ys.length, H, I.tok _, ⟨s.toks + 1, by rw [List.size_toArray, hlen]⟩, q⟩
  · obtain ⟨its, r', pl, hz⟩ := I.tuple hq
    have hlen := r'.length
    exact len_tuple pl (by simp only [List.size_toArray] <;> omega) ⟨.int ys.length, H, I.tok _, ⟨s.toks + 1, by rw [List.size_toArray, hlen]⟩, q⟩
theorem call_len_str : CallR X (.builtin "len") (fun xs H Q => ∃ z, xs = [.str z] ∧ z.length ≤ sizeLine ∧ Q (.int z.length) H) := by
  intro pins s σ H xs us Q I r h
  obtain ⟨z, rfl, hz, q⟩ := h
  obtain ⟨u, rfl, t, rfl⟩ := vals1 r
  have hn := line63
  exact len_str (by omega) ⟨.int z.length, H, I.tok _, ⟨_, rfl⟩, q⟩
theorem call_tuple_of : CallR X (.type "tuple") (fun xs H Q => ∃ p ys, xs = [.ref p] ∧ ((SqL X.K H p ys ∧ ∀ l, H l = none → Q (.ref l) (upd H l (.tup ys))) ∨ (SqT X.K H p ys ∧ Q (.ref p) H))) := by
  intro pins s σ H xs us Q I r h
  obtain ⟨p, ys, rfl, h⟩ := h
  obtain ⟨u, rfl, rx⟩ := vals1 r
  cases rx
  rcases h with ⟨hq, q⟩ | ⟨hq, q⟩
  · obtain ⟨its, r', pl, hz⟩ := I.list hq
    have hlen := r'.length
    refine call_tuple_list pl.isList (fun h' kp => ?_) (by simp only [List.size_toArray] <;> omega)
    have I1 : Inv X pins σ H { s with heap := h' } := I.kept (t' := s.toks) kp
    have I2 : Inv X pins σ (upd H h'.objs.size (.tup ys)) { s with heap := h'.push { cls := .type "tuple", data := .seq its.toArray } } :=
      I1.laid (t' := s.toks) (fun b o e => Heap.get?_push_of_some _ e) (Nat.le_refl _) (show ObjOk X.prog X.w _ _ _ (.tup ys) from ⟨hz, its, r', IsTup.new _ _⟩)
    exact ⟨.ref h'.objs.size, _, I2, rfl, q _ (I1.hok.fresh (Nat.le_refl _))⟩
  · obtain ⟨its, r', pl, hz⟩ := I.tuple hq
    exact call_tuple_same pl ⟨.ref p, H, I, rfl, q⟩


noncomputable def tyV (K : PySem.W.Frag) (T : String) (x : V) (H : Hp) : Prop := match x with
  | .str _ => T = "str"
  | .int _ => T = "int"
  | .ref p => (T = "list" ∧ ∃ xs, SqL K H p xs) ∨ (T = "tuple" ∧ ∃ o, K.lookup p = some o ∧ o.cls = .type "tuple" ∧ o.dict = none) ∨
      (T = "dict" ∧ ((∃ kvs, H p = some (.dK kvs)) ∨ ∃ kvs, H p = some (.dT kvs))) ∨ (T = "set" ∧ ∃ S n, H p = some (.set S n))
  | _ => False
theorem tyV_is {pins : List (Addr × Obj)} {σ : St} {H : Hp} {s : Shared} {T : String} {x : V} {v : Value} (I : Inv X pins σ H s) (r : RelV x v) (ty : tyV X.K T x H) :
    s.TypeIs v T ∧ ∀ a, v = .ref a → ∃ ob, s.heap.get? a = some ob ∧ ob.dict = none := by
  cases x with
  | str z =>
    obtain ⟨t, rfl⟩ := r
    cases (show T = "str" from ty)
    exact ⟨typeIs_str s z t, fun _ e => nomatch e⟩
  | int i =>
    obtain ⟨t, rfl⟩ := r
    cases (show T = "int" from ty)
    exact ⟨typeIs_int s i t, fun _ e => nomatch e⟩
  | ref p =>
    cases r
    rcases ty with ⟨rfl, xs, hq⟩ | ⟨rfl, o, hk, hc, hd⟩ | ⟨rfl, hk⟩ | ⟨rfl, S, n, hk⟩
    · obtain ⟨its, _, pl, _⟩ := I.list hq
      refine ⟨pl.isList.typeIs, fun a e => ?_⟩
      cases e
      obtain ⟨o, n, e, c, hd, _⟩ := pl
      exact ⟨o, e, hd⟩
    · refine ⟨⟨o, I.kIn p o hk, hc⟩, fun a e => ?_⟩
      cases e
      exact ⟨o, I.kIn _ o hk, hd⟩
    · have z : ∃ o, s.heap.get? p = some o ∧ o.ExactDict := by
        rcases hk with ⟨kvs, hk⟩ | ⟨kvs, hk⟩
        · obtain ⟨_, _, _, _, o, _, _, e, ex, _⟩ := I.hok p _ hk
          exact ⟨o, e, ex⟩
        · obtain ⟨_, _, _, _, o, _, _, e, ex, _⟩ := I.hok p _ hk
          exact ⟨o, e, ex⟩
      obtain ⟨o, e, ex⟩ := z
      refine ⟨⟨o, e, ex.1⟩, fun a e2 => ?_⟩
      cases e2
      exact ⟨o, e, ex.2.1⟩
    · obtain ⟨o, _, _, _, e, ex, _⟩ := I.hok p _ hk
      refine ⟨⟨o, e, ex.1⟩, fun a e2 => ?_⟩
      cases e2
      exact ⟨o, e, ex.2.1⟩
  | _ => exact False.elim ty
noncomputable def tBM (K : PySem.W.Frag) (T : String) (r : V → List V → Hp → VK → Prop) (to : TE) (t : TA) : TE := fun σ H Q => to σ H fun x H1 => tyV K T x H1 ∧ t σ H1 fun xs H2 => r x xs H2 Q
variable {o e : Expr} {es : List Expr} {to : TE} {t : TA} {name : Str} {apos cpos : Pos} {T id : String} {r : V → List V → Hp → VK → Prop}
theorem pe_bm (pa : PlainAttrs T) (slot : Slot T name id) (hty : typeOf (.builtin id) = pure (.type "method_descriptor")) (hm : MtR X id r) (ho : PE X o to) (ha : PA X (e :: es) t)
    (hbase : attributeBase o name X.env (eval o X.env) = eval o X.env := by rfl)
    (hfew : ((backTo cpos (starEach (e :: es) X.env)).all (fun x => !x.1) && (backToKw cpos (keywordEach [] X.env)).all (fun x => x.1.isSome)
      && decide ((e :: es).length + ([] : List Keyword).length + (if ([] : List Keyword).isEmpty then 0 else 1) < 30)) = true := by rfl)
    (hline : (apos.endLine == cpos.line) = true := by rfl) (hs : starEach (e :: es) X.env = (false, eval e X.env) :: starEach es X.env := by rfl) (hplain : (backTo cpos (starEach es X.env)).any (·.1) = false := by rfl) :
    PE X (.Call (.Attribute o name apos) (e :: es) [] cpos) (tBM X.K T r to t) := by
  intro pins s σ H Q I h
  refine wpAny_Call_method_late hbase hfew hline rfl (thn (ho pins s σ H _ I h) fun v s1 ⟨x, H1, I1, r1, ty, q1⟩ => ?_)
  obtain ⟨h1, h2⟩ := tyV_is I1 r1 ty
  refine ⟨T, id, pa, slot, hty, h1, h2, ?_⟩
  have hA := ha cpos pins s1 σ H1 _ I1 q1
  rw [hs] at hA ⊢
  refine Calls.callWith_builtin (by show (false || (backTo cpos (starEach es X.env)).any (·.1)) = false; rw [hplain] <;> rfl) (Calls.evalArgs_plain ?_)
  exact thn hA fun us s2 ⟨vs, H2, I2, r2, q2⟩ => hm pins s2 σ H2 x vs v us Q I2 r1 r2 q2
end
end L2

namespace L2
open PySem PySem.Spec PyProof.Rows

noncomputable def MtM (X : Cx) (id : String) (r : V → List V → Hp → VK → Prop) : Prop :=
  ∀ (pins : List (Addr × Obj)) (s : Shared) (σ : St) (H : Hp) (x : V) (xs : List V) (v : Value) (us : List Value) (Q : VK), Inv X pins σ H s → RelV x v → Vals xs us → r x xs H Q →
    wpAny (model X.prog X.w) X.A (call (.builtin id) (v :: us)) (EP X pins σ Q) X.xe s


theorem Vals.one : ∀ {x : V} {us : List Value}, Vals [x] us → ∃ u, us = [u] ∧ RelV x u
  | _, _, .cons r .nil => ⟨_, rfl, r⟩
theorem Vals.zero : ∀ {us : List Value}, Vals [] us → us = []
  | _, .nil => rfl
theorem Vals.dropLast {xs : List V} {us : List Value} (h : Vals xs us) : Vals xs.dropLast us.dropLast := by
  induction h with
  | nil => exact .nil
  | cons r t ih =>
    cases t with
    | nil => exact .nil
    | cons q t' => exact .cons r ih
section
variable {X : Cx} {pins : List (Addr × Obj)} {σ : St} {H : Hp} {s : Shared} {l b : Addr} {xs ys zs : List V}


theorem Inv.lset {its its' : List Value} {n : Nat} {f : Array Value → Array Value} {t' : Nat} (I : Inv X pins σ H s) (hH : H l = some (.lst xs))
    (e : s.heap.get? l = some { cls := .type "list", data := .seq its.toArray n }) (hf : f its.toArray = its'.toArray) (hv : Vals ys its') (hz : ys.length ≤ sizeLine) :
    Inv X pins σ (upd H l (.lst ys)) { s with heap := s.heap.update l (Obj.mapSeq f), toks := t' } := by
  have q := PySem.IsL.update e f
  rw [hf] at q
  refine I.write (x := l) (e := l) (by rw [hH]; exact trivial) (.inl rfl) (fun b' u hb hu => (Heap.get?_update_other s.heap (Obj.mapSeq f) (Ne.symm hb)).trans hu) ⟨_, q⟩ ?_
  exact ⟨hz, its', _, hv, q⟩
theorem Inv.lnew {its : List Value} {t' : Nat} (I : Inv X pins σ H s) (hv : Vals ys its) (hz : ys.length ≤ sizeLine) :
    Inv X pins σ (upd H s.heap.objs.size (.lst ys)) { s with heap := s.heap.push { cls := .type "list", data := .seq its.toArray }, toks := t' } :=
  I.laid (fun _ _ q => Heap.get?_push_of_some _ q) (Nat.le_refl _) ⟨hz, its, 0, hv, Heap.get?_push_size _ rfl⟩
theorem Inv.fresh (I : Inv X pins σ H s) : H s.heap.objs.size = none := I.hok.fresh (Nat.le_refl _)
theorem Inv.lstM (I : Inv X pins σ H s) (hH : H l = some (.lst xs)) : xs.length ≤ sizeLine ∧ ∃ (its : List Value) (n : Nat), Vals xs its ∧ xs.length = its.length ∧ s.heap.get? l = some { cls := .type "list", data := .seq its.toArray n } := by
  obtain ⟨z, its, n, r, e⟩ := I.hok l _ hH
  exact ⟨z, its, n, r, r.length, e⟩

end

section
variable {X : Cx}


noncomputable def rAppend : V → List V → Hp → VK → Prop := fun x vs H Q => ∃ l xs y, x = .ref l ∧ vs = [y] ∧ H l = some (.lst xs) ∧ xs.length < sizeLine ∧ Q .non (upd H l (.lst (xs ++ [y])))
theorem mt_append : MtM X "list.append" rAppend := by
  intro pins s σ H x vs v us Q I rx rv h
  obtain ⟨l, xs, y, rfl, rfl, hH, hz, q⟩ := h
  cases rx
  obtain ⟨u, rfl, ru⟩ := rv.one
  obtain ⟨z, its, n, r, hl, e⟩ := I.lstM hH
  refine call_meets F.slot_list_append ⟨_, e, rfl⟩ F.entry_list_append (F.args_list_append_2 _ _) (PySem.list_append l its.toArray n u (by rw [List.size_toArray]; omega)) ⟨e, ?_⟩
  refine ⟨.non, _, I.lset (its' := its ++ [u]) hH e (by simp) (r.append (.cons ru .nil)) ?_, rfl, q⟩
  rw [List.length_append, List.length_singleton]
  omega


noncomputable def rCat : R2 := fun x y H Q => ∃ l b xs zs, x = .ref l ∧ y = .ref b ∧ H l = some (.lst xs) ∧ H b = some (.lst zs) ∧ xs.length + zs.length ≤ sizeLine ∧ ∀ p, H p = none → Q (.ref p) (upd H p (.lst (xs ++ zs)))
theorem op_cat : OpR X (binaryOp .Add) rCat := by
  intro pins s σ H x y v u Q I rx ry h
  obtain ⟨l, b, xs, zs, rfl, rfl, hH, hB, hz, q⟩ := h
  cases rx
  cases ry
  obtain ⟨z, its, n, r, hl, e⟩ := I.lstM hH
  obtain ⟨z2, its2, n2, r2, hl2, e2⟩ := I.lstM hB
  refine PySem.P.add_list e e2 ?_ (by rw [List.size_toArray, List.size_toArray]; omega)
  have ea : its.toArray ++ its2.toArray = (its ++ its2).toArray := by simp
  rw [ea]
  exact ⟨.ref _, _, I.lnew (t' := s.toks) (r.append r2) (by rw [List.length_append]; omega), rfl, q _ I.fresh⟩

end


section
variable {prog : Program} {w : World} {A : Around} {E : Value → Shared → Prop} {s : Shared}
end

section
variable {X : Cx}
end
end L2

namespace Att
open PySem PySem.W PySem.Calls PyProof.Rows


theorem ints_of_wellAll {P : Params} {h : Heap} : ∀ (ns : List Int) (vs : List Value), WellAll P h vs (ns.map WData.int) → IntsAre vs ns := by
  intro ns
  induction ns with
  | nil =>
    intro vs w
    rw [List.map_nil] at w
    cases w
    exact .nil
  | cons n ns ih =>
    intro vs w
    rw [List.map_cons] at w
    cases w with
    | cons a b =>
      cases a
      exact .cons _ _ (ih _ b)

theorem script_of {l : OpenLaw} {n : Nat} (hn : l.most = some n) {P : Params} {h : Heap} {args : List WData} {vals : List Value}
    (hpre : l.row.toRowW.claim.pre args = true) (hwl : WellAll P h vals args) :
    ∃ a vs ns, vals = [Value.ref a] ∧ args = [WData.list (ns.map WData.int)] ∧ h.get? a = some { cls := .type "list", data := .seq vs.toArray } ∧ IntsAre vs ns ∧ ns.length ≤ n := by
  have hsh : WShape.hasAll [] args [.list .int] = true := (pre_splitW hpre).1
  have hc : l.pre.holds [] { args := args } = true := (pre_splitW hpre).2
  obtain ⟨d, r, rfl, h1, h2⟩ := hasAllW_cons hsh
  obtain rfl := hasAllW_nil h2
  obtain ⟨xs, rfl, h3⟩ := hasW_list h1
  obtain ⟨ns, rfl⟩ := items_int h3
  have hlen : ns.length ≤ n := by
    unfold OpenLaw.pre at hc
    have h4 : (WTm.not (.lt (.lit (.int (n : Int))) (.len (.arg 0)))).holds [] { args := [.list (ns.map .int)] } = true := by
      have h4 := (holds_andW hc).1
      rw [hn] at h4
      exact h4
    have h5 := condW_of h4 (w_not (w_lt w_lit (w_len_list (w_arg rfl))))
    rw [List.length_map] at h5
    refine Nat.le_of_not_lt fun q => ?_
    have q' : (n : Int) < ((ns.length : Nat) : Int) := by omega
    first
      | (rw [decide_eq_true q'] at h5; exact absurd h5 (by decide))
      | (simp at h5; omega)
  cases hwl with
  | cons w1 w2 =>
    cases w2
    cases w1 with
    | list ho hall => exact ⟨_, _, ns, rfl, rfl, ho, ints_of_wellAll ns _ hall, hlen⟩

theorem post_true (l : OpenLaw) (args : List WData) : l.row.toRowW.claim.post args (.bool true) args = true :=
  postW_of (r := l.row.toRowW) (X := (true == true))
    (show WShape.has [] (.bool true) .bool = true by first | rfl | decide | simp [WShape.has, WShape.arms, WShape.armsAll])
    (show (WTm.eq .res (.lit (.bool true))).value [] { args := args, res := some (.bool true), after := args } = some (.bool (true == true)) from w_eq_bool (w_res rfl) w_lit) rfl


theorem attach_call {l : OpenLaw} {n : Nat} {q : Program} {loose : List Str} {XP : (Str → Option Value) → Heap → Prop} {YP : World → Heap → Prop} {d : DefRec}
    (hn : l.most = some n) (hdf : d.params.defaults = [])
    (call : ∀ (w : World) (s₀ s₁ : Shared) (mg mb : Str → Option Value) (fa : Addr) (o : Obj) (pm cd doc : Value) (a : Addr) (vs : List Value) (ns : List Int),
      Ground q loose [] XP w s₀ mg mb s₁.heap → YP w s₁.heap →
      s₁.heap.get? fa = some o → o.data = .func (docDef d.name d.params d.body d.scope pm cd doc) → s₁.heap.CodeRec cd d.name → mg d.name = some (.ref fa) →
      s₁.heap.get? a = some { cls := .type "list", data := .seq vs.toArray } → IntsAre vs ns → ns.length ≤ n → s₁.gens = #[] →
      codeAny (model l.prog w) callerA (.call (.ref fa) ⟨[.ref a], []⟩) (fun r s' => r = .ok (.ret (.bool true)) ∧ OldK s₁.heap s'.heap ∧ s'.os = s₁.os ∧ AllBare s'.gens) s₁) :
    WalkO q loose XP YP l.row.toRowW d [] (fun f vs => PySem.call f vs) := by
  intro w s₀ s₁ mg mb G Y fa o pm cd doc dV kV ho hd hcd hD hmg hg args vals as hpre hlay hrd hwl hlo
  obtain rfl : dV = .none := Dflts.none hD hdf
  obtain rfl : kV = .none := Dflts.noKw hD
  obtain ⟨a, vs, ns, rfl, rfl, hobj, hints, hlen⟩ := script_of hn hpre hwl
  refine enter_call (codeAny_mono (call w s₀ s₁ mg mb fa o pm cd doc a vs ns G Y ho (fd_plain hd) hcd hmg hobj hints hlen hg) fun r s' hq => ?_)
  obtain ⟨rfl, h2, h3, h4⟩ := hq
  exact ⟨.inl ⟨.bool true, .bool true, [], rfl, fun _ => rfl, .bool true, post_true l _, fun _ => ⟨List.Pairwise.nil, fun _ hm => (nomatch hm)⟩⟩, h2, h3, h4⟩


section
variable {prog : Program} {w : World} {A : Around} {E : Value → Shared → Prop} {s : Shared} {K : Frag}


end
end Att

namespace L2
open PySem PySem.Spec PyProof.Rows

theorem vals_ints : ∀ {vs : List Value} {ns : List Int}, IntsAre vs ns → Vals (ns.map V.int) vs
  | _, _, .nil => .nil
  | _, _, .cons n t h => .cons ⟨t, rfl⟩ (vals_ints h)

noncomputable def Only (H : Hp) : Prop := ∀ b, H b = none ∨ ∃ o xs, H b = some (.frz o (.lst xs))

theorem law_call {P : Program} {w : World} {K : PySem.W.Frag} {mg mb : Str → Option Value} {CX : CXT} {k : Nat} {fa a : Addr} {fd : FuncData} {x : Str} {sp : Sp} {s₁ : Shared} {vs : List Value} {ns : List Int}
    (KX : K.In s₁.heap) (hns : s₁.heap.Ns mainGlobals mg) (hb : s₁.heap.Ns builtinsNs mb) (hbb : ∀ x : Str, x ≠ "__name__" → mb x = bootBuiltins x) (hlim : s₁.heap.NoLimit) (hg : s₁.gens = #[])
    (ha : s₁.heap.get? a = some { cls := .type "list", data := .seq vs.toArray }) (hi : IntsAre vs ns) (hl : ns.length ≤ sizeLine) (hr : Room k callerA)
    (F : ∀ base : Heap, K.In base → base.Ns mainGlobals mg → FnOk P w K mg base CX k fa fd [x] sp) (hbind : ∀ (s : Shared) (u : Value), BindsTo s fd ⟨[u], []⟩ [(x, u)])
    (hsp : ∀ H : Hp, Only H → SqL K H a (ns.map V.int) → sp [.ref a] H (fun v _ => v = .bl true) fun _ _ _ => False)
    (hCX : ∀ H e s', CX [] H s₁ (fun _ _ _ => False) e s' → False) :
    codeAny (model P w) callerA (.call (.ref fa) ⟨[.ref a], []⟩) (fun r s' => r = .ok (.ret (.bool true)) ∧ OldK s₁.heap s'.heap ∧ s'.os = s₁.os ∧ AllBare s'.gens) s₁ := by
  have rv := vals_ints hi
  have lenV := hi.length
  -- from an abstract heap in which nothing but the script may be tracked
  have core : ∀ H : Hp, Only H → SqL K H a (ns.map V.int) → HOk P w H s₁.heap → (∀ b, H b ≠ none → b = a) → (H a ≠ none → K.lookup a = none) →
      codeAny (model P w) callerA (.call (.ref fa) ⟨[.ref a], []⟩) (fun r s' => r = .ok (.ret (.bool true)) ∧ OldK s₁.heap s'.heap ∧ s'.os = s₁.os ∧ AllBare s'.gens) s₁ := by
    intro H hO hS hok hA hK
    have base_of : ∀ {b : Addr} {o : Obj}, s₁.heap.get? b = some o → H b = none → (hidT s₁.heap H).get? b = some o := fun e n => hidT_get e n
    have noA : ∀ {b : Addr} {o : Obj} {es : Array DictEntry} {ep : Nat}, s₁.heap.get? b = some o → o.data = .dict es ep → H b = none := fun {b o es ep} e d => by
      cases q : H b with
      | none => rfl
      | some u =>
        have e' : b = a := hA b (by rw [q]; simp)
        subst e'
        rw [ha] at e; cases e
        have d' : Data.seq vs.toArray _ = Data.dict es ep := d
        cases d'
    have nsK : ∀ {b : Addr} {m : Str → Option Value}, s₁.heap.Ns b m → (hidT s₁.heap H).Ns b m := fun {b m} ⟨o, es, ep, e, d, r⟩ => ⟨o, es, ep, base_of e (noA e d), d, r⟩
    have hKb : K.In (hidT s₁.heap H) := fun b o e => base_of (KX b o e) (by
      cases q : H b with
      | none => rfl
      | some u =>
        have e' : b = a := hA b (by rw [q]; simp)
        subst e'
        rw [hK (by rw [q]; simp)] at e; cases e)
    have hM : Mod K mg (hidT s₁.heap H) := ⟨hKb, nsK hns, ⟨mb, nsK hb, hbb⟩, let ⟨mc, h1, h2⟩ := hlim; ⟨mc, nsK h1, h2⟩⟩
    have e0 : Env0 P w K mg (hidT s₁.heap H) callerA [] s₁ H := ⟨rfl, hM, fun b o e => of_hidT e, Nat.le_of_eq (hidT_size _ _), trivial, fun b hb => absurd (show b ∈ ([] : List Addr) from hb) (by simp), hok, .of_eq hg⟩
    refine codeAny_mono ((F _ hKb (nsK hns)).run callerA [] s₁ H ⟨[.ref a], []⟩ [.ref a] [.ref a] _ _ hr e0 (hbind s₁ (.ref a)) (.cons rfl .nil) (hsp H hO hS)) fun r s' h => ?_
    cases r with
    | error e => exact (hCX H e s' h).elim
    | ok fl =>
      cases fl with
      | next => exact False.elim h
      | brk => exact False.elim h
      | cont => exact False.elim h
      | ret u =>
        obtain ⟨v, H', os, bare, un, hok', r', q⟩ := h
        have q' : v = .bl true := q
        subst q'
        obtain rfl : u = Value.bool true := r'
        refine ⟨rfl, OldK.of_keep fun b o e => ?_, os, bare⟩
        cases q : H b with
        | none => exact un.keep b o e q (by intro z; exact absurd (show b ∈ ([] : List Addr) from z) (by simp)) (by simp)
        | some u =>
          rcases hO b with z | ⟨ob, xs, z⟩
          · rw [q] at z; cases z
          · have z2 := un.frzs b ob _ z
            obtain ⟨e1, _⟩ := hok b _ z
            obtain ⟨e2, _⟩ := hok' b _ z2
            rw [e] at e1; cases e1
            exact e2
  cases hk : K.lookup a with
  | some o =>
    -- the script is one of the module's own objects
    have e := KX a o hk
    rw [ha] at e
    cases e
    refine core (fun _ => none) (fun _ => .inl rfl) (.inr ⟨_, vs.toArray, _, hk, rfl, rfl, rfl, by rw [List.size_toArray, lenV]; exact hl, by simpa using rv⟩) (fun b u z => by have z' : (none : Option HO) = some u := z; cases z') (fun b z => absurd rfl z) fun z => absurd rfl z
  | none =>
    refine core (fun b => if b = a then some (.frz { cls := .type "list", data := .seq vs.toArray } (.lst (ns.map V.int))) else none) (fun b => ?_) (.inl (.inr ⟨{ cls := .type "list", data := .seq vs.toArray }, if_pos rfl⟩)) (fun b u z => ?_) (fun b z => ?_) fun _ => hk
    · by_cases hb : b = a
      · exact .inr ⟨_, _, if_pos hb⟩
      · exact .inl (if_neg hb)
    · by_cases hb : b = a
      · have z' := (if_pos hb).symm.trans z
        cases z'
        subst hb
        exact ⟨ha, by rw [List.length_map]; exact hl, vs, _, rv, ha⟩
      · have z' := (if_neg hb).symm.trans z
        cases z'
    · by_cases hb : b = a
      · exact hb
      · exact absurd (if_neg hb) z
end L2

namespace L2
open PySem PySem.Spec PyProof.Rows

theorem walk_of {l : PySem.W.OpenLaw} {n k : Nat} {q : Program} {loose : List Str} {XP : (Str → Option Value) → Heap → Prop} {YP : World → Heap → Prop} {d : DefRec} {K : Params → PySem.W.Frag} {CX : World → CXT} {sp : World → Sp} {x : Str}
    (hn : l.most = some n) (hn2 : n ≤ sizeLine) (hdf : d.params.defaults = []) (hr : Room k callerA)
    (hY : ∀ (w : World) (h : Heap), YP w h → (K w.params).In h)
    (F : ∀ (w : World) (mg : Str → Option Value) (fa : Addr) (h : Heap), (K w.params).In h → h.Ns mainGlobals mg → mg d.name = some (.ref fa) →
      ∃ fd : FuncData, (∀ (s : Shared) (u : Value), BindsTo s fd ⟨[u], []⟩ [(x, u)]) ∧
        ∀ base : Heap, (K w.params).In base → base.Ns mainGlobals mg → FnOk l.prog w (K w.params) mg base (CX w) k fa fd [x] (sp w))
    (hsp : ∀ (w : World) (H : Hp) (a : Addr) (ns : List Int), ns.length ≤ n → Only H → SqL (K w.params) H a (ns.map V.int) → sp w [.ref a] H (fun v _ => v = .bl true) fun _ _ _ => False)
    (hCX : ∀ (w : World) (H : Hp) (s : Shared) (e : Value) (s' : Shared), CX w [] H s (fun _ _ _ => False) e s' → False) :
    PySem.W.WalkO q loose XP YP l.row.toRowW d [] (fun f vs => PySem.call f vs) := by
  refine Att.attach_call hn hdf fun w s₀ s₁ mg mb fa o pm cd doc a vs ns G Y ho hd hcd hmg hobj hints hlen hg => ?_
  have KX := hY w _ Y
  obtain ⟨fd, hb, hF⟩ := F w mg fa _ KX G.T.g hmg
  exact law_call KX G.T.g G.T.b G.T.builtins G.T.nolimit hg hobj hints (Nat.le_trans hlen hn2) hr hF hb (fun H hO hS => hsp w H a ns hlen hO hS) fun H e s' => hCX w H s₁ e s'
theorem walk_ofK {l : PySem.W.OpenLaw} {n k : Nat} {q : Program} {loose : List Str} {XP : (Str → Option Value) → Heap → Prop} {YP : World → Heap → Prop} {d : DefRec} {K : Params → PySem.W.Frag} {CX : CXT} {sp : PySem.W.Frag → Sp} {x : Str}
    (hn : l.most = some n) (hn2 : n ≤ sizeLine) (hdf : d.params.defaults = []) (hr : Room k callerA)
    (hY : ∀ (w : World) (h : Heap), YP w h → (K w.params).In h)
    (F : ∀ (w : World) (mg : Str → Option Value) (fa : Addr) (h : Heap), (K w.params).In h → h.Ns mainGlobals mg → mg d.name = some (.ref fa) →
      ∃ fd : FuncData, (∀ (s : Shared) (u : Value), BindsTo s fd ⟨[u], []⟩ [(x, u)]) ∧
        ∀ base : Heap, (K w.params).In base → base.Ns mainGlobals mg → FnOk l.prog w (K w.params) mg base CX k fa fd [x] (sp (K w.params)))
    (hsp : ∀ (K : PySem.W.Frag) (H : Hp) (a : Addr) (ns : List Int), ns.length ≤ n → Only H → SqL K H a (ns.map V.int) → sp K [.ref a] H (fun v _ => v = .bl true) fun _ _ _ => False)
    (hCX : ∀ (H : Hp) (s : Shared) (e : Value) (s' : Shared), CX [] H s (fun _ _ _ => False) e s' → False) :
    PySem.W.WalkO q loose XP YP l.row.toRowW d [] (fun f vs => PySem.call f vs) :=
  walk_of (K := K) (CX := fun _ => CX) (sp := fun w => sp (K w.params)) hn hn2 hdf hr hY F (fun w H a ns h1 h2 h3 => hsp (K w.params) H a ns h1 h2 h3) fun _ H s e s' => hCX H s e s'
end L2



namespace L2
open PySem PySem.Spec PyProof.Rows


noncomputable def defArgs (s : Stmt) : Arguments := match s with
  | .FunctionDef _ a _ _ _ _ _ _ _ _ => a
  | _ => { posonlyargs := [], args := [], vararg := none, kwonlyargs := [], kw_defaults := [], kwarg := none, defaults := [] }
noncomputable def defBody (s : Stmt) : List Stmt := match s with
  | .FunctionDef _ _ b _ _ _ _ _ _ _ => b
  | _ => []
noncomputable def defScope (s : Stmt) : Scope := match s with
  | .FunctionDef _ _ _ _ _ _ sc _ _ _ => sc
  | _ => { kind := .function, names := [], isGenerator := false, isCoroutine := false }


noncomputable abbrev CX0 : CXT := fun _ _ _ _ _ _ => False
noncomputable abbrev E0 : XK := fun _ _ _ => False
theorem pass0 {X : Cx} : Passes CX0 X E0 := fun _ _ _ _ _ _ _ h => h.elim


structure Fun (K : PySem.W.Frag) (x qual : Str) (st : Stmt) (f : Addr) (fd : FuncData) : Prop where
  ex : ∃ (oc : Value) (od : Option Addr) (kV doc pm : Value) (an : Option Addr) (cdv ct : Value) (osl : Array (Option Value)),
    fd = PySem.W.fnOf x qual (defArgs st) (defBody st) (defScope st) .none kV doc pm an cdv ct ∧ K.lookup f = some ⟨oc, od, .func fd, osl⟩ ∧ PySem.W.codeIn K cdv qual = true
  kp : PySem.W.keepIn K (.ref f) = true
section
variable {P : Program} {w : World} {K : PySem.W.Frag} {mg : Str → Option Value} {base : Heap}
theorem Fun.ok {x qual : Str} {st : Stmt} {f : Addr} {fd : FuncData} {N ps : List Str} {k : Nat} {sp : Sp} (F : Fun K x qual st f fd) (S : FnScope N ps (defScope st)) (len : ∀ vs H Q E, sp vs H Q E → vs.length = ps.length)
    (hbody : ∀ (cdv : Value) (A : Around) (outer : List Env) (s : Shared) (H : Hp) (vs : List V) (Q : VK) (E : XK), Room k (A.deeper (envOfC qual (defScope st) s.heap.objs.size f cdv)) → sp vs H Q E →
      ∃ t, PSs (cxOf CX0 P w K mg base N qual (defScope st) f cdv A outer s H E).nox (defBody st) t ∧ t { nx := fun _ H' => Q .non H', rt := Q } (start N vs) H) : FnOk P w K mg base CX0 (k + 1) f fd ps sp := by
  obtain ⟨oc, od, kV, doc, pm, an, cdv, ct, osl, rfl, lk, hcd⟩ := F.ex
  refine fn_of lk hcd S len fun A outer s H vs Q E hr hsp => ?_
  obtain ⟨t, h, q⟩ := hbody cdv A outer s H vs Q E hr hsp
  exact ⟨t, h.nox, q⟩
theorem Fun.binds {x qual : Str} {st : Stmt} {f : Addr} {fd : FuncData} {ps : List Str} (F : Fun K x qual st f fd)
    (h : ∀ (kV doc pm : Value) (an : Option Addr) (cdv ct : Value) (us : List Value), us.length = ps.length → bindArgs (PySem.W.fnOf x qual (defArgs st) (defBody st) (defScope st) .none kV doc pm an cdv ct) ⟨us, []⟩ = pure (ps.zip us)) : Binds K fd ps [] := by
  obtain ⟨oc, od, kV, doc, pm, an, cdv, ct, osl, rfl, lk, hcd⟩ := F.ex
  exact .all (h kV doc pm an cdv ct)
theorem fun_mk {x qual : Str} {st : Stmt} {f : Addr} {oc : Value} {od an : Option Addr} {osl : Array (Option Value)} {kV doc pm cdv ct : Value} (l : K.lookup f = some ⟨oc, od, .func (PySem.W.fnOf x qual (defArgs st) (defBody st) (defScope st) .none kV doc pm an cdv ct), osl⟩)
    (c : PySem.W.codeIn K cdv qual = true) (k : PySem.W.keepIn K (.ref f) = true) : Fun K x qual st f (PySem.W.fnOf x qual (defArgs st) (defBody st) (defScope st) .none kV doc pm an cdv ct) := ⟨⟨oc, od, kV, doc, pm, an, cdv, ct, osl, rfl, l, c⟩, k⟩
end

section
variable {X : Cx}
end


theorem iteF {A B : Prop} (h : B) : if false = true then A else B := by
  rw [if_neg Bool.false_ne_true]
  exact h
theorem iteT {A B : Prop} (h : A) : if true = true then A else B := by
  rw [if_pos rfl]
  exact h

noncomputable def Same (H H' : Hp) : Prop := ∀ b o, H b = some o → H' b = some o
theorem Same.refl (H : Hp) : Same H H := fun _ _ h => h
theorem Same.trans {H H1 H2 : Hp} (a : Same H H1) (b : Same H1 H2) : Same H H2 := fun c o h => b c o (a c o h)
theorem Same.free {H H' : Hp} (e : Same H H') {l : Addr} (h : H' l = Option.none) : H l = Option.none := by
  cases q : H l with
  | none => rfl
  | some o =>
    rw [e l o q] at h
    cases h
theorem Same.seq {K : PySem.W.Frag} {H H' : Hp} {a : Addr} {xs : List V} (e : Same H H') (h : SqL K H a xs) : SqL K H' a xs := by
  rcases h with (h | ⟨o, h⟩) | h
  · exact .inl (.inl (e _ _ h))
  · exact .inl (.inr ⟨o, e _ _ h⟩)
  · exact .inr h

end L2

namespace DL
open PySem


inductive D where
  | non | bl (b : Bool) | int (i : Int) | str (x : Str) | tup (ds : List D) | fu (x : Str)
inductive Fl where
  | bor | own | view
noncomputable def Fl.mine : Fl → Bool
  | .bor => false
  | _ => true
inductive R where
  | d (x : D) | l (f : Fl) (ds : List D)
noncomputable abbrev Ev := List (Option R)
inductive O where
  | nx (δ : Ev) | rt (r : R) | bk (δ : Ev) | ct (δ : Ev) | ex
noncomputable abbrev DEn := Ev → Option R
noncomputable abbrev DTn := Ev → Option Bool
noncomputable abbrev DSn := Ev → Option O
noncomputable abbrev DAn := Ev → Option (List R)
noncomputable abbrev DIn := Ev → Option (List D)


noncomputable def ixP (n : Nat) (i : Int) : Option Nat := if 0 ≤ i then (if i < n then some i.toNat else none) else if -(n : Int) ≤ i then some (i + n).toNat else none
noncomputable def atP {α : Type} (xs : List α) (i : Int) : Option α := (ixP xs.length i).bind fun j => xs[j]?
noncomputable def slP (n d : Nat) : Option Int → Nat
  | none => d
  | some v => if v < 0 then (v + (n : Int)).toNat else min v.toNat n
noncomputable def cutP {α : Type} (xs : List α) (lo hi : Option Int) : List α := (xs.drop (slP xs.length 0 lo)).take (slP xs.length xs.length hi - slP xs.length 0 lo)


noncomputable def see : R → R
  | .d x => .d x
  | .l .bor ds => .l .bor ds
  | .l _ ds => .l .view ds
noncomputable def dVar (i : Nat) : DEn := fun δ => match δ[i]? with | some (some r) => some (see r) | _ => none
noncomputable def dC (x : D) : DEn := fun _ => some (.d x)
noncomputable def d1 (g : R → Option R) (a : DEn) : DEn := fun δ => (a δ).bind g
noncomputable def d2 (g : R → R → Option R) (a b : DEn) : DEn := fun δ => (a δ).bind fun x => (b δ).bind fun y => g x y
noncomputable def gI (g : Int → Int → Option D) : R → R → Option R
  | .d (.int i), .d (.int j) => (g i j).map .d
  | _, _ => none
noncomputable def kSub (i j : Int) : Option D := some (.int (i - j))
noncomputable def kMul (i j : Int) : Option D := if (-(2 ^ 64) < i ∧ i < 2 ^ 64) ∨ (-(2 ^ 64) < j ∧ j < 2 ^ 64) then some (.int (i * j)) else none
noncomputable def kDiv (i j : Int) : Option D := if 0 < j ∧ j < 1073741824 then some (.int (i / j)) else none
noncomputable def kMod (i j : Int) : Option D := if 0 < j then some (.int (i % j)) else none
noncomputable def kPow (i j : Int) : Option D := if 0 ≤ j ∧ j ≤ 1000000 ∧ i.natAbs < 2 ^ 64 then some (.int (i ^ j.toNat)) else none
noncomputable def kLt (i j : Int) : Option D := some (.bl (decide (i < j)))
noncomputable def kLe (i j : Int) : Option D := some (.bl (decide (i ≤ j)))
noncomputable def kGt (i j : Int) : Option D := some (.bl (decide (j < i)))
noncomputable def kGe (i j : Int) : Option D := some (.bl (decide (j ≤ i)))
noncomputable def eqK : D → D → Option Bool
  | .int i, .int j => some (decide (i = j))
  | .str i, .str j => some (decide (i = j))
  | .bl i, .bl j => some (decide (i = j))
  | .non, .non => some true
  | .non, .int _ => some false | .int _, .non => some false
  | .non, .str _ => some false | .str _, .non => some false
  | .non, .bl _ => some false | .bl _, .non => some false
  | .int _, .str _ => some false | .str _, .int _ => some false
  | .bl _, .str _ => some false | .str _, .bl _ => some false
  | _, _ => none
noncomputable def gEq : R → R → Option R
  | .d x, .d y => (eqK x y).map fun b => .d (.bl b)
  | _, _ => none
noncomputable def gNe : R → R → Option R
  | .d x, .d y => (eqK x y).map fun b => .d (.bl (!b))
  | _, _ => none
noncomputable def isN : R → Bool
  | .d .non => true
  | _ => false
noncomputable def gIsN (r : R) : Option R := some (.d (.bl (isN r)))
noncomputable def gNotN (r : R) : Option R := some (.d (.bl (!isN r)))
noncomputable def gNeg : R → Option R
  | .d (.int i) => some (.d (.int (-i)))
  | _ => none
noncomputable def dCh (g h : R → R → Option R) (a b c : DEn) : DEn := fun δ => (a δ).bind fun x => (b δ).bind fun y => (g x y).bind fun z => match z with
  | .d (.bl true) => (c δ).bind fun w => h y w
  | .d (.bl false) => some (.d (.bl false))
  | _ => none

noncomputable def qB (a : DEn) : DTn := fun δ => match a δ with | some (.d (.bl b)) => some b | _ => none
noncomputable def qAnd (a b : DTn) : DTn := fun δ => (a δ).bind fun x => if x then b δ else some false
noncomputable def qOr (a b : DTn) : DTn := fun δ => (a δ).bind fun x => if x then some true else b δ
noncomputable def qNot (a : DTn) : DTn := fun δ => (a δ).map fun x => !x

noncomputable def dAnd (a b : DEn) : DEn := fun δ => match a δ with | some (.d (.bl true)) => b δ | some (.d (.bl false)) => some (.d (.bl false)) | _ => none
noncomputable def dOr (a b : DEn) : DEn := fun δ => match a δ with | some (.d (.bl true)) => some (.d (.bl true)) | some (.d (.bl false)) => b δ | _ => none
noncomputable def dNot (a : DEn) : DEn := fun δ => match a δ with | some (.d (.bl x)) => some (.d (.bl (!x))) | _ => none
noncomputable def dIf (t : DTn) (a b : DEn) : DEn := fun δ => (t δ).bind fun c => if c then a δ else b δ

noncomputable def gIx : R → R → Option R
  | .d (.tup ds), .d (.int i) => (atP ds i).map .d
  | .l _ ds, .d (.int i) => (atP ds i).map .d
  | _, _ => none
noncomputable def oI (o : Option DEn) (δ : Ev) : Option (Option Int) := match o with
  | none => some none
  | some a => match a δ with | some (.d (.int i)) => some (some i) | _ => none
noncomputable def dSl (a : DEn) (lo hi : Option DEn) : DEn := fun δ => (a δ).bind fun x => (oI lo δ).bind fun l => (oI hi δ).bind fun h => match x with
  | .d (.tup ds) => some (.d (.tup (cutP ds l h)))
  | .l _ ds => some (.l .own (cutP ds l h))
  | _ => none
noncomputable def aNil : DAn := fun _ => some []
noncomputable def aCons (a : DEn) (r : DAn) : DAn := fun δ => (a δ).bind fun x => (r δ).bind fun xs => some (x :: xs)
noncomputable def plainD : List R → Option (List D)
  | [] => some []
  | .d x :: r => (plainD r).map (x :: ·)
  | _ :: _ => none
noncomputable def dTup (a : DAn) : DEn := fun δ => (a δ).bind fun rs => if rs.length ≤ 1000 then (plainD rs).map fun ds => .d (.tup ds) else none
noncomputable def dLst (a : DAn) : DEn := fun δ => (a δ).bind fun rs => if rs.length ≤ 1000 then (plainD rs).map fun ds => .l .own ds else none
noncomputable def gAdd : R → R → Option R
  | .d (.int i), .d (.int j) => some (.d (.int (i + j)))
  | .d (.tup []), .d (.tup ys) => some (.d (.tup ys))
  | .d (.tup (x :: xs)), .d (.tup ys) => if xs.length + ys.length ≤ 10000 then some (.d (.tup (x :: xs ++ ys))) else none
  | .l f xs, .l g ys => if f.mine ∧ g.mine ∧ xs.length + ys.length ≤ 10000 then some (.l .own (xs ++ ys)) else none
  | _, _ => none

noncomputable def R.arg : R → R
  | .d x => .d x
  | .l _ ds => .l .bor ds
noncomputable abbrev Fn := List R → Option R
noncomputable def dCall (F : Fn) (a : DAn) : DEn := fun δ => (a δ).bind fun rs => F (rs.map R.arg)
noncomputable def gLen : List R → Option R
  | [.d (.tup ds)] => some (.d (.int ds.length))
  | [.l _ ds] => some (.d (.int ds.length))
  | _ => none
noncomputable def gTuple : List R → Option R
  | [.d (.tup ds)] => some (.d (.tup ds))
  | [.l _ ds] => some (.d (.tup ds))
  | _ => none
noncomputable def gList : List R → Option R
  | [.d (.tup ds)] => some (.l .own ds)
  | [.l _ ds] => some (.l .own ds)
  | _ => none
noncomputable def gMax : List R → Option R
  | [.d (.int i), .d (.int j)] => some (.d (.int (if j > i then j else i)))
  | _ => none
noncomputable def gMin : List R → Option R
  | [.d (.int i), .d (.int j)] => some (.d (.int (if j < i then j else i)))
  | _ => none
inductive Ty where
  | int | bool | tuple | str
noncomputable def isT : Ty → D → Bool
  | .int, .int _ => true | .int, .bl _ => true
  | .bool, .bl _ => true
  | .tuple, .tup _ => true
  | .str, .str _ => true
  | _, _ => false
noncomputable def gIs (T : Ty) : R → Option R
  | .d (.fu _) => none
  | .d x => some (.d (.bl (isT T x)))
  | _ => none
noncomputable def bools : List D → Option (List Bool)
  | [] => some []
  | .bl b :: r => (bools r).map (b :: ·)
  | _ :: _ => none
noncomputable def gAll : R → Option R
  | .l _ ds => (bools ds).map fun bs => .d (.bl (bs.all id))
  | _ => none
noncomputable def dB (g : List R → Option R) (a : DAn) : DEn := fun δ => (a δ).bind g

noncomputable def iTo (a : DEn) : DIn := fun δ => match a δ with
  | some (.d (.int n)) => if -1000000 ≤ n ∧ n ≤ 1000000 then some ((List.range n.toNat).map fun (k : Nat) => D.int (k : Int)) else none
  | _ => none
noncomputable def iAny (a : DEn) : DIn := fun δ => match a δ with
  | some (.d (.tup ds)) => some ds
  | some (.l _ ds) => some ds
  | _ => none
noncomputable def iSeq (a : DEn) : DIn := fun δ => match a δ with
  | some (.d (.tup ds)) => some ds
  | some (.l .bor ds) => some ds
  | _ => none
noncomputable def cpGo (t : DTn) (e : DEn) (caps : Ev) : List D → Option (List D)
  | [] => some []
  | x :: r => (t (some (.d x) :: caps)).bind fun b => if b then (match e (some (.d x) :: caps) with | some (.d y) => (cpGo t e caps r).map (y :: ·) | _ => none) else cpGo t e caps r
noncomputable def capsOf (cs : List Nat) (δ : Ev) : Ev := cs.map fun i => (δ[i]?.join).map R.arg
noncomputable def qYes : DTn := fun _ => some true
noncomputable def dComp (cs : List Nat) (it : DIn) (t : DTn) (e : DEn) : DEn := fun δ => (it δ).bind fun ds => if ds.length ≤ 10000 then (cpGo t e (capsOf cs δ) ds).map fun ys => .l .own ys else none

noncomputable def keepR : R → Option R
  | .l .view _ => none
  | r => some r
noncomputable def sSet (i : Nat) (e : DEn) : DSn := fun δ => (e δ).bind fun r => (keepR r).map fun r => .nx (δ.set i (some r))
noncomputable def retR : R → Option R
  | .d x => some (.d x)
  | .l .own ds => some (.l .own ds)
  | _ => none
noncomputable def sRet (e : DEn) : DSn := fun δ => (e δ).bind fun r => (retR r).map .rt
noncomputable def sRetV (i : Nat) : DSn := fun δ => match δ[i]? with | some (some r) => (retR r).map .rt | _ => none
noncomputable def sRetN : DSn := fun _ => some (.rt (.d .non))
noncomputable def sNx : DSn := fun δ => some (.nx δ)
noncomputable def sBrk : DSn := fun δ => some (.bk δ)
noncomputable def sCont : DSn := fun δ => some (.ct δ)
noncomputable def sSeq (a b : DSn) : DSn := fun δ => (a δ).bind fun o => match o with
  | .nx δ' => b δ'
  | o => some o
noncomputable def sIf (t : DTn) (a b : DSn) : DSn := fun δ => (t δ).bind fun c => if c then a δ else b δ
noncomputable def sEx (e : DEn) : DSn := fun δ => (e δ).map fun _ => .nx δ
noncomputable def sApp (i : Nat) (e : DEn) : DSn := fun δ => (e δ).bind fun r => match r, δ[i]? with
  | .d x, some (some (.l .own ds)) => if ds.length < 10000 then some (.nx (δ.set i (some (.l .own (ds ++ [x]))))) else none
  | _, _ => none
noncomputable def sPut (i : Nat) (k e : DEn) : DSn := fun δ => (e δ).bind fun r => (k δ).bind fun q => match r, q, δ[i]? with
  | .d x, .d (.int n), some (some (.l .own ds)) => (ixP ds.length n).map fun j => .nx (δ.set i (some (.l .own (ds.set j x))))
  | _, _, _ => none
noncomputable def foGo (i : Nat) (b : DSn) : List D → Ev → Option O
  | [], δ => some (.nx δ)
  | x :: r, δ => (b (δ.set i (some (.d x)))).bind fun o => match o with
    | .nx δ' => foGo i b r δ'
    | .ct δ' => foGo i b r δ'
    | .bk δ' => some (.nx δ')
    | .rt q => some (.rt q)
    | .ex => some .ex
noncomputable def sFor (i : Nat) (it : DIn) (b : DSn) : DSn := fun δ => (it δ).bind fun ds => foGo i b ds δ
noncomputable def lend : R → R
  | .l .own ds => .l .bor ds
  | r => r
noncomputable def sForV (i j : Nat) (b : DSn) : DSn := fun δ => match δ[j]? with
  | some (some (.d (.tup ds))) => foGo i b ds δ
  | some (some (.l .bor ds)) => foGo i b ds δ
  | some (some (.l .own ds)) => foGo i b ds (δ.set j (some (.l .bor ds)))
  | _ => none

noncomputable abbrev Fx := List R → Option (Option R)
noncomputable def sRaise : DSn := fun _ => some .ex
noncomputable def sExX (F : Fx) (a : DAn) : DSn := fun δ => (a δ).bind fun rs => (F (rs.map R.arg)).map fun o => match o with
  | some _ => .nx δ
  | none => .ex
noncomputable def dCallX (F : Fx) (a : DAn) : DEn := fun δ => (a δ).bind fun rs => (F (rs.map R.arg)).bind fun o => o
noncomputable def fnX (n N : Nat) (body : DSn) : Fx := fun rs => if rs.length = n then (body (rs.map some ++ List.replicate (N - n) none)).bind fun o => match o with
    | .rt r => some (some r)
    | .nx _ => some (some (.d .non))
    | .ex => some none
    | _ => none
  else none
noncomputable def fn (n N : Nat) (body : DSn) : Fn := fun rs => if rs.length = n then (body (rs.map some ++ List.replicate (N - n) none)).bind fun o => match o with
    | .rt r => some r
    | .nx _ => some (.d .non)
    | _ => none
  else none
end DL
namespace DL
open PySem
noncomputable def gAllL : List R → Option R
  | [r] => gAll r
  | _ => none
noncomputable def g2N (g : R → Option R) : R → R → Option R := fun x y => match y with | .d .non => g x | _ => none

noncomputable def sExt (i : Nat) (e : DEn) : DSn := fun δ => (e δ).bind fun r => match r, δ[i]? with
  | .l f es, some (some (.l .own ds)) => if f.mine = true ∧ ds.length + es.length ≤ 10000 then some (.nx (δ.set i (some (.l .own (ds ++ es))))) else none
  | _, _ => none
noncomputable def gIsL : R → Option R
  | .l _ _ => some (.d (.bl true))
  | _ => none
noncomputable def intsD : List D → Option (List Int)
  | [] => some []
  | .int i :: r => (intsD r).map (i :: ·)
  | _ :: _ => none
noncomputable def gIn : R → R → Option R
  | .d (.int i), .l _ ds => (intsD ds).map fun ns => .d (.bl (ns.contains i))
  | .d (.int i), .d (.tup ds) => (intsD ds).map fun ns => .d (.bl (ns.contains i))
  | _, _ => none
noncomputable def gNotIn : R → R → Option R
  | .d (.int i), .l _ ds => (intsD ds).map fun ns => .d (.bl (!ns.contains i))
  | .d (.int i), .d (.tup ds) => (intsD ds).map fun ns => .d (.bl (!ns.contains i))
  | _, _ => none
noncomputable def gInt : List R → Option R
  | [.d (.int i)] => some (.d (.int i))
  | [.d (.bl b)] => some (.d (.int (if b then 1 else 0)))
  | _ => none
noncomputable def gSum : List R → Option R
  | [.l _ ds] => (intsD ds).map fun ns => .d (.int ns.sum)
  | _ => none
noncomputable def gIdx : R → R → Option R
  | .l _ ds, .d (.int i) => (intsD ds).bind fun ns => if i ∈ ns then some (.d (.int (ns.idxOf i : Nat))) else none
  | _, _ => none
noncomputable def dFu (x : Str) : DEn := dC (.fu x)
noncomputable def dCallV (i : Nat) (x : Str) (F : Fn) (a : DAn) : DEn := fun δ => match δ[i]? with
  | some (some (.d (.fu y))) => if y = x then dCall F a δ else none
  | _ => none


theorem atP_nat {α : Type} (xs : List α) (k : Nat) : atP xs (k : Int) = xs[k]? := by
  unfold atP ixP
  rw [if_pos (by omega)]
  by_cases h : k < xs.length
  · rw [if_pos (by omega)]; simp
  · rw [if_neg (by omega)]; simp; omega
theorem atP_int {α : Type} (xs : List α) (k : Int) (h : 0 ≤ k) : atP xs k = xs[k.toNat]? := by
  have := atP_nat xs k.toNat
  rwa [Int.toNat_of_nonneg h] at this
theorem at0 {α : Type} (a : α) (l : List α) : atP (a :: l) 0 = some a := atP_nat (a :: l) 0
theorem at1 {α : Type} (a b : α) (l : List α) : atP (a :: b :: l) 1 = some b := atP_nat (a :: b :: l) 1
theorem at2 {α : Type} (a b c : α) (l : List α) : atP (a :: b :: c :: l) 2 = some c := atP_nat (a :: b :: c :: l) 2
theorem at3 {α : Type} (a b c d : α) (l : List α) : atP (a :: b :: c :: d :: l) 3 = some d := atP_nat (a :: b :: c :: d :: l) 3
theorem cutP_from {α : Type} (xs : List α) (k : Nat) : cutP xs (some (k : Int)) none = xs.drop k := by
  unfold cutP slP
  dsimp only
  rw [if_neg (by omega)]
  simp only [Int.toNat_natCast]
  by_cases h : k ≤ xs.length
  · rw [Nat.min_eq_left h, List.take_of_length_le (by simp)]
  · rw [Nat.min_eq_right (by omega)]; simp; omega
end DL

namespace DL
open PySem PySem.Spec PyProof.Rows L2
noncomputable abbrev St := L2.St


mutual
def Has (K : PySem.W.Frag) (H : Hp) : D → V → Prop
  | .non, v => v = V.non
  | .bl b, v => v = V.bl b
  | .int i, v => v = V.int i
  | .str x, v => v = V.str x
  | .tup ds, v => ∃ a xs, v = V.ref a ∧ SqT K H a xs ∧ HasL K H ds xs
  | .fu x, v => ∃ a, v = V.ref a ∧ PySem.W.nsIn K mainGlobals x = some (some (.ref a))
def HasL (K : PySem.W.Frag) (H : Hp) : List D → List V → Prop
  | [], xs => xs = []
  | d :: ds, xs => ∃ x r, xs = x :: r ∧ Has K H d x ∧ HasL K H ds r
end
noncomputable def TK (K : PySem.W.Frag) (H H' : Hp) : Prop := ∀ a xs, SqT K H a xs → SqT K H' a xs
theorem Same.tk {K : PySem.W.Frag} {H H' : Hp} (g : Same H H') : TK K H H' := by
  intro a xs h
  rcases h with (h | ⟨o, h⟩) | h
  · exact .inl (.inl (g _ _ h))
  · exact .inl (.inr ⟨o, g _ _ h⟩)
  · exact .inr h
theorem tk_upd {K : PySem.W.Frag} {H : Hp} {a : Addr} {xs ys : List V} (h : H a = some (.lst xs)) : TK K H (upd H a (.lst ys)) := by
  intro b zs q
  have ne : ∀ u, H b = some u → (∀ ws, u ≠ .lst ws) → b ≠ a := fun u e n z => by
    subst z
    rw [h] at e
    cases e
    exact n _ rfl
  rcases q with (q | ⟨o, q⟩) | q
  · exact .inl (.inl (by rw [upd_ne (ne _ q (by intro ws z; cases z))]; exact q))
  · exact .inl (.inr ⟨o, by rw [upd_ne (ne _ q (by intro ws z; cases z))]; exact q⟩)
  · exact .inr q
mutual
theorem Has.mono {K : PySem.W.Frag} {H H' : Hp} (g : TK K H H') : ∀ (d : D) (v : V), Has K H d v → Has K H' d v
  | .non, v, h => by simpa only [Has] using h
  | .bl b, v, h => by simpa only [Has] using h
  | .int i, v, h => by simpa only [Has] using h
  | .str x, v, h => by simpa only [Has] using h
  | .fu x, v, h => by simpa only [Has] using h
  | .tup ds, v, h => by
    simp only [Has] at h ⊢
    obtain ⟨a, xs, e, s, l⟩ := h
    exact ⟨a, xs, e, g a xs s, HasL.mono g ds xs l⟩
theorem HasL.mono {K : PySem.W.Frag} {H H' : Hp} (g : TK K H H') : ∀ (ds : List D) (xs : List V), HasL K H ds xs → HasL K H' ds xs
  | [], xs, h => by simpa only [HasL] using h
  | d :: ds, xs, h => by
    simp only [HasL] at h ⊢
    obtain ⟨x, r, e, h1, h2⟩ := h
    exact ⟨x, r, e, Has.mono g d x h1, HasL.mono g ds r h2⟩
end
section
variable {K : PySem.W.Frag} {H H' : Hp}
theorem Has.grow (g : Same H H') {d : D} {v : V} (h : Has K H d v) : Has K H' d v := Has.mono (Same.tk g) d v h
theorem HasL.grow (g : Same H H') {ds : List D} {xs : List V} (h : HasL K H ds xs) : HasL K H' ds xs := HasL.mono (Same.tk g) ds xs h
theorem HasL.nil : HasL K H [] [] := by simp only [HasL]
theorem HasL.cons {d : D} {x : V} {ds : List D} {xs : List V} (h : Has K H d x) (t : HasL K H ds xs) : HasL K H (d :: ds) (x :: xs) := by
  simp only [HasL]
  exact ⟨x, xs, rfl, h, t⟩
theorem HasL.len : ∀ {ds : List D} {xs : List V}, HasL K H ds xs → ds.length = xs.length
  | [], xs, h => by simp only [HasL] at h; subst h; rfl
  | d :: r, xs, h => by
    simp only [HasL] at h
    obtain ⟨x, q, e, h1, h2⟩ := h
    subst e
    simp [HasL.len h2]
theorem HasL.get : ∀ {ds : List D} {xs : List V} {i : Nat} {d : D}, HasL K H ds xs → ds[i]? = some d → ∃ x, xs[i]? = some x ∧ Has K H d x
  | [], _, _, _, _, e => by simp at e
  | d :: r, xs, i, d', h, e => by
    simp only [HasL] at h
    obtain ⟨x, q, e', h1, h2⟩ := h
    subst e'
    cases i with
    | zero => simp at e; subst e; exact ⟨x, rfl, h1⟩
    | succ i =>
      simp at e
      obtain ⟨y, e1, e2⟩ := HasL.get h2 e
      exact ⟨y, by simpa using e1, e2⟩
theorem HasL.app : ∀ {ds es : List D} {xs ys : List V}, HasL K H ds xs → HasL K H es ys → HasL K H (ds ++ es) (xs ++ ys)
  | [], es, xs, ys, h, t => by simp only [HasL] at h; subst h; exact t
  | d :: r, es, xs, ys, h, t => by
    simp only [HasL] at h
    obtain ⟨x, q, e', h1, h2⟩ := h
    subst e'
    exact HasL.cons h1 (HasL.app h2 t)
theorem HasL.set {d : D} {x : V} (hx : Has K H d x) : ∀ {ds : List D} {xs : List V} (i : Nat), HasL K H ds xs → HasL K H (ds.set i d) (xs.set i x)
  | [], xs, i, h => by simp only [HasL] at h; subst h; exact HasL.nil
  | d' :: r, xs, i, h => by
    simp only [HasL] at h
    obtain ⟨y, q, e', h1, h2⟩ := h
    subst e'
    cases i with
    | zero => exact HasL.cons hx h2
    | succ i => exact HasL.cons h1 (HasL.set hx i h2)
theorem HasL.drop : ∀ {ds : List D} {xs : List V} (n : Nat), HasL K H ds xs → HasL K H (ds.drop n) (xs.drop n)
  | ds, xs, 0, h => h
  | [], xs, n + 1, h => by simp only [HasL] at h; subst h; exact HasL.nil
  | d :: r, xs, n + 1, h => by
    simp only [HasL] at h
    obtain ⟨y, q, e', h1, h2⟩ := h
    subst e'
    exact HasL.drop n h2
theorem HasL.take : ∀ {ds : List D} {xs : List V} (n : Nat), HasL K H ds xs → HasL K H (ds.take n) (xs.take n)
  | ds, xs, 0, h => HasL.nil
  | [], xs, n + 1, h => by simp only [HasL] at h; subst h; exact HasL.nil
  | d :: r, xs, n + 1, h => by
    simp only [HasL] at h
    obtain ⟨y, q, e', h1, h2⟩ := h
    subst e'
    exact HasL.cons h1 (HasL.take n h2)
theorem HasL.ints : ∀ (ns : List Int), HasL K H (ns.map D.int) (ns.map V.int)
  | [] => HasL.nil
  | n :: r => HasL.cons (by simp only [Has]) (HasL.ints r)
theorem HasL.cut {ds : List D} {xs : List V} {lo hi : Option Int} (h : HasL K H ds xs) : HasL K H (cutP ds lo hi) (cutV xs lo hi) := by
  have e : cutP ds lo hi = (ds.drop (HT.sIx xs.length 0 lo)).take (HT.sIx xs.length xs.length hi - HT.sIx xs.length 0 lo) := by
    unfold cutP
    rw [h.len]
    have q : ∀ d o, slP xs.length d o = HT.sIx xs.length d o := by intro d o; cases o <;> rfl
    rw [q, q]
  rw [e]
  exact (h.drop _).take _
theorem HasL.at {ds : List D} {xs : List V} {i : Int} {d : D} (h : HasL K H ds xs) (e : atP ds i = some d) : ∃ x, atI xs i = some x ∧ Has K H d x := by
  have q : ixP ds.length i = ixN xs.length i := by rw [h.len]; rfl
  unfold atP at e
  unfold atI
  rw [q] at e
  cases hj : ixN xs.length i with
  | none => rw [hj] at e; cases e
  | some j =>
    rw [hj] at e
    exact h.get e
end


noncomputable def IsR (K : PySem.W.Frag) (B H H' : Hp) : R → V → Prop
  | .d x, v => Has K H' x v
  | .l .own ds, v => ∃ a xs, v = V.ref a ∧ H a = none ∧ H' a = some (.lst xs) ∧ HasL K H' ds xs
  | .l .view ds, v => ∃ a xs, v = V.ref a ∧ H' a = some (.lst xs) ∧ HasL K H' ds xs
  | .l .bor ds, v => ∃ a xs, v = V.ref a ∧ SqL K B a xs ∧ HasL K B ds xs
noncomputable def VwR (K : PySem.W.Frag) (H : Hp) : R → V → Prop
  | .d x, v => Has K H x v
  | .l .bor ds, v => ∃ a xs, v = V.ref a ∧ SqL K H a xs ∧ HasL K H ds xs
  | .l _ ds, v => ∃ a xs, v = V.ref a ∧ H a = some (.lst xs) ∧ HasL K H ds xs
noncomputable def Out (K : PySem.W.Frag) (H H' : Hp) : R → V → Prop
  | .d x, v => Has K H' x v
  | .l .own ds, v => ∃ a xs, v = V.ref a ∧ H a = none ∧ H' a = some (.lst xs) ∧ HasL K H' ds xs
  | .l _ _, _ => False
section
variable {K : PySem.W.Frag} {B H H' H1 H2 : Hp} {r : R} {v : V}
theorem Out.is (g : Same H H1) (h : Out K H1 H2 r v) : IsR K B H H2 r v := by
  cases r with
  | d x => exact h
  | l f ds =>
    cases f with
    | own =>
      obtain ⟨a, xs, e, n, q⟩ := h
      exact ⟨a, xs, e, g.free n, q⟩
    | bor => exact False.elim h
    | view => exact False.elim h
theorem IsR.grow (g : Same H1 H2) (h : IsR K B H H1 r v) : IsR K B H H2 r v := by
  cases r with
  | d x => exact Has.grow g h
  | l f ds =>
    cases f with
    | own =>
      obtain ⟨a, xs, e, n, q, t⟩ := h
      exact ⟨a, xs, e, n, g _ _ q, t.grow g⟩
    | bor => exact h
    | view =>
      obtain ⟨a, xs, e, q, t⟩ := h
      exact ⟨a, xs, e, g _ _ q, t.grow g⟩
theorem IsR.early (g : Same H H1) (h : IsR K B H1 H2 r v) : IsR K B H H2 r v := by
  cases r with
  | d x => exact h
  | l f ds =>
    cases f with
    | own =>
      obtain ⟨a, xs, e, n, q⟩ := h
      exact ⟨a, xs, e, g.free n, q⟩
    | bor => exact h
    | view => exact h
theorem IsR.vw (g : Same B H') (h : IsR K B H H' r v) : VwR K H' r v := by
  cases r with
  | d x => exact h
  | l f ds =>
    cases f with
    | own =>
      obtain ⟨a, xs, e, n, q⟩ := h
      exact ⟨a, xs, e, q⟩
    | bor =>
      obtain ⟨a, xs, e, q, t⟩ := h
      exact ⟨a, xs, e, g.seq q, t.grow g⟩
    | view => exact h
theorem VwR.sq {f : Fl} {ds : List D} (h : VwR K H (.l f ds) v) : ∃ a xs, v = V.ref a ∧ SqL K H a xs ∧ HasL K H ds xs := by
  cases f with
  | own => obtain ⟨a, xs, e, q, t⟩ := h; exact ⟨a, xs, e, SqL.of q, t⟩
  | bor => exact h
  | view => obtain ⟨a, xs, e, q, t⟩ := h; exact ⟨a, xs, e, SqL.of q, t⟩
theorem VwR.trk {f : Fl} {ds : List D} (m : f.mine = true) (h : VwR K H (.l f ds) v) : ∃ a xs, v = V.ref a ∧ H a = some (.lst xs) ∧ HasL K H ds xs := by
  cases f with
  | own => exact h
  | bor => cases m
  | view => exact h
theorem VwR.grow (g : Same H H') (h : VwR K H r v) : VwR K H' r v := by
  cases r with
  | d x => exact Has.grow g h
  | l f ds =>
    cases f with
    | own => obtain ⟨a, xs, e, q, t⟩ := h; exact ⟨a, xs, e, g _ _ q, t.grow g⟩
    | bor => obtain ⟨a, xs, e, q, t⟩ := h; exact ⟨a, xs, e, g.seq q, t.grow g⟩
    | view => obtain ⟨a, xs, e, q, t⟩ := h; exact ⟨a, xs, e, g _ _ q, t.grow g⟩
theorem same_new {p : Addr} (h : H p = none) (o : HO) : Same H (upd H p o) := fun b u q => by rw [upd_ne (ne_of_none q h)]; exact q
theorem line10000 {n : Nat} (h : n ≤ 10001) : n ≤ sizeLine := Nat.le_trans h (by decide)
end


noncomputable def IsS (K : PySem.W.Frag) (B H : Hp) : R → V → Prop
  | .d x, v => Has K H x v
  | .l .own ds, v => ∃ a xs, v = V.ref a ∧ H a = some (.lst xs) ∧ B a = none ∧ HasL K H ds xs
  | .l .bor ds, v => ∃ a xs, v = V.ref a ∧ SqL K B a xs ∧ HasL K B ds xs
  | .l .view _, _ => False
structure Rep (K : PySem.W.Frag) (B : Hp) (δ : Ev) (σ : St) (H : Hp) : Prop where
  same : Same B H
  len : δ.length = σ.length
  at_ : ∀ (i : Nat) (r : R), δ[i]? = some (some r) → ∃ v, σ[i]? = some (some v) ∧ IsS K B H r v
  dis : ∀ (i j : Nat) (ds es : List D) (a : Addr), δ[i]? = some (some (.l .own ds)) → δ[j]? = some (some (.l .own es)) → σ[i]? = some (some (.ref a)) → σ[j]? = some (some (.ref a)) → i = j
section
variable {K : PySem.W.Frag} {B B' H H' H1 H2 : Hp} {r : R} {v : V} {δ : Ev} {σ : St}
theorem IsS.grow (g : Same H H') (h : IsS K B H r v) : IsS K B H' r v := by
  cases r with
  | d x => exact Has.grow g h
  | l f ds =>
    cases f with
    | own => obtain ⟨a, xs, e, q, n, t⟩ := h; exact ⟨a, xs, e, g _ _ q, n, t.grow g⟩
    | bor => exact h
    | view => exact h
theorem Rep.grow (W : Rep K B δ σ H) (g : Same H H') : Rep K B δ σ H' :=
  ⟨W.same.trans g, W.len, fun i r e => let ⟨v, e1, h⟩ := W.at_ i r e; ⟨v, e1, h.grow g⟩, W.dis⟩
theorem IsS.see (g : Same B H) (h : IsS K B H r v) : IsR K B H H (see r) v := by
  cases r with
  | d x => exact h
  | l f ds =>
    cases f with
    | own => obtain ⟨a, xs, e, q, n, t⟩ := h; exact ⟨a, xs, e, q, t⟩
    | bor => exact h
    | view => exact False.elim h
theorem Rep.set (W : Rep K B δ σ H) (g : Same H H') {i : Nat} {r r' : R} {v : V} (hr : keepR r = some r') (h : IsR K B H H' r v) : Rep K B (δ.set i (some r')) (σ.set i (some v)) H' := by
  have W' := W.grow g
  have new : IsS K B H' r' v := by
    cases r with
    | d x => cases hr; exact h
    | l f ds =>
      cases f with
      | own =>
        cases hr
        obtain ⟨a, xs, e, n, q, t⟩ := h
        exact ⟨a, xs, e, q, W.same.free n, t⟩
      | bor => cases hr; exact h
      | view => cases hr
  have far : ∀ (j : Nat) (ds es : List D) (a : Addr), r' = .l .own ds → δ[j]? = some (some (.l .own es)) → v = .ref a → σ[j]? = some (some (.ref a)) → False := by
    intro j ds es a e1 e2 e3 e4
    subst e1
    obtain ⟨w, q1, q2⟩ := W.at_ j _ e2
    rw [e4] at q1
    cases q1
    obtain ⟨b, xs, z1, z2, _⟩ := q2
    cases z1
    cases r with
    | d x => cases hr
    | l f ds' =>
      cases f with
      | own =>
        cases hr
        obtain ⟨c, ys, y1, y2, _⟩ := h
        rw [e3] at y1
        cases y1
        rw [y2] at z2
        cases z2
      | bor => cases hr
      | view => cases hr
  refine ⟨W'.same, by simp [W'.len], fun j q e => ?_, fun j k ds es a e1 e2 e3 e4 => ?_⟩
  · by_cases hj : j = i
    · subst hj
      have hl : j < δ.length := by
        have := (List.getElem?_eq_some_iff.mp e).1
        simpa using this
      rw [List.getElem?_set_self hl] at e
      cases e
      exact ⟨v, by rw [List.getElem?_set_self (by rw [← W.len]; exact hl)], new⟩
    · rw [List.getElem?_set_ne (Ne.symm hj)] at e
      rw [List.getElem?_set_ne (Ne.symm hj)]
      exact W'.at_ j q e
  · by_cases hj : j = i
    · by_cases hk : k = i
      · rw [hj, hk]
      · subst hj
        have hl : j < δ.length := by
          have := (List.getElem?_eq_some_iff.mp e1).1
          simpa using this
        rw [List.getElem?_set_self hl] at e1
        rw [List.getElem?_set_self (by rw [← W.len]; exact hl)] at e3
        rw [List.getElem?_set_ne (Ne.symm hk)] at e2 e4
        cases e1
        cases e3
        exact (far k ds es a rfl e2 rfl e4).elim
    · by_cases hk : k = i
      · subst hk
        have hl : k < δ.length := by
          have := (List.getElem?_eq_some_iff.mp e2).1
          simpa using this
        rw [List.getElem?_set_self hl] at e2
        rw [List.getElem?_set_self (by rw [← W.len]; exact hl)] at e4
        rw [List.getElem?_set_ne (Ne.symm hj)] at e1 e3
        cases e2
        cases e4
        exact (far j es ds a rfl e1 rfl e3).elim
      · rw [List.getElem?_set_ne (Ne.symm hj)] at e1 e3
        rw [List.getElem?_set_ne (Ne.symm hk)] at e2 e4
        exact W'.dis j k ds es a e1 e2 e3 e4
theorem Rep.write (W : Rep K B δ σ H) {i : Nat} {ds es : List D} {a : Addr} {ys : List V} (e : δ[i]? = some (some (.l .own ds))) (ev : σ[i]? = some (some (.ref a))) {xs : List V} (ha : H a = some (.lst xs)) (hy : HasL K H es ys) :
    Rep K B (δ.set i (some (.l .own es))) σ (upd H a (.lst ys)) := by
  have hB : B a = none := by
    obtain ⟨v, q1, q2⟩ := W.at_ i _ e
    rw [ev] at q1
    cases q1
    obtain ⟨b, zs, z1, _, z3, _⟩ := q2
    cases z1
    exact z3
  have hl : i < δ.length := (List.getElem?_eq_some_iff.mp e).1
  have tk : TK K H (upd H a (.lst ys)) := tk_upd ha
  have oth : ∀ (j : Nat) (ds' : List D), δ[j]? = some (some (.l .own ds')) → σ[j]? = some (some (.ref a)) → j = i := fun j ds' q1 q2 => W.dis j i ds' ds a q1 e q2 ev
  refine ⟨fun b o q => ?_, by simp [W.len], fun j q ej => ?_, fun j k ds1 ds2 b e1 e2 e3 e4 => ?_⟩
  · rw [upd_ne (fun z => by subst z; rw [hB] at q; cases q)]
    exact W.same b o q
  · by_cases hj : j = i
    · subst hj
      rw [List.getElem?_set_self hl] at ej
      cases ej
      exact ⟨.ref a, ev, a, ys, rfl, upd_same, hB, HasL.mono tk _ _ hy⟩
    · rw [List.getElem?_set_ne (Ne.symm hj)] at ej
      obtain ⟨v, q1, q2⟩ := W.at_ j q ej
      refine ⟨v, q1, ?_⟩
      cases q with
      | d x => exact Has.mono tk _ _ q2
      | l f ds' =>
        cases f with
        | own =>
          obtain ⟨b, zs, z1, z2, z3, z4⟩ := q2
          subst z1
          have ne : b ≠ a := fun z => hj (oth j ds' ej (by rw [q1, z]))
          exact ⟨b, zs, rfl, by rw [upd_ne ne]; exact z2, z3, HasL.mono tk _ _ z4⟩
        | bor => exact q2
        | view => exact q2
  · have un : ∀ (j : Nat) (ds' : List D), (δ.set i (some (.l .own es)))[j]? = some (some (.l .own ds')) → ∃ ds'', δ[j]? = some (some (.l .own ds'')) := fun j ds' q => by
      by_cases hj : j = i
      · subst hj; exact ⟨ds, e⟩
      · rw [List.getElem?_set_ne (Ne.symm hj)] at q; exact ⟨ds', q⟩
    obtain ⟨d1, q1⟩ := un j _ e1
    obtain ⟨d2, q2⟩ := un k _ e2
    exact W.dis j k d1 d2 b q1 q2 e3 e4
theorem Rep.lend (W : Rep K B δ σ H) {i : Nat} {ds : List D} (e : δ[i]? = some (some (.l .own ds))) :
    ∃ (B' : Hp) (a : Addr) (xs : List V), Same B B' ∧ Rep K B' (δ.set i (some (.l .bor ds))) σ H ∧ σ[i]? = some (some (.ref a)) ∧ SqL K B' a xs ∧ HasL K B' ds xs := by
  classical
  obtain ⟨v, q1, a, xs, q2, ha, hB, hh⟩ := W.at_ i _ e
  subst q2
  have hl : i < δ.length := (List.getElem?_eq_some_iff.mp e).1
  -- all that is tracked now but the other lists of one's own
  let B' : Hp := fun b => if (∃ j es, j ≠ i ∧ δ[j]? = some (some (R.l .own es)) ∧ σ[j]? = some (some (V.ref b))) then none else H b
  have sB : Same B B' := fun b o q => by
    show (if _ then none else H b) = some o
    rw [if_neg]
    · exact W.same b o q
    · rintro ⟨j, es, _, z1, z2⟩
      obtain ⟨w, y1, y2⟩ := W.at_ j _ z1
      rw [z2] at y1
      cases y1
      obtain ⟨c, zs, x1, _, x3, _⟩ := y2
      cases x1
      rw [x3] at q
      cases q
  have sH : Same B' H := fun b o q => by
    have q' : (if (∃ j es, j ≠ i ∧ δ[j]? = some (some (R.l .own es)) ∧ σ[j]? = some (some (V.ref b))) then none else H b) = some o := q
    split at q'
    · cases q'
    · exact q'
  have keepT : TK K H B' := fun b zs q => by
    have ne : ∀ u, H b = some u → (∀ ws, u ≠ .lst ws) → B' b = H b := fun u eu n => by
      show (if _ then none else H b) = H b
      rw [if_neg]
      rintro ⟨j, es, _, z1, z2⟩
      obtain ⟨w, y1, y2⟩ := W.at_ j _ z1
      rw [z2] at y1
      cases y1
      obtain ⟨c, zs', x1, x2, _⟩ := y2
      cases x1
      rw [eu] at x2
      cases x2
      exact n _ rfl
    rcases q with (q | ⟨o, q⟩) | q
    · exact .inl (.inl (by rw [ne _ q (by intro ws z; cases z)]; exact q))
    · exact .inl (.inr ⟨o, by rw [ne _ q (by intro ws z; cases z)]; exact q⟩)
    · exact .inr q
  have aB : B' a = some (.lst xs) := by
    show (if _ then none else H a) = _
    rw [if_neg]
    · exact ha
    · rintro ⟨j, es, z0, z1, z2⟩
      exact z0 (W.dis j i es ds a z1 e z2 q1)
  have hB' : HasL K B' ds xs := HasL.mono keepT _ _ hh
  refine ⟨B', a, xs, sB, ⟨sH, by simp [W.len], fun j q ej => ?_, fun j k ds1 ds2 b e1 e2 e3 e4 => ?_⟩, q1, SqL.of aB, hB'⟩
  · by_cases hj : j = i
    · subst hj
      rw [List.getElem?_set_self hl] at ej
      cases ej
      exact ⟨_, q1, a, xs, rfl, SqL.of aB, hB'⟩
    · rw [List.getElem?_set_ne (Ne.symm hj)] at ej
      obtain ⟨w, y1, y2⟩ := W.at_ j q ej
      refine ⟨w, y1, ?_⟩
      cases q with
      | d x => exact y2
      | l f ds' =>
        cases f with
        | own =>
          obtain ⟨b, zs, z1, z2, z3, z4⟩ := y2
          subst z1
          refine ⟨b, zs, rfl, z2, ?_, z4⟩
          show (if _ then none else H b) = none
          rw [if_pos ⟨j, ds', hj, ej, y1⟩]
        | bor =>
          obtain ⟨b, zs, z1, z2, z3⟩ := y2
          exact ⟨b, zs, z1, sB.seq z2, z3.grow sB⟩
        | view => exact y2
  · by_cases hj : j = i
    · subst hj; rw [List.getElem?_set_self hl] at e1; cases e1
    · by_cases hk : k = i
      · subst hk; rw [List.getElem?_set_self hl] at e2; cases e2
      · rw [List.getElem?_set_ne (Ne.symm hj)] at e1
        rw [List.getElem?_set_ne (Ne.symm hk)] at e2
        exact W.dis j k ds1 ds2 b e1 e2 e3 e4
end
end DL

namespace DL
open PySem PySem.Spec PyProof.Rows L2


noncomputable def rd (K : PySem.W.Frag) (t : DEn) : TE := fun σ H Q => ∃ B δ r, Rep K B δ σ H ∧ t δ = some r ∧ ∀ v H', Same H H' → IsR K B H H' r v → Q v H'
noncomputable def rt (K : PySem.W.Frag) (t : DTn) : TT := fun σ H Q => ∃ B δ b, Rep K B δ σ H ∧ t δ = some b ∧ ∀ H', Same H H' → Q b H'
noncomputable def IsRs (K : PySem.W.Frag) (B H H' : Hp) : List R → List V → Prop
  | [], vs => vs = []
  | r :: rs, vs => ∃ v ws, vs = v :: ws ∧ IsR K B H H' r v ∧ IsRs K B H H' rs ws
noncomputable def ra (K : PySem.W.Frag) (t : DAn) : TA := fun σ H Q => ∃ B δ rs, Rep K B δ σ H ∧ t δ = some rs ∧ ∀ vs H', Same H H' → IsRs K B H H' rs vs → Q vs H'
noncomputable abbrev DE (X : Cx) (e : Expr) (t : DEn) : Prop := PE X e (rd X.K t)
noncomputable abbrev DT (X : Cx) (e : Expr) (t : DTn) : Prop := PT X e (rt X.K t)
noncomputable abbrev DW (X : Cx) (e : Expr) (t : DTn) : Prop := PW X e (rt X.K t)
noncomputable abbrev DA (X : Cx) (es : List Expr) (t : DAn) : Prop := PA X es (ra X.K t)
theorem pe_to {X : Cx} {e : Expr} {t t' : TE} (h : PE X e t) (w : ∀ σ H Q, t' σ H Q → t σ H Q) : PE X e t' := fun pins s σ H Q I q => h pins s σ H Q I (w σ H Q q)
theorem pt_to {X : Cx} {e : Expr} {t t' : TT} (h : PT X e t) (w : ∀ σ H Q, t' σ H Q → t σ H Q) : PT X e t' := fun pins s σ H Q I q => h pins s σ H Q I (w σ H Q q)
theorem pw_to {X : Cx} {e : Expr} {t t' : TT} (h : PW X e t) (w : ∀ σ H Q, t' σ H Q → t σ H Q) : PW X e t' := fun wh pins s σ H Q I q => h wh pins s σ H Q I (w σ H Q q)
theorem pa_to {X : Cx} {e : List Expr} {t t' : TA} (h : PA X e t) (w : ∀ σ H Q, t' σ H Q → t σ H Q) : PA X e t' := fun pos pins s σ H Q I q => h pos pins s σ H Q I (w σ H Q q)
theorem ps_to {X : Cx} {e : Stmt} {t t' : TS} (h : PS X e t) (w : ∀ D σ H, t' D σ H → t D σ H) : PS X e t' := fun pins s σ H D I q => h pins s σ H D I (w D σ H q)
theorem pss_to {X : Cx} {e : List Stmt} {t t' : TS} (h : PSs X e t) (w : ∀ D σ H, t' D σ H → t D σ H) : PSs X e t' := fun pins s σ H D I q => h pins s σ H D I (w D σ H q)
theorem bs {α β : Type} {x : Option α} {f : α → Option β} {b : β} (h : x.bind f = some b) : ∃ a, x = some a ∧ f a = some b := Option.bind_eq_some_iff.mp h
theorem ms {α β : Type} {x : Option α} {f : α → β} {b : β} (h : x.map f = some b) : ∃ a, x = some a ∧ f a = b := Option.map_eq_some_iff.mp h
noncomputable def r2R (K : PySem.W.Frag) (g : R → R → Option R) : R2 := fun x y H Q => ∃ r1 r2 r, VwR K H r1 x ∧ VwR K H r2 y ∧ g r1 r2 = some r ∧ ∀ v H', Same H H' → Out K H H' r v → Q v H'
noncomputable def r1R (K : PySem.W.Frag) (g : R → Option R) : V → Hp → VK → Prop := fun x H Q => ∃ r1 r, VwR K H r1 x ∧ g r1 = some r ∧ ∀ v H', Same H H' → Out K H H' r v → Q v H'
section
variable {X : Cx} {pos : Pos} {a b c : Expr} {f h k : DEn} {g g' : R → R → Option R}

theorem rd2 (K : PySem.W.Frag) {f h : DEn} {g : R → R → Option R} (σ : St) (H : Hp) (Q : VK) (q : rd K (d2 g f h) σ H Q) : tOp (r2R K g) (rd K f) (rd K h) σ H Q := by
  obtain ⟨B, δ, r, rp, e, q⟩ := q
  obtain ⟨x, ex, e⟩ := bs e
  obtain ⟨y, ey, e⟩ := bs e
  refine ⟨B, δ, x, rp, ex, fun v H1 g1 i1 => ⟨B, δ, y, rp.grow g1, ey, fun u H2 g2 i2 => ?_⟩⟩
  have s1 := rp.same.trans g1
  exact ⟨x, y, r, (i1.vw s1).grow g2, i2.vw (s1.trans g2), e, fun w H3 g3 o => q w H3 (g1.trans (g2.trans g3)) (o.is (g1.trans g2))⟩
theorem rd1 (K : PySem.W.Frag) {f : DEn} {g : R → Option R} (σ : St) (H : Hp) (Q : VK) (q : rd K (d1 g f) σ H Q) : tUn (r1R K g) (rd K f) σ H Q := by
  obtain ⟨B, δ, r, rp, e, q⟩ := q
  obtain ⟨x, ex, e⟩ := bs e
  refine ⟨B, δ, x, rp, ex, fun v H1 g1 i1 => ?_⟩
  exact ⟨x, r, i1.vw (rp.same.trans g1), e, fun w H3 g3 o => q w H3 (g1.trans g3) (o.is g1)⟩

theorem de_var (i : Nat) {x : Str} (hN : X.N[i]? = some x := by rfl) (hv : Vis X.env.scope x := by first | exact Or.inl rfl | exact Or.inr (Or.inl rfl) | exact Or.inr (Or.inr rfl)) (hd : (x == ("__debug__" : Str)) = false := by decide)
    (hcd : (x == ("__classdict__" : Str)) = false := by decide) : DE X (.Name x pos) (dVar i) :=
  pe_to (pe_var hN hv hd hcd) fun σ H Q ⟨B, δ, r, rp, e, q⟩ => by
    unfold dVar at e
    split at e
    · rename_i r0 e0
      cases e
      obtain ⟨v, e1, hs⟩ := rp.at_ i r0 e0
      exact ⟨v, e1, q v H (Same.refl _) (hs.see rp.same)⟩
    · cases e
theorem de_c {x : D} {v : V} (h : PE X a (tC v)) (hv : ∀ K H, Has K H x v) : DE X a (dC x) :=
  pe_to h fun σ H Q ⟨B, δ, r, rp, e, q⟩ => by
    cases e
    exact q v H (Same.refl _) (hv _ _)
theorem de_int {i j} : DE X (.Constant (.int i) j pos) (dC (.int i)) := de_c pe_int fun _ _ => by simp only [Has]
theorem de_bl {i j} : DE X (.Constant (.bool i) j pos) (dC (.bl i)) := de_c pe_bl fun _ _ => by simp only [Has]
theorem de_non {j} : DE X (.Constant .none j pos) (dC .non) := de_c pe_non fun _ _ => by simp only [Has]
theorem de_str {i j} : DE X (.Constant (.str i) j pos) (dC (.str i)) := de_c pe_str fun _ _ => by simp only [Has]
theorem de_globI {x : Str} {i : Int} {t : Tok} (hg : Gl X x) (hm : X.mg x = some (.int i t)) (hd : (x == ("__debug__" : Str)) = false := by decide) : DE X (.Name x pos) (dC (.int i)) := de_c (v := V.int i) (pe_glob (v := V.int i) hg hm ⟨t, rfl⟩ hd) fun _ _ => by simp only [Has]
theorem de_op {op : Operator} (ho : OpR X (binaryOp op) (r2R X.K g)) (ha : DE X a f) (hb : DE X b h) : DE X (.BinOp a op b pos) (d2 g f h) := pe_to (pe_op ho ha hb) (rd2 X.K)
theorem de_un {op : UnaryOp} {g : R → Option R} (ho : UnR X (unaryOp op) (r1R X.K g)) (ha : DE X a f) : DE X (.UnaryOp op a pos) (d1 g f) := pe_to (pe_un ho ha) (rd1 X.K)
theorem de_cmp {op : CmpOp} (ho : OpR X (compareOp op) (r2R X.K g)) (ha : DE X a f) (hb : DE X b h) (hm : behindInMarks op b = false) : DE X (.Compare a [op] [b] pos) (d2 g f h) := pe_to (pe_cmpR ho ha hb hm) (rd2 X.K)
theorem rdT (K : PySem.W.Frag) {f : DEn} (σ : St) (H : Hp) (Q : Bool → Hp → Prop) (q : rt K (qB f) σ H Q) : rd K f σ H fun x H' => ∃ k, x = .bl k ∧ Q k H' := by
  obtain ⟨B, δ, b, rp, e, q⟩ := q
  unfold qB at e
  split at e
  · rename_i c e0
    cases e
    refine ⟨B, δ, _, rp, e0, fun v H1 g1 i1 => ⟨b, ?_, q H1 g1⟩⟩
    have i2 : Has K H1 (.bl b) v := i1
    simpa only [Has] using i2
  · cases e
theorem dt_cmp {op : CmpOp} (ho : OpR X (compareOp op) (r2R X.K g)) (ha : DE X a f) (hb : DE X b h) (hm : behindInMarks op b = false) : DT X (.Compare a [op] [b] pos) (qB (d2 g f h)) :=
  pt_to (pt_cmpR ho ha hb hm) fun σ H Q q => rd2 X.K σ H _ (rdT X.K σ H Q q)
theorem dt_val (ha : DE X a f) (he : ∀ whole, isTrue a X.env whole = (do let v ← whole; standAt a.pos; holding [v] (truthy v)) := by intro _; rfl) : DT X a (qB f) :=
  pt_to (pt_truth ha he) fun σ H Q q => by
    obtain ⟨B, δ, r, rp, e, q⟩ := rdT X.K σ H Q q
    exact ⟨B, δ, r, rp, e, fun v H1 g1 i1 => let ⟨k, e1, z⟩ := q v H1 g1 i1; ⟨k, by subst e1; rfl, z⟩⟩
variable {t u : DTn} {rest : List Expr}
theorem dt_not (ha : DT X a t) : DT X (.UnaryOp .Not a pos) (qNot t) :=
  pt_to (pt_not ha) fun σ H Q ⟨B, δ, b, rp, e, q⟩ => by
    obtain ⟨c, e0, e1⟩ := ms e
    subst e1
    exact ⟨B, δ, c, rp, e0, fun H1 g1 => q H1 g1⟩
theorem dw_and1 (ha : DT X a t) : DW X (.BoolOp .And [a] pos) t := pw_and1 ha
theorem dw_or1 (ha : DT X a t) : DW X (.BoolOp .Or [a] pos) t := pw_or1 ha
theorem dw_and (ha : DT X a t) (hb : DW X (.BoolOp .And (b :: rest) pos) u) : DW X (.BoolOp .And (a :: b :: rest) pos) (qAnd t u) :=
  pw_to (pw_and ha hb) fun σ H Q ⟨B, δ, r, rp, e, q⟩ => by
    obtain ⟨x, e0, e1⟩ := bs e
    refine ⟨B, δ, x, rp, e0, fun H1 g1 => ?_⟩
    cases x with
    | true => exact iteT ⟨B, δ, r, rp.grow g1, e1, fun H2 g2 => q H2 (g1.trans g2)⟩
    | false => cases e1; exact iteF (q H1 g1)
theorem dw_or (ha : DT X a t) (hb : DW X (.BoolOp .Or (b :: rest) pos) u) : DW X (.BoolOp .Or (a :: b :: rest) pos) (qOr t u) :=
  pw_to (pw_or ha hb) fun σ H Q ⟨B, δ, r, rp, e, q⟩ => by
    obtain ⟨x, e0, e1⟩ := bs e
    refine ⟨B, δ, x, rp, e0, fun H1 g1 => ?_⟩
    cases x with
    | false => exact iteF ⟨B, δ, r, rp.grow g1, e1, fun H2 g2 => q H2 (g1.trans g2)⟩
    | true => cases e1; exact iteT (q H1 g1)
theorem dw_dt (h : DW X a t) : DT X a t := h.pt
theorem de_one {op} (ha : DE X a f) : DE X (.BoolOp op [a] pos) f := pe_one ha
theorem de_and (ha : DE X a f) (hb : DE X (.BoolOp .And (b :: rest) pos) h) : DE X (.BoolOp .And (a :: b :: rest) pos) (dAnd f h) :=
  pe_to (pe_and ha hb) fun σ H Q ⟨B, δ, r, rp, e, q⟩ => by
    unfold dAnd at e
    split at e
    · rename_i e0
      refine ⟨B, δ, _, rp, e0, fun v H1 g1 i1 => ⟨true, by simpa only [IsR, Has] using i1, iteT ⟨B, δ, r, rp.grow g1, e, fun u H2 g2 i2 => q u H2 (g1.trans g2) (i2.early g1)⟩⟩⟩
    · rename_i e0
      cases e
      refine ⟨B, δ, _, rp, e0, fun v H1 g1 i1 => ⟨false, by simpa only [IsR, Has] using i1, iteF (q _ H1 g1 (by simp only [IsR, Has]))⟩⟩
    · cases e
theorem de_not (ha : DE X a f) : DE X (.UnaryOp .Not a pos) (dNot f) :=
  pe_to (pe_not ha) fun σ H Q ⟨B, δ, r, rp, e, q⟩ => by
    unfold dNot at e
    split at e
    · rename_i x e0
      cases e
      refine ⟨B, δ, _, rp, e0, fun v H1 g1 i1 => ⟨x, by simpa only [IsR, Has] using i1, q _ H1 g1 (by simp only [IsR, Has])⟩⟩
    · cases e
theorem rdCh (K : PySem.W.Frag) (σ : St) (H : Hp) (Q : VK) (q : rd K (dCh g g' f h k) σ H Q) : tChain (r2R K g) (r2R K g') (rd K f) (rd K h) (rd K k) σ H Q := by
  obtain ⟨B, δ, r, rp, e, q⟩ := q
  obtain ⟨x, ex, e⟩ := bs e
  obtain ⟨y, ey, e⟩ := bs e
  obtain ⟨z, ez, e⟩ := bs e
  refine ⟨B, δ, x, rp, ex, fun v H1 g1 i1 => ⟨B, δ, y, rp.grow g1, ey, fun u H2 g2 i2 => ?_⟩⟩
  have s1 := rp.same.trans g1
  have s2 := s1.trans g2
  refine ⟨x, y, z, (i1.vw s1).grow g2, i2.vw s2, ez, fun w H3 g3 o => ?_⟩
  split at e
  · refine ⟨true, by simpa only [Out, Has] using o, iteT ?_⟩
    obtain ⟨m, em, e⟩ := bs e
    refine ⟨B, δ, m, ((rp.grow g1).grow g2).grow g3, em, fun w' H4 g4 i4 => ?_⟩
    exact ⟨y, m, r, ((i2.vw s2).grow g3).grow g4, i4.vw ((s2.trans g3).trans g4), e, fun w5 H5 g5 o5 => q w5 H5 (g1.trans (g2.trans (g3.trans (g4.trans g5)))) (o5.is (g1.trans (g2.trans (g3.trans g4))))⟩
  · cases e
    exact ⟨false, by simpa only [Out, Has] using o, iteF (q _ H3 (g1.trans (g2.trans g3)) (by simp only [IsR, Has]))⟩
  · cases e
theorem dt_ch {op op' : CmpOp} (ho : OpR X (compareOp op) (r2R X.K g)) (ho' : OpR X (compareOp op') (r2R X.K g')) (ha : DE X a f) (hb : DE X b h) (hc : DE X c k) (hm : lastMarks [op, op'] [b, c] = false := by rfl) :
    DT X (.Compare a [op, op'] [b, c] pos) (qB (dCh g g' f h k)) := pt_to (pt_chain ho ho' ha hb hc hm) fun σ H Q q => rdCh X.K σ H _ (rdT X.K σ H Q q)
end


section
variable {X : Cx}
theorem o_int {f : Value → Value → Sem Value} {C : Int → Int → Prop} {gv : Int → Int → V} {k : Int → Int → Option D} (ho : OpR X f (rI C gv)) (hk : ∀ i j d, k i j = some d → C i j ∧ ∀ K H, Has K H d (gv i j)) : OpR X f (r2R X.K (gI k)) := by
  intro pins s σ H x y v u Q I rx ry h
  obtain ⟨r1, r2, r, h1, h2, e, q⟩ := h
  unfold gI at e
  split at e
  · rename_i i j
    obtain ⟨d, ed, er⟩ := ms e
    subst er
    obtain ⟨c1, c2⟩ := hk i j d ed
    have h1 : Has X.K H (.int i) x := h1
    have h2 : Has X.K H (.int j) y := h2
    simp only [Has] at h1 h2
    exact ho pins s σ H x y v u Q I rx ry ⟨i, j, h1, h2, c1, q _ H (Same.refl _) (c2 _ _)⟩
  · cases e
theorem o_int0 {f : Value → Value → Sem Value} {gv : Int → Int → V} {k : Int → Int → Option D} (ho : OpR X f (rI0 gv)) (hk : ∀ i j d, k i j = some d → ∀ K H, Has K H d (gv i j)) : OpR X f (r2R X.K (gI k)) :=
  o_int (C := fun _ _ => True) (gv := gv) (fun pins s σ H x y v u Q I rx ry ⟨i, j, e1, e2, _, q⟩ => ho pins s σ H x y v u Q I rx ry ⟨i, j, e1, e2, q⟩) fun i j d e => ⟨trivial, hk i j d e⟩
theorem o_sub : OpR X (binaryOp .Sub) (r2R X.K (gI kSub)) := o_int0 op_sub fun i j d e K H => by cases e; simp only [Has]
theorem o_mul : OpR X (binaryOp .Mult) (r2R X.K (gI kMul)) := o_int op_mul fun i j d e => by
  unfold kMul at e
  split at e
  · rename_i c
    cases e
    exact ⟨c, fun K H => by simp only [Has]⟩
  · cases e
theorem o_div : OpR X (binaryOp .FloorDiv) (r2R X.K (gI kDiv)) := o_int op_fdiv fun i j d e => by
  unfold kDiv at e
  split at e
  · rename_i c
    cases e
    exact ⟨c, fun K H => by simp only [Has]⟩
  · cases e
theorem o_mod : OpR X (binaryOp .Mod) (r2R X.K (gI kMod)) := o_int op_mod fun i j d e => by
  unfold kMod at e
  split at e
  · rename_i c
    cases e
    exact ⟨c, fun K H => by simp only [Has]⟩
  · cases e
theorem o_lt : OpR X (compareOp .Lt) (r2R X.K (gI kLt)) := o_int0 op_lt fun i j d e K H => by cases e; simp only [Has]
theorem o_le : OpR X (compareOp .LtE) (r2R X.K (gI kLe)) := o_int0 op_le fun i j d e K H => by cases e; simp only [Has]
theorem u_neg : UnR X (unaryOp .USub) (r1R X.K gNeg) := by
  intro pins s σ H x v Q I rx h
  obtain ⟨r1, r, h1, e, q⟩ := h
  unfold gNeg at e
  split at e
  · rename_i i
    cases e
    have h1 : Has X.K H (.int i) x := h1
    simp only [Has] at h1
    exact un_neg pins s σ H x v Q I rx ⟨i, h1, q _ H (Same.refl _) (by simp only [Out, Has])⟩
  · cases e
theorem eqK_scal {K : PySem.W.Frag} {H : Hp} {x y : D} {v u : V} {b : Bool} (h1 : Has K H x v) (h2 : Has K H y u) (e : eqK x y = some b) : scal v u = true ∧ decide (v = u) = b := by
  unfold eqK at e
  split at e <;> first
    | (simp only [Has] at h1 h2; subst h1; subst h2; cases e; exact ⟨rfl, by simp⟩)
    | cases e
theorem o_eq : OpR X (compareOp .Eq) (r2R X.K gEq) := by
  intro pins s σ H x y v u Q I rx ry h
  obtain ⟨r1, r2, r, h1, h2, e, q⟩ := h
  unfold gEq at e
  split at e
  · obtain ⟨b, eb, er⟩ := ms e
    subst er
    obtain ⟨c1, c2⟩ := eqK_scal h1 h2 eb
    exact op_eq pins s σ H x y v u Q I rx ry ⟨c1, q _ H (Same.refl _) (by simp only [Out, Has, c2])⟩
  · cases e
theorem o_ne : OpR X (compareOp .NotEq) (r2R X.K gNe) := by
  intro pins s σ H x y v u Q I rx ry h
  obtain ⟨r1, r2, r, h1, h2, e, q⟩ := h
  unfold gNe at e
  split at e
  · obtain ⟨b, eb, er⟩ := ms e
    subst er
    obtain ⟨c1, c2⟩ := eqK_scal h1 h2 eb
    exact op_ne pins s σ H x y v u Q I rx ry ⟨c1, q _ H (Same.refl _) (by simp only [Out, Has, c2])⟩
  · cases e
theorem vw_non {K : PySem.W.Frag} {H : Hp} {r : R} {v : V} (h : VwR K H r v) : decide (v = .non) = isN r := by
  cases r with
  | d x =>
    have h : Has K H x v := h
    cases x with
    | non => simp only [Has] at h; subst h; rfl
    | bl b => simp only [Has] at h; subst h; rfl
    | int b => simp only [Has] at h; subst h; rfl
    | str b => simp only [Has] at h; subst h; rfl
    | tup b => simp only [Has] at h; obtain ⟨a, xs, e, _⟩ := h; subst e; rfl
    | fu b => simp only [Has] at h; obtain ⟨a, e, _⟩ := h; subst e; rfl
  | l f ds => obtain ⟨a, xs, e, _⟩ := h.sq; subst e; rfl
theorem o_is : OpR X (compareOp .Is) (r2R X.K (g2N gIsN)) := by
  intro pins s σ H x y v u Q I rx ry h
  obtain ⟨r1, r2, r, h1, h2, e, q⟩ := h
  unfold g2N at e
  split at e
  · cases e
    have h2 : Has X.K H .non y := h2
    simp only [Has] at h2
    exact op_isN pins s σ H x y v u Q I rx ry ⟨h2, q _ H (Same.refl _) (by simp only [Out, Has, vw_non h1])⟩
  · cases e
theorem o_isnot : OpR X (compareOp .IsNot) (r2R X.K (g2N gNotN)) := by
  intro pins s σ H x y v u Q I rx ry h
  obtain ⟨r1, r2, r, h1, h2, e, q⟩ := h
  unfold g2N at e
  split at e
  · cases e
    have h2 : Has X.K H .non y := h2
    simp only [Has] at h2
    exact op_notN pins s σ H x y v u Q I rx ry ⟨h2, q _ H (Same.refl _) (by simp only [Out, Has, vw_non h1])⟩
  · cases e
theorem cat_nil {prog : Program} {w : World} {A : Around} {E : Value → Shared → Prop} {s : Shared} {t b : Addr} {vs ws : List Value} {Q : Value → Shared → Prop} (ht : IsTup s.heap t vs.toArray) (hb : IsTup s.heap b ws.toArray) (hv : vs = []) (h1 : Q (.ref b) s) :
    wpAny (model prog w) A (binaryOp .Add (.ref t) (.ref b)) Q E s := by
  obtain ⟨⟨cls, dd, data, sl⟩, ho, hc, n, hd⟩ := id ht
  obtain ⟨⟨cls2, dd2, data2, sl2⟩, ho2, hc2, n2, hd2⟩ := id hb
  simp only at hc hd hc2 hd2
  subst hc hd hc2 hd2
  exact concat_meets ⟨_, ho, rfl⟩ ⟨_, ho2, rfl⟩ noFill_tuple_add seq_tuple_add PySem.F.slot_tuple_add PySem.F.entry_tuple_add (PySem.F.args_tuple_add_2 _ _)
    (tuple_addW0 t b vs.toArray ws.toArray n n2 dd dd2 sl sl2 (by simp [hv])) ⟨ho, ho2, h1⟩
theorem o_add : OpR X (binaryOp .Add) (r2R X.K gAdd) := by
  intro pins s σ H x y v u Q I rx ry h
  obtain ⟨r1, r2, r, h1, h2, e, q⟩ := h
  unfold gAdd at e
  split at e
  · rename_i i j
    cases e
    have h1 : Has X.K H (.int i) x := h1
    have h2 : Has X.K H (.int j) y := h2
    simp only [Has] at h1 h2
    exact op_add pins s σ H x y v u Q I rx ry ⟨i, j, h1, h2, q _ H (Same.refl _) (by simp only [Out, Has])⟩
  · rename_i es
    cases e
    have h1 : Has X.K H (.tup []) x := h1
    have h2 : Has X.K H (.tup es) y := h2
    have h3 := h2
    simp only [Has] at h1 h2
    obtain ⟨a1, xs, e1, s1, l1⟩ := h1
    obtain ⟨a2, ys, e2, s2, l2⟩ := h2
    have n1 := l1.len
    subst e1
    subst e2
    cases (show v = Value.ref a1 from rx)
    cases (show u = Value.ref a2 from ry)
    obtain ⟨its, r1, p1, _⟩ := I.tuple s1
    obtain ⟨its2, r2, p2, _⟩ := I.tuple s2
    have m1 := r1.length
    refine cat_nil p1 p2 (by cases its with | nil => rfl | cons _ _ => simp at m1 n1; omega) ⟨.ref a2, H, I, rfl, q _ H (Same.refl _) h3⟩
  · rename_i d ds es
    split at e
    · rename_i hz
      cases e
      have h1 : Has X.K H (.tup (d :: ds)) x := h1
      have h2 : Has X.K H (.tup es) y := h2
      simp only [Has] at h1 h2
      obtain ⟨a1, xs, e1, s1, l1⟩ := h1
      obtain ⟨a2, ys, e2, s2, l2⟩ := h2
      have n1 := l1.len
      have n2 := l2.len
      rw [List.length_cons] at n1
      refine op_catT pins s σ H x y v u Q I rx ry ⟨a1, a2, xs, ys, e1, e2, s1, s2, (by rintro rfl; cases n1), line10000 (by omega), fun z => ?_, fun z p hp => ?_⟩
      · have z2 : es = [] := by subst z; cases es with | nil => rfl | cons _ _ => cases n2
        subst z2
        refine q _ H (Same.refl _) ?_
        show Has X.K H (.tup (d :: ds ++ [])) _
        rw [List.append_nil]
        simp only [Has]
        exact ⟨a1, xs, rfl, s1, l1⟩
      · have g := same_new hp (.tup (xs ++ ys))
        refine q _ _ g ?_
        show Has X.K _ (.tup (d :: ds ++ es)) _
        simp only [Has]
        exact ⟨p, xs ++ ys, rfl, SqT.of upd_same, (l1.app l2).grow g⟩
    · cases e
  · rename_i f xs' g' ys'
    split at e
    · rename_i hz
      cases e
      obtain ⟨a1, xs, e1, s1, l1⟩ := h1.trk hz.1
      obtain ⟨a2, ys, e2, s2, l2⟩ := h2.trk hz.2.1
      have n1 := l1.len
      have n2 := l2.len
      refine op_cat pins s σ H x y v u Q I rx ry ⟨a1, a2, xs, ys, e1, e2, s1, s2, line10000 (by omega), fun p hp => ?_⟩
      have g := same_new hp (.lst (xs ++ ys))
      exact q _ _ g ⟨p, xs ++ ys, rfl, hp, upd_same, (l1.app l2).grow g⟩
    · cases e
  · cases e
end


section
variable {X : Cx} {pos p2 : Pos} {a b c : Expr} {f h k : DEn} {es : List Expr} {t : DAn}
theorem ix_any : IxR X (r2R X.K gIx) := by
  intro value slice pins s σ H x y v u Q I rx ry h hs
  obtain ⟨r1, r2, r, h1, h2, e, q⟩ := h
  unfold gIx at e
  split at e
  · rename_i ds i
    obtain ⟨d, e1, e2⟩ := ms e
    subst e2
    have h1 : Has X.K H (.tup ds) x := h1
    have h2 : Has X.K H (.int i) y := h2
    simp only [Has] at h1 h2
    obtain ⟨a1, xs, e3, s1, l1⟩ := h1
    obtain ⟨w, e4, e5⟩ := l1.at e1
    exact ix_tup value slice pins s σ H x y v u Q I rx ry ⟨a1, xs, i, w, e3, h2, s1, e4, q _ H (Same.refl _) e5⟩ hs
  · rename_i fl ds i
    obtain ⟨d, e1, e2⟩ := ms e
    subst e2
    have h2 : Has X.K H (.int i) y := h2
    simp only [Has] at h2
    obtain ⟨a1, xs, e3, s1, l1⟩ := h1.sq
    obtain ⟨w, e4, e5⟩ := l1.at e1
    exact ix_list value slice pins s σ H x y v u Q I rx ry ⟨a1, xs, i, w, e3, h2, s1, e4, q _ H (Same.refl _) e5⟩ hs
  · cases e
theorem de_ix (ha : DE X a f) (hb : DE X b h) (hs : PlainIx b := by intro _ _; rfl) : DE X (.Subscript a b pos) (d2 gIx f h) := pe_to (pe_ix ix_any ha hb hs) (rd2 X.K)
noncomputable def ro (K : PySem.W.Frag) (o : Option DEn) : TO := fun σ H Q => ∃ B δ i, Rep K B δ σ H ∧ oI o δ = some i ∧ ∀ H', Same H H' → Q i H'
theorem do_none : PO X none (ro X.K none) := fun pins s σ H Q I ⟨B, δ, i, rp, e, q⟩ => by
  cases e
  exact po_none pins s σ H Q I (q H (Same.refl _))
theorem do_some (ha : DE X a f) : PO X (some a) (ro X.K (some f)) := fun pins s σ H Q I ⟨B, δ, i, rp, e, q⟩ => by
  unfold oI at e
  dsimp only at e
  split at e
  · rename_i j e0
    cases e
    refine po_some ha pins s σ H Q I ⟨B, δ, _, rp, e0, fun v H1 g1 i1 => ⟨j, ?_, q H1 g1⟩⟩
    have i1 : Has X.K H1 (.int j) v := i1
    simpa only [Has] using i1
  · cases e
end
end DL

namespace HT
open PySem PyProof.Rows
section
variable {prog : Program} {w : World} {A : Around} {E : Value → Shared → Prop} {s : Shared}
theorem getItem_tuple_all {t sl : Addr} {items : Array Value} {vl vu : Value} {lo hi : Option Int} {Q : Value → Shared → Prop} (ht : IsTup s.heap t items) (hs : s.heap.IsSliceOf sl vl vu .none) (pl : IsPart vl lo) (pu : IsPart vu hi)
    (hw : sIx items.size 0 lo = 0 ∧ sIx items.size items.size hi = items.size) (h : Q (.ref t) s) : wpAny (model prog w) A (getItem (.ref t) (.ref sl)) Q E s := by
  obtain ⟨os, hos, hcs, hds⟩ := id hs
  have hTs : s.TypeIs (.ref sl) "slice" := ⟨os, hos, hcs⟩
  unfold getItem
  try with_reducible refine wpAny_holding ?_
  first | refine wpAny_bind (wpAny_pure ?_) | skip
  refine wpAny_bind (wpAny_sequenceKey ht.typeIs (by decide) ?_)
  refine wpAny_bind (wpAny_callSpecial?_slot (name := Str.ofString "__getitem__") ht.typeIs PyProof.Rows.slot_tuple_getitem
    (wpAny_call_entry PyProof.Rows.slot_tuple_getitem ht.typeIs entry_tuple_getitem ?_ (args_tuple_getitem _ _)))
  show wpAny _ _ (Builtin.Tuple.tupleItemsOf (.ref t) >>= _) _ _ s
  refine wpAny_bind (tupleItemsOf_ ht ?_)
  refine wpAny_bind (wpAny_typeOf hTs ?_)
  rw [if_pos (by decide)]
  refine wpAny_bind (sliceApplied_gen hs pl pu ?_)
  have hyes : ((((sIx items.size 0 lo : Nat) : Int) == 0 && (1 : Int) == 1 && (sIx items.size items.size hi - sIx items.size 0 lo) == items.size) = true) := by
    rw [hw.1, hw.2]
    simp
  show wpAny _ _ (if (((sIx items.size 0 lo : Nat) : Int) == 0 && (1 : Int) == 1 && (sIx items.size items.size hi - sIx items.size 0 lo) == items.size) = true then _ else _) _ _ s
  rw [if_pos hyes]
  refine wpAny_bind ?_
  unfold Builtin.Tuple.tupleIsExact
  first
    | refine wpAny_bind (wpAny_typeOf ht.typeIs (wpAny_pure ?_))
    | refine wpAny_typeOf ht.typeIs ?_
  first
    | rw [if_pos (by decide)]
    | rw [if_pos rfl]
  exact wpAny_bind (wpAny_rule (wpAny_pure ⟨_, rfl, wpAny_pure h⟩))
end
end HT

namespace DL
open PySem PySem.Spec PyProof.Rows L2
section
variable {X : Cx} {pos p2 : Pos} {a b c : Expr} {f h k : DEn} {es : List Expr} {t : DAn}
theorem sl_all : SlR X (fun x lo hi H Q => ∃ a xs, x = .ref a ∧ SqT X.K H a xs ∧ (HT.sIx xs.length 0 lo = 0 ∧ HT.sIx xs.length xs.length hi = xs.length) ∧ Q (.ref a) H) := by
  intro pins s σ H x v vl vu lo hi sl Q I rx hs pl pu h
  obtain ⟨a, xs, rfl, hx, hw, q⟩ := h
  cases rx
  obtain ⟨its, r, ht, hz⟩ := I.tuple hx
  have hlen : its.toArray.size = xs.length := by rw [List.size_toArray]; exact r.length.symm
  refine ⟨"tuple", _, PyProof.Rows.slot_tuple_getitem.lookup, ht.typeIs, ?_⟩
  exact HT.getItem_tuple_all ht hs pl pu (by rw [hlen]; exact hw) ⟨.ref a, H, I, rfl, q⟩
noncomputable def gSl (x : R) (l h : Option Int) : Option R := match x with
  | .d (.tup ds) => some (.d (.tup (cutP ds l h)))
  | .l _ ds => some (.l .own (cutP ds l h))
  | _ => none
theorem cut_all {xs : List V} {lo hi : Option Int} (h : HT.sIx xs.length 0 lo = 0 ∧ HT.sIx xs.length xs.length hi = xs.length) : cutV xs lo hi = xs := by
  unfold cutV
  rw [h.1, h.2]
  simp
theorem sl_any : SlR X (fun x lo hi H Q => ∃ r1 r, VwR X.K H r1 x ∧ gSl r1 lo hi = some r ∧ ∀ v H', Same H H' → Out X.K H H' r v → Q v H') := by
  intro pins s σ H x v vl vu lo hi sl Q I rx hs pl pu h
  obtain ⟨r1, r, h1, e, q⟩ := h
  unfold gSl at e
  split at e
  · rename_i ds
    cases e
    have h1 : Has X.K H (.tup ds) x := h1
    simp only [Has] at h1
    obtain ⟨a1, xs, e3, s1, l1⟩ := h1
    by_cases hw : HT.sIx xs.length 0 lo = 0 ∧ HT.sIx xs.length xs.length hi = xs.length
    · refine sl_all pins s σ H x v vl vu lo hi sl Q I rx hs pl pu ⟨a1, xs, e3, s1, hw, q _ H (Same.refl _) ?_⟩
      show Has X.K H (.tup (cutP ds lo hi)) _
      simp only [Has]
      refine ⟨a1, xs, rfl, s1, ?_⟩
      have := l1.cut (lo := lo) (hi := hi)
      rw [cut_all hw] at this
      exact this
    · refine sl_tup pins s σ H x v vl vu lo hi sl Q I rx hs pl pu ⟨a1, xs, e3, s1, hw, fun p hp => ?_⟩
      have g := same_new hp (.tup (cutV xs lo hi))
      refine q _ _ g ?_
      show Has X.K _ (.tup (cutP ds lo hi)) _
      simp only [Has]
      exact ⟨p, _, rfl, SqT.of upd_same, l1.cut.grow g⟩
  · rename_i fl ds
    cases e
    obtain ⟨a1, xs, e3, s1, l1⟩ := h1.sq
    refine sl_list pins s σ H x v vl vu lo hi sl Q I rx hs pl pu ⟨a1, xs, e3, s1, fun p hp => ?_⟩
    have g := same_new hp (.lst (cutV xs lo hi))
    exact q _ _ g ⟨p, _, rfl, hp, upd_same, l1.cut.grow g⟩
  · cases e
theorem da_nil : DA X [] aNil := pa_to pa_nil fun σ H Q ⟨B, δ, r, rp, e, q⟩ => by
  cases e
  exact q [] H (Same.refl _) rfl
theorem IsRs.grow {K : PySem.W.Frag} {B H H1 H2 : Hp} (g : Same H1 H2) : ∀ {rs : List R} {vs : List V}, IsRs K B H H1 rs vs → IsRs K B H H2 rs vs
  | [], _, h => h
  | _ :: _, _, ⟨v, ws, e, h1, h2⟩ => ⟨v, ws, e, h1.grow g, IsRs.grow g h2⟩
theorem IsRs.early {K : PySem.W.Frag} {B H H1 H2 : Hp} (g : Same H H1) : ∀ {rs : List R} {vs : List V}, IsRs K B H1 H2 rs vs → IsRs K B H H2 rs vs
  | [], _, h => h
  | _ :: _, _, ⟨v, ws, e, h1, h2⟩ => ⟨v, ws, e, h1.early g, IsRs.early g h2⟩
theorem IsRs.len {K : PySem.W.Frag} {B H H1 : Hp} : ∀ {rs : List R} {vs : List V}, IsRs K B H H1 rs vs → rs.length = vs.length
  | [], _, h => by
    have h : _ = [] := h
    subst h; rfl
  | _ :: _, _, ⟨v, ws, e, h1, h2⟩ => by subst e; simp [IsRs.len h2]
theorem da_cons (ha : DE X a f) (hr : DA X es t) (hs : starEach (a :: es) X.env = (false, eval a X.env) :: starEach es X.env := by rfl) : DA X (a :: es) (aCons f t) :=
  pa_to (pa_cons ha hr hs) fun σ H Q ⟨B, δ, r, rp, e, q⟩ => by
    obtain ⟨x, ex, e⟩ := bs e
    obtain ⟨y, ey, e⟩ := bs e
    cases e
    exact ⟨B, δ, x, rp, ex, fun v H1 g1 i1 => ⟨B, δ, y, rp.grow g1, ey, fun vs H2 g2 i2 => q (v :: vs) H2 (g1.trans g2) ⟨v, vs, rfl, i1.grow g2, i2.early g1⟩⟩⟩
theorem plain_has {K : PySem.W.Frag} {B H H' : Hp} : ∀ {rs : List R} {vs : List V} {ds : List D}, IsRs K B H H' rs vs → plainD rs = some ds → HasL K H' ds vs
  | [], vs, ds, h, e => by
    have h : vs = [] := h
    subst h
    cases e
    exact HasL.nil
  | .d x :: rs, vs, ds, ⟨v, ws, e1, h1, h2⟩, e => by
    subst e1
    obtain ⟨es, e2, e3⟩ := ms (show (plainD rs).map (x :: ·) = some ds from e)
    subst e3
    exact HasL.cons h1 (plain_has h2 e2)
  | .l f xs :: rs, vs, ds, h, e => by cases e
theorem de_tup {x1} (hh : DA X es t) : DE X (.Tuple es x1 pos) (dTup t) :=
  pe_to (pe_tup hh) fun σ H Q ⟨B, δ, r, rp, e, q⟩ => by
    obtain ⟨rs, e1, e⟩ := bs e
    split at e
    · rename_i hz
      obtain ⟨ds, e2, e3⟩ := ms e
      subst e3
      refine ⟨B, δ, rs, rp, e1, fun vs H1 g1 i1 => ⟨line10000 (by rw [← i1.len]; omega), fun p hp => ?_⟩⟩
      have g := same_new hp (.tup vs)
      refine q _ _ (g1.trans g) ?_
      show Has X.K _ (.tup ds) _
      simp only [Has]
      exact ⟨p, vs, rfl, SqT.of upd_same, (plain_has i1 e2).grow g⟩
    · cases e
theorem de_lst (hh : DA X es t) : DE X (.List es pos) (dLst t) :=
  pe_to (pe_lst hh) fun σ H Q ⟨B, δ, r, rp, e, q⟩ => by
    obtain ⟨rs, e1, e⟩ := bs e
    split at e
    · rename_i hz
      obtain ⟨ds, e2, e3⟩ := ms e
      subst e3
      refine ⟨B, δ, rs, rp, e1, fun vs H1 g1 i1 => ⟨line10000 (by rw [← i1.len]; omega), fun p hp => ?_⟩⟩
      have g := same_new hp (.lst vs)
      exact q _ _ (g1.trans g) ⟨p, vs, rfl, g1.free hp, upd_same, (plain_has i1 e2).grow g⟩
    · cases e
end


noncomputable def ArgsOk (K : PySem.W.Frag) (H : Hp) : List R → List V → Prop
  | [], vs => vs = []
  | r :: rs, vs => ∃ v ws, vs = v :: ws ∧ IsS K H H r v ∧ (∀ ds, r ≠ .l .own ds) ∧ ArgsOk K H rs ws
noncomputable def spD (K : PySem.W.Frag) (F : Fn) : Sp := fun vs H Q _ => ∃ rs r, ArgsOk K H rs vs ∧ F rs = some r ∧ ∀ v H', Same H H' → Out K H H' r v → Q v H'
theorem ArgsOk.len {K : PySem.W.Frag} {H : Hp} : ∀ {rs : List R} {vs : List V}, ArgsOk K H rs vs → rs.length = vs.length
  | [], _, h => by
    have h : _ = [] := h
    subst h; rfl
  | _ :: _, _, ⟨v, ws, e, h1, _, h2⟩ => by subst e; simp [ArgsOk.len h2]
theorem args_of {K : PySem.W.Frag} {B H H' : Hp} (g : Same B H') : ∀ {rs : List R} {vs : List V}, IsRs K B H H' rs vs → ArgsOk K H' (rs.map R.arg) vs
  | [], _, h => h
  | r :: rs, _, ⟨v, ws, e, h1, h2⟩ => ⟨v, ws, e, (by
      have q := h1.vw g
      cases r with
      | d x => exact q
      | l f ds => exact q.sq), (by intro ds z; cases r <;> cases z), args_of g h2⟩
structure Cal (P : Program) (w : World) (K : PySem.W.Frag) (mg : Str → Option Value) (base : Heap) (n : Nat) (x : Str) (ps : List Str) (F : Fn) : Prop where
  ex : ∃ (f : Addr) (fd : FuncData), FnOk P w K mg base CX0 n f fd ps (spD K F) ∧ Binds K fd ps [] ∧ PySem.W.keepIn K (.ref f) = true ∧ mg x = some (.ref f) ∧ PySem.W.nsIn K mainGlobals x = some (some (.ref f))
section
variable {X : Cx} {pos p : Pos} {a b c : Expr} {f h k : DEn} {es : List Expr} {t : DAn}
theorem Cal.mono {P : Program} {w : World} {K : PySem.W.Frag} {mg : Str → Option Value} {base : Heap} {n m : Nat} {x : Str} {ps : List Str} {F : Fn} (C : Cal P w K mg base n x ps F) (h : n ≤ m) : Cal P w K mg base m x ps F :=
  let ⟨f, fd, F, r⟩ := C.ex
  ⟨f, fd, F.mono h, r⟩
theorem de_call {n m : Nat} {x : Str} {ps : List Str} {F : Fn} (C : Cal X.prog X.w X.K X.mg X.base n x ps F) (hr : Room m X.A) (hn : n ≤ m) (hg : Gl X x) (ha : DA X (a :: es) t) (hdb : (x == ("__debug__" : Str)) = false := by decide)
    (he : starEach (a :: es) X.env = (false, eval a X.env) :: starEach es X.env := by rfl) (hpl : (backTo pos (starEach es X.env)).any (·.1) = false := by rfl) : DE X (.Call (.Name x p) (a :: es) [] pos) (dCall F t) := by
  obtain ⟨fa, fd, F1, F2, F3, F4, _⟩ := C.ex
  refine pe_to (pe_call F1 (hr.mono hn) hg F4 F3 F2 .nil pass0 ha hdb he hpl) fun σ H Q ⟨B, δ, r, rp, e, q⟩ => ?_
  obtain ⟨rs, e1, e⟩ := bs e
  refine ⟨B, δ, rs, rp, e1, fun vs H1 g1 i1 => ?_⟩
  show spD X.K F (vs ++ []) H1 Q E0
  rw [List.append_nil]
  have ao := args_of (rp.same.trans g1) i1
  exact ⟨rs.map R.arg, r, ao, e, fun v H2 g2 o => q v H2 (g1.trans g2) (o.is g1)⟩
end
end DL

namespace DL
open PySem PySem.Spec PyProof.Rows L2


section
variable {X : Cx} {pos p : Pos} {a b c : Expr} {f h k : DEn} {es : List Expr} {t : DAn} {x : Str} {id T : String}
noncomputable def rB (K : PySem.W.Frag) (g : List R → Option R) : List V → Hp → VK → Prop := fun vs H Q => ∃ B H0 rs r, Same B H ∧ IsRs K B H0 H rs vs ∧ g rs = some r ∧ ∀ v H', Same H H' → Out K H H' r v → Q v H'
theorem rdB (K : PySem.W.Frag) {t : DAn} {g : List R → Option R} (σ : St) (H : Hp) (Q : VK) (q : rd K (dB g t) σ H Q) : tCB (rB K g) (ra K t) σ H Q := by
  obtain ⟨B, δ, r, rp, e, q⟩ := q
  obtain ⟨rs, e1, e⟩ := bs e
  exact ⟨B, δ, rs, rp, e1, fun vs H1 g1 i1 => ⟨B, H, rs, r, rp.same.trans g1, i1, e, fun v H2 g2 o => q v H2 (g1.trans g2) (o.is g1)⟩⟩
theorem de_bi {g : List R → Option R} (hc : CallR X (.builtin id) (rB X.K g)) (hg : Gl X x) (hm : X.mg x = none) (hv : bootBuiltins x = some (.builtin id)) (ha : DA X (a :: es) t) (hn : x ≠ "__name__" := by decide) (hdb : (x == ("__debug__" : Str)) = false := by decide)
    (he : starEach (a :: es) X.env = (false, eval a X.env) :: starEach es X.env := by rfl) (hpl : (backTo pos (starEach es X.env)).any (·.1) = false := by rfl) : DE X (.Call (.Name x p) (a :: es) [] pos) (dB g t) :=
  pe_to (pe_callB hc hg hm hv ha hn hdb he hpl) (rdB X.K)
theorem de_ty {g : List R → Option R} (hc : CallR X (.type T) (rB X.K g)) (hg : Gl X x) (hm : X.mg x = none) (hv : bootBuiltins x = some (.type T)) (ha : DA X (a :: es) t) (hn : x ≠ "__name__" := by decide) (hdb : (x == ("__debug__" : Str)) = false := by decide)
    (he : starEach (a :: es) X.env = (false, eval a X.env) :: starEach es X.env := by rfl) (hpl : (backTo pos (starEach es X.env)).any (·.1) = false := by rfl) : DE X (.Call (.Name x p) (a :: es) [] pos) (dB g t) :=
  pe_to (pe_callTy hc hg hm hv ha hn hdb he hpl) (rdB X.K)
theorem isrs1 {K : PySem.W.Frag} {B H H' : Hp} {r : R} {vs : List V} (h : IsRs K B H H' [r] vs) : ∃ v, vs = [v] ∧ IsR K B H H' r v := by
  obtain ⟨v, ws, e, h1, h2⟩ := h
  have h2 : ws = [] := h2
  subst h2
  exact ⟨v, e, h1⟩
theorem c_len : CallR X (.builtin "len") (rB X.K gLen) := by
  intro pins s σ H xs us Q I rv h
  obtain ⟨B, H0, rs, r, sB, i1, e, q⟩ := h
  unfold gLen at e
  split at e
  · rename_i ds
    cases e
    obtain ⟨v, e1, i2⟩ := isrs1 i1
    subst e1
    have i2 : Has X.K H (.tup ds) v := i2
    simp only [Has] at i2
    obtain ⟨a, ys, e2, s2, l2⟩ := i2
    subst e2
    exact call_len_seq pins s σ H _ us Q I rv ⟨a, ys, rfl, .inr s2, q _ H (Same.refl _) (by simp only [Out, Has, l2.len])⟩
  · rename_i fl ds
    cases e
    obtain ⟨v, e1, i2⟩ := isrs1 i1
    subst e1
    obtain ⟨a, ys, e2, s2, l2⟩ := (i2.vw sB).sq
    subst e2
    exact call_len_seq pins s σ H _ us Q I rv ⟨a, ys, rfl, .inl s2, q _ H (Same.refl _) (by simp only [Out, Has, l2.len])⟩
  · cases e
theorem c_tuple : CallR X (.type "tuple") (rB X.K gTuple) := by
  intro pins s σ H xs us Q I rv h
  obtain ⟨B, H0, rs, r, sB, i1, e, q⟩ := h
  unfold gTuple at e
  split at e
  · rename_i ds
    cases e
    obtain ⟨v, e1, i2⟩ := isrs1 i1
    subst e1
    have i2 : Has X.K H (.tup ds) v := i2
    have i3 := i2
    simp only [Has] at i2
    obtain ⟨a, ys, e2, s2, l2⟩ := i2
    subst e2
    exact call_tuple_of pins s σ H _ us Q I rv ⟨a, ys, rfl, .inr ⟨s2, q _ H (Same.refl _) i3⟩⟩
  · rename_i fl ds
    cases e
    obtain ⟨v, e1, i2⟩ := isrs1 i1
    subst e1
    obtain ⟨a, ys, e2, s2, l2⟩ := (i2.vw sB).sq
    subst e2
    refine call_tuple_of pins s σ H _ us Q I rv ⟨a, ys, rfl, .inl ⟨s2, fun l hl => ?_⟩⟩
    have g := same_new hl (.tup ys)
    refine q _ _ g ?_
    show Has X.K _ (.tup ds) _
    simp only [Has]
    exact ⟨l, ys, rfl, SqT.of upd_same, l2.grow g⟩
  · cases e
end


noncomputable def Ty.name : Ty → String
  | .int => "int" | .bool => "bool" | .tuple => "tuple" | .str => "str"
section
variable {X : Cx} {pos p p2 : Pos} {a : Expr} {f : DEn}
theorem kit_int (K : PySem.W.Frag) (T : Ty) : PySem.W.kitOne K (.type "int") (.type T.name) = some (isT T (.int 0)) := by cases T <;> rfl
theorem kit_bool (K : PySem.W.Frag) (T : Ty) : PySem.W.kitOne K (.type "bool") (.type T.name) = some (isT T (.bl true)) := by cases T <;> rfl
theorem kit_none (K : PySem.W.Frag) (T : Ty) : PySem.W.kitOne K (.type "NoneType") (.type T.name) = some (isT T .non) := by cases T <;> rfl
theorem kit_str (K : PySem.W.Frag) (T : Ty) : PySem.W.kitOne K (.type "str") (.type T.name) = some (isT T (.str (Str.ofString ""))) := by cases T <;> rfl
theorem kit_tuple (K : PySem.W.Frag) (T : Ty) : PySem.W.kitOne K (.type "tuple") (.type T.name) = some (isT T (.tup [])) := by cases T <;> rfl
theorem c_isi (T : Ty) : CallR X (.builtin "isinstance") (fun xs H Q => ∃ v x, xs = [v, .ty T.name] ∧ Has X.K H x v ∧ (∀ y, x ≠ .fu y) ∧ Q (.bl (isT T x)) H) := by
  intro pins s σ H xs us Q I rv h
  obtain ⟨v, x, e, hx, nf, q⟩ := h
  subst e
  obtain ⟨u, u', e, ru, ru'⟩ := vals2 rv
  subst e
  have ru' : u' = Value.type T.name := ru'
  subst ru'
  cases x with
  | fu y => exact (nf y rfl).elim
  | non =>
    simp only [Has] at hx
    subst hx
    exact isinst_ok I ru .non (kit_none _ T) fun tk => ⟨V.bl _, H, I.tok tk, rfl, q⟩
  | bl b =>
    simp only [Has] at hx
    subst hx
    refine isinst_ok I ru (.bl b) (kit_bool _ T) fun tk => ⟨V.bl _, H, I.tok tk, rfl, ?_⟩
    have e : isT T (.bl true) = isT T (.bl b) := by cases T <;> rfl
    rw [e]
    exact q
  | int i =>
    simp only [Has] at hx
    subst hx
    refine isinst_ok I ru (.int i) (kit_int _ T) fun tk => ⟨V.bl _, H, I.tok tk, rfl, ?_⟩
    have e : isT T (.int 0) = isT T (.int i) := by cases T <;> rfl
    rw [e]
    exact q
  | str y =>
    simp only [Has] at hx
    subst hx
    refine isinst_ok I ru (.str y) (kit_str _ T) fun tk => ⟨V.bl _, H, I.tok tk, rfl, ?_⟩
    have e : isT T (.str (Str.ofString "")) = isT T (.str y) := by cases T <;> rfl
    rw [e]
    exact q
  | tup ds =>
    simp only [Has] at hx
    obtain ⟨a, ys, e2, s2, l2⟩ := hx
    subst e2
    cases (show u = Value.ref a from ru)
    obtain ⟨its, rr, ht, hz⟩ := I.tuple s2
    obtain ⟨o, h1, h2, _⟩ := ht
    refine PySem.W.kia_one PySem.W.kitx_tuple I.kIn ⟨o, h1, h2⟩ (kit_tuple _ T) (fun z => nomatch z) fun tk => ⟨V.bl _, H, I.tok tk, rfl, ?_⟩
    have e : isT T (.tup []) = isT T (.tup ds) := by cases T <;> rfl
    rw [e]
    exact q
theorem de_isi (T : Ty) {x : Str} (hT : bootBuiltins x = some (.type T.name)) (ha : DE X a f) (hg : Gl X "isinstance") (hm : X.mg "isinstance" = none) (hg2 : Gl X x) (hm2 : X.mg x = none)
    (hn : x ≠ "__name__" := by decide) (hd : (x == ("__debug__" : Str)) = false := by decide)
    (he : starEach [a, .Name x p2] X.env = (false, eval a X.env) :: starEach [.Name x p2] X.env := by rfl) (he2 : starEach [.Name x p2] X.env = (false, eval (.Name x p2) X.env) :: starEach [] X.env := by rfl) (hpl : (backTo pos (starEach [.Name x p2] X.env)).any (·.1) = false := by rfl) :
    DE X (.Call (.Name "isinstance" p) [a, .Name x p2] [] pos) (d1 (gIs T) f) :=
  pe_to (pe_callB (c_isi T) hg hm boot_isinstance (pa_cons ha (pa_cons (pe_bltn hg2 hm2 hT (v := .ty T.name) rfl hn hd) pa_nil he2) he) (by decide) (by decide) he hpl) fun σ H Q ⟨B, δ, r, rp, e, q⟩ => by
    obtain ⟨x, ex, e⟩ := bs e
    refine ⟨B, δ, x, rp, ex, fun v H1 g1 i1 => ?_⟩
    cases x with
    | d x =>
      have nf : ∀ y, x ≠ .fu y := fun y z => by subst z; cases e
      have e' : gIs T (.d x) = some (.d (.bl (isT T x))) := by cases x <;> first | rfl | exact (nf _ rfl).elim
      rw [e'] at e
      cases e
      exact ⟨v, x, rfl, i1, nf, q _ H1 g1 (by simp only [IsR, Has])⟩
    | l _ _ => cases e
end
end DL

namespace DL
open PySem PySem.Spec PyProof.Rows L2


theorem TK.refl {K : PySem.W.Frag} (H : Hp) : TK K H H := fun _ _ h => h
theorem TK.trans {K : PySem.W.Frag} {H H1 H2 : Hp} (a : TK K H H1) (b : TK K H1 H2) : TK K H H2 := fun c o h => b c o (a c o h)
noncomputable def en (X : Cx) (W : Hp → Prop) (D : Ends) (B H : Hp) : O → Prop
  | .ex => ∀ H', Same X.H₀ H' → W H'
  | .nx δ => ∀ B' σ' H', Same B B' → TK X.K H H' → Rep X.K B' δ σ' H' → D.nx σ' H'
  | .bk δ => ∀ B' σ' H', Same B B' → TK X.K H H' → Rep X.K B' δ σ' H' → D.bk σ' H'
  | .ct δ => ∀ B' σ' H', Same B B' → TK X.K H H' → Rep X.K B' δ σ' H' → D.ct σ' H'
  | .rt r => ∀ v H', Same X.H₀ H' → Out X.K X.H₀ H' r v → D.rt v H'
noncomputable def sd (X : Cx) (W : Hp → Prop) (t : DSn) : TS := fun D σ H => ∃ B δ o, Same X.H₀ B ∧ Rep X.K B δ σ H ∧ t δ = some o ∧ en X W D B H o
theorem en.later {X : Cx} {W : Hp → Prop} {D : Ends} {B B' H H' : Hp} {o : O} (q : en X W D B H o) (sB : Same B B') (tk : TK X.K H H') : en X W D B' H' o := by
  cases o with
  | ex => exact q
  | nx δ => exact fun B2 σ2 H2 s2 t2 r2 => q B2 σ2 H2 (sB.trans s2) (tk.trans t2) r2
  | bk δ => exact fun B2 σ2 H2 s2 t2 r2 => q B2 σ2 H2 (sB.trans s2) (tk.trans t2) r2
  | ct δ => exact fun B2 σ2 H2 s2 t2 r2 => q B2 σ2 H2 (sB.trans s2) (tk.trans t2) r2
  | rt r => exact q
noncomputable abbrev DS (X : Cx) (W : Hp → Prop) (st : Stmt) (t : DSn) : Prop := PS X st (sd X W t)
noncomputable abbrev DSs (X : Cx) (W : Hp → Prop) (st : List Stmt) (t : DSn) : Prop := PSs X st (sd X W t)
noncomputable abbrev no : Hp → Prop := fun _ => False
section
variable {X : Cx} {pos p p2 : Pos} {a b c : Expr} {f h k : DEn} {es : List Expr} {t : DTn} {st : Stmt} {rest body : List Stmt} {u v : DSn} {W : Hp → Prop}
theorem ds_nil : DSs X W [] sNx := pss_to pss_nil fun D σ H ⟨B, δ, o, sB, rp, e, q⟩ => by
  cases e
  exact q B σ H (Same.refl _) (TK.refl _) rp
theorem ds_cons (h1 : DS X W st u) (h2 : DSs X W rest v) : DSs X W (st :: rest) (sSeq u v) := pss_to (pss_cons h1 h2) fun D σ H ⟨B, δ, o, sB, rp, e, q⟩ => by
  obtain ⟨o1, e1, e⟩ := bs e
  refine ⟨B, δ, o1, sB, rp, e1, ?_⟩
  cases o1 with
  | nx δ' => exact fun B' σ' H' sB' tk' rp' => ⟨B', δ', o, sB.trans sB', rp', e, q.later sB' tk'⟩
  | bk δ' => cases e; exact q
  | ct δ' => cases e; exact q
  | rt r => cases e; exact q
  | ex => cases e; exact q
theorem ds_one (h1 : DS X W st u) : DSs X W [st] u := pss_one h1
theorem out_ret {K : PySem.W.Frag} {B H H' H₀ : Hp} {r r' : R} {v : V} (g : Same H₀ H) (e : retR r = some r') (h : IsR K B H H' r v) : Out K H₀ H' r' v := by
  cases r with
  | d x => cases e; exact h
  | l fl ds =>
    cases fl with
    | own =>
      cases e
      obtain ⟨a, xs, e1, n, q⟩ := h
      exact ⟨a, xs, e1, g.free n, q⟩
    | bor => cases e
    | view => cases e
theorem ds_ret (he : DE X a f) : DS X W (.Return (some a) pos) (sRet f) := ps_to (ps_ret he) fun D σ H ⟨B, δ, o, sB, rp, e, q⟩ => by
  obtain ⟨r, e1, e⟩ := bs e
  obtain ⟨r', e2, e⟩ := ms e
  subst e
  have s1 := sB.trans rp.same
  exact ⟨B, δ, r, rp, e1, fun v H1 g1 i1 => q v H1 (s1.trans g1) (out_ret s1 e2 i1)⟩
theorem ds_retV (i : Nat) {x : Str} (hN : X.N[i]? = some x := by rfl) (hv : Vis X.env.scope x := by first | exact Or.inl rfl | exact Or.inr (Or.inl rfl) | exact Or.inr (Or.inr rfl)) (hd : (x == ("__debug__" : Str)) = false := by decide)
    (hcd : (x == ("__classdict__" : Str)) = false := by decide) : DS X W (.Return (some (.Name x p)) pos) (sRetV i) := ps_to (ps_ret (pe_var hN hv hd hcd)) fun D σ H ⟨B, δ, o, sB, rp, e, q⟩ => by
  unfold sRetV at e
  split at e
  · rename_i r e0
    obtain ⟨r', e2, e⟩ := ms e
    subst e
    obtain ⟨v, e1, hs⟩ := rp.at_ i r e0
    refine ⟨v, e1, q v H (sB.trans rp.same) ?_⟩
    cases r with
    | d x => cases e2; exact hs
    | l fl ds =>
      cases fl with
      | own =>
        cases e2
        obtain ⟨a, xs, e1, n, z, l⟩ := hs
        exact ⟨a, xs, e1, sB.free z, n, l⟩
      | bor => cases e2
      | view => cases e2
  · cases e
theorem ds_set (i : Nat) {x : Str} (hN : X.N.Nodup) (he : DE X a f) (hi : X.N[i]? = some x := by rfl) (hx : Loc X.env.scope x := by first | exact Or.inl rfl | exact Or.inr rfl) (hs : swapsWith a (some (.Name x p)) pos.line X.env = pure false := by rfl)
    (hf : X.fn x = true ∨ X.env.scope.names.lookup x = some .local := by first | exact .inl rfl | exact .inr rfl) : DS X W (.Assign [.Name x p] a pos) (sSet i f) := ps_to (ps_set hN hi hx he hs hf) fun D σ H ⟨B, δ, o, sB, rp, e, q⟩ => by
  obtain ⟨r, e1, e⟩ := bs e
  obtain ⟨r', e2, e⟩ := ms e
  subst e
  exact ⟨B, δ, r, rp, e1, fun v H1 g1 i1 => q B _ H1 (Same.refl _) (Same.tk g1) (rp.set g1 e2 i1)⟩
theorem ds_if (hc : DT X c t) (ha : DSs X W body u) (hb : DSs X W rest v) : DS X W (.If c body rest pos) (sIf t u v) := ps_to (ps_if hc ha hb) fun D σ H ⟨B, δ, o, sB, rp, e, q⟩ => by
  obtain ⟨x, e1, e⟩ := bs e
  refine ⟨B, δ, x, rp, e1, fun H1 g1 => ?_⟩
  cases x with
  | true => exact iteT ⟨B, δ, o, sB, rp.grow g1, e, q.later (Same.refl _) (Same.tk g1)⟩
  | false => exact iteF ⟨B, δ, o, sB, rp.grow g1, e, q.later (Same.refl _) (Same.tk g1)⟩
theorem ds_app (i : Nat) {x : Str} {ap cp : Pos} (he : DE X a f) (hN : X.N[i]? = some x := by rfl) (hv : Vis X.env.scope x := by first | exact Or.inl rfl | exact Or.inr (Or.inl rfl) | exact Or.inr (Or.inr rfl)) (hd : (x == ("__debug__" : Str)) = false := by decide)
    (hcd : (x == ("__classdict__" : Str)) = false := by decide) (hs : starEach [a] X.env = (false, eval a X.env) :: starEach [] X.env := by rfl) (hl : (ap.endLine == cp.line) = true := by rfl)
    (hfew : ((backTo cp (starEach [a] X.env)).all (fun x => !x.1) && (backToKw cp (keywordEach [] X.env)).all (fun x => x.1.isSome)
      && decide (([a] : List Expr).length + ([] : List Keyword).length + (if ([] : List Keyword).isEmpty then 0 else 1) < 30)) = true := by rfl)
    (hbase : attributeBase (.Name x p) "append" X.env (eval (.Name x p) X.env) = eval (.Name x p) X.env := by rfl)
    (hsw : swapsWith (.Call (.Attribute (.Name x p) "append" ap) [a] [] cp) none pos.line X.env = pure false := by rfl) : DS X W (.Expr (.Call (.Attribute (.Name x p) "append" ap) [a] [] cp) pos) (sApp i f) :=
  ps_to (ps_expr (pe_bm (T := "list") (id := "list.append") PySem.F.plainAttrs_list PySem.F.slot_list_append PySem.F.type_list_append mt_append (pe_var hN hv hd hcd) (pa_cons he pa_nil hs) hbase hfew hl hs rfl) hsw) fun D σ H ⟨B, δ, o, sB, rp, e, q⟩ => by
    obtain ⟨r, e1, e⟩ := bs e
    split at e
    · rename_i r0 y ds e2
      split at e
      · rename_i hz
        cases e
        obtain ⟨v, e3, w, xs, e4, hw, hB, hl⟩ := rp.at_ i _ e2
        subst e4
        refine ⟨_, e3, .inl ⟨rfl, xs, SqL.of hw⟩, B, δ, _, rp, e1, fun v H1 g1 i1 => ?_⟩
        have n := hl.len
        refine ⟨w, xs, v, rfl, rfl, g1 _ _ hw, Nat.lt_of_lt_of_le (by omega : xs.length < 10000) (by decide), q B σ _ (Same.refl _) ((Same.tk g1).trans (tk_upd (g1 _ _ hw))) ?_⟩
        exact (rp.grow g1).write e2 e3 (g1 _ _ hw) ((hl.grow g1).app (HasL.cons i1 HasL.nil))
      · cases e
    · cases e
theorem put_inv {r q : R} {o : Option (Option R)} {δ : Ev} {i : Nat} {o' : O} (e : (match r, q, o with
    | .d x, .d (.int n), some (some (.l .own ds)) => (ixP ds.length n).map fun j => O.nx (δ.set i (some (.l .own (ds.set j x))))
    | _, _, _ => none) = some o') : ∃ x n ds j, r = .d x ∧ q = .d (.int n) ∧ o = some (some (.l .own ds)) ∧ ixP ds.length n = some j ∧ o' = .nx (δ.set i (some (.l .own (ds.set j x)))) := by
  split at e
  · obtain ⟨j, e1, e2⟩ := ms e
    exact ⟨_, _, _, j, rfl, rfl, rfl, e1, e2.symm⟩
  · cases e
theorem ds_put (i : Nat) {x : Str} (he : DE X a f) (hk : DE X b k) (hN : X.N[i]? = some x := by rfl) (hv : Vis X.env.scope x := by first | exact Or.inl rfl | exact Or.inr (Or.inl rfl) | exact Or.inr (Or.inr rfl)) (hd : (x == ("__debug__" : Str)) = false := by decide)
    (hcd : (x == ("__classdict__" : Str)) = false := by decide)
    (ha : ∀ v, assign (.Subscript (.Name x p) b p2) X.env v = (do
      let ov ← holding [v] (eval (.Name x p) X.env)
      let iv ← holding [v, ov] (eval b X.env)
      standAt p2
      holding [v, ov, iv] (setItem ov iv v)
      release [v, ov, iv] []) := by intro _; rfl)
    (hs : swapsWithSole [.Subscript (.Name x p) b p2] a pos.line X.env = pure false := by rfl) (hw : swappedStores [.Subscript (.Name x p) b p2] a X.env = pure none := by rfl)
    (h1 : (assignEach [.Subscript (.Name x p) b p2] X.env).map (·.2) = [assign (.Subscript (.Name x p) b p2) X.env] := by rfl) : DS X W (.Assign [.Subscript (.Name x p) b p2] a pos) (sPut i k f) :=
  ps_to (ps_asg he (pg_sub (pe_var hN hv hd hcd) hk set_list ha) hs hw h1) fun D σ H ⟨B, δ, o, sB, rp, e, q⟩ => by
    obtain ⟨r, e1, e⟩ := bs e
    obtain ⟨z, e2, e⟩ := bs e
    obtain ⟨y, n, ds, j, rfl, rfl, e3, ej, rfl⟩ := put_inv e
    · obtain ⟨v, e4, w, xs, e5, hw, hB, hl⟩ := rp.at_ i _ e3
      subst e5
      refine ⟨B, δ, _, rp, e1, fun v H1 g1 i1 => ⟨_, e4, B, δ, _, rp.grow g1, e2, fun v2 H2 g2 i2 => ?_⟩⟩
      have i2 : Has X.K H2 (.int n) v2 := i2
      simp only [Has] at i2
      have g := g1.trans g2
      refine ⟨w, xs, n, j, rfl, i2, g _ _ hw, ?_, q B σ _ (Same.refl _) ((Same.tk g).trans (tk_upd (g _ _ hw))) ?_⟩
      · rw [← hl.len]; exact ej
      · exact (rp.grow g).write e3 e4 (g _ _ hw) (HasL.set (Has.grow g2 i1) j (hl.grow g))

end


noncomputable def Yl (K : PySem.W.Frag) (B Hs : Hp) (J : It) (ds : List D) : Prop := ∀ H, Same B H → TK K Hs H → ∀ i : Nat,
  (∀ d, ds[i]? = some d → J.go i H) ∧ (∀ x H' d, J.yld i H x H' → ds[i]? = some d → H' = H ∧ Has K H d x) ∧ (ds.length ≤ i → J.stop i H)
noncomputable def ri (K : PySem.W.Frag) (t : DIn) : TI := fun σ H R => ∃ B δ ds, Rep K B δ σ H ∧ t δ = some ds ∧ ∀ J H', Same H H' → Yl K B H' J ds → R J H'
noncomputable def Yc (K : PySem.W.Frag) (Hs : Hp) (J : It) (ds : List D) : Prop := ∀ H, Same Hs H → ∀ i : Nat,
  (∀ d, ds[i]? = some d → J.go i H) ∧ (∀ x H' d, J.yld i H x H' → ds[i]? = some d → H' = H ∧ Has K H d x) ∧ (ds.length ≤ i → J.stop i H)
noncomputable def rc (K : PySem.W.Frag) (t : DIn) : TI := fun σ H R => ∃ B δ ds, Rep K B δ σ H ∧ t δ = some ds ∧ ∀ J H', Same H H' → Yc K H' J ds → R J H'
noncomputable abbrev DI (X : Cx) (tg e : Expr) (t : DIn) : Prop := PI X tg e (ri X.K t)
noncomputable abbrev DC (X : Cx) (tg e : Expr) (t : DIn) : Prop := PI X tg e (rc X.K t)
theorem pi_to {X : Cx} {tg e : Expr} {t t' : TI} (h : PI X tg e t) (w : ∀ σ H R, t' σ H R → t σ H R) : PI X tg e t' := fun pins s σ H R I q => h pins s σ H R I (w σ H R q)
theorem pi_or {X : Cx} {tg e : Expr} {t t' : TI} (h : PI X tg e t) (h' : PI X tg e t') : PI X tg e (fun σ H R => t σ H R ∨ t' σ H R) := fun pins s σ H R I q => q.elim (h pins s σ H R I) (h' pins s σ H R I)
section
variable {X : Cx} {pos p p2 : Pos} {a b c tg : Expr} {f h k : DEn} {it : DIn}
theorem dc_of (hi : DI X tg a it) : DC X tg a it := pi_to hi fun σ H R ⟨B, δ, ds, rp, e, q⟩ =>
  ⟨B, δ, ds, rp, e, fun J H1 g1 y => q J H1 g1 fun H2 g2 i => y H2 ((rp.same.trans g1).trans g2) (Same.tk g2) i⟩
theorem yl_range {K : PySem.W.Frag} {B Hs : Hp} (m : Int) (n : Nat) : Yl K B Hs (Itr m n) ((List.range n).map fun (k : Nat) => D.int (m + (k : Int))) := by
  intro H sB tk i
  refine ⟨fun d e => ?_, fun x H' d y e => ?_, fun hl => ?_⟩
  · have := (List.getElem?_eq_some_iff.mp e).1
    show i < n
    simpa using this
  · obtain ⟨e1, e2⟩ := y
    subst e2
    refine ⟨e1, ?_⟩
    have hi : i < n := by
      have := (List.getElem?_eq_some_iff.mp e).1
      simpa using this
    rw [List.getElem?_map, List.getElem?_range hi] at e
    cases e
    simp only [Has]
  · show n ≤ i
    simpa using hl
theorem yl_tup {K : PySem.W.Frag} {B Hs : Hp} {a : Addr} {xs : List V} {ds : List D} (hs : SqT K Hs a xs) (hl : HasL K Hs ds xs) : Yl K B Hs (Itt K a) ds := by
  intro H sB tk i
  have s1 := tk a xs hs
  have l1 := HasL.mono tk _ _ hl
  refine ⟨fun d e => ?_, fun x H' d y e => ?_, fun hl => ?_⟩
  · obtain ⟨x, ex, _⟩ := l1.get e
    exact ⟨xs, x, s1, ex⟩
  · obtain ⟨e1, e2⟩ := y
    obtain ⟨w, ew, hw⟩ := l1.get e
    have := e2 xs s1
    rw [ew] at this
    cases this
    exact ⟨e1, hw⟩
  · exact ⟨xs, s1, by rw [← l1.len]; exact hl⟩
theorem yl_bor {K : PySem.W.Frag} {B Hs : Hp} {a : Addr} {xs : List V} {ds : List D} (hs : SqL K B a xs) (hl : HasL K B ds xs) : Yl K B Hs (Itl K a) ds := by
  intro H sB tk i
  have s1 := sB.seq hs
  have l1 := hl.grow sB
  refine ⟨fun d e => ?_, fun x H' d y e => ?_, fun hl => ?_⟩
  · obtain ⟨x, ex, _⟩ := l1.get e
    exact ⟨xs, x, s1, ex⟩
  · obtain ⟨e1, e2⟩ := y
    obtain ⟨w, ew, hw⟩ := l1.get e
    have := e2 xs s1
    rw [ew] at this
    cases this
    exact ⟨e1, hw⟩
  · exact ⟨xs, s1, by rw [← l1.len]; exact hl⟩
theorem yc_lst {K : PySem.W.Frag} {Hs : Hp} {a : Addr} {xs : List V} {ds : List D} (hs : SqL K Hs a xs) (hl : HasL K Hs ds xs) : Yc K Hs (Itl K a) ds := by
  intro H sB i
  have s1 := sB.seq hs
  have l1 := hl.grow sB
  refine ⟨fun d e => ?_, fun x H' d y e => ?_, fun hl => ?_⟩
  · obtain ⟨x, ex, _⟩ := l1.get e
    exact ⟨xs, x, s1, ex⟩
  · obtain ⟨e1, e2⟩ := y
    obtain ⟨w, ew, hw⟩ := l1.get e
    have := e2 xs s1
    rw [ew] at this
    cases this
    exact ⟨e1, hw⟩
  · exact ⟨xs, s1, by rw [← l1.len]; exact hl⟩
theorem di_to (ha : DE X a f) (hg : Gl X "range") (hm : X.mg "range" = none) (hs : starEach [a] X.env = [(false, eval a X.env)] := by rfl) : DI X tg (.Call (.Name "range" p) [a] [] pos) (iTo f) :=
  pi_to (pi_range1 hg hm (pa_cons ha pa_nil hs) hs) fun σ H R ⟨B, δ, ds, rp, e, q⟩ => by
    unfold iTo at e
    split at e
    · rename_i n e0
      split at e
      · rename_i hz
        cases e
        refine ⟨B, δ, _, rp, e0, fun v H1 g1 i1 => ⟨n, ?_, by omega, by omega, q _ H1 g1 ?_⟩⟩
        · have i1 : Has X.K H1 (.int n) v := i1
          simp only [Has] at i1
          rw [i1]
        · have := yl_range (K := X.K) (B := B) (Hs := H1) 0 n.toNat
          simpa using this
      · cases e
    · cases e
end
end DL

namespace DL
open PySem PySem.Spec PyProof.Rows L2
section
variable {X : Cx} {pos p p2 : Pos} {a b c tg : Expr} {f h k : DEn} {it : DIn} {body : List Stmt} {u : DSn} {W : Hp → Prop}
theorem di_seq (ha : DE X a f) : DI X tg a (iSeq f) := pi_to (pi_or (pi_tup ha) (pi_list ha)) fun σ H R ⟨B, δ, ds, rp, e, q⟩ => by
  unfold iSeq at e
  split at e
  · rename_i ds' e0
    cases e
    refine .inl ⟨B, δ, _, rp, e0, fun v H1 g1 i1 => ?_⟩
    have i1 : Has X.K H1 (.tup ds) v := i1
    simp only [Has] at i1
    obtain ⟨w, xs, e1, s1, l1⟩ := i1
    exact ⟨w, e1, ⟨xs, s1⟩, q _ H1 g1 (yl_tup s1 l1)⟩
  · rename_i ds' e0
    cases e
    refine .inr ⟨B, δ, _, rp, e0, fun v H1 g1 i1 => ?_⟩
    obtain ⟨w, xs, e1, s1, l1⟩ := i1
    exact ⟨w, e1, ⟨xs, (rp.same.trans g1).seq s1⟩, q _ H1 g1 (yl_bor s1 l1)⟩
  · cases e
theorem dc_any (ha : DE X a f) : DC X tg a (iAny f) := pi_to (pi_or (pi_tup ha) (pi_list ha)) fun σ H R ⟨B, δ, ds, rp, e, q⟩ => by
  unfold iAny at e
  split at e
  · rename_i ds' e0
    cases e
    refine .inl ⟨B, δ, _, rp, e0, fun v H1 g1 i1 => ?_⟩
    have i1 : Has X.K H1 (.tup ds) v := i1
    simp only [Has] at i1
    obtain ⟨w, xs, e1, s1, l1⟩ := i1
    exact ⟨w, e1, ⟨xs, s1⟩, q _ H1 g1 fun H2 g2 i => yl_tup (B := H1) s1 l1 H2 g2 (Same.tk g2) i⟩
  · rename_i fl ds' e0
    cases e
    refine .inr ⟨B, δ, _, rp, e0, fun v H1 g1 i1 => ?_⟩
    obtain ⟨w, xs, e1, s1, l1⟩ := (i1.vw (rp.same.trans g1)).sq
    exact ⟨w, e1, ⟨xs, s1⟩, q _ H1 g1 (yc_lst s1 l1)⟩
  · cases e
theorem for_go {i : Nat} {J : It} {ds : List D} {B0 Hs : Hp} {o : O} {σ : St} {H : Hp} {δ : Ev} {E : Ends} (hN : X.N.Nodup) (y : Yl X.K B0 Hs J ds) (sB : Same X.H₀ B0) (rp : Rep X.K B0 δ σ H) (tk : TK X.K Hs H) (e : foGo i u ds δ = some o) (q : en X W E B0 H o) :
    ∃ Z : Nat → Nat → St → Hp → Prop, (∃ m, Z 0 m σ H) ∧ ∀ j m σ H, Z j m σ H →
      (J.stop j H ∧ E.nx σ H) ∨ (J.go j H ∧ ∃ N : St → Hp → Prop, (∀ σ' H', N σ' H' → ∃ m', m' < m ∧ Z (j + 1) m' σ' H') ∧ ∀ x H', J.yld j H x H' → gName i x σ H' fun σ2 H2 => sd X W u { E with nx := N, ct := N, bk := E.nx } σ2 H2) := by
  refine ⟨fun j m σ' H' => j ≤ ds.length ∧ m = ds.length - j ∧ ∃ B' δ', Same B0 B' ∧ TK X.K Hs H' ∧ Rep X.K B' δ' σ' H' ∧ foGo i u (ds.drop j) δ' = some o ∧ en X W E B' H' o, ⟨ds.length, Nat.zero_le _, rfl, B0, δ, Same.refl _, tk, rp, by simpa using e, q⟩, ?_⟩
  rintro j m σ1 H1 ⟨hj, hm, B1, δ1, s1, t1, rp1, e1, q1⟩
  obtain ⟨y1, y2, y3⟩ := y H1 (s1.trans rp1.same) t1 j
  by_cases hl : j < ds.length
  · have hd : ds.drop j = ds[j] :: ds.drop (j + 1) := List.drop_eq_getElem_cons hl
    have hg : ds[j]? = some ds[j] := List.getElem?_eq_getElem hl
    rw [hd] at e1
    unfold foGo at e1
    obtain ⟨o1, eo, e1⟩ := bs e1
    refine .inr ⟨y1 _ hg, fun σ' H' => ∃ B' δ', Same B0 B' ∧ TK X.K Hs H' ∧ Rep X.K B' δ' σ' H' ∧ foGo i u (ds.drop (j + 1)) δ' = some o ∧ en X W E B' H' o, fun σ' H' z => ⟨ds.length - (j + 1), by omega, by omega, rfl, z⟩, fun x H' yy => ?_⟩
    obtain ⟨z1, z2⟩ := y2 x H' _ yy hg
    subst z1
    have rp2 : Rep X.K B1 (δ1.set i (some (.d ds[j]))) (σ1.set i (some x)) H' := rp1.set (r := .d ds[j]) (Same.refl _) rfl z2
    refine ⟨B1, _, o1, sB.trans s1, rp2, eo, ?_⟩
    cases o1 with
    | nx δ' => exact fun B3 σ3 H3 s3 t3 r3 => ⟨B3, δ', s1.trans s3, t1.trans t3, r3, e1, q1.later s3 t3⟩
    | ct δ' => exact fun B3 σ3 H3 s3 t3 r3 => ⟨B3, δ', s1.trans s3, t1.trans t3, r3, e1, q1.later s3 t3⟩
    | bk δ' => cases e1; exact q1
    | rt r => cases e1; exact q1
    | ex => cases e1; exact q1
  · have hz : ds.drop j = [] := List.drop_eq_nil_of_le (by omega)
    rw [hz] at e1
    cases e1
    exact .inl ⟨y3 (by omega), q1 B1 σ1 H1 (Same.refl _) (TK.refl _) rp1⟩
theorem ds_for (i : Nat) {x : Str} (hp : PassesOwn (model X.prog X.w) X.A X.env X.xe) (hc : X.calm = true) (hN : X.N.Nodup) (hi : DI X (.Name x p) a it) (hb : DSs X W body u) (hx : X.N[i]? = some x := by rfl) (hl : Loc X.env.scope x := by first | exact Or.inl rfl | exact Or.inr rfl)
    (hf : X.fn x = true ∨ X.env.scope.names.lookup x = some .local := by first | exact .inl rfl | exact .inr rfl) (hs : ∀ x, foldedSetIterable a X.env x = pure x := by intro _; rfl) : DS X W (.For (.Name x p) a body [] pos) (sFor i it u) :=
  ps_to (ps_for hp hc hi (pg_name hN hx hl hf) hb hs) fun D σ H ⟨B, δ, o, sB, rp, e, q⟩ => by
    obtain ⟨ds, e1, e⟩ := bs e
    exact ⟨B, δ, ds, rp, e1, fun J H1 g1 y => for_go hN y sB (rp.grow g1) (TK.refl _) e (q.later (Same.refl _) (Same.tk g1))⟩
theorem ds_forV (i j : Nat) {x y : Str} (hp : PassesOwn (model X.prog X.w) X.A X.env X.xe) (hc : X.calm = true) (hN : X.N.Nodup) (hb : DSs X W body u) (hx : X.N[i]? = some x := by rfl) (hl : Loc X.env.scope x := by first | exact Or.inl rfl | exact Or.inr rfl)
    (hf : X.fn x = true ∨ X.env.scope.names.lookup x = some .local := by first | exact .inl rfl | exact .inr rfl) (hs : ∀ x, foldedSetIterable (.Name y p2) X.env x = pure x := by intro _; rfl)
    (hy : X.N[j]? = some y := by rfl) (hv : Vis X.env.scope y := by first | exact Or.inl rfl | exact Or.inr (Or.inl rfl) | exact Or.inr (Or.inr rfl)) (hd : (y == ("__debug__" : Str)) = false := by decide) (hcd : (y == ("__classdict__" : Str)) = false := by decide) :
    DS X W (.For (.Name x p) (.Name y p2) body [] pos) (sForV i j u) :=
  ps_to (ps_for hp hc (pi_or (pi_tup (pe_var hy hv hd hcd)) (pi_list (pe_var hy hv hd hcd))) (pg_name hN hx hl hf) hb hs) fun D σ H ⟨B, δ, o, sB, rp, e, q⟩ => by
    unfold sForV at e
    split at e
    · rename_i ds e0
      obtain ⟨v, e1, hh⟩ := rp.at_ j _ e0
      have hh : Has X.K H (.tup ds) v := hh
      simp only [Has] at hh
      obtain ⟨w, xs, e2, s1, l1⟩ := hh
      subst e2
      exact .inl ⟨_, e1, w, rfl, ⟨xs, s1⟩, for_go hN (yl_tup s1 l1) sB rp (TK.refl _) e q⟩
    · rename_i ds e0
      obtain ⟨v, e1, w, xs, e2, s1, l1⟩ := rp.at_ j _ e0
      subst e2
      exact .inr ⟨_, e1, w, rfl, ⟨xs, rp.same.seq s1⟩, for_go hN (yl_bor s1 l1) sB rp (TK.refl _) e q⟩
    · rename_i ds e0
      obtain ⟨B', w, xs, sB', rp', e1, s1, l1⟩ := rp.lend e0
      exact .inr ⟨_, e1, w, rfl, ⟨xs, rp'.same.seq s1⟩, for_go hN (yl_bor s1 l1) (sB.trans sB') rp' (TK.refl _) e (q.later sB' (TK.refl _))⟩
    · cases e
end


theorem rep_start {K : PySem.W.Frag} {H : Hp} {N : List Str} {rs : List R} {vs : List V} (h : ArgsOk K H rs vs) (hl : rs.length ≤ N.length) : Rep K H (rs.map some ++ List.replicate (N.length - rs.length) none) (L2.start N vs) H := by
  have all : ∀ {rs : List R} {vs : List V}, ArgsOk K H rs vs → ∀ (i : Nat) r, rs[i]? = some r → ∃ v, vs[i]? = some v ∧ IsS K H H r v ∧ ∀ ds, r ≠ .l .own ds := by
    intro rs
    induction rs with
    | nil => intro vs _ i r e; simp at e
    | cons r0 rs ih =>
      intro vs h i r e
      obtain ⟨v, ws, e1, h1, h2, h3⟩ := h
      subst e1
      cases i with
      | zero => simp at e; subst e; exact ⟨v, rfl, h1, h2⟩
      | succ i => simp at e; simpa using ih h3 i r e
  have ln := h.len
  have pick : ∀ (i : Nat) r, (rs.map some ++ List.replicate (N.length - rs.length) none)[i]? = some (some r) → rs[i]? = some r := by
    intro i r e
    by_cases hi : i < rs.length
    · rw [List.getElem?_append_left (by simpa using hi), List.getElem?_map] at e
      cases hr : rs[i]? with
      | none => rw [hr] at e; cases e
      | some r' => rw [hr] at e; cases e; rfl
    · rw [List.getElem?_append_right (by simpa using hi), List.getElem?_replicate] at e
      split at e <;> cases e
  refine ⟨Same.refl _, ?_, fun i r e => ?_, fun i j ds es a e1 _ _ _ => ?_⟩
  · unfold L2.start
    simp [ln]
  · obtain ⟨v, e1, h1, _⟩ := all h i r (pick i r e)
    refine ⟨v, ?_, h1⟩
    have hi : i < vs.length := (List.getElem?_eq_some_iff.mp e1).1
    unfold L2.start
    rw [List.getElem?_append_left (by simpa using hi), List.getElem?_map, e1]
    rfl
  · obtain ⟨_, _, _, h2⟩ := all h i _ (pick i _ e1)
    exact (h2 ds rfl).elim
section
variable {P : Program} {w : World} {K : PySem.W.Frag} {mg : Str → Option Value} {base : Heap}
theorem fn_len {n N : Nat} {body : DSn} {rs : List R} {r : R} (e : fn n N body rs = some r) : rs.length = n := by
  unfold fn at e
  split at e
  · assumption
  · cases e
theorem fnok_of {x : Str} {st : Stmt} {f : Addr} {fd : FuncData} {N ps : List Str} {k : Nat} {body : DSn} (F : Fun K x x st f fd) (S : FnScope N ps (defScope st))
    (hbody : ∀ (cdv : Value) (A : Around) (outer : List Env) (s : Shared) (H : Hp) (E : XK), Room k (A.deeper (envOfC x (defScope st) s.heap.objs.size f cdv)) →
      DSs (cxOf CX0 P w K mg base N x (defScope st) f cdv A outer s H E).nox no (defBody st) body) :
    FnOk P w K mg base CX0 (k + 1) f fd ps (spD K (fn ps.length N.length body)) := by
  refine F.ok S (fun vs H Q E h => ?_) (fun cdv A outer s H vs Q E hr h => ?_)
  · obtain ⟨rs, r, h1, h2, _⟩ := h
    rw [← h1.len]
    exact fn_len h2
  · obtain ⟨rs, r, h1, h2, q⟩ := h
    refine ⟨_, hbody cdv A outer s H E hr, ?_⟩
    have hn := fn_len h2
    unfold fn at h2
    rw [if_pos hn] at h2
    obtain ⟨o, e1, e2⟩ := bs h2
    have hN : ps.length ≤ N.length := by have := congrArg List.length S.pre; rw [List.length_take] at this; omega
    refine ⟨H, _, o, Same.refl _, rep_start h1 (by omega), by rw [hn]; exact e1, ?_⟩
    cases o with
    | nx δ =>
      cases e2
      exact fun B' σ' H' s1 _ rp => q _ H' (s1.trans rp.same) (by simp only [Out, Has])
    | rt r' => cases e2; exact fun v H' s1 o => q v H' s1 o
    | bk δ => cases e2
    | ct δ => cases e2
    | ex => cases e2
theorem cal_of {x : Str} {st : Stmt} {f : Addr} {fd : FuncData} {N ps : List Str} {k : Nat} {body : DSn} (F : Fun K x x st f fd) (hm : mg x = some (.ref f)) (hn : PySem.W.nsIn K mainGlobals x = some (some (.ref f))) (S : FnScope N ps (defScope st))
    (hb : ∀ (kV doc pm : Value) (an : Option Addr) (cdv ct : Value) (us : List Value), us.length = ps.length → bindArgs (PySem.W.fnOf x x (defArgs st) (defBody st) (defScope st) .none kV doc pm an cdv ct) ⟨us, []⟩ = pure (ps.zip us))
    (hbody : ∀ (cdv : Value) (A : Around) (outer : List Env) (s : Shared) (H : Hp) (E : XK), Room k (A.deeper (envOfC x (defScope st) s.heap.objs.size f cdv)) →
      DSs (cxOf CX0 P w K mg base N x (defScope st) f cdv A outer s H E).nox no (defBody st) body) :
    Cal P w K mg base (k + 1) x ps (fn ps.length N.length body) := ⟨f, fd, fnok_of F S hbody, F.binds hb, F.kp, hm, hn⟩
theorem cal_zero {n : Nat} {x : Str} {st : Stmt} {f : Addr} {fd : FuncData} {ps : List Str} (F : Fun K x x st f fd) (hm : mg x = some (.ref f)) (hn : PySem.W.nsIn K mainGlobals x = some (some (.ref f)))
    (hb : ∀ (kV doc pm : Value) (an : Option Addr) (cdv ct : Value) (us : List Value), us.length = ps.length → bindArgs (PySem.W.fnOf x x (defArgs st) (defBody st) (defScope st) .none kV doc pm an cdv ct) ⟨us, []⟩ = pure (ps.zip us)) :
    Cal P w K mg base n x ps (fun _ => none) := by
  have no : ∀ vs H Q E, ¬ spD K (fun _ => none) vs H Q E := fun vs H Q E h => by
    obtain ⟨rs, r, _, e, _⟩ := h
    cases e
  exact ⟨f, fd, ⟨fun vs H Q E h => absurd h (no vs H Q E), fun A outer s H args us vs Q E _ _ _ _ h => absurd h (no vs H Q E)⟩, F.binds hb, F.kp, hm, hn⟩
end
end DL

namespace DL
open PySem PySem.Spec PyProof.Rows L2


noncomputable def capC (names : List (Str × NameKind)) (cells : List (Str × Addr)) : List (Str × Addr) := names.foldl (fun cs nk => if nk.2 == NameKind.free then (match cells.lookup nk.1 with | some c => (nk.1, c) :: cs | none => cs) else cs) []
noncomputable def cxC (X : Cx) (x : Str) (cs : List Str) (scope : Scope) (C : Addr) (s : Shared) (H : Hp) (ex : List Addr) (cl : List (Str × Addr)) : Cx :=
  { X with N := x :: cs, s₀ := s, H₀ := H, env := compEnvC scope cl C X.env, outer := X.stack, stack := X.stack, ex := ex, fn := fun _ => false, pn := [], xe := fun _ _ => False }
structure CpOk (X : Cx) (x : Str) (cs : List Nat) (ns : List Str) (scope : Scope) (cl : List (Str × Addr)) : Prop where
  kind : scope.kind = .function
  clos : closureFor scope X.env = pure cl
  cell : ∀ y ∈ scope.names, y.2 ≠ .cell
  names : ∀ y ∈ scope.names, y.2 = .local → scope.names.lookup y.1 = some .local
  loc : scope.names.lookup x = some .local
  sub : ∀ y c, cl.lookup y = some c → X.env.cells.lookup y = some c
  has : ∀ y, (relabel scope X.env).names.lookup y = some .cell ∨ (relabel scope X.env).names.lookup y = some .free → ∃ c, cl.lookup y = some c
  nd : (x :: ns).Nodup
  at_ : ns = cs.map fun i => X.N.getD i ""
  lt : ∀ i ∈ cs, i < X.N.length
  cap : ∀ y ∈ ns, X.env.kindOf y = some .cell ∧ (relabel scope X.env).names.lookup y = some .cell
section
variable {X : Cx} {x : Str} {cs : List Nat} {ns : List Str} {scope : Scope} {cl : List (Str × Addr)} {pins : List (Addr × Obj)} {σ : St} {H : Hp} {s s4 : Shared} {ex : List Addr} {C : Addr}
theorem comp_inv (O : CpOk X x cs ns scope cl) (I : Inv X pins σ H s) (hf : ∀ b ∈ ex, FpOk X pins H b) (hex : ∀ b ∈ ex, b < s.heap.objs.size) (hC : C = s.heap.objs.size) {h4 : Heap} {tk : Nat} {m : Str → Option Value} (hn : h4.Ns C m)
    (hk : ∀ b o, s.heap.get? b = some o → h4.get? b = some o) :
    Inv (cxC X x ns scope C s H ex cl) [] (none :: cs.map fun i => (σ[i]?).join) H { s with heap := h4, toks := tk } := by
  subst hC
  have stk : ∀ b ∈ frs X.stack, b ∉ ex := fun b hb hx => by
    rcases List.mem_cons.mp (I.stkSub b hb) with e | hb
    · exact (hf b hx).2.1 e
    · exact (hf b hx).2.2.1 hb
  refine ⟨⟨I.ok.mod, ?_, I.ok.glob, I.ok.blt, Nat.le_refl _, ?_, ?_, ?_, I.ok.hd, I.ok.frames, .inl rfl, ?_, I.bs, ?_, ?_, ?_, I.stack, I.stkFree⟩, rfl, I.bare, Un.kept hk, ⟨m, hn, ?_⟩, ?_, ?_, ?_, ?_, I.hok.kept hk, ?_⟩
  · show (relabel scope X.env).kind = .function
    exact O.kind
  · intro y z c h1 h2
    exact I.ok.inj y z c (O.sub y c h1) (O.sub z c h2)
  · intro y hy
    exact O.has y hy
  · intro y c h _
    cases h
  · intro b hb
    exact ⟨Nat.ne_of_lt (hex b hb), fun y c h => (hf b hb).2.2.2.2.1 y c (O.sub y c h)⟩
  · exact Nat.le_trans I.ok.bsz I.sz
  · intro b o e hb
    rcases (hf b hb).2.2.2.1 with z | z
    · exact I.ok.noex b o e z
    · have := (I.ok.bs b o e).1
      exact absurd (Nat.lt_of_lt_of_le (Heap.lt_size this) z) (Nat.lt_irrefl _)
  · intro b hb hb2
    exact stk b hb2 hb
  · intro i y v e1 e2 e3
    cases i with
    | zero => simp at e2
    | succ i =>
      have e1 : ns[i]? = some y := by simpa [cxC] using e1
      have e2 : (cs.map fun i => (σ[i]?).join)[i]? = some (some v) := by simpa using e2
      rw [List.getElem?_map] at e2
      cases hc : cs[i]? with
      | none => rw [hc] at e2; cases e2
      | some j =>
        rw [hc] at e2
        have e2 : (σ[j]?).join = some v := by simpa using e2
        have e4 : σ[j]? = some (some v) := by
          cases hj : σ[j]? with
          | none => rw [hj] at e2; cases e2
          | some z => rw [hj] at e2; simpa using e2
        have hjm : j ∈ cs := List.mem_of_getElem? hc
        have hyN : X.N[j]? = some y := by
          have hl := O.lt j hjm
          have : ns[i]? = some (X.N.getD j "") := by rw [O.at_, List.getElem?_map, hc]; rfl
          rw [e1] at this
          rw [List.getElem?_eq_getElem hl]
          have q := Option.some.inj this
          rw [List.getD_eq_getElem?_getD, List.getElem?_eq_getElem hl] at q
          simpa using q.symm
        obtain ⟨hk1, hk2⟩ := O.cap y (List.mem_of_getElem? e1)
        obtain ⟨m0, hn0, hl0⟩ := I.loc
        obtain ⟨u, r, l⟩ := hl0 j y v hyN e4 (.inr (.inl hk1))
        refine ⟨u, r, .inr ⟨.inl hk2, ?_⟩⟩
        rcases l with ⟨z, _⟩ | ⟨_, c, hc1, hc2⟩
        · rw [hk1] at z; cases z
        · obtain ⟨c', hc'⟩ := O.has y (.inl hk2)
          have := O.sub y c' hc'
          rw [hc1] at this
          cases this
          obtain ⟨o, ho, hd⟩ := hc2
          exact ⟨c, hc', o, hk _ _ ho, hd⟩
  · intro y c h
    obtain ⟨v, o, ho, hd⟩ := I.cell y c (O.sub y c h)
    exact ⟨v, o, hk _ _ ho, hd⟩
  · exact I.hok.fresh (Nat.le_refl _)
  · intro y c h
    exact I.freeC y c (O.sub y c h)
  · intro p hp
    exact absurd (show p ∈ ([] : List (Addr × Obj)) from hp) (by simp)
  · show (none :: cs.map fun i => (σ[i]?).join).length = (x :: ns).length
    rw [O.at_]
    simp
theorem comp_back {H' : Hp} {σ' : St} {s5 : Shared} {h6 : Heap} (I : Inv X pins σ H s) (hf : ∀ b ∈ ex, FpOk X pins H b) (hC : C = s.heap.objs.size) (J : Inv (cxC X x ns scope C s H ex cl) [] σ' H' s5) (hs : Heap.SameBut C s5.heap h6) : Inv X pins σ H' { s5 with heap := h6 } := by
  subst hC
  have U : Un (frs X.stack) ex H H' s.heap s5.heap := J.base
  have ne : ∀ b o, s.heap.get? b = some o → b ≠ s.heap.objs.size := fun b o e => Nat.ne_of_lt (Heap.lt_size e)
  have fr : H' s.heap.objs.size = none := J.free
  have U6 : Un (frs X.stack) ex H H' s.heap h6 := by
    refine ⟨fun b o e n hb hx => ?_, fun b o e n hb hx => ?_, U.free, fun b o e hx => ?_, U.tups, U.frzs, U.tbls⟩
    · exact (hs.2 b (ne b o e)).trans (U.keep b o e n hb hx)
    · obtain ⟨sl, q⟩ := U.slot b o e n hb hx
      exact ⟨sl, (hs.2 b (ne b o e)).trans q⟩
    · obtain ⟨o', q⟩ := U.there b o e hx
      exact ⟨o', (hs.2 b (ne b o e)).trans q⟩
  have hok : HOk X.prog X.w H' h6 := fun b o e => by
    refine (J.hok b o e).stay (fun c v hc q => (hs.2 c ?_).trans q) (fun _ q => q) fun _ _ q => q
    rintro rfl
    rcases hc with rfl | hc
    · rw [fr] at e; cases e
    · rw [fr] at hc; cases hc
  refine I.call' (s' := { s5 with heap := h6 }) J.os U6 hok J.bare fun b hb => ?_
  obtain ⟨_, f1, _, f3, f4, f5⟩ := hf b hb
  exact ⟨f3, f1, f4, f5⟩
end
end DL

namespace DL
open PySem PySem.Spec PyProof.Rows L2
section
variable {X : Cx} {x : Str} {cs : List Nat} {ns : List Str} {scope : Scope} {cl : List (Str × Addr)} {pins : List (Addr × Obj)} {σ : St} {H : Hp} {s s4 : Shared} {ex : List Addr} {C : Addr}
theorem arg_slot {K : PySem.W.Frag} {B H : Hp} {r : R} {v : V} (g : Same B H) (h : IsS K B H r v) : IsS K H H r.arg v ∧ ∀ ds, r.arg ≠ .l .own ds := by
  cases r with
  | d y => exact ⟨h, fun ds z => by cases z⟩
  | l fl ds =>
    refine ⟨?_, fun ds z => by cases z⟩
    cases fl with
    | own => obtain ⟨a, xs, e, q, n, t⟩ := h; exact ⟨a, xs, e, SqL.of q, t⟩
    | bor => obtain ⟨a, xs, e, q, t⟩ := h; exact ⟨a, xs, e, g.seq q, t.grow g⟩
    | view => exact False.elim h
theorem rep_comp {K : PySem.W.Frag} {B H H' : Hp} {δ : Ev} {σ : St} (rp : Rep K B δ σ H) (g : Same H H') {d : D} {v : V} (h : Has K H' d v) : Rep K H (some (.d d) :: capsOf cs δ) (some v :: cs.map fun i => (σ[i]?).join) H' := by
  have pick : ∀ (i : Nat) r, (capsOf cs δ)[i]? = some (some r) → ∃ v, (cs.map fun i => (σ[i]?).join)[i]? = some (some v) ∧ IsS K H H r v ∧ ∀ ds, r ≠ .l .own ds := by
    intro i r e
    unfold capsOf at e
    rw [List.getElem?_map] at e
    rw [List.getElem?_map]
    cases hc : cs[i]? with
    | none => rw [hc] at e; cases e
    | some j =>
      rw [hc] at e
      have e : (δ[j]?.join).map R.arg = some r := by simpa using e
      obtain ⟨r0, e0, e1⟩ := ms e
      have e2 : δ[j]? = some (some r0) := by
        cases hj : δ[j]? with
        | none => rw [hj] at e0; cases e0
        | some z => rw [hj] at e0; simpa using e0
      obtain ⟨w, q1, q2⟩ := rp.at_ j r0 e2
      subst e1
      obtain ⟨a1, a2⟩ := arg_slot rp.same q2
      exact ⟨w, by simp [q1], a1, a2⟩
  refine ⟨g, by simp [capsOf], fun i r e => ?_, fun i j ds es a e1 _ _ _ => ?_⟩
  · cases i with
    | zero => simp at e; subst e; exact ⟨v, rfl, h⟩
    | succ i =>
      obtain ⟨w, q1, q2, _⟩ := pick i r (by simpa using e)
      exact ⟨w, by simpa using q1, q2.grow g⟩
  · cases i with
    | zero => simp at e1
    | succ i =>
      obtain ⟨_, _, _, q⟩ := pick i _ (by simpa using e1)
      exact (q ds rfl).elim
noncomputable def TstOk (Y : Cx) (ifs : List Expr) (t : DTn) : Prop := ∀ (pins : List (Addr × Obj)) (s : Shared) (σ : St) (H : Hp) (Q : Bool → Hp → Prop), Inv Y pins σ H s → rt Y.K t σ H Q →
  wpAny (model Y.prog Y.w) Y.A (forIn ifs true fun c r => if r = true then do let ok ← isTrue c Y.env (eval c Y.env); pure (ForInStep.yield ok) else pure (ForInStep.yield r)) (TP Y pins σ Q) Y.xe s
theorem tst_nil {Y : Cx} : TstOk Y [] qYes := fun pins s σ H Q I ⟨B, δ, b, rp, e, q⟩ => by
  cases e
  exact wpAny_tests_nil ⟨H, I, q H (Same.refl _)⟩
theorem tst_one {Y : Cx} {c : Expr} {t : DTn} (hc : DT Y c t) : TstOk Y [c] t := fun pins s σ H Q I h => wpAny_tests_one (hc pins s σ H Q I h)
noncomputable def BlkOk (X : Cx) (x : Str) (ns : List Str) (scope : Scope) (cl : List (Str × Addr)) (ifs : List Expr) (t : DTn) (elt : Expr) (e : DEn) : Prop :=
  ∀ (C : Addr) (s : Shared) (H : Hp) (ex : List Addr), TstOk (cxC X x ns scope C s H ex cl) ifs t ∧ DE (cxC X x ns scope C s H ex cl) elt e
set_option maxHeartbeats 4000000 in
theorem comp_block {elt iter : Expr} {px : Pos} {ifs : List Expr} {pos : Pos} {t : DTn} {e : DEn} {E : Value → Shared → Prop} {RR : Value → Addr → Result → Shared → Prop} {H2 : Hp} {s2 : Shared} {it : Addr} {fp : List Addr} {tn : Nat → Heap → Prop} {J : It} {B : Hp} {δ : Ev} {ds rs : List DL.D}
    (O : CpOk X x cs ns scope cl) (hc : X.calm = true) (bk : BlkOk X x ns scope cl ifs t elt e) (I2 : Inv X pins σ H2 s2) (T : Turn X.prog X.w X.K (.Name x px) J fp it tn) (st2 : tn 0 s2.heap) (f2 : ∀ b ∈ fp, FpOk X pins H2 b) (yc : Yc X.K H2 J ds)
    (rp : Rep X.K B δ σ H2) (hz : ds.length ≤ 10000) (ec : cpGo t e (capsOf cs δ) ds = some rs)
    (hRR : ∀ (D C : Addr) (s' : Shared) (H' : Hp) (xs : List V) (m : Str → Option Value), H2 D = none → Inv X pins σ H' s' → Same H2 H' → H' D = some (.lst xs) → HasL X.K H' rs xs → s'.heap.Ns C m → FpOk X pins H' C → RR (.ref D) C (.ok .next) s') :
    wpAny (model X.prog X.w) X.A (newList []) (fun acc s₃ => wpAny (model X.prog X.w) X.A (newFunctionEnv scope X.env.globals cl [] X.env.qual none .none (some X.env)) (fun cenv s₄ =>
      codeAny (model X.prog X.w) X.A (.compStart (.ListComp elt [⟨.Name x px, iter, ifs, 0⟩] scope pos) 0 (.ref it) acc { cenv with scope := relabel scope X.env }) (RR acc cenv.locals) s₄) E s₃) E s2 := by
  refine wpAny_newObj_type (wpAny_newFunctionEnv O.cell (by intro y hy; simp at hy) (fun h₁ hns₁ hsb₁ => ?_) O.kind)
  dsimp only at hns₁ hsb₁ ⊢
  have I3 : Inv X pins σ (upd H2 s2.heap.objs.size (.lst [])) { s2 with heap := s2.heap.push { cls := .type "list", dict := none, data := .seq ([] : List Value).toArray } } := I2.lnew (its := []) (t' := s2.toks) .nil (Nat.zero_le _)
  generalize hD : s2.heap.objs.size = D at I3 hns₁ hsb₁ ⊢
  have hDn : H2 D = none := by rw [← hD]; exact I2.fresh
  have fpl : ∀ b ∈ fp, b < D := fun b hb => by
    obtain ⟨o, e, _⟩ := T.obj 0 _ st2 b hb
    rw [← hD]; exact Heap.lt_size e
  generalize hs3 : ({ s2 with heap := s2.heap.push { cls := .type "list", dict := none, data := .seq ([] : List Value).toArray } } : Shared) = s3 at I3
  have hh3 : s2.heap.push { cls := .type "list", dict := none, data := .seq ([] : List Value).toArray } = s3.heap := by rw [← hs3]
  rw [hh3] at hns₁ hsb₁ ⊢
  generalize hC : s3.heap.objs.size = C at hns₁ hsb₁ ⊢
  have hDC : D + 1 = C := by rw [← hC, ← hh3, Heap.size_push, hD]
  have f3 : ∀ b ∈ fp, FpOk X pins (upd H2 D (.lst [])) b := fun b hb => by
    refine ⟨?_, (f2 b hb).2⟩
    rw [upd_ne (Nat.ne_of_lt (fpl b hb))]
    exact (f2 b hb).1
  have keep : ∀ b o, s3.heap.get? b = some o → h₁.get? b = some o := fun b o e => hsb₁.extBut b o (by rw [← hC]; exact Nat.ne_of_lt (Heap.lt_size e)) (Heap.get?_push_of_some _ e)
  have J0 : Inv (cxC X x ns scope C s3 (upd H2 D (.lst [])) fp cl) [] (none :: cs.map fun i => (σ[i]?).join) (upd H2 D (.lst [])) { s3 with heap := h₁, toks := s3.toks + ([] : List (Str × Value)).length } :=
    comp_inv O I3 f3 (fun b hb => by rw [hC, ← hDC]; exact Nat.lt_succ_of_lt (fpl b hb)) hC.symm hns₁ keep
  have st0 : tn 0 h₁ := T.keep 0 _ _ st2 fun b hb o e => keep b o (by rw [← hh3]; exact Heap.get?_push_of_some _ e)
  have stk : ∀ b ∈ frs X.stack, b ∉ fp := fun b hb hx => by
    rcases List.mem_cons.mp (I2.stkSub b hb) with e | hb
    · exact (f2 b hx).2.1 e
    · exact (f2 b hx).2.2.1 hb
  have stat : ∀ {H' : Hp}, (∀ b ∈ fp, H' b = none) → ∀ b ∈ fp, FpOk (cxC X x ns scope C s3 (upd H2 D (.lst [])) fp cl) [] H' b := fun hn b hb =>
    ⟨hn b hb, (by show b ≠ C; rw [← hDC]; exact Nat.ne_of_lt (Nat.lt_succ_of_lt (fpl b hb))), (fun z => stk b z hb), .inl hb, (fun y c h => (f2 b hb).2.2.2.2.1 y c (O.sub y c h)), fun p hp => absurd (show p ∈ ([] : List (Addr × Obj)) from hp) (by simp)⟩
  have sD : ∀ {H' : Hp}, Same (upd H2 D (.lst [])) H' → Same H2 H' := fun g => (same_new hDn _).trans g
  obtain ⟨bt, be⟩ := bk C s3 (upd H2 D (.lst [])) fp
  have ndN : (cxC X x ns scope C s3 (upd H2 D (.lst [])) fp cl).N.Nodup := O.nd
  have fpC : ∀ {H' : Hp}, H' C = none → FpOk X pins H' C := fun hn => by
    rw [← hC] at hn ⊢
    exact I3.fpOk (Nat.le_refl _) hn
  have loop : codeAny (model X.prog X.w) X.A (.compLoop (.ListComp elt [⟨.Name x px, iter, ifs, 0⟩] scope pos) 0 (.ref it) (.ref D) (compEnvC scope cl C X.env)) (RR (.ref D) C) { s3 with heap := h₁, toks := s3.toks + ([] : List (Str × Value)).length } := by
    refine codeAny_loop rfl (fun n s' => ∃ (i : Nat) (σ' : St) (H' : Hp) (xs : List V) (ys zs : List DL.D), i ≤ ds.length ∧ n = ds.length - i ∧ σ'.length = 1 + cs.length ∧ σ'.drop 1 = (cs.map fun i => (σ[i]?).join) ∧ Inv (cxC X x ns scope C s3 (upd H2 D (.lst [])) fp cl) [] σ' H' s' ∧ tn i s'.heap ∧ (∀ b ∈ fp, H' b = none) ∧
      Same H2 H' ∧ H' D = some (.lst xs) ∧ HasL X.K H' ys xs ∧ cpGo t e (capsOf cs δ) (ds.drop i) = some zs ∧ ys ++ zs = rs ∧ ys.length ≤ i) ?_ ds.length ?_
    · rintro n s5 ⟨i, σ5, H5, xs, ys, zs, hi, hn, hσl, hσ, J5, st5, fr5, g5, hD5, l5, e5, er, hy⟩
      show wpAny _ _ ((compTurn (.ListComp elt [⟨.Name x px, iter, ifs, 0⟩] scope pos) 0 (.ref it) (.ref D) (compEnvC scope cl C X.env)).onRaise (fun x => do noteFrame x (compEnvC scope cl C X.env); theTreesLotGoes x)) _ _ s5
      refine wpAny_noted ?_
      rw [compTurn_list]
      refine wpAny_bind (wpAny_standAt (wpAny_bind ?_))
      obtain ⟨y1, y2, y3⟩ := yc H5 g5 i
      by_cases hlt : i < ds.length
      · have hg : ds[i]? = some ds[i] := List.getElem?_eq_getElem hlt
        refine wpAny_mono (T.item (cxC X x ns scope C s3 (upd H2 D (.lst [])) fp cl) rfl rfl rfl hc i [] s5 σ5 H5 (fun _ _ => False) J5 (stat fr5) st5 (y1 _ hg)) (fun r s6 h6 => ?_) fun _ _ z => z.elim
        obtain ⟨u, hr, h6⟩ := h6
        subst hr
        refine wpAny_bind (wpAny_mono h6 (fun _ s7 h7 => ?_) fun _ _ z => z.elim)
        obtain ⟨v, H7, I7, r7, yl7, st7, fr7⟩ := h7
        obtain ⟨z1, z2⟩ := y2 v H7 _ yl7 hg
        subst z1
        have I7' := I7.pinned (stat fr7) (T.obj _ _ st7)
        refine wpAny_bind (wpAny_mono (pg_name (X := cxC X x ns scope C s3 (upd H2 D (.lst [])) fp cl) (pos := px) (i := 0) (x := x) ndN rfl (Or.inl (lookup_relabel_local O.loc)) (Or.inr (lookup_relabel_local O.loc)) _ s7 σ5 H7 v u (fun σ' H' => σ' = σ5.set 0 (some v) ∧ H' = H7) I7' r7 ⟨rfl, rfl⟩) (fun _ s8 h8 => ?_) fun _ _ z => z.elim)
        obtain ⟨σ8, H8, I8, e8, e8'⟩ := h8
        subst e8
        subst e8'
        have eσ : σ5.set 0 (some v) = some v :: cs.map fun i => (σ[i]?).join := by
          cases σ5 with
          | nil => simp at hσl; omega
          | cons a b => simp at hσ; simp [hσ]
        have hdr : ds.drop i = ds[i] :: ds.drop (i + 1) := List.drop_eq_getElem_cons hlt
        rw [hdr] at e5
        unfold cpGo at e5
        obtain ⟨b, eb, e5⟩ := bs e5
        have rp8 : Rep X.K H2 (some (.d ds[i]) :: capsOf cs δ) (σ5.set 0 (some v)) H8 := by rw [eσ]; exact rep_comp rp g5 z2
        have again : ∀ {s9 : Shared} {H9 : Hp} {xs' : List V} {ys' zs' : List DL.D}, Inv (cxC X x ns scope C s3 (upd H2 D (.lst [])) fp cl) ([] ++ pinsAt fp s7.heap) (σ5.set 0 (some v)) H9 s9 → Same H2 H9 → H9 D = some (.lst xs') → HasL X.K H9 ys' xs' → cpGo t e (capsOf cs δ) (ds.drop (i + 1)) = some zs' → ys' ++ zs' = rs → ys'.length ≤ i + 1 →
            ∃ m, m < n ∧ ∃ (i : Nat) (σ' : St) (H' : Hp) (xs : List V) (ys zs : List DL.D), i ≤ ds.length ∧ m = ds.length - i ∧ σ'.length = 1 + cs.length ∧ σ'.drop 1 = (cs.map fun i => (σ[i]?).join) ∧ Inv (cxC X x ns scope C s3 (upd H2 D (.lst [])) fp cl) [] σ' H' s9 ∧ tn i s9.heap ∧ (∀ b ∈ fp, H' b = none) ∧
              Same H2 H' ∧ H' D = some (.lst xs) ∧ HasL X.K H' ys xs ∧ cpGo t e (capsOf cs δ) (ds.drop i) = some zs ∧ ys ++ zs = rs ∧ ys.length ≤ i := by
          intro s9 H9 xs' ys' zs' I9 g9 d9 l9 c9 a9 n9
          refine ⟨ds.length - (i + 1), by omega, i + 1, _, H9, xs', ys', zs', by omega, rfl, by simpa using hσl, by rw [eσ]; rfl, I9.unpinned, T.keep _ _ _ st7 fun b hb o e => (I9.pin (b, o) (List.mem_append_right _ (List.mem_append_right _ (mem_pinsAt hb e)))).1, fun b hb => ?_, g9, d9, l9, c9, a9, n9⟩
          obtain ⟨o, e, d⟩ := T.obj _ _ st7 b hb
          exact (I9.pin (b, o) (List.mem_append_right _ (List.mem_append_right _ (mem_pinsAt hb e)))).2.1
        refine wpAny_bind (wpAny_mono (bt _ s8 (σ5.set 0 (some v)) H8 (fun b' H' => b' = b ∧ Same H8 H') I8 ⟨H2, _, b, rp8, eb, fun H' g => ⟨rfl, g⟩⟩) (fun ok s9 h9 => ?_) fun _ _ z => z.elim)
        obtain ⟨H9, I9, eok, g9⟩ := h9
        subst eok
        cases ok with
        | false =>
          exact wpAny_pure ⟨rfl, again I9 (g5.trans g9) (g9 _ _ hD5) (l5.grow g9) (by simpa using e5) er (by omega)⟩
        | true =>
          simp only [if_true] at e5
          split at e5
          · rename_i y ey
            obtain ⟨zs', ez, e6⟩ := ms e5
            subst e6
            refine wpAny_bind (wpAny_bind (wpAny_mono (be _ s9 (σ5.set 0 (some v)) H9 (fun v' H' => Same H9 H' ∧ Has X.K H' y v') I9 ⟨H2, _, _, rp8.grow g9, ey, fun v' H' g h => ⟨g, h⟩⟩) (fun w s10 h10 => ?_) fun _ _ z => z.elim))
            obtain ⟨v10, H10, I10, r10, g10, l10⟩ := h10
            have d10 : H10 D = some (.lst xs) := g10 _ _ (g9 _ _ hD5)
            have l10' : HasL X.K H10 ys xs := (l5.grow g9).grow g10
            have n10 := l10'.len
            refine wpAny_bind (wpAny_mono (mt_append (X := cxC X x ns scope C s3 (upd H2 D (.lst [])) fp cl) _ s10 (σ5.set 0 (some v)) H10 (.ref D) [v10] (.ref D) [w] (fun _ H' => H' = upd H10 D (.lst (xs ++ [v10]))) I10 rfl (.cons r10 .nil) ⟨D, xs, v10, rfl, rfl, d10, Nat.lt_of_lt_of_le (by omega : xs.length < 10001) (by decide), rfl⟩) (fun _ s11 h11 => ?_) fun _ _ z => z.elim)
            obtain ⟨_, H11, I11, _, e11⟩ := h11
            subst e11
            refine wpAny_pure (wpAny_pure ⟨rfl, again I11 (fun b o q => ?_) upd_same (HasL.mono (tk_upd d10) _ _ (l10'.app (HasL.cons l10 HasL.nil))) ez (by rw [List.append_assoc]; exact er) (by rw [List.length_append, List.length_singleton]; omega)⟩)
            rw [upd_ne (fun z => by subst z; rw [hDn] at q; cases q)]
            exact g10 _ _ (g9 _ _ (g5 _ _ q))
          · cases e5
      · have hil : ds.length ≤ i := by omega
        refine wpAny_mono (T.done (cxC X x ns scope C s3 (upd H2 D (.lst [])) fp cl) rfl rfl rfl hc i [] s5 σ5 H5 (fun _ _ => False) J5 (stat fr5) st5 (y3 hil)) (fun r s6 h6 => ?_) fun _ _ z => z.elim
        obtain ⟨hr, I6⟩ := h6
        subst hr
        have hz0 : ds.drop i = [] := List.drop_eq_nil_of_le hil
        rw [hz0] at e5
        cases e5
        rw [List.append_nil] at er
        subst er
        obtain ⟨m6, hn6, _⟩ := I6.loc
        refine wpAny_pure (hRR D C s6 H5 xs m6 hDn ?_ g5 hD5 l5 hn6 (fpC I6.free))
        have := comp_back (h6 := s6.heap) I3 f3 hC.symm I6 (Heap.SameBut.refl ..)
        exact this
    · exact ⟨0, _, upd H2 D (.lst []), [], [], rs, Nat.zero_le _, rfl, by simp [Nat.add_comm], rfl, J0, st0, (fun b hb => (f3 b hb).1), same_new hDn _, upd_same, HasL.nil, by simpa using ec, rfl, Nat.le_refl _⟩
  have fin := codeAny_compStart_list (ifs := ifs) (rest := []) (elt := elt) (target := .Name x px) (iter := iter) (scope := scope) (pos := pos) loop (T.self _ 0 { s3 with heap := h₁, toks := s3.toks + ([] : List (Str × Value)).length } _ _ st0 loop)
  rw [← hs3] at fin
  exact fin
end
end DL

namespace DL
open PySem PySem.Spec PyProof.Rows L2

theorem capC_sub (cells : List (Str × Addr)) : ∀ (names : List (Str × NameKind)) (cs : List (Str × Addr)), (∀ p ∈ cs, cells.lookup p.1 = some p.2) →
    ∀ p ∈ names.foldl (fun cs nk => if nk.2 == NameKind.free then (match cells.lookup nk.1 with | some c => (nk.1, c) :: cs | none => cs) else cs) cs, cells.lookup p.1 = some p.2
  | [], _, h => h
  | nk :: r, cs, h => by
    refine capC_sub cells r _ ?_
    intro p hp
    dsimp only at hp
    split at hp
    · split at hp
      · rename_i c e
        rcases List.mem_cons.mp hp with rfl | hp
        · exact e
        · exact h p hp
      · exact h p hp
    · exact h p hp
theorem cp_ok {X : Cx} {x : Str} {cs : List Nat} {ns : List Str} {scope : Scope} (kind : scope.kind = .function) (clos : closureFor scope X.env = pure (capC scope.names X.env.cells)) (cell : ∀ y ∈ scope.names, y.2 ≠ .cell)
    (names : ∀ y ∈ scope.names, y.2 = .local → scope.names.lookup y.1 = some .local) (loc : scope.names.lookup x = some .local)
    (has : ((relabel scope X.env).names.all fun p => !(p.2 == NameKind.cell || p.2 == NameKind.free) || ((capC scope.names X.env.cells).lookup p.1).isSome) = true)
    (nd : (x :: ns).Nodup) (at_ : ns = cs.map fun i => X.N.getD i "") (lt : ∀ i ∈ cs, i < X.N.length) (cap : ∀ y ∈ ns, X.env.kindOf y = some .cell ∧ (relabel scope X.env).names.lookup y = some .cell) :
    CpOk X x cs ns scope (capC scope.names X.env.cells) where
  kind := kind
  clos := clos
  cell := cell
  names := names
  loc := loc
  sub := fun y c h => capC_sub X.env.cells scope.names [] (fun p hp => by cases hp) (y, c) (PySem.mem_of_lookup h)
  has := fun y hy => by
    have all := List.all_eq_true.mp has
    rcases hy with hy | hy
    · have := all (y, .cell) (PySem.mem_of_lookup hy)
      exact Option.isSome_iff_exists.mp (by simpa using this)
    · have := all (y, .free) (PySem.mem_of_lookup hy)
      exact Option.isSome_iff_exists.mp (by simpa using this)
  nd := nd
  at_ := at_
  lt := lt
  cap := cap
section
variable {X : Cx} {x : Str} {cs : List Nat} {ns : List Str} {scope : Scope} {cl : List (Str × Addr)} {elt iter : Expr} {px pos spos py : Pos} {ifs : List Expr} {t : DTn} {e : DEn} {it : DIn} {W : Hp → Prop}
theorem de_comp (O : CpOk X x cs ns scope cl) (hc : X.calm = true) (bk : BlkOk X x ns scope cl ifs t elt e) (hi : DC X (.Name x px) iter it) (hs : ∀ x, foldedSetIterable iter X.env x = pure x := by intro _; rfl) :
    DE X (.ListComp elt [⟨.Name x px, iter, ifs, 0⟩] scope pos) (dComp cs it t e) := by
  rintro pins s σ H Q I ⟨B, δ, r, rp, eq, q⟩
  obtain ⟨ds, e1, eq⟩ := bs eq
  split at eq
  · rename_i hz
    obtain ⟨rs, e2, e3⟩ := ms eq
    subst e3
    rw [eval_ListComp]
    refine wpAny_comprehension_free (use := none) rfl hs O.clos O.kind O.names (wpAny_mono (hi pins s σ H (fun J H1 => Same H H1 ∧ Yc X.K H1 J ds) I ⟨B, δ, ds, rp, e1, fun J H1 g y => ⟨g, y⟩⟩) (fun v s1 h1 => wpAny_mono h1 (fun itv s2 h2 => ?_) fun _ _ z => z) fun _ _ z => z)
    obtain ⟨itA, fp, tn, J, H2, rfl, I2, T, st2, f2, g2, yc⟩ := h2
    refine comp_block (RR := fun acc C => compPost (model X.prog X.w) X.A X.xe none (EP X pins σ Q) acc C) O hc bk I2 T st2 f2 yc (rp.grow g2) hz e2 ?_
    intro D C s' H' xs m hD I' g' d' l' hn fc
    refine ⟨m, hn, fun h' hs' => ⟨.ref D, H', ?_, rfl, q _ H' (g2.trans g') ⟨D, xs, rfl, g2.free hD, d', l'⟩⟩⟩
    exact I'.turned (t' := s'.toks) (it := C) (fun b o hb eb => hs'.extBut b o hb eb) fc.1 fc.2.1 fc.2.2.2.1 fc.2.2.2.2.1 fc.2.2.2.2.2
  · cases eq
theorem ds_setC (i : Nat) {y : Str} (hN : X.N.Nodup) (O : CpOk X x cs ns scope cl) (hc : X.calm = true) (bk : BlkOk X x ns scope cl ifs t elt e) (hi : DC X (.Name x px) iter it)
    (hy : X.N[i]? = some y := by rfl) (hl : Loc X.env.scope y := by first | exact Or.inl rfl | exact Or.inr rfl)
    (hsw : swapsWith (.ListComp elt [⟨.Name x px, iter, ifs, 0⟩] scope pos) (some (.Name y py)) spos.line X.env = pure true := by rfl)
    (hf : X.fn y = true ∨ X.env.scope.names.lookup y = some .local := by first | exact .inl rfl | exact .inr rfl)
    (hs : ∀ x, foldedSetIterable iter X.env x = pure x := by intro _; rfl) :
    DS X W (.Assign [.Name y py] (.ListComp elt [⟨.Name x px, iter, ifs, 0⟩] scope pos) spos) (sSet i (dComp cs it t e)) := by
  rintro pins s σ H D I ⟨B, δ, o, sB, rp, eq, q⟩
  obtain ⟨r, e0, eq⟩ := bs eq
  obtain ⟨r', e4, eq⟩ := ms eq
  subst eq
  obtain ⟨ds, e1, e0⟩ := bs e0
  split at e0
  · rename_i hz
    obtain ⟨rs, e2, e3⟩ := ms e0
    subst e3
    rw [exec_Assign_Name_used _ _ _ _ hsw]
    refine wpAny_bind (wpAny_standAt (wpAny_bind ?_))
    show wpAny _ X.A (do let _ ← comprehension (.ListComp elt [⟨.Name x px, iter, ifs, 0⟩] scope pos) scope X.env _ (newList []) false (eval iter X.env) (some (assign (.Name y py) X.env))) _ _ s
    refine wpAny_bind (wpAny_mono (wpAny_comprehension_free (use := some (assign (.Name y py) X.env)) (Q := fun _ s' => SP X pins D .next s') rfl hs O.clos O.kind O.names
      (wpAny_mono (hi pins s σ H (fun J H1 => Same H H1 ∧ Yc X.K H1 J ds) I ⟨B, δ, ds, rp, e1, fun J H1 g y => ⟨g, y⟩⟩) (fun v s1 h1 => wpAny_mono h1 (fun itv s2 h2 => ?_) fun _ _ z => z) fun _ _ z => z)) (fun _ s' hq => wpAny_pure (wpAny_pure hq)) fun _ _ z => z)
    obtain ⟨itA, fp, tn, J, H2, rfl, I2, T, st2, f2, g2, yc⟩ := h2
    refine comp_block (RR := fun acc C => compPost (model X.prog X.w) X.A X.xe (some (assign (.Name y py) X.env)) (fun _ s' => SP X pins D .next s') acc C) O hc bk I2 T st2 f2 yc (rp.grow g2) hz e2 ?_
    intro D' C s' H' xs m hD I' g' d' l' hn fc
    show wpAny _ X.A (assign (.Name y py) X.env (.ref D')) _ _ s'
    refine wpAny_assign_Name (store_ok2 I' hN hy hl (v := .ref D') rfl (fun s'' I'' hsb => ?_) hf)
    obtain ⟨b, hb, hb2⟩ := hsb
    have hbC : C ≠ b := by
      rcases hb2 with z | z
      · rw [z]; exact fc.2.1
      · exact fun w => fc.2.2.2.2.1 y b z w.symm
    refine ⟨m, hn.sameBut hb hbC, fun h' hs' => ⟨_, H', I''.turned (t' := s''.toks) (it := C) (fun b o hb eb => hs'.extBut b o hb eb) fc.1 fc.2.1 fc.2.2.2.1 fc.2.2.2.2.1 fc.2.2.2.2.2, q B _ H' (Same.refl _) (Same.tk (g2.trans g')) ?_⟩⟩
    exact rp.set (g2.trans g') e4 ⟨D', xs, rfl, g2.free hD, d', l'⟩
  · cases e0
end

theorem bools_has {K : PySem.W.Frag} {H : Hp} : ∀ {ds : List D} {ys : List V} {bs' : List Bool}, bools ds = some bs' → HasL K H ds ys → ys = bs'.map V.bl
  | [], ys, bs', e, h => by
    cases e
    simp only [HasL] at h
    rw [h]; rfl
  | .bl b :: r, ys, bs', e, h => by
    obtain ⟨q, e1, e2⟩ := ms (show (bools r).map (b :: ·) = some bs' from e)
    subst e2
    simp only [HasL, Has] at h
    obtain ⟨x, z, e3, e4, h2⟩ := h
    rw [e3, e4, bools_has e1 h2]
    rfl
  | .non :: r, ys, bs', e, h => by cases e
  | .int _ :: r, ys, bs', e, h => by cases e
  | .str _ :: r, ys, bs', e, h => by cases e
  | .tup _ :: r, ys, bs', e, h => by cases e
theorem vals_bools : ∀ {bs' : List Bool} {its : List Value}, Vals (bs'.map V.bl) its → its = bs'.map Value.bool
  | [], _, .nil => rfl
  | b :: r, _, .cons h t => by
    have h : _ = Value.bool b := h
    rw [h, vals_bools t]; rfl
theorem all_range (bs' : List Bool) : (List.range bs'.length).all (fun i => bs'.getD i false) = bs'.all id := by
  rw [Bool.eq_iff_iff]
  simp only [List.all_eq_true, List.mem_range, id]
  constructor
  · intro h b hb
    obtain ⟨i, hi, rfl⟩ := List.mem_iff_getElem.mp hb
    have := h i hi
    rwa [List.getD_eq_getElem?_getD, List.getElem?_eq_getElem hi] at this
  · intro h i hi
    rw [List.getD_eq_getElem?_getD, List.getElem?_eq_getElem hi]
    exact h _ (List.getElem_mem hi)
theorem c_all {X : Cx} (hc : X.calm = true) : CallR X (.builtin "all") (rB X.K gAllL) := by
  intro pins s σ H xs us Q I rv h
  obtain ⟨B, H0, rs, r, sB, i1, e, q⟩ := h
  unfold gAllL at e
  split at e
  · rename_i r0
    unfold gAll at e
    split at e
    · rename_i fl ds
      obtain ⟨bs', eb, er⟩ := ms e
      subst er
      obtain ⟨v, e1, i2⟩ := isrs1 i1
      subst e1
      obtain ⟨a, ys, e2, s2, l2⟩ := (i2.vw sB).sq
      subst e2
      obtain ⟨u, e3, ru⟩ := vals1 rv
      subst e3
      cases (show u = Value.ref a from ru)
      obtain ⟨its, rv2, p, hz⟩ := I.list s2
      rw [bools_has eb l2] at rv2
      have hb := vals_bools rv2
      have hsz : its.toArray.size = bs'.length := by rw [hb]; simp
      have hne : a ≠ s.heap.objs.size := by
        obtain ⟨o, ho, _⟩ := p.isList
        exact Nat.ne_of_lt (Heap.lt_size ho)
      refine call_all_walk (wpAny_pyIter_list p.isList ?_)
      refine ⟨s.heap.objs.size, _, _, _, _, _, fun i => bs'.getD i false, rfl, Walks.list (show X.A.in1.handled = none from I.ok.hd hc) s.heap.objs.size a hne its.toArray, ⟨⟨_, Heap.get?_push_size _ rfl, rfl, rfl⟩, p.isList.at fun o e => Heap.get?_push_of_some _ e⟩, ?_, fun h' tk hk => ?_⟩
      · intro i v s0 Q0 E0 hP hQ
        have hP : its.toArray[i]? = some v := hP
        rw [hb] at hP
        have hP : (bs'.map Value.bool)[i]? = some v := by simpa using hP
        rw [List.getElem?_map] at hP
        cases hbi : bs'[i]? with
        | none => rw [hbi] at hP; cases hP
        | some b =>
          rw [hbi] at hP
          cases hP
          have hQ : Q0 (bs'.getD i false) s0 := hQ
          rw [List.getD_eq_getElem?_getD, hbi] at hQ
          exact wpAny_truthy_bool hQ
      · rw [hsz, all_range]
        refine ⟨.bl _, H, I.kept (t' := tk) fun b o eb => hk b o ?_ (Heap.get?_push_of_some _ eb), rfl, q _ H (Same.refl _) (by simp only [Out, Has])⟩
        intro z
        have z : b = s.heap.objs.size := by simpa using z
        exact absurd (Heap.lt_size eb) (by rw [z]; exact Nat.lt_irrefl _)
    · cases e
  · cases e

theorem bt_len : bootBuiltins "len" = some (.builtin "len") := by decide +kernel
theorem bt_all : bootBuiltins "all" = some (.builtin "all") := by decide +kernel
theorem bt_tuple : bootBuiltins "tuple" = some (.type "tuple") := by decide +kernel
theorem bt_int : bootBuiltins "int" = some (.type "int") := by decide +kernel
theorem bt_bool : bootBuiltins "bool" = some (.type "bool") := by decide +kernel
theorem bt_str : bootBuiltins "str" = some (.type "str") := by decide +kernel
end DL

namespace RevT
open PySem PyProof.Rows PySem.Spec
noncomputable def IsRev (h : Heap) (a l : Addr) (i : Int) : Prop := ∃ o, h.get? a = some o ∧ o.cls = .type "reversed" ∧ o.data = .fields #[.ref l, rawInt i]
section
variable {prog : Program} {w : World} {A : Around} {E : Value → Shared → Prop} {s : Shared}
theorem IsRev.typeIs {a l : Addr} {i : Int} (x : IsRev s.heap a l i) : s.TypeIs (.ref a) "reversed" := let ⟨o, ho, hc, _⟩ := x; ⟨o, ho, hc⟩
theorem IsRev.at {h h' : Heap} {a l : Addr} {i : Int} (x : IsRev h a l i) (e : ∀ o, h.get? a = some o → h'.get? a = some o) : IsRev h' a l i := let ⟨o, ho, r⟩ := x; ⟨o, e _ ho, r⟩
end
end RevT

namespace DL
open PySem PySem.Spec PyProof.Rows L2
section
variable {X : Cx} {pos p : Pos} {a tg : Expr} {f : DEn}
end
end DL

namespace DL
open PySem PySem.Spec PyProof.Rows L2
section
variable {X : Cx} {pins : List (Addr × Obj)} {σ : St} {H : Hp} {s : Shared}
end
section
variable {X : Cx}
end
end DL

namespace DL
open PySem PySem.Spec PyProof.Rows L2
section
variable {X : Cx} {pos p p2 : Pos} {a b c : Expr} {f h k : DEn} {es : List Expr} {t : DAn}

theorem de_globS {x : Str} {i : Str} {t : Tok} (hg : Gl X x) (hm : X.mg x = some (.str i t)) (hd : (x == ("__debug__" : Str)) = false := by decide) : DE X (.Name x pos) (dC (.str i)) := de_c (v := V.str i) (pe_glob (v := V.str i) hg hm ⟨t, rfl⟩ hd) fun _ _ => by simp only [Has]






end
end DL

namespace DL
open PySem PySem.Spec PyProof.Rows L2
section
variable {X : Cx} {pos p p2 p3 : Pos} {a tg : Expr} {f : DEn} {body : List Stmt} {u : DSn} {W : Hp → Prop}
end
end DL

namespace DL
open PySem PySem.Spec PyProof.Rows L2

noncomputable def gAddS : R → R → Option R
  | .d (.str i), .d (.str j) => if i.length + j.length ≤ 10000 then some (.d (.str (i ++ j))) else none
  | _, _ => none
noncomputable def gStr : List R → Option R
  | [.d (.int i)] => if i.natAbs.log2 < 1920 then some (.d (.str (Str.ofString (toString i)))) else none
  | _ => none
noncomputable def gIxS : R → R → Option R
  | .d (.str z), .d (.int i) => if z.length ≤ 10000 then (atP z.cps.toList i).map fun c => .d (.str ⟨#[c]⟩) else none
  | x, y => gIx x y
noncomputable def gLenS : List R → Option R
  | [.d (.str z)] => if z.length ≤ 10000 then some (.d (.int z.length)) else none
  | rs => gLen rs
noncomputable def sInS (i j : Str) : Bool := !(Builtin.Str.occurrences j i 0 j.length 1).isEmpty
noncomputable def gInS : R → R → Option R
  | .d (.str i), .d (.str j) => some (.d (.bl (sInS i j)))
  | _, _ => none
noncomputable def gNotInS : R → R → Option R
  | .d (.str i), .d (.str j) => some (.d (.bl (!sInS i j)))
  | _, _ => none
noncomputable def gIdxS : R → R → Option R
  | .d (.str x), .d (.str y) => (Builtin.Str.occurrences x y 0 x.length 1).head?.map fun i => .d (.int (i : Nat))
  | _, _ => none
noncomputable def gFindS : R → R → Option R
  | .d (.str x), .d (.str y) => some (.d (.int (Txt.find x y)))
  | _, _ => none
noncomputable def gEndS : R → R → Option R
  | .d (.str x), .d (.str y) => some (.d (.bl (Txt.endswith x y)))
  | _, _ => none
noncomputable def gSplitS : R → R → Option R
  | .d (.str x), .d (.str y) => if (y.length == 0) = false ∧ x.length ≤ 10000 then some (.l .own ((Txt.split x y).map D.str)) else none
  | _, _ => none
noncomputable def strsD : List D → Option (List Str)
  | [] => some []
  | .str x :: r => (strsD r).map (x :: ·)
  | _ :: _ => none
noncomputable def gJoinS : R → R → Option R
  | .d (.str x), .l _ ds => (strsD ds).bind fun ss => if (ss.map (·.length)).sum + ss.length * x.length ≤ 10000 then some (.d (.str (Str.join x ss))) else none
  | _, _ => none
noncomputable def gSlS (x : R) (l h : Option Int) : Option R := match x with
  | .d (.str z) => if z.length ≤ 10000 then some (.d (.str (Txt.slice z l h))) else none
  | x => gSl x l h
noncomputable def dSlS (a : DEn) (lo hi : Option DEn) : DEn := fun δ => (a δ).bind fun x => (oI lo δ).bind fun l => (oI hi δ).bind fun h => gSlS x l h
noncomputable def fmtR : R → Option Str
  | .d (.str x) => if x.length ≤ 10000 then some x else none
  | .d (.int i) => if i.natAbs.log2 < 1920 then some (Str.ofString (toString i)) else none
  | _ => none
section
variable {X : Cx} {pos p p2 : Pos} {a b c : Expr} {f h k : DEn} {es : List Expr} {t : DAn}
theorem o_addS : OpR X (binaryOp .Add) (r2R X.K gAddS) := by
  intro pins s σ H x y v u Q I rx ry hh
  obtain ⟨r1, r2, r, h1, h2, e, q⟩ := hh
  unfold gAddS at e
  split at e
  · rename_i i j
    split at e
    · rename_i hz
      cases e
      have h1 : Has X.K H (.str i) x := h1
      have h2 : Has X.K H (.str j) y := h2
      simp only [Has] at h1 h2
      exact op_add_str pins s σ H x y v u Q I rx ry ⟨i, j, h1, h2, line10000 (by omega), q _ H (Same.refl _) (by simp only [Out, Has])⟩
    · cases e
  · cases e
theorem c_str : CallR X (.type "str") (rB X.K gStr) := by
  intro pins s σ H xs us Q I rv hh
  obtain ⟨B, H0, rs, r, sB, i1, e, q⟩ := hh
  unfold gStr at e
  split at e
  · rename_i i
    split at e
    · rename_i hz
      cases e
      obtain ⟨v, e1, i2⟩ := isrs1 i1
      subst e1
      have i2 : Has X.K H (.int i) v := i2
      simp only [Has] at i2
      subst i2
      exact call_str_int pins s σ H _ us Q I rv ⟨i, rfl, hz, q _ H (Same.refl _) (by simp only [Out, Has])⟩
    · cases e
  · cases e
theorem ix_anyS : IxR X (r2R X.K gIxS) := by
  intro value slice pins s σ H x y v u Q I rx ry hh hs
  obtain ⟨r1, r2, r, h1, h2, e, q⟩ := hh
  unfold gIxS at e
  split at e
  · rename_i z i
    split at e
    · rename_i hz
      obtain ⟨d, e1, e2⟩ := ms e
      subst e2
      have h1 : Has X.K H (.str z) x := h1
      have h2 : Has X.K H (.int i) y := h2
      simp only [Has] at h1 h2
      exact ix_str value slice pins s σ H x y v u Q I rx ry ⟨z, i, d, h1, h2, line10000 (by omega), e1, q _ H (Same.refl _) (by simp only [Out, Has])⟩ hs
    · cases e
  · exact ix_any value slice pins s σ H x y v u Q I rx ry ⟨r1, r2, r, h1, h2, e, q⟩ hs
theorem de_ixS (ha : DE X a f) (hb : DE X b h) (hs : PlainIx b := by intro _ _; rfl) : DE X (.Subscript a b pos) (d2 gIxS f h) := pe_to (pe_ix ix_anyS ha hb hs) (rd2 X.K)
theorem c_lenS : CallR X (.builtin "len") (rB X.K gLenS) := by
  intro pins s σ H xs us Q I rv hh
  obtain ⟨B, H0, rs, r, sB, i1, e, q⟩ := hh
  unfold gLenS at e
  split at e
  · rename_i z
    split at e
    · rename_i hz
      cases e
      obtain ⟨v, e1, i2⟩ := isrs1 i1
      subst e1
      have i2 : Has X.K H (.str z) v := i2
      simp only [Has] at i2
      subst i2
      exact call_len_str pins s σ H _ us Q I rv ⟨z, rfl, line10000 (by omega), q _ H (Same.refl _) (by simp only [Out, Has])⟩
    · cases e
  · exact c_len pins s σ H xs us Q I rv ⟨B, H0, rs, r, sB, i1, e, q⟩
theorem o_inS : OpR X (compareOp .In) (r2R X.K gInS) := by
  intro pins s σ H x y v u Q I rx ry hh
  obtain ⟨r1, r2, r, h1, h2, e, q⟩ := hh
  unfold gInS at e
  split at e
  · rename_i i j
    cases e
    have h1 : Has X.K H (.str i) x := h1
    have h2 : Has X.K H (.str j) y := h2
    simp only [Has] at h1 h2
    exact op_in_str pins s σ H x y v u Q I rx ry ⟨i, j, h1, h2, q _ H (Same.refl _) (by simp only [Out, Has, sInS])⟩
  · cases e
theorem o_notInS : OpR X (compareOp .NotIn) (r2R X.K gNotInS) := by
  intro pins s σ H x y v u Q I rx ry hh
  obtain ⟨r1, r2, r, h1, h2, e, q⟩ := hh
  unfold gNotInS at e
  split at e
  · rename_i i j
    cases e
    have h1 : Has X.K H (.str i) x := h1
    have h2 : Has X.K H (.str j) y := h2
    simp only [Has] at h1 h2
    exact op_notIn_str pins s σ H x y v u Q I rx ry ⟨i, j, h1, h2, q _ H (Same.refl _) (by simp only [Out, Has, sInS])⟩
  · cases e

noncomputable def rM1 (K : PySem.W.Frag) (g : R → R → Option R) : V → List V → Hp → VK → Prop := fun x vs H Q => ∃ y, vs = [y] ∧ r2R K g x y H Q
theorem de_bm1 {g : R → R → Option R} {name : Str} {id : String} {ap cp : Pos} (slot : Slot "str" name id) (hty : typeOf (.builtin id) = pure (.type "method_descriptor")) (hm : MtR X id (rM1 X.K g)) (hx : ∀ r1 r2 r, g r1 r2 = some r → ∃ z, r1 = .d (.str z)) (ha : DE X a f) (hb : DE X b h)
    (hs : starEach [b] X.env = (false, eval b X.env) :: starEach [] X.env := by rfl) (hl : (ap.endLine == cp.line) = true := by rfl)
    (hfew : ((backTo cp (starEach [b] X.env)).all (fun x => !x.1) && (backToKw cp (keywordEach [] X.env)).all (fun x => x.1.isSome)
      && decide (([b] : List Expr).length + ([] : List Keyword).length + (if ([] : List Keyword).isEmpty then 0 else 1) < 30)) = true := by rfl)
    (hbase : attributeBase a name X.env (eval a X.env) = eval a X.env := by rfl) : DE X (.Call (.Attribute a name ap) [b] [] cp) (d2 g f h) :=
  pe_to (pe_bm (T := "str") (id := id) PySem.F.plainAttrs_str slot hty hm ha (pa_cons hb pa_nil hs) hbase hfew hl hs rfl) fun σ H Q ⟨B, δ, r, rp, e, q⟩ => by
    obtain ⟨x, ex, e⟩ := bs e
    obtain ⟨y, ey, e⟩ := bs e
    refine ⟨B, δ, x, rp, ex, fun v H1 g1 i1 => ?_⟩
    obtain ⟨z, hz⟩ := hx _ _ _ e
    have i0 : Has X.K H1 (.str z) v := by rw [hz] at i1; exact i1
    simp only [Has] at i0
    refine ⟨by rw [i0]; rfl, B, δ, y, rp.grow g1, ey, fun u H2 g2 i2 => ⟨u, rfl, x, y, r, ?_, ?_, e, fun w H3 g3 o => q w H3 (g1.trans (g2.trans g3)) (o.is (g1.trans g2))⟩⟩
    · exact (i1.vw (rp.same.trans g1)).grow g2
    · exact i2.vw ((rp.same.trans g1).trans g2)
theorem mt_endS : MtR X "str.endswith" (rM1 X.K gEndS) := by
  intro pins s σ H x vs v us Q I rx rv hh
  obtain ⟨y, rfl, r1, r2, r, h1, h2, e, q⟩ := hh
  unfold gEndS at e
  split at e
  · rename_i i j
    cases e
    have h1 : Has X.K H (.str i) x := h1
    have h2 : Has X.K H (.str j) y := h2
    simp only [Has] at h1 h2
    subst h1
    subst h2
    obtain ⟨tx, rfl⟩ := rx
    obtain ⟨u, rfl, tu, rfl⟩ := vals1 rv
    exact SC.endswith ⟨.bl _, H, I, rfl, q _ H (Same.refl _) (by simp only [Out, Has])⟩
  · cases e
theorem mt_findS : MtR X "str.find" (rM1 X.K gFindS) := by
  intro pins s σ H x vs v us Q I rx rv hh
  obtain ⟨y, rfl, r1, r2, r, h1, h2, e, q⟩ := hh
  unfold gFindS at e
  split at e
  · rename_i i j
    cases e
    have h1 : Has X.K H (.str i) x := h1
    have h2 : Has X.K H (.str j) y := h2
    simp only [Has] at h1 h2
    subst h1
    subst h2
    obtain ⟨tx, rfl⟩ := rx
    obtain ⟨u, rfl, tu, rfl⟩ := vals1 rv
    exact SC.find ⟨.int _, H, I.tok _, ⟨_, rfl⟩, q _ H (Same.refl _) (by simp only [Out, Has])⟩
  · cases e
theorem mt_idxS : MtR X "str.index" (rM1 X.K gIdxS) := by
  intro pins s σ H x vs v us Q I rx rv hh
  obtain ⟨y, rfl, r1, r2, r, h1, h2, e, q⟩ := hh
  unfold gIdxS at e
  split at e
  · rename_i i j
    obtain ⟨n, en, er⟩ := ms e
    subst er
    have h1 : Has X.K H (.str i) x := h1
    have h2 : Has X.K H (.str j) y := h2
    simp only [Has] at h1 h2
    subst h1
    subst h2
    obtain ⟨tx, rfl⟩ := rx
    obtain ⟨u, rfl, tu, rfl⟩ := vals1 rv
    obtain ⟨rest, ho⟩ : ∃ rest, Builtin.Str.occurrences i j 0 i.length 1 = n :: rest := by
      cases hq : Builtin.Str.occurrences i j 0 i.length 1 with
      | nil => rw [hq] at en; cases en
      | cons m rest => rw [hq] at en; cases en; exact ⟨rest, rfl⟩
    exact SC.index ho ⟨.int _, H, I.tok _, ⟨_, rfl⟩, q _ H (Same.refl _) (by simp only [Out, Has])⟩
  · cases e
theorem strs_has {K : PySem.W.Frag} {H : Hp} : ∀ {ds : List D} {ss : List Str} {xs : List V}, strsD ds = some ss → HasL K H ds xs → xs = ss.map V.str
  | [], ss, xs, e, hh => by
    cases e
    simp only [HasL] at hh
    exact hh
  | .str x :: r, ss, xs, e, hh => by
    obtain ⟨ts, e1, e2⟩ := ms (show (strsD r).map (x :: ·) = some ss from e)
    subst e2
    simp only [HasL] at hh
    obtain ⟨y, q, ey, h1, h2⟩ := hh
    simp only [Has] at h1
    subst ey
    subst h1
    rw [strs_has e1 h2]
    rfl
  | .non :: r, ss, xs, e, hh => by cases e
  | .bl _ :: r, ss, xs, e, hh => by cases e
  | .int _ :: r, ss, xs, e, hh => by cases e
  | .tup _ :: r, ss, xs, e, hh => by cases e
  | .fu _ :: r, ss, xs, e, hh => by cases e
theorem strs_vals : ∀ {ss : List Str} {us : List Value}, Vals (ss.map V.str) us → ∃ l : List (Str × Tok), us = strValues l ∧ l.map (·.1) = ss
  | [], us, hh => by
    cases us with
    | nil => exact ⟨[], rfl, rfl⟩
    | cons u r => cases hh
  | x :: r, us, hh => by
    cases us with
    | nil => cases hh
    | cons u us' =>
      cases hh with
      | cons h1 h2 =>
        obtain ⟨t, rfl⟩ := h1
        obtain ⟨l, e1, e2⟩ := strs_vals h2
        exact ⟨(x, t) :: l, by rw [e1]; rfl, by rw [← e2]; rfl⟩
theorem vals_strs : ∀ (l : List (Str × Tok)), Vals ((l.map (·.1)).map V.str) (strValues l)
  | [] => .nil
  | (x, t) :: r => .cons ⟨t, rfl⟩ (vals_strs r)
theorem HasL.strs {K : PySem.W.Frag} {H : Hp} : ∀ (ss : List Str), HasL K H (ss.map D.str) (ss.map V.str)
  | [] => HasL.nil
  | x :: r => HasL.cons (by simp only [Has]) (HasL.strs r)
theorem mt_joinS : MtR X "str.join" (rM1 X.K gJoinS) := by
  intro pins s σ H x vs v us Q I rx rv hh
  obtain ⟨y, rfl, r1, r2, r, h1, h2, e, q⟩ := hh
  unfold gJoinS at e
  split at e
  · rename_i i fl ds
    obtain ⟨ss, es, e⟩ := bs e
    split at e
    · rename_i hz
      cases e
      have h1 : Has X.K H (.str i) x := h1
      simp only [Has] at h1
      subst h1
      obtain ⟨tx, rfl⟩ := rx
      obtain ⟨w, ys, ew, sq, l1⟩ := h2.sq
      subst ew
      obtain ⟨u, rfl, ru⟩ := vals1 rv
      cases (show u = Value.ref w from ru)
      rw [strs_has es l1] at sq
      obtain ⟨its, r3, p3, _⟩ := I.list sq
      obtain ⟨l, e1, e2⟩ := strs_vals r3
      subst e1
      have ok : JoinOk i ss = true := by
        unfold JoinOk
        rw [StrLaws.joinTotal]
        have : Builtin.Str.tooLong ((ss.map (·.length)).sum + ss.length * i.length) = false := by
          unfold Builtin.Str.tooLong
          exact decide_eq_false (Nat.not_lt.mpr (line10000 (by omega)))
        rw [this]
        rfl
      refine SC.join p3.isList e2 ok fun t' k => ⟨.str _, H, I.tok _, ⟨_, rfl⟩, q _ H (Same.refl _) ?_⟩
      have : Txt.join i ss = Str.join i ss := StrLaws.glued_eq_join i ss
      rw [this]
      simp only [Out, Has]
    · cases e
  · cases e
theorem mt_splitS : MtR X "str.split" (rM1 X.K gSplitS) := by
  intro pins s σ H x vs v us Q I rx rv hh
  obtain ⟨y, rfl, r1, r2, r, h1, h2, e, q⟩ := hh
  unfold gSplitS at e
  split at e
  · rename_i i j
    split at e
    · rename_i hz
      cases e
      have h1 : Has X.K H (.str i) x := h1
      have h2 : Has X.K H (.str j) y := h2
      simp only [Has] at h1 h2
      subst h1
      subst h2
      obtain ⟨tx, rfl⟩ := rx
      obtain ⟨u, rfl, tu, rfl⟩ := vals1 rv
      have hn : (Txt.split i j).length ≤ sizeLine := Nat.le_trans (split_le i j) (Nat.le_trans (show i.length + 2 ≤ 10002 by omega) (by decide))
      have fin : ∀ (l : List (Str × Tok)) (k : Nat), l.map (·.1) = Txt.split i j → EP X pins σ Q (.ref s.heap.objs.size) { s with heap := s.heap.push { cls := .type "list", data := .seq (strValues l).toArray }, toks := k } := by
        intro l k el
        have vv := vals_strs l
        rw [el] at vv
        refine ⟨.ref s.heap.objs.size, _, I.lnew (t' := k) vv (by rw [List.length_map]; exact hn), rfl, ?_⟩
        have g := same_new I.fresh (.lst ((Txt.split i j).map V.str))
        exact q _ _ g ⟨_, _, rfl, I.fresh, upd_same, HasL.strs _⟩
      cases hc : (decide (i.length < j.length) || decide (Builtin.Str.strKind i < Builtin.Str.strKind j))
      · cases hf : (Builtin.Str.occurrences i j 0 i.length (i.length + 1)).isEmpty
        · have ep : Txt.split i j = Builtin.Str.partsBetween i (Builtin.Str.occurrences i j 0 i.length (i.length + 1)) j.length := (if_neg (ne_true_of_eq_false hc)).trans (if_neg (ne_true_of_eq_false hf))
          refine call_meets PySem.F.slot_str_split (typeIs_str _ _ _) PySem.F.entry_str_split (PySem.F.args_str_split_2 _ _) (meets_str_split_sep i j tx tu hc hz.1 hf (line10000 (by omega)) (by rw [← ep]; exact hn)) ?_
          have := fin (numbered s.toks (Builtin.Str.partsBetween i (Builtin.Str.occurrences i j 0 i.length (i.length + 1)) j.length))
          rw [numbered_texts] at this
          rw [strsFrom_eq]
          exact this _ ep.symm
        · exact call_meets PySem.F.slot_str_split (typeIs_str _ _ _) PySem.F.entry_str_split (PySem.F.args_str_split_2 _ _) (meets_str_split_not_found i j tx tu hc hz.1 hf) (fin [(i, tx)] _ ((if_neg (ne_true_of_eq_false hc)).trans (if_pos hf)).symm)
      · exact call_meets PySem.F.slot_str_split (typeIs_str _ _ _) PySem.F.entry_str_split (PySem.F.args_str_split_2 _ _) (meets_str_split_cannot_occur i j tx tu hc) (fin [(i, tx)] _ (if_pos hc).symm)
    · cases e
  · cases e
theorem de_endS {ap cp : Pos} (ha : DE X a f) (hb : DE X b h) (hs : starEach [b] X.env = (false, eval b X.env) :: starEach [] X.env := by rfl) (hl : (ap.endLine == cp.line) = true := by rfl)
    (hfew : ((backTo cp (starEach [b] X.env)).all (fun x => !x.1) && (backToKw cp (keywordEach [] X.env)).all (fun x => x.1.isSome)
      && decide (([b] : List Expr).length + ([] : List Keyword).length + (if ([] : List Keyword).isEmpty then 0 else 1) < 30)) = true := by rfl)
    (hbase : attributeBase a "endswith" X.env (eval a X.env) = eval a X.env := by rfl) : DE X (.Call (.Attribute a "endswith" ap) [b] [] cp) (d2 gEndS f h) :=
  de_bm1 PySem.F.slot_str_endswith PySem.F.type_str_endswith mt_endS (fun r1 r2 r e => by unfold gEndS at e; split at e; exact ⟨_, rfl⟩; cases e) ha hb hs hl hfew hbase
theorem de_idxS {ap cp : Pos} (ha : DE X a f) (hb : DE X b h) (hs : starEach [b] X.env = (false, eval b X.env) :: starEach [] X.env := by rfl) (hl : (ap.endLine == cp.line) = true := by rfl)
    (hfew : ((backTo cp (starEach [b] X.env)).all (fun x => !x.1) && (backToKw cp (keywordEach [] X.env)).all (fun x => x.1.isSome)
      && decide (([b] : List Expr).length + ([] : List Keyword).length + (if ([] : List Keyword).isEmpty then 0 else 1) < 30)) = true := by rfl)
    (hbase : attributeBase a "index" X.env (eval a X.env) = eval a X.env := by rfl) : DE X (.Call (.Attribute a "index" ap) [b] [] cp) (d2 gIdxS f h) :=
  de_bm1 PySem.F.slot_str_index PySem.F.type_str_index mt_idxS (fun r1 r2 r e => by unfold gIdxS at e; split at e; exact ⟨_, rfl⟩; cases e) ha hb hs hl hfew hbase
theorem de_findS {ap cp : Pos} (ha : DE X a f) (hb : DE X b h) (hs : starEach [b] X.env = (false, eval b X.env) :: starEach [] X.env := by rfl) (hl : (ap.endLine == cp.line) = true := by rfl)
    (hfew : ((backTo cp (starEach [b] X.env)).all (fun x => !x.1) && (backToKw cp (keywordEach [] X.env)).all (fun x => x.1.isSome)
      && decide (([b] : List Expr).length + ([] : List Keyword).length + (if ([] : List Keyword).isEmpty then 0 else 1) < 30)) = true := by rfl)
    (hbase : attributeBase a "find" X.env (eval a X.env) = eval a X.env := by rfl) : DE X (.Call (.Attribute a "find" ap) [b] [] cp) (d2 gFindS f h) :=
  de_bm1 PySem.F.slot_str_find PySem.F.type_str_find mt_findS (fun r1 r2 r e => by unfold gFindS at e; split at e; exact ⟨_, rfl⟩; cases e) ha hb hs hl hfew hbase
theorem de_joinS {ap cp : Pos} (ha : DE X a f) (hb : DE X b h) (hs : starEach [b] X.env = (false, eval b X.env) :: starEach [] X.env := by rfl) (hl : (ap.endLine == cp.line) = true := by rfl)
    (hfew : ((backTo cp (starEach [b] X.env)).all (fun x => !x.1) && (backToKw cp (keywordEach [] X.env)).all (fun x => x.1.isSome)
      && decide (([b] : List Expr).length + ([] : List Keyword).length + (if ([] : List Keyword).isEmpty then 0 else 1) < 30)) = true := by rfl)
    (hbase : attributeBase a "join" X.env (eval a X.env) = eval a X.env := by rfl) : DE X (.Call (.Attribute a "join" ap) [b] [] cp) (d2 gJoinS f h) :=
  de_bm1 PySem.F.slot_str_join PySem.F.type_str_join mt_joinS (fun r1 r2 r e => by unfold gJoinS at e; split at e; exact ⟨_, rfl⟩; cases e) ha hb hs hl hfew hbase
theorem de_splitS {ap cp : Pos} (ha : DE X a f) (hb : DE X b h) (hs : starEach [b] X.env = (false, eval b X.env) :: starEach [] X.env := by rfl) (hl : (ap.endLine == cp.line) = true := by rfl)
    (hfew : ((backTo cp (starEach [b] X.env)).all (fun x => !x.1) && (backToKw cp (keywordEach [] X.env)).all (fun x => x.1.isSome)
      && decide (([b] : List Expr).length + ([] : List Keyword).length + (if ([] : List Keyword).isEmpty then 0 else 1) < 30)) = true := by rfl)
    (hbase : attributeBase a "split" X.env (eval a X.env) = eval a X.env := by rfl) : DE X (.Call (.Attribute a "split" ap) [b] [] cp) (d2 gSplitS f h) :=
  de_bm1 PySem.F.slot_str_split PySem.F.type_str_split mt_splitS (fun r1 r2 r e => by unfold gSplitS at e; split at e; exact ⟨_, rfl⟩; cases e) ha hb hs hl hfew hbase

theorem part_of {v : Value} {o : Option Int} (h : IsPart v o) : ∃ l : Option (Int × Tok), v = partValue l ∧ l.map (·.1) = o := by
  cases h with
  | none => exact ⟨none, rfl, rfl⟩
  | int => exact ⟨some (_, _), rfl, rfl⟩
theorem sl_anyS : SlR X (fun x lo hi H Q => ∃ r1 r, VwR X.K H r1 x ∧ gSlS r1 lo hi = some r ∧ ∀ v H', Same H H' → Out X.K H H' r v → Q v H') := by
  intro pins s σ H x v vl vu lo hi sl Q I rx hs pl pu hh
  obtain ⟨r1, r, h1, e, q⟩ := hh
  unfold gSlS at e
  split at e
  · rename_i z
    split at e
    · rename_i hz
      cases e
      have h1 : Has X.K H (.str z) x := h1
      simp only [Has] at h1
      subst h1
      obtain ⟨tx, rfl⟩ := rx
      obtain ⟨l, rfl, el⟩ := part_of pl
      obtain ⟨u, rfl, eu⟩ := part_of pu
      refine ⟨"str", _, PySem.F.slot_str_getitem.lookup, typeIs_str _ _ _, ?_⟩
      refine wpAny_getItem_str_slice (l := l) (u := u) (st := none) hs rfl ?_
      have key : ∀ t' k, EP X pins σ Q (.str (Txt.slice z lo hi) t') { s with toks := k } := fun t' k => ⟨.str _, H, I.tok _, ⟨_, rfl⟩, q _ H (Same.refl _) (by simp only [Out, Has])⟩
      unfold Txt.slice at key
      subst el
      subst eu
      exact post_val_or_str ⟨Nat.le_trans (Txt.slice_le z _ _) (line10000 (by omega)), key⟩
    · cases e
  · rename_i hne
    exact sl_any pins s σ H x v vl vu lo hi sl Q I rx hs pl pu ⟨r1, r, h1, e, q⟩
theorem de_slS {lo hi : Option Expr} {l u : Option DEn} (ha : DE X a f) (hl : PO X lo (ro X.K l)) (hu : PO X hi (ro X.K u)) : DE X (.Subscript a (.Slice lo hi none p2) pos) (dSlS f l u) :=
  pe_to (pe_slice sl_anyS ha hl hu) fun σ H Q ⟨B, δ, r, rp, e, q⟩ => by
    obtain ⟨x, ex, e⟩ := bs e
    obtain ⟨y, ey, e⟩ := bs e
    obtain ⟨z, ez, e⟩ := bs e
    refine ⟨B, δ, x, rp, ex, fun v H1 g1 i1 => ⟨B, δ, y, rp.grow g1, ey, fun H2 g2 => ⟨B, δ, z, (rp.grow g1).grow g2, ez, fun H3 g3 => ?_⟩⟩⟩
    exact ⟨x, r, ((i1.vw (rp.same.trans g1)).grow g2).grow g3, e, fun w H4 g4 o => q w H4 (g1.trans (g2.trans (g3.trans g4))) (o.is (g1.trans (g2.trans g3)))⟩

noncomputable def FP (X : Cx) (e : Expr) (t : DEn) : Prop := ∀ (pins : List (Addr × Obj)) (s : Shared) (σ : St) (H : Hp) (Q : VK), Inv X pins σ H s → (∃ B δ r y, Rep X.K B δ σ H ∧ t δ = some r ∧ fmtR r = some y ∧ ∀ H', Same H H' → Q (.str y) H') → wpAny (model X.prog X.w) X.A (eval e X.env) (EP X pins σ Q) X.xe s
inductive FPs (X : Cx) : List Expr → List DEn → Prop where
  | nil : FPs X [] []
  | cons {e : Expr} {es : List Expr} {t : DEn} {ts : List DEn} : FP X e t → FPs X es ts → FPs X (e :: es) (t :: ts)
variable {W : Hp → Prop} {u : DSn} {body : List Stmt}

end
end DL

namespace DL
open PySem

noncomputable def Ctx0 (e : Addr) (h : Heap) : Prop := ∃ oe vs, h.get? e = some oe ∧ oe.data = .fields vs ∧ vs[2]? = some .none
noncomputable def FlyA (base : Heap) (l : List Env) (e : Addr) (cls a0 fl : Value) (h : Heap) : Prop := base.StaysIn h ∧ base.get? e = none ∧ h.FunFrames base l ∧ h.TracedAtW base e cls a0 fl
section
variable {M : Model} {A : Around} {E : Value → Shared → Prop} {s : Shared} {base : Heap} {env : Env} {outer l : List Env} {L e : Addr} {cls a0 fl : Value} {Q : Unit → Shared → Prop}
theorem FlyA.first {h : Heap} (x : FlyA base l e cls a0 fl h) : ∃ oe vs, h.get? e = some oe ∧ oe.cls = cls ∧ oe.data = .fields vs ∧ vs[0]? = some a0 := by
  obtain ⟨_, _, _, oe, vs, _, _, _, he, hc, hd, _⟩ := x
  exact ⟨oe, vs, he, hc.1, hd, hc.2⟩
theorem entry_C {oe : Obj} {vs : Array Value} {head : Value} {hadNext : Bool} (hfr : A.frames = some (env :: outer)) (hl : s.heap.FunFrames base (env :: outer)) (hf : env.frame = some L) (he : s.heap.get? e = some oe) (hkb : base.StaysIn s.heap) (hen : base.get? e = none)
    (hd : oe.data = .fields vs) (hsz : 1 < vs.size) (h0 : vs[0]? = some a0) (h : ∀ h', FlyA base (env :: outer) e oe.cls a0 (rawInt L) h' → s.heap.UpToSlots h' → (Ctx0 e s.heap → Ctx0 e h') → Q () { s with heap := h' }) :
    wpAny M A (do let x ← frameOf env; let place ← entryPlaceOf L hadNext; let y ← EntryCells.newEntry head x .none (rawInt L) .none place; setField (.ref e) 1 y) Q E s := by
  have nfr : e ∉ (env :: outer).filterMap (·.frame) := fun z => by
    obtain ⟨_, o', ho', nf⟩ := hl.mem z
    rw [he] at ho'
    cases ho'
    exact nf vs hd
  refine wpAny_bind (wpAny_frameOf_fun hfr hl hf fun g hg => wpAny_bind (wpAny_entryPlaceOf fun place hp => ?_))
  unfold EntryCells.newEntry newFields
  refine wpAny_bind (wpAny_newObj_type ?_ (hp.sizeOk5 _ _ _ _ _))
  generalize hT : g.objs.size = T
  generalize hts : ([head, .ref L, .none, rawInt L, .none] ++ (if place.isEmpty then List.replicate 6 Value.none else place)).toArray = ts
  have t3 : ts[3]? = some (rawInt L) := by rw [← hts]; simp
  have eg : g.get? e = some oe := (hg.2.1 e nfr).trans he
  have Te : T ≠ e := by rw [← hT]; exact Nat.ne_of_gt (Heap.lt_size eg)
  have eg2 : (g.push { cls := .type "traceback", dict := none, data := .fields ts }).get? e = some oe := Heap.get?_push_of_some _ eg
  refine wpAny_setField eg2 hd hsz (h _ ?_ ?_ ?_)
  · have dd := Obj.data_mapFields hd (·.setIfInBounds 1 (Value.ref T))
    have ee := Heap.get?_update_self (Obj.mapFields (·.setIfInBounds 1 (Value.ref T))) eg2 (Obj.isFreed_of_fields dd)
    have stays : base.StaysIn g := fun b o q => (hg.2.1 b fun z => by rw [(hl.mem z).1] at q; cases q).trans (hkb b o q)
    have keep : ∀ b o, b ≠ e → g.get? b = some o → ((g.push { cls := .type "traceback", dict := none, data := .fields ts }).update e (Obj.mapFields (·.setIfInBounds 1 (Value.ref T)))).get? b = some o := fun b o hb q =>
      (Heap.get?_update_other _ _ (Ne.symm hb)).trans (Heap.get?_push_of_some _ q)
    have tt : ((g.push { cls := .type "traceback", dict := none, data := .fields ts }).update e (Obj.mapFields (·.setIfInBounds 1 (Value.ref T)))).get? T = some { cls := .type "traceback", dict := none, data := .fields ts } := by
      refine (Heap.get?_update_other _ _ (Ne.symm Te)).trans ?_
      rw [← hT]
      exact Heap.get?_push_size g rfl
    refine ⟨fun b o q => keep b o (fun z => by rw [z, hen] at q; cases q) (stays b o q), hen, hl.of_keeps fun b o q nf => ?_, ⟨_, _, T, _, ts, ee, ⟨Obj.cls_mapFields _ _, ?_⟩, dd, ?_, ?_, Te, tt, rfl, t3⟩⟩
    · obtain ⟨sl, z⟩ := hg.2.2 b o q
      exact ⟨_, keep b _ (fun w => by rw [w, he] at q; cases q; exact nf vs hd) z, rfl⟩
    · rw [Array.getElem?_setIfInBounds_ne (by decide)]
      exact h0
    · simp [hsz]
    · rw [← hT]
      exact stays.fresh
  · intro b o q nf
    obtain ⟨sl, z⟩ := hg.2.2 b o q
    exact ⟨sl, (Heap.get?_update_other _ _ (fun w => by rw [← w, he] at q; cases q; exact nf vs hd)).trans (Heap.get?_push_of_some _ z)⟩
  · rintro ⟨o1, v1, q1, q2, q3⟩
    rw [he] at q1
    cases q1
    rw [hd] at q2
    cases q2
    have dd := Obj.data_mapFields hd (·.setIfInBounds 1 (Value.ref T))
    exact ⟨_, _, Heap.get?_update_self (Obj.mapFields (·.setIfInBounds 1 (Value.ref T))) eg2 (Obj.isFreed_of_fields dd), dd, by rw [Array.getElem?_setIfInBounds_ne (by decide)]; exact q3⟩
theorem flight_C (f : Option Addr) (x : FlyA base l e cls a0 fl s.heap) (h : ∀ h', FlyA base l e cls a0 (f.elim .none fun b => rawInt b) h' → s.heap.UpToSlots h' → (Ctx0 e s.heap → Ctx0 e h') → Q () { s with heap := h' }) : wpAny M A (setFlight (.ref e) f) Q E s := by
  obtain ⟨x1, x2, x3, oe, vs, T, oT, ts, he, hc, hd, v1, hn, Te, hT, dT, t3⟩ := x
  have big : 3 < ts.size := (Array.getElem?_eq_some_iff.mp t3).1
  have oth : ∀ (y : Value) b, b ≠ T → (s.heap.update T (Obj.mapFields (·.setIfInBounds 3 y))).get? b = s.heap.get? b := fun y b hb => Heap.get?_update_other _ _ (Ne.symm hb)
  have nT : ∀ b o, s.heap.get? b = some o → (∀ vs, o.data ≠ .fields vs) → b ≠ T := fun b o q nf z => by
    rw [z, hT] at q
    cases q
    exact nf ts dT
  unfold setFlight
  refine wpAny_bind (wpAny_field he hd v1 ?_)
  rw [if_pos (by simp)]
  refine wpAny_setField hT dT big (h _ ⟨fun b o q => (oth _ b fun z => by rw [z, hn] at q; cases q).trans (x1 b o q), x2, x3.of_keeps fun b o q nf => ⟨o, (oth _ b (nT b o q nf)).trans q, rfl⟩, ?_⟩ ?_ ?_)
  · exact ⟨oe, vs, T, _, _, (oth _ e (Ne.symm Te)).trans he, hc, hd, v1, hn, Te, Heap.get?_update_self _ hT (Obj.isFreed_of_fields (Obj.data_mapFields dT _)), Obj.data_mapFields dT _, by simp [big]⟩
  · exact fun b o q nf => ⟨o.slots, (oth _ b (nT b o q nf)).trans q⟩
  · rintro ⟨o1, w1, q1, q2, q3⟩
    exact ⟨o1, w1, (oth _ e (Ne.symm Te)).trans q1, q2, q3⟩
theorem note_C (hfr : A.frames = some (env :: outer)) (hf : env.frame = some L) (x : FlyA base (env :: outer) e cls a0 fl s.heap) (h : ∀ h', FlyA base (env :: outer) e cls a0 (rawInt L) h' → s.heap.UpToSlots h' → (Ctx0 e s.heap → Ctx0 e h') → Q () { s with heap := h' }) :
    wpAny M A (noteFrame (.ref e) env) Q E s := by
  have x0 := x
  obtain ⟨x1, x2, x3, oe, vs, T, oT, ts, he, hc, hd, v1, hn, Te, hT, dT, t3⟩ := x
  unfold noteFrame
  simp only [hf]
  refine wpAny_bind (wpAny_field he hd v1 ?_)
  rw [if_pos (show (Value.ref T != Value.none) = true by simp)]
  refine wpAny_bind (wpAny_field hT dT t3 ?_)
  by_cases z : (fl == rawInt L) = true
  · rw [if_pos z]
    rw [beq_iff_eq] at z
    subst z
    exact wpAny_pure (h _ x0 (Heap.UpToSlots.refl _) fun q => q)
  · rw [if_neg z]
    have big : 3 < ts.size := (Array.getElem?_eq_some_iff.mp t3).1
    have oth : ∀ b, b ≠ T → (s.heap.update T (Obj.mapFields (·.setIfInBounds 3 Value.none))).get? b = s.heap.get? b := fun b hb => Heap.get?_update_other _ _ (Ne.symm hb)
    have nT : ∀ b o, s.heap.get? b = some o → (∀ vs, o.data ≠ .fields vs) → b ≠ T := fun b o q nf z => by
      rw [z, hT] at q
      cases q
      exact nf ts dT
    refine wpAny_bind (wpAny_setField hT dT big ?_)
    have he2 := (oth e (Ne.symm Te)).trans he
    obtain ⟨c1, c2⟩ := hc
    subst c1
    refine entry_C hfr (x3.of_keeps fun b o q nf => ⟨o, (oth b (nT b o q nf)).trans q, rfl⟩) hf he2 (fun b o q => (oth b fun z => by rw [z, hn] at q; cases q).trans (x1 b o q)) x2 hd (Array.getElem?_eq_some_iff.mp v1).1 c2 fun h' y1 y2 y3 => h h' y1 (fun b o q nf => y2 b o ((oth b (nT b o q nf)).trans q) nf) ?_
    rintro ⟨o1, w1, q1, q2, q3⟩
    exact y3 ⟨o1, w1, (oth e (Ne.symm Te)).trans q1, q2, q3⟩
theorem note_N {oe : Obj} {vs : Array Value} (hfr : A.frames = some (env :: outer)) (hl : s.heap.FunFrames base (env :: outer)) (hf : env.frame = some L) (he : s.heap.get? e = some oe) (hkb : base.StaysIn s.heap) (hen : base.get? e = none)
    (hd : oe.data = .fields vs) (h1 : vs[1]? = some .none) (h0 : vs[0]? = some a0) (h : ∀ h', FlyA base (env :: outer) e oe.cls a0 (rawInt L) h' → s.heap.UpToSlots h' → (Ctx0 e s.heap → Ctx0 e h') → Q () { s with heap := h' }) :
    wpAny M A (noteFrame (.ref e) env) Q E s := by
  unfold noteFrame
  simp only [hf]
  refine wpAny_bind (wpAny_field he hd h1 ?_)
  rw [if_neg (by decide)]
  exact entry_C hfr hl hf he hkb hen hd (Array.getElem?_eq_some_iff.mp h1).1 h0 h
theorem FlyA.out {h : Heap} (x : FlyA base (env :: outer) e cls a0 fl h) : FlyA base outer e cls a0 fl h := by
  obtain ⟨x1, x2, ⟨_, _, x3⟩, x4⟩ := x
  exact ⟨x1, x2, x3, x4⟩
theorem leaves_C (hfr : A.frames = some (env :: outer)) (hf : env.frame = some L) (x : FlyA base (env :: outer) e cls a0 fl s.heap) (h : ∀ h', Heap.FlyingW base outer e cls a0 h' → s.heap.UpToSlots h' → (Ctx0 e s.heap → Ctx0 e h') → Q () { s with heap := h' }) :
    wpAny M A (leaving env (.ref e)) Q E s := by
  unfold leaving
  refine wpAny_bind (note_C hfr hf x fun h1 y1 y2 y3 => ?_)
  exact flight_C none (s := { s with heap := h1 }) y1 fun h2 z1 z2 z3 => h h2 z1.out (y2.trans z2) fun q => z3 (y3 q)
theorem leaves_N {oe : Obj} {vs : Array Value} (hfr : A.frames = some (env :: outer)) (hl : s.heap.FunFrames base (env :: outer)) (hf : env.frame = some L) (he : s.heap.get? e = some oe) (hkb : base.StaysIn s.heap) (hen : base.get? e = none)
    (hd : oe.data = .fields vs) (h1 : vs[1]? = some .none) (h0 : vs[0]? = some a0) (h : ∀ h', Heap.FlyingW base outer e oe.cls a0 h' → s.heap.UpToSlots h' → (Ctx0 e s.heap → Ctx0 e h') → Q () { s with heap := h' }) :
    wpAny M A (leaving env (.ref e)) Q E s := by
  unfold leaving
  refine wpAny_bind (note_N hfr hl hf he hkb hen hd h1 h0 fun h1 y1 y2 y3 => ?_)
  exact flight_C none (s := { s with heap := h1 }) y1 fun h2 z1 z2 z3 => h h2 z1.out (y2.trans z2) fun q => z3 (y3 q)
theorem pass_C {α : Type} {what : String} {Q' : α → Shared → Prop} (x : FlyA base l e cls a0 fl s.heap) (h : ∀ h', FlyA base l e cls a0 (env.frame.elim .none fun b => rawInt b) h' → s.heap.UpToSlots h' → (Ctx0 e s.heap → Ctx0 e h') → E (.ref e) { s with heap := h' }) : wpAny M A (passOn what (.ref e) env : Sem α) Q' E s := by
  have x0 := x
  obtain ⟨x1, x2, x3, oe, vs, T, oT, ts, he, hc, hd, v1, hn, Te, hT, dT, t3⟩ := x
  unfold passOn
  refine wpAny_bind (wpAny_field he hd v1 ?_)
  rw [if_neg (show ¬ ((Value.ref T == Value.none) = true) by simp)]
  refine wpAny_bind (flight_C env.frame x0 fun h' y1 y2 y3 => ?_)
  exact wpAny_throw (h h' y1 y2 y3)
end
end DL
namespace DL
open PySem PySem.W

theorem entry_unchain : entryFor table "proto.unchain" = some Builtin.«proto.unchain» := entryFor_of_tree (by kernel_rfl)
section
variable {prog : Program} {w : World} {A : Around} {E : Value → Shared → Prop} {s : Shared} {K : PySem.W.Frag} {a e C D : Addr} {oe : Obj} {vs : Array Value}
theorem not_type {M : Model} {h : Heap} (he : h.get? e = some oe) (hd : oe.data = .fields vs) : Looks M h (isType (.ref e)) false := by
  intro A' Q' E' s' k q
  unfold isType loadHead
  refine wpAny_bind (wpAny_loadPart (k _ _ he) ?_)
  rw [hd]
  exact wpAny_pure q
theorem exc_val {M : Model} {Q : Value → Shared → Prop} {msg : String} (X : K.In s.heap) (he : s.heap.get? e = some oe) (hc : oe.cls = .ref C) (hd : oe.data = .fields vs) (bb : mroIn K C (.type "BaseException") = some true) (q : Q (.ref e) s) : wpAny M A (excFromValue (.ref e) msg) Q E s := by
  have L1 := not_type (M := M) he hd
  have L2 : Looks M s.heap (typeOf (.ref e)) (.ref C) := hc ▸ (Looks.ld he).andThen .now
  have L3 : Looks M s.heap (isSubtype (.ref C) (.type "BaseException")) true := looks_mroIn X bb
  unfold excFromValue isExcClass isInstance
  refine wpAny_bind (wpAny_bind (L1.here ?_))
  simp only [Bool.false_eq_true, if_false]
  refine wpAny_pure ?_
  simp only [Bool.false_eq_true, if_false]
  refine wpAny_bind (wpAny_bind (L2.here (L3.here ?_)))
  simp only [if_true]
  exact wpAny_pure q
theorem exc_raised {M : Model} {Q : Value → Shared → Prop} (X : K.In s.heap) (he : s.heap.get? e = some oe) (hc : oe.cls = .ref C) (tC : typeIn K (.ref C) = some (.type "type")) (q : Q (.ref e) s) : wpAny M A (raisedInstance (.ref e)) Q E s := by
  have L2 : Looks M s.heap (typeOf (.ref e)) (.ref C) := hc ▸ (Looks.ld he).andThen .now
  have L3 : Looks M s.heap (typeOf (.ref C)) (.type "type") := looks_typeIn X tC
  unfold raisedInstance
  refine wpAny_bind (L2.here (wpAny_bind (L3.here ?_)))
  rw [if_pos (by decide)]
  exact wpAny_pure q
theorem unchain_none {oa : Obj} {va : Array Value} {R : Result → Shared → Prop} (ha : s.heap.get? a = some oa) (hda : oa.data = .fields va) (h2 : va[2]? = some .none) (q : R (.ok (.ret .none)) s) :
    codeAny (model prog w) A (.builtin "proto.unchain" ⟨[.ref e, .ref a, .ref a, .bool false], []⟩) R s := by
  refine codeAny_builtin entry_unchain ?_
  unfold Builtin.«proto.unchain»
  refine wpAny_bind (wpAny_field ha hda h2 ?_)
  rw [if_pos (by decide)]
  exact wpAny_pure q
theorem raise_from {env : Env} {x c : Sem Value} {Q : Flow → Shared → Prop} (hh : A.handled = some (.ref a)) (bC : mroIn K C (.type "BaseException") = some true) (bD : mroIn K D (.type "BaseException") = some true) (tD : typeIn K (.ref D) = some (.type "type"))
    (h : wpAny (model prog w) A x (fun v s₁ => ∃ e, v = .ref e ∧ wpAny (model prog w) A c (fun u s₂ => ∃ oa va t, u = .ref a ∧ a ≠ e ∧ s₂.heap.get? a = some oa ∧ oa.cls = .ref C ∧ oa.data = .fields va ∧ va[2]? = some .none ∧ s₂.heap.get? e = some { cls := .ref D, data := .fields #[.ref t, .none, .none, .none, .bool false, .none] } ∧
        (∀ h' : Heap, (∀ b o, b ≠ e → s₂.heap.get? b = some o → h'.get? b = some o) → K.In h') ∧
        ∀ h', (∀ b, b ≠ e → h'.get? b = s₂.heap.get? b) → h'.get? e = some { cls := .ref D, data := .fields #[.ref t, .none, .ref a, .ref a, .bool true, .none] } → E (.ref e) { s₂ with heap := h' }) E s₁) E s) :
    wpAny (model prog w) A (raiseStmt env (some x) (some c)) Q E s := by
  unfold raiseStmt
  dsimp only
  refine wpAny_bind (wpAny_mono h (fun v s₁ h₁ => ?_) fun _ _ z => z)
  obtain ⟨e, rfl, h₁⟩ := h₁
  refine wpAny_bind (wpAny_holding (wpAny_mono h₁ (fun u s₂ h₂ => ?_) fun _ _ z => z))
  obtain ⟨oa, va, t, rfl, ne, ha, hca, hda, h2, he, KI, fin⟩ := h₂
  refine wpAny_bind (wpAny_pure ?_)
  dsimp only
  have K2 := KI s₂.heap fun _ _ _ q => q
  refine wpAny_bind (wpAny_holding (exc_val K2 he rfl rfl bD ?_))
  rw [if_neg (by simp)]
  refine wpAny_bind (wpAny_holding (exc_val K2 ha hca hda bC ?_))
  refine wpAny_bind (wpAny_setField he rfl (by simp) ?_)
  have e3 := Heap.get?_update_self (Obj.mapFields (·.setIfInBounds 3 (Value.ref a))) he rfl
  refine wpAny_bind (wpAny_setField e3 rfl (by simp) ?_)
  have e4 := Heap.get?_update_self (Obj.mapFields (·.setIfInBounds 4 (Value.bool true))) e3 rfl
  have oth : ∀ b, b ≠ e → ((s₂.heap.update e (Obj.mapFields (·.setIfInBounds 3 (Value.ref a)))).update e (Obj.mapFields (·.setIfInBounds 4 (Value.bool true)))).get? b = s₂.heap.get? b := fun b hb =>
    (Heap.get?_update_other _ _ (Ne.symm hb)).trans (Heap.get?_update_other _ _ (Ne.symm hb))
  generalize (s₂.heap.update e (Obj.mapFields (·.setIfInBounds 3 (Value.ref a)))).update e (Obj.mapFields (·.setIfInBounds 4 (Value.bool true))) = h4 at *
  have e4 : h4.get? e = some { cls := .ref D, data := .fields #[.ref t, .none, .none, .ref a, .bool true, .none] } := e4
  have K4 : K.In h4 := KI h4 fun b o hb q => (oth b hb).trans q
  refine wpAny_bind ((not_type (M := model prog w) e4 rfl).here ?_)
  simp only [Bool.false_eq_true, if_false]
  refine wpAny_bind (exc_raised (s := { s₂ with heap := h4 }) K4 e4 rfl tD ?_)
  unfold setFlight
  refine wpAny_bind (wpAny_bind (wpAny_field (s := { s₂ with heap := h4 }) e4 rfl (x := .none) rfl ?_))
  rw [if_neg (by decide)]
  refine wpAny_pure ?_
  unfold raiseNew
  refine wpAny_bind (wpAny_handled ?_)
  rw [hh]
  dsimp only
  rw [if_pos (by simp [ne])]
  refine wpAny_bind (wpAny_holding (wpAny_runValue (unchain_none (s := { s₂ with heap := h4 }) ((oth a ne).trans ha) hda h2 ?_)))
  refine wpAny_bind ?_
  show wpAny _ _ (setField (.ref e) 2 (.ref a)) _ _ _
  refine wpAny_setField (s := { s₂ with heap := h4 }) e4 rfl (by simp) (wpAny_throw (fin _ (fun b hb => (Heap.get?_update_other _ _ (Ne.symm hb)).trans (oth b hb)) ?_))
  exact Heap.get?_update_self (Obj.mapFields (·.setIfInBounds 2 (Value.ref a))) e4 rfl
end
end DL
namespace DL
open PySem PySem.Spec PyProof.Rows L2

noncomputable def CX1 (P : Program) (w : World) : CXT := fun outer H s E e s' =>
  ∃ (a : Addr) (cls a0 : Value) (B : Heap) (H' : Hp), e = .ref a ∧ s'.os = s.os ∧ AllBare s'.gens ∧ Un (frs outer) [] H H' s.heap s'.heap ∧ HOk P w H' s'.heap ∧ Heap.FlyingW B outer a cls a0 s'.heap ∧
    (∀ b, (H' b).isSome = true → ∃ o, B.get? b = some o) ∧ (∀ b o, s.heap.get? b = some o → H b = none → b ∉ frs outer → B.get? b = some o) ∧ ∃ tg, (tg = none → Ctx0 a s'.heap) ∧ E cls tg H'
theorem obj_at {P : Program} {w : World} {H : Hp} {h : Heap} {a : Addr} {o : HO} (x : ObjOk P w H h a o) : ∃ u, h.get? a = some u := by
  cases o with
  | lst xs => obtain ⟨_, _, _, _, e⟩ := x; exact ⟨_, e⟩
  | tup xs => obtain ⟨_, _, _, ob, e, _⟩ := x; exact ⟨_, e⟩
  | dK kvs => obtain ⟨_, _, _, _, ob, _, _, e, _⟩ := x; exact ⟨_, e⟩
  | dT kvs => obtain ⟨_, _, _, _, ob, _, _, e, _⟩ := x; exact ⟨_, e⟩
  | set S n => obtain ⟨ob, _, _, _, e, _⟩ := x; exact ⟨_, e⟩
  | ins C dx fs => obtain ⟨_, _, _, e, _⟩ := x; exact ⟨_, e⟩
  | own y => exact x
  | xd fs => obtain ⟨_, ⟨ob, h1⟩, _⟩ := x; exact ⟨_, by first | exact h1.1 | (obtain ⟨_, _, e, _⟩ := h1; exact e) | (obtain ⟨_, e, _⟩ := h1; exact e)⟩
  | met f y => exact ⟨_, x⟩
  | rng lo hi => obtain ⟨_, _, _, e⟩ := x; exact ⟨_, e⟩
  | frz ob u => exact ⟨_, x.1⟩
  | tbl ps => exact ⟨_, x⟩
  | ext φ => exact x.2.1
section
variable {X : Cx} {pins : List (Addr × Obj)} {σ : St} {H H' : Hp} {s : Shared} {s1 h' B : Heap} {a : Addr} {cls a0 : Value} {E : XK}
theorem fly_un (I : Inv X pins σ H s) (un : Un (frs X.stack) [] H H' s.heap s1) (hok : HOk X.prog X.w H' s1) (ff : s1.FunFrames B X.stack) (st1 : B.StaysIn s1) (st : B.StaysIn h') (up : ∀ b o, b ∈ frs X.stack → s1.get? b = some o → (∀ vs, o.data ≠ .fields vs) → ∃ sl, h'.get? b = some { o with slots := sl })
    (b1 : ∀ b, (H' b).isSome = true → ∃ o, B.get? b = some o) (b2 : ∀ b o, s.heap.get? b = some o → H b = none → b ∉ frs X.stack → B.get? b = some o) (sm : Same H H') : Un (frs X.stack) [] H H' s.heap h' ∧ HOk X.prog X.w H' h' := by
  refine ⟨⟨fun b o q n hb _ => st _ _ (b2 b o q n hb), fun b o q n hb hx => ?_, un.free, fun b o q hx => ?_, un.tups, un.frzs, un.tbls⟩, fun c o e => (hok c o e).stay (fun b u hb q => ?_) (fun _ q => q) fun _ _ q => q⟩
  · obtain ⟨sl, e1⟩ := un.slot b o q n hb hx
    obtain ⟨_, o', e2, nf⟩ := ff.mem hb
    rw [e1] at e2
    cases e2
    obtain ⟨sl2, e3⟩ := up b _ hb e1 nf
    exact ⟨sl2, e3⟩
  · cases hH : H b with
    | some x =>
      obtain ⟨o', e⟩ := b1 b (by rw [sm b x hH]; rfl)
      exact ⟨o', st _ _ e⟩
    | none =>
      by_cases hb : b ∈ frs X.stack
      · obtain ⟨sl, e1⟩ := un.slot b o q hH hb hx
        obtain ⟨_, o', e2, nf⟩ := ff.mem hb
        rw [e1] at e2
        cases e2
        obtain ⟨sl2, e3⟩ := up b _ hb e1 nf
        exact ⟨_, e3⟩
      · exact ⟨o, st _ _ (b2 b o q hH hb)⟩
  · have hs : (H' b).isSome = true := by
      rcases hb with rfl | hb
      · rw [e]; rfl
      · rw [hb]; rfl
    obtain ⟨o', e'⟩ := b1 b hs
    have := st1 _ _ e'
    rw [q] at this
    cases this
    exact st _ _ e'
theorem fly_entry (I : Inv X pins σ H s) (hst : X.stack = X.env :: X.outer) (hf : X.env.frame = some X.env.locals) (hex : X.ex = []) (un : Un (frs X.stack) [] H H' s.heap s1) (ff : s1.FunFrames B X.stack) (st : B.StaysIn h') (up : ∀ b o, b ∈ frs X.stack → s1.get? b = some o → (∀ vs, o.data ≠ .fields vs) → ∃ sl, h'.get? b = some { o with slots := sl })
    (b1 : ∀ b, (H' b).isSome = true → ∃ o, B.get? b = some o) (b2 : ∀ b o, (∃ o', X.s₀.heap.get? b = some o') → s.heap.get? b = some o → H b = none → b ∉ frs X.stack → B.get? b = some o) (sm : Same X.H₀ H') : Un (frs X.outer) [] X.H₀ H' X.s₀.heap h' := by
  have noex : ∀ b : Addr, b ∉ X.ex := fun b z => by rw [hex] at z; cases z
  have fs : frs X.stack = X.env.locals :: frs X.outer := by
    rw [hst]
    unfold frs
    rw [List.filterMap_cons, hf]
  have neL : ∀ b o, X.s₀.heap.get? b = some o → b ≠ X.env.locals := fun b o e => Nat.ne_of_lt (Nat.lt_of_lt_of_le (Heap.lt_size e) I.ok.above)
  have kp : ∀ b o, X.s₀.heap.get? b = some o → X.H₀ b = none → b ∉ frs X.outer → h'.get? b = some o := fun b o q n hb => by
    refine st _ _ (b2 b o ⟨o, q⟩ (I.base.keep b o q n hb (noex b)) (I.base.free b o q n (noex b)) fun z => ?_)
    rw [fs] at z
    exact (List.mem_cons.mp z).elim (neL b o q) hb
  have sl : ∀ b o, X.s₀.heap.get? b = some o → X.H₀ b = none → b ∈ frs X.outer → ∃ sl, h'.get? b = some { o with slots := sl } := fun b o q n hb => by
    have hb' : b ∈ frs X.stack := by rw [fs]; exact List.mem_cons_of_mem _ hb
    obtain ⟨sl, e1⟩ := I.base.slot b o q n hb (noex b)
    obtain ⟨sl2, e2⟩ := un.slot b _ e1 (I.base.free b o q n (noex b)) hb' (by simp)
    obtain ⟨_, o', e3, nf⟩ := ff.mem hb'
    rw [e2] at e3
    cases e3
    obtain ⟨sl3, e4⟩ := up b _ hb' e2 nf
    exact ⟨sl3, e4⟩
  refine ⟨fun b o q n hb _ => kp b o q n hb, fun b o q n hb _ => sl b o q n hb, fun b o q n hx => ?_, fun b o q hx => ?_, fun b xs q => un.tups b xs (I.base.tups b xs q), fun b o u q => un.frzs b o u (I.base.frzs b o u q), fun b ps q => ?_⟩
  · obtain ⟨sl, e1⟩ := I.base.any q n (noex b)
    exact un.free b _ e1 (I.base.free b o q n (noex b)) (by simp)
  · cases hH : X.H₀ b with
    | some x =>
      obtain ⟨o', e⟩ := b1 b (by rw [sm b x hH]; rfl)
      exact ⟨o', st _ _ e⟩
    | none =>
      by_cases hb : b ∈ frs X.outer
      · obtain ⟨s2, e⟩ := sl b o q hH hb
        exact ⟨_, e⟩
      · exact ⟨o, kp b o q hH hb⟩
  · obtain ⟨m1, e1⟩ := I.base.tbls b ps q
    obtain ⟨m2, e2⟩ := un.tbls b _ e1
    exact ⟨m1 ++ m2, by rw [e2, Array.append_assoc]⟩
theorem fly_hok (hok : HOk X.prog X.w H' s1) (st1 : B.StaysIn s1) (st : B.StaysIn h') (b1 : ∀ b, (H' b).isSome = true → ∃ o, B.get? b = some o) : HOk X.prog X.w H' h' := fun c o e => (hok c o e).stay (fun b u hb q => by
    have hs : (H' b).isSome = true := by
      rcases hb with rfl | hb
      · rw [e]; rfl
      · rw [hb]; rfl
    obtain ⟨o', e'⟩ := b1 b hs
    have := st1 _ _ e'
    rw [q] at this
    cases this
    exact st _ _ e') (fun _ q => q) fun _ _ q => q
structure Lv (X : Cx) (E : XK) : Prop where
  stk : X.stack = X.env :: X.outer
  fr : X.env.frame = some X.env.locals
  ex : X.ex = []
  hd : X.A.handled = none
  xe : X.xe = fun e s' => wpAny (model X.prog X.w) X.A (leaving X.env e) (fun _ s'' => CX1 X.prog X.w X.outer X.H₀ X.s₀ E e s'') (fun e' s'' => CX1 X.prog X.w X.outer X.H₀ X.s₀ E e' s'') s'
theorem Lv.pass (L : Lv X E) : PassesOwn (model X.prog X.w) X.A X.env X.xe := by
  rw [L.xe]
  exact PassesOwn.leaving (Q₁ := fun e s'' => CX1 X.prog X.w X.outer X.H₀ X.s₀ E e s'')
theorem b2_entry (I : Inv X pins σ H s) (hst : X.stack = X.env :: X.outer) (hf : X.env.frame = some X.env.locals) (hex : X.ex = []) (b2 : ∀ b o, (∃ o', X.s₀.heap.get? b = some o') → s.heap.get? b = some o → H b = none → b ∉ frs X.stack → B.get? b = some o) :
    ∀ b o, X.s₀.heap.get? b = some o → X.H₀ b = none → b ∉ frs X.outer → B.get? b = some o := fun b o q n hb => by
  have noex : b ∉ X.ex := fun z => by rw [hex] at z; cases z
  refine b2 b o ⟨o, q⟩ (I.base.keep b o q n hb noex) (I.base.free b o q n noex) fun z => ?_
  rw [hst] at z
  unfold frs at z
  rw [List.filterMap_cons, hf] at z
  rcases List.mem_cons.mp z with z | z
  · exact Nat.ne_of_lt (Nat.lt_of_lt_of_le (Heap.lt_size q) I.ok.above) z
  · exact hb z
theorem fly_on (L : Lv X E) (I : Inv X pins σ H s) {e : Value} {s' : Shared} {E' : XK} (sm : ∀ cls tg H', E' cls tg H' → Same X.H₀ H' ∧ ∃ tg', (tg' = none → tg = none) ∧ E cls tg' H') (h : CX1 X.prog X.w X.stack H s E' e s') : X.xe e s' := by
  rw [L.xe]
  obtain ⟨a, cls, a0, B, H', rfl, os, bare, un, hok, fl, b1, b2, tg, ct, q⟩ := h
  obtain ⟨s1, tg', ht, q1⟩ := sm _ _ _ q
  have fl1 := fl
  rw [L.stk] at fl1
  refine leaves_C (fl := .none) (by rw [I.ok.frames, L.stk]) L.fr fl1 fun h' fl' up cx => ?_
  exact ⟨a, cls, a0, B, H', rfl, os.trans I.os, bare, fly_entry I L.stk L.fr L.ex un fl.2.2.1 fl'.1 (fun b o _ => up b o) b1 (fun b o _ => b2 b o) s1, fly_hok hok fl.1 fl'.1 b1, fl', b1, b2_entry I L.stk L.fr L.ex (fun b o _ => b2 b o), tg', fun z => cx (ct (ht z)), q1⟩
theorem fly_new (L : Lv X E) (I : Inv X pins σ H s) {e C : Addr} {vs : List Value} {h1 : Heap} (hm : Heap.MadeExcOf s.heap h1 e (.ref C) vs) (sm : Same X.H₀ H) {tg : Option Addr} (q : E (.ref C) tg H) : X.xe (.ref e) { s with heap := h1 } := by
  rw [L.xe]
  have stB : (PySem.W.hideAll s.heap (frs X.stack)).StaysIn s.heap := fun b o z => PySem.W.of_hideAll _ z
  have ff : s.heap.FunFrames (PySem.W.hideAll s.heap (frs X.stack)) X.stack := PySem.W.funFrames_hide I.stack fun env henv a ha => List.mem_filterMap.mpr ⟨env, henv, ha⟩
  have ff1 := ff
  rw [L.stk] at ff1
  have b1 : ∀ b, (H b).isSome = true → ∃ o, (PySem.W.hideAll s.heap (frs X.stack)).get? b = some o := fun b hb => by
    cases hH : H b with
    | none => rw [hH] at hb; cases hb
    | some x =>
      obtain ⟨o, ho⟩ := obj_at (I.hok b x hH)
      refine ⟨o, PySem.W.hideAll_get _ ho fun z => ?_⟩
      have := I.stkFree b z
      rw [hH] at this
      cases this
  have b2 : ∀ b o, s.heap.get? b = some o → H b = none → b ∉ frs X.stack → (PySem.W.hideAll s.heap (frs X.stack)).get? b = some o := fun b o q _ hb => PySem.W.hideAll_get _ q hb
  obtain ⟨t, he, htn, ht⟩ := hm.there
  have st1 : (PySem.W.hideAll s.heap (frs X.stack)).StaysIn h1 := fun b o z => hm.keeps _ _ (stB b o z)
  have hen : (PySem.W.hideAll s.heap (frs X.stack)).get? e = none := by
    cases z : (PySem.W.hideAll s.heap (frs X.stack)).get? e with
    | none => rfl
    | some o =>
      have := stB _ _ z
      rw [hm.new] at this
      cases this
  refine leaves_N (base := PySem.W.hideAll s.heap (frs X.stack)) (s := { s with heap := h1 }) (a0 := .ref t) (outer := X.outer) (by rw [I.ok.frames, L.stk]) (by rw [← L.stk]; exact ff.of_keeps fun b o z _ => ⟨o, hm.keeps _ _ z, rfl⟩) L.fr he st1 hen rfl rfl rfl fun h' fl up cx => ?_
  exact ⟨e, .ref C, .ref t, _, H, rfl, I.os, I.bare, fly_entry I L.stk L.fr L.ex (Un.kept hm.keeps) (ff.of_keeps fun b o e _ => ⟨o, hm.keeps _ _ e, rfl⟩) fl.1 (fun b o _ => up b o) b1 (fun b o _ => b2 b o) sm, fly_hok (I.hok.kept hm.keeps) st1 fl.1 b1, fl, b1, b2_entry I L.stk L.fr L.ex (fun b o _ => b2 b o), tg, fun _ => cx ⟨_, _, he, rfl, rfl⟩, q⟩
end
end DL
namespace DL
open PySem PySem.Spec PyProof.Rows L2

noncomputable def spX (K : PySem.W.Frag) (F : Fx) (cls : Value) (tg : Option Addr) : Sp := fun vs H Q E => ∃ rs o, ArgsOk K H rs vs ∧ F rs = some o ∧ (∀ r, o = some r → ∀ v H', Same H H' → Out K H H' r v → Q v H') ∧ (o = none → ∀ H', Same H H' → E cls tg H')
structure CalX (P : Program) (w : World) (K : PySem.W.Frag) (mg : Str → Option Value) (base : Heap) (n : Nat) (x : Str) (ps : List Str) (F : Fx) (cls : Value) (tg : Option Addr) : Prop where
  ex : ∃ (f : Addr) (fd : FuncData), FnOk P w K mg base (CX1 P w) n f fd ps (spX K F cls tg) ∧ Binds K fd ps [] ∧ PySem.W.keepIn K (.ref f) = true ∧ mg x = some (.ref f) ∧ PySem.W.nsIn K mainGlobals x = some (some (.ref f))
section
variable {X : Cx} {pos p cpos np : Pos} {a : Expr} {es : List Expr} {t : DAn} {E : XK} {C : Addr}
theorem ds_raise {tg : Option Addr} {x : Str} {i : Str} {j : Nat} {Bn newId initId : String} {bm : List Value} (L : Lv X E) (O : OwnCls x C bm newId X.mg X.base) (FB : ExcBaseFacts Bn newId initId bm) (hg : Gl X x) (hd : (x == ("__debug__" : Str)) = false := by decide)
    (he : starEach [.Constant (.str i) j p] X.env = (false, eval (.Constant (.str i) j p) X.env) :: starEach [] X.env := by rfl) :
    DS X (fun H => E (.ref C) tg H) (.Raise (some (.Call (.Name x np) [.Constant (.str i) j p] [] cpos)) none pos) sRaise := fun pins s σ H D I ⟨B, δ, o, sB, rp, e, q⟩ => by
  cases e
  have q : ∀ H', Same X.H₀ H' → E (.ref C) tg H' := q
  obtain ⟨tl, N, nm, qn, bs, hdct, sn, sub, ab, col, dd, k0, k1, k2, k3, k5, mN, hC, hN, hni, T⟩ := O.obj
  refine wpAny_Raise_call_subT (C := C) (nm := nm) (q := qn) (N := N) (bs := bs) (bm := tl) (hdct := hdct) (sn := sn) (sub := sub) (ab := ab) (col := col) (dd := dd) (k0 := k0) (k1 := k1) (k2 := k2) (k3 := k3) (k5 := k5)
    FB (mN := mN) (T.hasType FB.hasBase) L.hd (by rw [he]; rfl) hni (ld_glob I hg O.bound ⟨rfl, ?_⟩ hd)
  have h2 := (pa_cons (pe_str (X := X) (x := i) (j := j) (pos := p)) pa_nil he) cpos pins s σ H (fun vs H' => vs.length = 1 ∧ H' = H) I ⟨rfl, rfl⟩
  rw [he] at h2 ⊢
  refine Calls.evalArgs_plain (thn h2 fun us s2 hh => ?_)
  obtain ⟨vs, H2, I2, rv, hl, e2⟩ := hh
  subst e2
  refine ⟨rfl, ?_, I2.bk _ _ hC, hN.keeps I2.bk, T.keeps I2.bk, fun h' e hm => fly_new L I2 hm (sB.trans rp.same) (q _ (sB.trans rp.same))⟩
  show us.length ≤ _
  rw [← rv.length, hl]
  decide
theorem de_callX {n m : Nat} {x : Str} {ps : List Str} {F : Fx} {cls : Value} {tg : Option Addr} (Ca : CalX X.prog X.w X.K X.mg X.base n x ps F cls tg) (hr : Room m X.A) (hn : n ≤ m) (hg : Gl X x) (ha : DA X (a :: es) t) (hdb : (x == ("__debug__" : Str)) = false := by decide)
    (he : starEach (a :: es) X.env = (false, eval a X.env) :: starEach es X.env := by rfl) (hpl : (backTo pos (starEach es X.env)).any (·.1) = false := by rfl) : DE X (.Call (.Name x p) (a :: es) [] pos) (dCallX F t) := by
  obtain ⟨fa, fd, F1, F2, F3, F4, _⟩ := Ca.ex
  refine pe_to (pe_call F1 (hr.mono hn) hg F4 F3 F2 .nil (E := E0) (fun _ _ _ _ _ _ _ z => by obtain ⟨_, _, _, _, _, _, _, _, _, _, _, _, _, _, _, z⟩ := z; exact z.elim) ha hdb he hpl) fun σ H Q ⟨B, δ, r, rp, e, q⟩ => ?_
  obtain ⟨rs, e1, e⟩ := bs e
  obtain ⟨o, e2, e⟩ := bs e
  refine ⟨B, δ, rs, rp, e1, fun vs H1 g1 i1 => ?_⟩
  show spX X.K F cls tg (vs ++ []) H1 Q E0
  rw [List.append_nil]
  have ao := args_of (rp.same.trans g1) i1
  refine ⟨rs.map R.arg, o, ao, e2, fun r' er v H2 g2 ou => ?_, fun er => by rw [er] at e; cases e⟩
  rw [er] at e
  cases e
  exact q v H2 (g1.trans g2) (ou.is g1)
theorem ds_exX {n m : Nat} {x : Str} {ps : List Str} {F : Fx} {cls : Value} {tg : Option Addr} (L : Lv X E) (Ca : CalX X.prog X.w X.K X.mg X.base n x ps F cls none) (hr : Room m X.A) (hn : n ≤ m) (hg : Gl X x) (ha : DA X (a :: es) t) (hdb : (x == ("__debug__" : Str)) = false := by decide)
    (he : starEach (a :: es) X.env = (false, eval a X.env) :: starEach es X.env := by rfl) (hpl : (backTo pos (starEach es X.env)).any (·.1) = false := by rfl) {pos2 : Pos} (hs : swapsWith (.Call (.Name x p) (a :: es) [] pos) none pos2.line X.env = pure false := by rfl) :
    DS X (fun H => E cls tg H) (.Expr (.Call (.Name x p) (a :: es) [] pos) pos2) (sExX F t) := by
  obtain ⟨fa, fd, F1, F2, F3, F4, _⟩ := Ca.ex
  refine ps_to (ps_expr (pe_call F1 (hr.mono hn) hg F4 F3 F2 .nil (E := fun c d H' => d = none ∧ Same X.H₀ H' ∧ E c tg H') (fun pins σ H s e s' I z => fly_on L I (fun _ _ _ z => ⟨z.2.1, tg, fun _ => z.1, z.2.2⟩) z) ha hdb he hpl) hs) fun D σ H ⟨B, δ, o, sB, rp, e, q⟩ => ?_
  obtain ⟨rs, e1, e⟩ := bs e
  obtain ⟨oo, e2, e⟩ := ms e
  refine ⟨B, δ, rs, rp, e1, fun vs H1 g1 i1 => ?_⟩
  show spX X.K F cls none (vs ++ []) H1 _ _
  rw [List.append_nil]
  have ao := args_of (rp.same.trans g1) i1
  refine ⟨rs.map R.arg, oo, ao, e2, fun r' er v H2 g2 ou => ?_, fun er H2 g2 => ?_⟩
  · subst er
    dsimp only at e
    subst e
    exact q B σ H2 (Same.refl _) (Same.tk (g1.trans g2)) (rp.grow (g1.trans g2))
  · subst er
    dsimp only at e
    subst e
    have sm : Same X.H₀ H2 := sB.trans ((rp.same.trans g1).trans g2)
    exact ⟨rfl, sm, q H2 sm⟩
end
section
variable {P : Program} {w : World} {K : PySem.W.Frag} {mg : Str → Option Value} {base : Heap}
theorem fnX_len {n N : Nat} {body : DSn} {rs : List R} {r : Option R} (e : fnX n N body rs = some r) : rs.length = n := by
  unfold fnX at e
  split at e
  · assumption
  · cases e
theorem lv_of {N : List Str} {x : Str} {sc : Scope} {f : Addr} {cdv : Value} {A : Around} {outer : List Env} {s : Shared} {H : Hp} {E : XK} {k : Nat} (hr : Room k (A.deeper (envOfC x sc s.heap.objs.size f cdv))) : Lv (cxOf (CX1 P w) P w K mg base N x sc f cdv A outer s H E) E := ⟨rfl, rfl, rfl, hr.hd, rfl⟩
theorem calX_of {x : Str} {st : Stmt} {f : Addr} {fd : FuncData} {N ps : List Str} {k : Nat} {body : DSn} {cls : Value} {tg : Option Addr} (F : Fun K x x st f fd) (hm : mg x = some (.ref f)) (hn : PySem.W.nsIn K mainGlobals x = some (some (.ref f))) (S : FnScope N ps (defScope st))
    (hb : ∀ (kV doc pm : Value) (an : Option Addr) (cdv ct : Value) (us : List Value), us.length = ps.length → bindArgs (PySem.W.fnOf x x (defArgs st) (defBody st) (defScope st) .none kV doc pm an cdv ct) ⟨us, []⟩ = pure (ps.zip us))
    (hbody : ∀ (cdv : Value) (A : Around) (outer : List Env) (s : Shared) (H : Hp) (E : XK), Room k (A.deeper (envOfC x (defScope st) s.heap.objs.size f cdv)) →
      DSs (cxOf (CX1 P w) P w K mg base N x (defScope st) f cdv A outer s H E) (fun H => E cls tg H) (defBody st) body) :
    CalX P w K mg base (k + 1) x ps (fnX ps.length N.length body) cls tg := by
  refine ⟨f, fd, ?_, F.binds hb, F.kp, hm, hn⟩
  obtain ⟨oc, od, kV, doc, pm, an, cdv, ct, osl, rfl, lk, hcd⟩ := F.ex
  refine fn_of lk hcd S (fun vs H Q E h => ?_) fun A outer s H vs Q E hr h => ⟨_, hbody cdv A outer s H E hr, ?_⟩
  · obtain ⟨rs, r, h1, h2, _⟩ := h
    rw [← h1.len]
    exact fnX_len h2
  · obtain ⟨rs, oo, h1, h2, q1, q2⟩ := h
    have hn := fnX_len h2
    unfold fnX at h2
    rw [if_pos hn] at h2
    obtain ⟨o, e1, e2⟩ := bs h2
    have hN : ps.length ≤ N.length := by have := congrArg List.length S.pre; rw [List.length_take] at this; omega
    refine ⟨H, _, o, Same.refl _, rep_start h1 (by omega), by rw [hn]; exact e1, ?_⟩
    cases o with
    | nx δ =>
      cases e2
      exact fun B' σ' H' s1 _ rp => q1 _ rfl _ H' (s1.trans rp.same) (by simp only [Out, Has])
    | rt r' => cases e2; exact fun v H' s1 o => q1 _ rfl v H' s1 o
    | bk δ => cases e2
    | ct δ => cases e2
    | ex => cases e2; exact fun H' s1 => q2 rfl H' s1
end
end DL

namespace DL
open PySem PySem.Spec PyProof.Rows L2 PySem.W

section
variable {prog : Program} {w : World} {A : Around} {E : Value → Shared → Prop} {s : Shared} {K : PySem.W.Frag} {a C Y : Addr} {oe : Obj}
theorem ty_exc {h : Heap} (he : h.get? a = some oe) (hc : oe.cls = .ref C) (M : Model) : Looks M h (typeOf (.ref a)) (.ref C) := hc ▸ (Looks.ld he).andThen .now
theorem cls_is {h : Heap} (X : K.In h) (hY : (clsIn K Y).isSome = true) (M : Model) : Looks M h (isType (.ref Y)) true := by
  obtain ⟨cd, hcd⟩ := Option.isSome_iff_exists.mp hY
  unfold clsIn at hcd
  split at hcd
  · rename_i ho
    intro A' Q' E' s' k q
    unfold isType loadHead
    exact wpAny_bind (wpAny_loadPart (k _ _ (X _ _ ho)) (wpAny_pure q))
  · cases hcd
theorem sub_tt {K : PySem.W.Frag} : subIn K (.type "type") (.type "tuple") = some false := (by decide +kernel : (fastBuiltinMro "type").map (·.contains (.type "tuple")) = some false)
theorem match_exc {Q : Bool → Shared → Prop} (X : K.In s.heap) (he : s.heap.get? a = some oe) (hc : oe.cls = .ref C) (hY : (clsIn K Y).isSome = true) (tY : typeIn K (.ref Y) = some (.type "type")) (bY : mroIn K Y (.type "BaseException") = some true) (sub : mroIn K C (.ref Y) = some true) (h : Q true s) :
    wpAny (model prog w) A (excMatches (.ref a) (.ref Y)) Q E s := by
  have L1 : Looks (model prog w) s.heap (isInstance (.ref Y) (.type "tuple")) false := (looks_typeIn X tY).andThen (looks_subIn (K := K) X sub_tt)
  have L2 : Looks (model prog w) s.heap (isExcClass (.ref Y)) true := (cls_is X hY _).andThen (by simp only [if_true]; exact looks_mroIn X bY)
  have L3 := ty_exc he hc (model prog w)
  have L4 : Looks (model prog w) s.heap (isSubtype (.ref C) (.ref Y)) true := looks_mroIn X sub
  unfold excMatches
  refine wpAny_bind (L1.here ?_)
  simp only [Bool.false_eq_true, if_false]
  refine wpAny_bind (wpAny_pure ?_)
  simp only [List.forIn_cons, List.forIn_nil]
  refine wpAny_bind (wpAny_bind (wpAny_bind (L2.here ?_)))
  simp only [Bool.not_true, Bool.false_eq_true, if_false]
  refine wpAny_pure (wpAny_pure ?_)
  refine wpAny_bind (L3.here (wpAny_bind (wpAny_bind (wpAny_bind (L4.here ?_)))))
  simp only [if_true]
  exact wpAny_pure (wpAny_pure (wpAny_pure h))

section
variable {h : Heap} {g : Array GenState} {d : Drawn} {tk : Nat} {os : OsState} {u : Tok}
theorem own_obj : (".".intercalate ("object.__class__".cutAt '.').dropLast) = "object" := by
  have z : "object.__class__".cutAt '.' = ["object", "__class__"] := by decide +kernel
  rw [z]
  decide +kernel
theorem xcls_get {R : Result → Shared → Prop} (X : K.In h) (he : h.get? a = some oe) (hc : oe.cls = .ref C) (ob : mroIn K C (.type "object") = some true) (hq : R (.ok (.ret (.ref C))) ⟨h, g, d, tk, os⟩) :
    codeAny (model prog w) A (.call (.builtin "getset_descriptor.__get__") ⟨[.builtin "object.__class__", .ref a, .ref C], []⟩) R ⟨h, g, d, tk, os⟩ := by
  have k5 : (⟨h, g, d, tk, os⟩ : Shared).TypeIs (.builtin "object.__class__") "getset_descriptor" := PySem.F.typeOf_object_class
  have L3 := ty_exc he hc (model prog w)
  have L4 : Looks (model prog w) h (isSubtype (.ref C) (.type (".".intercalate ("object.__class__".cutAt '.').dropLast))) true := by rw [own_obj]; exact looks_mroIn X ob
  refine codeAny_call_builtin PySem.F.slot_gs_get.plain PySem.F.entry_gs_get (PySem.F.slot_gs_get.check _ _ _ _ _ _ _ _ k5 (PySem.F.args_gs_get _ _ _) ?_)
  repeat (any_goals (first | assumption | with_reducible refine L3.at ?_ | with_reducible refine L4.at ?_ | wp_step))
  refine ⟨Code.quiet_builtin _ (by decide +kernel), codeAny_builtin PySem.F.entry_object_class ?_⟩
  repeat (any_goals (first | assumption | with_reducible refine L3.at ?_ | wp_step))
theorem xcls_entry {Q : Fin → Shared → Prop} (X : K.In h) (he : h.get? a = some oe) (hc : oe.cls = .ref C) (ob : mroIn K C (.type "object") = some true) (fc : findIn K (.ref C) "__class__" = some (some (.builtin "object.__class__"))) (hq : Q (.done (.ret (.ref C))) ⟨h, g, d, tk, os⟩) :
    wpAny (model prog w) A (Builtin.«object.__getattribute__» ⟨[.ref a, .str "__class__" u], []⟩) Q E ⟨h, g, d, tk, os⟩ := by
  have k5 : (⟨h, g, d, tk, os⟩ : Shared).TypeIs (.builtin "object.__class__") "getset_descriptor" := PySem.F.typeOf_object_class
  have k6 := PySem.F.typeOf_object_class
  have k7 := PySem.F.slot_gs_get.lookup
  have k8 := PySem.F.slot_gs_set.lookup
  have L3 := ty_exc he hc (model prog w)
  have L5 := looks_findIn (M := model prog w) X fc
  repeat (any_goals (first | assumption | with_reducible refine L3.at ?_ | with_reducible refine L5.at ?_ | wp_step))
  refine xcls_get X he hc ob ?_
  repeat (any_goals (first | assumption | with_reducible refine L3.at ?_ | wp_step))
theorem xcls_chk {M : Model} {nv : Value} {Q : Unit → Shared → Prop} (X : K.In h) (he : h.get? a = some oe) (hc : oe.cls = .ref C) (bb : mroIn K C (.type "BaseException") = some true) (hq : Q () ⟨h, g, d, tk, os⟩) :
    wpAny M A (checkBuiltinCall "BaseException.__getattribute__" ⟨[.ref a, nv], []⟩) Q E ⟨h, g, d, tk, os⟩ := by
  have z1 : builtinKind "BaseException.__getattribute__" = some .slot := by decide +kernel
  have z2 : splitId "BaseException.__getattribute__" = some ("BaseException", "__getattribute__") := by decide +kernel
  have L3 := ty_exc he hc M
  have L6 : Looks M h (isSubtype (.ref C) (.type "BaseException")) true := looks_mroIn X bb
  have z3 := PySem.F.args_bexc_ga (.ref a) nv
  simp only [checkBuiltinCall, z1, z2]
  refine wpAny_bind ?_
  unfold isInstance
  repeat (first | with_reducible refine L3.at ?_ | with_reducible refine L6.at ?_ | wp_step)
  exact hq
theorem xcls_by {fill expr : Bool} {Q : Value → Shared → Prop} (X : K.In h) (he : h.get? a = some oe) (hc : oe.cls = .ref C) (ob : mroIn K C (.type "object") = some true) (bb : mroIn K C (.type "BaseException") = some true) (fc : findIn K (.ref C) "__class__" = some (some (.builtin "object.__class__")))
    (fg : findIn K (.ref C) "__getattribute__" = some (some (.builtin "BaseException.__getattribute__"))) (fh : findIn K (.ref C) "__getattr__" = some none) (hq : Q (.ref C) ⟨h, g, d, tk, os⟩) :
    wpAny (model prog w) A (getAttrBy (.ref a) (.str "__class__" u) fill expr) Q E ⟨h, g, d, tk, os⟩ := by
  have k1 := PySem.F.attr_ValueError.ga.bind (.ref a)
  have k2 : (expr && onTheHeap (Value.builtin "BaseException.__getattribute__")) = false := by cases expr <;> rfl
  have k3 : (Value.builtin "BaseException.__getattribute__" == Value.builtin "object.__getattribute__") = false := by decide +kernel
  have k4 : (onTheHeap (Value.ref C) && Value.builtin "BaseException.__getattribute__" == Value.builtin "object.__getattribute__") = false := by rw [k3]; rfl
  have L3 := ty_exc he hc (model prog w)
  have L7 := looks_findIn (M := model prog w) X fg
  have L8 := looks_findIn (M := model prog w) X fh
  repeat (any_goals (first | assumption | with_reducible refine L3.at ?_ | with_reducible refine L7.at ?_ | with_reducible refine L8.at ?_ | wp_step))
  refine codeAny_call_builtin PySem.F.attr_ValueError.ga.plain PySem.F.entry_bexc_ga (xcls_chk X he hc bb (xcls_entry X he hc ob fc ?_))
  repeat (any_goals (first | assumption | with_reducible refine L8.at ?_ | wp_step))
theorem xcls_attr {Q : Option Value → Shared → Prop} (X : K.In h) (he : h.get? a = some oe) (hc : oe.cls = .ref C) (ob : mroIn K C (.type "object") = some true) (bb : mroIn K C (.type "BaseException") = some true) (fc : findIn K (.ref C) "__class__" = some (some (.builtin "object.__class__")))
    (fg : findIn K (.ref C) "__getattribute__" = some (some (.builtin "BaseException.__getattribute__"))) (fh : findIn K (.ref C) "__getattr__" = some none) (hq : Q (some (.ref C)) ⟨h, g, d, tk + 1, os⟩) :
    wpAny (model prog w) A (getAttr? (.ref a) "__class__") Q E ⟨h, g, d, tk, os⟩ := by
  unfold getAttr? getAttrBy?
  repeat (any_goals (first | assumption | with_reducible apply xcls_by X he hc ob bb fc fg fh | wp_step))
end
end
end DL

namespace DL
open PySem PySem.Spec PyProof.Rows L2 PySem.W
structure ExcK (K : PySem.W.Frag) (C : Addr) : Prop where
  ob : mroIn K C (.type "object") = some true
  bb : mroIn K C (.type "BaseException") = some true
  fc : findIn K (.ref C) "__class__" = some (some (.builtin "object.__class__"))
  fg : findIn K (.ref C) "__getattribute__" = some (some (.builtin "BaseException.__getattribute__"))
  fh : findIn K (.ref C) "__getattr__" = some none
theorem cl_of {K : PySem.W.Frag} {C : Addr} {b : Value} {r : Bool} (h : mroIn K C b = some r) : (clsIn K C).isSome = true := by
  obtain ⟨cd, q, _⟩ := Option.bind_eq_some_iff.mp h
  rw [q]
  rfl
theorem kitx_exc {K : PySem.W.Frag} {C a : Addr} {oe : Obj} (k : ExcK K C) (hc : oe.cls = .ref C) : KitX K (.ref a) (.ref C) (fun h => h.get? a = some oe) where
  ty := fun M _ _ p => ty_exc p hc M
  it := fun M _ X _ => cls_is X (cl_of k.ob) M
  ne := fun h tp dd its n sl X htp => by
    refine Bool.eq_false_iff.mpr fun q => ?_
    have e : C = tp := Value.ref.inj (beq_iff_eq.mp q)
    subst e
    obtain ⟨cd, hcd⟩ := Option.isSome_iff_exists.mp (cl_of k.ob)
    unfold clsIn at hcd
    split at hcd
    · rename_i ho
      rw [X _ _ ho] at htp
      cases htp
    · cases hcd
  ca := fun {_ _ _ _ _ s} X p q => by
    obtain ⟨h, g, d, t, os⟩ := s
    exact xcls_attr X p hc k.ob k.bb k.fc k.fg k.fh q
noncomputable def sTryE (i j : Nat) (F : Fx) (a : DAn) : DSn := fun δ => match δ[j]? with
  | some none => (a δ).bind fun rs => (F (rs.map R.arg)).map fun o => match o with
    | some _ => .nx δ
    | none => .nx (δ.set i (some (.d (.bl true))))
  | _ => none
noncomputable abbrev inExc (X : Cx) (a : Addr) (oe : Obj) : Cx := { X with A := X.A.mark (some (.ref a)), calm := false, pn := (a, oe) :: X.pn, xe := fun _ _ => False }
section
variable {X : Cx} {pins : List (Addr × Obj)} {σ : St} {H : Hp} {s : Shared} {a : Addr} {oe : Obj}
theorem Inv.toExc (I : Inv X pins σ H s) (he : s.heap.get? a = some oe) (hn : H a = none) (hL : a ≠ X.env.locals) (hfs : a ∉ X.fs) (hd : ∀ v, oe.data ≠ .cell v) : Inv (inExc X a oe) pins σ H s :=
  ⟨⟨I.ok.mod, I.ok.kind, I.ok.glob, I.ok.blt, I.ok.above, I.ok.inj, I.ok.has, I.ok.cab, (fun z => by cases z), I.ok.frames, I.ok.stk, I.ok.exf, I.ok.bs, I.ok.bsz, I.ok.noex, I.ok.exfs, I.ok.funs, I.ok.frf⟩,
    I.os, I.bare, I.base, I.loc, I.cell, I.free, I.freeC, (fun p hp => by
      rcases List.mem_append.mp hp with hp | hp
      · rcases List.mem_cons.mp hp with rfl | hp
        · exact ⟨he, hn, hL, hfs, hd⟩
        · exact I.pin p (List.mem_append_left _ hp)
      · exact I.pin p (List.mem_append_right _ hp)), I.hok, I.len⟩
theorem Inv.ofExc (ok : X.Ok) (I : Inv (inExc X a oe) pins σ H s) : Inv X pins σ H s :=
  ⟨ok, I.os, I.bare, I.base, I.loc, I.cell, I.free, I.freeC, (fun p hp => I.pin p (by
      rcases List.mem_append.mp hp with hp | hp
      · exact List.mem_append_left _ (List.mem_cons_of_mem _ hp)
      · exact List.mem_append_right _ hp)), I.hok, I.len⟩
end
section
variable {X : Cx} {pins : List (Addr × Obj)} {σ : St} {H : Hp} {s : Shared} {a C : Addr} {oe : Obj}
noncomputable def rIsE (K : PySem.W.Frag) (C a : Addr) : List V → Hp → VK → Prop := fun xs H Q => ∃ b, ((∃ D, xs = [.ref a, .ref D] ∧ kitOne K (.ref C) (.ref D) = some b) ∨ ∃ T, xs = [.ref a, .ty T] ∧ kitOne K (.ref C) (.type T) = some b) ∧ Q (.bl b) H
theorem c_isiE (k : ExcK X.K C) (hc : oe.cls = .ref C) : CallR (inExc X a oe) (.builtin "isinstance") (rIsE X.K C a) := by
  intro pins s σ H xs us Q I rv h
  obtain ⟨b, h1, q⟩ := h
  have he : s.heap.get? a = some oe := (I.pin (a, oe) (List.mem_append_left _ List.mem_cons_self)).1
  rcases h1 with ⟨D, rfl, e⟩ | ⟨T, rfl, e⟩
  · obtain ⟨u, u', rfl, ru, ru'⟩ := vals2 rv
    cases (show u = Value.ref a from ru)
    cases (show u' = Value.ref D from ru')
    exact kia_one (kitx_exc k hc) I.kIn he e (fun z => nomatch z) fun tk => ⟨V.bl b, H, I.tok tk, rfl, q⟩
  · obtain ⟨u, u', rfl, ru, ru'⟩ := vals2 rv
    cases (show u = Value.ref a from ru)
    cases (show u' = Value.type T from ru')
    exact kia_one (kitx_exc k hc) I.kIn he e (fun z => nomatch z) fun tk => ⟨V.bl b, H, I.tok tk, rfl, q⟩
theorem unb_ok {M : Model} {A : Around} {E : Value → Shared → Prop} {Q : Unit → Shared → Prop} {j : Nat} {n : Str} {v : V} (I : Inv X pins σ H s) (hN : X.N.Nodup) (hj : X.N[j]? = some n) (hv : σ[j]? = some (some v)) (hs : X.env.scope.names.lookup n = some .local) (hk : X.env.kindOf n = some .local)
    (h : ∀ s', Inv X pins (σ.set j none) H s' → Q () s') : wpAny M A (unbindName X.env n) Q E s := by
  obtain ⟨m, hn, hl⟩ := I.loc
  obtain ⟨u, ru, lk⟩ := hl j n v hj hv (Or.inl hs)
  have hm : m n = some u := by
    rcases lk with ⟨_, z⟩ | ⟨z, _⟩
    · exact z
    · rw [hk] at z
      rcases z with z | z <;> cases z
  refine wpAny_unbindName_local hk hn hm (by rw [I.ok.kind]; rfl) fun h' u' hns sb => h _ ?_
  have kp : ∀ b o, b ≠ X.env.locals → s.heap.get? b = some o → h'.get? b = some o := fun b o hb q => by rw [sb.2 b hb]; exact q
  have neL : ∀ b o, X.s₀.heap.get? b = some o → b ≠ X.env.locals := fun b o e => Nat.ne_of_lt (Nat.lt_of_lt_of_le (Heap.lt_size e) I.ok.above)
  refine ⟨I.ok, I.os, I.bare, ⟨fun b o q n1 hb hx => kp b o (neL b o q) (I.base.keep b o q n1 hb hx), fun b o q n1 hb hx => ?_, I.base.free, fun b o q hx => ?_, I.base.tups, I.base.frzs, I.base.tbls⟩, ⟨_, hns, fun i x w e1 e2 e3 => ?_⟩, fun x c e => ?_, I.free, I.freeC, fun p hp => ?_, fun b o e => ?_, by rw [List.length_set]; exact I.len⟩
  · obtain ⟨sl, e⟩ := I.base.slot b o q n1 hb hx
    exact ⟨sl, kp b _ (neL b o q) e⟩
  · obtain ⟨o', e⟩ := I.base.there b o q hx
    exact ⟨o', kp b _ (neL b o q) e⟩
  · by_cases hij : j = i
    · subst hij
      rw [List.getElem?_set] at e2
      simp only [if_true] at e2
      split at e2 <;> cases e2
    · rw [List.getElem?_set_ne hij] at e2
      obtain ⟨w', rw', lk'⟩ := hl i x w e1 e2 e3
      refine ⟨w', rw', ?_⟩
      have hxn : x ≠ n := fun z => by subst z; exact hij (nodup_ix hN hj e1)
      rcases lk' with ⟨z1, z2⟩ | ⟨z1, c, z2, z3⟩
      · exact .inl ⟨z1, by simp only [if_neg hxn]; exact z2⟩
      · obtain ⟨oc, z4, z5⟩ := z3
        exact .inr ⟨z1, c, z2, oc, kp c oc (I.cne x c z2) z4, z5⟩
  · obtain ⟨v', oc, z4, z5⟩ := I.cell x c e
    exact ⟨v', oc, kp c oc (I.cne x c e) z4, z5⟩
  · obtain ⟨z1, z2, z3, z4, z5⟩ := I.pin p hp
    exact ⟨kp _ _ z3 z1, z2, z3, z4, z5⟩
  · refine (I.hok b o e).stay (fun c u' hc q => kp c u' (fun z => ?_) q) (fun _ q => q) fun _ _ q => q
    have hL := I.free
    rcases hc with rfl | hc
    · rw [z, hL] at e; cases e
    · rw [z, hL] at hc; cases hc
theorem Rep.forget {K : PySem.W.Frag} {B : Hp} {δ : Ev} {j : Nat} {x : Option V} (rp : Rep K B δ σ H) (hj : δ[j]? = some none) : Rep K B δ (σ.set j x) H := by
  have ne : ∀ (i : Nat) (r : R), δ[i]? = some (some r) → j ≠ i := fun i r e z => by subst z; rw [hj] at e; cases e
  refine ⟨rp.same, by rw [List.length_set]; exact rp.len, fun i r e => ?_, fun i k ds es b e1 e2 e3 e4 => ?_⟩
  · rw [List.getElem?_set_ne (ne i r e)]
    exact rp.at_ i r e
  · rw [List.getElem?_set_ne (ne i _ e1)] at e3
    rw [List.getElem?_set_ne (ne k _ e2)] at e4
    exact rp.dis i k ds es b e1 e2 e3 e4
end
theorem bt_VE : bootBuiltins "ValueError" = some (.type "ValueError") := by decide +kernel
section
variable {X : Cx} {pins : List (Addr × Obj)} {σ : St} {H : Hp} {s : Shared} {a C Dd : Addr} {oe : Obj} {q1 q2 q3 q4 q5 q6 q7 q8 r1 r2 r3 r4 u1 u2 u3 u4 : Pos} {en tn c d : Str}
theorem pe_isE {p1 p2 p3 p4 : Pos} {j : Nat} {v : V} (kC : ExcK X.K C) (hc : oe.cls = .ref C) (hgi : Gl X "isinstance") (hmi : X.mg "isinstance" = none) (hj : X.N[j]? = some en) (hv : Vis X.env.scope en) (hd1 : (en == ("__debug__" : Str)) = false) (hd2 : (en == ("__classdict__" : Str)) = false) (hcl : PE (inExc X a oe) (.Name c p3) (tC v))
    (he : starEach [.Name en p2, .Name c p3] X.env = (false, eval (.Name en p2) X.env) :: starEach [.Name c p3] X.env) (he2 : starEach [.Name c p3] X.env = (false, eval (.Name c p3) X.env) :: starEach [] X.env) (hpl : (backTo p4 (starEach [.Name c p3] X.env)).any (·.1) = false) :
    PE (inExc X a oe) (.Call (.Name "isinstance" p1) [.Name en p2, .Name c p3] [] p4) (tCB (rIsE X.K C a) (tCons (tVar j) (tCons (tC v) tNil))) :=
  pe_callB (X := inExc X a oe) (c_isiE kC hc) hgi hmi boot_isinstance (pa_cons (pe_var hj hv hd1 hd2) (pa_cons hcl pa_nil he2) he) (by decide) (by decide) he hpl
theorem kit_self {K : PySem.W.Frag} : kitOne K (.ref C) (.ref C) = some true := by
  unfold kitOne
  rw [if_pos (by simp)]
theorem suite_ok {M : Prop} {i j : Nat} (kC : ExcK X.K C) (hc : oe.cls = .ref C) (hN : X.N.Nodup) (hi : X.N[i]? = some tn) (hlt : Loc X.env.scope tn) (hft : X.fn tn = true ∨ X.env.scope.names.lookup tn = some .local) (hj : X.N[j]? = some en) (hv : Vis X.env.scope en)
    (hd1 : (en == ("__debug__" : Str)) = false) (hd2 : (en == ("__classdict__" : Str)) = false) (hgi : Gl X "isinstance") (hmi : X.mg "isinstance" = none) (hgc : Gl X c) (hmc : X.mg c = some (.ref C)) (hdc : (c == ("__debug__" : Str)) = false) (hgv : Gl X "ValueError") (hmv : X.mg "ValueError" = none)
    (kv : kitOne X.K (.ref C) (.type "ValueError") = some true) (hgd : Gl X d) (hmd : X.mg d = some (.ref Dd)) (hdd : (d == ("__debug__" : Str)) = false) (kd : kitOne X.K (.ref C) (.ref Dd) = some false)
    (hs1 : starEach [.Name en q2, .Name c q3] X.env = (false, eval (.Name en q2) X.env) :: starEach [.Name c q3] X.env) (hs2 : starEach [.Name c q3] X.env = (false, eval (.Name c q3) X.env) :: starEach [] X.env) (hs3 : (backTo q4 (starEach [.Name c q3] X.env)).any (·.1) = false)
    (hs4 : starEach [.Name en r2, .Name "ValueError" r3] X.env = (false, eval (.Name en r2) X.env) :: starEach [.Name "ValueError" r3] X.env) (hs5 : starEach [.Name "ValueError" r3] X.env = (false, eval (.Name "ValueError" r3) X.env) :: starEach [] X.env) (hs6 : (backTo r4 (starEach [.Name "ValueError" r3] X.env)).any (·.1) = false)
    (hs7 : starEach [.Name en u2, .Name d u3] X.env = (false, eval (.Name en u2) X.env) :: starEach [.Name d u3] X.env) (hs8 : starEach [.Name d u3] X.env = (false, eval (.Name d u3) X.env) :: starEach [] X.env) (hs9 : (backTo u4 (starEach [.Name d u3] X.env)).any (·.1) = false)
    (hsw : swapsWith (.BoolOp .And [.Call (.Name "isinstance" q1) [.Name en q2, .Name c q3] [] q4, .Call (.Name "isinstance" r1) [.Name en r2, .Name "ValueError" r3] [] r4, .UnaryOp .Not (.Call (.Name "isinstance" u1) [.Name en u2, .Name d u3] [] u4) q5] q6) (some (.Name tn q7)) q8.line X.env = pure false)
    (I : Inv (inExc X a oe) pins σ H s) (hσ : σ[j]? = some (some (.ref a))) :
    wpAny (model X.prog X.w) (X.A.mark (some (.ref a))) (execs [.Assign [.Name tn q7] (.BoolOp .And [.Call (.Name "isinstance" q1) [.Name en q2, .Name c q3] [] q4, .Call (.Name "isinstance" r1) [.Name en r2, .Name "ValueError" r3] [] r4, .UnaryOp .Not (.Call (.Name "isinstance" u1) [.Name en u2, .Name d u3] [] u4) q5] q6) q8] X.env)
      (fun f s' => f = .next ∧ Inv (inExc X a oe) pins (σ.set i (some (.bl true))) H s') (fun _ _ => False) s := by
  have E1 := pe_isE (p1 := q1) (p4 := q4) (v := .ref C) (a := a) kC hc hgi hmi hj hv hd1 hd2 (pe_glob (X := inExc X a oe) hgc hmc rfl hdc) hs1 hs2 hs3
  have E2 := pe_isE (p1 := r1) (p4 := r4) (v := .ty "ValueError") (a := a) kC hc hgi hmi hj hv hd1 hd2 (pe_bltn (X := inExc X a oe) hgv hmv bt_VE rfl (by decide) (by decide)) hs4 hs5 hs6
  have E3 := pe_isE (p1 := u1) (p4 := u4) (v := .ref Dd) (a := a) kC hc hgi hmi hj hv hd1 hd2 (pe_glob (X := inExc X a oe) hgd hmd rfl hdd) hs7 hs8 hs9
  have P := pss_one (ps_set (X := inExc X a oe) (pos := q8) hN hi hlt (pe_and (pos := q6) E1 (pe_and E2 (pe_one (pe_not (pos := q5) E3)))) hsw hft)
  refine wpAny_mono (P pins s σ H ⟨fun σ' H' => σ' = σ.set i (some (.bl true)) ∧ H' = H, fun _ _ => False, fun _ _ => False, fun _ _ => False⟩ I ?_) (fun f s' hq => ?_) fun _ _ z => z
  · refine ⟨_, hσ, true, .inl ⟨C, rfl, kit_self⟩, true, rfl, iteT ⟨_, hσ, true, .inr ⟨_, rfl, kv⟩, true, rfl, iteT ⟨_, hσ, false, .inl ⟨Dd, rfl, kd⟩, false, rfl, ?_⟩⟩⟩
    exact ⟨rfl, rfl⟩
  · cases f with
    | next =>
      obtain ⟨σ', H', I', rfl, rfl⟩ := hq
      exact ⟨rfl, I'⟩
    | ret u => obtain ⟨_, _, _, _, _, z⟩ := hq; exact z.elim
    | brk => obtain ⟨_, _, _, z⟩ := hq; exact z.elim
    | cont => obtain ⟨_, _, _, z⟩ := hq; exact z.elim
structure TryE (X : Cx) (i j : Nat) (C Y Dd : Addr) (y en tn c d : Str) : Prop where
  stk : X.stack = X.env :: X.outer
  fr : X.env.frame = some X.env.locals
  nd : X.N.Nodup
  kC : ExcK X.K C
  sub : mroIn X.K C (.ref Y) = some true
  gY : Gl X y
  mY : X.mg y = some (.ref Y)
  dY : (y == ("__debug__" : Str)) = false
  tY : typeIn X.K (.ref Y) = some (.type "type")
  bY : mroIn X.K Y (.type "BaseException") = some true
  gi : Gl X "isinstance"
  mi : X.mg "isinstance" = none
  gc : Gl X c
  mc : X.mg c = some (.ref C)
  dc : (c == ("__debug__" : Str)) = false
  gv : Gl X "ValueError"
  mv : X.mg "ValueError" = none
  kv : kitOne X.K (.ref C) (.type "ValueError") = some true
  gd : Gl X d
  md : X.mg d = some (.ref Dd)
  dd : (d == ("__debug__" : Str)) = false
  kd : kitOne X.K (.ref C) (.ref Dd) = some false
  hi : X.N[i]? = some tn
  lt : Loc X.env.scope tn
  ft : X.fn tn = true ∨ X.env.scope.names.lookup tn = some .local
  hj : X.N[j]? = some en
  le : X.env.scope.names.lookup en = some .local
  ke : X.env.kindOf en = some .local
  e1 : (en == ("__debug__" : Str)) = false
  e2 : (en == ("__classdict__" : Str)) = false
theorem caught {i j : Nat} {Y : Addr} {y : Str} {E : Value → Shared → Prop} {Q : Flow → Shared → Prop} {e : Value} {s' : Shared} {p3 p8 : Pos} (T : TryE X i j C Y Dd y en tn c d)
    (hs1 : starEach [.Name en q2, .Name c q3] X.env = (false, eval (.Name en q2) X.env) :: starEach [.Name c q3] X.env) (hs2 : starEach [.Name c q3] X.env = (false, eval (.Name c q3) X.env) :: starEach [] X.env) (hs3 : (backTo q4 (starEach [.Name c q3] X.env)).any (·.1) = false)
    (hs4 : starEach [.Name en r2, .Name "ValueError" r3] X.env = (false, eval (.Name en r2) X.env) :: starEach [.Name "ValueError" r3] X.env) (hs5 : starEach [.Name "ValueError" r3] X.env = (false, eval (.Name "ValueError" r3) X.env) :: starEach [] X.env) (hs6 : (backTo r4 (starEach [.Name "ValueError" r3] X.env)).any (·.1) = false)
    (hs7 : starEach [.Name en u2, .Name d u3] X.env = (false, eval (.Name en u2) X.env) :: starEach [.Name d u3] X.env) (hs8 : starEach [.Name d u3] X.env = (false, eval (.Name d u3) X.env) :: starEach [] X.env) (hs9 : (backTo u4 (starEach [.Name d u3] X.env)).any (·.1) = false)
    (hsw : swapsWith (.BoolOp .And [.Call (.Name "isinstance" q1) [.Name en q2, .Name c q3] [] q4, .Call (.Name "isinstance" r1) [.Name en r2, .Name "ValueError" r3] [] r4, .UnaryOp .Not (.Call (.Name "isinstance" u1) [.Name en u2, .Name d u3] [] u4) q5] q6) (some (.Name tn q7)) q8.line X.env = pure false)
    (I1 : Inv X pins σ H s) (h : CX1 X.prog X.w X.stack H s (fun cls _ H' => cls = .ref C ∧ Same H H') e s')
    (fin : ∀ (ea : Addr) (s2 : Shared) (H' : Hp), Same H H' → Inv X pins ((((σ.set j (some (.ref ea))).set i (some (.bl true))).set j (some .non)).set j none) H' s2 → Q .next s2) :
    wpAny (model X.prog X.w) X.A (noteFrame e X.env) (fun _ z2 => wpAny (model X.prog X.w) X.A (setFlight e none) (fun _ z3 => wpAny (model X.prog X.w) X.A (handleBy e X.env
      [.ExceptHandler (some (.Name y p3)) (some en) [.Assign [.Name tn q7] (.BoolOp .And [.Call (.Name "isinstance" q1) [.Name en q2, .Name c q3] [] q4, .Call (.Name "isinstance" r1) [.Name en r2, .Name "ValueError" r3] [] r4, .UnaryOp .Not (.Call (.Name "isinstance" u1) [.Name en u2, .Name d u3] [] u4) q5] q6) q8] p8]) Q E z3) E z2) E s' := by
  obtain ⟨ea, cls, a0, B, H', rfl, os, bare, un, hok, fl, b1, b2, tg, ct, rfl, sm⟩ := h
  have fl1 := fl
  rw [T.stk] at fl1
  have hjl : j < σ.length := by rw [I1.len]; exact (List.getElem?_eq_some_iff.mp T.hj).1
  refine wpAny_looks_onW (by rw [I1.ok.frames, T.stk]) T.fr fl1 fun h4 held4 up4 => ?_
  refine wpAny_landsW held4 fun h5 fl5 up5 => ?_
  have hna : H' ea = none := by
    cases z : H' ea with
    | none => rfl
    | some x =>
      obtain ⟨o, ho⟩ := b1 ea (by rw [z]; rfl)
      rw [fl.2.1] at ho
      cases ho
  -- what holds of a heap that the exception flies over
  have ov : ∀ hh : Heap, Heap.FlyingW B (X.env :: X.outer) ea (.ref C) a0 hh → s'.heap.UpToSlots hh → ∃ oe, hh.get? ea = some oe ∧ oe.cls = .ref C ∧ Inv (inExc X ea oe) pins σ H' { s' with heap := hh } := fun hh fh uh => by
    obtain ⟨U1, U2⟩ := fly_un I1 un hok fl.2.2.1 fl.1 fh.1 (fun b o _ => uh b o) b1 b2 sm
    have I5 : Inv X pins σ H' { s' with heap := hh } := I1.call' (s' := { s' with heap := hh }) os U1 U2 bare (fun b z => absurd z (by simp))
    obtain ⟨oe, vs, he, hc, hd, _⟩ := fh.first
    have nfr : ea ∉ frs X.stack := fun z => by
      rw [T.stk] at z
      obtain ⟨_, o', ho', nf⟩ := fh.2.2.1.mem z
      rw [he] at ho'
      cases ho'
      exact nf vs hd
    refine ⟨oe, he, hc, Inv.toExc I5 he hna (fun z => nfr ?_) (fun z => nfr ?_) (fun v z => by rw [hd] at z; cases z)⟩
    · rw [T.stk]; unfold frs; rw [List.filterMap_cons, T.fr]; exact z ▸ List.mem_cons_self
    · rw [T.stk]; unfold frs; rw [List.filterMap_cons, T.fr]; exact List.mem_cons_of_mem _ z
  obtain ⟨oe5, he5, hc5, I5⟩ := ov h5 fl5 (up4.trans up5)
  refine wpAny_handleBy_cons (codeAny_handlers_test ?_) (by intro z; cases z)
  refine ld_glob (X := inExc X ea oe5) I5 T.gY T.mY ?_ T.dY
  refine match_exc (K := X.K) I5.kIn he5 hc5 (cl_of T.bY) T.tY T.bY T.sub ?_
  refine codeAny_handlers_suite_as ?_
  refine lands_againW fl5 fun h6 fl6 up6 => ?_
  obtain ⟨oe6, he6, hc6, I6⟩ := ov h6 fl6 (up4.trans (up5.trans up6))
  refine store_ok (X := inExc X ea oe6) I6 T.nd T.hj (Or.inl T.le) (v := .ref ea) rfl (fun s7 I7 => ?_) (.inr T.le)
  refine wpAny_mono (suite_ok (M := True) (i := i) (j := j) T.kC hc6 T.nd T.hi T.lt T.ft T.hj (Or.inl T.le) T.e1 T.e2 T.gi T.mi T.gc T.mc T.dc T.gv T.mv T.kv T.gd T.md T.dd T.kd hs1 hs2 hs3 hs4 hs5 hs6 hs7 hs8 hs9 hsw I7 (by rw [List.getElem?_set_self hjl])) (fun f s8 hq => ?_) fun _ _ z => z.elim
  obtain ⟨rfl, I8⟩ := hq
  have I8' := Inv.ofExc ⟨I1.ok.mod, I1.ok.kind, I1.ok.glob, I1.ok.blt, I1.ok.above, I1.ok.inj, I1.ok.has, I1.ok.cab, I1.ok.hd, I1.ok.frames, I1.ok.stk, I1.ok.exf, I1.ok.bs, I1.ok.bsz, I1.ok.noex, I1.ok.exfs, I1.ok.funs, I1.ok.frf⟩ I8
  refine wpAny_bind (wpAny_bindName (store_ok I8' T.nd T.hj (Or.inl T.le) (v := .non) rfl (fun s9 I9 => ?_) (.inr T.le)))
  unfold unbindBehindTheSuite
  refine wpAny_onRaise (unb_ok I9 T.nd T.hj (v := .non) (by rw [List.getElem?_set_self (by rw [List.length_set, List.length_set]; exact hjl)]) T.le T.ke fun s10 I10 => fin ea s10 H' sm I10)
theorem ds_tryE {W : Hp → Prop} {tg : Option Addr} {i j : Nat} {Y : Addr} {y x : Str} {n m : Nat} {ps : List Str} {F : Fx} {e0 : Expr} {es : List Expr} {t : DAn} {p pos pos2 p3 p8 p9 : Pos} (hx : ∀ e s, ¬ X.xe e s) (T : TryE X i j C Y Dd y en tn c d) (hij : j ≠ i) (Ca : CalX X.prog X.w X.K X.mg X.base n x ps F (.ref C) tg) (hr : Room m X.A) (hn : n ≤ m) (hg : Gl X x) (ha : DA X (e0 :: es) t)
    (hdb : (x == ("__debug__" : Str)) = false := by decide) (he : starEach (e0 :: es) X.env = (false, eval e0 X.env) :: starEach es X.env := by rfl) (hpl : (backTo pos (starEach es X.env)).any (·.1) = false := by rfl) (hs : swapsWith (.Call (.Name x p) (e0 :: es) [] pos) none pos2.line X.env = pure false := by rfl)
    (hs1 : starEach [.Name en q2, .Name c q3] X.env = (false, eval (.Name en q2) X.env) :: starEach [.Name c q3] X.env := by rfl) (hs2 : starEach [.Name c q3] X.env = (false, eval (.Name c q3) X.env) :: starEach [] X.env := by rfl) (hs3 : (backTo q4 (starEach [.Name c q3] X.env)).any (·.1) = false := by rfl)
    (hs4 : starEach [.Name en r2, .Name "ValueError" r3] X.env = (false, eval (.Name en r2) X.env) :: starEach [.Name "ValueError" r3] X.env := by rfl) (hs5 : starEach [.Name "ValueError" r3] X.env = (false, eval (.Name "ValueError" r3) X.env) :: starEach [] X.env := by rfl) (hs6 : (backTo r4 (starEach [.Name "ValueError" r3] X.env)).any (·.1) = false := by rfl)
    (hs7 : starEach [.Name en u2, .Name d u3] X.env = (false, eval (.Name en u2) X.env) :: starEach [.Name d u3] X.env := by rfl) (hs8 : starEach [.Name d u3] X.env = (false, eval (.Name d u3) X.env) :: starEach [] X.env := by rfl) (hs9 : (backTo u4 (starEach [.Name d u3] X.env)).any (·.1) = false := by rfl)
    (hsw : swapsWith (.BoolOp .And [.Call (.Name "isinstance" q1) [.Name en q2, .Name c q3] [] q4, .Call (.Name "isinstance" r1) [.Name en r2, .Name "ValueError" r3] [] r4, .UnaryOp .Not (.Call (.Name "isinstance" u1) [.Name en u2, .Name d u3] [] u4) q5] q6) (some (.Name tn q7)) q8.line X.env = pure false := by rfl) :
    DS X W (.Try [.Expr (.Call (.Name x p) (e0 :: es) [] pos) pos2] [.ExceptHandler (some (.Name y p3)) (some en) [.Assign [.Name tn q7] (.BoolOp .And [.Call (.Name "isinstance" q1) [.Name en q2, .Name c q3] [] q4, .Call (.Name "isinstance" r1) [.Name en r2, .Name "ValueError" r3] [] r4, .UnaryOp .Not (.Call (.Name "isinstance" u1) [.Name en u2, .Name d u3] [] u4) q5] q6) q8] p8] [] [] p9) (sTryE i j F t) := fun pins s σ H D I ⟨B, δ, o, sB, rp, e, q⟩ => by
  obtain ⟨fa, fd, F1, F2, F3, F4, _⟩ := Ca.ex
  unfold sTryE at e
  split at e
  · rename_i hj0
    obtain ⟨rs, e1, e⟩ := bs e
    obtain ⟨oo, e2, e⟩ := ms e
    refine wpAny_Try_except (wpAny_execs_cons (wpAny_Expr_any ?_ I.quiet hs))
    refine wpAny_Call_Name_kw (ld_glob I hg F4 ?_ hdb)
    have hA := ha pos pins s σ H (fun vs H1 => Same H H1 ∧ IsRs X.K B H H1 rs vs) I ⟨B, δ, rs, rp, e1, fun vs H1 g1 i1 => ⟨g1, i1⟩⟩
    refine PySem.W.callWith_K (h₀ := X.base) I.ok.mod.kin F3 (wpAny_mono hA (fun us s1 hq => ?_) fun e s' z => (hx e s' z).elim) he hpl
    obtain ⟨vs, H1, I1, rv, g1, i1⟩ := hq
    have ao := args_of (rp.same.trans g1) i1
    have sp : spX X.K F (.ref C) tg vs H1 (fun v H2 => (∃ r, oo = some r) ∧ Same H1 H2) (fun cls _ H2 => (oo = none ∧ cls = .ref C) ∧ Same H1 H2) := ⟨rs.map R.arg, oo, ao, e2, fun r er v H2 g2 _ => ⟨⟨r, er⟩, g2⟩, fun er H2 g2 => ⟨⟨er, rfl⟩, g2⟩⟩
    have hl : us.length = ps.length := by rw [← rv.length]; exact F1.len _ _ _ _ sp
    have hb := F2 s1 us I1.kIn (by simpa using hl)
    rw [List.append_nil] at hb
    refine ⟨I1.kIn, wpAny_call (codeAny_mono (F1.run X.A X.stack s1 H1 ⟨[] ++ us, []⟩ us vs _ _ (hr.mono hn) I1.env0 hb rv sp) fun r s' hq => ?_)⟩
    cases r with
    | error ex =>
      have hq : CX1 X.prog X.w X.stack H1 s1 (fun cls _ H2 => (oo = none ∧ cls = .ref C) ∧ Same H1 H2) ex s' := hq
      obtain ⟨ea, cls, a0, Bh, H2, z1, z2, z3, z4, z5, z6, z7, z8, tgg, zc, ⟨eo, z9⟩, z10⟩ := hq
      subst eo
      dsimp only at e
      subst e
      refine caught T hs1 hs2 hs3 hs4 hs5 hs6 hs7 hs8 hs9 hsw I1 ⟨ea, cls, a0, Bh, H2, z1, z2, z3, z4, z5, z6, z7, z8, tgg, zc, z9, z10⟩ fun ea' s2 H3 g3 I3 => ?_
      have hjδ : (δ.set i (some (R.d (.bl true))))[j]? = some none := by rw [List.getElem?_set_ne (Ne.symm hij)]; exact hj0
      have rp3 := rp.grow (g1.trans g3)
      have rpa := Rep.set (r := .d (.bl true)) (r' := .d (.bl true)) (i := i) (v := .bl true) (Rep.forget (j := j) (x := some (.ref ea')) rp3 hj0) (Same.refl H3) rfl (by show Has X.K H3 (.bl true) _; simp only [Has])
      have rpb := Rep.forget (j := j) (x := none) (Rep.forget (j := j) (x := some .non) rpa hjδ) hjδ
      exact ⟨_, H3, I3, q B _ H3 (Same.refl _) (Same.tk (g1.trans g3)) rpb⟩
    | ok fl =>
      cases fl with
      | ret u =>
        obtain ⟨v, H2, I2, _, ⟨r, eo⟩, g2⟩ := I1.after hq
        subst eo
        dsimp only at e
        subst e
        exact wpAny_execs_nil (wpAny_execs_nil ⟨σ, H2, I2, q B σ H2 (Same.refl _) (Same.tk (g1.trans g2)) (rp.grow (g1.trans g2))⟩)
      | next => exact False.elim hq
      | brk => exact False.elim hq
      | cont => exact False.elim hq
  · cases e
end
theorem own_K {K : PySem.W.Frag} {h : Heap} {mg : Str → Option Value} {x : Str} {C : Addr} {bmB : List Value} {newId : String} (X : K.In h) (G : h.Ns mainGlobals mg) (e : nsIn K mainGlobals x = some (some (.ref C))) (q : excIn K C bmB newId = true) : OwnCls x C bmB newId mg h := by
  constructor
  · exact mg_of X G e
  · revert q
    unfold excIn
    cases hl : K.lookup C with
    | none => intro q; cases q
    | some o =>
      intro q
      split at q
      · rename_i od cdv slv hh
        cases hh
        split at q
        · rename_i C' tl a0 a1 a2 a3 nn a5 hm hsl
          rw [Bool.and_eq_true, Bool.and_eq_true, Bool.and_eq_true, Bool.and_eq_true, Bool.and_eq_true] at q
          obtain ⟨⟨⟨⟨⟨z1, z2⟩, z3⟩, z4⟩, z5⟩, z6⟩ := q
          have z1 := beq_iff_eq.mp z1
          have z2 := beq_iff_eq.mp z2
          have zd : cdv.hasDel = false := by cases w : cdv.hasDel <;> simp [w] at z3 ⊢
          subst z1
          subst z2
          refine ⟨tl, cdv.ns, cdv.name, cdv.qualname, cdv.bases, cdv.hasDict, cdv.slotNames, cdv.subclasses, cdv.abstract, cdv.collection, od, a0, a1, a2, a3, a5, _, ?_, .of_isNs (isNs_of_in X z5), nsMap_none_of_in X z5 (beq_iff_eq.mp z6), tail_of_in X z4⟩
          rw [X _ _ hl]
          obtain ⟨n0, b0, m0, s0, q0, h0, sn0, su0, ab0, co0, de0⟩ := cdv
          dsimp only at hm zd
          subst hm
          subst zd
          obtain ⟨sl0⟩ := slv
          dsimp only at hsl
          subst hsl
          rfl
        · cases q
      · cases q
end DL

namespace DL
open PySem PySem.Spec PyProof.Rows L2

section
variable {prog : Program} {w : World} {A : Around} {E : Value → Shared → Prop} {s : Shared} {l : Addr} {xs : Array (Int × Tok)}
end
section
variable {X : Cx}
end
end DL

namespace DL
open PySem PySem.Spec PyProof.Rows L2

noncomputable abbrev DXn := Ev → Option (Option R)
noncomputable abbrev DAXn := Ev → Option (Option (List R))
noncomputable def xOf (f : DEn) : DXn := fun δ => (f δ).map some
noncomputable def xCall (F : Fx) (a : DAn) : DXn := fun δ => (a δ).bind fun rs => F (rs.map R.arg)
noncomputable def aNilX : DAXn := fun _ => some (some [])
noncomputable def aConsX (a : DXn) (r : DAXn) : DAXn := fun δ => (a δ).bind fun o => match o with
  | none => some none
  | some x => (r δ).map fun p => p.map (x :: ·)
noncomputable def xTup (a : DAXn) : DXn := fun δ => (a δ).bind fun o => match o with
  | none => some none
  | some rs => if rs.length ≤ 1000 then (plainD rs).map fun ds => some (.d (.tup ds)) else none
noncomputable def xB (g : List R → Option R) (a : DAXn) : DXn := fun δ => (a δ).bind fun o => match o with
  | none => some none
  | some rs => (g rs).map some
noncomputable def cpGoX (e : DXn) (caps : Ev) : List D → Option (Option (List D))
  | [] => some (some [])
  | x :: r => (e (some (.d x) :: caps)).bind fun o => match o with
    | none => some none
    | some (.d y) => (cpGoX e caps r).map fun p => p.map (y :: ·)
    | _ => none
noncomputable def xComp (cs : List Nat) (it : DIn) (e : DXn) : DXn := fun δ => (it δ).bind fun ds => if ds.length ≤ 10000 then (cpGoX e (capsOf cs δ) ds).map fun p => p.map fun ys => .l .own ys else none
noncomputable def sSetX (i : Nat) (e : DXn) : DSn := fun δ => (e δ).bind fun o => match o with
  | none => some .ex
  | some r => (keepR r).map fun r => .nx (δ.set i (some r))
noncomputable def sRetX (e : DXn) : DSn := fun δ => (e δ).bind fun o => match o with
  | none => some .ex
  | some r => (retR r).map .rt
noncomputable def sTryR (j : Nat) (F : Fx) (a : DAn) : DSn := fun δ => match δ[j]? with
  | some none => (a δ).bind fun rs => (F (rs.map R.arg)).map fun o => match o with
    | some _ => .nx δ
    | none => .ex
  | _ => none
noncomputable def aStrs : List Str → DAn
  | [] => aNil
  | x :: r => aCons (dC (.str x)) (aStrs r)
noncomputable def isNo : D → Bool
  | .tup [] => true
  | _ => false
noncomputable def okNo : D → Bool
  | .tup _ => true
  | .non => true
  | _ => false
noncomputable def gIn0 : R → R → Option R
  | .d (.tup []), .d (.tup ds) => if ds.all okNo = true then some (.d (.bl (ds.any isNo))) else none
  | _, _ => none
section
noncomputable def rdX (K : PySem.W.Frag) (S : Hp) (W : Hp → Prop) (t : DXn) : TE := fun σ H Q => ∃ B δ o, Rep K B δ σ H ∧ Same S B ∧ t δ = some o ∧ (∀ r, o = some r → ∀ v H', Same H H' → IsR K B H H' r v → Q v H') ∧ (o = none → ∀ H', Same S H' → W H')
noncomputable def raX (K : PySem.W.Frag) (S : Hp) (W : Hp → Prop) (t : DAXn) : TA := fun σ H Q => ∃ B δ o, Rep K B δ σ H ∧ Same S B ∧ t δ = some o ∧ (∀ rs, o = some rs → ∀ vs H', Same H H' → IsRs K B H H' rs vs → Q vs H') ∧ (o = none → ∀ H', Same S H' → W H')
noncomputable abbrev DX (X : Cx) (S : Hp) (W : Hp → Prop) (e : Expr) (t : DXn) : Prop := PE X e (rdX X.K S W t)
noncomputable abbrev DAX (X : Cx) (S : Hp) (W : Hp → Prop) (es : List Expr) (t : DAXn) : Prop := PA X es (raX X.K S W t)
noncomputable abbrev Px (X : Cx) (S : Hp) (W : Hp → Prop) (cls : Value) : Prop := Passes (CX1 X.prog X.w) X (fun c tg H' => (c = cls ∧ tg = none) ∧ Same S H' ∧ W H')
variable {X : Cx} {S : Hp} {W : Hp → Prop} {pos p p2 : Pos} {a : Expr} {es : List Expr} {f : DEn} {g : DXn} {t : DAn} {u : DAXn} {E : XK} {cls : Value}
theorem px {tg : Option Addr} (L : Lv X E) : Px X X.H₀ (fun H => E cls tg H) cls := fun pins σ H s e s' I z => fly_on L I (fun c tg0 H' ⟨⟨hc, ht⟩, sm, w⟩ => ⟨sm, tg, fun _ => ht, hc ▸ w⟩) z
theorem dx_of (he : DE X a f) : DX X S W a (xOf f) := pe_to he fun σ H Q ⟨B, δ, o, rp, sB, e, q1, q2⟩ => by
  obtain ⟨r, e1, e2⟩ := ms e
  exact ⟨B, δ, r, rp, e1, q1 r e2.symm⟩
theorem dx_call {n m : Nat} {x : Str} {ps : List Str} {F : Fx} (hp : Px X S W cls) (Ca : CalX X.prog X.w X.K X.mg X.base n x ps F cls none) (hr : Room m X.A) (hn : n ≤ m) (hg : Gl X x) (ha : DA X (a :: es) t) (hdb : (x == ("__debug__" : Str)) = false := by decide)
    (he : starEach (a :: es) X.env = (false, eval a X.env) :: starEach es X.env := by rfl) (hpl : (backTo pos (starEach es X.env)).any (·.1) = false := by rfl) : DX X S W (.Call (.Name x p) (a :: es) [] pos) (xCall F t) := by
  obtain ⟨fa, fd, F1, F2, F3, F4, _⟩ := Ca.ex
  refine pe_to (pe_call F1 (hr.mono hn) hg F4 F3 F2 .nil hp ha hdb he hpl) fun σ H Q ⟨B, δ, o, rp, sB, e, q1, q2⟩ => ?_
  obtain ⟨rs, e1, e2⟩ := bs e
  refine ⟨B, δ, rs, rp, e1, fun vs H1 g1 i1 => ?_⟩
  show spX X.K F cls none (vs ++ []) H1 _ _
  rw [List.append_nil]
  have ao := args_of (rp.same.trans g1) i1
  refine ⟨rs.map R.arg, o, ao, e2, fun r' er v H2 g2 ou => q1 r' er v H2 (g1.trans g2) (ou.is g1), fun er H2 g2 => ?_⟩
  have sm : Same S H2 := sB.trans ((rp.same.trans g1).trans g2)
  exact ⟨⟨rfl, rfl⟩, sm, q2 er H2 sm⟩
theorem dax_nil : DAX X S W [] aNilX := pa_to pa_nil fun σ H Q ⟨B, δ, o, rp, sB, e, q1, q2⟩ => by
  cases e
  exact q1 [] rfl [] H (Same.refl _) rfl
theorem dax_cons (ha : DX X S W a g) (hr : DAX X S W es u) (hs : starEach (a :: es) X.env = (false, eval a X.env) :: starEach es X.env := by rfl) : DAX X S W (a :: es) (aConsX g u) :=
  pa_to (pa_cons ha hr hs) fun σ H Q ⟨B, δ, o, rp, sB, e, q1, q2⟩ => by
    obtain ⟨x, ex, e⟩ := bs e
    cases x with
    | none =>
      cases e
      exact ⟨B, δ, none, rp, sB, ex, (fun r z => by cases z), fun _ => q2 rfl⟩
    | some x =>
      obtain ⟨y, ey, e⟩ := ms e
      refine ⟨B, δ, some x, rp, sB, ex, fun r er v H1 g1 i1 => ?_, fun z => by cases z⟩
      cases er
      refine ⟨B, δ, y, rp.grow g1, sB, ey, fun rs ers vs H2 g2 i2 => ?_, fun ey => q2 (by rw [← e, ey]; rfl)⟩
      exact q1 (x :: rs) (by rw [← e, ers]; rfl) (v :: vs) H2 (g1.trans g2) ⟨v, vs, rfl, i1.grow g2, i2.early g1⟩
theorem dx_tup {x1} (hh : DAX X S W es u) : DX X S W (.Tuple es x1 pos) (xTup u) :=
  pe_to (pe_tup hh) fun σ H Q ⟨B, δ, o, rp, sB, e, q1, q2⟩ => by
    obtain ⟨x, ex, e⟩ := bs e
    cases x with
    | none =>
      cases e
      exact ⟨B, δ, none, rp, sB, ex, (fun r z => by cases z), fun _ => q2 rfl⟩
    | some rs =>
      dsimp only at e
      split at e
      · rename_i hz
        obtain ⟨ds, e2, e3⟩ := ms e
        refine ⟨B, δ, some rs, rp, sB, ex, fun r er vs H1 g1 i1 => ?_, fun z => by cases z⟩
        cases er
        refine ⟨line10000 (by rw [← i1.len]; omega), fun p hp => ?_⟩
        have g := same_new hp (.tup vs)
        refine q1 _ e3.symm _ _ (g1.trans g) ?_
        show Has X.K _ (.tup ds) _
        simp only [Has]
        exact ⟨p, vs, rfl, SqT.of upd_same, (plain_has i1 e2).grow g⟩
      · cases e
theorem dx_ty {T : String} {x : Str} {gg : List R → Option R} (hc : CallR X (.type T) (rB X.K gg)) (hg : Gl X x) (hm : X.mg x = none) (hv : bootBuiltins x = some (.type T)) (ha : DAX X S W (a :: es) u) (hn : x ≠ "__name__" := by decide) (hdb : (x == ("__debug__" : Str)) = false := by decide)
    (he : starEach (a :: es) X.env = (false, eval a X.env) :: starEach es X.env := by rfl) (hpl : (backTo pos (starEach es X.env)).any (·.1) = false := by rfl) : DX X S W (.Call (.Name x p) (a :: es) [] pos) (xB gg u) :=
  pe_to (pe_callTy hc hg hm hv ha hn hdb he hpl) fun σ H Q ⟨B, δ, o, rp, sB, e, q1, q2⟩ => by
    obtain ⟨x, ex, e⟩ := bs e
    cases x with
    | none =>
      cases e
      exact ⟨B, δ, none, rp, sB, ex, (fun r z => by cases z), fun _ => q2 rfl⟩
    | some rs =>
      obtain ⟨r', e2, e3⟩ := ms e
      refine ⟨B, δ, some rs, rp, sB, ex, fun r er vs H1 g1 i1 => ?_, fun z => by cases z⟩
      cases er
      exact ⟨B, H, rs, r', rp.same.trans g1, i1, e2, fun v H2 g2 o => q1 r' e3.symm v H2 (g1.trans g2) (o.is g1)⟩
theorem ds_setX (i : Nat) {x : Str} (hN : X.N.Nodup) (he : DX X X.H₀ W a g) (hi : X.N[i]? = some x := by rfl) (hx : Loc X.env.scope x := by first | exact Or.inl rfl | exact Or.inr rfl) (hs : swapsWith a (some (.Name x p)) pos.line X.env = pure false := by rfl)
    (hf : X.fn x = true ∨ X.env.scope.names.lookup x = some .local := by first | exact .inl rfl | exact .inr rfl) : DS X W (.Assign [.Name x p] a pos) (sSetX i g) := ps_to (ps_set hN hi hx he hs hf) fun D σ H ⟨B, δ, o, sB, rp, e, q⟩ => by
  obtain ⟨x, ex, e⟩ := bs e
  cases x with
  | none =>
    cases e
    exact ⟨B, δ, none, rp, sB, ex, (fun r z => by cases z), fun _ => q⟩
  | some r =>
    obtain ⟨r', e2, e⟩ := ms e
    subst e
    refine ⟨B, δ, some r, rp, sB, ex, fun r er v H1 g1 i1 => ?_, fun z => by cases z⟩
    cases er
    exact q B _ H1 (Same.refl _) (Same.tk g1) (rp.set g1 e2 i1)
theorem ds_retX (he : DX X X.H₀ W a g) : DS X W (.Return (some a) pos) (sRetX g) := ps_to (ps_ret he) fun D σ H ⟨B, δ, o, sB, rp, e, q⟩ => by
  obtain ⟨x, ex, e⟩ := bs e
  cases x with
  | none =>
    cases e
    exact ⟨B, δ, none, rp, sB, ex, (fun r z => by cases z), fun _ => q⟩
  | some r =>
    obtain ⟨r', e2, e⟩ := ms e
    subst e
    have s1 := sB.trans rp.same
    refine ⟨B, δ, some r, rp, sB, ex, fun r er v H1 g1 i1 => ?_, fun z => by cases z⟩
    cases er
    exact q v H1 (s1.trans g1) (out_ret s1 e2 i1)
end
noncomputable def strsOf : List Expr → Option (List Str)
  | [] => some []
  | .Constant (.str x) _ _ :: r => (strsOf r).map (x :: ·)
  | _ => none
theorem star_str {x : Str} {j : Nat} {p : Pos} {es : List Expr} {env : Env} : starEach (.Constant (.str x) j p :: es) env = (false, eval (.Constant (.str x) j p) env) :: starEach es env := rfl
theorem da_strs {X : Cx} : ∀ {es : List Expr} (xs : List Str), strsOf es = some xs → DA X es (aStrs xs)
  | [], xs, h => by
    cases h
    exact da_nil
  | e :: es, xs, h => by
    unfold strsOf at h
    split at h
    · rename_i z
      cases z
    · rename_i x _ _ r z
      cases z
      obtain ⟨ys, e1, e2⟩ := ms h
      subst e2
      exact da_cons de_str (da_strs ys e1) star_str
    · cases h
end DL

namespace DL
open PySem PySem.Spec PyProof.Rows L2

theorem ff_less {h B B' : Heap} : ∀ {l : List Env}, h.FunFrames B l → (∀ b, B.get? b = none → B'.get? b = none) → h.FunFrames B' l
  | [], _, _ => trivial
  | _ :: _, ⟨hk, ⟨L, o, hf, hb, ho, hd⟩, hr⟩, k => ⟨hk, ⟨L, o, hf, k L hb, ho, hd⟩, ff_less hr k⟩
theorem ff_but {h h' B : Heap} {C : Addr} (sb : ∀ b, b ≠ C → h'.get? b = h.get? b) : ∀ {l : List Env}, h.FunFrames B l → C ∉ frs l → h'.FunFrames B l
  | [], _, _ => trivial
  | env :: l, ⟨hk, ⟨L, o, hf, hb, ho, hd⟩, hr⟩, hC => by
    have e : frs (env :: l) = L :: frs l := by
      unfold frs
      rw [List.filterMap_cons, hf]
    rw [e] at hC
    refine ⟨hk, ⟨L, o, hf, hb, (sb L fun z => hC (z ▸ List.mem_cons_self)).trans ho, hd⟩, ff_but sb hr fun z => hC (List.mem_cons_of_mem _ z)⟩
theorem hide_less {B : Heap} {as : List Addr} (b : Addr) (h : B.get? b = none) : (PySem.W.hideAll B as).get? b = none := by
  cases z : (PySem.W.hideAll B as).get? b with
  | none => rfl
  | some o =>
    have := PySem.W.of_hideAll _ z
    rw [h] at this
    cases this
theorem FlyA.but {B h h' : Heap} {l : List Env} {e C : Addr} {cls a0 fl : Value} {oC : Obj} (x : FlyA B l e cls a0 fl h) (hC : h.get? C = some oC) (nf : ∀ vs, oC.data ≠ .fields vs) (hl : C ∉ frs l) (sb : ∀ b, b ≠ C → h'.get? b = h.get? b) : FlyA (PySem.W.hideAll B [C]) l e cls a0 fl h' ∧ e ≠ C := by
  obtain ⟨x1, x2, x3, oe, vs, T, oT, ts, he, hc, hd, v1, hn, Te, hT, dT, t3⟩ := x
  have ne : e ≠ C := fun z => by
    rw [z, hC] at he
    cases he
    exact nf _ hd
  have nT : T ≠ C := fun z => by
    rw [z, hC] at hT
    cases hT
    exact nf _ dT
  refine ⟨⟨fun b o q => ?_, hide_less _ x2, ff_less (ff_but sb x3 hl) hide_less, oe, vs, T, oT, ts, (sb e ne).trans he, hc, hd, v1, hide_less _ hn, Te, (sb T nT).trans hT, dT, t3⟩, ne⟩
  have hb : b ≠ C := fun z => by
    rw [z, PySem.W.hideAll_none _ (List.mem_singleton.mpr rfl)] at q
    cases q
  exact (sb b hb).trans (x1 b o (PySem.W.of_hideAll _ q))
section
variable {X : Cx} {pins : List (Addr × Obj)} {σ : St} {H : Hp} {s : Shared} {E : XK}
theorem fly_mid {α : Type} {what : String} (L : Lv X E) (I : Inv X pins σ H s) {C : Addr} {oC : Obj} (hCs : s.heap.get? C = some oC) (hnf : ∀ vs, oC.data ≠ .fields vs) (hCH : H C = none) (hC0 : X.s₀.heap.get? C = none) (hCf : C ∉ frs X.stack) {e : Value} {s' : Shared} {E' : XK} {E2 : Value → Shared → Prop}
    (sm : ∀ cls tg H', E' cls tg H' → Same X.H₀ H' ∧ ∃ tg', (tg' = none → tg = none) ∧ E cls tg' H') (h : CX1 X.prog X.w X.stack H s E' e s') :
    wpAny (model X.prog X.w) X.A (noteFrame e X.env) (fun _ s'' => s''.heap.get? C = some oC ∧ ∀ h', (∀ b, b ≠ C → h'.get? b = s''.heap.get? b) → ∀ cenv : Env, wpAny (model X.prog X.w) X.A (passOn what e cenv : Sem α) (fun _ _ => False) X.xe { s'' with heap := h' }) E2 s' := by
  obtain ⟨a, cls, a0, B, H', rfl, os, bare, un, hok, fl, b1, b2, tg, ct, q⟩ := h
  obtain ⟨s1, tg', ht, q1⟩ := sm _ _ _ q
  have fl1 := fl
  rw [L.stk] at fl1
  refine note_C (fl := .none) (by rw [I.ok.frames, L.stk]) L.fr fl1 fun h1 y1 y2 y3 => ?_
  have BC : B.get? C = some oC := b2 C oC hCs hCH hCf
  have hC1 : h1.get? C = some oC := y1.1 _ _ BC
  rw [← L.stk] at y1
  refine ⟨hC1, fun h2 sb cenv => ?_⟩
  obtain ⟨z, neC⟩ := y1.but hC1 hnf hCf sb
  refine pass_C (s := { s' with heap := h2 }) z fun h3 w1 w2 w3 => ?_
  rw [L.stk] at w1
  rw [L.xe]
  refine leaves_C (s := { s' with heap := h3 }) (by rw [I.ok.frames, L.stk]) L.fr w1 fun h4 v1 v2 v3 => ?_
  have hH' : H' C = none := un.free C oC hCs hCH (by simp)
  have b1' : ∀ b, (H' b).isSome = true → ∃ o, (PySem.W.hideAll B [C]).get? b = some o := fun b hb => by
    obtain ⟨o, ho⟩ := b1 b hb
    exact ⟨o, PySem.W.hideAll_get _ ho fun z => by
      have z : b = C := List.mem_singleton.mp z
      rw [z, hH'] at hb
      cases hb⟩
  have b2' : ∀ b o, (∃ o', X.s₀.heap.get? b = some o') → s.heap.get? b = some o → H b = none → b ∉ frs X.stack → (PySem.W.hideAll B [C]).get? b = some o := fun b o ⟨o', w⟩ w1 w2 w3 => PySem.W.hideAll_get _ (b2 b o w1 w2 w3) fun z => by
    have z : b = C := List.mem_singleton.mp z
    rw [z, hC0] at w
    cases w
  have up : ∀ b o, b ∈ frs X.stack → s'.heap.get? b = some o → (∀ vs, o.data ≠ .fields vs) → ∃ sl, h4.get? b = some { o with slots := sl } := fun b o hb e nf => by
    obtain ⟨sl, e1⟩ := y2 b o e nf
    have e2 := (sb b fun z => hCf (z ▸ hb)).trans e1
    obtain ⟨sl2, e3⟩ := w2 b _ e2 nf
    obtain ⟨sl3, e4⟩ := v2 b _ e3 nf
    exact ⟨sl3, e4⟩
  refine ⟨a, cls, a0, _, H', rfl, os.trans I.os, bare, fly_entry I L.stk L.fr L.ex un (ff_less fl.2.2.1 hide_less) v1.1 up b1' b2' s1, fly_hok hok (fun b o z => fl.1 _ _ (PySem.W.of_hideAll _ z)) v1.1 b1', v1, b1', b2_entry I L.stk L.fr L.ex b2', tg', fun z => ?_, q1⟩
  obtain ⟨o5, w5, c1, c2, c3⟩ := y3 (ct (ht z))
  exact v3 (w3 ⟨o5, w5, (sb a neC).trans c1, c2, c3⟩)
end
noncomputable def BlkX (X : Cx) (S : Hp) (W : Hp → Prop) (cls : Value) (x : Str) (ns : List Str) (scope : Scope) (cl : List (Str × Addr)) (elt : Expr) (e : DXn) : Prop :=
  ∀ (C : Addr) (s : Shared) (H : Hp) (ex : List Addr) (xe : Value → Shared → Prop), Px { cxC X x ns scope C s H ex cl with xe := xe } S W cls → DX { cxC X x ns scope C s H ex cl with xe := xe } S W elt e
theorem inv_xe_to {X : Cx} {f : Value → Shared → Prop} {pins : List (Addr × Obj)} {σ : St} {H : Hp} {s : Shared} (I : Inv X pins σ H s) : Inv { X with xe := f } pins σ H s :=
  ⟨⟨I.ok.mod, I.ok.kind, I.ok.glob, I.ok.blt, I.ok.above, I.ok.inj, I.ok.has, I.ok.cab, I.ok.hd, I.ok.frames, I.ok.stk, I.ok.exf, I.ok.bs, I.ok.bsz, I.ok.noex, I.ok.exfs, I.ok.funs, I.ok.frf⟩, I.os, I.bare, I.base, I.loc, I.cell, I.free, I.freeC, I.pin, I.hok, I.len⟩
theorem inv_xe_of {X : Cx} {f : Value → Shared → Prop} {pins : List (Addr × Obj)} {σ : St} {H : Hp} {s : Shared} (I : Inv { X with xe := f } pins σ H s) : Inv X pins σ H s :=
  ⟨⟨I.ok.mod, I.ok.kind, I.ok.glob, I.ok.blt, I.ok.above, I.ok.inj, I.ok.has, I.ok.cab, I.ok.hd, I.ok.frames, I.ok.stk, I.ok.exf, I.ok.bs, I.ok.bsz, I.ok.noex, I.ok.exfs, I.ok.funs, I.ok.frf⟩, I.os, I.bare, I.base, I.loc, I.cell, I.free, I.freeC, I.pin, I.hok, I.len⟩
theorem note_same (x : Value) (scope : Scope) (cl : List (Str × Addr)) (C : Addr) (env : Env) : noteFrame x (compEnvC scope cl C env) = noteFrame x env := rfl
section
variable {X : Cx} {x : Str} {cs : List Nat} {ns : List Str} {scope : Scope} {cl : List (Str × Addr)} {pins : List (Addr × Obj)} {σ : St} {H : Hp} {s s4 : Shared} {ex : List Addr} {C : Addr} {S : Hp} {W : Hp → Prop} {cls : Value}
set_option maxHeartbeats 4000000 in
theorem comp_blockX {elt iter : Expr} {px : Pos} {pos : Pos} {e : DXn} {E : Value → Shared → Prop} {RR : Value → Addr → Result → Shared → Prop} {H2 : Hp} {s2 : Shared} {it : Addr} {fp : List Addr} {tn : Nat → Heap → Prop} {J : It} {B : Hp} {δ : Ev} {ds : List DL.D} {oo : Option (List DL.D)}
    (O : CpOk X x cs ns scope cl) (hc : X.calm = true) (bk : BlkX X S W cls x ns scope cl elt e) (I2 : Inv X pins σ H2 s2) (T : Turn X.prog X.w X.K (.Name x px) J fp it tn) (st2 : tn 0 s2.heap) (f2 : ∀ b ∈ fp, FpOk X pins H2 b) (yc : Yc X.K H2 J ds)
    (rp : Rep X.K B δ σ H2) (sS : Same S H2) (hz : ds.length ≤ 10000) (ec : cpGoX e (capsOf cs δ) ds = some oo) (hW : oo = none → ∀ H', Same S H' → W H')
    (hRR : ∀ (D C : Addr) (s' : Shared) (H' : Hp) (xs : List V) (m : Str → Option Value) (rs : List DL.D), oo = some rs → H2 D = none → Inv X pins σ H' s' → Same H2 H' → H' D = some (.lst xs) → HasL X.K H' rs xs → s'.heap.Ns C m → FpOk X pins H' C → RR (.ref D) C (.ok .next) s')
    (hRX : ∀ (D C : Addr) (s1 s' : Shared) (H1 : Hp) (m : Str → Option Value) (ev : Value), Inv X pins σ H1 s1 → s1.heap.Ns C m → H1 C = none → X.s₀.heap.get? C = none → C ∉ frs X.stack → CX1 X.prog X.w X.stack H1 s1 (fun c tg H' => (c = cls ∧ tg = none) ∧ Same S H' ∧ W H') ev s' →
      wpAny (model X.prog X.w) X.A (noteFrame ev X.env) (fun _ s'' => RR (.ref D) C (.error ev) s'') (fun x s'' => RR (.ref D) C (.error x) s'') s') :
    wpAny (model X.prog X.w) X.A (newList []) (fun acc s₃ => wpAny (model X.prog X.w) X.A (newFunctionEnv scope X.env.globals cl [] X.env.qual none .none (some X.env)) (fun cenv s₄ =>
      codeAny (model X.prog X.w) X.A (.compStart (.ListComp elt [⟨.Name x px, iter, [], 0⟩] scope pos) 0 (.ref it) acc { cenv with scope := relabel scope X.env }) (RR acc cenv.locals) s₄) E s₃) E s2 := by
  refine wpAny_newObj_type (wpAny_newFunctionEnv O.cell (by intro y hy; simp at hy) (fun h₁ hns₁ hsb₁ => ?_) O.kind)
  dsimp only at hns₁ hsb₁ ⊢
  have I3 : Inv X pins σ (upd H2 s2.heap.objs.size (.lst [])) { s2 with heap := s2.heap.push { cls := .type "list", dict := none, data := .seq ([] : List Value).toArray } } := I2.lnew (its := []) (t' := s2.toks) .nil (Nat.zero_le _)
  generalize hD : s2.heap.objs.size = D at I3 hns₁ hsb₁ ⊢
  have hDn : H2 D = none := by rw [← hD]; exact I2.fresh
  have fpl : ∀ b ∈ fp, b < D := fun b hb => by
    obtain ⟨o, e, _⟩ := T.obj 0 _ st2 b hb
    rw [← hD]; exact Heap.lt_size e
  generalize hs3 : ({ s2 with heap := s2.heap.push { cls := .type "list", dict := none, data := .seq ([] : List Value).toArray } } : Shared) = s3 at I3
  have hh3 : s2.heap.push { cls := .type "list", dict := none, data := .seq ([] : List Value).toArray } = s3.heap := by rw [← hs3]
  rw [hh3] at hns₁ hsb₁ ⊢
  generalize hC : s3.heap.objs.size = C at hns₁ hsb₁ ⊢
  have hDC : D + 1 = C := by rw [← hC, ← hh3, Heap.size_push, hD]
  have f3 : ∀ b ∈ fp, FpOk X pins (upd H2 D (.lst [])) b := fun b hb => by
    refine ⟨?_, (f2 b hb).2⟩
    rw [upd_ne (Nat.ne_of_lt (fpl b hb))]
    exact (f2 b hb).1
  have keep : ∀ b o, s3.heap.get? b = some o → h₁.get? b = some o := fun b o e => hsb₁.extBut b o (by rw [← hC]; exact Nat.ne_of_lt (Heap.lt_size e)) (Heap.get?_push_of_some _ e)
  have J0 : Inv (cxC X x ns scope C s3 (upd H2 D (.lst [])) fp cl) [] (none :: cs.map fun i => (σ[i]?).join) (upd H2 D (.lst [])) { s3 with heap := h₁, toks := s3.toks + ([] : List (Str × Value)).length } :=
    comp_inv O I3 f3 (fun b hb => by rw [hC, ← hDC]; exact Nat.lt_succ_of_lt (fpl b hb)) hC.symm hns₁ keep
  have st0 : tn 0 h₁ := T.keep 0 _ _ st2 fun b hb o e => keep b o (by rw [← hh3]; exact Heap.get?_push_of_some _ e)
  have stk : ∀ b ∈ frs X.stack, b ∉ fp := fun b hb hx => by
    rcases List.mem_cons.mp (I2.stkSub b hb) with e | hb
    · exact (f2 b hx).2.1 e
    · exact (f2 b hx).2.2.1 hb
  have stat : ∀ {H' : Hp}, (∀ b ∈ fp, H' b = none) → ∀ b ∈ fp, FpOk (cxC X x ns scope C s3 (upd H2 D (.lst [])) fp cl) [] H' b := fun hn b hb =>
    ⟨hn b hb, (by show b ≠ C; rw [← hDC]; exact Nat.ne_of_lt (Nat.lt_succ_of_lt (fpl b hb))), (fun z => stk b z hb), .inl hb, (fun y c h => (f2 b hb).2.2.2.2.1 y c (O.sub y c h)), fun p hp => absurd (show p ∈ ([] : List (Addr × Obj)) from hp) (by simp)⟩
  have sD : ∀ {H' : Hp}, Same (upd H2 D (.lst [])) H' → Same H2 H' := fun g => (same_new hDn _).trans g
  have C0 : X.s₀.heap.get? C = none := by
    cases z : X.s₀.heap.get? C with
    | none => rfl
    | some o =>
      have := Nat.lt_of_lt_of_le (Heap.lt_size z) I3.sz
      rw [hC] at this
      exact absurd this (Nat.lt_irrefl _)
  have Cfr : C ∉ frs X.stack := fun z => by
    obtain ⟨_, o, ho, _⟩ := I3.stack.mem z
    have := Heap.lt_size ho
    rw [hC] at this
    exact absurd this (Nat.lt_irrefl _)
  have bt := tst_nil (Y := (cxC X x ns scope C s3 (upd H2 D (.lst [])) fp cl))
  have be := bk C s3 (upd H2 D (.lst [])) fp (fun ev s' => ∃ pins1 σ1 H1 s1, Inv (cxC X x ns scope C s3 (upd H2 D (.lst [])) fp cl) pins1 σ1 H1 s1 ∧ CX1 X.prog X.w X.stack H1 s1 (fun c tg H' => (c = cls ∧ tg = none) ∧ Same S H' ∧ W H') ev s') fun pins1 σ1 H1 s1 ev s' I1 z => ⟨pins1, σ1, H1, s1, inv_xe_of I1, z⟩
  have ndN : (cxC X x ns scope C s3 (upd H2 D (.lst [])) fp cl).N.Nodup := O.nd
  have fpC : ∀ {H' : Hp}, H' C = none → FpOk X pins H' C := fun hn => by
    rw [← hC] at hn ⊢
    exact I3.fpOk (Nat.le_refl _) hn
  have loop : codeAny (model X.prog X.w) X.A (.compLoop (.ListComp elt [⟨.Name x px, iter, [], 0⟩] scope pos) 0 (.ref it) (.ref D) (compEnvC scope cl C X.env)) (RR (.ref D) C) { s3 with heap := h₁, toks := s3.toks + ([] : List (Str × Value)).length } := by
    refine codeAny_loop rfl (fun n s' => ∃ (i : Nat) (σ' : St) (H' : Hp) (xs : List V) (ys : List DL.D) (zs : Option (List DL.D)), i ≤ ds.length ∧ n = ds.length - i ∧ σ'.length = 1 + cs.length ∧ σ'.drop 1 = (cs.map fun i => (σ[i]?).join) ∧ Inv (cxC X x ns scope C s3 (upd H2 D (.lst [])) fp cl) [] σ' H' s' ∧ tn i s'.heap ∧ (∀ b ∈ fp, H' b = none) ∧
      Same H2 H' ∧ H' D = some (.lst xs) ∧ HasL X.K H' ys xs ∧ cpGoX e (capsOf cs δ) (ds.drop i) = some zs ∧ zs.map (ys ++ ·) = oo ∧ ys.length ≤ i) ?_ ds.length ?_
    · rintro n s5 ⟨i, σ5, H5, xs, ys, zs, hi, hn, hσl, hσ, J5, st5, fr5, g5, hD5, l5, e5, er, hy⟩
      show wpAny _ _ ((compTurn (.ListComp elt [⟨.Name x px, iter, [], 0⟩] scope pos) 0 (.ref it) (.ref D) (compEnvC scope cl C X.env)).onRaise (fun x => do noteFrame x (compEnvC scope cl C X.env); theTreesLotGoes x)) _ _ s5
      refine wpAny_noted ?_
      rw [compTurn_list]
      refine wpAny_bind (wpAny_standAt (wpAny_bind ?_))
      obtain ⟨y1, y2, y3⟩ := yc H5 g5 i
      by_cases hlt : i < ds.length
      · have hg : ds[i]? = some ds[i] := List.getElem?_eq_getElem hlt
        refine wpAny_mono (T.item (cxC X x ns scope C s3 (upd H2 D (.lst [])) fp cl) rfl rfl rfl hc i [] s5 σ5 H5 (fun _ _ => False) J5 (stat fr5) st5 (y1 _ hg)) (fun r s6 h6 => ?_) fun _ _ z => z.elim
        obtain ⟨u, hr, h6⟩ := h6
        subst hr
        refine wpAny_bind (wpAny_mono h6 (fun _ s7 h7 => ?_) fun _ _ z => z.elim)
        obtain ⟨v, H7, I7, r7, yl7, st7, fr7⟩ := h7
        obtain ⟨z1, z2⟩ := y2 v H7 _ yl7 hg
        subst z1
        have I7' := I7.pinned (stat fr7) (T.obj _ _ st7)
        refine wpAny_bind (wpAny_mono (pg_name (X := cxC X x ns scope C s3 (upd H2 D (.lst [])) fp cl) (pos := px) (i := 0) (x := x) ndN rfl (Or.inl (lookup_relabel_local O.loc)) (Or.inr (lookup_relabel_local O.loc)) _ s7 σ5 H7 v u (fun σ' H' => σ' = σ5.set 0 (some v) ∧ H' = H7) I7' r7 ⟨rfl, rfl⟩) (fun _ s8 h8 => ?_) fun _ _ z => z.elim)
        obtain ⟨σ8, H8, I8, e8, e8'⟩ := h8
        subst e8
        subst e8'
        have eσ : σ5.set 0 (some v) = some v :: cs.map fun i => (σ[i]?).join := by
          cases σ5 with
          | nil => simp at hσl; omega
          | cons a b => simp at hσ; simp [hσ]
        have hdr : ds.drop i = ds[i] :: ds.drop (i + 1) := List.drop_eq_getElem_cons hlt
        rw [hdr] at e5
        unfold cpGoX at e5
        obtain ⟨oe, ee, e5⟩ := bs e5
        have rp8 : Rep X.K H2 (some (.d ds[i]) :: capsOf cs δ) (σ5.set 0 (some v)) H8 := by rw [eσ]; exact rep_comp rp g5 z2
        have again : ∀ {s9 : Shared} {H9 : Hp} {xs' : List V} {ys' : List DL.D} {zs' : Option (List DL.D)}, Inv (cxC X x ns scope C s3 (upd H2 D (.lst [])) fp cl) ([] ++ pinsAt fp s7.heap) (σ5.set 0 (some v)) H9 s9 → Same H2 H9 → H9 D = some (.lst xs') → HasL X.K H9 ys' xs' → cpGoX e (capsOf cs δ) (ds.drop (i + 1)) = some zs' → zs'.map (ys' ++ ·) = oo → ys'.length ≤ i + 1 →
            ∃ m, m < n ∧ ∃ (i : Nat) (σ' : St) (H' : Hp) (xs : List V) (ys : List DL.D) (zs : Option (List DL.D)), i ≤ ds.length ∧ m = ds.length - i ∧ σ'.length = 1 + cs.length ∧ σ'.drop 1 = (cs.map fun i => (σ[i]?).join) ∧ Inv (cxC X x ns scope C s3 (upd H2 D (.lst [])) fp cl) [] σ' H' s9 ∧ tn i s9.heap ∧ (∀ b ∈ fp, H' b = none) ∧
              Same H2 H' ∧ H' D = some (.lst xs) ∧ HasL X.K H' ys xs ∧ cpGoX e (capsOf cs δ) (ds.drop i) = some zs ∧ zs.map (ys ++ ·) = oo ∧ ys.length ≤ i := by
          intro s9 H9 xs' ys' zs' I9 g9 d9 l9 c9 a9 n9
          refine ⟨ds.length - (i + 1), by omega, i + 1, _, H9, xs', ys', zs', by omega, rfl, by simpa using hσl, by rw [eσ]; rfl, I9.unpinned, T.keep _ _ _ st7 fun b hb o e => (I9.pin (b, o) (List.mem_append_right _ (List.mem_append_right _ (mem_pinsAt hb e)))).1, fun b hb => ?_, g9, d9, l9, c9, a9, n9⟩
          obtain ⟨o, e, d⟩ := T.obj _ _ st7 b hb
          exact (I9.pin (b, o) (List.mem_append_right _ (List.mem_append_right _ (mem_pinsAt hb e)))).2.1
        refine wpAny_bind (wpAny_mono (bt _ s8 (σ5.set 0 (some v)) H8 (fun b' H' => b' = true ∧ Same H8 H') I8 ⟨H2, _, true, rp8, rfl, fun H' g => ⟨rfl, g⟩⟩) (fun ok s9 h9 => ?_) fun _ _ z => z.elim)
        obtain ⟨H9, I9, eok, g9⟩ := h9
        subst eok
        refine wpAny_bind (wpAny_bind (wpAny_mono (be _ s9 (σ5.set 0 (some v)) H9 (fun v' H' => ∃ r, oe = some r ∧ Same H9 H' ∧ IsR X.K H2 H9 H' r v') (inv_xe_to I9) ⟨H2, _, oe, rp8.grow g9, sS, ee, fun r er v' H' g h => ⟨r, er, g, h⟩, fun eo => hW (by rw [eo] at e5; cases e5; exact er.symm)⟩) (fun w s10 h10 => ?_) fun ev s' z => ?_))
        · obtain ⟨v10, H10, I10, r10, r, eoe, g10, l10⟩ := h10
          have I10 := inv_xe_of I10
          subst eoe
          split at e5
          · rename_i he5
            cases he5
          · rename_i y he5
            cases he5
            have l10 : Has X.K H10 y v10 := l10
            obtain ⟨zs', ez, e6⟩ := ms e5
            have d10 : H10 D = some (.lst xs) := g10 _ _ (g9 _ _ hD5)
            have l10' : HasL X.K H10 ys xs := (l5.grow g9).grow g10
            have n10 := l10'.len
            refine wpAny_bind (wpAny_mono (mt_append (X := cxC X x ns scope C s3 (upd H2 D (.lst [])) fp cl) _ s10 (σ5.set 0 (some v)) H10 (.ref D) [v10] (.ref D) [w] (fun _ H' => H' = upd H10 D (.lst (xs ++ [v10]))) I10 rfl (.cons r10 .nil) ⟨D, xs, v10, rfl, rfl, d10, Nat.lt_of_lt_of_le (by omega : xs.length < 10001) (by decide), rfl⟩) (fun _ s11 h11 => ?_) fun _ _ z => z.elim)
            obtain ⟨_, H11, I11, _, e11⟩ := h11
            subst e11
            refine wpAny_pure (wpAny_pure ⟨rfl, again I11 (fun b o q => ?_) upd_same (HasL.mono (tk_upd d10) _ _ (l10'.app (HasL.cons l10 HasL.nil))) ez (by rw [← er, ← e6]; cases zs' <;> simp) (by rw [List.length_append, List.length_singleton]; omega)⟩)
            rw [upd_ne (fun z => by subst z; rw [hDn] at q; cases q)]
            exact g10 _ _ (g9 _ _ (g5 _ _ q))
          · cases e5
        · obtain ⟨pins1, σ1, H1, s1, J1, z⟩ := z
          obtain ⟨m1, hn1, _⟩ := J1.loc
          have I1 := comp_back (h6 := s1.heap) I3 f3 hC.symm (J1.pins_of (pins' := []) (fun p hp => by cases hp)) (Heap.SameBut.refl ..)
          show wpAny _ _ (noteFrame ev (compEnvC scope cl C X.env)) _ _ s'
          rw [note_same]
          exact hRX D C s1 s' H1 m1 ev I1 hn1 J1.free C0 Cfr z
      · have hil : ds.length ≤ i := by omega
        refine wpAny_mono (T.done (cxC X x ns scope C s3 (upd H2 D (.lst [])) fp cl) rfl rfl rfl hc i [] s5 σ5 H5 (fun _ _ => False) J5 (stat fr5) st5 (y3 hil)) (fun r s6 h6 => ?_) fun _ _ z => z.elim
        obtain ⟨hr, I6⟩ := h6
        subst hr
        have hz0 : ds.drop i = [] := List.drop_eq_nil_of_le hil
        rw [hz0] at e5
        cases e5
        have er : some (ys ++ []) = oo := er
        rw [List.append_nil] at er
        obtain ⟨m6, hn6, _⟩ := I6.loc
        refine wpAny_pure (hRR D C s6 H5 xs m6 ys er.symm hDn ?_ g5 hD5 l5 hn6 (fpC I6.free))
        have := comp_back (h6 := s6.heap) I3 f3 hC.symm I6 (Heap.SameBut.refl ..)
        exact this
    · exact ⟨0, _, upd H2 D (.lst []), [], [], oo, Nat.zero_le _, rfl, by simp [Nat.add_comm], rfl, J0, st0, (fun b hb => (f3 b hb).1), same_new hDn _, upd_same, HasL.nil, by simpa using ec, by cases oo <;> simp, Nat.le_refl _⟩
  have fin := codeAny_compStart_list (ifs := []) (rest := []) (elt := elt) (target := .Name x px) (iter := iter) (scope := scope) (pos := pos) loop (T.self _ 0 { s3 with heap := h₁, toks := s3.toks + ([] : List (Str × Value)).length } _ _ st0 loop)
  rw [← hs3] at fin
  exact fin
theorem dx_comp {E : XK} {tg : Option Addr} {elt iter : Expr} {px pos : Pos} {e : DXn} {it : DIn} (L : Lv X E) (O : CpOk X x cs ns scope cl) (hc : X.calm = true) (bk : BlkX X X.H₀ (fun H => E cls tg H) cls x ns scope cl elt e) (hi : DC X (.Name x px) iter it) (hs : ∀ x, foldedSetIterable iter X.env x = pure x := by intro _; rfl) :
    DX X X.H₀ (fun H => E cls tg H) (.ListComp elt [⟨.Name x px, iter, [], 0⟩] scope pos) (xComp cs it e) := by
  rintro pins s σ H Q I ⟨B, δ, o, rp, sB, eq, q1, q2⟩
  obtain ⟨ds, e1, eq⟩ := bs eq
  split at eq
  · rename_i hz
    obtain ⟨oo, e2, e3⟩ := ms eq
    rw [eval_ListComp]
    refine wpAny_comprehension_free (use := none) rfl hs O.clos O.kind O.names (wpAny_mono (hi pins s σ H (fun J H1 => Same H H1 ∧ Yc X.K H1 J ds) I ⟨B, δ, ds, rp, e1, fun J H1 g y => ⟨g, y⟩⟩) (fun v s1 h1 => wpAny_mono h1 (fun itv s2 h2 => ?_) fun _ _ z => z) fun _ _ z => z)
    obtain ⟨itA, fp, tn, J, H2, rfl, I2, T, st2, f2, g2, yc⟩ := h2
    refine comp_blockX (RR := fun acc C => compPost (model X.prog X.w) X.A X.xe none (EP X pins σ Q) acc C) O hc bk I2 T st2 f2 yc (rp.grow g2) ((sB.trans rp.same).trans g2) hz e2 (fun eo => q2 (by rw [← e3, eo]; rfl)) ?_ ?_
    · intro D C s' H' xs m rs eo hD I' g' d' l' hn fc
      refine ⟨m, hn, fun h' hs' => ⟨.ref D, H', ?_, rfl, q1 (.l .own rs) (by rw [← e3, eo]; rfl) _ H' (g2.trans g') ⟨D, xs, rfl, g2.free hD, d', l'⟩⟩⟩
      exact I'.turned (t' := s'.toks) (it := C) (fun b o hb eb => hs'.extBut b o hb eb) fc.1 fc.2.1 fc.2.2.2.1 fc.2.2.2.2.1 fc.2.2.2.2.2
    · intro D C s1 s' H1 m ev I1 hn hH hC0 hCf z
      have hn' := hn
      obtain ⟨oC, es, ep, hCs, hd, _⟩ := hn'
      refine wpAny_mono (fly_mid (what := "comprehension.variables-let-go") (α := Value) L I1 hCs (fun vs w => by rw [hd] at w; cases w) hH hC0 hCf (fun c tg0 H' ⟨⟨hc, ht⟩, sm, w⟩ => ⟨sm, tg, fun _ => ht, hc ▸ w⟩) z) (fun _ s'' hq => ?_) fun _ _ w => w
      obtain ⟨w1, w2⟩ := hq
      refine ⟨m, ?_, fun h' sb cenv _ => w2 h' sb.2 cenv⟩
      obtain ⟨o2, es2, ep2, r1, r2⟩ := hn
      rw [hCs] at r1
      cases r1
      exact ⟨_, es2, ep2, w1, r2⟩
  · cases eq
end
end DL

namespace DL
open PySem PySem.Spec PyProof.Rows L2 PySem.W

section
variable {prog : Program} {w : World} {A : Around} {E : Value → Shared → Prop} {s : Shared} {env : Env} {C : Addr} {bmB : List Value} {Bn newId initId : String} {mg : Str → Option Value} {base : Heap}
theorem own_made {x : Str} {np cpos : Pos} {args : List Expr} {Q : Value → Shared → Prop} (O : OwnCls x C bmB newId mg base) (FB : ExcBaseFacts Bn newId initId bmB) (hp : (backTo cpos (starEach args env)).any (·.1) = false)
    (h : wpAny (model prog w) A (eval (.Name x np) env) (fun f s₁ => f = .ref C ∧ wpAny (model prog w) A (evalArgs (.ref C) true (backTo cpos (starEach args env)) [])
      (fun a s₂ => a.kw = [] ∧ a.pos.length ≤ sizeLine ∧ (∀ b o, base.get? b = some o → s₂.heap.get? b = some o) ∧ ∀ h' e, Heap.MadeExcOf s₂.heap h' e (.ref C) a.pos → Q (.ref e) { s₂ with heap := h' }) E s₁) E s) :
    wpAny (model prog w) A (eval (.Call (.Name x np) args [] cpos) env) Q E s := by
  obtain ⟨tl, N, nm, qn, bs, hdct, sn, sub, ab, col, dd, k0, k1, k2, k3, k5, mN, hC, hN, hni, T⟩ := O.obj
  refine wpAny_Call_ofName (wpAny_mono h (fun f s₁ q => ?_) fun _ _ z => z)
  obtain ⟨rfl, q⟩ := q
  unfold callWith
  refine wpAny_bind (wpAny_holding (wpAny_mono q (fun as s₂ q2 => wpAny_bind (wpAny_standAt ?_)) fun _ _ z => z))
  obtain ⟨ps, kw⟩ := as
  obtain ⟨rfl, hl, bk, q2⟩ := q2
  obtain ⟨hh, g, d, tk, os⟩ := s₂
  simp only [hp]
  refine wpAny_bind (wpAny_keeperOf_exc (bk _ _ hC) ?_)
  exact wpAny_bind (wpAny_call_exc_subT (hrest := hl) FB (T.keeps bk) (bk _ _ hC) (hN.keeps bk) hni fun h' e hm => wpAny_bind (wpAny_holding (wpAny_point (wpAny_pure (q2 h' e hm)))))
end
structure TryR (X : Cx) (j : Nat) (C Y Dd : Addr) (y en d : Str) : Prop where
  bC : mroIn X.K C (.type "BaseException") = some true
  sub : mroIn X.K C (.ref Y) = some true
  gY : Gl X y
  mY : X.mg y = some (.ref Y)
  dY : (y == ("__debug__" : Str)) = false
  tY : typeIn X.K (.ref Y) = some (.type "type")
  bY : mroIn X.K Y (.type "BaseException") = some true
  gd : Gl X d
  dd : (d == ("__debug__" : Str)) = false
  bD : mroIn X.K Dd (.type "BaseException") = some true
  tD : typeIn X.K (.ref Dd) = some (.type "type")
  nd : X.N.Nodup
  hj : X.N[j]? = some en
  le : X.env.scope.names.lookup en = some .local
  ke : X.env.kindOf en = some .local
  e1 : (en == ("__debug__" : Str)) = false
section
variable {X : Cx} {pins : List (Addr × Obj)} {σ : St} {H : Hp} {s : Shared} {C Y Dd : Addr} {y en d : Str} {j : Nat} {E : XK} {bm : List Value} {Bn newId initId : String} {z0 : Addr}
theorem suite_end {oe : Obj} {ea e2 t : Addr} {σ7 : St} {H7 : Hp} {s2 : Shared} {h10 : Heap} {pos : Pos} {R : Result → Shared → Prop} (L : Lv X E) (ok : X.Ok) (T : TryR X j C Y Dd y en d) (I2 : Inv (inExc X ea oe) pins σ7 H7 s2) (sm : Same X.H₀ H7) (hv : σ7[j]? = some (some (.ref ea)))
    (hnew : s2.heap.get? e2 = none) (hk : ∀ b o, s2.heap.get? b = some o → h10.get? b = some o) (he : h10.get? e2 = some { cls := .ref Dd, data := .fields #[.ref t, .none, .ref ea, .ref ea, .bool true, .none] }) (q : E (.ref Dd) (some z0) H7)
    (hR : ∀ s3, cameBackBy (model X.prog X.w) X.A X.env X.xe (.ref e2) s3 → R (.error (.ref e2)) s3) :
    wpAny (model X.prog X.w) (X.A.mark (some (.ref ea))) (noteFrame (.ref e2) X.env) (fun _ s₃' =>
            wpAny (model X.prog X.w) (X.A.mark (some (.ref ea))) (do bindName X.env en .none; unbindBehindTheSuite X.env en pos)
              (fun _ s₄ => wpAny (model X.prog X.w) (X.A.mark (some (.ref ea))) (passOn "try.except-as" (.ref e2) X.env : Sem Flow) (fun _ _ => False) (notedBy (model X.prog X.w) (X.A.mark (some (.ref ea))) X.env fun x s' => R (.error x) s') s₄)
              (fun y s₄ => wpAny (model X.prog X.w) (X.A.mark (some (.ref ea))) (setFlight (.ref e2) none) (fun _ s₅ => (notedBy (model X.prog X.w) (X.A.mark (some (.ref ea))) X.env fun x s' => R (.error x) s') y s₅) (notedBy (model X.prog X.w) (X.A.mark (some (.ref ea))) X.env fun x s' => R (.error x) s') s₄) s₃') (notedBy (model X.prog X.w) (X.A.mark (some (.ref ea))) X.env fun x s' => R (.error x) s') { s2 with heap := h10 } := by
  have hfr : X.A.frames = some (X.env :: X.outer) := by rw [ok.frames, L.stk]
  have fsub : ∀ b ∈ frs X.outer, b ∈ frs X.stack := fun b hb => by
    rw [L.stk]; unfold frs; rw [List.filterMap_cons, L.fr]; exact List.mem_cons_of_mem _ hb
  have floc : X.env.locals ∈ frs X.stack := by
    rw [L.stk]; unfold frs; rw [List.filterMap_cons, L.fr]; exact List.mem_cons_self
  have stB : (hideAll s2.heap (frs X.stack)).StaysIn s2.heap := fun b o z => of_hideAll _ z
  have st10 : (hideAll s2.heap (frs X.stack)).StaysIn h10 := fun b o z => hk _ _ (stB b o z)
  have ff : s2.heap.FunFrames (hideAll s2.heap (frs X.stack)) X.stack := funFrames_hide I2.stack fun env henv a ha => List.mem_filterMap.mpr ⟨env, henv, ha⟩
  have ff10 : h10.FunFrames (hideAll s2.heap (frs X.stack)) X.stack := ff.of_keeps fun b o z _ => ⟨o, hk _ _ z, rfl⟩
  have b1 : ∀ b, (H7 b).isSome = true → ∃ o, (hideAll s2.heap (frs X.stack)).get? b = some o := fun b hb => by
    cases hH : H7 b with
    | none => rw [hH] at hb; cases hb
    | some x =>
      obtain ⟨o, ho⟩ := obj_at (I2.hok b x hH)
      refine ⟨o, hideAll_get _ ho fun z => ?_⟩
      have := I2.stkFree b z
      rw [hH] at this
      cases this
  have b2 : ∀ b o, s2.heap.get? b = some o → H7 b = none → b ∉ frs X.stack → (hideAll s2.heap (frs X.stack)).get? b = some o := fun b o q _ hb => hideAll_get _ q hb
  have hen : (hideAll s2.heap (frs X.stack)).get? e2 = none := hide_less _ hnew
  refine note_N (s := { s2 with heap := h10 }) (base := hideAll s2.heap (frs X.stack)) (outer := X.outer) (a0 := .ref t) hfr (by rw [← L.stk]; exact ff10) L.fr he st10 hen rfl rfl rfl fun h11 y1 y2 _ => ?_
  rw [← L.stk] at y1
  obtain ⟨U1, U2⟩ := fly_un (X := inExc X ea oe) (H' := H7) (s1 := h10) (h' := h11) (B := hideAll s2.heap (frs X.stack)) I2 (Un.kept hk) (I2.hok.kept hk) ff10 st10 y1.1 (fun b o _ => y2 b o) b1 b2 (Same.refl _)
  have I11 : Inv (inExc X ea oe) pins σ7 H7 { s2 with heap := h11 } := I2.call' (s' := { s2 with heap := h11 }) rfl U1 U2 I2.bare (fun b z => absurd z (by simp))
  have I11x := Inv.ofExc ok I11
  have y0 := y1
  obtain ⟨_, _, ff11, oe2, vs2, Tt, oT, ts, he2, hc2, hd2, v1, hn2, Te, hT, dT, t3⟩ := y0
  have nof : ∀ b o vs, h11.get? b = some o → o.data = .fields vs → b ∉ frs X.stack := fun b o vs e1 e2' z => by
    obtain ⟨_, o', ho', nf⟩ := ff11.mem z
    rw [e1] at ho'
    cases ho'
    exact nf vs e2'
  have nH : ∀ b, (hideAll s2.heap (frs X.stack)).get? b = none → H7 b = none := fun b z => by
    cases hH : H7 b with
    | none => rfl
    | some x =>
      obtain ⟨o, ho⟩ := b1 b (by rw [hH]; rfl)
      rw [z] at ho
      cases ho
  have pe2 : ∀ p ∈ (e2, oe2) :: (Tt, oT) :: pins, h11.get? p.1 = some p.2 ∧ H7 p.1 = none ∧ p.1 ≠ X.env.locals ∧ p.1 ∉ X.fs ∧ ∀ v, p.2.data ≠ .cell v := fun p hp => by
    rcases List.mem_cons.mp hp with rfl | hp
    · exact ⟨he2, nH _ hen, fun z => nof _ _ _ he2 hd2 (by rw [show e2 = X.env.locals from z]; exact floc), fun z => nof _ _ _ he2 hd2 (fsub _ z), fun v z => by rw [hd2] at z; cases z⟩
    · rcases List.mem_cons.mp hp with rfl | hp
      · exact ⟨hT, nH _ hn2, fun z => nof _ _ _ hT dT (by rw [show Tt = X.env.locals from z]; exact floc), fun z => nof _ _ _ hT dT (fsub _ z), fun v z => by rw [dT] at z; cases z⟩
      · exact I11x.pin p (List.mem_append_right _ hp)
  have I11p := I11x.pins_of pe2
  have hjl : j < σ7.length := (List.getElem?_eq_some_iff.mp hv).1
  refine wpAny_bind (wpAny_bindName (store_ok I11p T.nd T.hj (Or.inl T.le) (v := .non) rfl (fun s12 I12 => ?_) (.inr T.le)))
  unfold unbindBehindTheSuite
  refine wpAny_onRaise (unb_ok I12 T.nd T.hj (v := .non) (by rw [List.getElem?_set_self hjl]) T.le T.ke fun s13 I13 => ?_)
  have g2 := (I13.pin (e2, oe2) (List.mem_append_right _ List.mem_cons_self)).1
  have gT := (I13.pin (Tt, oT) (List.mem_append_right _ (List.mem_cons_of_mem _ List.mem_cons_self))).1
  dsimp only at g2 gT
  have ff13 : s13.heap.FunFrames (hideAll s13.heap (e2 :: Tt :: frs X.stack)) X.stack := funFrames_hide I13.stack fun env henv a ha => List.mem_cons_of_mem _ (List.mem_cons_of_mem _ (List.mem_filterMap.mpr ⟨env, henv, ha⟩))
  have st13 : (hideAll s13.heap (e2 :: Tt :: frs X.stack)).StaysIn s13.heap := fun b o z => of_hideAll _ z
  have fl13 : FlyA (hideAll s13.heap (e2 :: Tt :: frs X.stack)) X.stack e2 (.ref Dd) (.ref t) (rawInt X.env.locals) s13.heap :=
    ⟨st13, hideAll_none _ List.mem_cons_self, ff13, oe2, vs2, Tt, oT, ts, g2, hc2, hd2, v1, hideAll_none _ (List.mem_cons_of_mem _ List.mem_cons_self), Te, gT, dT, t3⟩
  refine pass_C fl13 fun h14 w1 w2 _ => ?_
  have w1 := Eq.mp (congrArg (fun l => FlyA (hideAll s13.heap (e2 :: Tt :: frs X.stack)) l e2 (.ref Dd) (.ref t) _ h14) L.stk) w1
  show wpAny _ _ (noteFrame (.ref e2) X.env) _ _ _
  refine note_C (s := { s13 with heap := h14 }) hfr L.fr w1 fun h15 x1 x2 _ => hR _ ?_
  -- it comes back from the handlers
  have x0 := x1
  obtain ⟨_, _, _, oe3, vs3, T3, oT3, ts3, he3, hc3, hd3, v3, hn3, Te3, hT3, dT3, t33⟩ := x0
  unfold cameBackBy
  refine wpAny_bind (wpAny_field (s := { s13 with heap := h15 }) he3 hd3 v3 ?_)
  rw [if_neg (show ¬ ((Value.ref T3 == Value.none) = true) by simp)]
  refine flight_C (s := { s13 with heap := h15 }) X.env.frame x1 fun h16 u1 u2 _ => ?_
  rw [L.xe]
  refine leaves_C (s := { s13 with heap := h16 }) hfr L.fr u1 fun h17 v1' v2' _ => ?_
  have up : ∀ b o, b ∈ frs X.stack → s13.heap.get? b = some o → (∀ vs, o.data ≠ .fields vs) → ∃ sl, h17.get? b = some { o with slots := sl } := fun b o _ e nf => by
    obtain ⟨l1, e1⟩ := (((w2.trans x2).trans u2).trans v2') b o e nf
    exact ⟨l1, e1⟩
  have nl : ∀ b, (H7 b).isSome = true → b ∉ e2 :: Tt :: frs X.stack := fun b hb z => by
    rcases List.mem_cons.mp z with rfl | z
    · rw [nH _ hen] at hb; cases hb
    · rcases List.mem_cons.mp z with rfl | z
      · rw [nH _ hn2] at hb; cases hb
      · rw [I13.stkFree b z] at hb; cases hb
  have c1 : ∀ b, (H7 b).isSome = true → ∃ o, (hideAll s13.heap (e2 :: Tt :: frs X.stack)).get? b = some o := fun b hb => by
    cases hH : H7 b with
    | none => rw [hH] at hb; cases hb
    | some x =>
      obtain ⟨o, ho⟩ := obj_at (I13.hok b x hH)
      exact ⟨o, hideAll_get _ ho (nl b hb)⟩
  have old : ∀ b o', X.s₀.heap.get? b = some o' → ∃ o, s2.heap.get? b = some o := fun b o' w => by
    have u : Un X.fs X.ex X.H₀ H7 X.s₀.heap s2.heap := I2.base
    cases hH : X.H₀ b with
    | some x =>
      obtain ⟨o, ho⟩ := obj_at (I2.hok b x (sm b x hH))
      exact ⟨o, ho⟩
    | none =>
      obtain ⟨sl, e1⟩ := u.any w hH (by rw [L.ex]; simp)
      exact ⟨_, e1⟩
  have c2 : ∀ b o, (∃ o', X.s₀.heap.get? b = some o') → s13.heap.get? b = some o → H7 b = none → b ∉ frs X.stack → (hideAll s13.heap (e2 :: Tt :: frs X.stack)).get? b = some o := fun b o ⟨o', w⟩ e1 _ nf => by
    obtain ⟨o2, w2⟩ := old b o' w
    refine hideAll_get _ e1 fun z => ?_
    rcases List.mem_cons.mp z with rfl | z
    · rw [hnew] at w2; cases w2
    · rcases List.mem_cons.mp z with rfl | z
      · have := hideAll_get (frs X.stack) w2 nf
        rw [hn2] at this
        cases this
      · exact nf z
  exact ⟨e2, .ref Dd, .ref t, _, H7, rfl, I13.os, I13.bare, fly_entry I13 L.stk L.fr L.ex (Un.kept fun _ _ z => z) ff13 v1'.1 up c1 c2 sm, fly_hok I13.hok st13 v1'.1 c1, v1', c1, b2_entry I13 L.stk L.fr L.ex c2, some z0, (fun z => by cases z), q⟩
theorem ld_loc {Q : Value → Shared → Prop} {F : Value → Shared → Prop} {i : Nat} {x : Str} {v : V} {pos : Pos} (I : Inv X pins σ H s) (hN : X.N[i]? = some x) (hs : X.env.scope.names.lookup x = some .local) (hk : X.env.kindOf x = some .local) (hv : σ[i]? = some (some v)) (hd : (x == ("__debug__" : Str)) = false) (h : ∀ u, RelV v u → Q u s) : wpAny (model X.prog X.w) X.A (eval (.Name x pos) X.env) Q F s := by
  obtain ⟨m, hn, hl⟩ := I.loc
  obtain ⟨u, r, l⟩ := hl i x v hN hv (Or.inl hs)
  rcases l with ⟨_, hm⟩ | ⟨z, _⟩
  · exact wpAny_Name (wpAny_loadName_local I.ok.kind hk hn hm (h u r)) hd
  · rw [hk] at z
    rcases z with z | z <;> cases z
theorem caughtR {Q : Flow → Shared → Prop} {e : Value} {s' : Shared} {i : Str} {jj : Nat} {p p3 p8 np cpos q2 q3 : Pos} (L : Lv X E) (T : TryR X j C Y Dd y en d) (O : OwnCls d Dd bm newId X.mg X.base) (FB : ExcBaseFacts Bn newId initId bm)
    (he : starEach [.Constant (.str i) jj p] X.env = (false, eval (.Constant (.str i) jj p) X.env) :: starEach [] X.env)
    (I1 : Inv X pins σ H s) (smH : Same X.H₀ H) (h : CX1 X.prog X.w X.stack H s (fun cls tg H' => (cls = .ref C ∧ tg = none) ∧ Same H H') e s') (q : ∀ H', Same X.H₀ H' → E (.ref Dd) (some z0) H') :
    wpAny (model X.prog X.w) X.A (noteFrame e X.env) (fun _ z2 => wpAny (model X.prog X.w) X.A (setFlight e none) (fun _ z3 => wpAny (model X.prog X.w) X.A (handleBy e X.env
      [.ExceptHandler (some (.Name y p3)) (some en) [.Raise (some (.Call (.Name d np) [.Constant (.str i) jj p] [] cpos)) (some (.Name en q2)) q3] p8]) Q X.xe z3) X.xe z2) X.xe s' := by
  obtain ⟨ea, cls, a0, B, H', rfl, os, bare, un, hok, fl, b1, b2, tg, ct, ⟨rfl, rfl⟩, sm⟩ := h
  have cx := ct rfl
  have fl1 := fl
  rw [L.stk] at fl1
  have hfr : X.A.frames = some (X.env :: X.outer) := by rw [I1.ok.frames, L.stk]
  have hjl : j < σ.length := by rw [I1.len]; exact (List.getElem?_eq_some_iff.mp T.hj).1
  refine note_C (fl := .none) hfr L.fr fl1 fun h4 held4 up4 cx4 => ?_
  refine flight_C (s := { s' with heap := h4 }) none held4 fun h5 fl5 up5 cx5 => ?_
  have hna : H' ea = none := by
    cases z : H' ea with
    | none => rfl
    | some x =>
      obtain ⟨o, ho⟩ := b1 ea (by rw [z]; rfl)
      rw [fl.2.1] at ho
      cases ho
  have ov : ∀ hh : Heap, FlyA B (X.env :: X.outer) ea (.ref C) a0 .none hh → s'.heap.UpToSlots hh → ∃ oe, hh.get? ea = some oe ∧ oe.cls = .ref C ∧ Inv (inExc X ea oe) pins σ H' { s' with heap := hh } := fun hh fh uh => by
    obtain ⟨U1, U2⟩ := fly_un I1 un hok fl.2.2.1 fl.1 fh.1 (fun b o _ => uh b o) b1 b2 sm
    have I5 : Inv X pins σ H' { s' with heap := hh } := I1.call' (s' := { s' with heap := hh }) os U1 U2 bare (fun b z => absurd z (by simp))
    obtain ⟨oe, vs, he, hc, hd, _⟩ := fh.first
    have nfr : ea ∉ frs X.stack := fun z => by
      rw [L.stk] at z
      obtain ⟨_, o', ho', nf⟩ := fh.2.2.1.mem z
      rw [he] at ho'
      cases ho'
      exact nf vs hd
    refine ⟨oe, he, hc, Inv.toExc I5 he hna (fun z => nfr ?_) (fun z => nfr ?_) (fun v z => by rw [hd] at z; cases z)⟩
    · rw [L.stk]; unfold frs; rw [List.filterMap_cons, L.fr]; exact z ▸ List.mem_cons_self
    · rw [L.stk]; unfold frs; rw [List.filterMap_cons, L.fr]; exact List.mem_cons_of_mem _ z
  obtain ⟨oe5, he5, hc5, I5⟩ := ov h5 fl5 (up4.trans up5)
  refine wpAny_handleBy_cons (codeAny_handlers_test ?_) (by intro z; cases z)
  refine ld_glob (X := inExc X ea oe5) I5 T.gY T.mY ?_ T.dY
  refine match_exc (K := X.K) I5.kIn he5 hc5 (cl_of T.bY) T.tY T.bY T.sub ?_
  refine codeAny_handlers_suite_as ?_
  refine flight_C (s := { s' with heap := h5 }) none fl5 fun h6 fl6 up6 cx6 => ?_
  obtain ⟨oe6, he6, hc6, I6⟩ := ov h6 fl6 (up4.trans (up5.trans up6))
  obtain ⟨oe6', va6, he6', hd6, h26⟩ := cx6 (cx5 (cx4 cx))
  rw [he6] at he6'
  cases he6'
  refine store_ok (X := inExc X ea oe6) I6 T.nd T.hj (Or.inl T.le) (v := .ref ea) rfl (fun s7 I7 => ?_) (.inr T.le)
  refine wpAny_execs_cons ?_
  rw [arm_exec_Raise]
  refine wpAny_bind (wpAny_standAt ?_)
  refine raise_from (K := X.K) (a := ea) (C := C) (D := Dd) rfl T.bC T.bD T.tD ?_
  refine wpAny_bind (own_made (base := X.base) O FB (by rw [he]; rfl) (ld_glob (X := inExc X ea oe6) I7 T.gd O.bound ⟨rfl, ?_⟩ T.dd))
  have h2 := (pa_cons (X := inExc X ea oe6) (pe_str (X := inExc X ea oe6) (x := i) (j := jj) (pos := p)) pa_nil he) cpos pins s7 _ H' (fun vs H2 => vs.length = 1 ∧ H2 = H') I7 ⟨rfl, rfl⟩
  have he' : starEach [.Constant (.str i) jj p] (inExc X ea oe6).env = (false, eval (.Constant (.str i) jj p) (inExc X ea oe6).env) :: starEach [] (inExc X ea oe6).env := he
  rw [he'] at h2
  rw [he]
  refine Calls.evalArgs_plain (wpAny_mono h2 (fun us s2 hh => ?_) fun _ _ z => z.elim)
  obtain ⟨vs, H2, I2, rv, hl, e2⟩ := hh
  subst e2
  refine ⟨rfl, ?_, I2.bk, fun h8 e2 hm => ?_⟩
  · show us.length ≤ _
    rw [← rv.length, hl]
    decide
  · refine wpAny_bind (wpAny_standAt (wpAny_pure ⟨e2, rfl, ?_⟩))
    obtain ⟨t, he8, htn, ht⟩ := hm.there
    have I8 : Inv (inExc X ea oe6) pins _ H2 { s2 with heap := h8 } := I2.kept (t' := s2.toks) hm.keeps
    have hv : (σ.set j (some (V.ref ea)))[j]? = some (some (.ref ea)) := by rw [List.getElem?_set_self hjl]
    have gea : s2.heap.get? ea = some oe6 := (I2.pin (ea, oe6) (List.mem_append_left _ List.mem_cons_self)).1
    refine wpAny_bind (ld_loc (X := inExc X ea oe6) I8 T.hj T.le T.ke hv T.e1 fun u ru => wpAny_bind (wpAny_standAt (wpAny_pure ?_)))
    have ru : u = Value.ref ea := ru
    subst ru
    refine ⟨oe6, va6, t, rfl, fun z => ?_, hm.keeps _ _ gea, hc6, hd6, h26, he8, fun h' k b o hb => ?_, fun h10 oth he10 => ?_⟩
    · rw [z, hm.new] at gea
      cases gea
    · have kb := I2.kIn b o hb
      exact k b o (fun z => by rw [z, hm.new] at kb; cases kb) (hm.keeps _ _ kb)
    · refine suite_end (X := X) (s2 := s2) (t := t) (R := fun r s₂ => match r with | .error x => cameBackBy (model X.prog X.w) X.A X.env X.xe x s₂ | .ok _ => True) L I1.ok T I2 (smH.trans sm) hv hm.new (fun b o eb => ?_) he10 (q _ (smH.trans sm)) fun s3 z => z
      rw [oth b fun z => by rw [z, hm.new] at eb; cases eb]
      exact hm.keeps _ _ eb
theorem ds_tryR (j : Nat) {x : Str} {n m : Nat} {ps : List Str} {F : Fx} {e0 : Expr} {es : List Expr} {t : DAn} {i : Str} {jj : Nat} {p pos pos2 p1 p3 p8 p9 np cpos q2 q3 : Pos} (L : Lv X E) (O : OwnCls d Dd bm newId X.mg X.base) (FB : ExcBaseFacts Bn newId initId bm) (T : TryR X j C Y Dd y en d) (Ca : CalX X.prog X.w X.K X.mg X.base n x ps F (.ref C) none) (hr : Room m X.A) (hn : n ≤ m) (hg : Gl X x) (ha : DA { X with xe := fun _ _ => False } (e0 :: es) t)
    (hdb : (x == ("__debug__" : Str)) = false := by decide) (he : starEach (e0 :: es) X.env = (false, eval e0 X.env) :: starEach es X.env := by rfl) (hpl : (backTo pos (starEach es X.env)).any (·.1) = false := by rfl) (hs : swapsWith (.Call (.Name x p) (e0 :: es) [] pos) none pos2.line X.env = pure false := by rfl)
    (he2 : starEach [.Constant (.str i) jj p1] X.env = (false, eval (.Constant (.str i) jj p1) X.env) :: starEach [] X.env := by rfl) :
    DS X (fun H => E (.ref Dd) (some z0) H) (.Try [.Expr (.Call (.Name x p) (e0 :: es) [] pos) pos2] [.ExceptHandler (some (.Name y p3)) (some en) [.Raise (some (.Call (.Name d np) [.Constant (.str i) jj p1] [] cpos)) (some (.Name en q2)) q3] p8] [] [] p9) (sTryR j F t) := fun pins s σ H D I ⟨B, δ, o, sB, rp, e, q⟩ => by
  obtain ⟨fa, fd, F1, F2, F3, F4, _⟩ := Ca.ex
  unfold sTryR at e
  split at e
  · rename_i hj0
    obtain ⟨rs, e1, e⟩ := bs e
    obtain ⟨oo, e2, e⟩ := ms e
    refine wpAny_Try_except (wpAny_execs_cons (wpAny_Expr_any ?_ I.quiet hs))
    refine wpAny_Call_Name_kw (ld_glob I hg F4 ?_ hdb)
    have hA := ha pos pins s σ H (fun vs H1 => Same H H1 ∧ IsRs X.K B H H1 rs vs) (inv_xe_to I) ⟨B, δ, rs, rp, e1, fun vs H1 g1 i1 => ⟨g1, i1⟩⟩
    refine PySem.W.callWith_K (h₀ := X.base) I.ok.mod.kin F3 (wpAny_mono hA (fun us s1 hq => ?_) fun e s' z => z.elim) he hpl
    obtain ⟨vs, H1, I1, rv, g1, i1⟩ := hq
    have I1 := inv_xe_of I1
    have ao := args_of (rp.same.trans g1) i1
    have sp : spX X.K F (.ref C) none vs H1 (fun v H2 => (∃ r, oo = some r) ∧ Same H1 H2) (fun cls tg H2 => oo = none ∧ (cls = .ref C ∧ tg = none) ∧ Same H1 H2) := ⟨rs.map R.arg, oo, ao, e2, fun r er v H2 g2 _ => ⟨⟨r, er⟩, g2⟩, fun er H2 g2 => ⟨er, ⟨rfl, rfl⟩, g2⟩⟩
    have hl : us.length = ps.length := by rw [← rv.length]; exact F1.len _ _ _ _ sp
    have hb := F2 s1 us I1.kIn (by simpa using hl)
    rw [List.append_nil] at hb
    refine ⟨I1.kIn, wpAny_call (codeAny_mono (F1.run X.A X.stack s1 H1 ⟨[] ++ us, []⟩ us vs _ _ (hr.mono hn) I1.env0 hb rv sp) fun r s' hq => ?_)⟩
    cases r with
    | error ex =>
      have hq : CX1 X.prog X.w X.stack H1 s1 (fun cls tg H2 => oo = none ∧ (cls = .ref C ∧ tg = none) ∧ Same H1 H2) ex s' := hq
      obtain ⟨ea, cls, a0, Bh, H2, z1, z2, z3, z4, z5, z6, z7, z8, tgg, zc, eo, z9, z10⟩ := hq
      subst eo
      dsimp only at e
      subst e
      exact caughtR L T O FB he2 I1 ((sB.trans rp.same).trans g1) ⟨ea, cls, a0, Bh, H2, z1, z2, z3, z4, z5, z6, z7, z8, tgg, zc, z9, z10⟩ q
    | ok fl =>
      cases fl with
      | ret u =>
        obtain ⟨v, H2, I2, _, ⟨r, eo⟩, g2⟩ := I1.after hq
        subst eo
        dsimp only at e
        subst e
        exact wpAny_execs_nil (wpAny_execs_nil ⟨σ, H2, I2, q B σ H2 (Same.refl _) (Same.tk (g1.trans g2)) (rp.grow (g1.trans g2))⟩)
      | next => exact False.elim hq
      | brk => exact False.elim hq
      | cont => exact False.elim hq
  · cases e
end

noncomputable def noU (h : Heap) : Value → Bool
  | .ref b => match h.get? b with
    | some o => match o.data with
      | .seq its _ => its.isEmpty
      | _ => false
    | none => false
  | _ => false
theorem noU_is {X : Cx} {pins : List (Addr × Obj)} {σ : St} {H : Hp} {s : Shared} {A : Around} {a : Addr} {d : D} {v : V} {u : Value} (I : Inv X pins σ H s) (hu : A.units < cLine) (p : s.heap.IsTuple a #[]) (ok : okNo d = true) (h : Has X.K H d v) (r : RelV v u) : noU s.heap u = isNo d ∧ SeqAt.EqAt A s u (.ref a) (isNo d) := by
  cases d with
  | non =>
    simp only [Has] at h
    subst h
    cases (show u = Value.none from r)
    exact ⟨rfl, SeqAt.EqAt.none_tuple p hu⟩
  | tup l =>
    simp only [Has] at h
    obtain ⟨b, xs, rfl, s1, l1⟩ := h
    cases (show u = Value.ref b from r)
    obtain ⟨its, rv, p1, _⟩ := I.tuple s1
    have n1 := l1.len
    have m1 := rv.length
    have p1 : s.heap.IsTuple b its.toArray := p1
    have en : isNo (.tup l) = its.isEmpty := by
      cases l with
      | nil =>
        have : its = [] := List.length_eq_zero_iff.mp (by rw [← m1, ← n1]; rfl)
        rw [this]; rfl
      | cons y l =>
        cases its with
        | nil => exact nomatch (show (y :: l).length = 0 from n1.trans m1)
        | cons z q => rfl
    rw [en]
    obtain ⟨o, ho, hc, n, hd⟩ := p1
    refine ⟨by show (match s.heap.get? b with | some o => _ | none => _) = _; rw [ho]; dsimp only; rw [hd]; cases its <;> rfl, ?_⟩
    by_cases hab : b = a
    · subst hab
      obtain ⟨o2, ho2, hc2, n2, hd2⟩ := p
      rw [ho] at ho2
      cases ho2
      rw [hd] at hd2
      injection hd2 with z1 z2
      have : its = [] := by simpa using z1
      rw [this]
      exact SeqAt.EqAt.same _
    · have q := SeqAt.RcAt.tuples (A := A) (s := s) (e := fun _ => true) (show s.heap.IsTuple b its.toArray from ⟨o, ho, hc, n, hd⟩) p hu (fun j _ h2 => absurd h2 (by simp))
      have e : (((List.range (min its.toArray.size (#[] : Array Value).size)).all fun _ => true) && (its.toArray.size == (#[] : Array Value).size)) = its.isEmpty := by cases its <;> simp
      rw [e] at q
      exact SeqAt.EqAt.of_refs hab q
  | int i => cases ok
  | str x => cases ok
  | bl x => cases ok
  | fu x => cases ok
theorem any_no {X : Cx} {pins : List (Addr × Obj)} {σ : St} {H : Hp} {s : Shared} {A : Around} {a : Addr} (I : Inv X pins σ H s) (hu : A.units < cLine) (p : s.heap.IsTuple a #[]) : ∀ {ds : List D} {ys : List V} {its : List Value}, ds.all okNo = true → HasL X.K H ds ys → Vals ys its →
    its.any (noU s.heap) = ds.any isNo ∧ ∀ w ∈ its, SeqAt.EqAt A s w (.ref a) (noU s.heap w)
  | [], ys, its, _, h, r => by
    simp only [HasL] at h
    subst h
    cases r
    exact ⟨rfl, fun w hw => by cases hw⟩
  | d :: ds, ys, its, ok, h, r => by
    simp only [HasL] at h
    obtain ⟨x, z, rfl, h1, h2⟩ := h
    cases r with
    | cons r1 r2 =>
      rw [List.all_cons, Bool.and_eq_true] at ok
      obtain ⟨i1, i2⟩ := any_no I hu p ok.2 h2 r2
      obtain ⟨j1, j2⟩ := noU_is (A := A) I hu p ok.1 h1 r1
      refine ⟨by rw [List.any_cons, List.any_cons, i1, j1], fun w hw => ?_⟩
      rcases List.mem_cons.mp hw with rfl | hw
      · rw [j1]; exact j2
      · exact i2 w hw
theorem o_in0 {X : Cx} (hu : X.A.units + 64 < cLine) : OpR X (compareOp .In) (r2R X.K gIn0) := by
  intro pins s σ H x y v u Q I rx ry h
  obtain ⟨r1, r2, r, h1, h2, e, q⟩ := h
  unfold gIn0 at e
  split at e
  · rename_i ds
    split at e
    · rename_i al
      cases e
      have h1 : Has X.K H (.tup []) x := h1
      have h2 : Has X.K H (.tup ds) y := h2
      simp only [Has] at h1 h2
      obtain ⟨a, xs, rfl, s1, l1⟩ := h1
      obtain ⟨b, ys, rfl, s2, l2⟩ := h2
      cases (show v = Value.ref a from rx)
      cases (show u = Value.ref b from ry)
      obtain ⟨its, rv, p, _⟩ := I.tuple s1
      obtain ⟨its2, rv2, p2, _⟩ := I.tuple s2
      have n1 := l1.len
      have m1 := rv.length
      have z : its = [] := List.length_eq_zero_iff.mp (by rw [← m1, ← n1]; rfl)
      subst z
      obtain ⟨q1, q2⟩ := any_no (A := X.A.in1) I (by show X.A.units + 1 < cLine; omega) (show s.heap.IsTuple a #[] from p) al l2 rv2
      refine SeqAt.in_tupleAt (noU s.heap) (show s.heap.IsTuple b its2.toArray from p2) (fun w hw => q2 w (by simpa using hw)) ⟨.bl _, H, I, rfl, ?_⟩
      rw [show its2.toArray.any (noU s.heap) = its2.any (noU s.heap) by simp, q1]
      exact q _ H (Same.refl _) (by simp only [Out, Has])
    · cases e
  · cases e

structure DSi (X : Cx) (W : Hp → Prop) (st : Stmt) (t : DSn) : Prop where
  is : DS X W st t
structure DSsi (X : Cx) (W : Hp → Prop) (ss : List Stmt) (t : DSn) : Prop where
  is : DSs X W ss t
section
variable {X : Cx} {W : Hp → Prop} {st : Stmt} {rest : List Stmt} {u v : DSn}
theorem to_i (h : DS X W st u) : DSi X W st u := ⟨h⟩
theorem to_is (h : DSs X W rest u) : DSsi X W rest u := ⟨h⟩
theorem of_is (h : DSsi X W rest u) : DSs X W rest u := h.is
theorem dsi_cons (h1 : DSi X W st u) (h2 : DSsi X W rest v) : DSsi X W (st :: rest) (sSeq u v) := ⟨ds_cons h1.is h2.is⟩
theorem dsi_strs (i : Nat) {x : Str} {es : List Expr} {p pl pos : Pos} (hN : X.N.Nodup) (xs : List Str) (h : strsOf es = some xs) (hi : X.N[i]? = some x := by rfl) (hx : Loc X.env.scope x := by first | exact Or.inl rfl | exact Or.inr rfl)
    (hf : X.fn x = true ∨ X.env.scope.names.lookup x = some .local := by first | exact .inl rfl | exact .inr rfl) : DSi X W (.Assign [.Name x p] (.List es pl) pos) (sSet i (dLst (aStrs xs))) := ⟨ds_set i hN (de_lst (da_strs xs h)) hi hx rfl hf⟩
end
end DL

namespace Law
section
open PySem DL

noncomputable def B_look_at_rule : DSn := (sSeq (sIf (qNot (qB (dCh (gI kLe) (gI kLt) (dC (.int 0)) (d2 gIx (dVar 2) (dC (.int 0))) (dVar 1)))) sRaise sNx) (sSeq (sIf (qNot (qB (dCh (gI kLe) (gI kLe) (dC (.int 0)) (d2 gIx (dVar 2) (dC (.int 1))) (dC (.int 1))))) sRaise sNx) (sIf (qNot (qB (dCh (gI kLe) (gI kLt) (dC (.int 0)) (d2 gIx (dVar 2) (dC (.int 2))) (dVar 0)))) sRaise sNx)))
noncomputable def F_look_at_rule : Fx := fnX 3 3 B_look_at_rule
noncomputable def L1_looked : DSn := (sForV 5 4 (sExX F_look_at_rule (aCons (dVar 1) (aCons (dVar 2) (aCons (dVar 5) aNil)))))
noncomputable def B_looked : DSn := (sSeq (sSet 1 (d2 gIx (dVar 0) (dC (.int 0)))) (sSeq (sSet 2 (d2 gIx (dVar 0) (dC (.int 1)))) (sSeq (sSet 3 (d2 gIx (dVar 0) (dC (.int 2)))) (sSeq (sIf (qNot (qB (dCh (gI kLe) (gI kLe) (dC (.int 1)) (dVar 1) (dC (.int 6))))) sRaise sNx) (sSeq (sIf (qNot (qB (dCh (gI kLe) (gI kLe) (dC (.int 2)) (dVar 2) (dC (.int 4))))) sRaise sNx) (sSeq (sIf (qB (d2 gNe (dB gLen (aCons (dVar 3) aNil)) (d2 (gI kMul) (dVar 1) (dVar 2)))) sRaise sNx) (sSeq (sSet 4 (dComp [] (iAny (dVar 3)) (qB (d2 (g2N gNotN) (dVar 0) (dC .non))) (dVar 0))) (sSeq L1_looked (sRet (dB gLen (aCons (dVar 4) aNil)))))))))))
noncomputable def F_looked : Fx := fnX 1 6 B_looked
noncomputable def B_figure : DSn := (sSeq (sIf (qOr (qB (d2 gNe (dB gLenS (aCons (dVar 0) aNil)) (dC (.int 1)))) (qB (d2 gNotInS (dVar 0) (dC (.str "0123456789"))))) sRaise sNx) (sRet (d2 gIdxS (dC (.str "0123456789")) (dVar 0))))
noncomputable def F_figure : Fx := fnX 1 1 B_figure
noncomputable def B_rule_of : DSn := (sSeq (sIf (qB (d2 gEq (dVar 0) (dC (.str "-")))) (sRet (dC .non)) sNx) (sSeq (sIf (qOr (qB (d2 gNe (dB gLenS (aCons (dVar 0) aNil)) (dC (.int 3)))) (qB (d2 gNotInS (d2 gIxS (dVar 0) (dC (.int 1))) (dC (.str "<>"))))) sRaise sNx) (sRetX (xTup (aConsX (xCall F_figure (aCons (d2 gIxS (dVar 0) (dC (.int 0))) aNil)) (aConsX (xOf (d2 gIdxS (dC (.str "<>")) (d2 gIxS (dVar 0) (dC (.int 1))))) (aConsX (xCall F_figure (aCons (d2 gIxS (dVar 0) (dC (.int 2))) aNil)) aNilX)))))))
noncomputable def F_rule_of : Fx := fnX 1 1 B_rule_of
noncomputable def B_read : DSn := (sSeq (sSet 1 (d2 gSplitS (dVar 0) (dC (.str " ")))) (sSeq (sIf (qOr (qB (d2 (gI kLt) (dB gLenS (aCons (dVar 1) aNil)) (dC (.int 2)))) (qNot (qB (d2 gEndS (d2 gIxS (dVar 1) (dC (.int 1))) (dC (.str ":")))))) sRaise sNx) (sSeq (sSetX 2 (xCall F_figure (aCons (d2 gIxS (dVar 1) (dC (.int 0))) aNil))) (sSeq (sSetX 3 (xCall F_figure (aCons (dSlS (d2 gIxS (dVar 1) (dC (.int 1))) none (some (d1 gNeg (dC (.int 1))))) aNil))) (sSeq (sSetX 4 (xTup (aConsX (xOf (dVar 2)) (aConsX (xOf (dVar 3)) (aConsX (xB gTuple (aConsX (xComp [] (iAny (dSlS (dVar 1) (some (dC (.int 2))) none)) (xCall F_rule_of (aCons (dVar 0) aNil))) aNilX)) aNilX))))) (sSeq (sTryR 5 F_looked (aCons (dVar 4) aNil)) (sRetV 4)))))))
noncomputable def F_read : Fx := fnX 1 6 B_read
noncomputable def B_law_cell_at : DSn := (sSeq (sIf (qB (d2 (gI kLt) (dVar 1) (dB gLen (aCons (dVar 0) aNil)))) (sRet (d2 gIx (dVar 0) (dVar 1))) sNx) (sRet (dC (.int 0))))
noncomputable def F_law_cell_at : Fn := fn 2 2 B_law_cell_at
noncomputable def B_law_pick : DSn := (sSeq (sIf (qB (d2 (gI kLt) (dVar 1) (dB gLen (aCons (dVar 0) aNil)))) (sRet (d2 gIx (dVar 0) (dVar 1))) sNx) (sRet (d2 (gI kDiv) (d2 (gI kMod) (d2 (gI kMul) (d2 gAdd (d2 gAdd (dCall F_law_cell_at (aCons (dVar 0) (aCons (dC (.int 0)) aNil))) (d2 (gI kMul) (dC (.int 7)) (dVar 1))) (dC (.int 3))) (dC (.int 48271))) (dC (.int 2147483647))) (dC (.int 13)))))
noncomputable def F_law_pick : Fn := fn 2 2 B_law_pick
noncomputable def B_law_whole : DSn := (sRet (dAnd (d1 (gIs .int) (dVar 0)) (dNot (d1 (gIs .bool) (dVar 0)))))
noncomputable def F_law_whole : Fn := fn 1 1 B_law_whole
noncomputable def B_law_mix : DSn := (sRet (d2 (gI kMod) (d2 gAdd (d2 (gI kMul) (dVar 0) (dC (.int 48271))) (d2 (gI kMul) (dVar 1) (dC (.int 40692)))) (dC (.int 2147483647))))
noncomputable def F_law_mix : Fn := fn 2 2 B_law_mix
noncomputable def L1_law_machine : DSn := (sSeq (sSet 6 (dCall F_law_mix (aCons (dCall F_law_pick (aCons (dVar 0) (aCons (d2 gAdd (dVar 1) (dVar 5)) aNil))) (aCons (dVar 5) aNil)))) (sIf (qB (d2 gEq (d2 (gI kMod) (dVar 6) (dC (.int 5))) (dC (.int 0)))) (sApp 4 (dC .non)) (sApp 4 (dTup (aCons (d2 (gI kMod) (d2 (gI kDiv) (dVar 6) (dC (.int 5))) (dVar 3)) (aCons (d2 (gI kMod) (d2 (gI kDiv) (dVar 6) (dC (.int 64))) (dC (.int 2))) (aCons (d2 (gI kMod) (d2 (gI kDiv) (dVar 6) (dC (.int 512))) (dVar 2)) aNil)))))))
noncomputable def L2_law_machine : DSn := (sFor 5 (iTo (d2 (gI kMul) (dVar 2) (dVar 3))) L1_law_machine)
noncomputable def B_law_machine : DSn := (sSeq (sSet 4 (dLst aNil)) (sSeq L2_law_machine (sRet (dTup (aCons (dVar 2) (aCons (dVar 3) (aCons (dB gTuple (aCons (dVar 4) aNil)) aNil)))))))
noncomputable def F_law_machine : Fn := fn 4 7 B_law_machine
noncomputable def B_law_same (F : Fn) : DSn := (sSeq (sIf (qB (d1 (gIs .tuple) (dVar 1))) (sSeq (sIf (qOr (qNot (qB (d1 (gIs .tuple) (dVar 0)))) (qB (d2 gNe (dB gLen (aCons (dVar 0) aNil)) (dB gLen (aCons (dVar 1) aNil))))) (sRet (dC (.bl false))) sNx) (sRet (dB gAllL (aCons (dComp [0, 1] (iTo (dB gLen (aCons (dVar 1) aNil))) qYes (dCall F (aCons (d2 gIx (dVar 1) (dVar 0)) (aCons (d2 gIx (dVar 2) (dVar 0)) aNil)))) aNil)))) sNx) (sSeq (sIf (qOr (qB (d2 (g2N gIsN) (dVar 1) (dC .non))) (qB (d1 (gIs .str) (dVar 1)))) (sRet (d2 gEq (dVar 0) (dVar 1))) sNx) (sRet (dAnd (dCall F_law_whole (aCons (dVar 0) aNil)) (d2 gEq (dVar 0) (dVar 1))))))
noncomputable def F_law_same : Nat → Fn
  | 0 => fun _ => none
  | n + 1 => fn 2 2 (B_law_same (F_law_same n))
noncomputable def B_law_figure : DSn := (sSeq (sIf (qAnd (qB (d2 gEq (dB gLenS (aCons (dVar 0) aNil)) (dC (.int 1)))) (qB (d2 gInS (dVar 0) (dC (.str "0123456789"))))) (sRet (d2 gFindS (dC (.str "0123456789")) (dVar 0))) sNx) (sRet (d1 gNeg (dC (.int 1)))))
noncomputable def F_law_figure : Fn := fn 1 1 B_law_figure
noncomputable def B_law_rule : DSn := (sSeq (sIf (qB (d2 gEq (dVar 0) (dC (.str "-")))) (sRet (dC .non)) sNx) (sSeq (sIf (qOr (qB (d2 gNe (dB gLenS (aCons (dVar 0) aNil)) (dC (.int 3)))) (qB (d2 gNotInS (d2 gIxS (dVar 0) (dC (.int 1))) (dC (.str "<>"))))) (sRet (dTup aNil)) sNx) (sSeq (sSet 3 (dTup (aCons (dCall F_law_figure (aCons (d2 gIxS (dVar 0) (dC (.int 0))) aNil)) (aCons (d2 gFindS (dC (.str "<>")) (d2 gIxS (dVar 0) (dC (.int 1)))) (aCons (dCall F_law_figure (aCons (d2 gIxS (dVar 0) (dC (.int 2))) aNil)) aNil))))) (sSeq (sIf (qOr (qNot (qB (dCh (gI kLe) (gI kLt) (dC (.int 0)) (d2 gIxS (dVar 3) (dC (.int 0))) (dVar 2)))) (qNot (qB (dCh (gI kLe) (gI kLt) (dC (.int 0)) (d2 gIxS (dVar 3) (dC (.int 2))) (dVar 1))))) (sRet (dTup aNil)) sNx) (sRetV 3)))))
noncomputable def F_law_rule : Fn := fn 3 4 B_law_rule
noncomputable def B_law_due : DSn := (sSeq (sSet 1 (d2 gSplitS (dVar 0) (dC (.str " ")))) (sSeq (sIf (qOr (qB (d2 (gI kLt) (dB gLenS (aCons (dVar 1) aNil)) (dC (.int 2)))) (qOr (qB (d2 gNe (dB gLenS (aCons (d2 gIxS (dVar 1) (dC (.int 1))) aNil)) (dC (.int 2)))) (qB (d2 gNe (d2 gIxS (d2 gIxS (dVar 1) (dC (.int 1))) (dC (.int 1))) (dC (.str ":")))))) (sRet (dC .non)) sNx) (sSeq (sSet 2 (dCall F_law_figure (aCons (d2 gIxS (dVar 1) (dC (.int 0))) aNil))) (sSeq (sSet 3 (dCall F_law_figure (aCons (d2 gIxS (d2 gIxS (dVar 1) (dC (.int 1))) (dC (.int 0))) aNil))) (sSeq (sIf (qOr (qNot (qB (dCh (gI kLe) (gI kLe) (dC (.int 1)) (dVar 2) (dC (.int 6))))) (qOr (qNot (qB (dCh (gI kLe) (gI kLe) (dC (.int 2)) (dVar 3) (dC (.int 4))))) (qB (d2 gNe (d2 (gI kSub) (dB gLenS (aCons (dVar 1) aNil)) (dC (.int 2))) (d2 (gI kMul) (dVar 2) (dVar 3)))))) (sRet (dC .non)) sNx) (sSeq (sSet 4 (dB gTuple (aCons (dComp [2, 3] (iAny (dSlS (dVar 1) (some (dC (.int 2))) none)) qYes (dCall F_law_rule (aCons (dVar 0) (aCons (dVar 1) (aCons (dVar 2) aNil))))) aNil))) (sSeq (sIf (qB (d2 gIn0 (dTup aNil) (dVar 4))) (sRet (dC .non)) sNx) (sRet (dTup (aCons (dVar 2) (aCons (dVar 3) (aCons (dVar 4) aNil))))))))))))
noncomputable def F_law_due : Fn := fn 1 5 B_law_due
noncomputable def L1_law_text : DSn := (sIf (qB (d2 (g2N gIsN) (dVar 2) (dC .non))) (sSet 1 (d2 gAddS (dVar 1) (dC (.str " -")))) (sSeq (sSet 3 (d2 gAddS (d2 gAddS (dB gStr (aCons (d2 gIxS (dVar 2) (dC (.int 0))) aNil)) (d2 gIxS (dC (.str "<>")) (d2 gIxS (dVar 2) (dC (.int 1))))) (dB gStr (aCons (d2 gIxS (dVar 2) (dC (.int 2))) aNil)))) (sSet 1 (d2 gAddS (d2 gAddS (dVar 1) (dC (.str " "))) (dVar 3)))))
noncomputable def L2_law_text : DSn := (sFor 2 (iSeq (d2 gIxS (dVar 0) (dC (.int 2)))) L1_law_text)
noncomputable def B_law_text : DSn := (sSeq (sSet 1 (d2 gAddS (d2 gAddS (d2 gAddS (dB gStr (aCons (d2 gIxS (dVar 0) (dC (.int 0))) aNil)) (dC (.str " "))) (dB gStr (aCons (d2 gIxS (dVar 0) (dC (.int 1))) aNil))) (dC (.str ":")))) (sSeq L2_law_text (sRetV 1)))
noncomputable def F_law_text : Fn := fn 1 4 B_law_text
noncomputable def B_law_odd : DSn := (sSeq (sSet 1 (dLst (aStrs ["", " ", ":", "1 2", "1 2:", "1 2: - ", "1 2: -  -", "0 2:", "7 2: - - - - - - - - - - - - - -", "1 1: -"]))) (sSeq (sSet 1 (d2 gAdd (dVar 1) (dLst (aCons (dC (.str "01 2: - -")) (aCons (dC (.str "1 2: - - -")) aNil))))) (sRet (d2 gIxS (dVar 1) (d2 (gI kMod) (dVar 0) (dC (.int 12)))))))
noncomputable def F_law_odd : Fn := fn 1 2 B_law_odd
noncomputable def B_law_worded : DSn := (sSeq (sSet 3 (d2 gSplitS (dVar 0) (dC (.str " ")))) (sSeq (sSet 4 (dLst (aStrs ["", "--", "1", "1>", ">1", "1>0>", "1-0", "01>0", "1>00", "a>0", "1>a", "+>0", "1>_", "4>0", "1>6", "9<9"]))) (sSeq (sSet 5 (d2 gAdd (dC (.int 2)) (d2 (gI kMod) (dVar 1) (d2 (gI kSub) (dB gLenS (aCons (dVar 3) aNil)) (dC (.int 2)))))) (sSeq (sPut 3 (dVar 5) (d2 gIxS (dVar 4) (d2 (gI kMod) (dVar 2) (dC (.int 16))))) (sRet (d2 gJoinS (dC (.str " ")) (dVar 3)))))))
noncomputable def F_law_worded : Fn := fn 3 6 B_law_worded
noncomputable def B_law_refused : DSn := (sSeq (sSet 1 (dC (.bl false))) (sSeq (sTryE 1 2 F_read (aCons (dVar 0) aNil)) (sRetV 1)))
noncomputable def F_law_refused : Fn := fn 1 3 B_law_refused
noncomputable def B_law : DSn := (sSeq (sSet 1 (dCall F_law_machine (aCons (dVar 0) (aCons (dC (.int 4)) (aCons (d2 gAdd (dC (.int 1)) (d2 (gI kMod) (dCall F_law_cell_at (aCons (dVar 0) (aCons (dC (.int 0)) aNil))) (dC (.int 6)))) (aCons (d2 gAdd (dC (.int 2)) (d2 (gI kMod) (d2 (gI kDiv) (dCall F_law_cell_at (aCons (dVar 0) (aCons (dC (.int 0)) aNil))) (dC (.int 6))) (dC (.int 3)))) aNil)))))) (sSeq (sSet 2 (dCall F_law_text (aCons (dVar 1) aNil))) (sSeq (sSet 3 (d2 (gI kMod) (dCall F_law_cell_at (aCons (dVar 0) (aCons (dC (.int 1)) aNil))) (dC (.int 40)))) (sSeq (sSet 4 (d2 (gI kMod) (dCall F_law_cell_at (aCons (dVar 0) (aCons (dC (.int 2)) aNil))) (d2 gAdd (dB gLenS (aCons (dVar 2) aNil)) (dC (.int 1))))) (sSeq (sSet 5 (d2 gIxS (dC (.str " :<>-01469_+.a")) (d2 (gI kMod) (dCall F_law_cell_at (aCons (dVar 0) (aCons (dC (.int 3)) aNil))) (dC (.int 14))))) (sSeq (sIf (qB (d2 (gI kLt) (dVar 3) (dC (.int 8)))) (sSet 2 (d2 gAddS (d2 gAddS (dSlS (dVar 2) none (some (dVar 4))) (dVar 5)) (dSlS (dVar 2) (some (dVar 4)) none))) (sIf (qB (d2 (gI kLt) (dVar 3) (dC (.int 14)))) (sSet 2 (d2 gAddS (d2 gAddS (dSlS (dVar 2) none (some (dVar 4))) (dVar 5)) (dSlS (dVar 2) (some (d2 gAdd (dVar 4) (dC (.int 1)))) none))) (sIf (qB (d2 (gI kLt) (dVar 3) (dC (.int 20)))) (sSet 2 (d2 gAddS (dSlS (dVar 2) none (some (dVar 4))) (dSlS (dVar 2) (some (d2 gAdd (dVar 4) (dC (.int 1)))) none))) (sIf (qB (d2 (gI kLt) (dVar 3) (dC (.int 25)))) (sSet 2 (dCall F_law_worded (aCons (dVar 2) (aCons (dCall F_law_cell_at (aCons (dVar 0) (aCons (dC (.int 2)) aNil))) (aCons (dCall F_law_cell_at (aCons (dVar 0) (aCons (dC (.int 3)) aNil))) aNil))))) (sIf (qB (d2 (gI kLt) (dVar 3) (dC (.int 29)))) (sSet 2 (dCall F_law_odd (aCons (dCall F_law_cell_at (aCons (dVar 0) (aCons (dC (.int 3)) aNil))) aNil))) sNx))))) (sSeq (sSet 6 (dCall F_law_due (aCons (dVar 2) aNil))) (sSeq (sIf (qB (d2 (g2N gIsN) (dVar 6) (dC .non))) (sRet (dAnd (dCall F_law_refused (aCons (dVar 2) aNil)) (dCall F_law_refused (aCons (dVar 2) aNil)))) sNx) (sRet (dCall (F_law_same 4) (aCons (dCallX F_read (aCons (dVar 2) aNil)) (aCons (dVar 6) aNil))))))))))))
noncomputable def F_law : Fn := fn 1 7 B_law

noncomputable def cellZ (ns : List Int) (k : Int) : Int := ns.getD k.toNat 0
theorem e_cell (ns : List Int) (k : Int) (hk : 0 ≤ k) : F_law_cell_at [.l .bor (ns.map .int), .d (.int k)] = some (.d (.int (cellZ ns k))) := by
  unfold F_law_cell_at B_law_cell_at cellZ
  by_cases h : k < ns.length
  · have h2 : k.toNat < ns.length := by omega
    simp [dVar, dC, d1, d2, gI, kSub, kMul, kDiv, kMod, kPow, kLt, kLe, kGt, kGe, eqK, gEq, gNe, isN, gIsN, gNotN, gNeg, dCh, qB, qAnd, qOr, qNot, qYes, dAnd, dOr, dNot, dIf, gIx, oI, dSl, aNil, aCons, plainD, dTup, dLst, gAdd, R.arg, dCall, gLen, gTuple, gList, gMax, gMin, isT, gIs, dB, see, keepR, sSet, retR, sRet, sRetV, sRetN, sNx, sBrk, sCont, sSeq, sIf, sEx, sApp, sPut, g2N, gAllL, fn, Fl.mine, at0, at1, at2, at3, sExt, gIsL, gInt, dFu, dCallV, gIn, gNotIn, gIdx, gSum, h, h2, atP_int _ _ hk]
  · have h2 : ns.length ≤ k.toNat := by omega
    simp [dVar, dC, d1, d2, gI, kSub, kMul, kDiv, kMod, kPow, kLt, kLe, kGt, kGe, eqK, gEq, gNe, isN, gIsN, gNotN, gNeg, dCh, qB, qAnd, qOr, qNot, qYes, dAnd, dOr, dNot, dIf, gIx, oI, dSl, aNil, aCons, plainD, dTup, dLst, gAdd, R.arg, dCall, gLen, gTuple, gList, gMax, gMin, isT, gIs, dB, see, keepR, sSet, retR, sRet, sRetV, sRetN, sNx, sBrk, sCont, sSeq, sIf, sEx, sApp, sPut, g2N, gAllL, fn, Fl.mine, at0, at1, at2, at3, sExt, gIsL, gInt, dFu, dCallV, gIn, gNotIn, gIdx, gSum, h, h2]
noncomputable def pickZ (ns : List Int) (k : Int) : Int := if k < ns.length then ns.getD k.toNat 0 else (cellZ ns 0 + 7 * k + 3) * 48271 % 2147483647 / 13
theorem e_pick (ns : List Int) (k : Int) (hk : 0 ≤ k) : F_law_pick [.l .bor (ns.map .int), .d (.int k)] = some (.d (.int (pickZ ns k))) := by
  have e0 := e_cell ns 0 (by omega)
  unfold F_law_pick B_law_pick pickZ
  by_cases h : k < ns.length
  · have h2 : k.toNat < ns.length := by omega
    simp [dVar, dC, d1, d2, gI, kSub, kMul, kDiv, kMod, kPow, kLt, kLe, kGt, kGe, eqK, gEq, gNe, isN, gIsN, gNotN, gNeg, dCh, qB, qAnd, qOr, qNot, qYes, dAnd, dOr, dNot, dIf, gIx, oI, dSl, aNil, aCons, plainD, dTup, dLst, gAdd, R.arg, dCall, gLen, gTuple, gList, gMax, gMin, isT, gIs, dB, see, keepR, sSet, retR, sRet, sRetV, sRetN, sNx, sBrk, sCont, sSeq, sIf, sEx, sApp, sPut, g2N, gAllL, fn, Fl.mine, at0, at1, at2, at3, sExt, gIsL, gInt, dFu, dCallV, gIn, gNotIn, gIdx, gSum, h, h2, atP_int _ _ hk]
  · simp [dVar, dC, d1, d2, gI, kSub, kMul, kDiv, kMod, kPow, kLt, kLe, kGt, kGe, eqK, gEq, gNe, isN, gIsN, gNotN, gNeg, dCh, qB, qAnd, qOr, qNot, qYes, dAnd, dOr, dNot, dIf, gIx, oI, dSl, aNil, aCons, plainD, dTup, dLst, gAdd, R.arg, dCall, gLen, gTuple, gList, gMax, gMin, isT, gIs, dB, see, keepR, sSet, retR, sRet, sRetV, sRetN, sNx, sBrk, sCont, sSeq, sIf, sEx, sApp, sPut, g2N, gAllL, fn, Fl.mine, at0, at1, at2, at3, sExt, gIsL, gInt, dFu, dCallV, gIn, gNotIn, gIdx, gSum, h, e0]
noncomputable def mixZ (c k : Int) : Int := (c * 48271 + k * 40692) % 2147483647
theorem e_mix (c k : Int) : F_law_mix [.d (.int c), .d (.int k)] = some (.d (.int (mixZ c k))) := by
  unfold F_law_mix B_law_mix mixZ
  simp [dVar, dC, d1, d2, gI, kSub, kMul, kDiv, kMod, kPow, kLt, kLe, kGt, kGe, eqK, gEq, gNe, isN, gIsN, gNotN, gNeg, dCh, qB, qAnd, qOr, qNot, qYes, dAnd, dOr, dNot, dIf, gIx, oI, dSl, aNil, aCons, plainD, dTup, dLst, gAdd, R.arg, dCall, gLen, gTuple, gList, gMax, gMin, isT, gIs, dB, see, keepR, sSet, retR, sRet, sRetV, sRetN, sNx, sBrk, sCont, sSeq, sIf, sEx, sApp, sPut, g2N, gAllL, fn, Fl.mine, at0, at1, at2, at3, sExt, gIsL, gInt, dFu, dCallV, gIn, gNotIn, gIdx, gSum]
theorem e_whole (i : Int) : F_law_whole [.d (.int i)] = some (.d (.bl true)) := by
  unfold F_law_whole B_law_whole
  simp [dVar, dC, d1, d2, gI, kSub, kMul, kDiv, kMod, kPow, kLt, kLe, kGt, kGe, eqK, gEq, gNe, isN, gIsN, gNotN, gNeg, dCh, qB, qAnd, qOr, qNot, qYes, dAnd, dOr, dNot, dIf, gIx, oI, dSl, aNil, aCons, plainD, dTup, dLst, gAdd, R.arg, dCall, gLen, gTuple, gList, gMax, gMin, isT, gIs, dB, see, keepR, sSet, retR, sRet, sRetV, sRetN, sNx, sBrk, sCont, sSeq, sIf, sEx, sApp, sPut, g2N, gAllL, fn, Fl.mine, at0, at1, at2, at3, sExt, gIsL, gInt, dFu, dCallV, gIn, gNotIn, gIdx, gSum]
noncomputable def dep : Nat → D → Prop
  | _, .int _ => True
  | _, .non => True
  | _, .str _ => True
  | _, .bl _ => False
  | _, .fu _ => False
  | 0, .tup _ => False
  | n + 1, .tup ds => ds.length ≤ 10000 ∧ ∀ d ∈ ds, dep n d
theorem cp_true {e : DEn} {caps : Ev} : ∀ {ds : List D}, (∀ d ∈ ds, e (some (.d d) :: caps) = some (.d (.bl true))) → cpGo qYes e caps ds = some (List.replicate ds.length (.bl true))
  | [], _ => rfl
  | d :: r, h => by
    unfold cpGo
    have ih := cp_true (e := e) (caps := caps) (ds := r) fun x hx => h x (List.mem_cons_of_mem _ hx)
    simp [qYes, h d List.mem_cons_self, ih, List.replicate_succ]
theorem bools_true (n : Nat) : bools (List.replicate n (.bl true)) = some (List.replicate n true) := by
  induction n with
  | zero => rfl
  | succ n ih => simp [List.replicate_succ, bools, ih]
theorem e_same : ∀ (n : Nat) (d : D), dep n d → F_law_same (n + 1) [.d d, .d d] = some (.d (.bl true)) := by
  intro n
  induction n with
  | zero =>
    intro d h
    unfold F_law_same B_law_same
    cases d with
    | int i => have e := e_whole i; simp [dVar, dC, d1, d2, gI, kSub, kMul, kDiv, kMod, kPow, kLt, kLe, kGt, kGe, eqK, gEq, gNe, isN, gIsN, gNotN, gNeg, dCh, qB, qAnd, qOr, qNot, qYes, dAnd, dOr, dNot, dIf, gIx, oI, dSl, aNil, aCons, plainD, dTup, dLst, gAdd, R.arg, dCall, gLen, gTuple, gList, gMax, gMin, isT, gIs, dB, see, keepR, sSet, retR, sRet, sRetV, sRetN, sNx, sBrk, sCont, sSeq, sIf, sEx, sApp, sPut, g2N, gAllL, fn, Fl.mine, at0, at1, at2, at3, sExt, gIsL, gInt, dFu, dCallV, gIn, gNotIn, gIdx, gSum, e]
    | non => simp [dVar, dC, d1, d2, gI, kSub, kMul, kDiv, kMod, kPow, kLt, kLe, kGt, kGe, eqK, gEq, gNe, isN, gIsN, gNotN, gNeg, dCh, qB, qAnd, qOr, qNot, qYes, dAnd, dOr, dNot, dIf, gIx, oI, dSl, aNil, aCons, plainD, dTup, dLst, gAdd, R.arg, dCall, gLen, gTuple, gList, gMax, gMin, isT, gIs, dB, see, keepR, sSet, retR, sRet, sRetV, sRetN, sNx, sBrk, sCont, sSeq, sIf, sEx, sApp, sPut, g2N, gAllL, fn, Fl.mine, at0, at1, at2, at3, sExt, gIsL, gInt, dFu, dCallV, gIn, gNotIn, gIdx, gSum]
    | str x => simp [dVar, dC, d1, d2, gI, kSub, kMul, kDiv, kMod, kPow, kLt, kLe, kGt, kGe, eqK, gEq, gNe, isN, gIsN, gNotN, gNeg, dCh, qB, qAnd, qOr, qNot, qYes, dAnd, dOr, dNot, dIf, gIx, oI, dSl, aNil, aCons, plainD, dTup, dLst, gAdd, R.arg, dCall, gLen, gTuple, gList, gMax, gMin, isT, gIs, dB, see, keepR, sSet, retR, sRet, sRetV, sRetN, sNx, sBrk, sCont, sSeq, sIf, sEx, sApp, sPut, g2N, gAllL, fn, Fl.mine, at0, at1, at2, at3, sExt, gIsL, gInt, dFu, dCallV, gIn, gNotIn, gIdx, gSum]
    | bl b => exact h.elim
    | fu b => exact h.elim
    | tup ds => exact h.elim
  | succ n ih =>
    intro d h
    unfold F_law_same B_law_same
    cases d with
    | int i => have e := e_whole i; simp [dVar, dC, d1, d2, gI, kSub, kMul, kDiv, kMod, kPow, kLt, kLe, kGt, kGe, eqK, gEq, gNe, isN, gIsN, gNotN, gNeg, dCh, qB, qAnd, qOr, qNot, qYes, dAnd, dOr, dNot, dIf, gIx, oI, dSl, aNil, aCons, plainD, dTup, dLst, gAdd, R.arg, dCall, gLen, gTuple, gList, gMax, gMin, isT, gIs, dB, see, keepR, sSet, retR, sRet, sRetV, sRetN, sNx, sBrk, sCont, sSeq, sIf, sEx, sApp, sPut, g2N, gAllL, fn, Fl.mine, at0, at1, at2, at3, sExt, gIsL, gInt, dFu, dCallV, gIn, gNotIn, gIdx, gSum, e]
    | non => simp [dVar, dC, d1, d2, gI, kSub, kMul, kDiv, kMod, kPow, kLt, kLe, kGt, kGe, eqK, gEq, gNe, isN, gIsN, gNotN, gNeg, dCh, qB, qAnd, qOr, qNot, qYes, dAnd, dOr, dNot, dIf, gIx, oI, dSl, aNil, aCons, plainD, dTup, dLst, gAdd, R.arg, dCall, gLen, gTuple, gList, gMax, gMin, isT, gIs, dB, see, keepR, sSet, retR, sRet, sRetV, sRetN, sNx, sBrk, sCont, sSeq, sIf, sEx, sApp, sPut, g2N, gAllL, fn, Fl.mine, at0, at1, at2, at3, sExt, gIsL, gInt, dFu, dCallV, gIn, gNotIn, gIdx, gSum]
    | str x => simp [dVar, dC, d1, d2, gI, kSub, kMul, kDiv, kMod, kPow, kLt, kLe, kGt, kGe, eqK, gEq, gNe, isN, gIsN, gNotN, gNeg, dCh, qB, qAnd, qOr, qNot, qYes, dAnd, dOr, dNot, dIf, gIx, oI, dSl, aNil, aCons, plainD, dTup, dLst, gAdd, R.arg, dCall, gLen, gTuple, gList, gMax, gMin, isT, gIs, dB, see, keepR, sSet, retR, sRet, sRetV, sRetN, sNx, sBrk, sCont, sSeq, sIf, sEx, sApp, sPut, g2N, gAllL, fn, Fl.mine, at0, at1, at2, at3, sExt, gIsL, gInt, dFu, dCallV, gIn, gNotIn, gIdx, gSum]
    | bl b => exact h.elim
    | fu b => exact h.elim
    | tup ds =>
      obtain ⟨h1, h2⟩ := h
      have c : cpGo qYes (dCall (F_law_same (n + 1)) (aCons (d2 gIx (dVar 1) (dVar 0)) (aCons (d2 gIx (dVar 2) (dVar 0)) aNil))) [some (.d (.tup ds)), some (.d (.tup ds))] ((List.range ds.length).map fun (k : Nat) => D.int (k : Int)) = some (List.replicate ds.length (.bl true)) := by
        have := cp_true (e := dCall (F_law_same (n + 1)) (aCons (d2 gIx (dVar 1) (dVar 0)) (aCons (d2 gIx (dVar 2) (dVar 0)) aNil))) (caps := [some (.d (.tup ds)), some (.d (.tup ds))]) (ds := (List.range ds.length).map fun (k : Nat) => D.int (k : Int)) ?_
        · rwa [List.length_map, List.length_range] at this
        · intro x hx
          obtain ⟨k, hk, rfl⟩ := List.mem_map.mp hx
          have hk : k < ds.length := List.mem_range.mp hk
          have e1 : ds[k]? = some ds[k] := List.getElem?_eq_getElem hk
          have e2 := ih ds[k] (h2 _ (List.getElem_mem hk))
          simp [dVar, dC, d1, d2, gI, kSub, kMul, kDiv, kMod, kPow, kLt, kLe, kGt, kGe, eqK, gEq, gNe, isN, gIsN, gNotN, gNeg, dCh, qB, qAnd, qOr, qNot, qYes, dAnd, dOr, dNot, dIf, gIx, oI, dSl, aNil, aCons, plainD, dTup, dLst, gAdd, R.arg, dCall, gLen, gTuple, gList, gMax, gMin, isT, gIs, dB, see, keepR, sSet, retR, sRet, sRetV, sRetN, sNx, sBrk, sCont, sSeq, sIf, sEx, sApp, sPut, g2N, gAllL, fn, Fl.mine, at0, at1, at2, at3, sExt, gIsL, gInt, dFu, dCallV, gIn, gNotIn, gIdx, gSum, atP_nat, e1, e2]
      have z : ((ds.length : Nat) : Int) ≤ 1000000 := by omega
      have z2 : (-1000000 : Int) ≤ ((ds.length : Nat) : Int) := by omega
      simp [dVar, dC, d1, d2, gI, kSub, kMul, kDiv, kMod, kPow, kLt, kLe, kGt, kGe, eqK, gEq, gNe, isN, gIsN, gNotN, gNeg, dCh, qB, qAnd, qOr, qNot, qYes, dAnd, dOr, dNot, dIf, gIx, oI, dSl, aNil, aCons, plainD, dTup, dLst, gAdd, R.arg, dCall, gLen, gTuple, gList, gMax, gMin, isT, gIs, dB, see, keepR, sSet, retR, sRet, sRetV, sRetN, sNx, sBrk, sCont, sSeq, sIf, sEx, sApp, sPut, g2N, gAllL, fn, Fl.mine, at0, at1, at2, at3, sExt, gIsL, gInt, dFu, dCallV, gIn, gNotIn, gIdx, gSum, dComp, iTo, capsOf, c, z, z2, h1, gAll, bools_true]
theorem fo_inv {i : Nat} {b : DSn} {ds : List D} (P : Nat → Ev → Prop) {δ : Ev} (h0 : P 0 δ) (hs : ∀ (k : Nat) δ d, ds[k]? = some d → P k δ → ∃ δ', b (δ.set i (some (.d d))) = some (.nx δ') ∧ P (k + 1) δ') :
    ∃ δ', foGo i b ds δ = some (.nx δ') ∧ P ds.length δ' := by
  have all : ∀ (n : Nat) (k : Nat) (δ : Ev), n + k = ds.length → P k δ → ∃ δ', foGo i b (ds.drop k) δ = some (.nx δ') ∧ P ds.length δ' := by
    intro n
    induction n with
    | zero =>
      intro k δ hk hp
      have : ds.drop k = [] := List.drop_eq_nil_of_le (by omega)
      rw [this]
      exact ⟨δ, rfl, by have : k = ds.length := by omega
                        rwa [this] at hp⟩
    | succ n ih =>
      intro k δ hk hp
      have hl : k < ds.length := by omega
      obtain ⟨δ1, e1, p1⟩ := hs k δ ds[k] (List.getElem?_eq_getElem hl) hp
      obtain ⟨δ2, e2, p2⟩ := ih (k + 1) δ1 (by omega) p1
      refine ⟨δ2, ?_, p2⟩
      rw [List.drop_eq_getElem_cons hl]
      unfold foGo
      rw [e1]
      exact e2
  have := all ds.length 0 δ (by omega) h0
  simpa using this
theorem range_at {n k : Nat} {d : D} (h : ((List.range n).map fun (k : Nat) => D.int (k : Int))[k]? = some d) : k < n ∧ d = .int (k : Int) := by
  have hk : k < n := by
    have := (List.getElem?_eq_some_iff.mp h).1
    simpa using this
  rw [List.getElem?_map, List.getElem?_range hk] at h
  cases h
  exact ⟨hk, rfl⟩
theorem cp_mapL {α : Type} {e : DEn} {caps : Ev} {g h : α → D} : ∀ (l : List α), (∀ x ∈ l, e (some (.d (g x)) :: caps) = some (.d (h x))) → cpGo qYes e caps (l.map g) = some (l.map h)
  | [], _ => rfl
  | x :: r, H => by
    have e1 := H x List.mem_cons_self
    have e2 := cp_mapL r fun y hy => H y (List.mem_cons_of_mem _ hy)
    rw [List.map_cons, List.map_cons]
    unfold cpGo
    simp [qYes, e1, e2]
noncomputable def sc (ns : List Int) : Option R := some (.l .bor (ns.map .int))
theorem emod_lt (a b : Int) (h : 0 < b) : 0 ≤ a % b ∧ a % b < b := ⟨Int.emod_nonneg _ (by omega), Int.emod_lt_of_pos _ h⟩

abbrev Rl := Option (Int × Int × Int)
noncomputable def rlD : Rl → D
  | none => .non
  | some (w, y, q) => .tup [.int w, .int y, .int q]
noncomputable def GoodR (r s : Int) : Rl → Prop
  | none => True
  | some (w, y, q) => (0 ≤ w ∧ w < s) ∧ (y = 0 ∨ y = 1) ∧ 0 ≤ q ∧ q < r
noncomputable def mD (r s : Int) (rs : List Rl) : D := .tup [.int r, .int s, .tup (rs.map rlD)]
structure GoodM (r s : Int) (rs : List Rl) : Prop where
  r1 : 1 ≤ r
  r2 : r ≤ 6
  s1 : 2 ≤ s
  s2 : s ≤ 4
  len : rs.length = (r * s).toNat
  all : ∀ x ∈ rs, GoodR r s x
theorem rs_bound {r s : Int} (h1 : 1 ≤ r) (h2 : r ≤ 6) (h3 : 2 ≤ s) (h4 : s ≤ 4) : 0 ≤ r * s ∧ r * s ≤ 24 := by
  have e : r = 1 ∨ r = 2 ∨ r = 3 ∨ r = 4 ∨ r = 5 ∨ r = 6 := by omega
  rcases e with rfl | rfl | rfl | rfl | rfl | rfl <;> omega
theorem e_machine (ns : List Int) (start r s : Int) (h0 : 0 ≤ start) (h1 : 1 ≤ r) (h2 : r ≤ 6) (h3 : 2 ≤ s) (h4 : s ≤ 4) :
    ∃ rs, GoodM r s rs ∧ F_law_machine [.l .bor (ns.map .int), .d (.int start), .d (.int r), .d (.int s)] = some (.d (mD r s rs)) := by
  have rb := rs_bound h1 h2 h3 h4
  have q := fo_inv (i := 5) (b := L1_law_machine) (ds := (List.range (r * s).toNat).map fun (k : Nat) => D.int (k : Int)) (δ := [sc ns, some (.d (.int start)), some (.d (.int r)), some (.d (.int s)), some (.l .own []), none, none])
    (fun k δ => ∃ (rs : List Rl) (l1 l2 : Option R), rs.length = k ∧ (∀ x ∈ rs, GoodR r s x) ∧ δ = [sc ns, some (.d (.int start)), some (.d (.int r)), some (.d (.int s)), some (.l .own (rs.map rlD)), l1, l2]) ⟨[], none, none, rfl, (fun x hx => by cases hx), rfl⟩ ?_
  · obtain ⟨δ', e1, rs, l1, l2, hl, ha, rfl⟩ := q
    refine ⟨rs, ⟨h1, h2, h3, h4, by simpa using hl, ha⟩, ?_⟩
    have z1 : (-1000000 : Int) ≤ r * s := by omega
    have z2 : r * s ≤ 1000000 := by omega
    have m : (-(2 ^ 64) < r ∧ r < 2 ^ 64) ∨ (-(2 ^ 64) < s ∧ s < 2 ^ 64) := .inl (by omega)
    unfold sc at e1
    unfold F_law_machine B_law_machine L2_law_machine mD
    have m' : (-18446744073709551616 < r ∧ r < 18446744073709551616) ∨ (-18446744073709551616 < s ∧ s < 18446744073709551616) := .inl (by omega)
    simp [dVar, dC, d1, d2, gI, kSub, kMul, kDiv, kMod, kPow, kLt, kLe, kGt, kGe, eqK, gEq, gNe, isN, gIsN, gNotN, gNeg, dCh, qB, qAnd, qOr, qNot, qYes, dAnd, dOr, dNot, dIf, gIx, oI, dSl, aNil, aCons, plainD, dTup, dLst, gAdd, R.arg, dCall, gLen, gTuple, gList, gMax, gMin, isT, gIs, dB, see, keepR, sSet, retR, sRet, sRetV, sRetN, sNx, sBrk, sCont, sSeq, sIf, sEx, sApp, sPut, g2N, gAllL, fn, Fl.mine, at0, at1, at2, at3, sExt, gIsL, gInt, dFu, dCallV, gIn, gNotIn, gIdx, gSum, sFor, iTo, z1, z2, m', e1]
  · rintro k δ d hd ⟨rs, l1, l2, hl, ha, rfl⟩
    obtain ⟨hk, rfl⟩ := range_at hd
    have e1 := e_pick ns (start + k) (by omega)
    have e2 := e_mix (pickZ ns (start + k)) k
    have hz : rs.length < 10000 := by omega
    have s0 : 0 < s := by omega
    have r0 : 0 < r := by omega
    generalize mixZ (pickZ ns (start + k)) k = m at *
    by_cases hm : m % 5 = 0
    · refine ⟨_, ?_, rs ++ [none], some (.d (.int k)), some (.d (.int m)), by simp [hl], ?_, rfl⟩
      · unfold L1_law_machine
        simp [dVar, dC, d1, d2, gI, kSub, kMul, kDiv, kMod, kPow, kLt, kLe, kGt, kGe, eqK, gEq, gNe, isN, gIsN, gNotN, gNeg, dCh, qB, qAnd, qOr, qNot, qYes, dAnd, dOr, dNot, dIf, gIx, oI, dSl, aNil, aCons, plainD, dTup, dLst, gAdd, R.arg, dCall, gLen, gTuple, gList, gMax, gMin, isT, gIs, dB, see, keepR, sSet, retR, sRet, sRetV, sRetN, sNx, sBrk, sCont, sSeq, sIf, sEx, sApp, sPut, g2N, gAllL, fn, Fl.mine, at0, at1, at2, at3, sExt, gIsL, gInt, dFu, dCallV, gIn, gNotIn, gIdx, gSum, sc, e1, e2, hm, hz, rlD]
      · intro x hx
        rcases List.mem_append.mp hx with hx | hx
        · exact ha x hx
        · simp at hx; subst hx; trivial
    · refine ⟨_, ?_, rs ++ [some (m / 5 % s, m / 64 % 2, m / 512 % r)], some (.d (.int k)), some (.d (.int m)), by simp [hl], ?_, rfl⟩
      · unfold L1_law_machine
        simp [dVar, dC, d1, d2, gI, kSub, kMul, kDiv, kMod, kPow, kLt, kLe, kGt, kGe, eqK, gEq, gNe, isN, gIsN, gNotN, gNeg, dCh, qB, qAnd, qOr, qNot, qYes, dAnd, dOr, dNot, dIf, gIx, oI, dSl, aNil, aCons, plainD, dTup, dLst, gAdd, R.arg, dCall, gLen, gTuple, gList, gMax, gMin, isT, gIs, dB, see, keepR, sSet, retR, sRet, sRetV, sRetN, sNx, sBrk, sCont, sSeq, sIf, sEx, sApp, sPut, g2N, gAllL, fn, Fl.mine, at0, at1, at2, at3, sExt, gIsL, gInt, dFu, dCallV, gIn, gNotIn, gIdx, gSum, sc, e1, e2, hm, hz, rlD, s0, r0]
      · intro x hx
        rcases List.mem_append.mp hx with hx | hx
        · exact ha x hx
        · simp at hx; subst hx
          have b1 := emod_lt (m / 5) s s0
          have b2 := emod_lt (m / 64) 2 (by omega)
          have b3 := emod_lt (m / 512) r r0
          exact ⟨b1, by omega, b3⟩
theorem sSeq_nx {a b : DSn} {δ δ' : Ev} {o : Option O} (h1 : a δ = some (.nx δ')) (h2 : b δ' = o) : sSeq a b δ = o := by
  unfold sSeq
  rw [h1]
  exact h2
theorem fn_rt {n N : Nat} {body : DSn} {rs : List R} {r : R} (hl : rs.length = n) (h : body (rs.map some ++ List.replicate (N - n) none) = some (.rt r)) : fn n N body rs = some r := by
  unfold fn
  rw [if_pos hl, h]
  rfl
theorem sIf_f {t : DTn} {a b : DSn} {δ : Ev} {o : Option O} (h : t δ = some false) (h2 : b δ = o) : sIf t a b δ = o := by
  unfold sIf
  rw [h]
  exact h2
theorem sSeq_rt {a b : DSn} {δ : Ev} {r : R} (h1 : a δ = some (.rt r)) : sSeq a b δ = some (.rt r) := by
  unfold sSeq
  rw [h1]
  rfl

abbrev Tr := Int × Int × Int
noncomputable def trD (t : Tr) : D := .tup [.int t.1, .int t.2.1, .int t.2.2]
noncomputable def Gr (r s : Int) (t : Tr) : Prop := (0 ≤ t.1 ∧ t.1 < s) ∧ (0 ≤ t.2.1 ∧ t.2.1 ≤ 1) ∧ 0 ≤ t.2.2 ∧ t.2.2 < r
noncomputable instance (r s : Int) (t : Tr) : Decidable (Gr r s t) := by unfold Gr; infer_instance
noncomputable def somes : List Rl → List Tr
  | [] => []
  | none :: l => somes l
  | some t :: l => t :: somes l
noncomputable def GoodX (r s : Int) (rs : List Rl) : Prop := (1 ≤ r ∧ r ≤ 6) ∧ (2 ≤ s ∧ s ≤ 4) ∧ (rs.length : Int) = r * s ∧ ∀ t ∈ somes rs, Gr r s t
noncomputable instance (r s : Int) (rs : List Rl) : Decidable (GoodX r s rs) := by unfold GoodX; infer_instance
theorem fnX_rt {n N : Nat} {body : DSn} {rs : List R} {r : R} (hl : rs.length = n) (h : body (rs.map some ++ List.replicate (N - n) none) = some (.rt r)) : fnX n N body rs = some (some r) := by
  unfold fnX
  rw [if_pos hl, h]
  rfl
theorem fnX_ex {n N : Nat} {body : DSn} {rs : List R} (hl : rs.length = n) (h : body (rs.map some ++ List.replicate (N - n) none) = some .ex) : fnX n N body rs = some none := by
  unfold fnX
  rw [if_pos hl, h]
  rfl
theorem fnX_nx {n N : Nat} {body : DSn} {rs : List R} {δ : Ev} (hl : rs.length = n) (h : body (rs.map some ++ List.replicate (N - n) none) = some (.nx δ)) : fnX n N body rs = some (some (.d .non)) := by
  unfold fnX
  rw [if_pos hl, h]
  rfl
theorem sSeq_ex {a b : DSn} {δ : Ev} (h1 : a δ = some .ex) : sSeq a b δ = some .ex := by
  unfold sSeq
  rw [h1]
  rfl
theorem e_lookAt (r s : Int) (t : Tr) : F_look_at_rule [.d (.int r), .d (.int s), .d (trD t)] = some (if Gr r s t then some (.d .non) else none) := by
  obtain ⟨w, y, q⟩ := t
  by_cases h : Gr r s (w, y, q)
  · rw [if_pos h]
    obtain ⟨⟨h1, h2⟩, ⟨h3, h4⟩, h5, h6⟩ := h
    dsimp only at h1 h2 h3 h4 h5 h6
    refine fnX_nx (δ := [some (.d (.int r)), some (.d (.int s)), some (.d (trD (w, y, q)))]) rfl ?_
    unfold B_look_at_rule trD
    simp [dVar, dC, d1, d2, gI, kSub, kMul, kDiv, kMod, kPow, kLt, kLe, kGt, kGe, eqK, gEq, gNe, isN, gIsN, gNotN, gNeg, dCh, qB, qAnd, qOr, qNot, qYes, dAnd, dOr, dNot, dIf, gIx, oI, dSl, aNil, aCons, plainD, dTup, dLst, gAdd, R.arg, dCall, gLen, gTuple, gList, gMax, gMin, isT, gIs, dB, see, keepR, sSet, retR, sRet, sRetV, sRetN, sNx, sBrk, sCont, sSeq, sIf, sEx, sApp, sPut, g2N, gAllL, fn, Fl.mine, at0, at1, at2, at3, sExt, gIsL, gInt, dFu, dCallV, gIn, gNotIn, gIdx, gSum, sRaise, h1, h2, h3, h4, h5, h6]
  · rw [if_neg h]
    refine fnX_ex rfl ?_
    show B_look_at_rule [some (.d (.int r)), some (.d (.int s)), some (.d (trD (w, y, q)))] = _
    unfold B_look_at_rule trD
    by_cases c1 : 0 ≤ w ∧ w < s
    · refine sSeq_nx (δ' := [some (.d (.int r)), some (.d (.int s)), some (.d (trD (w, y, q)))]) (by simp [dVar, dC, d1, d2, gI, kSub, kMul, kDiv, kMod, kPow, kLt, kLe, kGt, kGe, eqK, gEq, gNe, isN, gIsN, gNotN, gNeg, dCh, qB, qAnd, qOr, qNot, qYes, dAnd, dOr, dNot, dIf, gIx, oI, dSl, aNil, aCons, plainD, dTup, dLst, gAdd, R.arg, dCall, gLen, gTuple, gList, gMax, gMin, isT, gIs, dB, see, keepR, sSet, retR, sRet, sRetV, sRetN, sNx, sBrk, sCont, sSeq, sIf, sEx, sApp, sPut, g2N, gAllL, fn, Fl.mine, at0, at1, at2, at3, sExt, gIsL, gInt, dFu, dCallV, gIn, gNotIn, gIdx, gSum, trD, c1.1, c1.2]) ?_
      by_cases c2 : 0 ≤ y ∧ y ≤ 1
      · refine sSeq_nx (δ' := [some (.d (.int r)), some (.d (.int s)), some (.d (trD (w, y, q)))]) (by simp [dVar, dC, d1, d2, gI, kSub, kMul, kDiv, kMod, kPow, kLt, kLe, kGt, kGe, eqK, gEq, gNe, isN, gIsN, gNotN, gNeg, dCh, qB, qAnd, qOr, qNot, qYes, dAnd, dOr, dNot, dIf, gIx, oI, dSl, aNil, aCons, plainD, dTup, dLst, gAdd, R.arg, dCall, gLen, gTuple, gList, gMax, gMin, isT, gIs, dB, see, keepR, sSet, retR, sRet, sRetV, sRetN, sNx, sBrk, sCont, sSeq, sIf, sEx, sApp, sPut, g2N, gAllL, fn, Fl.mine, at0, at1, at2, at3, sExt, gIsL, gInt, dFu, dCallV, gIn, gNotIn, gIdx, gSum, trD, c2.1, c2.2]) ?_
        have c3 : ¬ (0 ≤ q ∧ q < r) := fun z => h ⟨c1, c2, z⟩
        by_cases z : 0 ≤ q
        · have z2 : ¬ q < r := fun z' => c3 ⟨z, z'⟩
          simp [dVar, dC, d1, d2, gI, kSub, kMul, kDiv, kMod, kPow, kLt, kLe, kGt, kGe, eqK, gEq, gNe, isN, gIsN, gNotN, gNeg, dCh, qB, qAnd, qOr, qNot, qYes, dAnd, dOr, dNot, dIf, gIx, oI, dSl, aNil, aCons, plainD, dTup, dLst, gAdd, R.arg, dCall, gLen, gTuple, gList, gMax, gMin, isT, gIs, dB, see, keepR, sSet, retR, sRet, sRetV, sRetN, sNx, sBrk, sCont, sSeq, sIf, sEx, sApp, sPut, g2N, gAllL, fn, Fl.mine, at0, at1, at2, at3, sExt, gIsL, gInt, dFu, dCallV, gIn, gNotIn, gIdx, gSum, sRaise, trD, z, z2]
        · simp [dVar, dC, d1, d2, gI, kSub, kMul, kDiv, kMod, kPow, kLt, kLe, kGt, kGe, eqK, gEq, gNe, isN, gIsN, gNotN, gNeg, dCh, qB, qAnd, qOr, qNot, qYes, dAnd, dOr, dNot, dIf, gIx, oI, dSl, aNil, aCons, plainD, dTup, dLst, gAdd, R.arg, dCall, gLen, gTuple, gList, gMax, gMin, isT, gIs, dB, see, keepR, sSet, retR, sRet, sRetV, sRetN, sNx, sBrk, sCont, sSeq, sIf, sEx, sApp, sPut, g2N, gAllL, fn, Fl.mine, at0, at1, at2, at3, sExt, gIsL, gInt, dFu, dCallV, gIn, gNotIn, gIdx, gSum, sRaise, trD, z]
      · refine sSeq_ex ?_
        by_cases z : 0 ≤ y
        · have z2 : ¬ y ≤ 1 := fun z' => c2 ⟨z, z'⟩
          simp [dVar, dC, d1, d2, gI, kSub, kMul, kDiv, kMod, kPow, kLt, kLe, kGt, kGe, eqK, gEq, gNe, isN, gIsN, gNotN, gNeg, dCh, qB, qAnd, qOr, qNot, qYes, dAnd, dOr, dNot, dIf, gIx, oI, dSl, aNil, aCons, plainD, dTup, dLst, gAdd, R.arg, dCall, gLen, gTuple, gList, gMax, gMin, isT, gIs, dB, see, keepR, sSet, retR, sRet, sRetV, sRetN, sNx, sBrk, sCont, sSeq, sIf, sEx, sApp, sPut, g2N, gAllL, fn, Fl.mine, at0, at1, at2, at3, sExt, gIsL, gInt, dFu, dCallV, gIn, gNotIn, gIdx, gSum, sRaise, trD, z, z2]
        · simp [dVar, dC, d1, d2, gI, kSub, kMul, kDiv, kMod, kPow, kLt, kLe, kGt, kGe, eqK, gEq, gNe, isN, gIsN, gNotN, gNeg, dCh, qB, qAnd, qOr, qNot, qYes, dAnd, dOr, dNot, dIf, gIx, oI, dSl, aNil, aCons, plainD, dTup, dLst, gAdd, R.arg, dCall, gLen, gTuple, gList, gMax, gMin, isT, gIs, dB, see, keepR, sSet, retR, sRet, sRetV, sRetN, sNx, sBrk, sCont, sSeq, sIf, sEx, sApp, sPut, g2N, gAllL, fn, Fl.mine, at0, at1, at2, at3, sExt, gIsL, gInt, dFu, dCallV, gIn, gNotIn, gIdx, gSum, sRaise, trD, z]
    · refine sSeq_ex ?_
      by_cases z : 0 ≤ w
      · have z2 : ¬ w < s := fun z' => c1 ⟨z, z'⟩
        simp [dVar, dC, d1, d2, gI, kSub, kMul, kDiv, kMod, kPow, kLt, kLe, kGt, kGe, eqK, gEq, gNe, isN, gIsN, gNotN, gNeg, dCh, qB, qAnd, qOr, qNot, qYes, dAnd, dOr, dNot, dIf, gIx, oI, dSl, aNil, aCons, plainD, dTup, dLst, gAdd, R.arg, dCall, gLen, gTuple, gList, gMax, gMin, isT, gIs, dB, see, keepR, sSet, retR, sRet, sRetV, sRetN, sNx, sBrk, sCont, sSeq, sIf, sEx, sApp, sPut, g2N, gAllL, fn, Fl.mine, at0, at1, at2, at3, sExt, gIsL, gInt, dFu, dCallV, gIn, gNotIn, gIdx, gSum, sRaise, trD, z, z2]
      · simp [dVar, dC, d1, d2, gI, kSub, kMul, kDiv, kMod, kPow, kLt, kLe, kGt, kGe, eqK, gEq, gNe, isN, gIsN, gNotN, gNeg, dCh, qB, qAnd, qOr, qNot, qYes, dAnd, dOr, dNot, dIf, gIx, oI, dSl, aNil, aCons, plainD, dTup, dLst, gAdd, R.arg, dCall, gLen, gTuple, gList, gMax, gMin, isT, gIs, dB, see, keepR, sSet, retR, sRet, sRetV, sRetN, sNx, sBrk, sCont, sSeq, sIf, sEx, sApp, sPut, g2N, gAllL, fn, Fl.mine, at0, at1, at2, at3, sExt, gIsL, gInt, dFu, dCallV, gIn, gNotIn, gIdx, gSum, sRaise, trD, z]
theorem cp_told : ∀ (rs : List Rl), cpGo (qB (d2 (g2N gNotN) (dVar 0) (dC .non))) (dVar 0) [] (rs.map rlD) = some ((somes rs).map trD)
  | [] => rfl
  | none :: r => by
    have ih := cp_told r
    rw [List.map_cons]
    unfold cpGo
    simp [dVar, dC, d1, d2, gI, kSub, kMul, kDiv, kMod, kPow, kLt, kLe, kGt, kGe, eqK, gEq, gNe, isN, gIsN, gNotN, gNeg, dCh, qB, qAnd, qOr, qNot, qYes, dAnd, dOr, dNot, dIf, gIx, oI, dSl, aNil, aCons, plainD, dTup, dLst, gAdd, R.arg, dCall, gLen, gTuple, gList, gMax, gMin, isT, gIs, dB, see, keepR, sSet, retR, sRet, sRetV, sRetN, sNx, sBrk, sCont, sSeq, sIf, sEx, sApp, sPut, g2N, gAllL, fn, Fl.mine, at0, at1, at2, at3, sExt, gIsL, gInt, dFu, dCallV, gIn, gNotIn, gIdx, gSum, rlD, somes, ih]
  | some (w, y, q) :: r => by
    have ih := cp_told r
    rw [List.map_cons]
    unfold cpGo
    simp [dVar, dC, d1, d2, gI, kSub, kMul, kDiv, kMod, kPow, kLt, kLe, kGt, kGe, eqK, gEq, gNe, isN, gIsN, gNotN, gNeg, dCh, qB, qAnd, qOr, qNot, qYes, dAnd, dOr, dNot, dIf, gIx, oI, dSl, aNil, aCons, plainD, dTup, dLst, gAdd, R.arg, dCall, gLen, gTuple, gList, gMax, gMin, isT, gIs, dB, see, keepR, sSet, retR, sRet, sRetV, sRetN, sNx, sBrk, sCont, sSeq, sIf, sEx, sApp, sPut, g2N, gAllL, fn, Fl.mine, at0, at1, at2, at3, sExt, gIsL, gInt, dFu, dCallV, gIn, gNotIn, gIdx, gSum, rlD, somes, trD, ih]
theorem look_loop (r s : Int) (m L : D) (M : List D) : ∀ (ts : List Tr) (l5 : Option R), (∀ t ∈ ts, Gr r s t) →
    ∃ l, foGo 5 (sExX F_look_at_rule (aCons (dVar 1) (aCons (dVar 2) (aCons (dVar 5) aNil)))) (ts.map trD) [some (.d m), some (.d (.int r)), some (.d (.int s)), some (.d L), some (.l .bor M), l5] = some (.nx [some (.d m), some (.d (.int r)), some (.d (.int s)), some (.d L), some (.l .bor M), l])
  | [], l5, _ => ⟨l5, rfl⟩
  | t :: ts, l5, h => by
    obtain ⟨l, ih⟩ := look_loop r s m L M ts (some (.d (trD t))) (fun x hx => h x (List.mem_cons_of_mem _ hx))
    refine ⟨l, ?_⟩
    have e := e_lookAt r s t
    rw [if_pos (h t List.mem_cons_self)] at e
    rw [List.map_cons]
    unfold foGo
    have e2 : sExX F_look_at_rule (aCons (dVar 1) (aCons (dVar 2) (aCons (dVar 5) aNil))) ([some (.d m), some (.d (.int r)), some (.d (.int s)), some (.d L), some (.l .bor M), l5].set 5 (some (.d (trD t)))) = some (.nx [some (.d m), some (.d (.int r)), some (.d (.int s)), some (.d L), some (.l .bor M), some (.d (trD t))]) := by
      generalize trD t = d at *
      simp [dVar, dC, d1, d2, gI, kSub, kMul, kDiv, kMod, kPow, kLt, kLe, kGt, kGe, eqK, gEq, gNe, isN, gIsN, gNotN, gNeg, dCh, qB, qAnd, qOr, qNot, qYes, dAnd, dOr, dNot, dIf, gIx, oI, dSl, aNil, aCons, plainD, dTup, dLst, gAdd, R.arg, dCall, gLen, gTuple, gList, gMax, gMin, isT, gIs, dB, see, keepR, sSet, retR, sRet, sRetV, sRetN, sNx, sBrk, sCont, sSeq, sIf, sEx, sApp, sPut, g2N, gAllL, fn, Fl.mine, at0, at1, at2, at3, sExt, gIsL, gInt, dFu, dCallV, gIn, gNotIn, gIdx, gSum, sExX, e]
    rw [e2]
    exact ih
theorem look_bad (r s : Int) (m L : D) (M : List D) : ∀ (ts : List Tr) (l5 : Option R), ¬ (∀ t ∈ ts, Gr r s t) →
    foGo 5 (sExX F_look_at_rule (aCons (dVar 1) (aCons (dVar 2) (aCons (dVar 5) aNil)))) (ts.map trD) [some (.d m), some (.d (.int r)), some (.d (.int s)), some (.d L), some (.l .bor M), l5] = some .ex
  | [], l5, h => absurd (fun t ht => by cases ht) h
  | t :: ts, l5, h => by
    have e := e_lookAt r s t
    rw [List.map_cons]
    unfold foGo
    by_cases ht : Gr r s t
    · rw [if_pos ht] at e
      have ih := look_bad r s m L M ts (some (.d (trD t))) (fun z => h fun x hx => by
        rcases List.mem_cons.mp hx with rfl | hx
        · exact ht
        · exact z x hx)
      have e2 : sExX F_look_at_rule (aCons (dVar 1) (aCons (dVar 2) (aCons (dVar 5) aNil))) ([some (.d m), some (.d (.int r)), some (.d (.int s)), some (.d L), some (.l .bor M), l5].set 5 (some (.d (trD t)))) = some (.nx [some (.d m), some (.d (.int r)), some (.d (.int s)), some (.d L), some (.l .bor M), some (.d (trD t))]) := by
        generalize trD t = d at *
        simp [dVar, dC, d1, d2, gI, kSub, kMul, kDiv, kMod, kPow, kLt, kLe, kGt, kGe, eqK, gEq, gNe, isN, gIsN, gNotN, gNeg, dCh, qB, qAnd, qOr, qNot, qYes, dAnd, dOr, dNot, dIf, gIx, oI, dSl, aNil, aCons, plainD, dTup, dLst, gAdd, R.arg, dCall, gLen, gTuple, gList, gMax, gMin, isT, gIs, dB, see, keepR, sSet, retR, sRet, sRetV, sRetN, sNx, sBrk, sCont, sSeq, sIf, sEx, sApp, sPut, g2N, gAllL, fn, Fl.mine, at0, at1, at2, at3, sExt, gIsL, gInt, dFu, dCallV, gIn, gNotIn, gIdx, gSum, sExX, e]
      rw [e2]
      exact ih
    · rw [if_neg ht] at e
      have e2 : sExX F_look_at_rule (aCons (dVar 1) (aCons (dVar 2) (aCons (dVar 5) aNil))) ([some (.d m), some (.d (.int r)), some (.d (.int s)), some (.d L), some (.l .bor M), l5].set 5 (some (.d (trD t)))) = some .ex := by
        generalize trD t = d at *
        simp [dVar, dC, d1, d2, gI, kSub, kMul, kDiv, kMod, kPow, kLt, kLe, kGt, kGe, eqK, gEq, gNe, isN, gIsN, gNotN, gNeg, dCh, qB, qAnd, qOr, qNot, qYes, dAnd, dOr, dNot, dIf, gIx, oI, dSl, aNil, aCons, plainD, dTup, dLst, gAdd, R.arg, dCall, gLen, gTuple, gList, gMax, gMin, isT, gIs, dB, see, keepR, sSet, retR, sRet, sRetV, sRetN, sNx, sBrk, sCont, sSeq, sIf, sEx, sApp, sPut, g2N, gAllL, fn, Fl.mine, at0, at1, at2, at3, sExt, gIsL, gInt, dFu, dCallV, gIn, gNotIn, gIdx, gSum, sExX, e]
      rw [e2]
      rfl
noncomputable def endO (b : DSn) : O → Option O
  | .nx δ => b δ
  | o => some o
theorem looked_aux (r s : Int) (L M : List D) (hL : L.length ≤ 10000) (cp : cpGo (qB (d2 (g2N gNotN) (dVar 0) (dC .non))) (dVar 0) [] L = some M) (m : (-18446744073709551616 < r ∧ r < 18446744073709551616) ∨ (-18446744073709551616 < s ∧ s < 18446744073709551616))
    (c1 : 1 ≤ r ∧ r ≤ 6) (c2 : 2 ≤ s ∧ s ≤ 4) (c3 : (L.length : Int) = r * s) (o : O) (hl : L1_looked [some (.d (.tup [.int r, .int s, .tup L])), some (.d (.int r)), some (.d (.int s)), some (.d (.tup L)), some (.l .own M), none] = some o) :
    B_looked [some (.d (.tup [.int r, .int s, .tup L])), none, none, none, none, none] = endO (sRet (dB gLen (aCons (dVar 4) aNil))) o := by
  unfold B_looked
  refine sSeq_nx (δ' := [some (.d (.tup [.int r, .int s, .tup L])), some (.d (.int r)), none, none, none, none]) (by simp [dVar, dC, d1, d2, gI, kSub, kMul, kDiv, kMod, kPow, kLt, kLe, kGt, kGe, eqK, gEq, gNe, isN, gIsN, gNotN, gNeg, dCh, qB, qAnd, qOr, qNot, qYes, dAnd, dOr, dNot, dIf, gIx, oI, dSl, aNil, aCons, plainD, dTup, dLst, gAdd, R.arg, dCall, gLen, gTuple, gList, gMax, gMin, isT, gIs, dB, see, keepR, sSet, retR, sRet, sRetV, sRetN, sNx, sBrk, sCont, sSeq, sIf, sEx, sApp, sPut, g2N, gAllL, fn, Fl.mine, at0, at1, at2, at3, sExt, gIsL, gInt, dFu, dCallV, gIn, gNotIn, gIdx, gSum]) ?_
  refine sSeq_nx (δ' := [some (.d (.tup [.int r, .int s, .tup L])), some (.d (.int r)), some (.d (.int s)), none, none, none]) (by simp [dVar, dC, d1, d2, gI, kSub, kMul, kDiv, kMod, kPow, kLt, kLe, kGt, kGe, eqK, gEq, gNe, isN, gIsN, gNotN, gNeg, dCh, qB, qAnd, qOr, qNot, qYes, dAnd, dOr, dNot, dIf, gIx, oI, dSl, aNil, aCons, plainD, dTup, dLst, gAdd, R.arg, dCall, gLen, gTuple, gList, gMax, gMin, isT, gIs, dB, see, keepR, sSet, retR, sRet, sRetV, sRetN, sNx, sBrk, sCont, sSeq, sIf, sEx, sApp, sPut, g2N, gAllL, fn, Fl.mine, at0, at1, at2, at3, sExt, gIsL, gInt, dFu, dCallV, gIn, gNotIn, gIdx, gSum]) ?_
  refine sSeq_nx (δ' := [some (.d (.tup [.int r, .int s, .tup L])), some (.d (.int r)), some (.d (.int s)), some (.d (.tup L)), none, none]) (by simp [dVar, dC, d1, d2, gI, kSub, kMul, kDiv, kMod, kPow, kLt, kLe, kGt, kGe, eqK, gEq, gNe, isN, gIsN, gNotN, gNeg, dCh, qB, qAnd, qOr, qNot, qYes, dAnd, dOr, dNot, dIf, gIx, oI, dSl, aNil, aCons, plainD, dTup, dLst, gAdd, R.arg, dCall, gLen, gTuple, gList, gMax, gMin, isT, gIs, dB, see, keepR, sSet, retR, sRet, sRetV, sRetN, sNx, sBrk, sCont, sSeq, sIf, sEx, sApp, sPut, g2N, gAllL, fn, Fl.mine, at0, at1, at2, at3, sExt, gIsL, gInt, dFu, dCallV, gIn, gNotIn, gIdx, gSum]) ?_
  refine sSeq_nx (δ' := [some (.d (.tup [.int r, .int s, .tup L])), some (.d (.int r)), some (.d (.int s)), some (.d (.tup L)), none, none]) (by simp [dVar, dC, d1, d2, gI, kSub, kMul, kDiv, kMod, kPow, kLt, kLe, kGt, kGe, eqK, gEq, gNe, isN, gIsN, gNotN, gNeg, dCh, qB, qAnd, qOr, qNot, qYes, dAnd, dOr, dNot, dIf, gIx, oI, dSl, aNil, aCons, plainD, dTup, dLst, gAdd, R.arg, dCall, gLen, gTuple, gList, gMax, gMin, isT, gIs, dB, see, keepR, sSet, retR, sRet, sRetV, sRetN, sNx, sBrk, sCont, sSeq, sIf, sEx, sApp, sPut, g2N, gAllL, fn, Fl.mine, at0, at1, at2, at3, sExt, gIsL, gInt, dFu, dCallV, gIn, gNotIn, gIdx, gSum, c1.1, c1.2]) ?_
  refine sSeq_nx (δ' := [some (.d (.tup [.int r, .int s, .tup L])), some (.d (.int r)), some (.d (.int s)), some (.d (.tup L)), none, none]) (by simp [dVar, dC, d1, d2, gI, kSub, kMul, kDiv, kMod, kPow, kLt, kLe, kGt, kGe, eqK, gEq, gNe, isN, gIsN, gNotN, gNeg, dCh, qB, qAnd, qOr, qNot, qYes, dAnd, dOr, dNot, dIf, gIx, oI, dSl, aNil, aCons, plainD, dTup, dLst, gAdd, R.arg, dCall, gLen, gTuple, gList, gMax, gMin, isT, gIs, dB, see, keepR, sSet, retR, sRet, sRetV, sRetN, sNx, sBrk, sCont, sSeq, sIf, sEx, sApp, sPut, g2N, gAllL, fn, Fl.mine, at0, at1, at2, at3, sExt, gIsL, gInt, dFu, dCallV, gIn, gNotIn, gIdx, gSum, c2.1, c2.2]) ?_
  refine sSeq_nx (δ' := [some (.d (.tup [.int r, .int s, .tup L])), some (.d (.int r)), some (.d (.int s)), some (.d (.tup L)), none, none]) (by simp [dVar, dC, d1, d2, gI, kSub, kMul, kDiv, kMod, kPow, kLt, kLe, kGt, kGe, eqK, gEq, gNe, isN, gIsN, gNotN, gNeg, dCh, qB, qAnd, qOr, qNot, qYes, dAnd, dOr, dNot, dIf, gIx, oI, dSl, aNil, aCons, plainD, dTup, dLst, gAdd, R.arg, dCall, gLen, gTuple, gList, gMax, gMin, isT, gIs, dB, see, keepR, sSet, retR, sRet, sRetV, sRetN, sNx, sBrk, sCont, sSeq, sIf, sEx, sApp, sPut, g2N, gAllL, fn, Fl.mine, at0, at1, at2, at3, sExt, gIsL, gInt, dFu, dCallV, gIn, gNotIn, gIdx, gSum, m, c3]) ?_
  refine sSeq_nx (δ' := [some (.d (.tup [.int r, .int s, .tup L])), some (.d (.int r)), some (.d (.int s)), some (.d (.tup L)), some (.l .own M), none]) (by
    simp [dVar, dC, d1, d2, gI, kSub, kMul, kDiv, kMod, kPow, kLt, kLe, kGt, kGe, eqK, gEq, gNe, isN, gIsN, gNotN, gNeg, dCh, qB, qAnd, qOr, qNot, qYes, dAnd, dOr, dNot, dIf, gIx, oI, dSl, aNil, aCons, plainD, dTup, dLst, gAdd, R.arg, dCall, gLen, gTuple, gList, gMax, gMin, isT, gIs, dB, see, keepR, sSet, retR, sRet, sRetV, sRetN, sNx, sBrk, sCont, sSeq, sIf, sEx, sApp, sPut, g2N, gAllL, fn, Fl.mine, at0, at1, at2, at3, sExt, gIsL, gInt, dFu, dCallV, gIn, gNotIn, gIdx, gSum, dComp, iAny, capsOf, hL] at cp ⊢
    simp [cp]) ?_
  unfold sSeq
  rw [hl]
  cases o <;> rfl
theorem e_lookedG {r s : Int} {rs : List Rl} (hlen : rs.length ≤ 10000) : F_looked [.d (mD r s rs)] = some (if GoodX r s rs then some (.d (.int ((somes rs).length : Int))) else none) := by
  have cp := cp_told rs
  have hLl : ((rs.map rlD).length : Int) = (rs.length : Int) := by rw [List.length_map]
  have hL : (rs.map rlD).length ≤ 10000 := by rw [List.length_map]; omega
  by_cases c1 : 1 ≤ r ∧ r ≤ 6
  · have m' : (-18446744073709551616 < r ∧ r < 18446744073709551616) ∨ (-18446744073709551616 < s ∧ s < 18446744073709551616) := .inl (by omega)
    by_cases c2 : 2 ≤ s ∧ s ≤ 4
    · by_cases c3 : (rs.length : Int) = r * s
      · by_cases c4 : ∀ t ∈ somes rs, Gr r s t
        · rw [if_pos ⟨c1, c2, c3, c4⟩]
          obtain ⟨l, e⟩ := look_loop r s (mD r s rs) (.tup (rs.map rlD)) ((somes rs).map trD) (somes rs) none c4
          refine fnX_rt rfl ?_
          have key := looked_aux r s (rs.map rlD) ((somes rs).map trD) hL cp m' c1 c2 (by rw [hLl]; exact c3) (.nx [some (.d (mD r s rs)), some (.d (.int r)), some (.d (.int s)), some (.d (.tup (rs.map rlD))), some (.l .bor ((somes rs).map trD)), l]) (by
            unfold L1_looked sForV
            exact e)
          refine key.trans ?_
          have : ((somes rs).map trD).length = (somes rs).length := List.length_map _
          generalize (somes rs).map trD = M at *
          unfold endO
          simp [dVar, dC, d1, d2, gI, kSub, kMul, kDiv, kMod, kPow, kLt, kLe, kGt, kGe, eqK, gEq, gNe, isN, gIsN, gNotN, gNeg, dCh, qB, qAnd, qOr, qNot, qYes, dAnd, dOr, dNot, dIf, gIx, oI, dSl, aNil, aCons, plainD, dTup, dLst, gAdd, R.arg, dCall, gLen, gTuple, gList, gMax, gMin, isT, gIs, dB, see, keepR, sSet, retR, sRet, sRetV, sRetN, sNx, sBrk, sCont, sSeq, sIf, sEx, sApp, sPut, g2N, gAllL, fn, Fl.mine, at0, at1, at2, at3, sExt, gIsL, gInt, dFu, dCallV, gIn, gNotIn, gIdx, gSum, this]
        · rw [if_neg (fun z => c4 z.2.2.2)]
          have e := look_bad r s (mD r s rs) (.tup (rs.map rlD)) ((somes rs).map trD) (somes rs) none c4
          refine fnX_ex rfl ?_
          exact looked_aux r s (rs.map rlD) ((somes rs).map trD) hL cp m' c1 c2 (by rw [hLl]; exact c3) .ex (by
            unfold L1_looked sForV
            exact e)
      · rw [if_neg (fun z => c3 z.2.2.1)]
        refine fnX_ex rfl ?_
        show B_looked [some (.d (mD r s rs)), none, none, none, none, none] = _
        have hne : ¬ (((rs.map rlD).length : Int) = r * s) := by rw [hLl]; exact c3
        unfold mD
        generalize rs.map rlD = L at *
        unfold B_looked
        refine sSeq_nx (δ' := [some (.d (.tup [.int r, .int s, .tup L])), some (.d (.int r)), none, none, none, none]) (by simp [dVar, dC, d1, d2, gI, kSub, kMul, kDiv, kMod, kPow, kLt, kLe, kGt, kGe, eqK, gEq, gNe, isN, gIsN, gNotN, gNeg, dCh, qB, qAnd, qOr, qNot, qYes, dAnd, dOr, dNot, dIf, gIx, oI, dSl, aNil, aCons, plainD, dTup, dLst, gAdd, R.arg, dCall, gLen, gTuple, gList, gMax, gMin, isT, gIs, dB, see, keepR, sSet, retR, sRet, sRetV, sRetN, sNx, sBrk, sCont, sSeq, sIf, sEx, sApp, sPut, g2N, gAllL, fn, Fl.mine, at0, at1, at2, at3, sExt, gIsL, gInt, dFu, dCallV, gIn, gNotIn, gIdx, gSum]) ?_
        refine sSeq_nx (δ' := [some (.d (.tup [.int r, .int s, .tup L])), some (.d (.int r)), some (.d (.int s)), none, none, none]) (by simp [dVar, dC, d1, d2, gI, kSub, kMul, kDiv, kMod, kPow, kLt, kLe, kGt, kGe, eqK, gEq, gNe, isN, gIsN, gNotN, gNeg, dCh, qB, qAnd, qOr, qNot, qYes, dAnd, dOr, dNot, dIf, gIx, oI, dSl, aNil, aCons, plainD, dTup, dLst, gAdd, R.arg, dCall, gLen, gTuple, gList, gMax, gMin, isT, gIs, dB, see, keepR, sSet, retR, sRet, sRetV, sRetN, sNx, sBrk, sCont, sSeq, sIf, sEx, sApp, sPut, g2N, gAllL, fn, Fl.mine, at0, at1, at2, at3, sExt, gIsL, gInt, dFu, dCallV, gIn, gNotIn, gIdx, gSum]) ?_
        refine sSeq_nx (δ' := [some (.d (.tup [.int r, .int s, .tup L])), some (.d (.int r)), some (.d (.int s)), some (.d (.tup L)), none, none]) (by simp [dVar, dC, d1, d2, gI, kSub, kMul, kDiv, kMod, kPow, kLt, kLe, kGt, kGe, eqK, gEq, gNe, isN, gIsN, gNotN, gNeg, dCh, qB, qAnd, qOr, qNot, qYes, dAnd, dOr, dNot, dIf, gIx, oI, dSl, aNil, aCons, plainD, dTup, dLst, gAdd, R.arg, dCall, gLen, gTuple, gList, gMax, gMin, isT, gIs, dB, see, keepR, sSet, retR, sRet, sRetV, sRetN, sNx, sBrk, sCont, sSeq, sIf, sEx, sApp, sPut, g2N, gAllL, fn, Fl.mine, at0, at1, at2, at3, sExt, gIsL, gInt, dFu, dCallV, gIn, gNotIn, gIdx, gSum]) ?_
        refine sSeq_nx (δ' := [some (.d (.tup [.int r, .int s, .tup L])), some (.d (.int r)), some (.d (.int s)), some (.d (.tup L)), none, none]) (by simp [dVar, dC, d1, d2, gI, kSub, kMul, kDiv, kMod, kPow, kLt, kLe, kGt, kGe, eqK, gEq, gNe, isN, gIsN, gNotN, gNeg, dCh, qB, qAnd, qOr, qNot, qYes, dAnd, dOr, dNot, dIf, gIx, oI, dSl, aNil, aCons, plainD, dTup, dLst, gAdd, R.arg, dCall, gLen, gTuple, gList, gMax, gMin, isT, gIs, dB, see, keepR, sSet, retR, sRet, sRetV, sRetN, sNx, sBrk, sCont, sSeq, sIf, sEx, sApp, sPut, g2N, gAllL, fn, Fl.mine, at0, at1, at2, at3, sExt, gIsL, gInt, dFu, dCallV, gIn, gNotIn, gIdx, gSum, c1.1, c1.2]) ?_
        refine sSeq_nx (δ' := [some (.d (.tup [.int r, .int s, .tup L])), some (.d (.int r)), some (.d (.int s)), some (.d (.tup L)), none, none]) (by simp [dVar, dC, d1, d2, gI, kSub, kMul, kDiv, kMod, kPow, kLt, kLe, kGt, kGe, eqK, gEq, gNe, isN, gIsN, gNotN, gNeg, dCh, qB, qAnd, qOr, qNot, qYes, dAnd, dOr, dNot, dIf, gIx, oI, dSl, aNil, aCons, plainD, dTup, dLst, gAdd, R.arg, dCall, gLen, gTuple, gList, gMax, gMin, isT, gIs, dB, see, keepR, sSet, retR, sRet, sRetV, sRetN, sNx, sBrk, sCont, sSeq, sIf, sEx, sApp, sPut, g2N, gAllL, fn, Fl.mine, at0, at1, at2, at3, sExt, gIsL, gInt, dFu, dCallV, gIn, gNotIn, gIdx, gSum, c2.1, c2.2]) ?_
        refine sSeq_ex ?_
        simp [dVar, dC, d1, d2, gI, kSub, kMul, kDiv, kMod, kPow, kLt, kLe, kGt, kGe, eqK, gEq, gNe, isN, gIsN, gNotN, gNeg, dCh, qB, qAnd, qOr, qNot, qYes, dAnd, dOr, dNot, dIf, gIx, oI, dSl, aNil, aCons, plainD, dTup, dLst, gAdd, R.arg, dCall, gLen, gTuple, gList, gMax, gMin, isT, gIs, dB, see, keepR, sSet, retR, sRet, sRetV, sRetN, sNx, sBrk, sCont, sSeq, sIf, sEx, sApp, sPut, g2N, gAllL, fn, Fl.mine, at0, at1, at2, at3, sExt, gIsL, gInt, dFu, dCallV, gIn, gNotIn, gIdx, gSum, sRaise, m', hne]
    · rw [if_neg (fun z => c2 z.2.1)]
      refine fnX_ex rfl ?_
      show B_looked [some (.d (mD r s rs)), none, none, none, none, none] = _
      unfold mD
      generalize rs.map rlD = L at *
      unfold B_looked
      refine sSeq_nx (δ' := [some (.d (.tup [.int r, .int s, .tup L])), some (.d (.int r)), none, none, none, none]) (by simp [dVar, dC, d1, d2, gI, kSub, kMul, kDiv, kMod, kPow, kLt, kLe, kGt, kGe, eqK, gEq, gNe, isN, gIsN, gNotN, gNeg, dCh, qB, qAnd, qOr, qNot, qYes, dAnd, dOr, dNot, dIf, gIx, oI, dSl, aNil, aCons, plainD, dTup, dLst, gAdd, R.arg, dCall, gLen, gTuple, gList, gMax, gMin, isT, gIs, dB, see, keepR, sSet, retR, sRet, sRetV, sRetN, sNx, sBrk, sCont, sSeq, sIf, sEx, sApp, sPut, g2N, gAllL, fn, Fl.mine, at0, at1, at2, at3, sExt, gIsL, gInt, dFu, dCallV, gIn, gNotIn, gIdx, gSum]) ?_
      refine sSeq_nx (δ' := [some (.d (.tup [.int r, .int s, .tup L])), some (.d (.int r)), some (.d (.int s)), none, none, none]) (by simp [dVar, dC, d1, d2, gI, kSub, kMul, kDiv, kMod, kPow, kLt, kLe, kGt, kGe, eqK, gEq, gNe, isN, gIsN, gNotN, gNeg, dCh, qB, qAnd, qOr, qNot, qYes, dAnd, dOr, dNot, dIf, gIx, oI, dSl, aNil, aCons, plainD, dTup, dLst, gAdd, R.arg, dCall, gLen, gTuple, gList, gMax, gMin, isT, gIs, dB, see, keepR, sSet, retR, sRet, sRetV, sRetN, sNx, sBrk, sCont, sSeq, sIf, sEx, sApp, sPut, g2N, gAllL, fn, Fl.mine, at0, at1, at2, at3, sExt, gIsL, gInt, dFu, dCallV, gIn, gNotIn, gIdx, gSum]) ?_
      refine sSeq_nx (δ' := [some (.d (.tup [.int r, .int s, .tup L])), some (.d (.int r)), some (.d (.int s)), some (.d (.tup L)), none, none]) (by simp [dVar, dC, d1, d2, gI, kSub, kMul, kDiv, kMod, kPow, kLt, kLe, kGt, kGe, eqK, gEq, gNe, isN, gIsN, gNotN, gNeg, dCh, qB, qAnd, qOr, qNot, qYes, dAnd, dOr, dNot, dIf, gIx, oI, dSl, aNil, aCons, plainD, dTup, dLst, gAdd, R.arg, dCall, gLen, gTuple, gList, gMax, gMin, isT, gIs, dB, see, keepR, sSet, retR, sRet, sRetV, sRetN, sNx, sBrk, sCont, sSeq, sIf, sEx, sApp, sPut, g2N, gAllL, fn, Fl.mine, at0, at1, at2, at3, sExt, gIsL, gInt, dFu, dCallV, gIn, gNotIn, gIdx, gSum]) ?_
      refine sSeq_nx (δ' := [some (.d (.tup [.int r, .int s, .tup L])), some (.d (.int r)), some (.d (.int s)), some (.d (.tup L)), none, none]) (by simp [dVar, dC, d1, d2, gI, kSub, kMul, kDiv, kMod, kPow, kLt, kLe, kGt, kGe, eqK, gEq, gNe, isN, gIsN, gNotN, gNeg, dCh, qB, qAnd, qOr, qNot, qYes, dAnd, dOr, dNot, dIf, gIx, oI, dSl, aNil, aCons, plainD, dTup, dLst, gAdd, R.arg, dCall, gLen, gTuple, gList, gMax, gMin, isT, gIs, dB, see, keepR, sSet, retR, sRet, sRetV, sRetN, sNx, sBrk, sCont, sSeq, sIf, sEx, sApp, sPut, g2N, gAllL, fn, Fl.mine, at0, at1, at2, at3, sExt, gIsL, gInt, dFu, dCallV, gIn, gNotIn, gIdx, gSum, c1.1, c1.2]) ?_
      refine sSeq_ex ?_
      by_cases z : 2 ≤ s
      · have z2 : ¬ s ≤ 4 := fun z' => c2 ⟨z, z'⟩
        simp [dVar, dC, d1, d2, gI, kSub, kMul, kDiv, kMod, kPow, kLt, kLe, kGt, kGe, eqK, gEq, gNe, isN, gIsN, gNotN, gNeg, dCh, qB, qAnd, qOr, qNot, qYes, dAnd, dOr, dNot, dIf, gIx, oI, dSl, aNil, aCons, plainD, dTup, dLst, gAdd, R.arg, dCall, gLen, gTuple, gList, gMax, gMin, isT, gIs, dB, see, keepR, sSet, retR, sRet, sRetV, sRetN, sNx, sBrk, sCont, sSeq, sIf, sEx, sApp, sPut, g2N, gAllL, fn, Fl.mine, at0, at1, at2, at3, sExt, gIsL, gInt, dFu, dCallV, gIn, gNotIn, gIdx, gSum, sRaise, z, z2]
      · simp [dVar, dC, d1, d2, gI, kSub, kMul, kDiv, kMod, kPow, kLt, kLe, kGt, kGe, eqK, gEq, gNe, isN, gIsN, gNotN, gNeg, dCh, qB, qAnd, qOr, qNot, qYes, dAnd, dOr, dNot, dIf, gIx, oI, dSl, aNil, aCons, plainD, dTup, dLst, gAdd, R.arg, dCall, gLen, gTuple, gList, gMax, gMin, isT, gIs, dB, see, keepR, sSet, retR, sRet, sRetV, sRetN, sNx, sBrk, sCont, sSeq, sIf, sEx, sApp, sPut, g2N, gAllL, fn, Fl.mine, at0, at1, at2, at3, sExt, gIsL, gInt, dFu, dCallV, gIn, gNotIn, gIdx, gSum, sRaise, z]
  · rw [if_neg (fun z => c1 z.1)]
    refine fnX_ex rfl ?_
    show B_looked [some (.d (mD r s rs)), none, none, none, none, none] = _
    unfold mD
    generalize rs.map rlD = L at *
    unfold B_looked
    refine sSeq_nx (δ' := [some (.d (.tup [.int r, .int s, .tup L])), some (.d (.int r)), none, none, none, none]) (by simp [dVar, dC, d1, d2, gI, kSub, kMul, kDiv, kMod, kPow, kLt, kLe, kGt, kGe, eqK, gEq, gNe, isN, gIsN, gNotN, gNeg, dCh, qB, qAnd, qOr, qNot, qYes, dAnd, dOr, dNot, dIf, gIx, oI, dSl, aNil, aCons, plainD, dTup, dLst, gAdd, R.arg, dCall, gLen, gTuple, gList, gMax, gMin, isT, gIs, dB, see, keepR, sSet, retR, sRet, sRetV, sRetN, sNx, sBrk, sCont, sSeq, sIf, sEx, sApp, sPut, g2N, gAllL, fn, Fl.mine, at0, at1, at2, at3, sExt, gIsL, gInt, dFu, dCallV, gIn, gNotIn, gIdx, gSum]) ?_
    refine sSeq_nx (δ' := [some (.d (.tup [.int r, .int s, .tup L])), some (.d (.int r)), some (.d (.int s)), none, none, none]) (by simp [dVar, dC, d1, d2, gI, kSub, kMul, kDiv, kMod, kPow, kLt, kLe, kGt, kGe, eqK, gEq, gNe, isN, gIsN, gNotN, gNeg, dCh, qB, qAnd, qOr, qNot, qYes, dAnd, dOr, dNot, dIf, gIx, oI, dSl, aNil, aCons, plainD, dTup, dLst, gAdd, R.arg, dCall, gLen, gTuple, gList, gMax, gMin, isT, gIs, dB, see, keepR, sSet, retR, sRet, sRetV, sRetN, sNx, sBrk, sCont, sSeq, sIf, sEx, sApp, sPut, g2N, gAllL, fn, Fl.mine, at0, at1, at2, at3, sExt, gIsL, gInt, dFu, dCallV, gIn, gNotIn, gIdx, gSum]) ?_
    refine sSeq_nx (δ' := [some (.d (.tup [.int r, .int s, .tup L])), some (.d (.int r)), some (.d (.int s)), some (.d (.tup L)), none, none]) (by simp [dVar, dC, d1, d2, gI, kSub, kMul, kDiv, kMod, kPow, kLt, kLe, kGt, kGe, eqK, gEq, gNe, isN, gIsN, gNotN, gNeg, dCh, qB, qAnd, qOr, qNot, qYes, dAnd, dOr, dNot, dIf, gIx, oI, dSl, aNil, aCons, plainD, dTup, dLst, gAdd, R.arg, dCall, gLen, gTuple, gList, gMax, gMin, isT, gIs, dB, see, keepR, sSet, retR, sRet, sRetV, sRetN, sNx, sBrk, sCont, sSeq, sIf, sEx, sApp, sPut, g2N, gAllL, fn, Fl.mine, at0, at1, at2, at3, sExt, gIsL, gInt, dFu, dCallV, gIn, gNotIn, gIdx, gSum]) ?_
    refine sSeq_ex ?_
    by_cases z : 1 ≤ r
    · have z2 : ¬ r ≤ 6 := fun z' => c1 ⟨z, z'⟩
      simp [dVar, dC, d1, d2, gI, kSub, kMul, kDiv, kMod, kPow, kLt, kLe, kGt, kGe, eqK, gEq, gNe, isN, gIsN, gNotN, gNeg, dCh, qB, qAnd, qOr, qNot, qYes, dAnd, dOr, dNot, dIf, gIx, oI, dSl, aNil, aCons, plainD, dTup, dLst, gAdd, R.arg, dCall, gLen, gTuple, gList, gMax, gMin, isT, gIs, dB, see, keepR, sSet, retR, sRet, sRetV, sRetN, sNx, sBrk, sCont, sSeq, sIf, sEx, sApp, sPut, g2N, gAllL, fn, Fl.mine, at0, at1, at2, at3, sExt, gIsL, gInt, dFu, dCallV, gIn, gNotIn, gIdx, gSum, sRaise, z, z2]
    · simp [dVar, dC, d1, d2, gI, kSub, kMul, kDiv, kMod, kPow, kLt, kLe, kGt, kGe, eqK, gEq, gNe, isN, gIsN, gNotN, gNeg, dCh, qB, qAnd, qOr, qNot, qYes, dAnd, dOr, dNot, dIf, gIx, oI, dSl, aNil, aCons, plainD, dTup, dLst, gAdd, R.arg, dCall, gLen, gTuple, gList, gMax, gMin, isT, gIs, dB, see, keepR, sSet, retR, sRet, sRetV, sRetN, sNx, sBrk, sCont, sSeq, sIf, sEx, sApp, sPut, g2N, gAllL, fn, Fl.mine, at0, at1, at2, at3, sExt, gIsL, gInt, dFu, dCallV, gIn, gNotIn, gIdx, gSum, sRaise, z]


noncomputable def ch (w : Str) (k : Nat) : Nat := w.cps.toList.getD k 0
noncomputable def fgc (c : Nat) : Option Int := if 48 ≤ c ∧ c ≤ 57 then some ((c : Int) - 48) else none
noncomputable def yc (c : Nat) : Option Int := if c = 60 then some 0 else if c = 62 then some 1 else none
noncomputable def fgW (w : Str) : Option Int := if w.length = 1 then fgc (ch w 0) else none
theorem str_lenL (a : Str) : a.length = a.cps.toList.length := by
  show a.cps.size = _
  simp
theorem str_extL {a b : Str} (h : a.cps.toList = b.cps.toList) : a = b := by
  cases a; cases b
  congr 1
  exact Array.toList_inj.mp h
theorem one_of {w : Str} (h : w.length = 1) : w = ⟨#[ch w 0]⟩ := by
  apply str_extL
  rw [str_lenL] at h
  unfold ch
  generalize w.cps.toList = l at *
  match l, h with
  | [a], _ => rfl
theorem in_fig (c : Nat) : sInS ⟨#[c]⟩ "0123456789" = decide (48 ≤ c ∧ c ≤ 57) := by
  unfold sInS
  rw [StrLaws.found_one]
  have : (("0123456789" : Str).cps.toList) = [48, 49, 50, 51, 52, 53, 54, 55, 56, 57] := by decide +kernel
  rw [this]
  refine decide_eq_decide.mpr ?_
  simp only [List.mem_cons, List.not_mem_nil, or_false]
  omega
theorem in_way (c : Nat) : sInS ⟨#[c]⟩ "<>" = (yc c).isSome := by
  unfold sInS yc
  rw [StrLaws.found_one]
  have : (("<>" : Str).cps.toList) = [60, 62] := by decide +kernel
  rw [this]
  simp only [List.mem_cons, List.not_mem_nil, or_false]
  by_cases h1 : c = 60
  · simp [h1]
  · by_cases h2 : c = 62
    · simp [h2]
    · simp [h1, h2]
theorem ix_fig : ∀ k : Fin 10, (Builtin.Str.occurrences "0123456789" ⟨#[48 + k.val]⟩ 0 ("0123456789" : Str).length 1).head? = some k.val := by decide +kernel
theorem fd_fig : ∀ k : Fin 10, Txt.find "0123456789" ⟨#[48 + k.val]⟩ = (k.val : Int) := by decide +kernel
theorem len_one (c : Nat) : (⟨#[c]⟩ : Str).length = 1 := rfl
theorem ix_fig' {c : Nat} (h : 48 ≤ c ∧ c ≤ 57) : gIdxS (.d (.str "0123456789")) (.d (.str ⟨#[c]⟩)) = some (.d (.int ((c : Int) - 48))) := by
  have e := ix_fig ⟨c - 48, by omega⟩
  dsimp only at e
  rw [show 48 + (c - 48) = c by omega] at e
  unfold gIdxS
  dsimp only
  rw [e]
  show some (R.d (D.int ((c - 48 : Nat) : Int))) = _
  congr 3
  omega
theorem fd_fig' {c : Nat} (h : 48 ≤ c ∧ c ≤ 57) : Txt.find "0123456789" ⟨#[c]⟩ = (c : Int) - 48 := by
  have e := fd_fig ⟨c - 48, by omega⟩
  dsimp only at e
  rw [show 48 + (c - 48) = c by omega] at e
  rw [e]
  omega
theorem e_fig1 (c : Nat) : F_figure [.d (.str ⟨#[c]⟩)] = some ((fgc c).map fun i => .d (.int i)) := by
  have hi := in_fig c
  have hl := len_one c
  unfold fgc
  by_cases h : 48 ≤ c ∧ c ≤ 57
  · have ex := ix_fig' h
    rw [decide_eq_true h] at hi
    rw [if_pos h]
    refine fnX_rt rfl ?_
    unfold B_figure
    generalize (⟨#[c]⟩ : Str) = w at *
    simp [dVar, dC, d1, d2, gI, kSub, kMul, kDiv, kMod, kPow, kLt, kLe, kGt, kGe, eqK, gEq, gNe, isN, gIsN, gNotN, gNeg, dCh, qB, qAnd, qOr, qNot, qYes, dAnd, dOr, dNot, dIf, gIx, oI, dSl, aNil, aCons, plainD, dTup, dLst, gAdd, R.arg, dCall, gLen, gTuple, gList, gMax, gMin, isT, gIs, dB, see, keepR, sSet, retR, sRet, sRetV, sRetN, sNx, sBrk, sCont, sSeq, sIf, sEx, sApp, sPut, g2N, gAllL, fn, Fl.mine, at0, at1, at2, at3, sExt, gIsL, gInt, dFu, dCallV, gIn, gNotIn, gIdx, gSum, gLenS, gNotInS, hi, hl, ex]
  · rw [decide_eq_false h] at hi
    rw [if_neg h]
    refine fnX_ex rfl ?_
    unfold B_figure
    generalize (⟨#[c]⟩ : Str) = w at *
    simp [dVar, dC, d1, d2, gI, kSub, kMul, kDiv, kMod, kPow, kLt, kLe, kGt, kGe, eqK, gEq, gNe, isN, gIsN, gNotN, gNeg, dCh, qB, qAnd, qOr, qNot, qYes, dAnd, dOr, dNot, dIf, gIx, oI, dSl, aNil, aCons, plainD, dTup, dLst, gAdd, R.arg, dCall, gLen, gTuple, gList, gMax, gMin, isT, gIs, dB, see, keepR, sSet, retR, sRet, sRetV, sRetN, sNx, sBrk, sCont, sSeq, sIf, sEx, sApp, sPut, g2N, gAllL, fn, Fl.mine, at0, at1, at2, at3, sExt, gIsL, gInt, dFu, dCallV, gIn, gNotIn, gIdx, gSum, gLenS, gNotInS, hi, hl, sRaise]
theorem e_fig {w : Str} (hw : w.length ≤ 10000) : F_figure [.d (.str w)] = some ((fgW w).map fun i => .d (.int i)) := by
  unfold fgW
  by_cases h : w.length = 1
  · rw [if_pos h]
    have e := e_fig1 (ch w 0)
    rw [← one_of h] at e
    exact e
  · rw [if_neg h]
    refine fnX_ex rfl ?_
    unfold B_figure
    have h' : ¬ ((w.length : Int) = 1) := by omega
    simp [dVar, dC, d1, d2, gI, kSub, kMul, kDiv, kMod, kPow, kLt, kLe, kGt, kGe, eqK, gEq, gNe, isN, gIsN, gNotN, gNeg, dCh, qB, qAnd, qOr, qNot, qYes, dAnd, dOr, dNot, dIf, gIx, oI, dSl, aNil, aCons, plainD, dTup, dLst, gAdd, R.arg, dCall, gLen, gTuple, gList, gMax, gMin, isT, gIs, dB, see, keepR, sSet, retR, sRet, sRetV, sRetN, sNx, sBrk, sCont, sSeq, sIf, sEx, sApp, sPut, g2N, gAllL, fn, Fl.mine, at0, at1, at2, at3, sExt, gIsL, gInt, dFu, dCallV, gIn, gNotIn, gIdx, gSum, gLenS, hw, h, h', sRaise]
theorem e_lfig1 (c : Nat) : F_law_figure [.d (.str ⟨#[c]⟩)] = some (.d (.int ((fgc c).getD (-1)))) := by
  have hi := in_fig c
  have hl := len_one c
  unfold fgc
  refine fn_rt rfl ?_
  unfold B_law_figure
  by_cases h : 48 ≤ c ∧ c ≤ 57
  · have ex := fd_fig' h
    rw [decide_eq_true h] at hi
    rw [if_pos h]
    generalize (⟨#[c]⟩ : Str) = w at *
    simp [dVar, dC, d1, d2, gI, kSub, kMul, kDiv, kMod, kPow, kLt, kLe, kGt, kGe, eqK, gEq, gNe, isN, gIsN, gNotN, gNeg, dCh, qB, qAnd, qOr, qNot, qYes, dAnd, dOr, dNot, dIf, gIx, oI, dSl, aNil, aCons, plainD, dTup, dLst, gAdd, R.arg, dCall, gLen, gTuple, gList, gMax, gMin, isT, gIs, dB, see, keepR, sSet, retR, sRet, sRetV, sRetN, sNx, sBrk, sCont, sSeq, sIf, sEx, sApp, sPut, g2N, gAllL, fn, Fl.mine, at0, at1, at2, at3, sExt, gIsL, gInt, dFu, dCallV, gIn, gNotIn, gIdx, gSum, gLenS, gInS, gFindS, hi, hl, ex]
  · rw [decide_eq_false h] at hi
    rw [if_neg h]
    generalize (⟨#[c]⟩ : Str) = w at *
    simp [dVar, dC, d1, d2, gI, kSub, kMul, kDiv, kMod, kPow, kLt, kLe, kGt, kGe, eqK, gEq, gNe, isN, gIsN, gNotN, gNeg, dCh, qB, qAnd, qOr, qNot, qYes, dAnd, dOr, dNot, dIf, gIx, oI, dSl, aNil, aCons, plainD, dTup, dLst, gAdd, R.arg, dCall, gLen, gTuple, gList, gMax, gMin, isT, gIs, dB, see, keepR, sSet, retR, sRet, sRetV, sRetN, sNx, sBrk, sCont, sSeq, sIf, sEx, sApp, sPut, g2N, gAllL, fn, Fl.mine, at0, at1, at2, at3, sExt, gIsL, gInt, dFu, dCallV, gIn, gNotIn, gIdx, gSum, gLenS, gInS, hi, hl]
theorem e_lfig {w : Str} (hw : w.length ≤ 10000) : F_law_figure [.d (.str w)] = some (.d (.int ((fgW w).getD (-1)))) := by
  unfold fgW
  by_cases h : w.length = 1
  · rw [if_pos h]
    have e := e_lfig1 (ch w 0)
    rw [← one_of h] at e
    exact e
  · rw [if_neg h]
    refine fn_rt rfl ?_
    unfold B_law_figure
    have h' : ¬ ((w.length : Int) = 1) := by omega
    simp [dVar, dC, d1, d2, gI, kSub, kMul, kDiv, kMod, kPow, kLt, kLe, kGt, kGe, eqK, gEq, gNe, isN, gIsN, gNotN, gNeg, dCh, qB, qAnd, qOr, qNot, qYes, dAnd, dOr, dNot, dIf, gIx, oI, dSl, aNil, aCons, plainD, dTup, dLst, gAdd, R.arg, dCall, gLen, gTuple, gList, gMax, gMin, isT, gIs, dB, see, keepR, sSet, retR, sRet, sRetV, sRetN, sNx, sBrk, sCont, sSeq, sIf, sEx, sApp, sPut, g2N, gAllL, fn, Fl.mine, at0, at1, at2, at3, sExt, gIsL, gInt, dFu, dCallV, gIn, gNotIn, gIdx, gSum, gLenS, hw, h, h']
noncomputable def ro (w : Str) : Option Rl := if w = "-" then some none else if w.length = 3 then
    (fgc (ch w 0)).bind fun p => (yc (ch w 1)).bind fun z => (fgc (ch w 2)).map fun q => some (p, z, q)
  else none
theorem ix_at {w : Str} {k : Nat} {n : Nat} (h : w.length = n) (hn : n ≤ 10000) (hk : k < n) : gIxS (.d (.str w)) (.d (.int (k : Int))) = some (.d (.str ⟨#[ch w k]⟩)) := by
  unfold gIxS
  dsimp only
  rw [if_pos (by omega)]
  have hk' : k < w.cps.toList.length := by rw [← str_lenL]; omega
  rw [atP_nat, List.getElem?_eq_getElem hk']
  unfold ch
  rw [List.getD_eq_getElem?_getD, List.getElem?_eq_getElem hk']
  rfl
theorem way_ix {c : Nat} {z : Int} (h : yc c = some z) : gIdxS (.d (.str "<>")) (.d (.str ⟨#[c]⟩)) = some (.d (.int z)) ∧ Txt.find "<>" ⟨#[c]⟩ = z ∧ (0 ≤ z ∧ z ≤ 1) := by
  unfold yc at h
  split at h
  · rename_i hc
    cases h
    subst hc
    refine ⟨?_, by decide +kernel, by decide⟩
    have e : (Builtin.Str.occurrences "<>" ⟨#[60]⟩ 0 ("<>" : Str).length 1).head? = some 0 := by decide +kernel
    unfold gIdxS
    dsimp only
    rw [e]
    rfl
  · split at h
    · rename_i _ hc
      cases h
      subst hc
      refine ⟨?_, by decide +kernel, by decide⟩
      have e : (Builtin.Str.occurrences "<>" ⟨#[62]⟩ 0 ("<>" : Str).length 1).head? = some 1 := by decide +kernel
      unfold gIdxS
      dsimp only
      rw [e]
      rfl
    · cases h
theorem e_ro {w : Str} (hw : w.length ≤ 10000) : F_rule_of [.d (.str w)] = some ((ro w).map fun x => .d (rlD x)) := by
  unfold ro
  by_cases h0 : w = "-"
  · rw [if_pos h0]
    refine fnX_rt rfl ?_
    unfold B_rule_of
    simp [dVar, dC, d1, d2, gI, kSub, kMul, kDiv, kMod, kPow, kLt, kLe, kGt, kGe, eqK, gEq, gNe, isN, gIsN, gNotN, gNeg, dCh, qB, qAnd, qOr, qNot, qYes, dAnd, dOr, dNot, dIf, gIx, oI, dSl, aNil, aCons, plainD, dTup, dLst, gAdd, R.arg, dCall, gLen, gTuple, gList, gMax, gMin, isT, gIs, dB, see, keepR, sSet, retR, sRet, sRetV, sRetN, sNx, sBrk, sCont, sSeq, sIf, sEx, sApp, sPut, g2N, gAllL, fn, Fl.mine, at0, at1, at2, at3, sExt, gIsL, gInt, dFu, dCallV, gIn, gNotIn, gIdx, gSum, h0, rlD]
  · rw [if_neg h0]
    by_cases h3 : w.length = 3
    · rw [if_pos h3]
      have i0 : gIxS (.d (.str w)) (.d (.int 0)) = _ := ix_at (k := 0) h3 (by omega) (by omega)
      have i1 : gIxS (.d (.str w)) (.d (.int 1)) = _ := ix_at (k := 1) h3 (by omega) (by omega)
      have i2 : gIxS (.d (.str w)) (.d (.int 2)) = _ := ix_at (k := 2) h3 (by omega) (by omega)
      have f0 := e_fig1 (ch w 0)
      have f2 := e_fig1 (ch w 2)
      have iw := in_way (ch w 1)
      generalize ch w 0 = a at *
      generalize ch w 1 = y at *
      generalize ch w 2 = b at *
      have h1' : (⟨#[y]⟩ : Str).length = 1 := rfl
      cases hy : yc y with
      | none =>
        rw [hy] at iw
        have e : (((fgc a).bind fun p => (none : Option Int).bind fun z => (fgc b).map fun q => (some (p, z, q) : Rl)).map fun x => R.d (rlD x)) = none := by cases fgc a <;> rfl
        rw [e]
        refine fnX_ex rfl ?_
        unfold B_rule_of
        generalize (⟨#[y]⟩ : Str) = wy at *
        simp [dVar, dC, d1, d2, gI, kSub, kMul, kDiv, kMod, kPow, kLt, kLe, kGt, kGe, eqK, gEq, gNe, isN, gIsN, gNotN, gNeg, dCh, qB, qAnd, qOr, qNot, qYes, dAnd, dOr, dNot, dIf, gIx, oI, dSl, aNil, aCons, plainD, dTup, dLst, gAdd, R.arg, dCall, gLen, gTuple, gList, gMax, gMin, isT, gIs, dB, see, keepR, sSet, retR, sRet, sRetV, sRetN, sNx, sBrk, sCont, sSeq, sIf, sEx, sApp, sPut, g2N, gAllL, fn, Fl.mine, at0, at1, at2, at3, sExt, gIsL, gInt, dFu, dCallV, gIn, gNotIn, gIdx, gSum, gLenS, gNotInS, h0, h3, i1, iw, sRaise]
      | some z =>
        rw [hy] at iw
        obtain ⟨x1, _, x2⟩ := way_ix hy
        have bod : B_rule_of [some (.d (.str w))] = sRetX (xTup (aConsX (xCall F_figure (aCons (d2 gIxS (dVar 0) (dC (.int 0))) aNil)) (aConsX (xOf (d2 gIdxS (dC (.str "<>")) (d2 gIxS (dVar 0) (dC (.int 1))))) (aConsX (xCall F_figure (aCons (d2 gIxS (dVar 0) (dC (.int 2))) aNil)) aNilX)))) [some (.d (.str w))] := by
          unfold B_rule_of
          refine sSeq_nx (δ' := [some (.d (.str w))]) (by simp [dVar, dC, d1, d2, gI, kSub, kMul, kDiv, kMod, kPow, kLt, kLe, kGt, kGe, eqK, gEq, gNe, isN, gIsN, gNotN, gNeg, dCh, qB, qAnd, qOr, qNot, qYes, dAnd, dOr, dNot, dIf, gIx, oI, dSl, aNil, aCons, plainD, dTup, dLst, gAdd, R.arg, dCall, gLen, gTuple, gList, gMax, gMin, isT, gIs, dB, see, keepR, sSet, retR, sRet, sRetV, sRetN, sNx, sBrk, sCont, sSeq, sIf, sEx, sApp, sPut, g2N, gAllL, fn, Fl.mine, at0, at1, at2, at3, sExt, gIsL, gInt, dFu, dCallV, gIn, gNotIn, gIdx, gSum, h0]) ?_
          refine sSeq_nx (δ' := [some (.d (.str w))]) ?_ rfl
          generalize (⟨#[y]⟩ : Str) = wy at *
          simp [dVar, dC, d1, d2, gI, kSub, kMul, kDiv, kMod, kPow, kLt, kLe, kGt, kGe, eqK, gEq, gNe, isN, gIsN, gNotN, gNeg, dCh, qB, qAnd, qOr, qNot, qYes, dAnd, dOr, dNot, dIf, gIx, oI, dSl, aNil, aCons, plainD, dTup, dLst, gAdd, R.arg, dCall, gLen, gTuple, gList, gMax, gMin, isT, gIs, dB, see, keepR, sSet, retR, sRet, sRetV, sRetN, sNx, sBrk, sCont, sSeq, sIf, sEx, sApp, sPut, g2N, gAllL, fn, Fl.mine, at0, at1, at2, at3, sExt, gIsL, gInt, dFu, dCallV, gIn, gNotIn, gIdx, gSum, gLenS, gNotInS, h0, h3, i1, iw]
        generalize (⟨#[a]⟩ : Str) = wa at *
        generalize (⟨#[y]⟩ : Str) = wy at *
        generalize (⟨#[b]⟩ : Str) = wb at *
        cases ha : fgc a with
        | none =>
          rw [ha] at f0
          refine fnX_ex rfl (bod.trans ?_)
          simp [dVar, dC, d1, d2, gI, kSub, kMul, kDiv, kMod, kPow, kLt, kLe, kGt, kGe, eqK, gEq, gNe, isN, gIsN, gNotN, gNeg, dCh, qB, qAnd, qOr, qNot, qYes, dAnd, dOr, dNot, dIf, gIx, oI, dSl, aNil, aCons, plainD, dTup, dLst, gAdd, R.arg, dCall, gLen, gTuple, gList, gMax, gMin, isT, gIs, dB, see, keepR, sSet, retR, sRet, sRetV, sRetN, sNx, sBrk, sCont, sSeq, sIf, sEx, sApp, sPut, g2N, gAllL, fn, Fl.mine, at0, at1, at2, at3, sExt, gIsL, gInt, dFu, dCallV, gIn, gNotIn, gIdx, gSum, sRetX, xTup, aConsX, xCall, i0, f0]
        | some p =>
          rw [ha] at f0
          cases hb : fgc b with
          | none =>
            rw [hb] at f2
            refine fnX_ex rfl (bod.trans ?_)
            simp [dVar, dC, d1, d2, gI, kSub, kMul, kDiv, kMod, kPow, kLt, kLe, kGt, kGe, eqK, gEq, gNe, isN, gIsN, gNotN, gNeg, dCh, qB, qAnd, qOr, qNot, qYes, dAnd, dOr, dNot, dIf, gIx, oI, dSl, aNil, aCons, plainD, dTup, dLst, gAdd, R.arg, dCall, gLen, gTuple, gList, gMax, gMin, isT, gIs, dB, see, keepR, sSet, retR, sRet, sRetV, sRetN, sNx, sBrk, sCont, sSeq, sIf, sEx, sApp, sPut, g2N, gAllL, fn, Fl.mine, at0, at1, at2, at3, sExt, gIsL, gInt, dFu, dCallV, gIn, gNotIn, gIdx, gSum, sRetX, xTup, aConsX, xCall, xOf, i0, f0, i1, x1, i2, f2]
          | some q =>
            rw [hb] at f2
            refine fnX_rt rfl (bod.trans ?_)
            simp [dVar, dC, d1, d2, gI, kSub, kMul, kDiv, kMod, kPow, kLt, kLe, kGt, kGe, eqK, gEq, gNe, isN, gIsN, gNotN, gNeg, dCh, qB, qAnd, qOr, qNot, qYes, dAnd, dOr, dNot, dIf, gIx, oI, dSl, aNil, aCons, plainD, dTup, dLst, gAdd, R.arg, dCall, gLen, gTuple, gList, gMax, gMin, isT, gIs, dB, see, keepR, sSet, retR, sRet, sRetV, sRetN, sNx, sBrk, sCont, sSeq, sIf, sEx, sApp, sPut, g2N, gAllL, fn, Fl.mine, at0, at1, at2, at3, sExt, gIsL, gInt, dFu, dCallV, gIn, gNotIn, gIdx, gSum, sRetX, xTup, aConsX, xCall, xOf, aNilX, i0, f0, i1, x1, i2, f2, rlD]
    · rw [if_neg h3]
      refine fnX_ex rfl ?_
      unfold B_rule_of
      have h' : ¬ ((w.length : Int) = 3) := by omega
      simp [dVar, dC, d1, d2, gI, kSub, kMul, kDiv, kMod, kPow, kLt, kLe, kGt, kGe, eqK, gEq, gNe, isN, gIsN, gNotN, gNeg, dCh, qB, qAnd, qOr, qNot, qYes, dAnd, dOr, dNot, dIf, gIx, oI, dSl, aNil, aCons, plainD, dTup, dLst, gAdd, R.arg, dCall, gLen, gTuple, gList, gMax, gMin, isT, gIs, dB, see, keepR, sSet, retR, sRet, sRetV, sRetN, sNx, sBrk, sCont, sSeq, sIf, sEx, sApp, sPut, g2N, gAllL, fn, Fl.mine, at0, at1, at2, at3, sExt, gIsL, gInt, dFu, dCallV, gIn, gNotIn, gIdx, gSum, gLenS, hw, h0, h3, h', sRaise]

noncomputable def lr (r s : Int) (w : Str) : D := match ro w with
  | none => .tup []
  | some none => .non
  | some (some t) => if Gr r s t then trD t else .tup []
theorem e_lr {w : Str} (hw : w.length ≤ 10000) (r s : Int) : F_law_rule [.d (.str w), .d (.int r), .d (.int s)] = some (.d (lr r s w)) := by
  refine fn_rt rfl ?_
  show B_law_rule [some (.d (.str w)), some (.d (.int r)), some (.d (.int s)), none] = _
  unfold lr ro
  by_cases h0 : w = "-"
  · rw [if_pos h0]
    unfold B_law_rule
    simp [dVar, dC, d1, d2, gI, kSub, kMul, kDiv, kMod, kPow, kLt, kLe, kGt, kGe, eqK, gEq, gNe, isN, gIsN, gNotN, gNeg, dCh, qB, qAnd, qOr, qNot, qYes, dAnd, dOr, dNot, dIf, gIx, oI, dSl, aNil, aCons, plainD, dTup, dLst, gAdd, R.arg, dCall, gLen, gTuple, gList, gMax, gMin, isT, gIs, dB, see, keepR, sSet, retR, sRet, sRetV, sRetN, sNx, sBrk, sCont, sSeq, sIf, sEx, sApp, sPut, g2N, gAllL, fn, Fl.mine, at0, at1, at2, at3, sExt, gIsL, gInt, dFu, dCallV, gIn, gNotIn, gIdx, gSum, h0]
  · rw [if_neg h0]
    by_cases h3 : w.length = 3
    · rw [if_pos h3]
      have i0 : gIxS (.d (.str w)) (.d (.int 0)) = _ := ix_at (k := 0) h3 (by omega) (by omega)
      have i1 : gIxS (.d (.str w)) (.d (.int 1)) = _ := ix_at (k := 1) h3 (by omega) (by omega)
      have i2 : gIxS (.d (.str w)) (.d (.int 2)) = _ := ix_at (k := 2) h3 (by omega) (by omega)
      have f0 := e_lfig1 (ch w 0)
      have f2 := e_lfig1 (ch w 2)
      have iw := in_way (ch w 1)
      generalize ch w 0 = a at *
      generalize ch w 1 = y at *
      generalize ch w 2 = b at *
      cases hy : yc y with
      | none =>
        rw [hy] at iw
        have e : ((fgc a).bind fun p => (none : Option Int).bind fun z => (fgc b).map fun q => (some (p, z, q) : Rl)) = none := by cases fgc a <;> rfl
        rw [e]
        unfold B_law_rule
        generalize (⟨#[y]⟩ : Str) = wy at *
        simp [dVar, dC, d1, d2, gI, kSub, kMul, kDiv, kMod, kPow, kLt, kLe, kGt, kGe, eqK, gEq, gNe, isN, gIsN, gNotN, gNeg, dCh, qB, qAnd, qOr, qNot, qYes, dAnd, dOr, dNot, dIf, gIx, oI, dSl, aNil, aCons, plainD, dTup, dLst, gAdd, R.arg, dCall, gLen, gTuple, gList, gMax, gMin, isT, gIs, dB, see, keepR, sSet, retR, sRet, sRetV, sRetN, sNx, sBrk, sCont, sSeq, sIf, sEx, sApp, sPut, g2N, gAllL, fn, Fl.mine, at0, at1, at2, at3, sExt, gIsL, gInt, dFu, dCallV, gIn, gNotIn, gIdx, gSum, gLenS, gNotInS, h0, h3, i1, iw]
      | some z =>
        rw [hy] at iw
        obtain ⟨_, x1, x2⟩ := way_ix hy
        unfold B_law_rule
        refine sSeq_nx (δ' := [some (.d (.str w)), some (.d (.int r)), some (.d (.int s)), none]) (by simp [dVar, dC, d1, d2, gI, kSub, kMul, kDiv, kMod, kPow, kLt, kLe, kGt, kGe, eqK, gEq, gNe, isN, gIsN, gNotN, gNeg, dCh, qB, qAnd, qOr, qNot, qYes, dAnd, dOr, dNot, dIf, gIx, oI, dSl, aNil, aCons, plainD, dTup, dLst, gAdd, R.arg, dCall, gLen, gTuple, gList, gMax, gMin, isT, gIs, dB, see, keepR, sSet, retR, sRet, sRetV, sRetN, sNx, sBrk, sCont, sSeq, sIf, sEx, sApp, sPut, g2N, gAllL, fn, Fl.mine, at0, at1, at2, at3, sExt, gIsL, gInt, dFu, dCallV, gIn, gNotIn, gIdx, gSum, h0]) ?_
        generalize (⟨#[a]⟩ : Str) = wa at *
        generalize (⟨#[y]⟩ : Str) = wy at *
        generalize (⟨#[b]⟩ : Str) = wb at *
        refine sSeq_nx (δ' := [some (.d (.str w)), some (.d (.int r)), some (.d (.int s)), none]) (by simp [dVar, dC, d1, d2, gI, kSub, kMul, kDiv, kMod, kPow, kLt, kLe, kGt, kGe, eqK, gEq, gNe, isN, gIsN, gNotN, gNeg, dCh, qB, qAnd, qOr, qNot, qYes, dAnd, dOr, dNot, dIf, gIx, oI, dSl, aNil, aCons, plainD, dTup, dLst, gAdd, R.arg, dCall, gLen, gTuple, gList, gMax, gMin, isT, gIs, dB, see, keepR, sSet, retR, sRet, sRetV, sRetN, sNx, sBrk, sCont, sSeq, sIf, sEx, sApp, sPut, g2N, gAllL, fn, Fl.mine, at0, at1, at2, at3, sExt, gIsL, gInt, dFu, dCallV, gIn, gNotIn, gIdx, gSum, gLenS, gNotInS, h0, h3, i1, iw]) ?_
        refine sSeq_nx (δ' := [some (.d (.str w)), some (.d (.int r)), some (.d (.int s)), some (.d (.tup [.int ((fgc a).getD (-1)), .int z, .int ((fgc b).getD (-1))]))]) (by simp [dVar, dC, d1, d2, gI, kSub, kMul, kDiv, kMod, kPow, kLt, kLe, kGt, kGe, eqK, gEq, gNe, isN, gIsN, gNotN, gNeg, dCh, qB, qAnd, qOr, qNot, qYes, dAnd, dOr, dNot, dIf, gIx, oI, dSl, aNil, aCons, plainD, dTup, dLst, gAdd, R.arg, dCall, gLen, gTuple, gList, gMax, gMin, isT, gIs, dB, see, keepR, sSet, retR, sRet, sRetV, sRetN, sNx, sBrk, sCont, sSeq, sIf, sEx, sApp, sPut, g2N, gAllL, fn, Fl.mine, at0, at1, at2, at3, sExt, gIsL, gInt, dFu, dCallV, gIn, gNotIn, gIdx, gSum, gFindS, i0, i1, i2, f0, f2, x1]) ?_
        cases ha : fgc a with
        | none => simp [dVar, dC, d1, d2, gI, kSub, kMul, kDiv, kMod, kPow, kLt, kLe, kGt, kGe, eqK, gEq, gNe, isN, gIsN, gNotN, gNeg, dCh, qB, qAnd, qOr, qNot, qYes, dAnd, dOr, dNot, dIf, gIx, oI, dSl, aNil, aCons, plainD, dTup, dLst, gAdd, R.arg, dCall, gLen, gTuple, gList, gMax, gMin, isT, gIs, dB, see, keepR, sSet, retR, sRet, sRetV, sRetN, sNx, sBrk, sCont, sSeq, sIf, sEx, sApp, sPut, g2N, gAllL, fn, Fl.mine, at0, at1, at2, at3, sExt, gIsL, gInt, dFu, dCallV, gIn, gNotIn, gIdx, gSum, gIxS]
        | some p =>
          cases hb : fgc b with
          | none =>
            by_cases c1 : 0 ≤ p ∧ p < s
            · simp [dVar, dC, d1, d2, gI, kSub, kMul, kDiv, kMod, kPow, kLt, kLe, kGt, kGe, eqK, gEq, gNe, isN, gIsN, gNotN, gNeg, dCh, qB, qAnd, qOr, qNot, qYes, dAnd, dOr, dNot, dIf, gIx, oI, dSl, aNil, aCons, plainD, dTup, dLst, gAdd, R.arg, dCall, gLen, gTuple, gList, gMax, gMin, isT, gIs, dB, see, keepR, sSet, retR, sRet, sRetV, sRetN, sNx, sBrk, sCont, sSeq, sIf, sEx, sApp, sPut, g2N, gAllL, fn, Fl.mine, at0, at1, at2, at3, sExt, gIsL, gInt, dFu, dCallV, gIn, gNotIn, gIdx, gSum, gIxS, c1.1, c1.2]
            · by_cases c2 : 0 ≤ p
              · have c3 : ¬ p < s := fun z => c1 ⟨c2, z⟩
                simp [dVar, dC, d1, d2, gI, kSub, kMul, kDiv, kMod, kPow, kLt, kLe, kGt, kGe, eqK, gEq, gNe, isN, gIsN, gNotN, gNeg, dCh, qB, qAnd, qOr, qNot, qYes, dAnd, dOr, dNot, dIf, gIx, oI, dSl, aNil, aCons, plainD, dTup, dLst, gAdd, R.arg, dCall, gLen, gTuple, gList, gMax, gMin, isT, gIs, dB, see, keepR, sSet, retR, sRet, sRetV, sRetN, sNx, sBrk, sCont, sSeq, sIf, sEx, sApp, sPut, g2N, gAllL, fn, Fl.mine, at0, at1, at2, at3, sExt, gIsL, gInt, dFu, dCallV, gIn, gNotIn, gIdx, gSum, gIxS, c2, c3]
              · simp [dVar, dC, d1, d2, gI, kSub, kMul, kDiv, kMod, kPow, kLt, kLe, kGt, kGe, eqK, gEq, gNe, isN, gIsN, gNotN, gNeg, dCh, qB, qAnd, qOr, qNot, qYes, dAnd, dOr, dNot, dIf, gIx, oI, dSl, aNil, aCons, plainD, dTup, dLst, gAdd, R.arg, dCall, gLen, gTuple, gList, gMax, gMin, isT, gIs, dB, see, keepR, sSet, retR, sRet, sRetV, sRetN, sNx, sBrk, sCont, sSeq, sIf, sEx, sApp, sPut, g2N, gAllL, fn, Fl.mine, at0, at1, at2, at3, sExt, gIsL, gInt, dFu, dCallV, gIn, gNotIn, gIdx, gSum, gIxS, c2]
          | some q =>
            by_cases g : Gr r s (p, z, q)
            · have g' := g
              obtain ⟨⟨g1, g2⟩, _, g3, g4⟩ := g'
              dsimp only at g1 g2 g3 g4
              simp [dVar, dC, d1, d2, gI, kSub, kMul, kDiv, kMod, kPow, kLt, kLe, kGt, kGe, eqK, gEq, gNe, isN, gIsN, gNotN, gNeg, dCh, qB, qAnd, qOr, qNot, qYes, dAnd, dOr, dNot, dIf, gIx, oI, dSl, aNil, aCons, plainD, dTup, dLst, gAdd, R.arg, dCall, gLen, gTuple, gList, gMax, gMin, isT, gIs, dB, see, keepR, sSet, retR, sRet, sRetV, sRetN, sNx, sBrk, sCont, sSeq, sIf, sEx, sApp, sPut, g2N, gAllL, fn, Fl.mine, at0, at1, at2, at3, sExt, gIsL, gInt, dFu, dCallV, gIn, gNotIn, gIdx, gSum, gIxS, g1, g2, g3, g4, g, trD]
            · by_cases c2 : 0 ≤ p
              · by_cases c3 : p < s
                · by_cases c4 : 0 ≤ q
                  · have c5 : ¬ q < r := fun z => g ⟨⟨c2, c3⟩, x2, c4, z⟩
                    simp [dVar, dC, d1, d2, gI, kSub, kMul, kDiv, kMod, kPow, kLt, kLe, kGt, kGe, eqK, gEq, gNe, isN, gIsN, gNotN, gNeg, dCh, qB, qAnd, qOr, qNot, qYes, dAnd, dOr, dNot, dIf, gIx, oI, dSl, aNil, aCons, plainD, dTup, dLst, gAdd, R.arg, dCall, gLen, gTuple, gList, gMax, gMin, isT, gIs, dB, see, keepR, sSet, retR, sRet, sRetV, sRetN, sNx, sBrk, sCont, sSeq, sIf, sEx, sApp, sPut, g2N, gAllL, fn, Fl.mine, at0, at1, at2, at3, sExt, gIsL, gInt, dFu, dCallV, gIn, gNotIn, gIdx, gSum, gIxS, c2, c3, c4, c5, g]
                  · simp [dVar, dC, d1, d2, gI, kSub, kMul, kDiv, kMod, kPow, kLt, kLe, kGt, kGe, eqK, gEq, gNe, isN, gIsN, gNotN, gNeg, dCh, qB, qAnd, qOr, qNot, qYes, dAnd, dOr, dNot, dIf, gIx, oI, dSl, aNil, aCons, plainD, dTup, dLst, gAdd, R.arg, dCall, gLen, gTuple, gList, gMax, gMin, isT, gIs, dB, see, keepR, sSet, retR, sRet, sRetV, sRetN, sNx, sBrk, sCont, sSeq, sIf, sEx, sApp, sPut, g2N, gAllL, fn, Fl.mine, at0, at1, at2, at3, sExt, gIsL, gInt, dFu, dCallV, gIn, gNotIn, gIdx, gSum, gIxS, c2, c3, c4, g]
                · simp [dVar, dC, d1, d2, gI, kSub, kMul, kDiv, kMod, kPow, kLt, kLe, kGt, kGe, eqK, gEq, gNe, isN, gIsN, gNotN, gNeg, dCh, qB, qAnd, qOr, qNot, qYes, dAnd, dOr, dNot, dIf, gIx, oI, dSl, aNil, aCons, plainD, dTup, dLst, gAdd, R.arg, dCall, gLen, gTuple, gList, gMax, gMin, isT, gIs, dB, see, keepR, sSet, retR, sRet, sRetV, sRetN, sNx, sBrk, sCont, sSeq, sIf, sEx, sApp, sPut, g2N, gAllL, fn, Fl.mine, at0, at1, at2, at3, sExt, gIsL, gInt, dFu, dCallV, gIn, gNotIn, gIdx, gSum, gIxS, c2, c3, g]
              · simp [dVar, dC, d1, d2, gI, kSub, kMul, kDiv, kMod, kPow, kLt, kLe, kGt, kGe, eqK, gEq, gNe, isN, gIsN, gNotN, gNeg, dCh, qB, qAnd, qOr, qNot, qYes, dAnd, dOr, dNot, dIf, gIx, oI, dSl, aNil, aCons, plainD, dTup, dLst, gAdd, R.arg, dCall, gLen, gTuple, gList, gMax, gMin, isT, gIs, dB, see, keepR, sSet, retR, sRet, sRetV, sRetN, sNx, sBrk, sCont, sSeq, sIf, sEx, sApp, sPut, g2N, gAllL, fn, Fl.mine, at0, at1, at2, at3, sExt, gIsL, gInt, dFu, dCallV, gIn, gNotIn, gIdx, gSum, gIxS, c2, g]
    · rw [if_neg h3]
      unfold B_law_rule
      have h' : ¬ ((w.length : Int) = 3) := by omega
      simp [dVar, dC, d1, d2, gI, kSub, kMul, kDiv, kMod, kPow, kLt, kLe, kGt, kGe, eqK, gEq, gNe, isN, gIsN, gNotN, gNeg, dCh, qB, qAnd, qOr, qNot, qYes, dAnd, dOr, dNot, dIf, gIx, oI, dSl, aNil, aCons, plainD, dTup, dLst, gAdd, R.arg, dCall, gLen, gTuple, gList, gMax, gMin, isT, gIs, dB, see, keepR, sSet, retR, sRet, sRetV, sRetN, sNx, sBrk, sCont, sSeq, sIf, sEx, sApp, sPut, g2N, gAllL, fn, Fl.mine, at0, at1, at2, at3, sExt, gIsL, gInt, dFu, dCallV, gIn, gNotIn, gIdx, gSum, gLenS, hw, h0, h3, h']
noncomputable def roAll : List Str → Option (List Rl)
  | [] => some []
  | w :: r => (ro w).bind fun x => (roAll r).map (x :: ·)
theorem cp_ro : ∀ (ws : List Str), (∀ w ∈ ws, w.length ≤ 10000) → cpGoX (xCall F_rule_of (aCons (dVar 0) aNil)) [] (ws.map D.str) = some ((roAll ws).map fun rs => rs.map rlD)
  | [], _ => rfl
  | w :: r, h => by
    have ih := cp_ro r (fun x hx => h x (List.mem_cons_of_mem _ hx))
    have e := e_ro (h w List.mem_cons_self)
    rw [List.map_cons]
    unfold cpGoX roAll
    have e2 : xCall F_rule_of (aCons (dVar 0) aNil) [some (.d (.str w))] = some ((ro w).map fun x => .d (rlD x)) := by simp [xCall, dVar, dC, d1, d2, gI, kSub, kMul, kDiv, kMod, kPow, kLt, kLe, kGt, kGe, eqK, gEq, gNe, isN, gIsN, gNotN, gNeg, dCh, qB, qAnd, qOr, qNot, qYes, dAnd, dOr, dNot, dIf, gIx, oI, dSl, aNil, aCons, plainD, dTup, dLst, gAdd, R.arg, dCall, gLen, gTuple, gList, gMax, gMin, isT, gIs, dB, see, keepR, sSet, retR, sRet, sRetV, sRetN, sNx, sBrk, sCont, sSeq, sIf, sEx, sApp, sPut, g2N, gAllL, fn, Fl.mine, at0, at1, at2, at3, sExt, gIsL, gInt, dFu, dCallV, gIn, gNotIn, gIdx, gSum, e]
    rw [e2]
    cases hr : ro w with
    | none => rfl
    | some x =>
      show ((cpGoX (xCall F_rule_of (aCons (dVar 0) aNil)) [] (r.map D.str)).map fun p => p.map (rlD x :: ·)) = _
      rw [ih]
      cases roAll r <;> rfl
theorem cp_lr (r s : Int) (ws : List Str) (h : ∀ w ∈ ws, w.length ≤ 10000) : cpGo qYes (dCall F_law_rule (aCons (dVar 0) (aCons (dVar 1) (aCons (dVar 2) aNil)))) [some (.d (.int r)), some (.d (.int s))] (ws.map D.str) = some (ws.map (lr r s)) := by
  refine cp_mapL ws fun w hw => ?_
  have e := e_lr (h w hw) r s
  simp [dVar, dC, d1, d2, gI, kSub, kMul, kDiv, kMod, kPow, kLt, kLe, kGt, kGe, eqK, gEq, gNe, isN, gIsN, gNotN, gNeg, dCh, qB, qAnd, qOr, qNot, qYes, dAnd, dOr, dNot, dIf, gIx, oI, dSl, aNil, aCons, plainD, dTup, dLst, gAdd, R.arg, dCall, gLen, gTuple, gList, gMax, gMin, isT, gIs, dB, see, keepR, sSet, retR, sRet, sRetV, sRetN, sNx, sBrk, sCont, sSeq, sIf, sEx, sApp, sPut, g2N, gAllL, fn, Fl.mine, at0, at1, at2, at3, sExt, gIsL, gInt, dFu, dCallV, gIn, gNotIn, gIdx, gSum, e]
noncomputable def noTup : D → Option Bool
  | .tup [] => some true
  | .tup (_ :: _) => some false
  | .non => some false
  | _ => none
noncomputable def anyNo : List D → Option Bool
  | [] => some false
  | d :: r => (noTup d).bind fun b => if b then some true else anyNo r
theorem anyNo_is : ∀ (ds : List D) (b : Bool), anyNo ds = some b → ds.any isNo = b
  | [], b, h => by cases h; rfl
  | d :: r, b, h => by
    unfold anyNo at h
    rw [List.any_cons]
    cases d with
    | tup l =>
      cases l with
      | nil => cases h; rfl
      | cons x l => exact anyNo_is r b h
    | non => exact anyNo_is r b h
    | int i => cases h
    | str x => cases h
    | bl x => cases h
    | fu x => cases h
theorem lr_ok (r s : Int) (w : Str) : okNo (lr r s w) = true := by
  unfold lr
  split
  · rfl
  · rfl
  · split <;> rfl
theorem lr_all (r s : Int) : ∀ ws : List Str, (ws.map (lr r s)).all okNo = true
  | [] => rfl
  | w :: ws => by rw [List.map_cons, List.all_cons, lr_ok, lr_all r s ws]; rfl
theorem rules_eq (r s : Int) : ∀ (ws : List Str), match roAll ws with
    | none => anyNo (ws.map (lr r s)) = some true
    | some rs => rs.length = ws.length ∧ ((∀ t ∈ somes rs, Gr r s t) → anyNo (ws.map (lr r s)) = some false ∧ ws.map (lr r s) = rs.map rlD) ∧ (¬ (∀ t ∈ somes rs, Gr r s t) → anyNo (ws.map (lr r s)) = some true)
  | [] => ⟨rfl, fun _ => ⟨rfl, rfl⟩, fun h => absurd (fun t ht => by cases ht) h⟩
  | w :: ws => by
    have ih := rules_eq r s ws
    unfold roAll
    cases hw : ro w with
    | none =>
      have e : lr r s w = .tup [] := by unfold lr; rw [hw]
      show anyNo (lr r s w :: ws.map (lr r s)) = some true
      rw [e]
      rfl
    | some x =>
      cases hr : roAll ws with
      | none =>
        rw [hr] at ih
        show anyNo (lr r s w :: ws.map (lr r s)) = some true
        have : noTup (lr r s w) = some true ∨ noTup (lr r s w) = some false := by
          unfold lr
          rw [hw]
          cases x with
          | none => exact .inr rfl
          | some t =>
            dsimp only
            split
            · exact .inr rfl
            · exact .inl rfl
        unfold anyNo
        rcases this with e | e
        · rw [e]; rfl
        · rw [e]; exact ih
      | some rs =>
        rw [hr] at ih
        obtain ⟨i1, i2, i3⟩ := ih
        refine ⟨by show (x :: rs).length = _; simp [i1], fun h => ?_, fun h => ?_⟩
        · cases x with
          | none =>
            have e : lr r s w = .non := by unfold lr; rw [hw]
            obtain ⟨j1, j2⟩ := i2 h
            refine ⟨?_, ?_⟩
            · show anyNo (lr r s w :: ws.map (lr r s)) = _
              rw [e]; exact j1
            · show lr r s w :: ws.map (lr r s) = _
              rw [e, j2]; rfl
          | some t =>
            have g : Gr r s t := h t List.mem_cons_self
            have e : lr r s w = trD t := by unfold lr; rw [hw]; dsimp only; rw [if_pos g]
            obtain ⟨j1, j2⟩ := i2 (fun t ht => h t (List.mem_cons_of_mem _ ht))
            refine ⟨?_, ?_⟩
            · show anyNo (lr r s w :: ws.map (lr r s)) = _
              rw [e]; exact j1
            · show lr r s w :: ws.map (lr r s) = _
              rw [e, j2]; rfl
        · cases x with
          | none =>
            have e : lr r s w = .non := by unfold lr; rw [hw]
            show anyNo (lr r s w :: ws.map (lr r s)) = _
            rw [e]; exact i3 h
          | some t =>
            by_cases g : Gr r s t
            · have e : lr r s w = trD t := by unfold lr; rw [hw]; dsimp only; rw [if_pos g]
              show anyNo (lr r s w :: ws.map (lr r s)) = _
              rw [e]
              refine i3 (fun z => h fun t' ht' => ?_)
              rcases List.mem_cons.mp ht' with rfl | ht'
              · exact g
              · exact z t' ht'
            · have e : lr r s w = .tup [] := by unfold lr; rw [hw]; dsimp only; rw [if_neg g]
              show anyNo (lr r s w :: ws.map (lr r s)) = _
              rw [e]; rfl

theorem sl_ix (n : Nat) : Builtin.Str.strSliceIndices none (some (-1)) 1 n = List.range (n - 1) := by
  have hk : (fun (k : Nat) => (0 + 1 * (k : Int)).toNat) = id := by
    funext k
    show (0 + 1 * (k : Int)).toNat = k
    omega
  unfold Builtin.Str.strSliceIndices sliceRange
  simp only [show (1 : Int) > 0 by decide, if_true, show (-1 : Int) < 0 by decide, hk, List.map_id]
  by_cases h : 0 < n - 1
  · rw [if_pos (by omega)]
    congr 1
    omega
  · rw [if_neg (by omega), show n - 1 = 0 by omega]
    rfl
theorem slice_m1 {x : Str} {n : Nat} (h : x.length = n + 1) : (Txt.slice x none (some (-1))).cps.toList = x.cps.toList.take n := by
  unfold Txt.slice
  rw [sl_ix, h]
  rw [if_neg (by simp)]
  show (List.filterMap _ (List.range (n + 1 - 1))) = _
  have p := StrLaws.picks x.cps.toList n 0 (by rw [← str_lenL]; omega)
  have e : (List.range n).map (fun k => 0 + k) = List.range n := by
    rw [show (fun k => 0 + k) = (id : Nat → Nat) by funext k; simp, List.map_id]
  rw [e, List.drop_zero] at p
  rw [← p, show n + 1 - 1 = n by omega]
  congr 1
  funext k
  exact (Array.getElem?_toList ..).symm
theorem slice_one {x : Str} (h : x.length = 2) : Txt.slice x none (some (-1)) = ⟨#[ch x 0]⟩ := by
  apply str_extL
  rw [slice_m1 (n := 1) h]
  rw [str_lenL] at h
  unfold ch
  generalize x.cps.toList = l at *
  match l, h with
  | [a, b], _ => rfl
theorem slice_not {x : Str} (h : x.length ≠ 2) (h1 : 1 ≤ x.length) : (Txt.slice x none (some (-1))).length ≠ 1 := by
  obtain ⟨n, hn⟩ : ∃ n, x.length = n + 1 := ⟨x.length - 1, by omega⟩
  rw [str_lenL, slice_m1 hn, List.length_take, ← str_lenL]
  omega
theorem colon_eq : ((":" : Str)).cps.toList = [58] := by decide +kernel
theorem colon_len : ((":" : Str)).length = 1 := by decide +kernel
theorem end_colon {x : Str} (h : x.length = 2) : Txt.endswith x ":" = decide (ch x 1 = 58) := by
  unfold Txt.endswith
  rw [StrLaws.subAt_eq, colon_len, colon_eq, h]
  rw [str_lenL] at h
  unfold ch
  generalize x.cps.toList = l at *
  match l, h with
  | [a, b], _ =>
    show ((decide (0 + 1 ≤ 2)) && ([b] == [58])) = decide (b = 58)
    by_cases hb : b = 58
    · subst hb; rfl
    · simp [hb]
theorem end_pos {x : Str} (h : Txt.endswith x ":" = true) : 1 ≤ x.length := by
  unfold Txt.endswith at h
  rw [Bool.and_eq_true, colon_len] at h
  have := of_decide_eq_true h.1
  omega
theorem char_eq {c : Nat} : ((⟨#[c]⟩ : Str) = ":") ↔ c = 58 := by
  constructor
  · intro h
    have := congrArg (fun x : Str => x.cps.toList) h
    dsimp only at this
    rw [colon_eq] at this
    simpa using this
  · rintro rfl
    apply str_extL
    rw [colon_eq]
noncomputable def rd : List Str → Option (Int × Int × List Rl)
  | w0 :: w1 :: r => if w1.length = 2 ∧ ch w1 1 = 58 then (fgW w0).bind fun a => (fgc (ch w1 0)).bind fun b => (roAll r).bind fun rs => if GoodX a b rs then some (a, b, rs) else none else none
  | _ => none
theorem cut2 (a b : D) (l : List D) : cutP (a :: b :: l) (some 2) none = l := by
  have := cutP_from (a :: b :: l) 2
  simpa using this
theorem roAll_len : ∀ {ws : List Str} {rs : List Rl}, roAll ws = some rs → rs.length = ws.length
  | [], rs, h => by cases h; rfl
  | w :: ws, rs, h => by
    unfold roAll at h
    cases hw : ro w with
    | none => rw [hw] at h; cases h
    | some x =>
      rw [hw] at h
      cases hr : roAll ws with
      | none => rw [hr] at h; cases h
      | some q =>
        rw [hr] at h
        cases h
        simp [roAll_len hr]
theorem lt2 (k : Nat) : ¬ ((k : Int) + 1 + 1 < 2) := by omega
section
variable {t w0 w1 : Str} {r ws : List Str}
theorem read_start (ht : t.length ≤ 9000) (hsp : Txt.split t " " = ws) : B_read [some (.d (.str t)), none, none, none, none, none] =
    sSeq (sIf (qOr (qB (d2 (gI kLt) (dB gLenS (aCons (dVar 1) aNil)) (dC (.int 2)))) (qNot (qB (d2 gEndS (d2 gIxS (dVar 1) (dC (.int 1))) (dC (.str ":")))))) sRaise sNx) (sSeq (sSetX 2 (xCall F_figure (aCons (d2 gIxS (dVar 1) (dC (.int 0))) aNil))) (sSeq (sSetX 3 (xCall F_figure (aCons (dSlS (d2 gIxS (dVar 1) (dC (.int 1))) none (some (d1 gNeg (dC (.int 1))))) aNil))) (sSeq (sSetX 4 (xTup (aConsX (xOf (dVar 2)) (aConsX (xOf (dVar 3)) (aConsX (xB gTuple (aConsX (xComp [] (iAny (dSlS (dVar 1) (some (dC (.int 2))) none)) (xCall F_rule_of (aCons (dVar 0) aNil))) aNilX)) aNilX))))) (sSeq (sTryR 5 F_looked (aCons (dVar 4) aNil)) (sRetV 4)))))
      [some (.d (.str t)), some (.l .own (ws.map D.str)), none, none, none, none] := by
  have b1 : ((Str.ofString " ").length == 0) = false := by decide +kernel
  unfold B_read
  refine sSeq_nx (δ' := [some (.d (.str t)), some (.l .own (ws.map D.str)), none, none, none, none]) (by
    unfold sSet d2 dC dVar gSplitS
    simp only [Option.bind_some, see, List.getElem?_cons_zero]
    rw [if_pos ⟨b1, by omega⟩, hsp]
    rfl) rfl
theorem e_read_few (ht : t.length ≤ 9000) (hsp : Txt.split t " " = ws) (hw : ws.length < 2) : F_read [.d (.str t)] = some none := by
  refine fnX_ex rfl ?_
  show B_read [some (.d (.str t)), none, none, none, none, none] = _
  rw [read_start ht hsp]
  refine sSeq_ex ?_
  have h2 : ((ws.map D.str).length : Int) < 2 := by rw [List.length_map]; omega
  generalize ws.map D.str = L at *
  simp [dVar, dC, d1, d2, gI, kSub, kMul, kDiv, kMod, kPow, kLt, kLe, kGt, kGe, eqK, gEq, gNe, isN, gIsN, gNotN, gNeg, dCh, qB, qAnd, qOr, qNot, qYes, dAnd, dOr, dNot, dIf, gIx, oI, dSl, aNil, aCons, plainD, dTup, dLst, gAdd, R.arg, dCall, gLen, gTuple, gList, gMax, gMin, isT, gIs, dB, see, keepR, sSet, retR, sRet, sRetV, sRetN, sNx, sBrk, sCont, sSeq, sIf, sEx, sApp, sPut, g2N, gAllL, fn, Fl.mine, at0, at1, at2, at3, sExt, gIsL, gInt, dFu, dCallV, gIn, gNotIn, gIdx, gSum, gLenS, h2, sRaise]
theorem e_readX (ht : t.length ≤ 9000) (hsp : Txt.split t " " = w0 :: w1 :: r) (hlen : r.length ≤ 9000) (hws : ∀ w ∈ w0 :: w1 :: r, w.length ≤ 9000) :
    F_read [.d (.str t)] = some ((rd (w0 :: w1 :: r)).map fun m => .d (mD m.1 m.2.1 m.2.2)) := by
  have h0 := hws w0 List.mem_cons_self
  have h1 := hws w1 (List.mem_cons_of_mem _ List.mem_cons_self)
  have hr := fun w hw => hws w (List.mem_cons_of_mem _ (List.mem_cons_of_mem _ hw))
  have f0 := e_fig (w := w0) (by omega)
  have st := read_start ht hsp
  rw [List.map_cons, List.map_cons] at st
  have hneg := lt2
  have cp := cp_ro r (fun w hw => by have := hr w hw; omega)
  have hrl : (r.map D.str).length ≤ 10000 := by rw [List.length_map]; omega
  generalize hR : r.map D.str = RR at *
  have sl : ∀ (x0 x2 x3 x4 x5 : Option R), dSlS (dVar 1) (some (dC (.int 2))) none [x0, some (.l .own (.str w0 :: .str w1 :: RR)), x2, x3, x4, x5] = some (.l .own RR) := by
    intro x0 x2 x3 x4 x5
    unfold dSlS gSlS gSl oI dC dVar
    simp only [Option.bind_some, see, List.getElem?_cons_succ, List.getElem?_cons_zero]
    exact congrArg (fun l => some (R.l .own l)) (cut2 _ _ RR)
  unfold rd
  dsimp only
  -- the head of the note
  by_cases he : Txt.endswith w1 ":" = true
  · have g1 : ∀ (x0 x2 x3 x4 x5 : Option R), sIf (qOr (qB (d2 (gI kLt) (dB gLenS (aCons (dVar 1) aNil)) (dC (.int 2)))) (qNot (qB (d2 gEndS (d2 gIxS (dVar 1) (dC (.int 1))) (dC (.str ":")))))) sRaise sNx [x0, some (.l .own (.str w0 :: .str w1 :: RR)), x2, x3, x4, x5] = some (.nx [x0, some (.l .own (.str w0 :: .str w1 :: RR)), x2, x3, x4, x5]) := by
      intro x0 x2 x3 x4 x5
      simp [dVar, dC, d1, d2, gI, kSub, kMul, kDiv, kMod, kPow, kLt, kLe, kGt, kGe, eqK, gEq, gNe, isN, gIsN, gNotN, gNeg, dCh, qB, qAnd, qOr, qNot, qYes, dAnd, dOr, dNot, dIf, gIx, oI, dSl, aNil, aCons, plainD, dTup, dLst, gAdd, R.arg, dCall, gLen, gTuple, gList, gMax, gMin, isT, gIs, dB, see, keepR, sSet, retR, sRet, sRetV, sRetN, sNx, sBrk, sCont, sSeq, sIf, sEx, sApp, sPut, g2N, gAllL, fn, Fl.mine, at0, at1, at2, at3, sExt, gIsL, gInt, dFu, dCallV, gIn, gNotIn, gIdx, gSum, gLenS, gIxS, gEndS, he, hneg]
    cases ha : fgW w0 with
    | none =>
      rw [ha] at f0
      have e : (if w1.length = 2 ∧ ch w1 1 = 58 then (none : Option Int).bind (fun a => (fgc (ch w1 0)).bind fun b => (roAll r).bind fun rs => if GoodX a b rs then some (a, b, rs) else none) else none) = none := by split <;> rfl
      rw [e]
      refine fnX_ex rfl ?_
      show B_read [some (.d (.str t)), none, none, none, none, none] = _
      rw [st]
      refine sSeq_nx (g1 _ _ _ _ _) (sSeq_ex ?_)
      simp [dVar, dC, d1, d2, gI, kSub, kMul, kDiv, kMod, kPow, kLt, kLe, kGt, kGe, eqK, gEq, gNe, isN, gIsN, gNotN, gNeg, dCh, qB, qAnd, qOr, qNot, qYes, dAnd, dOr, dNot, dIf, gIx, oI, dSl, aNil, aCons, plainD, dTup, dLst, gAdd, R.arg, dCall, gLen, gTuple, gList, gMax, gMin, isT, gIs, dB, see, keepR, sSet, retR, sRet, sRetV, sRetN, sNx, sBrk, sCont, sSeq, sIf, sEx, sApp, sPut, g2N, gAllL, fn, Fl.mine, at0, at1, at2, at3, sExt, gIsL, gInt, dFu, dCallV, gIn, gNotIn, gIdx, gSum, sSetX, xCall, gIxS, f0]
    | some a =>
      rw [ha] at f0
      have g2 : ∀ (x0 x2 x3 x4 x5 : Option R), sSetX 2 (xCall F_figure (aCons (d2 gIxS (dVar 1) (dC (.int 0))) aNil)) [x0, some (.l .own (.str w0 :: .str w1 :: RR)), x2, x3, x4, x5] = some (.nx [x0, some (.l .own (.str w0 :: .str w1 :: RR)), some (.d (.int a)), x3, x4, x5]) := by
        intro x0 x2 x3 x4 x5
        simp [dVar, dC, d1, d2, gI, kSub, kMul, kDiv, kMod, kPow, kLt, kLe, kGt, kGe, eqK, gEq, gNe, isN, gIsN, gNotN, gNeg, dCh, qB, qAnd, qOr, qNot, qYes, dAnd, dOr, dNot, dIf, gIx, oI, dSl, aNil, aCons, plainD, dTup, dLst, gAdd, R.arg, dCall, gLen, gTuple, gList, gMax, gMin, isT, gIs, dB, see, keepR, sSet, retR, sRet, sRetV, sRetN, sNx, sBrk, sCont, sSeq, sIf, sEx, sApp, sPut, g2N, gAllL, fn, Fl.mine, at0, at1, at2, at3, sExt, gIsL, gInt, dFu, dCallV, gIn, gNotIn, gIdx, gSum, sSetX, xCall, gIxS, f0]
      by_cases hl : w1.length = 2
      · have hc := end_colon hl
        rw [he] at hc
        have hc := of_decide_eq_true hc.symm
        rw [if_pos ⟨hl, hc⟩]
        have s1 := slice_one hl
        have f1 := e_fig1 (ch w1 0)
        rw [← s1] at f1
        have hz : w1.length ≤ 10000 := by omega
        generalize hsw : Txt.slice w1 none (some (-1)) = sw at *
        cases hb : fgc (ch w1 0) with
        | none =>
          rw [hb] at f1
          refine fnX_ex rfl ?_
          show B_read [some (.d (.str t)), none, none, none, none, none] = _
          rw [st]
          refine sSeq_nx (g1 _ _ _ _ _) (sSeq_nx (g2 _ _ _ _ _) (sSeq_ex ?_))
          simp [dVar, dC, d1, d2, gI, kSub, kMul, kDiv, kMod, kPow, kLt, kLe, kGt, kGe, eqK, gEq, gNe, isN, gIsN, gNotN, gNeg, dCh, qB, qAnd, qOr, qNot, qYes, dAnd, dOr, dNot, dIf, gIx, oI, dSl, aNil, aCons, plainD, dTup, dLst, gAdd, R.arg, dCall, gLen, gTuple, gList, gMax, gMin, isT, gIs, dB, see, keepR, sSet, retR, sRet, sRetV, sRetN, sNx, sBrk, sCont, sSeq, sIf, sEx, sApp, sPut, g2N, gAllL, fn, Fl.mine, at0, at1, at2, at3, sExt, gIsL, gInt, dFu, dCallV, gIn, gNotIn, gIdx, gSum, sSetX, xCall, gIxS, dSlS, gSlS, hz, hsw, f1]
        | some b =>
          rw [hb] at f1
          have g3 : ∀ (x0 x2 x3 x4 x5 : Option R), sSetX 3 (xCall F_figure (aCons (dSlS (d2 gIxS (dVar 1) (dC (.int 1))) none (some (d1 gNeg (dC (.int 1))))) aNil)) [x0, some (.l .own (.str w0 :: .str w1 :: RR)), x2, x3, x4, x5] = some (.nx [x0, some (.l .own (.str w0 :: .str w1 :: RR)), x2, some (.d (.int b)), x4, x5]) := by
            intro x0 x2 x3 x4 x5
            simp [dVar, dC, d1, d2, gI, kSub, kMul, kDiv, kMod, kPow, kLt, kLe, kGt, kGe, eqK, gEq, gNe, isN, gIsN, gNotN, gNeg, dCh, qB, qAnd, qOr, qNot, qYes, dAnd, dOr, dNot, dIf, gIx, oI, dSl, aNil, aCons, plainD, dTup, dLst, gAdd, R.arg, dCall, gLen, gTuple, gList, gMax, gMin, isT, gIs, dB, see, keepR, sSet, retR, sRet, sRetV, sRetN, sNx, sBrk, sCont, sSeq, sIf, sEx, sApp, sPut, g2N, gAllL, fn, Fl.mine, at0, at1, at2, at3, sExt, gIsL, gInt, dFu, dCallV, gIn, gNotIn, gIdx, gSum, sSetX, xCall, gIxS, dSlS, gSlS, hz, hsw, f1]
          have ec : ∀ (x0 x2 x3 x4 x5 : Option R), xComp [] (iAny (dSlS (dVar 1) (some (dC (.int 2))) none)) (xCall F_rule_of (aCons (dVar 0) aNil)) [x0, some (.l .own (.str w0 :: .str w1 :: RR)), x2, x3, x4, x5] = some ((roAll r).map fun rs => .l .own (rs.map rlD)) := by
            intro x0 x2 x3 x4 x5
            unfold xComp iAny capsOf
            rw [sl]
            show (if RR.length ≤ 10000 then (cpGoX (xCall F_rule_of (aCons (dVar 0) aNil)) [] RR).map _ else none) = _
            rw [if_pos hrl, cp]
            cases roAll r <;> rfl
          generalize xComp [] (iAny (dSlS (dVar 1) (some (dC (.int 2))) none)) (xCall F_rule_of (aCons (dVar 0) aNil)) = cc at *
          cases hro : roAll r with
          | none =>
            rw [hro] at ec
            refine fnX_ex rfl ?_
            show B_read [some (.d (.str t)), none, none, none, none, none] = _
            rw [st]
            refine sSeq_nx (g1 _ _ _ _ _) (sSeq_nx (g2 _ _ _ _ _) (sSeq_nx (g3 _ _ _ _ _) (sSeq_ex ?_)))
            simp [dVar, dC, d1, d2, gI, kSub, kMul, kDiv, kMod, kPow, kLt, kLe, kGt, kGe, eqK, gEq, gNe, isN, gIsN, gNotN, gNeg, dCh, qB, qAnd, qOr, qNot, qYes, dAnd, dOr, dNot, dIf, gIx, oI, dSl, aNil, aCons, plainD, dTup, dLst, gAdd, R.arg, dCall, gLen, gTuple, gList, gMax, gMin, isT, gIs, dB, see, keepR, sSet, retR, sRet, sRetV, sRetN, sNx, sBrk, sCont, sSeq, sIf, sEx, sApp, sPut, g2N, gAllL, fn, Fl.mine, at0, at1, at2, at3, sExt, gIsL, gInt, dFu, dCallV, gIn, gNotIn, gIdx, gSum, sSetX, xTup, aConsX, xOf, xB, ec]
          | some rs =>
            rw [hro] at ec
            have lk := e_lookedG (r := a) (s := b) (rs := rs) (by rw [roAll_len hro]; omega)
            have g4 : ∀ (x0 x4 x5 : Option R), sSetX 4 (xTup (aConsX (xOf (dVar 2)) (aConsX (xOf (dVar 3)) (aConsX (xB gTuple (aConsX cc aNilX)) aNilX)))) [x0, some (.l .own (.str w0 :: .str w1 :: RR)), some (.d (.int a)), some (.d (.int b)), x4, x5] = some (.nx [x0, some (.l .own (.str w0 :: .str w1 :: RR)), some (.d (.int a)), some (.d (.int b)), some (.d (mD a b rs)), x5]) := by
              intro x0 x4 x5
              have ec' : cc _ = some (some (.l .own (rs.map rlD))) := ec x0 (some (.d (.int a))) (some (.d (.int b))) x4 x5
              unfold mD
              generalize rs.map rlD = Q at *
              simp [dVar, dC, d1, d2, gI, kSub, kMul, kDiv, kMod, kPow, kLt, kLe, kGt, kGe, eqK, gEq, gNe, isN, gIsN, gNotN, gNeg, dCh, qB, qAnd, qOr, qNot, qYes, dAnd, dOr, dNot, dIf, gIx, oI, dSl, aNil, aCons, plainD, dTup, dLst, gAdd, R.arg, dCall, gLen, gTuple, gList, gMax, gMin, isT, gIs, dB, see, keepR, sSet, retR, sRet, sRetV, sRetN, sNx, sBrk, sCont, sSeq, sIf, sEx, sApp, sPut, g2N, gAllL, fn, Fl.mine, at0, at1, at2, at3, sExt, gIsL, gInt, dFu, dCallV, gIn, gNotIn, gIdx, gSum, sSetX, xTup, aConsX, xOf, xB, aNilX, ec']
            simp only [Option.bind_some]
            by_cases g : GoodX a b rs
            · rw [if_pos g] at lk
              rw [if_pos g]
              refine fnX_rt rfl ?_
              show B_read [some (.d (.str t)), none, none, none, none, none] = some (.rt (.d (mD a b rs)))
              rw [st]
              refine sSeq_nx (g1 _ _ _ _ _) (sSeq_nx (g2 _ _ _ _ _) (sSeq_nx (g3 _ _ _ _ _) (sSeq_nx (g4 _ _ _) ?_)))
              generalize mD a b rs = m at *
              refine sSeq_nx (δ' := [some (.d (.str t)), some (.l .own (.str w0 :: .str w1 :: RR)), some (.d (.int a)), some (.d (.int b)), some (.d m), none]) (by simp [dVar, dC, d1, d2, gI, kSub, kMul, kDiv, kMod, kPow, kLt, kLe, kGt, kGe, eqK, gEq, gNe, isN, gIsN, gNotN, gNeg, dCh, qB, qAnd, qOr, qNot, qYes, dAnd, dOr, dNot, dIf, gIx, oI, dSl, aNil, aCons, plainD, dTup, dLst, gAdd, R.arg, dCall, gLen, gTuple, gList, gMax, gMin, isT, gIs, dB, see, keepR, sSet, retR, sRet, sRetV, sRetN, sNx, sBrk, sCont, sSeq, sIf, sEx, sApp, sPut, g2N, gAllL, fn, Fl.mine, at0, at1, at2, at3, sExt, gIsL, gInt, dFu, dCallV, gIn, gNotIn, gIdx, gSum, sTryR, lk]) ?_
              simp [dVar, dC, d1, d2, gI, kSub, kMul, kDiv, kMod, kPow, kLt, kLe, kGt, kGe, eqK, gEq, gNe, isN, gIsN, gNotN, gNeg, dCh, qB, qAnd, qOr, qNot, qYes, dAnd, dOr, dNot, dIf, gIx, oI, dSl, aNil, aCons, plainD, dTup, dLst, gAdd, R.arg, dCall, gLen, gTuple, gList, gMax, gMin, isT, gIs, dB, see, keepR, sSet, retR, sRet, sRetV, sRetN, sNx, sBrk, sCont, sSeq, sIf, sEx, sApp, sPut, g2N, gAllL, fn, Fl.mine, at0, at1, at2, at3, sExt, gIsL, gInt, dFu, dCallV, gIn, gNotIn, gIdx, gSum]
            · rw [if_neg g] at lk
              rw [if_neg g]
              refine fnX_ex rfl ?_
              show B_read [some (.d (.str t)), none, none, none, none, none] = _
              rw [st]
              refine sSeq_nx (g1 _ _ _ _ _) (sSeq_nx (g2 _ _ _ _ _) (sSeq_nx (g3 _ _ _ _ _) (sSeq_nx (g4 _ _ _) (sSeq_ex ?_))))
              generalize mD a b rs = m at *
              simp [dVar, dC, d1, d2, gI, kSub, kMul, kDiv, kMod, kPow, kLt, kLe, kGt, kGe, eqK, gEq, gNe, isN, gIsN, gNotN, gNeg, dCh, qB, qAnd, qOr, qNot, qYes, dAnd, dOr, dNot, dIf, gIx, oI, dSl, aNil, aCons, plainD, dTup, dLst, gAdd, R.arg, dCall, gLen, gTuple, gList, gMax, gMin, isT, gIs, dB, see, keepR, sSet, retR, sRet, sRetV, sRetN, sNx, sBrk, sCont, sSeq, sIf, sEx, sApp, sPut, g2N, gAllL, fn, Fl.mine, at0, at1, at2, at3, sExt, gIsL, gInt, dFu, dCallV, gIn, gNotIn, gIdx, gSum, sTryR, lk]
      · rw [if_neg (fun z => hl z.1)]
        have hp := end_pos he
        have hn := slice_not hl hp
        have hz : w1.length ≤ 10000 := by omega
        have hsl := Txt.slice_le w1 none (some (-1))
        have f1 := e_fig (w := Txt.slice w1 none (some (-1))) (by omega)
        have : fgW (Txt.slice w1 none (some (-1))) = none := by unfold fgW; rw [if_neg hn]
        rw [this] at f1
        generalize hsw : Txt.slice w1 none (some (-1)) = sw at *
        refine fnX_ex rfl ?_
        show B_read [some (.d (.str t)), none, none, none, none, none] = _
        rw [st]
        refine sSeq_nx (g1 _ _ _ _ _) (sSeq_nx (g2 _ _ _ _ _) (sSeq_ex ?_))
        simp [dVar, dC, d1, d2, gI, kSub, kMul, kDiv, kMod, kPow, kLt, kLe, kGt, kGe, eqK, gEq, gNe, isN, gIsN, gNotN, gNeg, dCh, qB, qAnd, qOr, qNot, qYes, dAnd, dOr, dNot, dIf, gIx, oI, dSl, aNil, aCons, plainD, dTup, dLst, gAdd, R.arg, dCall, gLen, gTuple, gList, gMax, gMin, isT, gIs, dB, see, keepR, sSet, retR, sRet, sRetV, sRetN, sNx, sBrk, sCont, sSeq, sIf, sEx, sApp, sPut, g2N, gAllL, fn, Fl.mine, at0, at1, at2, at3, sExt, gIsL, gInt, dFu, dCallV, gIn, gNotIn, gIdx, gSum, sSetX, xCall, gIxS, dSlS, gSlS, hz, hsw, f1]
  · have he : Txt.endswith w1 ":" = false := by simpa using he
    have : ¬ (w1.length = 2 ∧ ch w1 1 = 58) := fun z => by
      have := end_colon z.1
      rw [he, decide_eq_true z.2] at this
      cases this
    rw [if_neg this]
    refine fnX_ex rfl ?_
    show B_read [some (.d (.str t)), none, none, none, none, none] = _
    rw [st]
    refine sSeq_ex ?_
    simp [dVar, dC, d1, d2, gI, kSub, kMul, kDiv, kMod, kPow, kLt, kLe, kGt, kGe, eqK, gEq, gNe, isN, gIsN, gNotN, gNeg, dCh, qB, qAnd, qOr, qNot, qYes, dAnd, dOr, dNot, dIf, gIx, oI, dSl, aNil, aCons, plainD, dTup, dLst, gAdd, R.arg, dCall, gLen, gTuple, gList, gMax, gMin, isT, gIs, dB, see, keepR, sSet, retR, sRet, sRetV, sRetN, sNx, sBrk, sCont, sSeq, sIf, sEx, sApp, sPut, g2N, gAllL, fn, Fl.mine, at0, at1, at2, at3, sExt, gIsL, gInt, dFu, dCallV, gIn, gNotIn, gIdx, gSum, gLenS, gIxS, gEndS, he, hneg, sRaise]

theorem due_few (ht : t.length ≤ 9000) (hsp : Txt.split t " " = ws) (hw : ws.length < 2) : F_law_due [.d (.str t)] = some (.d .non) := by
  have b1 : ((Str.ofString " ").length == 0) = false := by decide +kernel
  refine fn_rt rfl ?_
  show B_law_due [some (.d (.str t)), none, none, none, none] = _
  unfold B_law_due
  refine sSeq_nx (δ' := [some (.d (.str t)), some (.l .own (ws.map D.str)), none, none, none]) (by
    unfold sSet d2 dC dVar gSplitS
    simp only [Option.bind_some, see, List.getElem?_cons_zero]
    rw [if_pos ⟨b1, by omega⟩, hsp]
    rfl) ?_
  refine sSeq_rt ?_
  have h2 : ((ws.map D.str).length : Int) < 2 := by rw [List.length_map]; omega
  generalize ws.map D.str = L at *
  simp [dVar, dC, d1, d2, gI, kSub, kMul, kDiv, kMod, kPow, kLt, kLe, kGt, kGe, eqK, gEq, gNe, isN, gIsN, gNotN, gNeg, dCh, qB, qAnd, qOr, qNot, qYes, dAnd, dOr, dNot, dIf, gIx, oI, dSl, aNil, aCons, plainD, dTup, dLst, gAdd, R.arg, dCall, gLen, gTuple, gList, gMax, gMin, isT, gIs, dB, see, keepR, sSet, retR, sRet, sRetV, sRetN, sNx, sBrk, sCont, sSeq, sIf, sEx, sApp, sPut, g2N, gAllL, fn, Fl.mine, at0, at1, at2, at3, sExt, gIsL, gInt, dFu, dCallV, gIn, gNotIn, gIdx, gSum, gLenS, h2]
noncomputable def mD' (m : Int × Int × List Rl) : D := mD m.1 m.2.1 m.2.2
theorem e_dueX (ht : t.length ≤ 9000) (hsp : Txt.split t " " = w0 :: w1 :: r) (hlen : r.length ≤ 9000) (hws : ∀ w ∈ w0 :: w1 :: r, w.length ≤ 9000) :
    F_law_due [.d (.str t)] = some (.d ((rd (w0 :: w1 :: r)).elim .non mD')) := by
  have b1 : ((Str.ofString " ").length == 0) = false := by decide +kernel
  have h0 := hws w0 List.mem_cons_self
  have h1 := hws w1 (List.mem_cons_of_mem _ List.mem_cons_self)
  have hr := fun w hw => hws w (List.mem_cons_of_mem _ (List.mem_cons_of_mem _ hw))
  have f0 := e_lfig (w := w0) (by omega)
  have hneg := lt2
  have hrl : (r.map D.str).length ≤ 10000 := by rw [List.length_map]; omega
  have hrl2 : (r.map D.str).length = r.length := List.length_map _
  have cp := fun a b => cp_lr a b r (fun w hw => by have := hr w hw; omega)
  generalize hR : r.map D.str = RR at *
  have hz : w1.length ≤ 10000 := by omega
  refine fn_rt rfl ?_
  show B_law_due [some (.d (.str t)), none, none, none, none] = _
  unfold B_law_due
  refine sSeq_nx (δ' := [some (.d (.str t)), some (.l .own (.str w0 :: .str w1 :: RR)), none, none, none]) (by
    unfold sSet d2 dC dVar gSplitS
    simp only [Option.bind_some, see, List.getElem?_cons_zero]
    rw [if_pos ⟨b1, by omega⟩, hsp, List.map_cons, List.map_cons, hR]
    rfl) ?_
  unfold rd
  dsimp only
  by_cases hl : w1.length = 2
  · have i0 : gIxS (.d (.str w1)) (.d (.int 0)) = _ := ix_at (k := 0) hl (by omega) (by omega)
    have i1 : gIxS (.d (.str w1)) (.d (.int 1)) = _ := ix_at (k := 1) hl (by omega) (by omega)
    have ce := char_eq (c := ch w1 1)
    have f1 := e_lfig1 (ch w1 0)
    have w1x : ∀ L : List D, gIxS (.l .own (.str w0 :: .str w1 :: L)) (.d (.int 1)) = some (.d (.str w1)) := fun L => by simp [gIxS, dVar, dC, d1, d2, gI, kSub, kMul, kDiv, kMod, kPow, kLt, kLe, kGt, kGe, eqK, gEq, gNe, isN, gIsN, gNotN, gNeg, dCh, qB, qAnd, qOr, qNot, qYes, dAnd, dOr, dNot, dIf, gIx, oI, dSl, aNil, aCons, plainD, dTup, dLst, gAdd, R.arg, dCall, gLen, gTuple, gList, gMax, gMin, isT, gIs, dB, see, keepR, sSet, retR, sRet, sRetV, sRetN, sNx, sBrk, sCont, sSeq, sIf, sEx, sApp, sPut, g2N, gAllL, fn, Fl.mine, at0, at1, at2, at3, sExt, gIsL, gInt, dFu, dCallV, gIn, gNotIn, gIdx, gSum]
    have w1v : ∀ L : List D, gIxS (.l .view (.str w0 :: .str w1 :: L)) (.d (.int 1)) = some (.d (.str w1)) := fun L => by simp [gIxS, dVar, dC, d1, d2, gI, kSub, kMul, kDiv, kMod, kPow, kLt, kLe, kGt, kGe, eqK, gEq, gNe, isN, gIsN, gNotN, gNeg, dCh, qB, qAnd, qOr, qNot, qYes, dAnd, dOr, dNot, dIf, gIx, oI, dSl, aNil, aCons, plainD, dTup, dLst, gAdd, R.arg, dCall, gLen, gTuple, gList, gMax, gMin, isT, gIs, dB, see, keepR, sSet, retR, sRet, sRetV, sRetN, sNx, sBrk, sCont, sSeq, sIf, sEx, sApp, sPut, g2N, gAllL, fn, Fl.mine, at0, at1, at2, at3, sExt, gIsL, gInt, dFu, dCallV, gIn, gNotIn, gIdx, gSum]
    have w0v : ∀ L : List D, gIxS (.l .view (.str w0 :: .str w1 :: L)) (.d (.int 0)) = some (.d (.str w0)) := fun L => by simp [gIxS, dVar, dC, d1, d2, gI, kSub, kMul, kDiv, kMod, kPow, kLt, kLe, kGt, kGe, eqK, gEq, gNe, isN, gIsN, gNotN, gNeg, dCh, qB, qAnd, qOr, qNot, qYes, dAnd, dOr, dNot, dIf, gIx, oI, dSl, aNil, aCons, plainD, dTup, dLst, gAdd, R.arg, dCall, gLen, gTuple, gList, gMax, gMin, isT, gIs, dB, see, keepR, sSet, retR, sRet, sRetV, sRetN, sNx, sBrk, sCont, sSeq, sIf, sEx, sApp, sPut, g2N, gAllL, fn, Fl.mine, at0, at1, at2, at3, sExt, gIsL, gInt, dFu, dCallV, gIn, gNotIn, gIdx, gSum]
    generalize (⟨#[ch w1 0]⟩ : Str) = s0 at *
    generalize (⟨#[ch w1 1]⟩ : Str) = s1 at *
    generalize hc1 : ch w1 1 = k1 at *
    generalize hc0 : ch w1 0 = k0 at *
    by_cases hc : k1 = 58
    · rw [if_pos ⟨hl, hc⟩]
      have ce := ce.mpr hc
      refine sSeq_nx (δ' := [some (.d (.str t)), some (.l .own (.str w0 :: .str w1 :: RR)), none, none, none]) (by simp [dVar, dC, d1, d2, gI, kSub, kMul, kDiv, kMod, kPow, kLt, kLe, kGt, kGe, eqK, gEq, gNe, isN, gIsN, gNotN, gNeg, dCh, qB, qAnd, qOr, qNot, qYes, dAnd, dOr, dNot, dIf, gIx, oI, dSl, aNil, aCons, plainD, dTup, dLst, gAdd, R.arg, dCall, gLen, gTuple, gList, gMax, gMin, isT, gIs, dB, see, keepR, sSet, retR, sRet, sRetV, sRetN, sNx, sBrk, sCont, sSeq, sIf, sEx, sApp, sPut, g2N, gAllL, fn, Fl.mine, at0, at1, at2, at3, sExt, gIsL, gInt, dFu, dCallV, gIn, gNotIn, gIdx, gSum, gLenS, hneg, w1v, hl, i1, ce]) ?_
      refine sSeq_nx (δ' := [some (.d (.str t)), some (.l .own (.str w0 :: .str w1 :: RR)), some (.d (.int ((fgW w0).getD (-1)))), none, none]) (by simp [dVar, dC, d1, d2, gI, kSub, kMul, kDiv, kMod, kPow, kLt, kLe, kGt, kGe, eqK, gEq, gNe, isN, gIsN, gNotN, gNeg, dCh, qB, qAnd, qOr, qNot, qYes, dAnd, dOr, dNot, dIf, gIx, oI, dSl, aNil, aCons, plainD, dTup, dLst, gAdd, R.arg, dCall, gLen, gTuple, gList, gMax, gMin, isT, gIs, dB, see, keepR, sSet, retR, sRet, sRetV, sRetN, sNx, sBrk, sCont, sSeq, sIf, sEx, sApp, sPut, g2N, gAllL, fn, Fl.mine, at0, at1, at2, at3, sExt, gIsL, gInt, dFu, dCallV, gIn, gNotIn, gIdx, gSum, w0v, f0]) ?_
      refine sSeq_nx (δ' := [some (.d (.str t)), some (.l .own (.str w0 :: .str w1 :: RR)), some (.d (.int ((fgW w0).getD (-1)))), some (.d (.int ((fgc k0).getD (-1)))), none]) (by simp [dVar, dC, d1, d2, gI, kSub, kMul, kDiv, kMod, kPow, kLt, kLe, kGt, kGe, eqK, gEq, gNe, isN, gIsN, gNotN, gNeg, dCh, qB, qAnd, qOr, qNot, qYes, dAnd, dOr, dNot, dIf, gIx, oI, dSl, aNil, aCons, plainD, dTup, dLst, gAdd, R.arg, dCall, gLen, gTuple, gList, gMax, gMin, isT, gIs, dB, see, keepR, sSet, retR, sRet, sRetV, sRetN, sNx, sBrk, sCont, sSeq, sIf, sEx, sApp, sPut, g2N, gAllL, fn, Fl.mine, at0, at1, at2, at3, sExt, gIsL, gInt, dFu, dCallV, gIn, gNotIn, gIdx, gSum, w1v, i0, f1]) ?_
      cases ha : fgW w0 with
      | none =>
        refine sSeq_rt ?_
        simp [dVar, dC, d1, d2, gI, kSub, kMul, kDiv, kMod, kPow, kLt, kLe, kGt, kGe, eqK, gEq, gNe, isN, gIsN, gNotN, gNeg, dCh, qB, qAnd, qOr, qNot, qYes, dAnd, dOr, dNot, dIf, gIx, oI, dSl, aNil, aCons, plainD, dTup, dLst, gAdd, R.arg, dCall, gLen, gTuple, gList, gMax, gMin, isT, gIs, dB, see, keepR, sSet, retR, sRet, sRetV, sRetN, sNx, sBrk, sCont, sSeq, sIf, sEx, sApp, sPut, g2N, gAllL, fn, Fl.mine, at0, at1, at2, at3, sExt, gIsL, gInt, dFu, dCallV, gIn, gNotIn, gIdx, gSum]
      | some a =>
        dsimp only [Option.getD_some, Option.bind_some]
        by_cases ca : 1 ≤ a ∧ a ≤ 6
        · cases hb : fgc k0 with
          | none =>
            refine sSeq_rt ?_
            simp [dVar, dC, d1, d2, gI, kSub, kMul, kDiv, kMod, kPow, kLt, kLe, kGt, kGe, eqK, gEq, gNe, isN, gIsN, gNotN, gNeg, dCh, qB, qAnd, qOr, qNot, qYes, dAnd, dOr, dNot, dIf, gIx, oI, dSl, aNil, aCons, plainD, dTup, dLst, gAdd, R.arg, dCall, gLen, gTuple, gList, gMax, gMin, isT, gIs, dB, see, keepR, sSet, retR, sRet, sRetV, sRetN, sNx, sBrk, sCont, sSeq, sIf, sEx, sApp, sPut, g2N, gAllL, fn, Fl.mine, at0, at1, at2, at3, sExt, gIsL, gInt, dFu, dCallV, gIn, gNotIn, gIdx, gSum, ca.1, ca.2]
          | some b =>
            dsimp only [Option.getD_some, Option.bind_some]
            have rul := rules_eq a b r
            have key : (¬ (2 ≤ b ∧ b ≤ 4) ∨ ¬ ((r.length : Int) = a * b)) → ((roAll r).bind fun rs => if GoodX a b rs then some (a, b, rs) else none) = none := by
              intro h
              cases hro : roAll r with
              | none => rfl
              | some rs =>
                show (if GoodX a b rs then some (a, b, rs) else none) = none
                rw [if_neg]
                intro z
                have := roAll_len hro
                rcases h with h | h
                · exact h z.2.1
                · exact h (by rw [← this]; exact z.2.2.1)
            have m' : (-18446744073709551616 < a ∧ a < 18446744073709551616) ∨ (-18446744073709551616 < b ∧ b < 18446744073709551616) := .inl (by omega)
            have len2 : ((RR.length : Int) + 1 + 1 - 2) = (r.length : Int) := by rw [← hrl2]; omega
            by_cases cb : 2 ≤ b ∧ b ≤ 4
            · by_cases cl : (r.length : Int) = a * b
              · refine sSeq_nx (δ' := [some (.d (.str t)), some (.l .own (.str w0 :: .str w1 :: RR)), some (.d (.int a)), some (.d (.int b)), none]) (by simp [dVar, dC, d1, d2, gI, kSub, kMul, kDiv, kMod, kPow, kLt, kLe, kGt, kGe, eqK, gEq, gNe, isN, gIsN, gNotN, gNeg, dCh, qB, qAnd, qOr, qNot, qYes, dAnd, dOr, dNot, dIf, gIx, oI, dSl, aNil, aCons, plainD, dTup, dLst, gAdd, R.arg, dCall, gLen, gTuple, gList, gMax, gMin, isT, gIs, dB, see, keepR, sSet, retR, sRet, sRetV, sRetN, sNx, sBrk, sCont, sSeq, sIf, sEx, sApp, sPut, g2N, gAllL, fn, Fl.mine, at0, at1, at2, at3, sExt, gIsL, gInt, dFu, dCallV, gIn, gNotIn, gIdx, gSum, gLenS, ca.1, ca.2, cb.1, cb.2, m', len2, cl]) ?_
                refine sSeq_nx (δ' := [some (.d (.str t)), some (.l .own (.str w0 :: .str w1 :: RR)), some (.d (.int a)), some (.d (.int b)), some (.d (.tup (r.map (lr a b))))]) (by
                  have e : dComp [2, 3] (iAny (dSlS (dVar 1) (some (dC (.int 2))) none)) qYes (dCall F_law_rule (aCons (dVar 0) (aCons (dVar 1) (aCons (dVar 2) aNil)))) [some (.d (.str t)), some (.l .own (.str w0 :: .str w1 :: RR)), some (.d (.int a)), some (.d (.int b)), none] = some (.l .own (r.map (lr a b))) := by
                    unfold dComp iAny capsOf
                    have e0 : dSlS (dVar 1) (some (dC (.int 2))) none [some (.d (.str t)), some (.l .own (.str w0 :: .str w1 :: RR)), some (.d (.int a)), some (.d (.int b)), none] = some (.l .own RR) := by
                      unfold dSlS gSlS gSl oI dC dVar
                      simp only [Option.bind_some, see, List.getElem?_cons_succ, List.getElem?_cons_zero]
                      exact congrArg (fun l => some (R.l .own l)) (cut2 _ _ RR)
                    rw [e0]
                    show (if RR.length ≤ 10000 then (cpGo qYes (dCall F_law_rule (aCons (dVar 0) (aCons (dVar 1) (aCons (dVar 2) aNil)))) [some (.d (.int a)), some (.d (.int b))] RR).map _ else none) = _
                    rw [if_pos hrl, cp]
                    rfl
                  generalize dComp [2, 3] (iAny (dSlS (dVar 1) (some (dC (.int 2))) none)) qYes (dCall F_law_rule (aCons (dVar 0) (aCons (dVar 1) (aCons (dVar 2) aNil)))) = cc at *
                  generalize r.map (lr a b) = Q at *
                  simp [dVar, dC, d1, d2, gI, kSub, kMul, kDiv, kMod, kPow, kLt, kLe, kGt, kGe, eqK, gEq, gNe, isN, gIsN, gNotN, gNeg, dCh, qB, qAnd, qOr, qNot, qYes, dAnd, dOr, dNot, dIf, gIx, oI, dSl, aNil, aCons, plainD, dTup, dLst, gAdd, R.arg, dCall, gLen, gTuple, gList, gMax, gMin, isT, gIs, dB, see, keepR, sSet, retR, sRet, sRetV, sRetN, sNx, sBrk, sCont, sSeq, sIf, sEx, sApp, sPut, g2N, gAllL, fn, Fl.mine, at0, at1, at2, at3, sExt, gIsL, gInt, dFu, dCallV, gIn, gNotIn, gIdx, gSum, e]) ?_
                cases hro : roAll r with
                | none =>
                  rw [hro] at rul
                  dsimp only at rul
                  have rul := anyNo_is _ _ rul
                  have al := lr_all a b r
                  refine sSeq_rt ?_
                  generalize r.map (lr a b) = Q at *
                  have g0 : gIn0 (.d (.tup [])) (.d (.tup Q)) = some (.d (.bl true)) := by unfold gIn0; dsimp only; rw [if_pos al, rul]
                  simp [dVar, dC, d1, d2, gI, kSub, kMul, kDiv, kMod, kPow, kLt, kLe, kGt, kGe, eqK, gEq, gNe, isN, gIsN, gNotN, gNeg, dCh, qB, qAnd, qOr, qNot, qYes, dAnd, dOr, dNot, dIf, gIx, oI, dSl, aNil, aCons, plainD, dTup, dLst, gAdd, R.arg, dCall, gLen, gTuple, gList, gMax, gMin, isT, gIs, dB, see, keepR, sSet, retR, sRet, sRetV, sRetN, sNx, sBrk, sCont, sSeq, sIf, sEx, sApp, sPut, g2N, gAllL, fn, Fl.mine, at0, at1, at2, at3, sExt, gIsL, gInt, dFu, dCallV, gIn, gNotIn, gIdx, gSum, g0]
                | some rs =>
                  rw [hro] at rul
                  obtain ⟨q1, q2, q3⟩ := rul
                  by_cases g : ∀ t ∈ somes rs, Gr a b t
                  · obtain ⟨q4, q5⟩ := q2 g
                    have gx : GoodX a b rs := ⟨ca, cb, by rw [q1]; exact cl, g⟩
                    show _ = some (O.rt (.d ((if GoodX a b rs then some (a, b, rs) else none).elim .non mD')))
                    rw [if_pos gx]
                    show _ = some (O.rt (.d (.tup [.int a, .int b, .tup (rs.map rlD)])))
                    rw [← q5]
                    have q4 := anyNo_is _ _ q4
                    have al := lr_all a b r
                    generalize r.map (lr a b) = Q at *
                    have g0 : gIn0 (.d (.tup [])) (.d (.tup Q)) = some (.d (.bl false)) := by unfold gIn0; dsimp only; rw [if_pos al, q4]
                    refine sSeq_nx (δ' := [some (.d (.str t)), some (.l .own (.str w0 :: .str w1 :: RR)), some (.d (.int a)), some (.d (.int b)), some (.d (.tup Q))]) (by simp [dVar, dC, d1, d2, gI, kSub, kMul, kDiv, kMod, kPow, kLt, kLe, kGt, kGe, eqK, gEq, gNe, isN, gIsN, gNotN, gNeg, dCh, qB, qAnd, qOr, qNot, qYes, dAnd, dOr, dNot, dIf, gIx, oI, dSl, aNil, aCons, plainD, dTup, dLst, gAdd, R.arg, dCall, gLen, gTuple, gList, gMax, gMin, isT, gIs, dB, see, keepR, sSet, retR, sRet, sRetV, sRetN, sNx, sBrk, sCont, sSeq, sIf, sEx, sApp, sPut, g2N, gAllL, fn, Fl.mine, at0, at1, at2, at3, sExt, gIsL, gInt, dFu, dCallV, gIn, gNotIn, gIdx, gSum, g0]) ?_
                    simp [dVar, dC, d1, d2, gI, kSub, kMul, kDiv, kMod, kPow, kLt, kLe, kGt, kGe, eqK, gEq, gNe, isN, gIsN, gNotN, gNeg, dCh, qB, qAnd, qOr, qNot, qYes, dAnd, dOr, dNot, dIf, gIx, oI, dSl, aNil, aCons, plainD, dTup, dLst, gAdd, R.arg, dCall, gLen, gTuple, gList, gMax, gMin, isT, gIs, dB, see, keepR, sSet, retR, sRet, sRetV, sRetN, sNx, sBrk, sCont, sSeq, sIf, sEx, sApp, sPut, g2N, gAllL, fn, Fl.mine, at0, at1, at2, at3, sExt, gIsL, gInt, dFu, dCallV, gIn, gNotIn, gIdx, gSum]
                  · have q4 := q3 g
                    have gx : ¬ GoodX a b rs := fun z => g z.2.2.2
                    show _ = some (O.rt (.d ((if GoodX a b rs then some (a, b, rs) else none).elim .non mD')))
                    rw [if_neg gx]
                    refine sSeq_rt ?_
                    have q4 := anyNo_is _ _ q4
                    have al := lr_all a b r
                    generalize r.map (lr a b) = Q at *
                    have g0 : gIn0 (.d (.tup [])) (.d (.tup Q)) = some (.d (.bl true)) := by unfold gIn0; dsimp only; rw [if_pos al, q4]
                    simp [dVar, dC, d1, d2, gI, kSub, kMul, kDiv, kMod, kPow, kLt, kLe, kGt, kGe, eqK, gEq, gNe, isN, gIsN, gNotN, gNeg, dCh, qB, qAnd, qOr, qNot, qYes, dAnd, dOr, dNot, dIf, gIx, oI, dSl, aNil, aCons, plainD, dTup, dLst, gAdd, R.arg, dCall, gLen, gTuple, gList, gMax, gMin, isT, gIs, dB, see, keepR, sSet, retR, sRet, sRetV, sRetN, sNx, sBrk, sCont, sSeq, sIf, sEx, sApp, sPut, g2N, gAllL, fn, Fl.mine, at0, at1, at2, at3, sExt, gIsL, gInt, dFu, dCallV, gIn, gNotIn, gIdx, gSum, g0]
              · rw [key (.inr cl)]
                refine sSeq_rt ?_
                simp [dVar, dC, d1, d2, gI, kSub, kMul, kDiv, kMod, kPow, kLt, kLe, kGt, kGe, eqK, gEq, gNe, isN, gIsN, gNotN, gNeg, dCh, qB, qAnd, qOr, qNot, qYes, dAnd, dOr, dNot, dIf, gIx, oI, dSl, aNil, aCons, plainD, dTup, dLst, gAdd, R.arg, dCall, gLen, gTuple, gList, gMax, gMin, isT, gIs, dB, see, keepR, sSet, retR, sRet, sRetV, sRetN, sNx, sBrk, sCont, sSeq, sIf, sEx, sApp, sPut, g2N, gAllL, fn, Fl.mine, at0, at1, at2, at3, sExt, gIsL, gInt, dFu, dCallV, gIn, gNotIn, gIdx, gSum, gLenS, ca.1, ca.2, cb.1, cb.2, m', len2, cl]
            · rw [key (.inl cb)]
              refine sSeq_rt ?_
              by_cases z : 2 ≤ b
              · have z2 : ¬ b ≤ 4 := fun z' => cb ⟨z, z'⟩
                simp [dVar, dC, d1, d2, gI, kSub, kMul, kDiv, kMod, kPow, kLt, kLe, kGt, kGe, eqK, gEq, gNe, isN, gIsN, gNotN, gNeg, dCh, qB, qAnd, qOr, qNot, qYes, dAnd, dOr, dNot, dIf, gIx, oI, dSl, aNil, aCons, plainD, dTup, dLst, gAdd, R.arg, dCall, gLen, gTuple, gList, gMax, gMin, isT, gIs, dB, see, keepR, sSet, retR, sRet, sRetV, sRetN, sNx, sBrk, sCont, sSeq, sIf, sEx, sApp, sPut, g2N, gAllL, fn, Fl.mine, at0, at1, at2, at3, sExt, gIsL, gInt, dFu, dCallV, gIn, gNotIn, gIdx, gSum, gLenS, ca.1, ca.2, z, z2]
              · simp [dVar, dC, d1, d2, gI, kSub, kMul, kDiv, kMod, kPow, kLt, kLe, kGt, kGe, eqK, gEq, gNe, isN, gIsN, gNotN, gNeg, dCh, qB, qAnd, qOr, qNot, qYes, dAnd, dOr, dNot, dIf, gIx, oI, dSl, aNil, aCons, plainD, dTup, dLst, gAdd, R.arg, dCall, gLen, gTuple, gList, gMax, gMin, isT, gIs, dB, see, keepR, sSet, retR, sRet, sRetV, sRetN, sNx, sBrk, sCont, sSeq, sIf, sEx, sApp, sPut, g2N, gAllL, fn, Fl.mine, at0, at1, at2, at3, sExt, gIsL, gInt, dFu, dCallV, gIn, gNotIn, gIdx, gSum, gLenS, ca.1, ca.2, z]
        · have key : ((fgc k0).bind fun b => (roAll r).bind fun rs => if GoodX a b rs then some (a, b, rs) else none) = none := by
            cases fgc k0 with
            | none => rfl
            | some b =>
              cases roAll r with
              | none => rfl
              | some rs =>
                show (if GoodX a b rs then some (a, b, rs) else none) = none
                rw [if_neg (fun z => ca z.1)]
          rw [key]
          refine sSeq_rt ?_
          by_cases z : 1 ≤ a
          · have z2 : ¬ a ≤ 6 := fun z' => ca ⟨z, z'⟩
            simp [dVar, dC, d1, d2, gI, kSub, kMul, kDiv, kMod, kPow, kLt, kLe, kGt, kGe, eqK, gEq, gNe, isN, gIsN, gNotN, gNeg, dCh, qB, qAnd, qOr, qNot, qYes, dAnd, dOr, dNot, dIf, gIx, oI, dSl, aNil, aCons, plainD, dTup, dLst, gAdd, R.arg, dCall, gLen, gTuple, gList, gMax, gMin, isT, gIs, dB, see, keepR, sSet, retR, sRet, sRetV, sRetN, sNx, sBrk, sCont, sSeq, sIf, sEx, sApp, sPut, g2N, gAllL, fn, Fl.mine, at0, at1, at2, at3, sExt, gIsL, gInt, dFu, dCallV, gIn, gNotIn, gIdx, gSum, gLenS, z, z2]
          · simp [dVar, dC, d1, d2, gI, kSub, kMul, kDiv, kMod, kPow, kLt, kLe, kGt, kGe, eqK, gEq, gNe, isN, gIsN, gNotN, gNeg, dCh, qB, qAnd, qOr, qNot, qYes, dAnd, dOr, dNot, dIf, gIx, oI, dSl, aNil, aCons, plainD, dTup, dLst, gAdd, R.arg, dCall, gLen, gTuple, gList, gMax, gMin, isT, gIs, dB, see, keepR, sSet, retR, sRet, sRetV, sRetN, sNx, sBrk, sCont, sSeq, sIf, sEx, sApp, sPut, g2N, gAllL, fn, Fl.mine, at0, at1, at2, at3, sExt, gIsL, gInt, dFu, dCallV, gIn, gNotIn, gIdx, gSum, gLenS, z]
    · rw [if_neg (fun z => hc z.2)]
      have ce : ¬ _ := fun z => hc (ce.mp z)
      refine sSeq_rt ?_
      simp [dVar, dC, d1, d2, gI, kSub, kMul, kDiv, kMod, kPow, kLt, kLe, kGt, kGe, eqK, gEq, gNe, isN, gIsN, gNotN, gNeg, dCh, qB, qAnd, qOr, qNot, qYes, dAnd, dOr, dNot, dIf, gIx, oI, dSl, aNil, aCons, plainD, dTup, dLst, gAdd, R.arg, dCall, gLen, gTuple, gList, gMax, gMin, isT, gIs, dB, see, keepR, sSet, retR, sRet, sRetV, sRetN, sNx, sBrk, sCont, sSeq, sIf, sEx, sApp, sPut, g2N, gAllL, fn, Fl.mine, at0, at1, at2, at3, sExt, gIsL, gInt, dFu, dCallV, gIn, gNotIn, gIdx, gSum, gLenS, hneg, w1v, hl, i1, ce]
  · rw [if_neg (fun z => hl z.1)]
    refine sSeq_rt ?_
    have hl' : ¬ ((w1.length : Int) = 2) := by omega
    have w1v : ∀ L : List D, gIxS (.l .view (.str w0 :: .str w1 :: L)) (.d (.int 1)) = some (.d (.str w1)) := fun L => by simp [gIxS, dVar, dC, d1, d2, gI, kSub, kMul, kDiv, kMod, kPow, kLt, kLe, kGt, kGe, eqK, gEq, gNe, isN, gIsN, gNotN, gNeg, dCh, qB, qAnd, qOr, qNot, qYes, dAnd, dOr, dNot, dIf, gIx, oI, dSl, aNil, aCons, plainD, dTup, dLst, gAdd, R.arg, dCall, gLen, gTuple, gList, gMax, gMin, isT, gIs, dB, see, keepR, sSet, retR, sRet, sRetV, sRetN, sNx, sBrk, sCont, sSeq, sIf, sEx, sApp, sPut, g2N, gAllL, fn, Fl.mine, at0, at1, at2, at3, sExt, gIsL, gInt, dFu, dCallV, gIn, gNotIn, gIdx, gSum]
    simp [dVar, dC, d1, d2, gI, kSub, kMul, kDiv, kMod, kPow, kLt, kLe, kGt, kGe, eqK, gEq, gNe, isN, gIsN, gNotN, gNeg, dCh, qB, qAnd, qOr, qNot, qYes, dAnd, dOr, dNot, dIf, gIx, oI, dSl, aNil, aCons, plainD, dTup, dLst, gAdd, R.arg, dCall, gLen, gTuple, gList, gMax, gMin, isT, gIs, dB, see, keepR, sSet, retR, sRet, sRetV, sRetN, sNx, sBrk, sCont, sSeq, sIf, sEx, sApp, sPut, g2N, gAllL, fn, Fl.mine, at0, at1, at2, at3, sExt, gIsL, gInt, dFu, dCallV, gIn, gNotIn, gIdx, gSum, gLenS, hneg, w1v, hz, hl, hl']
end

noncomputable def dg (n : Int) : Str := Str.ofString (toString n)
noncomputable def wd : Rl → Str
  | none => Str.ofString "-"
  | some (w, y, q) => dg w ++ (if y = 0 then Str.ofString "<" else Str.ofString ">") ++ dg q
noncomputable def neat (x : Str) : Bool := decide (x.length ≤ 3) && !x.cps.toList.contains 32
theorem neat_len {x : Str} (h : neat x = true) : x.length ≤ 3 := by
  unfold neat at h
  rw [Bool.and_eq_true] at h
  exact of_decide_eq_true h.1
theorem neat_free {x : Str} (h : neat x = true) : 32 ∉ x.cps.toList := by
  unfold neat at h
  rw [Bool.and_eq_true] at h
  intro hc
  have : x.cps.toList.contains 32 = true := List.contains_iff_mem.mpr hc
  rw [this] at h
  cases h.2
theorem str_ext {a b : Str} (h : a.cps.toList = b.cps.toList) : a = b := by
  cases a; cases b
  congr 1
  exact Array.toList_inj.mp h
theorem app_cps (a b : Str) : (a ++ b).cps.toList = a.cps.toList ++ b.cps.toList := by
  show (a.cps ++ b.cps).toList = _
  simp
theorem str_len (a : Str) : a.length = a.cps.toList.length := by
  show a.cps.size = _
  simp
theorem len_app (a b : Str) : (a ++ b).length = a.length + b.length := by
  rw [str_len, app_cps, List.length_append, ← str_len, ← str_len]
theorem app_assoc (a b c : Str) : a ++ b ++ c = a ++ (b ++ c) := by
  apply str_ext
  simp only [app_cps, List.append_assoc]
theorem join_cons (sep a : Str) : ∀ (l : List Str), l ≠ [] → Str.join sep (a :: l) = a ++ sep ++ Str.join sep l
  | [], h => absurd rfl h
  | b :: r, _ => rfl
theorem join_snoc (sep : Str) : ∀ (l : List Str) (b : Str), l ≠ [] → Str.join sep (l ++ [b]) = Str.join sep l ++ sep ++ b
  | [], b, h => absurd rfl h
  | [a], b, _ => rfl
  | a :: c :: r, b, _ => by
    have ih := join_snoc sep (c :: r) b (by simp)
    rw [List.cons_append, join_cons sep a _ (by simp), ih, join_cons sep a _ (by simp)]
    simp only [app_assoc]
theorem join_merge (sep a b : Str) (l : List Str) : Str.join sep ((a ++ sep ++ b) :: l) = Str.join sep (a :: b :: l) := by
  cases l with
  | nil => rfl
  | cons c r =>
    rw [join_cons sep _ _ (by simp), join_cons sep a _ (by simp), join_cons sep b _ (by simp)]
    simp only [app_assoc]
theorem free_cut {c : Nat} : ∀ {a b : List Nat} {x y : List Nat}, c ∉ a → c ∉ b → a ++ c :: x = b ++ c :: y → a = b ∧ x = y
  | [], [], x, y, _, _, h => by
    cases h
    exact ⟨rfl, rfl⟩
  | [], d :: b, x, y, _, hb, h => by
    rw [List.nil_append, List.cons_append] at h
    injection h with h1 h2
    exact absurd (h1 ▸ List.mem_cons_self) hb
  | d :: a, [], x, y, ha, _, h => by
    rw [List.nil_append, List.cons_append] at h
    injection h with h1 h2
    exact absurd (h1 ▸ List.mem_cons_self) ha
  | d :: a, e :: b, x, y, ha, hb, h => by
    rw [List.cons_append, List.cons_append] at h
    injection h with h1 h2
    obtain ⟨h3, h4⟩ := free_cut (fun z => ha (List.mem_cons_of_mem _ z)) (fun z => hb (List.mem_cons_of_mem _ z)) h2
    exact ⟨by rw [h1, h3], h4⟩
theorem join_inj : ∀ {l m : List Str}, l ≠ [] → m ≠ [] → (∀ x ∈ l, 32 ∉ x.cps.toList) → (∀ x ∈ m, 32 ∉ x.cps.toList) → Str.join ⟨#[32]⟩ l = Str.join ⟨#[32]⟩ m → l = m
  | [], _, h, _, _, _, _ => absurd rfl h
  | _, [], _, h, _, _, _ => absurd rfl h
  | [a], [b], _, _, _, _, h => by rw [show a = b from h]
  | [a], b :: c :: r, _, _, ha, _, h => by
    rw [join_cons _ b _ (by simp)] at h
    have h2 : a.cps.toList = b.cps.toList ++ [32] ++ (Str.join ⟨#[32]⟩ (c :: r)).cps.toList := by
      have := congrArg (fun x : Str => x.cps.toList) h
      simp only [app_cps] at this
      exact this
    exact absurd (by rw [h2]; simp) (ha a List.mem_cons_self)
  | a :: c :: r, [b], _, _, _, hb, h => by
    rw [join_cons _ a _ (by simp)] at h
    have h2 : b.cps.toList = a.cps.toList ++ [32] ++ (Str.join ⟨#[32]⟩ (c :: r)).cps.toList := by
      have := congrArg (fun x : Str => x.cps.toList) h.symm
      simp only [app_cps] at this
      exact this
    exact absurd (by rw [h2]; simp) (hb b List.mem_cons_self)
  | a :: c :: r, b :: d :: q, _, _, ha, hb, h => by
    rw [join_cons _ a _ (by simp), join_cons _ b _ (by simp)] at h
    have h2 : a.cps.toList ++ 32 :: (Str.join ⟨#[32]⟩ (c :: r)).cps.toList = b.cps.toList ++ 32 :: (Str.join ⟨#[32]⟩ (d :: q)).cps.toList := by
      have := congrArg (fun x : Str => x.cps.toList) h
      simp only [app_cps, List.append_assoc] at this
      exact this
    obtain ⟨h3, h4⟩ := free_cut (ha a List.mem_cons_self) (hb b List.mem_cons_self) h2
    have h5 := join_inj (l := c :: r) (m := d :: q) (by simp) (by simp) (fun x hx => ha x (List.mem_cons_of_mem _ hx)) (fun x hx => hb x (List.mem_cons_of_mem _ hx)) (str_ext h4)
    rw [str_ext h3, h5]
theorem blank_eq : (Str.ofString " " : Str) = ⟨#[32]⟩ := by decide +kernel
theorem split_join {l : List Str} (h : l ≠ []) (hf : ∀ x ∈ l, 32 ∉ x.cps.toList) : Txt.split (Str.join (Str.ofString " ") l) (Str.ofString " ") = l := by
  rw [blank_eq]
  refine join_inj ?_ h (StrLaws.split_free _ 32) hf (StrLaws.join_split _ _)
  have := PyProof.Rows.split_pos (Str.join ⟨#[32]⟩ l) ⟨#[32]⟩
  intro z
  rw [z] at this
  simp at this
theorem nt_none : neat (wd none) = true := by decide +kernel
theorem nt_some : ∀ w : Fin 4, ∀ y : Fin 2, ∀ q : Fin 6, neat (wd (some ((w.val : Int), (y.val : Int), (q.val : Int)))) = true := by decide +kernel
theorem dg_neat : ∀ n : Fin 10, neat (dg (n.val : Int)) = true := by decide +kernel
theorem dg_len : ∀ n : Fin 10, (dg (n.val : Int)).length = 1 := by decide +kernel
noncomputable def hd2 (s : Int) : Str := dg s ++ Str.ofString ":"
theorem hd_neat : ∀ n : Fin 10, neat (hd2 (n.val : Int)) = true := by decide +kernel
theorem fin_of {n : Int} {m : Nat} (h0 : 0 ≤ n) (h1 : n < m) : ∃ k : Fin m, n = (k.val : Int) := ⟨⟨n.toNat, by omega⟩, by show n = ((n.toNat : Nat) : Int); omega⟩
theorem rule_cases {r s : Int} {x : Rl} (r6 : r ≤ 6) (s4 : s ≤ 4) (g : GoodR r s x) : x = none ∨ ∃ (w : Fin 4) (y : Fin 2) (q : Fin 6), x = some ((w.val : Int), (y.val : Int), (q.val : Int)) := by
  cases x with
  | none => exact .inl rfl
  | some t =>
    obtain ⟨w, y, q⟩ := t
    obtain ⟨h1, h2, h3⟩ := g
    obtain ⟨w', e1⟩ := fin_of (m := 4) h1.1 (by omega)
    obtain ⟨y', e2⟩ := fin_of (n := y) (m := 2) (by omega) (by omega)
    obtain ⟨q', e3⟩ := fin_of (m := 6) h3.1 (by omega)
    exact .inr ⟨w', y', q', by rw [e1, e2, e3]⟩
theorem wd_neat {r s : Int} {x : Rl} (r6 : r ≤ 6) (s4 : s ≤ 4) (g : GoodR r s x) : neat (wd x) = true := by
  rcases rule_cases r6 s4 g with rfl | ⟨w, y, q, rfl⟩
  · exact nt_none
  · exact nt_some w y q
noncomputable def due0 (r s : Int) : Str := dg r ++ Str.ofString " " ++ dg s ++ Str.ofString ":"
noncomputable def dueN (r s : Int) (ws : List Str) : Str := Str.join (Str.ofString " ") (due0 r s :: ws)
theorem due_snoc (r s : Int) (ws : List Str) (w : Str) : dueN r s (ws ++ [w]) = dueN r s ws ++ Str.ofString " " ++ w := by
  unfold dueN
  rw [← List.cons_append]
  exact join_snoc _ _ _ (by simp)
theorem due_cut (r s : Int) (ws : List Str) : dueN r s ws = Str.join (Str.ofString " ") (dg r :: hd2 s :: ws) := by
  unfold dueN due0 hd2
  rw [app_assoc, app_assoc, ← app_assoc (dg r)]
  exact join_merge _ _ _ _
theorem strs_map : ∀ l : List Str, strsD (l.map D.str) = some l
  | [] => rfl
  | x :: r => by
    show (strsD (r.map D.str)).map (x :: ·) = _
    rw [strs_map r]
    rfl
theorem gStr_dg {w : Int} (h : w.natAbs.log2 < 1920) : gStr [.d (.int w)] = some (.d (.str (dg w))) := by
  unfold gStr
  dsimp only
  rw [if_pos h]
  rfl
theorem log_small {n : Int} (h0 : 0 ≤ n) (h1 : n < 1000) : n.natAbs.log2 < 1920 := Nat.lt_of_le_of_lt (Nat.log2_le_self _) (by omega)
theorem join_len : ∀ (l : List Str) (a : Str), (∀ x ∈ l, x.length ≤ 3) → (Str.join (Str.ofString " ") (a :: l)).length ≤ a.length + 4 * l.length
  | [], a, _ => by show a.length ≤ _; omega
  | b :: r, a, h => by
    have b1 : (Str.ofString " ").length = 1 := by decide +kernel
    have ih := join_len r b (fun x hx => h x (List.mem_cons_of_mem _ hx))
    have hb := h b List.mem_cons_self
    rw [join_cons _ a _ (by simp), len_app, len_app, List.length_cons]
    omega
theorem due0_len : ∀ r s : Fin 10, (due0 (r.val : Int) (s.val : Int)).length = 4 := by decide +kernel
section
variable {r s : Int} {rs : List Rl}
theorem GoodM.words (g : GoodM r s rs) : ∀ x ∈ rs.map wd, neat x = true := by
  intro x hx
  obtain ⟨y, hy, rfl⟩ := List.mem_map.mp hx
  exact wd_neat g.r2 g.s2 (g.all y hy)
theorem GoodM.len24 (g : GoodM r s rs) : rs.length ≤ 24 := by
  have := rs_bound g.r1 g.r2 g.s1 g.s2
  have := g.len
  omega
theorem GoodM.due4 (g : GoodM r s rs) : (due0 r s).length = 4 := by
  have r1 := g.r1
  have r2 := g.r2
  have s1 := g.s1
  have s2 := g.s2
  obtain ⟨r', e1⟩ := fin_of (n := r) (m := 10) (by omega) (by omega)
  obtain ⟨s', e2⟩ := fin_of (n := s) (m := 10) (by omega) (by omega)
  rw [e1, e2]
  exact due0_len r' s'
theorem GoodM.dueLen (g : GoodM r s rs) (k : Nat) : (dueN r s ((rs.map wd).take k)).length ≤ 100 := by
  have h := join_len ((rs.map wd).take k) (due0 r s) (fun x hx => neat_len (g.words x (List.mem_of_mem_take hx)))
  rw [g.due4] at h
  have h2 : ((rs.map wd).take k).length ≤ 24 := by
    rw [List.length_take, List.length_map]
    have := g.len24
    omega
  unfold dueN
  omega
end
theorem way_lt : ∀ y : Fin 2, gIxS (.d (.str "<>")) (.d (.int (y.val : Int))) = some (.d (.str (if (y.val : Int) = 0 then Str.ofString "<" else Str.ofString ">"))) := by
  intro y
  have h : y.val = 0 ∨ y.val = 1 := by omega
  have l : ("<>" : Str).length ≤ 10000 := by decide +kernel
  have e0 : ("<>" : Str).cps.toList = [60, 62] := by decide +kernel
  have e1 : (Str.ofString "<") = ⟨#[60]⟩ := by decide +kernel
  have e2 : (Str.ofString ">") = ⟨#[62]⟩ := by decide +kernel
  unfold gIxS
  dsimp only
  rw [if_pos l, e0]
  rcases h with h | h
  · rw [h, e1]
    rfl
  · rw [h, e2]
    rfl
theorem dash_eq : (" -" : Str) = Str.ofString " " ++ Str.ofString "-" := by decide +kernel
theorem text_step {r s : Int} {x : Rl} (r6 : r ≤ 6) (s4 : s ≤ 4) (g : GoodR r s x) (y0 l2 l3 : Option R) (t : Str) (ht : t.length ≤ 900) :
    ∃ l, L1_law_text ([y0, some (.d (.str t)), l2, l3].set 2 (some (.d (rlD x)))) = some (.nx [y0, some (.d (.str (t ++ Str.ofString " " ++ wd x))), some (.d (rlD x)), l]) := by
  have b1 : (Str.ofString " ").length = 1 := by decide +kernel
  have b2 : (Str.ofString " -").length = 2 := by decide +kernel
  have nz := neat_len (wd_neat r6 s4 g)
  rcases rule_cases r6 s4 g with rfl | ⟨w, y, q, rfl⟩
  · refine ⟨l3, ?_⟩
    have h1 : t.length + (Str.ofString " -").length ≤ 10000 := by omega
    have e : t ++ Str.ofString " " ++ wd none = t ++ Str.ofString " -" := by
      rw [dash_eq, app_assoc]
      rfl
    rw [e]
    unfold L1_law_text
    simp [dVar, dC, d1, d2, gI, kSub, kMul, kDiv, kMod, kPow, kLt, kLe, kGt, kGe, eqK, gEq, gNe, isN, gIsN, gNotN, gNeg, dCh, qB, qAnd, qOr, qNot, qYes, dAnd, dOr, dNot, dIf, gIx, oI, dSl, aNil, aCons, plainD, dTup, dLst, gAdd, R.arg, dCall, gLen, gTuple, gList, gMax, gMin, isT, gIs, dB, see, keepR, sSet, retR, sRet, sRetV, sRetN, sNx, sBrk, sCont, sSeq, sIf, sEx, sApp, sPut, g2N, gAllL, fn, Fl.mine, at0, at1, at2, at3, sExt, gIsL, gInt, dFu, dCallV, gIn, gNotIn, gIdx, gSum, gAddS, rlD, h1]
  · have u1 := dg_len ⟨w.val, by omega⟩
    have u2 := dg_len ⟨q.val, by omega⟩
    have e1 : (w.val : Int).natAbs.log2 < 1920 := by have := w.isLt; exact Nat.lt_of_le_of_lt (Nat.log2_le_self _) (by omega)
    have e2 : (q.val : Int).natAbs.log2 < 1920 := by have := q.isLt; exact Nat.lt_of_le_of_lt (Nat.log2_le_self _) (by omega)
    dsimp only at u1 u2
    have wy := way_lt y
    have hw : wd (some ((w.val : Int), (y.val : Int), (q.val : Int))) = dg (w.val : Int) ++ (if (y.val : Int) = 0 then Str.ofString "<" else Str.ofString ">") ++ dg (q.val : Int) := rfl
    have c1 : (if (y.val : Int) = 0 then Str.ofString "<" else Str.ofString ">").length = 1 := by split <;> decide +kernel
    rw [hw]
    generalize (if (y.val : Int) = 0 then Str.ofString "<" else Str.ofString ">") = c at *
    have g1 := gStr_dg e1
    have g2 := gStr_dg e2
    generalize (w.val : Int) = wz at *
    generalize (y.val : Int) = yz at *
    generalize (q.val : Int) = qz at *
    generalize dg wz = dw at *
    generalize dg qz = dq at *
    have k1 : dw.length + c.length ≤ 10000 := by omega
    have k2 : (dw ++ c).length + dq.length ≤ 10000 := by rw [len_app]; omega
    have k3 : t.length + (Str.ofString " ").length ≤ 10000 := by omega
    have k4 : (t ++ Str.ofString " ").length + (dw ++ c ++ dq).length ≤ 10000 := by rw [len_app, len_app, len_app]; omega
    have a0 : gIxS (.d (.tup [.int wz, .int yz, .int qz])) (.d (.int 0)) = some (.d (.int wz)) := by simp [gIxS, dVar, dC, d1, d2, gI, kSub, kMul, kDiv, kMod, kPow, kLt, kLe, kGt, kGe, eqK, gEq, gNe, isN, gIsN, gNotN, gNeg, dCh, qB, qAnd, qOr, qNot, qYes, dAnd, dOr, dNot, dIf, gIx, oI, dSl, aNil, aCons, plainD, dTup, dLst, gAdd, R.arg, dCall, gLen, gTuple, gList, gMax, gMin, isT, gIs, dB, see, keepR, sSet, retR, sRet, sRetV, sRetN, sNx, sBrk, sCont, sSeq, sIf, sEx, sApp, sPut, g2N, gAllL, fn, Fl.mine, at0, at1, at2, at3, sExt, gIsL, gInt, dFu, dCallV, gIn, gNotIn, gIdx, gSum]
    have a1 : gIxS (.d (.tup [.int wz, .int yz, .int qz])) (.d (.int 1)) = some (.d (.int yz)) := by simp [gIxS, dVar, dC, d1, d2, gI, kSub, kMul, kDiv, kMod, kPow, kLt, kLe, kGt, kGe, eqK, gEq, gNe, isN, gIsN, gNotN, gNeg, dCh, qB, qAnd, qOr, qNot, qYes, dAnd, dOr, dNot, dIf, gIx, oI, dSl, aNil, aCons, plainD, dTup, dLst, gAdd, R.arg, dCall, gLen, gTuple, gList, gMax, gMin, isT, gIs, dB, see, keepR, sSet, retR, sRet, sRetV, sRetN, sNx, sBrk, sCont, sSeq, sIf, sEx, sApp, sPut, g2N, gAllL, fn, Fl.mine, at0, at1, at2, at3, sExt, gIsL, gInt, dFu, dCallV, gIn, gNotIn, gIdx, gSum]
    have a2 : gIxS (.d (.tup [.int wz, .int yz, .int qz])) (.d (.int 2)) = some (.d (.int qz)) := by simp [gIxS, dVar, dC, d1, d2, gI, kSub, kMul, kDiv, kMod, kPow, kLt, kLe, kGt, kGe, eqK, gEq, gNe, isN, gIsN, gNotN, gNeg, dCh, qB, qAnd, qOr, qNot, qYes, dAnd, dOr, dNot, dIf, gIx, oI, dSl, aNil, aCons, plainD, dTup, dLst, gAdd, R.arg, dCall, gLen, gTuple, gList, gMax, gMin, isT, gIs, dB, see, keepR, sSet, retR, sRet, sRetV, sRetN, sNx, sBrk, sCont, sSeq, sIf, sEx, sApp, sPut, g2N, gAllL, fn, Fl.mine, at0, at1, at2, at3, sExt, gIsL, gInt, dFu, dCallV, gIn, gNotIn, gIdx, gSum]
    refine ⟨some (.d (.str (dw ++ c ++ dq))), ?_⟩
    show L1_law_text [y0, some (.d (.str t)), some (.d (.tup [.int wz, .int yz, .int qz])), l3] = some (.nx [y0, some (.d (.str (t ++ Str.ofString " " ++ (dw ++ c ++ dq)))), some (.d (.tup [.int wz, .int yz, .int qz])), some (.d (.str (dw ++ c ++ dq)))])
    unfold L1_law_text
    refine sIf_f (by simp [dVar, dC, d1, d2, gI, kSub, kMul, kDiv, kMod, kPow, kLt, kLe, kGt, kGe, eqK, gEq, gNe, isN, gIsN, gNotN, gNeg, dCh, qB, qAnd, qOr, qNot, qYes, dAnd, dOr, dNot, dIf, gIx, oI, dSl, aNil, aCons, plainD, dTup, dLst, gAdd, R.arg, dCall, gLen, gTuple, gList, gMax, gMin, isT, gIs, dB, see, keepR, sSet, retR, sRet, sRetV, sRetN, sNx, sBrk, sCont, sSeq, sIf, sEx, sApp, sPut, g2N, gAllL, fn, Fl.mine, at0, at1, at2, at3, sExt, gIsL, gInt, dFu, dCallV, gIn, gNotIn, gIdx, gSum]) ?_
    refine sSeq_nx (δ' := [y0, some (.d (.str t)), some (.d (.tup [.int wz, .int yz, .int qz])), some (.d (.str (dw ++ c ++ dq)))]) (by simp [dVar, dC, d1, d2, gI, kSub, kMul, kDiv, kMod, kPow, kLt, kLe, kGt, kGe, eqK, gEq, gNe, isN, gIsN, gNotN, gNeg, dCh, qB, qAnd, qOr, qNot, qYes, dAnd, dOr, dNot, dIf, gIx, oI, dSl, aNil, aCons, plainD, dTup, dLst, gAdd, R.arg, dCall, gLen, gTuple, gList, gMax, gMin, isT, gIs, dB, see, keepR, sSet, retR, sRet, sRetV, sRetN, sNx, sBrk, sCont, sSeq, sIf, sEx, sApp, sPut, g2N, gAllL, fn, Fl.mine, at0, at1, at2, at3, sExt, gIsL, gInt, dFu, dCallV, gIn, gNotIn, gIdx, gSum, gAddS, a0, a1, a2, g1, g2, wy, k1, k2]) ?_
    generalize dw ++ c ++ dq = z at *
    simp [dVar, dC, d1, d2, gI, kSub, kMul, kDiv, kMod, kPow, kLt, kLe, kGt, kGe, eqK, gEq, gNe, isN, gIsN, gNotN, gNeg, dCh, qB, qAnd, qOr, qNot, qYes, dAnd, dOr, dNot, dIf, gIx, oI, dSl, aNil, aCons, plainD, dTup, dLst, gAdd, R.arg, dCall, gLen, gTuple, gList, gMax, gMin, isT, gIs, dB, see, keepR, sSet, retR, sRet, sRetV, sRetN, sNx, sBrk, sCont, sSeq, sIf, sEx, sApp, sPut, g2N, gAllL, fn, Fl.mine, at0, at1, at2, at3, sExt, gIsL, gInt, dFu, dCallV, gIn, gNotIn, gIdx, gSum, gAddS, k3, k4]
theorem e_text {r s : Int} {rs : List Rl} (g : GoodM r s rs) : F_law_text [.d (mD r s rs)] = some (.d (.str (dueN r s (rs.map wd)))) := by
  have r1 := g.r1
  have r2 := g.r2
  have s1 := g.s1
  have s2 := g.s2
  have q := fo_inv (i := 2) (b := L1_law_text) (ds := rs.map rlD) (δ := [some (.d (mD r s rs)), some (.d (.str (due0 r s))), none, none])
    (fun k δ => ∃ l3 l4, δ = [some (.d (mD r s rs)), some (.d (.str (dueN r s ((rs.map wd).take k)))), l3, l4]) ⟨none, none, by rfl⟩ ?_
  · obtain ⟨δ', e1, l3, l4, rfl⟩ := q
    rw [List.length_map, List.take_of_length_le (by simp)] at e1
    have b1 : (Str.ofString " ").length = 1 := by decide +kernel
    have b2 : (Str.ofString ":").length = 1 := by decide +kernel
    obtain ⟨r', f1⟩ := fin_of (n := r) (m := 10) (by omega) (by omega)
    obtain ⟨s', f2⟩ := fin_of (n := s) (m := 10) (by omega) (by omega)
    have z1 := dg_len r'
    have z2 := dg_len s'
    rw [← f1] at z1
    rw [← f2] at z2
    have g1 := gStr_dg (w := r) (log_small (by omega) (by omega))
    have g2 := gStr_dg (w := s) (log_small (by omega) (by omega))
    have k1 : (dg r).length + (Str.ofString " ").length ≤ 10000 := by omega
    have k2 : (dg r ++ Str.ofString " ").length + (dg s).length ≤ 10000 := by rw [len_app]; omega
    have k3 : (dg r ++ Str.ofString " " ++ dg s).length + (Str.ofString ":").length ≤ 10000 := by rw [len_app, len_app]; omega
    refine fn_rt rfl ?_
    show B_law_text [some (.d (mD r s rs)), none, none, none] = _
    unfold B_law_text
    refine sSeq_nx (δ' := [some (.d (mD r s rs)), some (.d (.str (due0 r s))), none, none]) (by
      unfold mD due0
      generalize rs.map rlD = L at *
      have a0 : gIxS (.d (.tup [.int r, .int s, .tup L])) (.d (.int 0)) = some (.d (.int r)) := by simp [gIxS, dVar, dC, d1, d2, gI, kSub, kMul, kDiv, kMod, kPow, kLt, kLe, kGt, kGe, eqK, gEq, gNe, isN, gIsN, gNotN, gNeg, dCh, qB, qAnd, qOr, qNot, qYes, dAnd, dOr, dNot, dIf, gIx, oI, dSl, aNil, aCons, plainD, dTup, dLst, gAdd, R.arg, dCall, gLen, gTuple, gList, gMax, gMin, isT, gIs, dB, see, keepR, sSet, retR, sRet, sRetV, sRetN, sNx, sBrk, sCont, sSeq, sIf, sEx, sApp, sPut, g2N, gAllL, fn, Fl.mine, at0, at1, at2, at3, sExt, gIsL, gInt, dFu, dCallV, gIn, gNotIn, gIdx, gSum]
      have a1 : gIxS (.d (.tup [.int r, .int s, .tup L])) (.d (.int 1)) = some (.d (.int s)) := by simp [gIxS, dVar, dC, d1, d2, gI, kSub, kMul, kDiv, kMod, kPow, kLt, kLe, kGt, kGe, eqK, gEq, gNe, isN, gIsN, gNotN, gNeg, dCh, qB, qAnd, qOr, qNot, qYes, dAnd, dOr, dNot, dIf, gIx, oI, dSl, aNil, aCons, plainD, dTup, dLst, gAdd, R.arg, dCall, gLen, gTuple, gList, gMax, gMin, isT, gIs, dB, see, keepR, sSet, retR, sRet, sRetV, sRetN, sNx, sBrk, sCont, sSeq, sIf, sEx, sApp, sPut, g2N, gAllL, fn, Fl.mine, at0, at1, at2, at3, sExt, gIsL, gInt, dFu, dCallV, gIn, gNotIn, gIdx, gSum]
      simp [dVar, dC, d1, d2, gI, kSub, kMul, kDiv, kMod, kPow, kLt, kLe, kGt, kGe, eqK, gEq, gNe, isN, gIsN, gNotN, gNeg, dCh, qB, qAnd, qOr, qNot, qYes, dAnd, dOr, dNot, dIf, gIx, oI, dSl, aNil, aCons, plainD, dTup, dLst, gAdd, R.arg, dCall, gLen, gTuple, gList, gMax, gMin, isT, gIs, dB, see, keepR, sSet, retR, sRet, sRetV, sRetN, sNx, sBrk, sCont, sSeq, sIf, sEx, sApp, sPut, g2N, gAllL, fn, Fl.mine, at0, at1, at2, at3, sExt, gIsL, gInt, dFu, dCallV, gIn, gNotIn, gIdx, gSum, gAddS, a0, a1, g1, g2, k1, k2, k3]) ?_
    refine sSeq_nx (δ' := [some (.d (mD r s rs)), some (.d (.str (dueN r s (rs.map wd)))), l3, l4]) (by
      unfold L2_law_text sFor iSeq
      unfold mD at e1 ⊢
      generalize rs.map rlD = L at *
      have e0 : d2 gIxS (dVar 0) (dC (.int 2)) [some (.d (.tup [.int r, .int s, .tup L])), some (.d (.str (due0 r s))), none, none] = some (.d (.tup L)) := by simp [dVar, dC, d1, d2, gI, kSub, kMul, kDiv, kMod, kPow, kLt, kLe, kGt, kGe, eqK, gEq, gNe, isN, gIsN, gNotN, gNeg, dCh, qB, qAnd, qOr, qNot, qYes, dAnd, dOr, dNot, dIf, gIx, oI, dSl, aNil, aCons, plainD, dTup, dLst, gAdd, R.arg, dCall, gLen, gTuple, gList, gMax, gMin, isT, gIs, dB, see, keepR, sSet, retR, sRet, sRetV, sRetN, sNx, sBrk, sCont, sSeq, sIf, sEx, sApp, sPut, g2N, gAllL, fn, Fl.mine, at0, at1, at2, at3, sExt, gIsL, gInt, dFu, dCallV, gIn, gNotIn, gIdx, gSum, gIxS]
      rw [e0]
      exact e1) ?_
    generalize dueN r s (rs.map wd) = t at *
    simp [dVar, dC, d1, d2, gI, kSub, kMul, kDiv, kMod, kPow, kLt, kLe, kGt, kGe, eqK, gEq, gNe, isN, gIsN, gNotN, gNeg, dCh, qB, qAnd, qOr, qNot, qYes, dAnd, dOr, dNot, dIf, gIx, oI, dSl, aNil, aCons, plainD, dTup, dLst, gAdd, R.arg, dCall, gLen, gTuple, gList, gMax, gMin, isT, gIs, dB, see, keepR, sSet, retR, sRet, sRetV, sRetN, sNx, sBrk, sCont, sSeq, sIf, sEx, sApp, sPut, g2N, gAllL, fn, Fl.mine, at0, at1, at2, at3, sExt, gIsL, gInt, dFu, dCallV, gIn, gNotIn, gIdx, gSum]
  · rintro k δ d hd ⟨l3, l4, rfl⟩
    rw [List.getElem?_map] at hd
    obtain ⟨x, hx, rfl⟩ := Option.map_eq_some_iff.mp hd
    have gx := g.all x (List.mem_of_getElem? hx)
    have hl := g.dueLen k
    obtain ⟨l, e⟩ := text_step g.r2 g.s2 gx (some (.d (mD r s rs))) l3 l4 (dueN r s ((rs.map wd).take k)) (by omega)
    refine ⟨_, e, some (.d (rlD x)), l, ?_⟩
    have ht : (rs.map wd).take (k + 1) = (rs.map wd).take k ++ [wd x] := by
      rw [List.take_add_one, List.getElem?_map, hx]
      rfl
    rw [ht, due_snoc]

theorem join_bd : ∀ (l : List Str), (∀ w ∈ l, w.length ≤ (Str.join (Str.ofString " ") l).length) ∧ l.length ≤ (Str.join (Str.ofString " ") l).length + 1
  | [] => ⟨(fun w hw => by cases hw), Nat.zero_le _⟩
  | [a] => ⟨fun w hw => by
      have : w = a := by simpa using hw
      subst this
      exact Nat.le_refl _, Nat.le_add_left _ _⟩
  | a :: b :: r => by
    have ih := join_bd (b :: r)
    have b1 : (Str.ofString " ").length = 1 := by decide +kernel
    rw [join_cons _ a _ (by simp), len_app, len_app, b1]
    refine ⟨fun w hw => ?_, ?_⟩
    · rcases List.mem_cons.mp hw with rfl | hw
      · omega
      · have := ih.1 w hw
        omega
    · have := ih.2
      rw [List.length_cons]
      omega
theorem split_bd (t : Str) : (∀ w ∈ Txt.split t (Str.ofString " "), w.length ≤ t.length) ∧ (Txt.split t (Str.ofString " ")).length ≤ t.length + 1 := by
  have h := join_bd (Txt.split t (Str.ofString " "))
  rw [StrLaws.join_split] at h
  exact h
theorem e_readT {t : Str} (ht : t.length ≤ 900) : F_read [.d (.str t)] = some ((rd (Txt.split t (Str.ofString " "))).map fun m => .d (mD' m)) := by
  obtain ⟨b1, b2⟩ := split_bd t
  cases hs : Txt.split t (Str.ofString " ") with
  | nil => exact e_read_few (by omega) hs (by simp)
  | cons w0 r =>
    cases r with
    | nil => exact e_read_few (by omega) hs (by simp)
    | cons w1 r =>
      rw [hs] at b1 b2
      simp only [List.length_cons] at b2
      exact e_readX (by omega) hs (by omega) fun w hw => by have := b1 w hw; omega
theorem e_dueT {t : Str} (ht : t.length ≤ 900) : F_law_due [.d (.str t)] = some (.d ((rd (Txt.split t (Str.ofString " "))).elim .non mD')) := by
  obtain ⟨b1, b2⟩ := split_bd t
  cases hs : Txt.split t (Str.ofString " ") with
  | nil => exact due_few (by omega) hs (by simp)
  | cons w0 r =>
    cases r with
    | nil => exact due_few (by omega) hs (by simp)
    | cons w1 r =>
      rw [hs] at b1 b2
      simp only [List.length_cons] at b2
      exact e_dueX (by omega) hs (by omega) fun w hw => by have := b1 w hw; omega
theorem rd_len {ws : List Str} {m : Int × Int × List Rl} (h : rd ws = some m) : m.2.2.length ≤ ws.length := by
  unfold rd at h
  split at h
  · rename_i w0 w1 r
    split at h
    · cases ha : fgW w0 with
      | none => rw [ha] at h; cases h
      | some a =>
        rw [ha] at h
        cases hb : fgc (ch w1 0) with
        | none => rw [hb] at h; cases h
        | some b =>
          rw [hb] at h
          cases hr : roAll r with
          | none => rw [hr] at h; cases h
          | some rs =>
            rw [hr] at h
            have h : (if GoodX a b rs then some (a, b, rs) else none) = some m := h
            split at h
            · cases h
              have := roAll_len hr
              simp only [List.length_cons]
              omega
            · cases h
    · cases h
  · cases h
theorem rl_dep (x : Rl) : dep 1 (rlD x) := by
  cases x with
  | none => exact True.intro
  | some t =>
    obtain ⟨w, y, q⟩ := t
    refine ⟨by simp, fun d hd => ?_⟩
    simp at hd
    rcases hd with rfl | rfl | rfl <;> exact True.intro
theorem m_dep {m : Int × Int × List Rl} (h : m.2.2.length ≤ 9000) : dep 3 (mD' m) := by
  refine ⟨by simp [mD], fun d hd => ?_⟩
  simp at hd
  rcases hd with rfl | rfl | rfl
  · exact True.intro
  · exact True.intro
  · refine ⟨by simpa using (by omega : m.2.2.length ≤ 10000), fun d hd => ?_⟩
    obtain ⟨x, _, rfl⟩ := List.mem_map.mp hd
    exact rl_dep x
theorem fin_k19 (x0 x1 x3 x4 x5 : Option R) {t : Str} (ht : t.length ≤ 900) :
    sSeq (sSet 6 (dCall F_law_due (aCons (dVar 2) aNil))) (sSeq (sIf (qB (d2 (g2N gIsN) (dVar 6) (dC .non))) (sRet (dAnd (dCall F_law_refused (aCons (dVar 2) aNil)) (dCall F_law_refused (aCons (dVar 2) aNil)))) sNx) (sRet (dCall (F_law_same 4) (aCons (dCallX F_read (aCons (dVar 2) aNil)) (aCons (dVar 6) aNil))))) [x0, x1, some (.d (.str t)), x3, x4, x5, none] = some (.rt (.d (.bl true))) := by
  have er := e_readT ht
  have ed := e_dueT ht
  obtain ⟨_, b2⟩ := split_bd t
  cases hr : rd (Txt.split t (Str.ofString " ")) with
  | none =>
    rw [hr] at er ed
    have ef : F_law_refused [.d (.str t)] = some (.d (.bl true)) := by
      refine fn_rt rfl ?_
      show B_law_refused [some (.d (.str t)), none, none] = _
      unfold B_law_refused
      refine sSeq_nx (δ' := [some (.d (.str t)), some (.d (.bl false)), none]) (by simp [dVar, dC, d1, d2, gI, kSub, kMul, kDiv, kMod, kPow, kLt, kLe, kGt, kGe, eqK, gEq, gNe, isN, gIsN, gNotN, gNeg, dCh, qB, qAnd, qOr, qNot, qYes, dAnd, dOr, dNot, dIf, gIx, oI, dSl, aNil, aCons, plainD, dTup, dLst, gAdd, R.arg, dCall, gLen, gTuple, gList, gMax, gMin, isT, gIs, dB, see, keepR, sSet, retR, sRet, sRetV, sRetN, sNx, sBrk, sCont, sSeq, sIf, sEx, sApp, sPut, g2N, gAllL, fn, Fl.mine, at0, at1, at2, at3, sExt, gIsL, gInt, dFu, dCallV, gIn, gNotIn, gIdx, gSum]) ?_
      refine sSeq_nx (δ' := [some (.d (.str t)), some (.d (.bl true)), none]) (by simp [dVar, dC, d1, d2, gI, kSub, kMul, kDiv, kMod, kPow, kLt, kLe, kGt, kGe, eqK, gEq, gNe, isN, gIsN, gNotN, gNeg, dCh, qB, qAnd, qOr, qNot, qYes, dAnd, dOr, dNot, dIf, gIx, oI, dSl, aNil, aCons, plainD, dTup, dLst, gAdd, R.arg, dCall, gLen, gTuple, gList, gMax, gMin, isT, gIs, dB, see, keepR, sSet, retR, sRet, sRetV, sRetN, sNx, sBrk, sCont, sSeq, sIf, sEx, sApp, sPut, g2N, gAllL, fn, Fl.mine, at0, at1, at2, at3, sExt, gIsL, gInt, dFu, dCallV, gIn, gNotIn, gIdx, gSum, sTryE, er]) ?_
      simp [dVar, dC, d1, d2, gI, kSub, kMul, kDiv, kMod, kPow, kLt, kLe, kGt, kGe, eqK, gEq, gNe, isN, gIsN, gNotN, gNeg, dCh, qB, qAnd, qOr, qNot, qYes, dAnd, dOr, dNot, dIf, gIx, oI, dSl, aNil, aCons, plainD, dTup, dLst, gAdd, R.arg, dCall, gLen, gTuple, gList, gMax, gMin, isT, gIs, dB, see, keepR, sSet, retR, sRet, sRetV, sRetN, sNx, sBrk, sCont, sSeq, sIf, sEx, sApp, sPut, g2N, gAllL, fn, Fl.mine, at0, at1, at2, at3, sExt, gIsL, gInt, dFu, dCallV, gIn, gNotIn, gIdx, gSum]
    refine sSeq_nx (δ' := [x0, x1, some (.d (.str t)), x3, x4, x5, some (.d .non)]) (by simp [dVar, dC, d1, d2, gI, kSub, kMul, kDiv, kMod, kPow, kLt, kLe, kGt, kGe, eqK, gEq, gNe, isN, gIsN, gNotN, gNeg, dCh, qB, qAnd, qOr, qNot, qYes, dAnd, dOr, dNot, dIf, gIx, oI, dSl, aNil, aCons, plainD, dTup, dLst, gAdd, R.arg, dCall, gLen, gTuple, gList, gMax, gMin, isT, gIs, dB, see, keepR, sSet, retR, sRet, sRetV, sRetN, sNx, sBrk, sCont, sSeq, sIf, sEx, sApp, sPut, g2N, gAllL, fn, Fl.mine, at0, at1, at2, at3, sExt, gIsL, gInt, dFu, dCallV, gIn, gNotIn, gIdx, gSum, ed]) ?_
    refine sSeq_rt ?_
    simp [dVar, dC, d1, d2, gI, kSub, kMul, kDiv, kMod, kPow, kLt, kLe, kGt, kGe, eqK, gEq, gNe, isN, gIsN, gNotN, gNeg, dCh, qB, qAnd, qOr, qNot, qYes, dAnd, dOr, dNot, dIf, gIx, oI, dSl, aNil, aCons, plainD, dTup, dLst, gAdd, R.arg, dCall, gLen, gTuple, gList, gMax, gMin, isT, gIs, dB, see, keepR, sSet, retR, sRet, sRetV, sRetN, sNx, sBrk, sCont, sSeq, sIf, sEx, sApp, sPut, g2N, gAllL, fn, Fl.mine, at0, at1, at2, at3, sExt, gIsL, gInt, dFu, dCallV, gIn, gNotIn, gIdx, gSum, ef]
  | some m =>
    rw [hr] at er ed
    have er : F_read [.d (.str t)] = some (some (.d (mD' m))) := er
    have ed : F_law_due [.d (.str t)] = some (.d (mD' m)) := ed
    have hm := rd_len hr
    have es : F_law_same 4 _ = _ := e_same 3 (mD' m) (m_dep (by omega))
    have hn : mD' m = .tup [.int m.1, .int m.2.1, .tup (m.2.2.map rlD)] := rfl
    refine sSeq_nx (δ' := [x0, x1, some (.d (.str t)), x3, x4, x5, some (.d (mD' m))]) (by
      generalize mD' m = d at *
      simp [dVar, dC, d1, d2, gI, kSub, kMul, kDiv, kMod, kPow, kLt, kLe, kGt, kGe, eqK, gEq, gNe, isN, gIsN, gNotN, gNeg, dCh, qB, qAnd, qOr, qNot, qYes, dAnd, dOr, dNot, dIf, gIx, oI, dSl, aNil, aCons, plainD, dTup, dLst, gAdd, R.arg, dCall, gLen, gTuple, gList, gMax, gMin, isT, gIs, dB, see, keepR, sSet, retR, sRet, sRetV, sRetN, sNx, sBrk, sCont, sSeq, sIf, sEx, sApp, sPut, g2N, gAllL, fn, Fl.mine, at0, at1, at2, at3, sExt, gIsL, gInt, dFu, dCallV, gIn, gNotIn, gIdx, gSum, ed]) ?_
    refine sSeq_nx (δ' := [x0, x1, some (.d (.str t)), x3, x4, x5, some (.d (mD' m))]) (by
      rw [hn]
      simp [dVar, dC, d1, d2, gI, kSub, kMul, kDiv, kMod, kPow, kLt, kLe, kGt, kGe, eqK, gEq, gNe, isN, gIsN, gNotN, gNeg, dCh, qB, qAnd, qOr, qNot, qYes, dAnd, dOr, dNot, dIf, gIx, oI, dSl, aNil, aCons, plainD, dTup, dLst, gAdd, R.arg, dCall, gLen, gTuple, gList, gMax, gMin, isT, gIs, dB, see, keepR, sSet, retR, sRet, sRetV, sRetN, sNx, sBrk, sCont, sSeq, sIf, sEx, sApp, sPut, g2N, gAllL, fn, Fl.mine, at0, at1, at2, at3, sExt, gIsL, gInt, dFu, dCallV, gIn, gNotIn, gIdx, gSum]) ?_
    generalize mD' m = d at *
    simp [dVar, dC, d1, d2, gI, kSub, kMul, kDiv, kMod, kPow, kLt, kLe, kGt, kGe, eqK, gEq, gNe, isN, gIsN, gNotN, gNeg, dCh, qB, qAnd, qOr, qNot, qYes, dAnd, dOr, dNot, dIf, gIx, oI, dSl, aNil, aCons, plainD, dTup, dLst, gAdd, R.arg, dCall, gLen, gTuple, gList, gMax, gMin, isT, gIs, dB, see, keepR, sSet, retR, sRet, sRetV, sRetN, sNx, sBrk, sCont, sSeq, sIf, sEx, sApp, sPut, g2N, gAllL, fn, Fl.mine, at0, at1, at2, at3, sExt, gIsL, gInt, dFu, dCallV, gIn, gNotIn, gIdx, gSum, dCallX, er, es]

noncomputable def chkL (n : Nat) (o : Option D) : Bool := match o with
  | some (.str x) => decide (x.length ≤ n)
  | _ => false
theorem chkL_is {n : Nat} {o : Option D} (h : chkL n o = true) : ∃ x : Str, o = some (.str x) ∧ x.length ≤ n := by
  unfold chkL at h
  split at h
  · exact ⟨_, rfl, of_decide_eq_true h⟩
  · cases h
noncomputable def oddL : List D := [.str "", .str " ", .str ":", .str "1 2", .str "1 2:", .str "1 2: - ", .str "1 2: -  -", .str "0 2:", .str "7 2: - - - - - - - - - - - - - -", .str "1 1: -", .str "01 2: - -", .str "1 2: - - -"]
noncomputable def oddW : List D := [.str "", .str "--", .str "1", .str "1>", .str ">1", .str "1>0>", .str "1-0", .str "01>0", .str "1>00", .str "a>0", .str "1>a", .str "+>0", .str "1>_", .str "4>0", .str "1>6", .str "9<9"]
theorem oddL_at : ∀ k : Fin 12, chkL 40 (atP oddL (k.val : Int)) = true := by decide +kernel
theorem oddW_at : ∀ k : Fin 16, chkL 4 (atP oddW (k.val : Int)) = true := by decide +kernel
theorem e_odd (c : Int) : ∃ x : Str, x.length ≤ 40 ∧ F_law_odd [.d (.int c)] = some (.d (.str x)) := by
  have b := emod_lt c 12 (by omega)
  obtain ⟨k, hk⟩ := fin_of (n := c % 12) (m := 12) b.1 b.2
  obtain ⟨x, e, hx⟩ := chkL_is (oddL_at k)
  rw [← hk] at e
  refine ⟨x, hx, fn_rt rfl ?_⟩
  show B_law_odd [some (.d (.int c)), none] = _
  unfold B_law_odd
  refine sSeq_nx rfl ?_
  refine sSeq_nx (δ' := [some (.d (.int c)), some (.l .own oddL)]) rfl ?_
  generalize oddL = L at *
  simp [dVar, dC, d1, d2, gI, kSub, kMul, kDiv, kMod, kPow, kLt, kLe, kGt, kGe, eqK, gEq, gNe, isN, gIsN, gNotN, gNeg, dCh, qB, qAnd, qOr, qNot, qYes, dAnd, dOr, dNot, dIf, gIx, oI, dSl, aNil, aCons, plainD, dTup, dLst, gAdd, R.arg, dCall, gLen, gTuple, gList, gMax, gMin, isT, gIs, dB, see, keepR, sSet, retR, sRet, sRetV, sRetN, sNx, sBrk, sCont, sSeq, sIf, sEx, sApp, sPut, g2N, gAllL, fn, Fl.mine, at0, at1, at2, at3, sExt, gIsL, gInt, dFu, dCallV, gIn, gNotIn, gIdx, gSum, gIxS, e]
theorem strs_set : ∀ (l : List Str) (k : Nat) (y : Str), (l.map D.str).set k (.str y) = (l.set k y).map D.str := fun l k y => by rw [List.map_set]
theorem sum4 : ∀ l : List Str, (∀ x ∈ l, x.length ≤ 4) → (l.map (·.length)).sum ≤ 4 * l.length
  | [], _ => by simp
  | x :: r, h => by
    have h1 := h x List.mem_cons_self
    have h2 := sum4 r (fun y hy => h y (List.mem_cons_of_mem _ hy))
    rw [List.map_cons, List.sum_cons, List.length_cons]
    omega
theorem join_len4 : ∀ (l : List Str), (∀ x ∈ l, x.length ≤ 4) → (Str.join (Str.ofString " ") l).length ≤ 5 * l.length
  | [], _ => by decide +kernel
  | [a], h => by
    have := h a List.mem_cons_self
    show a.length ≤ _
    simp
    omega
  | a :: b :: r, h => by
    have b1 : (Str.ofString " ").length = 1 := by decide +kernel
    have ih := join_len4 (b :: r) (fun x hx => h x (List.mem_cons_of_mem _ hx))
    have ha := h a List.mem_cons_self
    rw [join_cons _ a _ (by simp), len_app, len_app, List.length_cons]
    omega
theorem e_worded {t : Str} {ws : List Str} (ht : t.length ≤ 900) (hsp : Txt.split t (Str.ofString " ") = ws) (h3 : 3 ≤ ws.length) (hlen : ws.length ≤ 30) (hw : ∀ w ∈ ws, w.length ≤ 4) (c o : Int) :
    ∃ x : Str, x.length ≤ 200 ∧ F_law_worded [.d (.str t), .d (.int c), .d (.int o)] = some (.d (.str x)) := by
  have b1 : ((Str.ofString " ").length == 0) = false := by decide +kernel
  have b1' : (Str.ofString " ").length = 1 := by decide +kernel
  have b := emod_lt o 16 (by omega)
  obtain ⟨k, hk⟩ := fin_of (n := o % 16) (m := 16) b.1 b.2
  obtain ⟨y, e, hy⟩ := chkL_is (oddW_at k)
  rw [← hk] at e
  have hz : (0 : Int) < (ws.length : Int) - 2 := by omega
  have bc := emod_lt c ((ws.length : Int) - 2) hz
  have hw2 : ∀ w ∈ ws.set (2 + c % ((ws.length : Int) - 2)).toNat y, w.length ≤ 4 := fun w hw' => by
    rcases List.mem_or_eq_of_mem_set hw' with h | h
    · exact hw w h
    · subst h; exact hy
  have hj := join_len4 _ hw2
  have hs4 := sum4 _ hw2
  rw [List.length_set] at hj hs4
  refine ⟨Str.join (Str.ofString " ") (ws.set (2 + c % ((ws.length : Int) - 2)).toNat y), by omega, fn_rt rfl ?_⟩
  show B_law_worded [some (.d (.str t)), some (.d (.int c)), some (.d (.int o)), none, none, none] = _
  unfold B_law_worded
  refine sSeq_nx (δ' := [some (.d (.str t)), some (.d (.int c)), some (.d (.int o)), some (.l .own (ws.map D.str)), none, none]) (by
    unfold sSet d2 dC dVar gSplitS
    simp only [Option.bind_some, see, List.getElem?_cons_zero]
    rw [if_pos ⟨b1, by omega⟩, hsp]
    rfl) ?_
  refine sSeq_nx (δ' := [some (.d (.str t)), some (.d (.int c)), some (.d (.int o)), some (.l .own (ws.map D.str)), some (.l .own oddW), none]) rfl ?_
  have hl : (ws.map D.str).length = ws.length := List.length_map _
  have ix : ixP (ws.map D.str).length (2 + c % ((ws.length : Int) - 2)) = some (2 + c % ((ws.length : Int) - 2)).toNat := by
    rw [hl]
    unfold ixP
    rw [if_pos (by omega), if_pos (by omega)]
  have hset := strs_set ws (2 + c % ((ws.length : Int) - 2)).toNat y
  have e3 := strs_map (ws.set (2 + c % ((ws.length : Int) - 2)).toNat y)
  rw [← hset] at e3
  have hfit : ((ws.set (2 + c % ((ws.length : Int) - 2)).toNat y).map (·.length)).sum + (ws.set (2 + c % ((ws.length : Int) - 2)).toNat y).length * (Str.ofString " ").length ≤ 10000 := by
    rw [List.length_set, b1']
    omega
  generalize ws.set (2 + c % ((ws.length : Int) - 2)).toNat y = ws' at *
  refine sSeq_nx (δ' := [some (.d (.str t)), some (.d (.int c)), some (.d (.int o)), some (.l .own (ws.map D.str)), some (.l .own oddW), some (.d (.int (2 + c % ((ws.length : Int) - 2))))]) (by
    generalize ws.map D.str = L at *
    generalize oddW = W at *
    rw [← hl] at hz ⊢
    have hz' : (2 : Int) < (L.length : Int) := by omega
    simp [dVar, dC, d1, d2, gI, kSub, kMul, kDiv, kMod, kPow, kLt, kLe, kGt, kGe, eqK, gEq, gNe, isN, gIsN, gNotN, gNeg, dCh, qB, qAnd, qOr, qNot, qYes, dAnd, dOr, dNot, dIf, gIx, oI, dSl, aNil, aCons, plainD, dTup, dLst, gAdd, R.arg, dCall, gLen, gTuple, gList, gMax, gMin, isT, gIs, dB, see, keepR, sSet, retR, sRet, sRetV, sRetN, sNx, sBrk, sCont, sSeq, sIf, sEx, sApp, sPut, g2N, gAllL, fn, Fl.mine, at0, at1, at2, at3, sExt, gIsL, gInt, dFu, dCallV, gIn, gNotIn, gIdx, gSum, gLenS, hz, hz']) ?_
  generalize (2 + c % ((ws.length : Int) - 2)) = at' at *
  generalize ws.map D.str = L at *
  refine sSeq_nx (δ' := [some (.d (.str t)), some (.d (.int c)), some (.d (.int o)), some (.l .own (L.set at'.toNat (.str y))), some (.l .own oddW), some (.d (.int at'))]) (by
    generalize oddW = W at *
    simp [dVar, dC, d1, d2, gI, kSub, kMul, kDiv, kMod, kPow, kLt, kLe, kGt, kGe, eqK, gEq, gNe, isN, gIsN, gNotN, gNeg, dCh, qB, qAnd, qOr, qNot, qYes, dAnd, dOr, dNot, dIf, gIx, oI, dSl, aNil, aCons, plainD, dTup, dLst, gAdd, R.arg, dCall, gLen, gTuple, gList, gMax, gMin, isT, gIs, dB, see, keepR, sSet, retR, sRet, sRetV, sRetN, sNx, sBrk, sCont, sSeq, sIf, sEx, sApp, sPut, g2N, gAllL, fn, Fl.mine, at0, at1, at2, at3, sExt, gIsL, gInt, dFu, dCallV, gIn, gNotIn, gIdx, gSum, gIxS, e, ix]) ?_
  generalize L.set at'.toNat (.str y) = L' at *
  unfold sRet d2 dC dVar gJoinS
  simp only [Option.bind_some, see, List.getElem?_cons_succ, List.getElem?_cons_zero, e3]
  rw [if_pos hfit]
  rfl
theorem put_at (c : Int) : ∃ x : Str, x.length = 1 ∧ gIxS (.d (.str " :<>-01469_+.a")) (.d (.int (c % 14))) = some (.d (.str x)) := by
  have b := emod_lt c 14 (by omega)
  have l : (" :<>-01469_+.a" : Str).length = 14 := by decide +kernel
  have e := ix_at (k := (c % 14).toNat) l (by omega) (by omega)
  rw [show (((c % 14).toNat : Nat) : Int) = c % 14 by omega] at e
  exact ⟨_, rfl, e⟩
theorem sl_str {t : Str} (ht : t.length ≤ 900) (lo hi : Option Int) : gSlS (.d (.str t)) lo hi = some (.d (.str (Txt.slice t lo hi))) := by
  unfold gSlS
  dsimp only
  rw [if_pos (by omega)]
theorem law_true (ns : List Int) (hl0 : ns.length ≤ 63) : F_law [.l .bor (ns.map .int)] = some (.d (.bl true)) := by
  have a0 := e_cell ns 0 (by omega)
  have a1 := e_cell ns 1 (by omega)
  have a2 := e_cell ns 2 (by omega)
  have a3 := e_cell ns 3 (by omega)
  have b1 := emod_lt (cellZ ns 0) 6 (by omega)
  have b2 := emod_lt (cellZ ns 0 / 6) 3 (by omega)
  obtain ⟨rs, gm, em⟩ := e_machine ns 4 (1 + cellZ ns 0 % 6) (2 + cellZ ns 0 / 6 % 3) (by omega) (by omega) (by omega) (by omega) (by omega)
  have et := e_text gm
  have h24 := gm.len24
  have hl := gm.dueLen (rs.map wd).length
  rw [List.take_length] at hl
  have r1 := gm.r1
  have r2 := gm.r2
  have s1 := gm.s1
  have s2 := gm.s2
  obtain ⟨r', f1⟩ := fin_of (n := 1 + cellZ ns 0 % 6) (m := 10) (by omega) (by omega)
  obtain ⟨s', f2⟩ := fin_of (n := 2 + cellZ ns 0 / 6 % 3) (m := 10) (by omega) (by omega)
  have n1 := dg_neat r'
  have n2 := hd_neat s'
  rw [← f1] at n1
  rw [← f2] at n2
  have hall : ∀ x ∈ dg (1 + cellZ ns 0 % 6) :: hd2 (2 + cellZ ns 0 / 6 % 3) :: rs.map wd, neat x = true := fun x hx => by
    rcases List.mem_cons.mp hx with rfl | hx
    · exact n1
    · rcases List.mem_cons.mp hx with rfl | hx
      · exact n2
      · exact gm.words x hx
  have hsp : Txt.split (dueN (1 + cellZ ns 0 % 6) (2 + cellZ ns 0 / 6 % 3) (rs.map wd)) (Str.ofString " ") = dg (1 + cellZ ns 0 % 6) :: hd2 (2 + cellZ ns 0 / 6 % 3) :: rs.map wd := by
    rw [due_cut]
    exact split_join (by simp) fun x hx => neat_free (hall x hx)
  have hpos : 1 ≤ rs.length := by
    have := gm.len
    have e : ∀ r : Int, 1 ≤ r → r ≤ 6 → ∀ s : Int, 2 ≤ s → s ≤ 4 → 1 ≤ r * s := fun r h1 h2 s h3 h4 => by
      have e : r = 1 ∨ r = 2 ∨ r = 3 ∨ r = 4 ∨ r = 5 ∨ r = 6 := by omega
      rcases e with rfl | rfl | rfl | rfl | rfl | rfl <;> omega
    have := e _ r1 r2 _ s1 s2
    omega
  have ew := e_worded (t := dueN (1 + cellZ ns 0 % 6) (2 + cellZ ns 0 / 6 % 3) (rs.map wd)) (by omega) hsp (by simp; omega) (by simp; omega) (fun w hw => by have := neat_len (hall w hw); omega)
  generalize dueN (1 + cellZ ns 0 % 6) (2 + cellZ ns 0 / 6 % 3) (rs.map wd) = T at *
  refine fn_rt rfl ?_
  show B_law [sc ns, none, none, none, none, none, none] = _
  unfold B_law
  generalize cellZ ns 0 = c0 at *
  generalize cellZ ns 1 = c1 at *
  generalize cellZ ns 2 = c2 at *
  generalize cellZ ns 3 = c3 at *
  generalize mD (1 + c0 % 6) (2 + c0 / 6 % 3) rs = m at *
  obtain ⟨p, hp, ep⟩ := put_at c3
  refine sSeq_nx (δ' := [sc ns, some (.d m), none, none, none, none, none]) (by simp [dVar, dC, d1, d2, gI, kSub, kMul, kDiv, kMod, kPow, kLt, kLe, kGt, kGe, eqK, gEq, gNe, isN, gIsN, gNotN, gNeg, dCh, qB, qAnd, qOr, qNot, qYes, dAnd, dOr, dNot, dIf, gIx, oI, dSl, aNil, aCons, plainD, dTup, dLst, gAdd, R.arg, dCall, gLen, gTuple, gList, gMax, gMin, isT, gIs, dB, see, keepR, sSet, retR, sRet, sRetV, sRetN, sNx, sBrk, sCont, sSeq, sIf, sEx, sApp, sPut, g2N, gAllL, fn, Fl.mine, at0, at1, at2, at3, sExt, gIsL, gInt, dFu, dCallV, gIn, gNotIn, gIdx, gSum, sc, a0, em]) ?_
  refine sSeq_nx (δ' := [sc ns, some (.d m), some (.d (.str T)), none, none, none, none]) (by simp [dVar, dC, d1, d2, gI, kSub, kMul, kDiv, kMod, kPow, kLt, kLe, kGt, kGe, eqK, gEq, gNe, isN, gIsN, gNotN, gNeg, dCh, qB, qAnd, qOr, qNot, qYes, dAnd, dOr, dNot, dIf, gIx, oI, dSl, aNil, aCons, plainD, dTup, dLst, gAdd, R.arg, dCall, gLen, gTuple, gList, gMax, gMin, isT, gIs, dB, see, keepR, sSet, retR, sRet, sRetV, sRetN, sNx, sBrk, sCont, sSeq, sIf, sEx, sApp, sPut, g2N, gAllL, fn, Fl.mine, at0, at1, at2, at3, sExt, gIsL, gInt, dFu, dCallV, gIn, gNotIn, gIdx, gSum, et]) ?_
  refine sSeq_nx (δ' := [sc ns, some (.d m), some (.d (.str T)), some (.d (.int (c1 % 40))), none, none, none]) (by simp [dVar, dC, d1, d2, gI, kSub, kMul, kDiv, kMod, kPow, kLt, kLe, kGt, kGe, eqK, gEq, gNe, isN, gIsN, gNotN, gNeg, dCh, qB, qAnd, qOr, qNot, qYes, dAnd, dOr, dNot, dIf, gIx, oI, dSl, aNil, aCons, plainD, dTup, dLst, gAdd, R.arg, dCall, gLen, gTuple, gList, gMax, gMin, isT, gIs, dB, see, keepR, sSet, retR, sRet, sRetV, sRetN, sNx, sBrk, sCont, sSeq, sIf, sEx, sApp, sPut, g2N, gAllL, fn, Fl.mine, at0, at1, at2, at3, sExt, gIsL, gInt, dFu, dCallV, gIn, gNotIn, gIdx, gSum, sc, a1]) ?_
  have tl : (0 : Int) < (T.length : Int) + 1 := by omega
  have tl2 : T.length ≤ 10000 := by omega
  refine sSeq_nx (δ' := [sc ns, some (.d m), some (.d (.str T)), some (.d (.int (c1 % 40))), some (.d (.int (c2 % ((T.length : Int) + 1)))), none, none]) (by simp [dVar, dC, d1, d2, gI, kSub, kMul, kDiv, kMod, kPow, kLt, kLe, kGt, kGe, eqK, gEq, gNe, isN, gIsN, gNotN, gNeg, dCh, qB, qAnd, qOr, qNot, qYes, dAnd, dOr, dNot, dIf, gIx, oI, dSl, aNil, aCons, plainD, dTup, dLst, gAdd, R.arg, dCall, gLen, gTuple, gList, gMax, gMin, isT, gIs, dB, see, keepR, sSet, retR, sRet, sRetV, sRetN, sNx, sBrk, sCont, sSeq, sIf, sEx, sApp, sPut, g2N, gAllL, fn, Fl.mine, at0, at1, at2, at3, sExt, gIsL, gInt, dFu, dCallV, gIn, gNotIn, gIdx, gSum, sc, a2, gLenS, tl, tl2]) ?_
  refine sSeq_nx (δ' := [sc ns, some (.d m), some (.d (.str T)), some (.d (.int (c1 % 40))), some (.d (.int (c2 % ((T.length : Int) + 1)))), some (.d (.str p)), none]) (by simp [dVar, dC, d1, d2, gI, kSub, kMul, kDiv, kMod, kPow, kLt, kLe, kGt, kGe, eqK, gEq, gNe, isN, gIsN, gNotN, gNeg, dCh, qB, qAnd, qOr, qNot, qYes, dAnd, dOr, dNot, dIf, gIx, oI, dSl, aNil, aCons, plainD, dTup, dLst, gAdd, R.arg, dCall, gLen, gTuple, gList, gMax, gMin, isT, gIs, dB, see, keepR, sSet, retR, sRet, sRetV, sRetN, sNx, sBrk, sCont, sSeq, sIf, sEx, sApp, sPut, g2N, gAllL, fn, Fl.mine, at0, at1, at2, at3, sExt, gIsL, gInt, dFu, dCallV, gIn, gNotIn, gIdx, gSum, sc, a3, ep]) ?_
  generalize c2 % ((T.length : Int) + 1) = k at *
  generalize c1 % 40 = way at *
  have fin : ∀ {t : Str}, t.length ≤ 900 → _ := fun {t} ht => fin_k19 (sc ns) (some (.d m)) (some (.d (.int way))) (some (.d (.int k))) (some (.d (.str p))) ht
  have sA := Txt.slice_le T none (some k)
  have sB := Txt.slice_le T (some k) none
  have sC := Txt.slice_le T (some (k + 1)) none
  have gA := sl_str (t := T) (by omega) none (some k)
  have gB := sl_str (t := T) (by omega) (some k) none
  have gC := sl_str (t := T) (by omega) (some (k + 1)) none
  generalize Txt.slice T none (some k) = A at *
  generalize Txt.slice T (some k) none = Bq at *
  generalize Txt.slice T (some (k + 1)) none = Cq at *
  by_cases w1 : way < 8
  · have k1 : A.length + p.length ≤ 10000 := by omega
    have k2 : (A ++ p).length + Bq.length ≤ 10000 := by rw [len_app]; omega
    refine sSeq_nx (δ' := [sc ns, some (.d m), some (.d (.str (A ++ p ++ Bq))), some (.d (.int way)), some (.d (.int k)), some (.d (.str p)), none]) (by simp [dVar, dC, d1, d2, gI, kSub, kMul, kDiv, kMod, kPow, kLt, kLe, kGt, kGe, eqK, gEq, gNe, isN, gIsN, gNotN, gNeg, dCh, qB, qAnd, qOr, qNot, qYes, dAnd, dOr, dNot, dIf, gIx, oI, dSl, aNil, aCons, plainD, dTup, dLst, gAdd, R.arg, dCall, gLen, gTuple, gList, gMax, gMin, isT, gIs, dB, see, keepR, sSet, retR, sRet, sRetV, sRetN, sNx, sBrk, sCont, sSeq, sIf, sEx, sApp, sPut, g2N, gAllL, fn, Fl.mine, at0, at1, at2, at3, sExt, gIsL, gInt, dFu, dCallV, gIn, gNotIn, gIdx, gSum, w1, dSlS, gA, gB, gAddS, k1, k2]) (fin (by rw [len_app, len_app]; omega))
  · by_cases w2 : way < 14
    · have k1 : A.length + p.length ≤ 10000 := by omega
      have k2 : (A ++ p).length + Cq.length ≤ 10000 := by rw [len_app]; omega
      refine sSeq_nx (δ' := [sc ns, some (.d m), some (.d (.str (A ++ p ++ Cq))), some (.d (.int way)), some (.d (.int k)), some (.d (.str p)), none]) (by simp [dVar, dC, d1, d2, gI, kSub, kMul, kDiv, kMod, kPow, kLt, kLe, kGt, kGe, eqK, gEq, gNe, isN, gIsN, gNotN, gNeg, dCh, qB, qAnd, qOr, qNot, qYes, dAnd, dOr, dNot, dIf, gIx, oI, dSl, aNil, aCons, plainD, dTup, dLst, gAdd, R.arg, dCall, gLen, gTuple, gList, gMax, gMin, isT, gIs, dB, see, keepR, sSet, retR, sRet, sRetV, sRetN, sNx, sBrk, sCont, sSeq, sIf, sEx, sApp, sPut, g2N, gAllL, fn, Fl.mine, at0, at1, at2, at3, sExt, gIsL, gInt, dFu, dCallV, gIn, gNotIn, gIdx, gSum, w1, w2, dSlS, gA, gC, gAddS, k1, k2]) (fin (by rw [len_app, len_app]; omega))
    · by_cases w3 : way < 20
      · have k1 : A.length + Cq.length ≤ 10000 := by omega
        refine sSeq_nx (δ' := [sc ns, some (.d m), some (.d (.str (A ++ Cq))), some (.d (.int way)), some (.d (.int k)), some (.d (.str p)), none]) (by simp [dVar, dC, d1, d2, gI, kSub, kMul, kDiv, kMod, kPow, kLt, kLe, kGt, kGe, eqK, gEq, gNe, isN, gIsN, gNotN, gNeg, dCh, qB, qAnd, qOr, qNot, qYes, dAnd, dOr, dNot, dIf, gIx, oI, dSl, aNil, aCons, plainD, dTup, dLst, gAdd, R.arg, dCall, gLen, gTuple, gList, gMax, gMin, isT, gIs, dB, see, keepR, sSet, retR, sRet, sRetV, sRetN, sNx, sBrk, sCont, sSeq, sIf, sEx, sApp, sPut, g2N, gAllL, fn, Fl.mine, at0, at1, at2, at3, sExt, gIsL, gInt, dFu, dCallV, gIn, gNotIn, gIdx, gSum, w1, w2, w3, dSlS, gA, gC, gAddS, k1]) (fin (by rw [len_app]; omega))
      · by_cases w4 : way < 25
        · obtain ⟨x, hx, ex⟩ := ew c2 c3
          refine sSeq_nx (δ' := [sc ns, some (.d m), some (.d (.str x)), some (.d (.int way)), some (.d (.int k)), some (.d (.str p)), none]) (by simp [dVar, dC, d1, d2, gI, kSub, kMul, kDiv, kMod, kPow, kLt, kLe, kGt, kGe, eqK, gEq, gNe, isN, gIsN, gNotN, gNeg, dCh, qB, qAnd, qOr, qNot, qYes, dAnd, dOr, dNot, dIf, gIx, oI, dSl, aNil, aCons, plainD, dTup, dLst, gAdd, R.arg, dCall, gLen, gTuple, gList, gMax, gMin, isT, gIs, dB, see, keepR, sSet, retR, sRet, sRetV, sRetN, sNx, sBrk, sCont, sSeq, sIf, sEx, sApp, sPut, g2N, gAllL, fn, Fl.mine, at0, at1, at2, at3, sExt, gIsL, gInt, dFu, dCallV, gIn, gNotIn, gIdx, gSum, sc, w1, w2, w3, w4, a2, a3, ex]) (fin (by omega))
        · by_cases w5 : way < 29
          · obtain ⟨x, hx, ex⟩ := e_odd c3
            refine sSeq_nx (δ' := [sc ns, some (.d m), some (.d (.str x)), some (.d (.int way)), some (.d (.int k)), some (.d (.str p)), none]) (by simp [dVar, dC, d1, d2, gI, kSub, kMul, kDiv, kMod, kPow, kLt, kLe, kGt, kGe, eqK, gEq, gNe, isN, gIsN, gNotN, gNeg, dCh, qB, qAnd, qOr, qNot, qYes, dAnd, dOr, dNot, dIf, gIx, oI, dSl, aNil, aCons, plainD, dTup, dLst, gAdd, R.arg, dCall, gLen, gTuple, gList, gMax, gMin, isT, gIs, dB, see, keepR, sSet, retR, sRet, sRetV, sRetN, sNx, sBrk, sCont, sSeq, sIf, sEx, sApp, sPut, g2N, gAllL, fn, Fl.mine, at0, at1, at2, at3, sExt, gIsL, gInt, dFu, dCallV, gIn, gNotIn, gIdx, gSum, sc, w1, w2, w3, w4, w5, a3, ex]) (fin (by omega))
          · refine sSeq_nx (δ' := [sc ns, some (.d m), some (.d (.str T)), some (.d (.int way)), some (.d (.int k)), some (.d (.str p)), none]) (by simp [dVar, dC, d1, d2, gI, kSub, kMul, kDiv, kMod, kPow, kLt, kLe, kGt, kGe, eqK, gEq, gNe, isN, gIsN, gNotN, gNeg, dCh, qB, qAnd, qOr, qNot, qYes, dAnd, dOr, dNot, dIf, gIx, oI, dSl, aNil, aCons, plainD, dTup, dLst, gAdd, R.arg, dCall, gLen, gTuple, gList, gMax, gMin, isT, gIs, dB, see, keepR, sSet, retR, sRet, sRetV, sRetN, sNx, sBrk, sCont, sSeq, sIf, sEx, sApp, sPut, g2N, gAllL, fn, Fl.mine, at0, at1, at2, at3, sExt, gIsL, gInt, dFu, dCallV, gIn, gNotIn, gIdx, gSum, w1, w2, w3, w4, w5]) (fin (by omega))

end
open PySem L2 DL
def top (i : Nat) : Stmt := PySem.Challenge.pw_downstair_k19_read.main.body.getD i (.Pass ⟨0, 0, 0, 0⟩)
abbrev st_look_at_rule : Stmt := top 12
abbrev st_looked : Stmt := top 11
abbrev st_figure : Stmt := top 19
abbrev st_rule_of : Stmt := top 18
abbrev st_read : Stmt := top 17
abbrev st_law_cell_at : Stmt := top 21
abbrev st_law_pick : Stmt := top 22
abbrev st_law_whole : Stmt := top 23
abbrev st_law_mix : Stmt := top 24
abbrev st_law_machine : Stmt := top 25
abbrev st_law_same : Stmt := top 26
abbrev st_law_figure : Stmt := top 27
abbrev st_law_rule : Stmt := top 28
abbrev st_law_due : Stmt := top 29
abbrev st_law_text : Stmt := top 30
abbrev st_law_odd : Stmt := top 31
abbrev st_law_worded : Stmt := top 32
abbrev st_law_refused : Stmt := top 33
abbrev st_law : Stmt := top 34

section
variable {P : Program} {w : World} {K : PySem.W.Frag} {mg : Str → Option Value} {base : Heap} {f : Addr} {fd : FuncData}
theorem sc_look_at_rule : FnScope ["rooms", "signs", "rule"] ["rooms", "signs", "rule"] (defScope st_look_at_rule) := ⟨rfl, rfl, rfl, by decide +kernel, rfl, by decide +kernel, by decide +kernel⟩
set_option maxHeartbeats 4000000 in
theorem ok_look_at_rule (G : Fun K "look_at_rule" "look_at_rule" st_look_at_rule f fd) (hm : mg "look_at_rule" = some (.ref f)) (hn : PySem.W.nsIn K mainGlobals "look_at_rule" = some (some (.ref f))) {C_NoMachine : Addr} {t_LEFT : Tok} (m_LEFT : mg "LEFT" = some (.int 0 t_LEFT)) {t_RIGHT : Tok} (m_RIGHT : mg "RIGHT" = some (.int 1 t_RIGHT)) (o_NoMachine : PyProof.Rows.OwnCls "NoMachine" C_NoMachine [.type "ValueError", .type "Exception", .type "BaseException", .type "object"] "ValueError.__new__" mg base) : CalX P w K mg base 1 "look_at_rule" ["rooms", "signs", "rule"] F_look_at_rule (.ref C_NoMachine) none :=
  calX_of (k := 0) G hm hn sc_look_at_rule (fun _ _ _ _ _ _ us hl => match us, hl with | [_, _, _], _ => rfl) fun cdv A outer s H E hr =>
    have nd := sc_look_at_rule.nd
    have L := lv_of hr
    (ds_cons (ds_if (dt_not (dt_ch o_le o_lt de_int (de_ix (de_var 2) de_int) (de_var 1))) (ds_one (ds_raise L o_NoMachine PySem.F.excBase_ValueError rfl)) ds_nil) (ds_cons (ds_if (dt_not (dt_ch o_le o_le (de_globI rfl m_LEFT) (de_ix (de_var 2) de_int) (de_globI rfl m_RIGHT))) (ds_one (ds_raise L o_NoMachine PySem.F.excBase_ValueError rfl)) ds_nil) (ds_one (ds_if (dt_not (dt_ch o_le o_lt de_int (de_ix (de_var 2) de_int) (de_var 0))) (ds_one (ds_raise L o_NoMachine PySem.F.excBase_ValueError rfl)) ds_nil))))
theorem sc_looked : FnScope ["machine", "rooms", "signs", "rules", "told", "rule"] ["machine"] (defScope st_looked) := ⟨rfl, rfl, rfl, by decide +kernel, rfl, by decide +kernel, by decide +kernel⟩
set_option maxHeartbeats 4000000 in
theorem ok_looked (G : Fun K "looked" "looked" st_looked f fd) (hm : mg "looked" = some (.ref f)) (hn : PySem.W.nsIn K mainGlobals "looked" = some (some (.ref f))) {C_NoMachine : Addr} (c_look_at_rule : CalX P w K mg base 1 "look_at_rule" ["rooms", "signs", "rule"] (F_look_at_rule) (.ref C_NoMachine) none) (m_len : mg "len" = none) {t_FEWEST_ROOMS : Tok} (m_FEWEST_ROOMS : mg "FEWEST_ROOMS" = some (.int 1 t_FEWEST_ROOMS)) {t_FEWEST_SIGNS : Tok} (m_FEWEST_SIGNS : mg "FEWEST_SIGNS" = some (.int 2 t_FEWEST_SIGNS)) {t_MOST_ROOMS : Tok} (m_MOST_ROOMS : mg "MOST_ROOMS" = some (.int 6 t_MOST_ROOMS)) {t_MOST_SIGNS : Tok} (m_MOST_SIGNS : mg "MOST_SIGNS" = some (.int 4 t_MOST_SIGNS)) (o_NoMachine : PyProof.Rows.OwnCls "NoMachine" C_NoMachine [.type "ValueError", .type "Exception", .type "BaseException", .type "object"] "ValueError.__new__" mg base) : CalX P w K mg base 2 "looked" ["machine"] F_looked (.ref C_NoMachine) none :=
  calX_of (k := 1) G hm hn sc_looked (fun _ _ _ _ _ _ us hl => match us, hl with | [_], _ => rfl) fun cdv A outer s H E hr =>
    have nd := sc_looked.nd
    have L := lv_of hr
    (ds_cons (ds_set 1 nd (de_ix (de_var 0) de_int)) (ds_cons (ds_set 2 nd (de_ix (de_var 0) de_int)) (ds_cons (ds_set 3 nd (de_ix (de_var 0) de_int)) (ds_cons (ds_if (dt_not (dt_ch o_le o_le (de_globI rfl m_FEWEST_ROOMS) (de_var 1) (de_globI rfl m_MOST_ROOMS))) (ds_one (ds_raise L o_NoMachine PySem.F.excBase_ValueError rfl)) ds_nil) (ds_cons (ds_if (dt_not (dt_ch o_le o_le (de_globI rfl m_FEWEST_SIGNS) (de_var 2) (de_globI rfl m_MOST_SIGNS))) (ds_one (ds_raise L o_NoMachine PySem.F.excBase_ValueError rfl)) ds_nil) (ds_cons (ds_if (dt_cmp o_ne (de_bi c_len rfl m_len bt_len (da_cons (de_var 3) da_nil)) (de_op o_mul (de_var 1) (de_var 2)) (nomark _)) (ds_one (ds_raise L o_NoMachine PySem.F.excBase_ValueError rfl)) ds_nil) (ds_cons (ds_setC 4 nd (cp_ok (cs := []) (ns := []) rfl (by with_unfolding_all rfl) (by decide +kernel) (by decide +kernel) rfl rfl (by decide +kernel) rfl (List.forall_mem_nil _) (List.forall_mem_nil _)) rfl (fun _ _ _ _ => ⟨(tst_one (dt_cmp o_isnot (de_var 0) de_non (nomark _))), (de_var 0)⟩) (dc_any (de_var 3))) (ds_cons (ds_forV 5 4 L.pass rfl nd (ds_one (ds_exX L c_look_at_rule hr (by omega) rfl (da_cons (de_var 1) (da_cons (de_var 2) (da_cons (de_var 5) da_nil)))))) (ds_one (ds_ret (de_bi c_len rfl m_len bt_len (da_cons (de_var 4) da_nil))))))))))))
theorem sc_figure : FnScope ["word"] ["word"] (defScope st_figure) := ⟨rfl, rfl, rfl, by decide +kernel, rfl, by decide +kernel, by decide +kernel⟩
set_option maxHeartbeats 4000000 in
theorem ok_figure (G : Fun K "figure" "figure" st_figure f fd) (hm : mg "figure" = some (.ref f)) (hn : PySem.W.nsIn K mainGlobals "figure" = some (some (.ref f))) {C_NoNote : Addr} (m_len : mg "len" = none) {t_FIGURES : Tok} (m_FIGURES : mg "FIGURES" = some (.str "0123456789" t_FIGURES)) (o_NoNote : PyProof.Rows.OwnCls "NoNote" C_NoNote [.type "ValueError", .type "Exception", .type "BaseException", .type "object"] "ValueError.__new__" mg base) : CalX P w K mg base 1 "figure" ["word"] F_figure (.ref C_NoNote) none :=
  calX_of (k := 0) G hm hn sc_figure (fun _ _ _ _ _ _ us hl => match us, hl with | [_], _ => rfl) fun cdv A outer s H E hr =>
    have nd := sc_figure.nd
    have L := lv_of hr
    (ds_cons (ds_if (dw_dt (dw_or (dt_cmp o_ne (de_bi c_lenS rfl m_len bt_len (da_cons (de_var 0) da_nil)) de_int (nomark _)) (dw_or1 (dt_cmp o_notInS (de_var 0) (de_globS rfl m_FIGURES) (by rfl))))) (ds_one (ds_raise L o_NoNote PySem.F.excBase_ValueError rfl)) ds_nil) (ds_one (ds_ret (de_idxS (de_globS rfl m_FIGURES) (de_var 0)))))
theorem sc_rule_of : FnScope ["word"] ["word"] (defScope st_rule_of) := ⟨rfl, rfl, rfl, by decide +kernel, rfl, by decide +kernel, by decide +kernel⟩
set_option maxHeartbeats 4000000 in
theorem ok_rule_of (G : Fun K "rule_of" "rule_of" st_rule_of f fd) (hm : mg "rule_of" = some (.ref f)) (hn : PySem.W.nsIn K mainGlobals "rule_of" = some (some (.ref f))) {C_NoNote : Addr} (c_figure : CalX P w K mg base 1 "figure" ["word"] (F_figure) (.ref C_NoNote) none) (m_len : mg "len" = none) {t_NO_RULE : Tok} (m_NO_RULE : mg "NO_RULE" = some (.str "-" t_NO_RULE)) {t_WAYS : Tok} (m_WAYS : mg "WAYS" = some (.str "<>" t_WAYS)) (o_NoNote : PyProof.Rows.OwnCls "NoNote" C_NoNote [.type "ValueError", .type "Exception", .type "BaseException", .type "object"] "ValueError.__new__" mg base) : CalX P w K mg base 2 "rule_of" ["word"] F_rule_of (.ref C_NoNote) none :=
  calX_of (k := 1) G hm hn sc_rule_of (fun _ _ _ _ _ _ us hl => match us, hl with | [_], _ => rfl) fun cdv A outer s H E hr =>
    have nd := sc_rule_of.nd
    have L := lv_of hr
    (ds_cons (ds_if (dt_cmp o_eq (de_var 0) (de_globS rfl m_NO_RULE) (nomark _)) (ds_one (ds_ret de_non)) ds_nil) (ds_cons (ds_if (dw_dt (dw_or (dt_cmp o_ne (de_bi c_lenS rfl m_len bt_len (da_cons (de_var 0) da_nil)) de_int (nomark _)) (dw_or1 (dt_cmp o_notInS (de_ixS (de_var 0) de_int) (de_globS rfl m_WAYS) (by rfl))))) (ds_one (ds_raise L o_NoNote PySem.F.excBase_ValueError rfl)) ds_nil) (ds_one (ds_retX (dx_tup (dax_cons (dx_call (px L) c_figure hr (by omega) rfl (da_cons (de_ixS (de_var 0) de_int) da_nil)) (dax_cons (dx_of (de_idxS (de_globS rfl m_WAYS) (de_ixS (de_var 0) de_int))) (dax_cons (dx_call (px L) c_figure hr (by omega) rfl (da_cons (de_ixS (de_var 0) de_int) da_nil)) dax_nil))))))))
theorem sc_read : FnScope ["text", "words", "rooms", "signs", "machine", "error"] ["text"] (defScope st_read) := ⟨rfl, rfl, rfl, by decide +kernel, rfl, by decide +kernel, by decide +kernel⟩
set_option maxHeartbeats 4000000 in
theorem ok_read (G : Fun K "read" "read" st_read f fd) (hm : mg "read" = some (.ref f)) (hn : PySem.W.nsIn K mainGlobals "read" = some (some (.ref f))) {C_NoMachine : Addr} {C_NoNote : Addr} (c_figure : CalX P w K mg base 1 "figure" ["word"] (F_figure) (.ref C_NoNote) none) (c_looked : CalX P w K mg base 2 "looked" ["machine"] (F_looked) (.ref C_NoMachine) none) (c_rule_of : CalX P w K mg base 2 "rule_of" ["word"] (F_rule_of) (.ref C_NoNote) none) (m_len : mg "len" = none) (m_tuple : mg "tuple" = none) (o_NoNote : PyProof.Rows.OwnCls "NoNote" C_NoNote [.type "ValueError", .type "Exception", .type "BaseException", .type "object"] "ValueError.__new__" mg base) (sub_NoMachine_NoMachine : PySem.W.mroIn K C_NoMachine (.ref C_NoMachine) = some true) (m_NoMachine : mg "NoMachine" = some (.ref C_NoMachine)) (ty_NoMachine : PySem.W.typeIn K (.ref C_NoMachine) = some (.type "type")) (bs_NoMachine : PySem.W.mroIn K C_NoMachine (.type "BaseException") = some true) (ty_NoNote : PySem.W.typeIn K (.ref C_NoNote) = some (.type "type")) (bs_NoNote : PySem.W.mroIn K C_NoNote (.type "BaseException") = some true) : CalX P w K mg base 3 "read" ["text"] F_read (.ref C_NoNote) (some 0) :=
  calX_of (k := 2) G hm hn sc_read (fun _ _ _ _ _ _ us hl => match us, hl with | [_], _ => rfl) fun cdv A outer s H E hr =>
    have nd := sc_read.nd
    have L := lv_of hr
    (ds_cons (ds_set 1 nd (de_splitS (de_var 0) de_str)) (ds_cons (ds_if (dw_dt (dw_or (dt_cmp o_lt (de_bi c_lenS rfl m_len bt_len (da_cons (de_var 1) da_nil)) de_int (nomark _)) (dw_or1 (dt_not (dt_val (de_endS (de_ixS (de_var 1) de_int) de_str)))))) (ds_one (ds_raise L o_NoNote PySem.F.excBase_ValueError rfl)) ds_nil) (ds_cons (ds_setX 2 nd (dx_call (px L) c_figure hr (by omega) rfl (da_cons (de_ixS (de_var 1) de_int) da_nil))) (ds_cons (ds_setX 3 nd (dx_call (px L) c_figure hr (by omega) rfl (da_cons (de_slS (de_ixS (de_var 1) de_int) do_none (do_some (de_un u_neg de_int))) da_nil))) (ds_cons (ds_setX 4 nd (dx_tup (dax_cons (dx_of (de_var 2)) (dax_cons (dx_of (de_var 3)) (dax_cons (dx_ty c_tuple rfl m_tuple bt_tuple (dax_cons (dx_comp L (cp_ok (cs := []) (ns := []) rfl (by with_unfolding_all rfl) (by decide +kernel) (by decide +kernel) rfl rfl (by decide +kernel) rfl (List.forall_mem_nil _) (List.forall_mem_nil _)) rfl (fun _ _ _ _ _ hp => (dx_call hp c_rule_of hr (by omega) rfl (da_cons (de_var 0) da_nil))) (dc_any (de_slS (de_var 1) (do_some de_int) do_none))) dax_nil)) dax_nil))))) (ds_cons (ds_tryR 5 L o_NoNote PySem.F.excBase_ValueError ⟨bs_NoMachine, sub_NoMachine_NoMachine, rfl, m_NoMachine, by decide, ty_NoMachine, bs_NoMachine, rfl, by decide, bs_NoNote, ty_NoNote, nd, rfl, rfl, rfl, by decide⟩ c_looked hr (by omega) rfl (da_cons (de_var 4) da_nil)) (ds_one (ds_retV 4))))))))
theorem sc_law_cell_at : FnScope ["script", "k"] ["script", "k"] (defScope st_law_cell_at) := ⟨rfl, rfl, rfl, by decide +kernel, rfl, by decide +kernel, by decide +kernel⟩
set_option maxHeartbeats 4000000 in
theorem ok_law_cell_at (G : Fun K "_law_cell_at" "_law_cell_at" st_law_cell_at f fd) (hm : mg "_law_cell_at" = some (.ref f)) (hn : PySem.W.nsIn K mainGlobals "_law_cell_at" = some (some (.ref f))) (m_len : mg "len" = none) : Cal P w K mg base 1 "_law_cell_at" ["script", "k"] F_law_cell_at :=
  cal_of (k := 0) G hm hn sc_law_cell_at (fun _ _ _ _ _ _ us hl => match us, hl with | [_, _], _ => rfl) fun cdv A outer s H E hr =>
    have nd := sc_law_cell_at.nd
    (ds_cons (ds_if (dt_cmp o_lt (de_var 1) (de_bi c_len rfl m_len bt_len (da_cons (de_var 0) da_nil)) (nomark _)) (ds_one (ds_ret (de_ix (de_var 0) (de_var 1)))) ds_nil) (ds_one (ds_ret de_int)))
theorem sc_law_pick : FnScope ["script", "k"] ["script", "k"] (defScope st_law_pick) := ⟨rfl, rfl, rfl, by decide +kernel, rfl, by decide +kernel, by decide +kernel⟩
set_option maxHeartbeats 4000000 in
theorem ok_law_pick (G : Fun K "_law_pick" "_law_pick" st_law_pick f fd) (hm : mg "_law_pick" = some (.ref f)) (hn : PySem.W.nsIn K mainGlobals "_law_pick" = some (some (.ref f))) (c_law_cell_at : Cal P w K mg base 1 "_law_cell_at" ["script", "k"] (F_law_cell_at)) (m_len : mg "len" = none) : Cal P w K mg base 2 "_law_pick" ["script", "k"] F_law_pick :=
  cal_of (k := 1) G hm hn sc_law_pick (fun _ _ _ _ _ _ us hl => match us, hl with | [_, _], _ => rfl) fun cdv A outer s H E hr =>
    have nd := sc_law_pick.nd
    (ds_cons (ds_if (dt_cmp o_lt (de_var 1) (de_bi c_len rfl m_len bt_len (da_cons (de_var 0) da_nil)) (nomark _)) (ds_one (ds_ret (de_ix (de_var 0) (de_var 1)))) ds_nil) (ds_one (ds_ret (de_op o_div (de_op o_mod (de_op o_mul (de_op o_add (de_op o_add (de_call c_law_cell_at hr (by omega) rfl (da_cons (de_var 0) (da_cons de_int da_nil))) (de_op o_mul de_int (de_var 1))) de_int) de_int) de_int) de_int))))
theorem sc_law_whole : FnScope ["x"] ["x"] (defScope st_law_whole) := ⟨rfl, rfl, rfl, by decide +kernel, rfl, by decide +kernel, by decide +kernel⟩
set_option maxHeartbeats 4000000 in
theorem ok_law_whole (G : Fun K "_law_whole" "_law_whole" st_law_whole f fd) (hm : mg "_law_whole" = some (.ref f)) (hn : PySem.W.nsIn K mainGlobals "_law_whole" = some (some (.ref f))) (m_bool : mg "bool" = none) (m_int : mg "int" = none) (m_isinstance : mg "isinstance" = none) : Cal P w K mg base 1 "_law_whole" ["x"] F_law_whole :=
  cal_of (k := 0) G hm hn sc_law_whole (fun _ _ _ _ _ _ us hl => match us, hl with | [_], _ => rfl) fun cdv A outer s H E hr =>
    have nd := sc_law_whole.nd
    (ds_one (ds_ret (de_and (de_isi .int bt_int (de_var 0) rfl m_isinstance rfl m_int) (de_one (de_not (de_isi .bool bt_bool (de_var 0) rfl m_isinstance rfl m_bool))))))
theorem sc_law_mix : FnScope ["cell", "k"] ["cell", "k"] (defScope st_law_mix) := ⟨rfl, rfl, rfl, by decide +kernel, rfl, by decide +kernel, by decide +kernel⟩
set_option maxHeartbeats 4000000 in
theorem ok_law_mix (G : Fun K "_law_mix" "_law_mix" st_law_mix f fd) (hm : mg "_law_mix" = some (.ref f)) (hn : PySem.W.nsIn K mainGlobals "_law_mix" = some (some (.ref f)))  : Cal P w K mg base 1 "_law_mix" ["cell", "k"] F_law_mix :=
  cal_of (k := 0) G hm hn sc_law_mix (fun _ _ _ _ _ _ us hl => match us, hl with | [_, _], _ => rfl) fun cdv A outer s H E hr =>
    have nd := sc_law_mix.nd
    (ds_one (ds_ret (de_op o_mod (de_op o_add (de_op o_mul (de_var 0) de_int) (de_op o_mul (de_var 1) de_int)) de_int)))
theorem sc_law_machine : FnScope ["script", "start", "rooms", "signs", "rules", "k", "number"] ["script", "start", "rooms", "signs"] (defScope st_law_machine) := ⟨rfl, rfl, rfl, by decide +kernel, rfl, by decide +kernel, by decide +kernel⟩
set_option maxHeartbeats 4000000 in
theorem ok_law_machine (G : Fun K "_law_machine" "_law_machine" st_law_machine f fd) (hm : mg "_law_machine" = some (.ref f)) (hn : PySem.W.nsIn K mainGlobals "_law_machine" = some (some (.ref f))) (c_law_mix : Cal P w K mg base 1 "_law_mix" ["cell", "k"] (F_law_mix)) (c_law_pick : Cal P w K mg base 2 "_law_pick" ["script", "k"] (F_law_pick)) (m_range : mg "range" = none) (m_tuple : mg "tuple" = none) : Cal P w K mg base 3 "_law_machine" ["script", "start", "rooms", "signs"] F_law_machine :=
  cal_of (k := 2) G hm hn sc_law_machine (fun _ _ _ _ _ _ us hl => match us, hl with | [_, _, _, _], _ => rfl) fun cdv A outer s H E hr =>
    have nd := sc_law_machine.nd
    (ds_cons (ds_set 4 nd (de_lst da_nil)) (ds_cons (ds_for 5 PassesOwn.never rfl nd (di_to (de_op o_mul (de_var 2) (de_var 3)) rfl m_range) (ds_cons (ds_set 6 nd (de_call c_law_mix hr (by omega) rfl (da_cons (de_call c_law_pick hr (by omega) rfl (da_cons (de_var 0) (da_cons (de_op o_add (de_var 1) (de_var 5)) da_nil))) (da_cons (de_var 5) da_nil)))) (ds_one (ds_if (dt_cmp o_eq (de_op o_mod (de_var 6) de_int) de_int (nomark _)) (ds_one (ds_app 4 de_non)) (ds_one (ds_app 4 (de_tup (da_cons (de_op o_mod (de_op o_div (de_var 6) de_int) (de_var 3)) (da_cons (de_op o_mod (de_op o_div (de_var 6) de_int) de_int) (da_cons (de_op o_mod (de_op o_div (de_var 6) de_int) (de_var 2)) da_nil)))))))))) (ds_one (ds_ret (de_tup (da_cons (de_var 2) (da_cons (de_var 3) (da_cons (de_ty c_tuple rfl m_tuple bt_tuple (da_cons (de_var 4) da_nil)) da_nil))))))))
theorem sc_law_same : FnScope ["found", "due"] ["found", "due"] (defScope st_law_same) := ⟨rfl, rfl, rfl, by decide +kernel, rfl, by decide +kernel, by decide +kernel⟩
set_option maxHeartbeats 4000000 in
theorem ok1_law_same {F : Fn} {k : Nat} (hk : 1 ≤ k) (G : Fun K "_law_same" "_law_same" st_law_same f fd) (hm : mg "_law_same" = some (.ref f)) (hn : PySem.W.nsIn K mainGlobals "_law_same" = some (some (.ref f))) (c_law_same : Cal P w K mg base k "_law_same" ["found", "due"] F) (c_law_whole : Cal P w K mg base 1 "_law_whole" ["x"] (F_law_whole)) (m_all : mg "all" = none) (m_isinstance : mg "isinstance" = none) (m_len : mg "len" = none) (m_range : mg "range" = none) (m_str : mg "str" = none) (m_tuple : mg "tuple" = none) : Cal P w K mg base (k + 1) "_law_same" ["found", "due"] (fn 2 2 (B_law_same F)) :=
  cal_of G hm hn sc_law_same (fun _ _ _ _ _ _ us hl => match us, hl with | [_, _], _ => rfl) fun cdv A outer s H E hr =>
    have nd := sc_law_same.nd
    (ds_cons (ds_if (dt_val (de_isi .tuple bt_tuple (de_var 1) rfl m_isinstance rfl m_tuple)) (ds_cons (ds_if (dw_dt (dw_or (dt_not (dt_val (de_isi .tuple bt_tuple (de_var 0) rfl m_isinstance rfl m_tuple))) (dw_or1 (dt_cmp o_ne (de_bi c_len rfl m_len bt_len (da_cons (de_var 0) da_nil)) (de_bi c_len rfl m_len bt_len (da_cons (de_var 1) da_nil)) (nomark _))))) (ds_one (ds_ret de_bl)) ds_nil) (ds_one (ds_ret (de_bi (c_all rfl) rfl m_all bt_all (da_cons (de_comp (cp_ok (cs := [0, 1]) (ns := ["found", "due"]) rfl (by with_unfolding_all rfl) (by decide +kernel) (by decide +kernel) rfl rfl (by decide +kernel) rfl (List.forall_mem_cons.mpr ⟨(by decide : 0 < 2), List.forall_mem_cons.mpr ⟨(by decide : 1 < 2), List.forall_mem_nil _⟩⟩) (List.forall_mem_cons.mpr ⟨⟨rfl, rfl⟩, List.forall_mem_cons.mpr ⟨⟨rfl, rfl⟩, List.forall_mem_nil _⟩⟩)) rfl (fun _ _ _ _ => ⟨tst_nil, (de_call c_law_same hr (by omega) rfl (da_cons (de_ix (de_var 1) (de_var 0)) (da_cons (de_ix (de_var 2) (de_var 0)) da_nil)))⟩) (dc_of (di_to (de_bi c_len rfl m_len bt_len (da_cons (de_var 1) da_nil)) rfl m_range))) da_nil))))) ds_nil) (ds_cons (ds_if (dw_dt (dw_or (dt_cmp o_is (de_var 1) de_non (nomark _)) (dw_or1 (dt_val (de_isi .str bt_str (de_var 1) rfl m_isinstance rfl m_str))))) (ds_one (ds_ret (de_cmp o_eq (de_var 0) (de_var 1) (nomark _)))) ds_nil) (ds_one (ds_ret (de_and (de_call c_law_whole hr (by omega) rfl (da_cons (de_var 0) da_nil)) (de_one (de_cmp o_eq (de_var 0) (de_var 1) (nomark _))))))))
theorem ok_law_same (G : Fun K "_law_same" "_law_same" st_law_same f fd) (hm : mg "_law_same" = some (.ref f)) (hn : PySem.W.nsIn K mainGlobals "_law_same" = some (some (.ref f))) (c_law_whole : Cal P w K mg base 1 "_law_whole" ["x"] (F_law_whole)) (m_all : mg "all" = none) (m_isinstance : mg "isinstance" = none) (m_len : mg "len" = none) (m_range : mg "range" = none) (m_str : mg "str" = none) (m_tuple : mg "tuple" = none) : ∀ n, Cal P w K mg base (2 + n) "_law_same" ["found", "due"] (F_law_same n)
  | 0 => cal_zero G hm hn (fun _ _ _ _ _ _ us hl => match us, hl with | [_, _], _ => rfl)
  | n + 1 => ok1_law_same (k := 2 + n) (by omega) G hm hn (ok_law_same G hm hn c_law_whole m_all m_isinstance m_len m_range m_str m_tuple n) c_law_whole m_all m_isinstance m_len m_range m_str m_tuple
theorem sc_law_figure : FnScope ["word"] ["word"] (defScope st_law_figure) := ⟨rfl, rfl, rfl, by decide +kernel, rfl, by decide +kernel, by decide +kernel⟩
set_option maxHeartbeats 4000000 in
theorem ok_law_figure (G : Fun K "_law_figure" "_law_figure" st_law_figure f fd) (hm : mg "_law_figure" = some (.ref f)) (hn : PySem.W.nsIn K mainGlobals "_law_figure" = some (some (.ref f))) (m_len : mg "len" = none) : Cal P w K mg base 1 "_law_figure" ["word"] F_law_figure :=
  cal_of (k := 0) G hm hn sc_law_figure (fun _ _ _ _ _ _ us hl => match us, hl with | [_], _ => rfl) fun cdv A outer s H E hr =>
    have nd := sc_law_figure.nd
    (ds_cons (ds_if (dw_dt (dw_and (dt_cmp o_eq (de_bi c_lenS rfl m_len bt_len (da_cons (de_var 0) da_nil)) de_int (nomark _)) (dw_and1 (dt_cmp o_inS (de_var 0) de_str (by rfl))))) (ds_one (ds_ret (de_findS de_str (de_var 0)))) ds_nil) (ds_one (ds_ret (de_un u_neg de_int))))
theorem sc_law_rule : FnScope ["word", "rooms", "signs", "rule"] ["word", "rooms", "signs"] (defScope st_law_rule) := ⟨rfl, rfl, rfl, by decide +kernel, rfl, by decide +kernel, by decide +kernel⟩
set_option maxHeartbeats 4000000 in
theorem ok_law_rule (G : Fun K "_law_rule" "_law_rule" st_law_rule f fd) (hm : mg "_law_rule" = some (.ref f)) (hn : PySem.W.nsIn K mainGlobals "_law_rule" = some (some (.ref f))) (c_law_figure : Cal P w K mg base 1 "_law_figure" ["word"] (F_law_figure)) (m_len : mg "len" = none) : Cal P w K mg base 2 "_law_rule" ["word", "rooms", "signs"] F_law_rule :=
  cal_of (k := 1) G hm hn sc_law_rule (fun _ _ _ _ _ _ us hl => match us, hl with | [_, _, _], _ => rfl) fun cdv A outer s H E hr =>
    have nd := sc_law_rule.nd
    (ds_cons (ds_if (dt_cmp o_eq (de_var 0) de_str (nomark _)) (ds_one (ds_ret de_non)) ds_nil) (ds_cons (ds_if (dw_dt (dw_or (dt_cmp o_ne (de_bi c_lenS rfl m_len bt_len (da_cons (de_var 0) da_nil)) de_int (nomark _)) (dw_or1 (dt_cmp o_notInS (de_ixS (de_var 0) de_int) de_str (by rfl))))) (ds_one (ds_ret (de_tup da_nil))) ds_nil) (ds_cons (ds_set 3 nd (de_tup (da_cons (de_call c_law_figure hr (by omega) rfl (da_cons (de_ixS (de_var 0) de_int) da_nil)) (da_cons (de_findS de_str (de_ixS (de_var 0) de_int)) (da_cons (de_call c_law_figure hr (by omega) rfl (da_cons (de_ixS (de_var 0) de_int) da_nil)) da_nil))))) (ds_cons (ds_if (dw_dt (dw_or (dt_not (dt_ch o_le o_lt de_int (de_ixS (de_var 3) de_int) (de_var 2))) (dw_or1 (dt_not (dt_ch o_le o_lt de_int (de_ixS (de_var 3) de_int) (de_var 1)))))) (ds_one (ds_ret (de_tup da_nil))) ds_nil) (ds_one (ds_retV 3))))))
theorem sc_law_due : FnScope ["text", "words", "rooms", "signs", "rules"] ["text"] (defScope st_law_due) := ⟨rfl, rfl, rfl, by decide +kernel, rfl, by decide +kernel, by decide +kernel⟩
set_option maxHeartbeats 4000000 in
theorem ok_law_due (G : Fun K "_law_due" "_law_due" st_law_due f fd) (hm : mg "_law_due" = some (.ref f)) (hn : PySem.W.nsIn K mainGlobals "_law_due" = some (some (.ref f))) (c_law_figure : Cal P w K mg base 1 "_law_figure" ["word"] (F_law_figure)) (c_law_rule : Cal P w K mg base 2 "_law_rule" ["word", "rooms", "signs"] (F_law_rule)) (m_len : mg "len" = none) (m_tuple : mg "tuple" = none) : Cal P w K mg base 3 "_law_due" ["text"] F_law_due :=
  cal_of (k := 2) G hm hn sc_law_due (fun _ _ _ _ _ _ us hl => match us, hl with | [_], _ => rfl) fun cdv A outer s H E hr =>
    have nd := sc_law_due.nd
    (ds_cons (ds_set 1 nd (de_splitS (de_var 0) de_str)) (ds_cons (ds_if (dw_dt (dw_or (dt_cmp o_lt (de_bi c_lenS rfl m_len bt_len (da_cons (de_var 1) da_nil)) de_int (nomark _)) (dw_or (dt_cmp o_ne (de_bi c_lenS rfl m_len bt_len (da_cons (de_ixS (de_var 1) de_int) da_nil)) de_int (nomark _)) (dw_or1 (dt_cmp o_ne (de_ixS (de_ixS (de_var 1) de_int) de_int) de_str (nomark _)))))) (ds_one (ds_ret de_non)) ds_nil) (ds_cons (ds_set 2 nd (de_call c_law_figure hr (by omega) rfl (da_cons (de_ixS (de_var 1) de_int) da_nil))) (ds_cons (ds_set 3 nd (de_call c_law_figure hr (by omega) rfl (da_cons (de_ixS (de_ixS (de_var 1) de_int) de_int) da_nil))) (ds_cons (ds_if (dw_dt (dw_or (dt_not (dt_ch o_le o_le de_int (de_var 2) de_int)) (dw_or (dt_not (dt_ch o_le o_le de_int (de_var 3) de_int)) (dw_or1 (dt_cmp o_ne (de_op o_sub (de_bi c_lenS rfl m_len bt_len (da_cons (de_var 1) da_nil)) de_int) (de_op o_mul (de_var 2) (de_var 3)) (nomark _)))))) (ds_one (ds_ret de_non)) ds_nil) (ds_cons (ds_set 4 nd (de_ty c_tuple rfl m_tuple bt_tuple (da_cons (de_comp (cp_ok (cs := [2, 3]) (ns := ["rooms", "signs"]) rfl (by with_unfolding_all rfl) (by decide +kernel) (by decide +kernel) rfl rfl (by decide +kernel) rfl (List.forall_mem_cons.mpr ⟨(by decide : 2 < 5), List.forall_mem_cons.mpr ⟨(by decide : 3 < 5), List.forall_mem_nil _⟩⟩) (List.forall_mem_cons.mpr ⟨⟨rfl, rfl⟩, List.forall_mem_cons.mpr ⟨⟨rfl, rfl⟩, List.forall_mem_nil _⟩⟩)) rfl (fun _ _ _ _ => ⟨tst_nil, (de_call c_law_rule hr (by omega) rfl (da_cons (de_var 0) (da_cons (de_var 1) (da_cons (de_var 2) da_nil))))⟩) (dc_any (de_slS (de_var 1) (do_some de_int) do_none))) da_nil))) (ds_cons (ds_if (dt_cmp (o_in0 hr.units) (de_tup da_nil) (de_var 4) (by rfl)) (ds_one (ds_ret de_non)) ds_nil) (ds_one (ds_ret (de_tup (da_cons (de_var 2) (da_cons (de_var 3) (da_cons (de_var 4) da_nil)))))))))))))
theorem sc_law_text : FnScope ["machine", "text", "rule", "word"] ["machine"] (defScope st_law_text) := ⟨rfl, rfl, rfl, by decide +kernel, rfl, by decide +kernel, by decide +kernel⟩
set_option maxHeartbeats 4000000 in
theorem ok_law_text (G : Fun K "_law_text" "_law_text" st_law_text f fd) (hm : mg "_law_text" = some (.ref f)) (hn : PySem.W.nsIn K mainGlobals "_law_text" = some (some (.ref f))) (m_str : mg "str" = none) : Cal P w K mg base 1 "_law_text" ["machine"] F_law_text :=
  cal_of (k := 0) G hm hn sc_law_text (fun _ _ _ _ _ _ us hl => match us, hl with | [_], _ => rfl) fun cdv A outer s H E hr =>
    have nd := sc_law_text.nd
    (ds_cons (ds_set 1 nd (de_op o_addS (de_op o_addS (de_op o_addS (de_ty c_str rfl m_str bt_str (da_cons (de_ixS (de_var 0) de_int) da_nil)) de_str) (de_ty c_str rfl m_str bt_str (da_cons (de_ixS (de_var 0) de_int) da_nil))) de_str)) (ds_cons (ds_for 2 PassesOwn.never rfl nd (di_seq (de_ixS (de_var 0) de_int)) (ds_one (ds_if (dt_cmp o_is (de_var 2) de_non (nomark _)) (ds_one (ds_set 1 nd (de_op o_addS (de_var 1) de_str))) (ds_cons (ds_set 3 nd (de_op o_addS (de_op o_addS (de_ty c_str rfl m_str bt_str (da_cons (de_ixS (de_var 2) de_int) da_nil)) (de_ixS de_str (de_ixS (de_var 2) de_int))) (de_ty c_str rfl m_str bt_str (da_cons (de_ixS (de_var 2) de_int) da_nil)))) (ds_one (ds_set 1 nd (de_op o_addS (de_op o_addS (de_var 1) de_str) (de_var 3)))))))) (ds_one (ds_retV 1))))
theorem sc_law_odd : FnScope ["cell", "some"] ["cell"] (defScope st_law_odd) := ⟨rfl, rfl, rfl, by decide +kernel, rfl, by decide +kernel, by decide +kernel⟩
set_option maxHeartbeats 4000000 in
theorem ok_law_odd (G : Fun K "_law_odd" "_law_odd" st_law_odd f fd) (hm : mg "_law_odd" = some (.ref f)) (hn : PySem.W.nsIn K mainGlobals "_law_odd" = some (some (.ref f)))  : Cal P w K mg base 1 "_law_odd" ["cell"] F_law_odd :=
  cal_of (k := 0) G hm hn sc_law_odd (fun _ _ _ _ _ _ us hl => match us, hl with | [_], _ => rfl) fun cdv A outer s H E hr =>
    have nd := sc_law_odd.nd
    (of_is (dsi_cons (dsi_strs 1 nd ["", " ", ":", "1 2", "1 2:", "1 2: - ", "1 2: -  -", "0 2:", "7 2: - - - - - - - - - - - - - -", "1 1: -"] (by decide +kernel)) (to_is (ds_cons (ds_set 1 nd (de_op o_add (de_var 1) (de_lst (da_cons de_str (da_cons de_str da_nil))))) (ds_one (ds_ret (de_ixS (de_var 1) (de_op o_mod (de_var 0) de_int))))))))
theorem sc_law_worded : FnScope ["text", "cell", "other", "words", "odd", "at"] ["text", "cell", "other"] (defScope st_law_worded) := ⟨rfl, rfl, rfl, by decide +kernel, rfl, by decide +kernel, by decide +kernel⟩
set_option maxHeartbeats 4000000 in
theorem ok_law_worded (G : Fun K "_law_worded" "_law_worded" st_law_worded f fd) (hm : mg "_law_worded" = some (.ref f)) (hn : PySem.W.nsIn K mainGlobals "_law_worded" = some (some (.ref f))) (m_len : mg "len" = none) : Cal P w K mg base 1 "_law_worded" ["text", "cell", "other"] F_law_worded :=
  cal_of (k := 0) G hm hn sc_law_worded (fun _ _ _ _ _ _ us hl => match us, hl with | [_, _, _], _ => rfl) fun cdv A outer s H E hr =>
    have nd := sc_law_worded.nd
    (of_is (dsi_cons (to_i (ds_set 3 nd (de_splitS (de_var 0) de_str))) (dsi_cons (dsi_strs 4 nd ["", "--", "1", "1>", ">1", "1>0>", "1-0", "01>0", "1>00", "a>0", "1>a", "+>0", "1>_", "4>0", "1>6", "9<9"] (by decide +kernel)) (to_is (ds_cons (ds_set 5 nd (de_op o_add de_int (de_op o_mod (de_var 1) (de_op o_sub (de_bi c_lenS rfl m_len bt_len (da_cons (de_var 3) da_nil)) de_int)))) (ds_cons (ds_put 3 (de_ixS (de_var 4) (de_op o_mod (de_var 2) de_int)) (de_var 5)) (ds_one (ds_ret (de_joinS de_str (de_var 3))))))))))
theorem sc_law_refused : FnScope ["text", "told", "e"] ["text"] (defScope st_law_refused) := ⟨rfl, rfl, rfl, by decide +kernel, rfl, by decide +kernel, by decide +kernel⟩
set_option maxHeartbeats 4000000 in
theorem ok_law_refused (G : Fun K "_law_refused" "_law_refused" st_law_refused f fd) (hm : mg "_law_refused" = some (.ref f)) (hn : PySem.W.nsIn K mainGlobals "_law_refused" = some (some (.ref f))) {C_NoMachine : Addr} {C_NoNote : Addr} {C_StairError : Addr} (c_read : CalX P w K mg base 3 "read" ["text"] (F_read) (.ref C_NoNote) (some 0)) (m_ValueError : mg "ValueError" = none) (m_isinstance : mg "isinstance" = none) (k_NoNote : ExcK K C_NoNote) (sub_NoNote_StairError : PySem.W.mroIn K C_NoNote (.ref C_StairError) = some true) (m_StairError : mg "StairError" = some (.ref C_StairError)) (ty_StairError : PySem.W.typeIn K (.ref C_StairError) = some (.type "type")) (bs_StairError : PySem.W.mroIn K C_StairError (.type "BaseException") = some true) (m_NoNote : mg "NoNote" = some (.ref C_NoNote)) (kv_NoNote : PySem.W.kitOne K (.ref C_NoNote) (.type "ValueError") = some true) (m_NoMachine : mg "NoMachine" = some (.ref C_NoMachine)) (kd_NoNote_NoMachine : PySem.W.kitOne K (.ref C_NoNote) (.ref C_NoMachine) = some false) : Cal P w K mg base 4 "_law_refused" ["text"] F_law_refused :=
  cal_of (k := 3) G hm hn sc_law_refused (fun _ _ _ _ _ _ us hl => match us, hl with | [_], _ => rfl) fun cdv A outer s H E hr =>
    have nd := sc_law_refused.nd
    (ds_cons (ds_set 1 nd de_bl) (ds_cons (ds_tryE (fun _ _ z => z) ⟨rfl, rfl, nd, k_NoNote, sub_NoNote_StairError, rfl, m_StairError, by decide, ty_StairError, bs_StairError, rfl, m_isinstance, rfl, m_NoNote, by decide, rfl, m_ValueError, kv_NoNote, rfl, m_NoMachine, by decide, kd_NoNote_NoMachine, rfl, Or.inl rfl, .inl rfl, rfl, rfl, rfl, by decide, by decide⟩ (by decide) c_read hr (by omega) rfl (da_cons (de_var 0) da_nil)) (ds_one (ds_retV 1))))
theorem sc_law : FnScope ["script", "machine", "text", "way", "at", "put", "due"] ["script"] (defScope st_law) := ⟨rfl, rfl, rfl, by decide +kernel, rfl, by decide +kernel, by decide +kernel⟩
set_option maxHeartbeats 4000000 in
theorem ok_law (G : Fun K "law" "law" st_law f fd) {C_NoNote : Addr} (c_law_machine : Cal P w K mg base 3 "_law_machine" ["script", "start", "rooms", "signs"] (F_law_machine)) (c_law_text : Cal P w K mg base 1 "_law_text" ["machine"] (F_law_text)) (c_law_due : Cal P w K mg base 3 "_law_due" ["text"] (F_law_due)) (c_law_same : Cal P w K mg base 6 "_law_same" ["found", "due"] (F_law_same 4)) (c_law_cell_at : Cal P w K mg base 1 "_law_cell_at" ["script", "k"] (F_law_cell_at)) (c_read : CalX P w K mg base 3 "read" ["text"] (F_read) (.ref C_NoNote) (some 0)) (c_law_refused : Cal P w K mg base 4 "_law_refused" ["text"] (F_law_refused)) (c_law_worded : Cal P w K mg base 1 "_law_worded" ["text", "cell", "other"] (F_law_worded)) (c_law_odd : Cal P w K mg base 1 "_law_odd" ["cell"] (F_law_odd)) (m_len : mg "len" = none) : FnOk P w K mg base CX0 7 f fd ["script"] (spD K F_law) :=
  fnok_of (k := 6) G sc_law fun cdv A outer s H E hr =>
    have nd := sc_law.nd
    (ds_cons (ds_set 1 nd (de_call c_law_machine hr (by omega) rfl (da_cons (de_var 0) (da_cons de_int (da_cons (de_op o_add de_int (de_op o_mod (de_call c_law_cell_at hr (by omega) rfl (da_cons (de_var 0) (da_cons de_int da_nil))) de_int)) (da_cons (de_op o_add de_int (de_op o_mod (de_op o_div (de_call c_law_cell_at hr (by omega) rfl (da_cons (de_var 0) (da_cons de_int da_nil))) de_int) de_int)) da_nil)))))) (ds_cons (ds_set 2 nd (de_call c_law_text hr (by omega) rfl (da_cons (de_var 1) da_nil))) (ds_cons (ds_set 3 nd (de_op o_mod (de_call c_law_cell_at hr (by omega) rfl (da_cons (de_var 0) (da_cons de_int da_nil))) de_int)) (ds_cons (ds_set 4 nd (de_op o_mod (de_call c_law_cell_at hr (by omega) rfl (da_cons (de_var 0) (da_cons de_int da_nil))) (de_op o_add (de_bi c_lenS rfl m_len bt_len (da_cons (de_var 2) da_nil)) de_int))) (ds_cons (ds_set 5 nd (de_ixS de_str (de_op o_mod (de_call c_law_cell_at hr (by omega) rfl (da_cons (de_var 0) (da_cons de_int da_nil))) de_int))) (ds_cons (ds_if (dt_cmp o_lt (de_var 3) de_int (nomark _)) (ds_one (ds_set 2 nd (de_op o_addS (de_op o_addS (de_slS (de_var 2) do_none (do_some (de_var 4))) (de_var 5)) (de_slS (de_var 2) (do_some (de_var 4)) do_none)))) (ds_one (ds_if (dt_cmp o_lt (de_var 3) de_int (nomark _)) (ds_one (ds_set 2 nd (de_op o_addS (de_op o_addS (de_slS (de_var 2) do_none (do_some (de_var 4))) (de_var 5)) (de_slS (de_var 2) (do_some (de_op o_add (de_var 4) de_int)) do_none)))) (ds_one (ds_if (dt_cmp o_lt (de_var 3) de_int (nomark _)) (ds_one (ds_set 2 nd (de_op o_addS (de_slS (de_var 2) do_none (do_some (de_var 4))) (de_slS (de_var 2) (do_some (de_op o_add (de_var 4) de_int)) do_none)))) (ds_one (ds_if (dt_cmp o_lt (de_var 3) de_int (nomark _)) (ds_one (ds_set 2 nd (de_call c_law_worded hr (by omega) rfl (da_cons (de_var 2) (da_cons (de_call c_law_cell_at hr (by omega) rfl (da_cons (de_var 0) (da_cons de_int da_nil))) (da_cons (de_call c_law_cell_at hr (by omega) rfl (da_cons (de_var 0) (da_cons de_int da_nil))) da_nil)))))) (ds_one (ds_if (dt_cmp o_lt (de_var 3) de_int (nomark _)) (ds_one (ds_set 2 nd (de_call c_law_odd hr (by omega) rfl (da_cons (de_call c_law_cell_at hr (by omega) rfl (da_cons (de_var 0) (da_cons de_int da_nil))) da_nil)))) ds_nil))))))))) (ds_cons (ds_set 6 nd (de_call c_law_due hr (by omega) rfl (da_cons (de_var 2) da_nil))) (ds_cons (ds_if (dt_cmp o_is (de_var 6) de_non (nomark _)) (ds_one (ds_ret (de_and (de_call c_law_refused hr (by omega) rfl (da_cons (de_var 2) da_nil)) (de_one (de_call c_law_refused hr (by omega) rfl (da_cons (de_var 2) da_nil)))))) ds_nil) (ds_one (ds_ret (de_call c_law_same hr (by omega) rfl (da_cons (de_callX c_read hr (by omega) rfl (da_cons (de_var 2) da_nil)) (da_cons (de_var 6) da_nil)))))))))))))
end

def spLaw (K : PySem.W.Frag) : Sp := spD K F_law
theorem all_mk {l : PySem.W.OpenLaw} {w : World} {K : PySem.W.Frag} {h : Heap} {mg : Str → Option Value} {fa : Addr} (X : K.In h) (G : h.Ns mainGlobals mg) (hfa : mg "law" = some (.ref fa))
    {f1 : Addr} {od1 an1 : Option Addr} {sl1 : Array (Option Value)} {oc1 kV1 dc1 pm1 cd1 ct1 : Value} {f2 : Addr} {od2 an2 : Option Addr} {sl2 : Array (Option Value)} {oc2 kV2 dc2 pm2 cd2 ct2 : Value} {f3 : Addr} {od3 an3 : Option Addr} {sl3 : Array (Option Value)} {oc3 kV3 dc3 pm3 cd3 ct3 : Value} {f4 : Addr} {od4 an4 : Option Addr} {sl4 : Array (Option Value)} {oc4 kV4 dc4 pm4 cd4 ct4 : Value} {f5 : Addr} {od5 an5 : Option Addr} {sl5 : Array (Option Value)} {oc5 kV5 dc5 pm5 cd5 ct5 : Value} {f6 : Addr} {od6 an6 : Option Addr} {sl6 : Array (Option Value)} {oc6 kV6 dc6 pm6 cd6 ct6 : Value} {f7 : Addr} {od7 an7 : Option Addr} {sl7 : Array (Option Value)} {oc7 kV7 dc7 pm7 cd7 ct7 : Value} {f8 : Addr} {od8 an8 : Option Addr} {sl8 : Array (Option Value)} {oc8 kV8 dc8 pm8 cd8 ct8 : Value} {f9 : Addr} {od9 an9 : Option Addr} {sl9 : Array (Option Value)} {oc9 kV9 dc9 pm9 cd9 ct9 : Value} {f10 : Addr} {od10 an10 : Option Addr} {sl10 : Array (Option Value)} {oc10 kV10 dc10 pm10 cd10 ct10 : Value} {f11 : Addr} {od11 an11 : Option Addr} {sl11 : Array (Option Value)} {oc11 kV11 dc11 pm11 cd11 ct11 : Value} {f12 : Addr} {od12 an12 : Option Addr} {sl12 : Array (Option Value)} {oc12 kV12 dc12 pm12 cd12 ct12 : Value} {f13 : Addr} {od13 an13 : Option Addr} {sl13 : Array (Option Value)} {oc13 kV13 dc13 pm13 cd13 ct13 : Value} {f14 : Addr} {od14 an14 : Option Addr} {sl14 : Array (Option Value)} {oc14 kV14 dc14 pm14 cd14 ct14 : Value} {f15 : Addr} {od15 an15 : Option Addr} {sl15 : Array (Option Value)} {oc15 kV15 dc15 pm15 cd15 ct15 : Value} {f16 : Addr} {od16 an16 : Option Addr} {sl16 : Array (Option Value)} {oc16 kV16 dc16 pm16 cd16 ct16 : Value} {f17 : Addr} {od17 an17 : Option Addr} {sl17 : Array (Option Value)} {oc17 kV17 dc17 pm17 cd17 ct17 : Value} {f18 : Addr} {od18 an18 : Option Addr} {sl18 : Array (Option Value)} {oc18 kV18 dc18 pm18 cd18 ct18 : Value} {f19 : Addr} {od19 an19 : Option Addr} {sl19 : Array (Option Value)} {oc19 kV19 dc19 pm19 cd19 ct19 : Value} {t_FEWEST_ROOMS : Tok} {t_FEWEST_SIGNS : Tok} {t_FIGURES : Tok} {t_LEFT : Tok} {t_MOST_ROOMS : Tok} {t_MOST_SIGNS : Tok} {t_NO_RULE : Tok} {t_RIGHT : Tok} {t_WAYS : Tok} {C_NoMachine : Addr} {C_NoNote : Addr} {C_StairError : Addr}
    (a1 : PySem.W.nsIn K mainGlobals "look_at_rule" = some (some (.ref f1))) (l1 : K.lookup f1 = some ⟨oc1, od1, .func (PySem.W.fnOf "look_at_rule" "look_at_rule" (defArgs st_look_at_rule) (defBody st_look_at_rule) (defScope st_look_at_rule) .none kV1 dc1 pm1 an1 cd1 ct1), sl1⟩) (c1 : PySem.W.codeIn K cd1 "look_at_rule" = true) (k1 : PySem.W.keepIn K (.ref f1) = true)
    (a2 : PySem.W.nsIn K mainGlobals "looked" = some (some (.ref f2))) (l2 : K.lookup f2 = some ⟨oc2, od2, .func (PySem.W.fnOf "looked" "looked" (defArgs st_looked) (defBody st_looked) (defScope st_looked) .none kV2 dc2 pm2 an2 cd2 ct2), sl2⟩) (c2 : PySem.W.codeIn K cd2 "looked" = true) (k2 : PySem.W.keepIn K (.ref f2) = true)
    (a3 : PySem.W.nsIn K mainGlobals "figure" = some (some (.ref f3))) (l3 : K.lookup f3 = some ⟨oc3, od3, .func (PySem.W.fnOf "figure" "figure" (defArgs st_figure) (defBody st_figure) (defScope st_figure) .none kV3 dc3 pm3 an3 cd3 ct3), sl3⟩) (c3 : PySem.W.codeIn K cd3 "figure" = true) (k3 : PySem.W.keepIn K (.ref f3) = true)
    (a4 : PySem.W.nsIn K mainGlobals "rule_of" = some (some (.ref f4))) (l4 : K.lookup f4 = some ⟨oc4, od4, .func (PySem.W.fnOf "rule_of" "rule_of" (defArgs st_rule_of) (defBody st_rule_of) (defScope st_rule_of) .none kV4 dc4 pm4 an4 cd4 ct4), sl4⟩) (c4 : PySem.W.codeIn K cd4 "rule_of" = true) (k4 : PySem.W.keepIn K (.ref f4) = true)
    (a5 : PySem.W.nsIn K mainGlobals "read" = some (some (.ref f5))) (l5 : K.lookup f5 = some ⟨oc5, od5, .func (PySem.W.fnOf "read" "read" (defArgs st_read) (defBody st_read) (defScope st_read) .none kV5 dc5 pm5 an5 cd5 ct5), sl5⟩) (c5 : PySem.W.codeIn K cd5 "read" = true) (k5 : PySem.W.keepIn K (.ref f5) = true)
    (a6 : PySem.W.nsIn K mainGlobals "_law_cell_at" = some (some (.ref f6))) (l6 : K.lookup f6 = some ⟨oc6, od6, .func (PySem.W.fnOf "_law_cell_at" "_law_cell_at" (defArgs st_law_cell_at) (defBody st_law_cell_at) (defScope st_law_cell_at) .none kV6 dc6 pm6 an6 cd6 ct6), sl6⟩) (c6 : PySem.W.codeIn K cd6 "_law_cell_at" = true) (k6 : PySem.W.keepIn K (.ref f6) = true)
    (a7 : PySem.W.nsIn K mainGlobals "_law_pick" = some (some (.ref f7))) (l7 : K.lookup f7 = some ⟨oc7, od7, .func (PySem.W.fnOf "_law_pick" "_law_pick" (defArgs st_law_pick) (defBody st_law_pick) (defScope st_law_pick) .none kV7 dc7 pm7 an7 cd7 ct7), sl7⟩) (c7 : PySem.W.codeIn K cd7 "_law_pick" = true) (k7 : PySem.W.keepIn K (.ref f7) = true)
    (a8 : PySem.W.nsIn K mainGlobals "_law_whole" = some (some (.ref f8))) (l8 : K.lookup f8 = some ⟨oc8, od8, .func (PySem.W.fnOf "_law_whole" "_law_whole" (defArgs st_law_whole) (defBody st_law_whole) (defScope st_law_whole) .none kV8 dc8 pm8 an8 cd8 ct8), sl8⟩) (c8 : PySem.W.codeIn K cd8 "_law_whole" = true) (k8 : PySem.W.keepIn K (.ref f8) = true)
    (a9 : PySem.W.nsIn K mainGlobals "_law_mix" = some (some (.ref f9))) (l9 : K.lookup f9 = some ⟨oc9, od9, .func (PySem.W.fnOf "_law_mix" "_law_mix" (defArgs st_law_mix) (defBody st_law_mix) (defScope st_law_mix) .none kV9 dc9 pm9 an9 cd9 ct9), sl9⟩) (c9 : PySem.W.codeIn K cd9 "_law_mix" = true) (k9 : PySem.W.keepIn K (.ref f9) = true)
    (a10 : PySem.W.nsIn K mainGlobals "_law_machine" = some (some (.ref f10))) (l10 : K.lookup f10 = some ⟨oc10, od10, .func (PySem.W.fnOf "_law_machine" "_law_machine" (defArgs st_law_machine) (defBody st_law_machine) (defScope st_law_machine) .none kV10 dc10 pm10 an10 cd10 ct10), sl10⟩) (c10 : PySem.W.codeIn K cd10 "_law_machine" = true) (k10 : PySem.W.keepIn K (.ref f10) = true)
    (a11 : PySem.W.nsIn K mainGlobals "_law_same" = some (some (.ref f11))) (l11 : K.lookup f11 = some ⟨oc11, od11, .func (PySem.W.fnOf "_law_same" "_law_same" (defArgs st_law_same) (defBody st_law_same) (defScope st_law_same) .none kV11 dc11 pm11 an11 cd11 ct11), sl11⟩) (c11 : PySem.W.codeIn K cd11 "_law_same" = true) (k11 : PySem.W.keepIn K (.ref f11) = true)
    (a12 : PySem.W.nsIn K mainGlobals "_law_figure" = some (some (.ref f12))) (l12 : K.lookup f12 = some ⟨oc12, od12, .func (PySem.W.fnOf "_law_figure" "_law_figure" (defArgs st_law_figure) (defBody st_law_figure) (defScope st_law_figure) .none kV12 dc12 pm12 an12 cd12 ct12), sl12⟩) (c12 : PySem.W.codeIn K cd12 "_law_figure" = true) (k12 : PySem.W.keepIn K (.ref f12) = true)
    (a13 : PySem.W.nsIn K mainGlobals "_law_rule" = some (some (.ref f13))) (l13 : K.lookup f13 = some ⟨oc13, od13, .func (PySem.W.fnOf "_law_rule" "_law_rule" (defArgs st_law_rule) (defBody st_law_rule) (defScope st_law_rule) .none kV13 dc13 pm13 an13 cd13 ct13), sl13⟩) (c13 : PySem.W.codeIn K cd13 "_law_rule" = true) (k13 : PySem.W.keepIn K (.ref f13) = true)
    (a14 : PySem.W.nsIn K mainGlobals "_law_due" = some (some (.ref f14))) (l14 : K.lookup f14 = some ⟨oc14, od14, .func (PySem.W.fnOf "_law_due" "_law_due" (defArgs st_law_due) (defBody st_law_due) (defScope st_law_due) .none kV14 dc14 pm14 an14 cd14 ct14), sl14⟩) (c14 : PySem.W.codeIn K cd14 "_law_due" = true) (k14 : PySem.W.keepIn K (.ref f14) = true)
    (a15 : PySem.W.nsIn K mainGlobals "_law_text" = some (some (.ref f15))) (l15 : K.lookup f15 = some ⟨oc15, od15, .func (PySem.W.fnOf "_law_text" "_law_text" (defArgs st_law_text) (defBody st_law_text) (defScope st_law_text) .none kV15 dc15 pm15 an15 cd15 ct15), sl15⟩) (c15 : PySem.W.codeIn K cd15 "_law_text" = true) (k15 : PySem.W.keepIn K (.ref f15) = true)
    (a16 : PySem.W.nsIn K mainGlobals "_law_odd" = some (some (.ref f16))) (l16 : K.lookup f16 = some ⟨oc16, od16, .func (PySem.W.fnOf "_law_odd" "_law_odd" (defArgs st_law_odd) (defBody st_law_odd) (defScope st_law_odd) .none kV16 dc16 pm16 an16 cd16 ct16), sl16⟩) (c16 : PySem.W.codeIn K cd16 "_law_odd" = true) (k16 : PySem.W.keepIn K (.ref f16) = true)
    (a17 : PySem.W.nsIn K mainGlobals "_law_worded" = some (some (.ref f17))) (l17 : K.lookup f17 = some ⟨oc17, od17, .func (PySem.W.fnOf "_law_worded" "_law_worded" (defArgs st_law_worded) (defBody st_law_worded) (defScope st_law_worded) .none kV17 dc17 pm17 an17 cd17 ct17), sl17⟩) (c17 : PySem.W.codeIn K cd17 "_law_worded" = true) (k17 : PySem.W.keepIn K (.ref f17) = true)
    (a18 : PySem.W.nsIn K mainGlobals "_law_refused" = some (some (.ref f18))) (l18 : K.lookup f18 = some ⟨oc18, od18, .func (PySem.W.fnOf "_law_refused" "_law_refused" (defArgs st_law_refused) (defBody st_law_refused) (defScope st_law_refused) .none kV18 dc18 pm18 an18 cd18 ct18), sl18⟩) (c18 : PySem.W.codeIn K cd18 "_law_refused" = true) (k18 : PySem.W.keepIn K (.ref f18) = true)
    (a19 : PySem.W.nsIn K mainGlobals "law" = some (some (.ref f19))) (l19 : K.lookup f19 = some ⟨oc19, od19, .func (PySem.W.fnOf "law" "law" (defArgs st_law) (defBody st_law) (defScope st_law) .none kV19 dc19 pm19 an19 cd19 ct19), sl19⟩) (c19 : PySem.W.codeIn K cd19 "law" = true) (k19 : PySem.W.keepIn K (.ref f19) = true)
    (z_FEWEST_ROOMS : PySem.W.nsIn K mainGlobals "FEWEST_ROOMS" = some (some (.int 1 t_FEWEST_ROOMS)))
    (z_FEWEST_SIGNS : PySem.W.nsIn K mainGlobals "FEWEST_SIGNS" = some (some (.int 2 t_FEWEST_SIGNS)))
    (z_FIGURES : PySem.W.nsIn K mainGlobals "FIGURES" = some (some (.str "0123456789" t_FIGURES)))
    (z_LEFT : PySem.W.nsIn K mainGlobals "LEFT" = some (some (.int 0 t_LEFT)))
    (z_MOST_ROOMS : PySem.W.nsIn K mainGlobals "MOST_ROOMS" = some (some (.int 6 t_MOST_ROOMS)))
    (z_MOST_SIGNS : PySem.W.nsIn K mainGlobals "MOST_SIGNS" = some (some (.int 4 t_MOST_SIGNS)))
    (z_NO_RULE : PySem.W.nsIn K mainGlobals "NO_RULE" = some (some (.str "-" t_NO_RULE)))
    (z_RIGHT : PySem.W.nsIn K mainGlobals "RIGHT" = some (some (.int 1 t_RIGHT)))
    (z_ValueError : PySem.W.nsIn K mainGlobals "ValueError" = some none)
    (z_WAYS : PySem.W.nsIn K mainGlobals "WAYS" = some (some (.str "<>" t_WAYS)))
    (z_all : PySem.W.nsIn K mainGlobals "all" = some none)
    (z_bool : PySem.W.nsIn K mainGlobals "bool" = some none)
    (z_int : PySem.W.nsIn K mainGlobals "int" = some none)
    (z_isinstance : PySem.W.nsIn K mainGlobals "isinstance" = some none)
    (z_len : PySem.W.nsIn K mainGlobals "len" = some none)
    (z_range : PySem.W.nsIn K mainGlobals "range" = some none)
    (z_str : PySem.W.nsIn K mainGlobals "str" = some none)
    (z_tuple : PySem.W.nsIn K mainGlobals "tuple" = some none)
    (z_NoMachine : PySem.W.nsIn K mainGlobals "NoMachine" = some (some (.ref C_NoMachine)))
    (z_NoNote : PySem.W.nsIn K mainGlobals "NoNote" = some (some (.ref C_NoNote)))
    (z_StairError : PySem.W.nsIn K mainGlobals "StairError" = some (some (.ref C_StairError)))
    (x_NoMachine : PySem.W.excIn K C_NoMachine [.type "ValueError", .type "Exception", .type "BaseException", .type "object"] "ValueError.__new__" = true)
    (x_NoNote : PySem.W.excIn K C_NoNote [.type "ValueError", .type "Exception", .type "BaseException", .type "object"] "ValueError.__new__" = true)
    (sub_NoNote_StairError : PySem.W.mroIn K C_NoNote (.ref C_StairError) = some true)
    (ty_StairError : PySem.W.typeIn K (.ref C_StairError) = some (.type "type"))
    (bs_StairError : PySem.W.mroIn K C_StairError (.type "BaseException") = some true)
    (kv_NoNote : PySem.W.kitOne K (.ref C_NoNote) (.type "ValueError") = some true)
    (kd_NoNote_NoMachine : PySem.W.kitOne K (.ref C_NoNote) (.ref C_NoMachine) = some false)
    (k1_NoNote : PySem.W.mroIn K C_NoNote (.type "object") = some true)
    (k2_NoNote : PySem.W.mroIn K C_NoNote (.type "BaseException") = some true)
    (k3_NoNote : PySem.W.findIn K (.ref C_NoNote) "__class__" = some (some (.builtin "object.__class__")))
    (k4_NoNote : PySem.W.findIn K (.ref C_NoNote) "__getattribute__" = some (some (.builtin "BaseException.__getattribute__")))
    (k5_NoNote : PySem.W.findIn K (.ref C_NoNote) "__getattr__" = some none)
    (sub_NoMachine_NoMachine : PySem.W.mroIn K C_NoMachine (.ref C_NoMachine) = some true)
    (ty_NoMachine : PySem.W.typeIn K (.ref C_NoMachine) = some (.type "type"))
    (bs_NoMachine : PySem.W.mroIn K C_NoMachine (.type "BaseException") = some true)
    (ty_NoNote : PySem.W.typeIn K (.ref C_NoNote) = some (.type "type"))
    (bs_NoNote : PySem.W.mroIn K C_NoNote (.type "BaseException") = some true) :
    ∃ fd : FuncData, (∀ (s : Shared) (v : Value), BindsTo s fd ⟨[v], []⟩ [("script", v)]) ∧ ∀ base : Heap, K.In base → base.Ns mainGlobals mg → FnOk l.prog w K mg base CX0 7 fa fd ["script"] (spLaw K) := by
  have e := hfa.symm.trans (PySem.W.mg_of X G a19)
  cases e
  have G1 := fun_mk (st := st_look_at_rule) l1 c1 k1
  have G2 := fun_mk (st := st_looked) l2 c2 k2
  have G3 := fun_mk (st := st_figure) l3 c3 k3
  have G4 := fun_mk (st := st_rule_of) l4 c4 k4
  have G5 := fun_mk (st := st_read) l5 c5 k5
  have G6 := fun_mk (st := st_law_cell_at) l6 c6 k6
  have G7 := fun_mk (st := st_law_pick) l7 c7 k7
  have G8 := fun_mk (st := st_law_whole) l8 c8 k8
  have G9 := fun_mk (st := st_law_mix) l9 c9 k9
  have G10 := fun_mk (st := st_law_machine) l10 c10 k10
  have G11 := fun_mk (st := st_law_same) l11 c11 k11
  have G12 := fun_mk (st := st_law_figure) l12 c12 k12
  have G13 := fun_mk (st := st_law_rule) l13 c13 k13
  have G14 := fun_mk (st := st_law_due) l14 c14 k14
  have G15 := fun_mk (st := st_law_text) l15 c15 k15
  have G16 := fun_mk (st := st_law_odd) l16 c16 k16
  have G17 := fun_mk (st := st_law_worded) l17 c17 k17
  have G18 := fun_mk (st := st_law_refused) l18 c18 k18
  have G19 := fun_mk (st := st_law) l19 c19 k19
  have m_FEWEST_ROOMS := PySem.W.mg_of X G z_FEWEST_ROOMS
  have m_FEWEST_SIGNS := PySem.W.mg_of X G z_FEWEST_SIGNS
  have m_FIGURES := PySem.W.mg_of X G z_FIGURES
  have m_LEFT := PySem.W.mg_of X G z_LEFT
  have m_MOST_ROOMS := PySem.W.mg_of X G z_MOST_ROOMS
  have m_MOST_SIGNS := PySem.W.mg_of X G z_MOST_SIGNS
  have m_NO_RULE := PySem.W.mg_of X G z_NO_RULE
  have m_RIGHT := PySem.W.mg_of X G z_RIGHT
  have m_ValueError := PySem.W.mg_none_of X G z_ValueError
  have m_WAYS := PySem.W.mg_of X G z_WAYS
  have m_all := PySem.W.mg_none_of X G z_all
  have m_bool := PySem.W.mg_none_of X G z_bool
  have m_int := PySem.W.mg_none_of X G z_int
  have m_isinstance := PySem.W.mg_none_of X G z_isinstance
  have m_len := PySem.W.mg_none_of X G z_len
  have m_range := PySem.W.mg_none_of X G z_range
  have m_str := PySem.W.mg_none_of X G z_str
  have m_tuple := PySem.W.mg_none_of X G z_tuple
  refine ⟨PySem.W.fnOf "law" "law" (defArgs st_law) (defBody st_law) (defScope st_law) .none kV19 dc19 pm19 an19 cd19 ct19, fun s v => .of_eq rfl, fun base KB GB => ?_⟩
  have m_NoMachine := PySem.W.mg_of X G z_NoMachine
  have m_NoNote := PySem.W.mg_of X G z_NoNote
  have m_StairError := PySem.W.mg_of X G z_StairError
  have o_NoMachine := own_K KB GB z_NoMachine x_NoMachine
  have o_NoNote := own_K KB GB z_NoNote x_NoNote
  have k_NoNote : ExcK K C_NoNote := ⟨k1_NoNote, k2_NoNote, k3_NoNote, k4_NoNote, k5_NoNote⟩
  have c_look_at_rule := ok_look_at_rule (P := l.prog) (w := w) (base := base) G1 (PySem.W.mg_of X G a1) a1  m_LEFT m_RIGHT o_NoMachine
  have c_looked := ok_looked (P := l.prog) (w := w) (base := base) G2 (PySem.W.mg_of X G a2) a2 c_look_at_rule m_len m_FEWEST_ROOMS m_FEWEST_SIGNS m_MOST_ROOMS m_MOST_SIGNS o_NoMachine
  have c_figure := ok_figure (P := l.prog) (w := w) (base := base) G3 (PySem.W.mg_of X G a3) a3  m_len m_FIGURES o_NoNote
  have c_rule_of := ok_rule_of (P := l.prog) (w := w) (base := base) G4 (PySem.W.mg_of X G a4) a4 c_figure m_len m_NO_RULE m_WAYS o_NoNote
  have c_read := ok_read (P := l.prog) (w := w) (base := base) G5 (PySem.W.mg_of X G a5) a5 c_figure c_looked c_rule_of m_len m_tuple o_NoNote sub_NoMachine_NoMachine m_NoMachine ty_NoMachine bs_NoMachine ty_NoNote bs_NoNote
  have c_law_cell_at := ok_law_cell_at (P := l.prog) (w := w) (base := base) G6 (PySem.W.mg_of X G a6) a6  m_len
  have c_law_pick := ok_law_pick (P := l.prog) (w := w) (base := base) G7 (PySem.W.mg_of X G a7) a7 c_law_cell_at m_len
  have c_law_whole := ok_law_whole (P := l.prog) (w := w) (base := base) G8 (PySem.W.mg_of X G a8) a8  m_bool m_int m_isinstance
  have c_law_mix := ok_law_mix (P := l.prog) (w := w) (base := base) G9 (PySem.W.mg_of X G a9) a9  
  have c_law_machine := ok_law_machine (P := l.prog) (w := w) (base := base) G10 (PySem.W.mg_of X G a10) a10 c_law_mix c_law_pick m_range m_tuple
  have c_law_same := ok_law_same (P := l.prog) (w := w) (base := base) G11 (PySem.W.mg_of X G a11) a11 c_law_whole m_all m_isinstance m_len m_range m_str m_tuple 4
  have c_law_figure := ok_law_figure (P := l.prog) (w := w) (base := base) G12 (PySem.W.mg_of X G a12) a12  m_len
  have c_law_rule := ok_law_rule (P := l.prog) (w := w) (base := base) G13 (PySem.W.mg_of X G a13) a13 c_law_figure m_len
  have c_law_due := ok_law_due (P := l.prog) (w := w) (base := base) G14 (PySem.W.mg_of X G a14) a14 c_law_figure c_law_rule m_len m_tuple
  have c_law_text := ok_law_text (P := l.prog) (w := w) (base := base) G15 (PySem.W.mg_of X G a15) a15  m_str
  have c_law_odd := ok_law_odd (P := l.prog) (w := w) (base := base) G16 (PySem.W.mg_of X G a16) a16  
  have c_law_worded := ok_law_worded (P := l.prog) (w := w) (base := base) G17 (PySem.W.mg_of X G a17) a17  m_len
  have c_law_refused := ok_law_refused (P := l.prog) (w := w) (base := base) G18 (PySem.W.mg_of X G a18) a18 c_read m_ValueError m_isinstance k_NoNote sub_NoNote_StairError m_StairError ty_StairError bs_StairError m_NoNote kv_NoNote m_NoMachine kd_NoNote_NoMachine
  exact ok_law (P := l.prog) (w := w) (base := base) G19 c_law_machine c_law_text c_law_due c_law_same c_law_cell_at c_read c_law_refused c_law_worded c_law_odd m_len
theorem walk {l : PySem.W.OpenLaw} {q : Program} {loose : List Str} {XP : (Str → Option Value) → Heap → Prop} {YP : World → Heap → Prop} {d : DefRec} {K : Params → PySem.W.Frag} (hn : l.most = some 63) (hdf : d.params.defaults = [])
    (hY : ∀ (w : World) (h : Heap), YP w h → (K w.params).In h)
    (F : ∀ (w : World) (mg : Str → Option Value) (fa : Addr) (h : Heap), (K w.params).In h → h.Ns mainGlobals mg → mg d.name = some (.ref fa) →
      ∃ fd : FuncData, (∀ (s : Shared) (u : Value), BindsTo s fd ⟨[u], []⟩ [("script", u)]) ∧ ∀ base : Heap, (K w.params).In base → base.Ns mainGlobals mg → FnOk l.prog w (K w.params) mg base CX0 7 fa fd ["script"] (spLaw (K w.params))) :
    PySem.W.WalkO q loose XP YP l.row.toRowW d [] (fun f vs => PySem.call f vs) :=
  L2.walk_ofK (n := 63) (k := 7) (x := "script") (CX := CX0) (sp := spLaw) hn (by decide) hdf ⟨rfl, by decide, by decide⟩ hY F (fun K H a ns hl _ hS => ⟨[.l .bor (ns.map D.int)], .d (.bl true), ⟨.ref a, [], rfl, ⟨a, ns.map V.int, rfl, hS, HasL.ints ns⟩, (fun ds z => by cases z), rfl⟩, law_true ns hl, fun v H' _ o => by simpa only [Out, Has] using o⟩) fun _ _ _ _ z => z
end Law
open PySem PySem.W PyProof.Rows
set_option maxRecDepth 100000 in
set_option maxHeartbeats 0 in
theorem PySem.Challenge.cw_downstair_k19_read_holds : PySem.Challenge.rw_downstair_k19_read.Holds := by
  w_on; o_law; k_head; (case hw => w_witness2)
  k_fill
  refine Law.walk (l := PySem.Challenge.rw_downstair_k19_read) rfl rfl (fun w h Y => PySem.W.kIn_of Y) ?F
  case F =>
    intro w mg fa h KX G hmg
    refine' Law.all_mk KX G hmg ?a1 ?l1 ?c1 ?k1 ?a2 ?l2 ?c2 ?k2 ?a3 ?l3 ?c3 ?k3 ?a4 ?l4 ?c4 ?k4 ?a5 ?l5 ?c5 ?k5 ?a6 ?l6 ?c6 ?k6 ?a7 ?l7 ?c7 ?k7 ?a8 ?l8 ?c8 ?k8 ?a9 ?l9 ?c9 ?k9 ?a10 ?l10 ?c10 ?k10 ?a11 ?l11 ?c11 ?k11 ?a12 ?l12 ?c12 ?k12 ?a13 ?l13 ?c13 ?k13 ?a14 ?l14 ?c14 ?k14 ?a15 ?l15 ?c15 ?k15 ?a16 ?l16 ?c16 ?k16 ?a17 ?l17 ?c17 ?k17 ?a18 ?l18 ?c18 ?k18 ?a19 ?l19 ?c19 ?k19 ?z_FEWEST_ROOMS ?z_FEWEST_SIGNS ?z_FIGURES ?z_LEFT ?z_MOST_ROOMS ?z_MOST_SIGNS ?z_NO_RULE ?z_RIGHT ?z_ValueError ?z_WAYS ?z_all ?z_bool ?z_int ?z_isinstance ?z_len ?z_range ?z_str ?z_tuple ?z_NoMachine ?z_NoNote ?z_StairError ?x_NoMachine ?x_NoNote ?sub_NoNote_StairError ?ty_StairError ?bs_StairError ?kv_NoNote ?kd_NoNote_NoMachine ?k1_NoNote ?k2_NoNote ?k3_NoNote ?k4_NoNote ?k5_NoNote ?sub_NoMachine_NoMachine ?ty_NoMachine ?bs_NoMachine ?ty_NoNote ?bs_NoNote
    (case a1 => k_is)
    (case l1 => k_is)
    (case c1 => k_is)
    (case k1 => k_is)
    (case a2 => k_is)
    (case l2 => k_is)
    (case c2 => k_is)
    (case k2 => k_is)
    (case a3 => k_is)
    (case l3 => k_is)
    (case c3 => k_is)
    (case k3 => k_is)
    (case a4 => k_is)
    (case l4 => k_is)
    (case c4 => k_is)
    (case k4 => k_is)
    (case a5 => k_is)
    (case l5 => k_is)
    (case c5 => k_is)
    (case k5 => k_is)
    (case a6 => k_is)
    (case l6 => k_is)
    (case c6 => k_is)
    (case k6 => k_is)
    (case a7 => k_is)
    (case l7 => k_is)
    (case c7 => k_is)
    (case k7 => k_is)
    (case a8 => k_is)
    (case l8 => k_is)
    (case c8 => k_is)
    (case k8 => k_is)
    (case a9 => k_is)
    (case l9 => k_is)
    (case c9 => k_is)
    (case k9 => k_is)
    (case a10 => k_is)
    (case l10 => k_is)
    (case c10 => k_is)
    (case k10 => k_is)
    (case a11 => k_is)
    (case l11 => k_is)
    (case c11 => k_is)
    (case k11 => k_is)
    (case a12 => k_is)
    (case l12 => k_is)
    (case c12 => k_is)
    (case k12 => k_is)
    (case a13 => k_is)
    (case l13 => k_is)
    (case c13 => k_is)
    (case k13 => k_is)
    (case a14 => k_is)
    (case l14 => k_is)
    (case c14 => k_is)
    (case k14 => k_is)
    (case a15 => k_is)
    (case l15 => k_is)
    (case c15 => k_is)
    (case k15 => k_is)
    (case a16 => k_is)
    (case l16 => k_is)
    (case c16 => k_is)
    (case k16 => k_is)
    (case a17 => k_is)
    (case l17 => k_is)
    (case c17 => k_is)
    (case k17 => k_is)
    (case a18 => k_is)
    (case l18 => k_is)
    (case c18 => k_is)
    (case k18 => k_is)
    (case a19 => k_is)
    (case l19 => k_is)
    (case c19 => k_is)
    (case k19 => k_is)
    (case z_FEWEST_ROOMS => k_is)
    (case z_FEWEST_SIGNS => k_is)
    (case z_FIGURES => k_is)
    (case z_LEFT => k_is)
    (case z_MOST_ROOMS => k_is)
    (case z_MOST_SIGNS => k_is)
    (case z_NO_RULE => k_is)
    (case z_RIGHT => k_is)
    (case z_ValueError => k_is)
    (case z_WAYS => k_is)
    (case z_all => k_is)
    (case z_bool => k_is)
    (case z_int => k_is)
    (case z_isinstance => k_is)
    (case z_len => k_is)
    (case z_range => k_is)
    (case z_str => k_is)
    (case z_tuple => k_is)
    (case z_NoMachine => k_is)
    (case z_NoNote => k_is)
    (case z_StairError => k_is)
    (case x_NoMachine => k_exc)
    (case x_NoNote => k_exc)
    (case sub_NoNote_StairError => k_is)
    (case ty_StairError => k_is)
    (case bs_StairError => k_is)
    (case kv_NoNote => kit_is)
    (case kd_NoNote_NoMachine => kit_is)
    (case k1_NoNote => k_is)
    (case k2_NoNote => k_is)
    (case k3_NoNote => k_is)
    (case k4_NoNote => k_is)
    (case k5_NoNote => k_is)
    (case sub_NoMachine_NoMachine => k_is)
    (case ty_NoMachine => k_is)
    (case bs_NoMachine => k_is)
    (case ty_NoNote => k_is)
    (case bs_NoNote => k_is)
