import PyProof.Rows.All
import Wide.All
import OpenK.AllK
import Wide.FinOn
import Lean
import PyProof.EqAt
import PyProof.EqKinds
import PyProof.TupleCall
import PySem.Challenge.RW_downstair_k18_shown
set_option Elab.async false
set_option linter.all false
set_option maxRecDepth 100000
/-! THE HAND LAYER, for ints, bools, texts, own classes, LISTS and tuples (index, slices, in, append, pop ..), calls, loops. Paste it whole ahead of your own text; what your proof does not reach may be deleted. -/
namespace L2
open PySem PySem.Spec PyProof.Rows

/-- a key: an int or a str -/
abbrev Key := Sum Int Str
def keyIs : Key → Value → Bool
  | .inl k, v => Value.isInt k v
  | .inr x, v => Value.isStrOf x v
def keyH (w : World) : Key → Int
  | .inl k => hashInt k
  | .inr x => hashStr w x
theorem keyIs_shape : ∀ {k : Key} {v : Value}, keyIs k v = true → (∃ i t, k = Sum.inl i ∧ v = Value.int i t) ∨ (∃ x t, k = Sum.inr x ∧ v = Value.str x t)
  | .inl i, v, h => by
    obtain ⟨t, e⟩ := Value.isInt_shape (k := i) (v := v) h
    exact .inl ⟨i, t, rfl, e⟩
  | .inr x, v, h => by
    obtain ⟨t, e⟩ := Value.isStrOf_shape (x := x) (v := v) h
    exact .inr ⟨x, t, rfl, e⟩
theorem keyIs_int (i : Int) (t : Tok) : keyIs (.inl i) (.int i t) = true := by simp [keyIs, Value.isInt]
theorem keyIs_str (x : Str) (t : Tok) : keyIs (.inr x) (.str x t) = true := by simp [keyIs, Value.isStrOf]
theorem key_ll (a b : Int) : decide ((Sum.inl a : Key) = Sum.inl b) = (a == b) := by
  by_cases e : a = b
  · subst e; simp
  · have h : ¬ (Sum.inl a : Key) = Sum.inl b := fun q => e (Sum.inl.inj q)
    rw [decide_eq_false h]
    exact (beq_eq_false_iff_ne.mpr e).symm
theorem key_rr (a b : Str) : decide ((Sum.inr a : Key) = Sum.inr b) = decide (a = b) := by
  by_cases e : a = b
  · subst e; simp
  · have h : ¬ (Sum.inr a : Key) = Sum.inr b := fun q => e (Sum.inr.inj q)
    rw [decide_eq_false h, decide_eq_false e]
theorem key_lr (a : Int) (b : Str) : decide ((Sum.inl a : Key) = Sum.inr b) = false := decide_eq_false (fun q => nomatch q)
theorem key_rl (a : Str) (b : Int) : decide ((Sum.inr a : Key) = Sum.inl b) = false := decide_eq_false (fun q => nomatch q)

def mixKind (prog : Program) (w : World) : PySem.KeyKind prog w Key where
  is := keyIs
  hash := keyH w
  inj := fun v a b ha hb => by
    rcases keyIs_shape ha with ⟨i, t, rfl, rfl⟩ | ⟨x, t, rfl, rfl⟩
    · rcases keyIs_shape hb with ⟨j, u, rfl, e⟩ | ⟨y, u, rfl, e⟩
      · injection e with e1 _; rw [e1]
      · exact nomatch e
    · rcases keyIs_shape hb with ⟨j, u, rfl, e⟩ | ⟨y, u, rfl, e⟩
      · exact nomatch e
      · injection e with e1 _; rw [e1]
  byValue := fun k v h => by
    rcases keyIs_shape h with ⟨i, t, rfl, rfl⟩ | ⟨x, t, rfl, rfl⟩ <;> rfl
  pyHash := fun hv h => by
    rcases keyIs_shape hv with ⟨i, t, rfl, rfl⟩ | ⟨x, t, rfl, rfl⟩
    · exact wpAny_pyHash_int h
    · exact wpAny_pyHash_str h
  eqBool := fun hu hv h => by
    rcases keyIs_shape hu with ⟨i, t, rfl, rfl⟩ | ⟨x, t, rfl, rfl⟩
    · rcases keyIs_shape hv with ⟨j, u, rfl, rfl⟩ | ⟨y, u, rfl, rfl⟩
      · rw [key_ll] at h; exact wpAny_eqBool_int h
      · rw [key_lr] at h; exact SeqAt.EqAt.int_str i t y u _ _ _ _ h
    · rcases keyIs_shape hv with ⟨j, u, rfl, rfl⟩ | ⟨y, u, rfl, rfl⟩
      · rw [key_rl] at h; exact SeqAt.EqAt.str_int x t j u _ _ _ _ h
      · rw [key_rr] at h; exact wpAny_eqBool_str h
  «strs» := fun k x t v h => by
    rcases keyIs_shape h with ⟨i, u, rfl, e⟩ | ⟨y, u, rfl, e⟩
    · exact nomatch e
    · injection e with e1 _
      subst e1
      cases v <;> rfl

theorem mixKind_is (prog : Program) (w : World) (k : Key) (v : Value) : (mixKind prog w).is k v = keyIs k v := rfl
theorem mixKind_int (prog : Program) (w : World) (i : Int) (t : Tok) : (mixKind prog w).is (.inl i) (.int i t) = true := keyIs_int i t
theorem mixKind_str (prog : Program) (w : World) (x : Str) (t : Tok) : (mixKind prog w).is (.inr x) (.str x t) = true := keyIs_str x t
end L2

namespace L2
open PySem PySem.Spec PyProof.Rows

/-- a value, without the heap -/
inductive V where
  | non | bl (b : Bool) | int (i : Int) | str (x : Str) | byt (b : Array UInt8) | flt (b : UInt64) | ref (a : Addr) | ty (n : String)
  deriving DecidableEq

def RelV : V → Value → Prop
  | .non, u => u = Value.none
  | .bl b, u => u = Value.bool b
  | .int i, u => ∃ t, u = Value.int i t
  | .str x, u => ∃ t, u = Value.str x t
  | .byt b, u => ∃ t, u = Value.bytes b t
  | .flt b, u => ∃ t, u = Value.float b t
  | .ref a, u => u = Value.ref a
  | .ty n, u => u = Value.type n

abbrev Vals : List V → List Value → Prop := Paired RelV
theorem Vals.length {xs : List V} {us : List Value} (r : Vals xs us) : xs.length = us.length := Paired.length r
theorem Vals.get : ∀ {xs : List V} {us : List Value} {i : Nat} {x : V}, Vals xs us → xs[i]? = some x → ∃ u, us[i]? = some u ∧ RelV x u
  | _, _, _, _, .nil, e => by simp at e
  | _, _, 0, _, .cons r _, e => by simp at e; subst e; exact ⟨_, rfl, r⟩
  | _, _, i + 1, x, .cons _ t, e => by
    obtain ⟨u, h1, h2⟩ := Vals.get (i := i) (x := x) t (by simpa using e)
    exact ⟨u, by simpa using h1, h2⟩
theorem Vals.set {x : V} {u : Value} (r : RelV x u) : ∀ {xs : List V} {us : List Value} (i : Nat), Vals xs us → Vals (xs.set i x) (us.set i u)
  | _, _, _, .nil => .nil
  | _, _, 0, .cons _ t => .cons r t
  | _, _, i + 1, .cons q t => .cons q (Vals.set r i t)
theorem Vals.append : ∀ {xs ys : List V} {us ws : List Value}, Vals xs us → Vals ys ws → Vals (xs ++ ys) (us ++ ws)
  | _, _, _, _, .nil, s => s
  | _, _, _, _, .cons r t, s => .cons r (Vals.append t s)
theorem Vals.take : ∀ {xs : List V} {us : List Value} (n : Nat), Vals xs us → Vals (xs.take n) (us.take n)
  | _, _, 0, _ => .nil
  | _, _, _ + 1, .nil => .nil
  | _, _, n + 1, .cons r t => .cons r (Vals.take n t)
theorem Vals.drop : ∀ {xs : List V} {us : List Value} (n : Nat), Vals xs us → Vals (xs.drop n) (us.drop n)
  | _, _, 0, r => r
  | _, _, _ + 1, .nil => .nil
  | _, _, n + 1, .cons _ t => Vals.drop n t
theorem Vals.none_of : ∀ {xs : List V} {us : List Value} {i : Nat}, Vals xs us → xs[i]? = none → us[i]? = none := fun {xs us i} r e => by
  have h1 := r.length
  have h2 : xs.length ≤ i := List.getElem?_eq_none_iff.mp e
  exact List.getElem?_eq_none_iff.mpr (by omega)

def RelO : Option V → Option Value → Prop
  | some v, some u => RelV v u
  | none, none => True
  | _, _ => False
def KV {κ : Type} : List (κ × V) → List (κ × Value) → Prop := Paired fun (p : κ × V) (q : κ × Value) => p.1 = q.1 ∧ RelV p.2 q.2

/-- a key of a dict (00_mix): an int or a text -/
def kV : Key → V
  | .inl i => .int i
  | .inr x => .str x

/-- what stands at a tracked address -/
inductive HO where
  /-- a list -/
  | lst (xs : List V)
  /-- a tuple (never changes) -/
  | tup (xs : List V)
  /-- a dict whose keys are ints and texts; one whose keys are tuples of ints and texts (the empty one is both) -/
  | dK (kvs : List (Key × V)) | dT (kvs : List (List Key × V))
  /-- a set of ints: its members, its size -/
  | set (S : Int → Bool) (n : Nat)
  /-- an instance of the class at C, its dict at dx, its attributes -/
  | ins (C dx : Addr) (fs : List (Str × V))
  /-- the dict of the instance at x -/
  | own (x : Addr)
  /-- the dict of an exception -/
  | xd (fs : List (Str × V))
  /-- a bound method, f of x -/
  | met (f x : Addr)
  /-- a range object lo, lo + 1, .. below hi -/
  | rng (lo hi : Int)
  /-- a thing that is known to the object (the script; a dict while a loop walks it): read, never written while it is so -/
  | frz (o : Obj) (u : HO)
  /-- a code object's table -/
  | tbl (ps : Array Value)
  /-- any other thing, by what is true of its one object (a def of one's own: SetO a S n := HO.ext fun h => ..) -/
  | ext (φ : Heap → Prop)

abbrev Hp := Addr → Option HO
def upd (H : Hp) (a : Addr) (o : HO) : Hp := fun b => if b = a then some o else H b
theorem upd_same {H : Hp} {a : Addr} {o : HO} : upd H a o a = some o := by unfold upd; rw [if_pos rfl]
theorem upd_ne {H : Hp} {a b : Addr} {o : HO} (h : b ≠ a) : upd H a o b = H b := by unfold upd; rw [if_neg h]
theorem upd_upd {H : Hp} {a : Addr} {o u : HO} : upd (upd H a o) a u = upd H a u := by
  funext b; unfold upd; split <;> rfl
/-- two objects of different content stand apart -/
theorem ne_of {H : Hp} {a b : Addr} {o u : HO} (h : H a = some o) (h' : H b = some u) (d : o ≠ u) : a ≠ b := by
  intro e; subst e; rw [h] at h'; exact d (Option.some.inj h')
theorem ne_of_none {H : Hp} {a b : Addr} {o : HO} (h : H a = some o) (h' : H b = none) : a ≠ b := by
  intro e; subst e; rw [h] at h'; cases h'

section
variable (P : Program) (w : World)
def ObjOk (H : Hp) (h : Heap) (a : Addr) : HO → Prop
  | .lst xs => xs.length ≤ sizeLine ∧ ∃ (its : List Value) (n : Nat), Vals xs its ∧ h.get? a = some { cls := .type "list", data := .seq its.toArray n }
  | .tup xs => xs.length ≤ sizeLine ∧ ∃ its : List Value, Vals xs its ∧ IsTup h a its.toArray
  | .dK kvs => kvs.length ≤ sizeLine ∧ (a == sysModules) = false ∧ ∃ vs, KV kvs vs ∧ h.DictOf (mixKind P w) a vs
  | .dT kvs => kvs.length ≤ sizeLine ∧ (a == sysModules) = false ∧ ∃ xs : List (List Key × Addr × Value),
      Paired (fun (p : List Key × V) (q : List Key × Addr × Value) => p.1 = q.1 ∧ H q.2.1 = some (.tup (p.1.map kV)) ∧ RelV p.2 q.2.2) kvs xs ∧
      ∃ o es ep, h.get? a = some o ∧ o.ExactDict ∧ o.data = .dict es ep ∧ es.toList = xs.map (entryOfKey (tupleKind (mixKind P w))) ∧ (xs.map (·.1)).Nodup
  | .set S n => h.SetOf (intKind P w) a S n
  | .ins C dx fs => H dx = some (.own a) ∧ fs.length ≤ 1000 ∧ dx ≠ a ∧ h.get? a = some (PySem.W.instObj C dx) ∧
      ∃ mA, h.Ns1 dx mA ∧ (∀ f, RelO (fs.lookup f) (mA f)) ∧ PySem.Within mA (fs.map (·.1))
  | .own _ => ∃ o, h.get? a = some o
  | .xd fs => ∃ mA, h.Ns1 a mA ∧ ∀ f, RelO (fs.lookup f) (mA f)
  | .rng lo hi => ∃ t u v, h.get? a = some { cls := .type "range", data := .fields #[.int lo t, .int hi u, .int 1 v] }
  | .frz o u => h.get? a = some o ∧ ObjOk H h a u
  | .tbl ps => h.get? a = some { cls := .none, data := .fields ps }
  | .met f x => h.get? a = some (PySem.W.methodObj (.ref f) (.ref x))
  | .ext φ => φ h ∧ (∃ o, h.get? a = some o) ∧ ∀ h1 h2 : Heap, φ h1 → (∀ o, h1.get? a = some o → h2.get? a = some o) → φ h2
/-- the abstract heap is held -/
def HOk (H : Hp) (h : Heap) : Prop := ∀ a o, H a = some o → ObjOk P w H h a o
end

section
variable {P : Program} {w : World} {H H' : Hp} {h h' : Heap} {a : Addr} {o : HO}
theorem ObjOk.lt (x : ObjOk P w H h a o) : a < h.objs.size := by
  cases o with
  | lst xs => obtain ⟨_, _, _, _, e⟩ := x; exact Heap.lt_size e
  | tup xs => obtain ⟨_, _, _, p⟩ := x; exact p.lt
  | dK kvs => obtain ⟨_, _, _, _, o, _, _, e, _⟩ := x; exact Heap.lt_size e
  | dT kvs => obtain ⟨_, _, _, _, o, _, _, e, _⟩ := x; exact Heap.lt_size e
  | set S n => obtain ⟨o, _, _, _, e, _⟩ := x; exact Heap.lt_size e
  | ins C dx fs => obtain ⟨_, _, _, e, _⟩ := x; exact Heap.lt_size e
  | own y => obtain ⟨_, e⟩ := x; exact Heap.lt_size e
  | xd fs => obtain ⟨_, ⟨_, _, _, e, _⟩, _⟩ := x; exact Heap.lt_size e
  | rng lo hi => obtain ⟨_, _, _, e⟩ := x; exact Heap.lt_size e
  | frz ob u => obtain ⟨e, _⟩ := x; exact Heap.lt_size e
  | tbl ps => exact Heap.lt_size (show h.get? a = some _ from x)
  | met f y => exact Heap.lt_size (show h.get? a = some _ from x)
  | ext φ => obtain ⟨_, ⟨_, e⟩, _⟩ := x; exact Heap.lt_size e
theorem Paired.mapP {α β : Type} {F G : α → β → Prop} : ∀ {l₁ : List α} {l₂ : List β}, Paired F l₁ l₂ → (∀ a b, F a b → G a b) → Paired G l₁ l₂
  | _, _, .nil, _ => .nil
  | _, _, .cons r t, f => .cons (f _ _ r) (Paired.mapP t f)
theorem Paired.imp' {α β : Type} {F G : α → β → Prop} (f : ∀ a b, F a b → G a b) {l₁ : List α} {l₂ : List β} (r : Paired F l₁ l₂) : Paired G l₁ l₂ := Paired.mapP r f
/-- what an object's description leans on: its own object, its own dict, the tuples -/
theorem ObjOk.stay (x : ObjOk P w H h a o) (k : ∀ b u, (b = a ∨ H b = some (.own a)) → h.get? b = some u → h'.get? b = some u)
    (ho : ∀ b, H b = some (.own a) → H' b = some (.own a)) (ht : ∀ b xs, H b = some (.tup xs) → H' b = some (.tup xs)) : ObjOk P w H' h' a o := by
  induction o with
  | lst xs => obtain ⟨z, its, n, r, e⟩ := x; exact ⟨z, its, n, r, k _ _ (.inl rfl) e⟩
  | tup xs => obtain ⟨z, its, r, ob, e, c⟩ := x; exact ⟨z, its, r, ob, k _ _ (.inl rfl) e, c⟩
  | dK kvs => obtain ⟨z, y, vs, r, ob, es, ep, e, c⟩ := x; exact ⟨z, y, vs, r, ob, es, ep, k _ _ (.inl rfl) e, c⟩
  | dT kvs =>
    obtain ⟨z, y, xs, r, ob, es, ep, e, c⟩ := x
    exact ⟨z, y, xs, Paired.mapP r fun p q z => ⟨z.1, ht _ _ z.2.1, z.2.2⟩, ob, es, ep, k _ _ (.inl rfl) e, c⟩
  | set S n => obtain ⟨ob, es, ep, t, e, c⟩ := x; exact ⟨ob, es, ep, t, k _ _ (.inl rfl) e, c⟩
  | ins C dx fs =>
    obtain ⟨d, z, ne, e, mA, ⟨od, es, ep, e2, c⟩, r⟩ := x
    exact ⟨ho _ d, z, ne, k _ _ (.inl rfl) e, mA, ⟨od, es, ep, k _ _ (.inr d) e2, c⟩, r⟩
  | own y => obtain ⟨ob, e⟩ := x; exact ⟨ob, k _ _ (.inl rfl) e⟩
  | xd fs => obtain ⟨mA, ⟨od, es, ep, e, c⟩, r⟩ := x; exact ⟨mA, ⟨od, es, ep, k _ _ (.inl rfl) e, c⟩, r⟩
  | rng lo hi => obtain ⟨t, u, v, e⟩ := x; exact ⟨t, u, v, k _ _ (.inl rfl) e⟩
  | frz ob u ih => obtain ⟨e, q⟩ := x; exact ⟨k _ _ (.inl rfl) e, ih q⟩
  | tbl ps =>
    have e : h.get? a = some { cls := .none, data := .fields ps } := x
    show h'.get? a = some { cls := .none, data := .fields ps }
    exact k a _ (.inl rfl) e
  | met f y =>
    have e : h.get? a = some (PySem.W.methodObj (.ref f) (.ref y)) := x
    show h'.get? a = some (PySem.W.methodObj (.ref f) (.ref y))
    exact k a _ (.inl rfl) e
  | ext φ => obtain ⟨p, ⟨o, e⟩, st⟩ := x; exact ⟨st _ _ p fun o q => k _ _ (.inl rfl) q, ⟨o, k _ _ (.inl rfl) e⟩, st⟩
theorem HOk.lt (x : HOk P w H h) (e : H a = some o) : a < h.objs.size := (x a o e).lt
theorem HOk.fresh (x : HOk P w H h) (e : h.objs.size ≤ a) : H a = none := by
  cases q : H a with
  | none => rfl
  | some u => exact absurd (Nat.lt_of_lt_of_le (x.lt q) e) (Nat.lt_irrefl _)
/-- every object of the heap is kept -/
theorem HOk.kept (x : HOk P w H h) (k : ∀ b u, h.get? b = some u → h'.get? b = some u) : HOk P w H h' := fun a o e =>
  (x a o e).stay (fun b u _ q => k b u q) (fun _ q => q) fun _ _ q => q
/-- a new object is laid and tracked -/
theorem HOk.laid (x : HOk P w H h) (k : ∀ b u, h.get? b = some u → h'.get? b = some u) (hp : h.objs.size ≤ a) (new : ObjOk P w (upd H a o) h' a o) : HOk P w (upd H a o) h' := fun b u e => by
  have hn := x.fresh hp
  by_cases hb : b = a
  · subst hb; rw [upd_same] at e; cases e; exact new
  · rw [upd_ne hb] at e
    exact (x b u e).stay (fun c v _ q => k c v q) (fun c q => by rw [upd_ne (ne_of_none q hn)]; exact q) fun c xs q => by rw [upd_ne (ne_of_none q hn)]; exact q
end

/-- what may be read as u: it is u, or a known u -/
def Rd (H : Hp) (a : Addr) (u : HO) : Prop := H a = some u ∨ ∃ o, H a = some (.frz o u)
theorem Rd.of {H : Hp} {a : Addr} {u : HO} (h : H a = some u) : Rd H a u := .inl h
theorem Rd.ok {P : Program} {w : World} {H : Hp} {h : Heap} {a : Addr} {u : HO} (r : Rd H a u) (x : HOk P w H h) : ObjOk P w H h a u := by
  rcases r with r | ⟨o, r⟩
  · exact x a u r
  · obtain ⟨_, q⟩ := x a _ r
    exact q
/-- what may be written -/
def Mut : Option HO → Prop
  | some (.lst _) => True
  | some (.dK _) => True
  | some (.dT _) => True
  | some (.set _ _) => True
  | some (.ins _ _ _) => True
  | some (.ext _) => True
  | _ => False
section
variable {P : Program} {w : World} {H : Hp} {h h' : Heap} {x e : Addr} {o' : HO}
/-- the object at e is changed: x itself, or the dict of the instance x -/
theorem HOk.write (ok : HOk P w H h) (mu : Mut (H x)) (he : e = x ∨ H e = some (.own x)) (k : ∀ b u, b ≠ e → h.get? b = some u → h'.get? b = some u) (heo : ∃ u, h'.get? e = some u)
    (new : ObjOk P w (upd H x o') h' x o') : HOk P w (upd H x o') h' := fun b u q => by
  have nown : ∀ c y, H c = some (.own y) → c ≠ x := fun c y r z => by subst z; rw [r] at mu; exact mu
  have ntup : ∀ c xs, H c = some (.tup xs) → c ≠ x := fun c xs r z => by subst z; rw [r] at mu; exact mu
  by_cases hb : b = x
  · subst hb; rw [upd_same] at q; cases q; exact new
  · rw [upd_ne hb] at q
    by_cases hbe : b = e
    · have q' : H b = some (.own x) := by
        rcases he with z | z
        · exact absurd (hbe.trans z) hb
        · rw [hbe]; exact z
      rw [q] at q'; cases q'
      obtain ⟨v, hv⟩ := heo
      exact ⟨v, by rw [hbe]; exact hv⟩
    · refine (ok b u q).stay (fun c v hc r => k c v ?_ r) (fun c r => by rw [upd_ne (nown c b r)]; exact r) fun c xs r => by rw [upd_ne (ntup c xs r)]; exact r
      rcases hc with rfl | hc
      · exact hbe
      · rintro rfl
        rcases he with z | z
        · exact nown c b hc z
        · rw [hc] at z; cases z; exact hb rfl
end

/-! ### kept unless tracked; of the frames at fs (the callers') the slots may change (an exception that passes writes there); of the records at ex (iterators) nothing is said -/
structure Un (fs ex : List Addr) (H H' : Hp) (h h' : Heap) : Prop where
  keep : ∀ b o, h.get? b = some o → H b = none → b ∉ fs → b ∉ ex → h'.get? b = some o
  slot : ∀ b o, h.get? b = some o → H b = none → b ∈ fs → b ∉ ex → ∃ sl, h'.get? b = some { o with slots := sl }
  free : ∀ b o, h.get? b = some o → H b = none → b ∉ ex → H' b = none
  there : ∀ b o, h.get? b = some o → b ∉ ex → ∃ o', h'.get? b = some o'
  tups : ∀ b xs, H b = some (.tup xs) → H' b = some (.tup xs)
  frzs : ∀ b o u, H b = some (.frz o u) → H' b = some (.frz o u)
  tbls : ∀ b ps, H b = some (.tbl ps) → ∃ more, H' b = some (.tbl (ps ++ more))
section
variable {fs fs' ex ex' : List Addr} {H H1 H2 : Hp} {h h1 h2 h' : Heap} {a x e : Addr} {o : HO}
theorem Un.any (u : Un fs ex H H1 h h1) {b : Addr} {ob : Obj} (q : h.get? b = some ob) (n : H b = none) (hx : b ∉ ex) : ∃ sl, h1.get? b = some { ob with slots := sl } := by
  by_cases hb : b ∈ fs
  · exact u.slot b ob q n hb hx
  · exact ⟨ob.slots, u.keep b ob q n hb hx⟩
theorem Un.trans (a : Un fs ex H H1 h h1) (b : Un fs ex H1 H2 h1 h2) : Un fs ex H H2 h h2 where
  keep := fun c ob q n hc hx => b.keep c ob (a.keep c ob q n hc hx) (a.free c ob q n hx) hc hx
  slot := fun c ob q n hc hx => by
    obtain ⟨sl, e1⟩ := a.slot c ob q n hc hx
    obtain ⟨sl', e2⟩ := b.slot c _ e1 (a.free c ob q n hx) hc hx
    exact ⟨sl', e2⟩
  free := fun c ob q n hx => by
    obtain ⟨o', e1⟩ := a.there c ob q hx
    exact b.free c o' e1 (a.free c ob q n hx) hx
  there := fun c ob q hx => by
    obtain ⟨o', e1⟩ := a.there c ob q hx
    exact b.there c o' e1 hx
  tups := fun c xs q => b.tups c xs (a.tups c xs q)
  frzs := fun c ob xs q => b.frzs c ob xs (a.frzs c ob xs q)
  tbls := fun c ps q => by
    obtain ⟨m1, e1⟩ := a.tbls c ps q
    obtain ⟨m2, e2⟩ := b.tbls c _ e1
    exact ⟨m1 ++ m2, by rw [e2, Array.append_assoc]⟩
theorem Un.kept (k : ∀ b u, h.get? b = some u → h'.get? b = some u) : Un fs ex H H h h' :=
  ⟨fun b ob q _ _ _ => k b ob q, fun b ob q _ _ _ => ⟨ob.slots, k b ob q⟩, fun _ _ _ n _ => n, fun b ob q _ => ⟨ob, k b ob q⟩, fun _ _ q => q, fun _ _ _ q => q, fun _ ps q => ⟨#[], by rw [q]; simp⟩⟩
theorem Un.refl : Un fs ex H H h h := Un.kept fun _ _ q => q
theorem Un.laid (k : ∀ b u, h.get? b = some u → h'.get? b = some u) (hp : h.objs.size ≤ a) (hn : H a = none) : Un fs ex H (upd H a o) h h' where
  keep := fun b u q _ _ _ => k b u q
  slot := fun b u q _ _ _ => ⟨u.slots, k b u q⟩
  free := fun b u q n _ => by rw [upd_ne (Nat.ne_of_lt (Nat.lt_of_lt_of_le (Heap.lt_size q) hp))]; exact n
  there := fun b u q _ => ⟨u, k b u q⟩
  tups := fun b xs q => by rw [upd_ne (ne_of_none q hn)]; exact q
  frzs := fun b u xs q => by rw [upd_ne (ne_of_none q hn)]; exact q
  tbls := fun b ps q => ⟨#[], by rw [upd_ne (ne_of_none q hn), q]; simp⟩
theorem Un.write (mu : Mut (H x)) (he : e = x ∨ H e = some (.own x)) (k : ∀ b u, b ≠ e → h.get? b = some u → h'.get? b = some u) (heo : ∃ u, h'.get? e = some u) : Un fs ex H (upd H x o) h h' := by
  have hx : ∀ b, H b = none → b ≠ x := fun b n z => by subst z; rw [n] at mu; exact mu
  have hb : ∀ b, H b = none → b ≠ e := fun b n z => by
    subst z
    rcases he with r | r
    · exact hx b n r
    · rw [n] at r; cases r
  have hm : ∀ b u, H b = some u → ¬ Mut (some u) → b ≠ x := fun b u q nm z => by subst z; rw [q] at mu; exact nm mu
  refine ⟨fun b u q n _ _ => k b u (hb b n) q, fun b u q n _ _ => ⟨u.slots, k b u (hb b n) q⟩, fun b u q n _ => by rw [upd_ne (hx b n)]; exact n, fun b u q _ => ?_,
    fun b xs q => by rw [upd_ne (hm b _ q fun z => z)]; exact q, fun b u xs q => by rw [upd_ne (hm b _ q fun z => z)]; exact q, fun b ps q => ⟨#[], by rw [upd_ne (hm b _ q fun z => z), q]; simp⟩⟩
  by_cases hbe : b = e
  · subst hbe; exact heo
  · exact ⟨u, k b u hbe q⟩
theorem Un.mono (u : Un fs ex H H1 h h1) (hs : ∀ b ∈ fs, b ∈ fs') (hx : ∀ b ∈ ex, b ∈ ex') : Un fs' ex' H H1 h h1 :=
  ⟨fun b ob q n hb he => u.keep b ob q n (fun z => hb (hs b z)) fun z => he (hx b z), fun _ _ q n _ he => u.any q n fun z => he (hx _ z), fun b ob q n he => u.free b ob q n fun z => he (hx b z), fun b ob q he => u.there b ob q fun z => he (hx b z), u.tups, u.frzs, u.tbls⟩
end

/-! ### the heap without what is tracked -/
def trk (h : Heap) (H : Hp) : List Addr := (List.range h.objs.size).filter fun a => (H a).isSome
def hidT (h : Heap) (H : Hp) : Heap := PySem.W.hideAll h (trk h H)
theorem hidT_size (h : Heap) (H : Hp) : (hidT h H).objs.size = h.objs.size := PySem.W.hideAll_size _ _
theorem hidT_get {h : Heap} {H : Hp} {b : Addr} {o : Obj} (e : h.get? b = some o) (n : H b = none) : (hidT h H).get? b = some o :=
  PySem.W.hideAll_get _ e fun hm => by
    have q : (H b).isSome = true := (List.mem_filter.mp hm).2
    rw [n] at q; simp at q
theorem of_hidT {h : Heap} {H : Hp} {b : Addr} {o : Obj} (e : (hidT h H).get? b = some o) : h.get? b = some o ∧ H b = none := by
  have e' : h.get? b = some o := PySem.W.of_hideAll (trk h H) e
  refine ⟨e', ?_⟩
  cases q : H b with
  | none => rfl
  | some x =>
    have hm : b ∈ trk h H := List.mem_filter.mpr ⟨List.mem_range.mpr (Heap.lt_size e'), by simp [q]⟩
    have z : (hidT h H).get? b = none := PySem.W.hideAll_none (trk h H) hm
    rw [z] at e; cases e

/-! ### OpenK's ledger, filled with every new object but one -/
def allNews (g h : Heap) (L : Addr) : List (Addr × Obj) := (List.range h.objs.size).filterMap fun a => if a = L ∨ (g.get? a).isSome = true then none else (h.get? a).map fun o => (a, o)
theorem mem_allNews {g h : Heap} {L a : Addr} {o : Obj} (h1 : a ≠ L) (h2 : g.get? a = none) (h3 : h.get? a = some o) : (a, o) ∈ allNews g h L :=
  List.mem_filterMap.mpr ⟨a, List.mem_range.mpr (Heap.lt_size h3), by simp [h1, h2, h3]⟩
theorem of_mem_allNews {g h : Heap} {L : Addr} {p : Addr × Obj} (hp : p ∈ allNews g h L) : p.1 ≠ L ∧ g.get? p.1 = none ∧ h.get? p.1 = some p.2 := by
  obtain ⟨b, _, e⟩ := List.mem_filterMap.mp hp
  split at e
  · cases e
  · rename_i hn
    cases q : h.get? b with
    | none => rw [q] at e; simp at e
    | some u =>
      rw [q] at e
      simp only [Option.map_some, Option.some.injEq] at e
      subst e
      refine ⟨fun z => hn (.inl z), ?_, q⟩
      show g.get? b = none
      cases r : g.get? b with
      | none => rfl
      | some v => exact (hn (.inr (by simp [r]))).elim
def rest (g h : Heap) (L d : Addr) : List (Addr × Obj) := (allNews g h L).filter fun p => decide (p.1 ≠ d)
theorem rest_ne {g h : Heap} {L d : Addr} : ∀ p ∈ rest g h L d, p.1 ≠ d := fun p hp => of_decide_eq_true (List.mem_filter.mp hp).2
theorem mem_rest {g h : Heap} {L d a : Addr} {o : Obj} (h1 : a ≠ L) (h2 : g.get? a = none) (h3 : h.get? a = some o) (h4 : a ≠ d) : (a, o) ∈ rest g h L d :=
  List.mem_filter.mpr ⟨mem_allNews h1 h2 h3, decide_eq_true h4⟩
theorem news_all {g h : Heap} {L : Addr} : News g L h (allNews g h L) := fun p hp => let ⟨a, b, c⟩ := of_mem_allNews hp; ⟨c, a, b⟩
theorem news_at {g h : Heap} {L d : Addr} {o : Obj} (h1 : d ≠ L) (h2 : g.get? d = none) (h3 : h.get? d = some o) : News g L h ((d, o) :: rest g h L d) := fun p hp => by
  rcases List.mem_cons.mp hp with rfl | hp
  · exact ⟨h3, h1, h2⟩
  · exact news_all p (List.mem_filter.mp hp).1
/-- behind a rule that changed d alone: all else but the frame is kept -/
theorem kept_of_news {g h h' : Heap} {L d : Addr} {m : Str → Option Value} (k : ∀ b o, g.get? b = some o → h.get? b = some o) (F : Fr g L h' m) (N : News g L h' (rest g h L d)) :
    ∀ b o, b ≠ L → b ≠ d → h.get? b = some o → h'.get? b = some o := fun b o h1 h2 e => by
  cases q : g.get? b with
  | some u =>
    have := k b u q
    rw [e] at this; cases this
    exact F.keep b _ q
  | none => exact (N (b, o) (mem_rest h1 q e h2)).1
end L2

namespace L2
open PySem PySem.Spec PyProof.Rows

/-- the module's facts, over the base: the heap at the law's entry without what is tracked there -/
structure Mod (K : PySem.W.Frag) (mg : Str → Option Value) (base : Heap) : Prop where
  kin : K.In base
  glob : base.Ns mainGlobals mg
  blt : ∃ mb, base.Ns builtinsNs mb ∧ ∀ x : Str, x ≠ "__name__" → mb x = bootBuiltins x
  nolimit : base.NoLimit

/-- the context: a def's body (or a comprehension's block) running. base: fixed through the whole law; s₀, H₀: the entry; outer: the frames whose slots others may change (a def's callers); stack: all frames that run;
   ex: iterators that were made ahead of the entry and are walked here (a comprehension's); fn: the names whose cells were made at the entry (a def: all; a comprehension's block: its own); calm: not within an except suite; pn: pins that every state bears; xe: what is wanted of an exception that leaves the code -/
structure Cx where
  prog : Program
  w : World
  K : PySem.W.Frag
  mg : Str → Option Value
  base : Heap
  A : Around
  N : List Str
  s₀ : Shared
  H₀ : Hp
  env : Env
  outer : List Env
  stack : List Env
  ex : List Addr
  fn : Str → Bool
  calm : Bool
  pn : List (Addr × Obj)
  xe : Value → Shared → Prop
/-- the callers' frames -/
def frs (l : List Env) : List Addr := l.filterMap (·.frame)
abbrev Cx.fs (X : Cx) : List Addr := frs X.outer

def Vis (sc : Scope) (x : Str) : Prop := sc.names.lookup x = some .local ∨ sc.names.lookup x = some .cell ∨ sc.names.lookup x = some .free
def Loc (sc : Scope) (x : Str) : Prop := sc.names.lookup x = some .local ∨ sc.names.lookup x = some .cell
def Look (env : Env) (h : Heap) (m : Str → Option Value) (x : Str) (u : Value) : Prop :=
  (env.kindOf x = some .local ∧ m x = some u) ∨ ((env.kindOf x = some .cell ∨ env.kindOf x = some .free) ∧ ∃ c, env.cells.lookup x = some c ∧ h.IsCell c (some u))

structure Cx.Ok (X : Cx) : Prop where
  mod : Mod X.K X.mg X.base
  kind : X.env.scope.kind = .function
  glob : X.env.globals = mainGlobals
  blt : X.env.builtins = builtinsNs
  above : X.s₀.heap.objs.size ≤ X.env.locals
  inj : ∀ x y c, X.env.cells.lookup x = some c → X.env.cells.lookup y = some c → x = y
  has : ∀ x, (X.env.kindOf x = some .cell ∨ X.env.kindOf x = some .free) → ∃ c, X.env.cells.lookup x = some c
  cab : ∀ x c, X.fn x = true → X.env.cells.lookup x = some c → X.s₀.heap.objs.size ≤ c
  hd : X.calm = true → X.A.handled = none
  frames : X.A.frames = some X.stack
  stk : X.stack = X.outer ∨ (X.stack = X.env :: X.outer ∧ X.env.frame = some X.env.locals)
  exf : ∀ b ∈ X.ex, b ≠ X.env.locals ∧ ∀ x c, X.env.cells.lookup x = some c → c ≠ b
  bs : ∀ b o, X.base.get? b = some o → X.s₀.heap.get? b = some o ∧ X.H₀ b = none
  bsz : X.base.objs.size ≤ X.s₀.heap.objs.size
  noex : ∀ b o, X.base.get? b = some o → b ∉ X.ex
  exfs : ∀ b ∈ X.ex, b ∉ X.fs
  funs : X.s₀.heap.FunFrames X.base X.outer
  frf : ∀ b ∈ X.fs, X.H₀ b = none

structure Inv (X : Cx) (pins : List (Addr × Obj)) (σ : List (Option V)) (H : Hp) (s : Shared) : Prop where
  ok : X.Ok
  os : s.os = X.s₀.os
  bare : AllBare s.gens
  base : Un X.fs X.ex X.H₀ H X.s₀.heap s.heap
  loc : ∃ m, s.heap.Ns X.env.locals m ∧ ∀ (i : Nat) (x : Str) (v : V), X.N[i]? = some x → σ[i]? = some (some v) → Vis X.env.scope x → ∃ u, RelV v u ∧ Look X.env s.heap m x u
  cell : ∀ x c, X.env.cells.lookup x = some c → ∃ v, s.heap.IsCell c v
  free : H X.env.locals = none
  freeC : ∀ x c, X.env.cells.lookup x = some c → H c = none
  pin : ∀ p ∈ X.pn ++ pins, s.heap.get? p.1 = some p.2 ∧ H p.1 = none ∧ p.1 ≠ X.env.locals ∧ p.1 ∉ X.fs ∧ ∀ v, p.2.data ≠ .cell v
  hok : HOk X.prog X.w H s.heap
  len : σ.length = X.N.length

section
variable {X : Cx} {pins : List (Addr × Obj)} {σ : List (Option V)} {H H' : Hp} {s : Shared} {h' : Heap}

theorem Cx.Ok.nofr (ok : X.Ok) {b : Addr} {o : Obj} (e : X.base.get? b = some o) : b ∉ X.fs := fun hb => by
  have := (ok.funs.mem hb).1
  rw [e] at this; cases this
theorem Inv.bs (I : Inv X pins σ H s) : ∀ b o, X.base.get? b = some o → s.heap.get? b = some o ∧ H b = none := fun b o e =>
  ⟨I.base.keep b o (I.ok.bs b o e).1 (I.ok.bs b o e).2 (I.ok.nofr e) (I.ok.noex b o e), I.base.free b o (I.ok.bs b o e).1 (I.ok.bs b o e).2 (I.ok.noex b o e)⟩
theorem Inv.bk (I : Inv X pins σ H s) : ∀ b o, X.base.get? b = some o → s.heap.get? b = some o := fun b o e => (I.bs b o e).1
theorem Inv.mod (I : Inv X pins σ H s) : Mod X.K X.mg X.base := I.ok.mod
theorem Inv.kIn (I : Inv X pins σ H s) : X.K.In s.heap := I.ok.mod.kin.keeps I.bk
theorem Inv.nolimit (I : Inv X pins σ H s) : s.heap.NoLimit := I.ok.mod.nolimit.keeps I.bk
/-- the frame over the base: for OpenK's rules (K.In X.base is I.mod.kin) -/
theorem Inv.fr (I : Inv X pins σ H s) : ∃ m, Fr X.base X.env.locals s.heap m :=
  let ⟨m, hn, _⟩ := I.loc
  ⟨m, hn, I.bk, Nat.le_trans I.ok.bsz I.ok.above⟩
theorem Inv.lt (I : Inv X pins σ H s) : X.env.locals < s.heap.objs.size := let ⟨_, hn, _⟩ := I.loc; hn.lt
theorem Inv.sz (I : Inv X pins σ H s) : X.s₀.heap.objs.size ≤ s.heap.objs.size := Nat.le_trans I.ok.above (Nat.le_of_lt I.lt)
theorem Inv.nofs (I : Inv X pins σ H s) {a : Addr} (h : s.heap.objs.size ≤ a) : a ∉ X.fs := fun hb => by
  obtain ⟨_, o, ho, _⟩ := I.ok.funs.mem hb
  exact absurd (Nat.lt_of_lt_of_le (Heap.lt_size ho) (Nat.le_trans I.sz h)) (Nat.lt_irrefl _)
theorem Inv.cne (I : Inv X pins σ H s) : ∀ x c, X.env.cells.lookup x = some c → c ≠ X.env.locals := fun x c e z => by
  obtain ⟨v, o, ho, hd⟩ := I.cell x c e
  obtain ⟨m, ⟨o', es, ep, ho', hd', _⟩, _⟩ := I.loc
  rw [z, ho'] at ho; cases ho; rw [hd'] at hd; cases hd
theorem Inv.funs (I : Inv X pins σ H s) : s.heap.FunFrames X.base X.outer := by
  have all : ∀ (l : List Env), (∀ b ∈ frs l, b ∈ X.fs) → X.s₀.heap.FunFrames X.base l → s.heap.FunFrames X.base l := by
    intro l
    induction l with
    | nil => intro _ _; trivial
    | cons env r ih =>
      intro hs hl
      obtain ⟨hk, ⟨L, o, hf, hn, ho, hd⟩, hr⟩ := hl
      have hL : L ∈ X.fs := hs L (by unfold frs; rw [List.filterMap_cons, hf]; exact List.mem_cons_self)
      obtain ⟨sl, e⟩ := I.base.slot L o ho (I.ok.frf L hL) hL fun z => I.ok.exfs L z hL
      exact ⟨hk, ⟨L, _, hf, hn, e, hd⟩, ih (fun b hb => hs b (by unfold frs; rw [List.filterMap_cons, hf]; exact List.mem_cons_of_mem _ hb)) hr⟩
  exact all X.outer (fun _ hb => hb) I.ok.funs

/-- the frames that run, for a call -/
theorem Inv.stack (I : Inv X pins σ H s) : s.heap.FunFrames X.base X.stack := by
  rcases I.ok.stk with e | ⟨e, hf⟩
  · rw [e]; exact I.funs
  · rw [e]
    obtain ⟨m, hn, _⟩ := I.loc
    refine .cons (by rw [I.ok.kind]; decide) hf hn ?_ I.funs
    exact Heap.get?_none_of_le (Nat.le_trans I.ok.bsz I.ok.above)
theorem Inv.stkSub (I : Inv X pins σ H s) : ∀ b ∈ frs X.stack, b ∈ X.env.locals :: X.fs := fun b hb => by
  rcases I.ok.stk with e | ⟨e, hf⟩
  · rw [e] at hb; exact List.mem_cons_of_mem _ hb
  · rw [e] at hb
    unfold frs at hb
    rw [List.filterMap_cons, hf] at hb
    exact hb
theorem Inv.stkFree (I : Inv X pins σ H s) : ∀ b ∈ frs X.stack, H b = none := fun b hb => by
  rcases List.mem_cons.mp (I.stkSub b hb) with e | hb
  · rw [e]; exact I.free
  · obtain ⟨_, o, ho, _⟩ := I.ok.funs.mem hb
    exact I.base.free b o ho (I.ok.frf b hb) fun z => I.ok.exfs b z hb

/-- THE STEP: the untracked objects but the frame and the records at ch are kept (the callers' frames up to slots), the frame's map is kept, the new abstract heap is held -/
theorem Inv.step {g' : Array GenState} {t' : Nat} {d' : Drawn} {ch : List Addr} (I : Inv X pins σ H s)
    (hch : ∀ b ∈ ch, (b ∈ X.ex ∨ X.s₀.heap.objs.size ≤ b) ∧ b ≠ X.env.locals ∧ (∀ x c, X.env.cells.lookup x = some c → c ≠ b) ∧ ∀ p ∈ X.pn ++ pins, p.1 ≠ b)
    (keep : ∀ b o, b ≠ X.env.locals → b ∉ X.fs → b ∉ ch → s.heap.get? b = some o → H b = none → h'.get? b = some o)
    (slot : ∀ b o, b ≠ X.env.locals → b ∈ X.fs → b ∉ ch → s.heap.get? b = some o → H b = none → ∃ sl, h'.get? b = some { o with slots := sl }) (free : ∀ b o, b ∉ ch → s.heap.get? b = some o → H b = none → H' b = none)
    (there : ∀ b o, b ∉ ch → s.heap.get? b = some o → ∃ o', h'.get? b = some o')
    (tups : ∀ b xs, H b = some (.tup xs) → H' b = some (.tup xs)) (frzs : ∀ b o u, H b = some (.frz o u) → H' b = some (.frz o u)) (tbls : ∀ b ps, H b = some (.tbl ps) → ∃ more, H' b = some (.tbl (ps ++ more)))
    (ns : ∀ m, s.heap.Ns X.env.locals m → h'.Ns X.env.locals m) (hok : HOk X.prog X.w H' h') (hg : AllBare g') :
    Inv X pins σ H' { s with heap := h', gens := g', drawn := d', toks := t' } := by
  have neL : ∀ b o, X.s₀.heap.get? b = some o → b ≠ X.env.locals := fun b o e => Nat.ne_of_lt (Nat.lt_of_lt_of_le (Heap.lt_size e) I.ok.above)
  have neC : ∀ b o, X.s₀.heap.get? b = some o → b ∉ X.ex → b ∉ ch := fun b o e hx hb => by
    rcases (hch b hb).1 with z | z
    · exact hx z
    · exact absurd (Nat.lt_of_lt_of_le (Heap.lt_size e) z) (Nat.lt_irrefl _)
  have cellK : ∀ x c, X.env.cells.lookup x = some c → ∀ v, s.heap.IsCell c v → h'.IsCell c v := fun x c e v ⟨o, ho, hd⟩ => by
    have nch : c ∉ ch := fun z => (hch c z).2.2.1 x c e rfl
    by_cases hc : c ∈ X.fs
    · obtain ⟨sl, q⟩ := slot c o (I.cne x c e) hc nch ho (I.freeC x c e)
      exact ⟨_, q, hd⟩
    · exact ⟨o, keep c o (I.cne x c e) hc nch ho (I.freeC x c e), hd⟩
  refine ⟨I.ok, I.os, hg, ⟨fun b o e n hb hx => ?_, fun b o e n hb hx => ?_, fun b o e n hx => ?_, fun b o e hx => ?_, fun b xs e => tups b xs (I.base.tups b xs e), fun b o xs e => frzs b o xs (I.base.frzs b o xs e), fun b ps e => ?_⟩, ?_, fun x c e => ?_, ?_, fun x c e => ?_, fun p hp => ?_, hok, I.len⟩
  · exact keep b o (neL b o e) hb (neC b o e hx) (I.base.keep b o e n hb hx) (I.base.free b o e n hx)
  · obtain ⟨sl, e1⟩ := I.base.slot b o e n hb hx
    obtain ⟨sl', e2⟩ := slot b _ (neL b o e) hb (neC b o e hx) e1 (I.base.free b o e n hx)
    exact ⟨sl', e2⟩
  · obtain ⟨o', e1⟩ := I.base.there b o e hx
    exact free b o' (neC b o e hx) e1 (I.base.free b o e n hx)
  · obtain ⟨o', e1⟩ := I.base.there b o e hx
    exact there b o' (neC b o e hx) e1
  · obtain ⟨m1, e1⟩ := I.base.tbls b ps e
    obtain ⟨m2, e2⟩ := tbls b _ e1
    exact ⟨m1 ++ m2, by rw [e2, Array.append_assoc]⟩
  · obtain ⟨m, hn, hl⟩ := I.loc
    refine ⟨m, ns m hn, fun i x v e1 e2 e3 => ?_⟩
    obtain ⟨u, r, l⟩ := hl i x v e1 e2 e3
    refine ⟨u, r, ?_⟩
    rcases l with l | ⟨k, c, e, z⟩
    · exact .inl l
    · exact .inr ⟨k, c, e, cellK x c e _ z⟩
  · obtain ⟨v, z⟩ := I.cell x c e
    exact ⟨v, cellK x c e v z⟩
  · obtain ⟨m, ⟨o, _, _, ho, _⟩, _⟩ := I.loc
    exact free _ o (fun z => (hch _ z).2.1 rfl) ho I.free
  · obtain ⟨v, o, ho, hd⟩ := I.cell x c e
    exact free c o (fun z => (hch c z).2.2.1 x c e rfl) ho (I.freeC x c e)
  · obtain ⟨e, n, ne, nf, d⟩ := I.pin p hp
    have nch : p.1 ∉ ch := fun z => (hch p.1 z).2.2.2 p hp rfl
    exact ⟨keep p.1 p.2 ne nf nch e n, free p.1 p.2 nch e n, ne, nf, d⟩
/-- .. where the frame's own object is kept too -/
theorem Inv.un {t' : Nat} (I : Inv X pins σ H s) (u : Un X.fs [] H H' s.heap h') (hok : HOk X.prog X.w H' h') : Inv X pins σ H' { s with heap := h', toks := t' } := by
  obtain ⟨m, ⟨o, es, ep, ho, r⟩, _⟩ := id I.loc
  obtain ⟨sl, hL⟩ := u.any ho I.free (by simp)
  exact I.step (g' := s.gens) (d' := s.drawn) (ch := []) (fun _ z => nomatch z) (fun b o _ hb _ e n => u.keep b o e n hb (by simp)) (fun b o _ hb _ e n => u.slot b o e n hb (by simp)) (fun b o _ e n => u.free b o e n (by simp)) (fun b o _ e => u.there b o e (by simp)) u.tups u.frzs u.tbls (fun m' hm => by
    obtain ⟨o', es', ep', ho', r'⟩ := hm
    rw [ho] at ho'; cases ho'
    exact ⟨_, es', ep', hL, r'⟩) hok I.bare
/-- behind a call (or a comprehension's block): the slots of this frame may have changed too, the records at ch may have turned -/
theorem Inv.call {g' : Array GenState} {t' : Nat} {d' : Drawn} {ch : List Addr} (I : Inv X pins σ H s) (u : Un (frs X.stack) ch H H' s.heap h') (hok : HOk X.prog X.w H' h') (hg : AllBare g')
    (hch : ∀ b ∈ ch, (b ∈ X.ex ∨ X.s₀.heap.objs.size ≤ b) ∧ b ≠ X.env.locals ∧ (∀ x c, X.env.cells.lookup x = some c → c ≠ b) ∧ ∀ p ∈ X.pn ++ pins, p.1 ≠ b) :
    Inv X pins σ H' { s with heap := h', gens := g', drawn := d', toks := t' } := by
  obtain ⟨m, ⟨o, es, ep, ho, r⟩, _⟩ := id I.loc
  obtain ⟨sl, hL⟩ := u.any ho I.free fun z => (hch _ z).2.1 rfl
  exact I.step (ch := ch) hch (fun b o hL hb hc e n => u.keep b o e n (fun z => (List.mem_cons.mp (I.stkSub b z)).elim hL hb) hc) (fun b o _ _ hc e n => u.any e n hc) (fun b o hc e n => u.free b o e n hc) (fun b o hc e => u.there b o e hc) u.tups u.frzs u.tbls (fun m' hm => by
    obtain ⟨o', es', ep', ho', r'⟩ := hm
    rw [ho] at ho'; cases ho'
    exact ⟨_, es', ep', hL, r'⟩) hok hg
/-- an untracked record of ours (an iterator) has turned -/
theorem Inv.turned {t' : Nat} {it : Addr} (I : Inv X pins σ H s) (k : ∀ b o, b ≠ it → s.heap.get? b = some o → h'.get? b = some o) (hn : H it = none) (hL : it ≠ X.env.locals)
    (h1 : it ∈ X.ex ∨ X.s₀.heap.objs.size ≤ it) (h2 : ∀ x c, X.env.cells.lookup x = some c → c ≠ it) (h3 : ∀ p ∈ X.pn ++ pins, p.1 ≠ it) : Inv X pins σ H { s with heap := h', toks := t' } := by
  have nit : ∀ b u, H b = some u → b ≠ it := fun b u e z => by rw [z, hn] at e; cases e
  refine I.step (g' := s.gens) (d' := s.drawn) (ch := [it]) (fun b hb => ?_) (fun b o _ _ hc e _ => k b o (fun z => hc (by simp [z])) e) (fun b o _ _ hc e _ => ⟨o.slots, k b o (fun z => hc (by simp [z])) e⟩) (fun _ _ _ _ n => n)
    (fun b o hc e => ⟨o, k b o (fun z => hc (by simp [z])) e⟩) (fun _ _ e => e) (fun _ _ _ e => e) (fun b ps e => ⟨#[], by rw [e]; simp⟩) (fun m hm => ?_) (fun b u e => ?_) I.bare
  · have e : b = it := by simpa using hb
    subst e
    exact ⟨h1, hL, h2, h3⟩
  · obtain ⟨o, es, ep, ho, r⟩ := hm
    exact ⟨o, es, ep, k _ o (Ne.symm hL) ho, r⟩
  · refine (I.hok b u e).stay (fun c v hc q => k c v ?_ q) (fun _ q => q) fun _ _ q => q
    rcases hc with z | z
    · rw [z]; exact nit b u e
    · exact nit c _ z
theorem Inv.tok (I : Inv X pins σ H s) (t : Nat) : Inv X pins σ H { s with toks := t } := I.un (h' := s.heap) (t' := t) Un.refl I.hok
/-- all objects kept -/
theorem Inv.kept {t' : Nat} (I : Inv X pins σ H s) (k : ∀ b u, s.heap.get? b = some u → h'.get? b = some u) : Inv X pins σ H { s with heap := h', toks := t' } := I.un (Un.kept k) (I.hok.kept k)
/-- a new object laid and tracked -/
theorem Inv.laid {a : Addr} {o : HO} {t' : Nat} (I : Inv X pins σ H s) (k : ∀ b u, s.heap.get? b = some u → h'.get? b = some u) (hp : s.heap.objs.size ≤ a) (new : ObjOk X.prog X.w (upd H a o) h' a o) :
    Inv X pins σ (upd H a o) { s with heap := h', toks := t' } := I.un (Un.laid k hp (I.hok.fresh hp)) (I.hok.laid k hp new)
/-- an object written -/
theorem Inv.write {x e : Addr} {o : HO} {t' : Nat} (I : Inv X pins σ H s) (mu : Mut (H x)) (he : e = x ∨ H e = some (.own x)) (k : ∀ b u, b ≠ e → s.heap.get? b = some u → h'.get? b = some u) (heo : ∃ u, h'.get? e = some u)
    (new : ObjOk X.prog X.w (upd H x o) h' x o) : Inv X pins σ (upd H x o) { s with heap := h', toks := t' } := I.un (Un.write mu he k heo) (I.hok.write mu he k heo new)
/-- forgetting slots, pins -/
theorem Inv.weak {σ' : List (Option V)} (I : Inv X pins σ H s) (hl : σ'.length = σ.length) (w : ∀ (i : Nat) v, σ'[i]? = some (some v) → σ[i]? = some (some v)) : Inv X pins σ' H s :=
  ⟨I.ok, I.os, I.bare, I.base, let ⟨m, hn, hl'⟩ := I.loc; ⟨m, hn, fun i x v e1 e2 e3 => hl' i x v e1 (w i v e2) e3⟩, I.cell, I.free, I.freeC, I.pin, I.hok, hl.trans I.len⟩
theorem Inv.pins_of {pins' : List (Addr × Obj)} (I : Inv X pins σ H s) (h : ∀ p ∈ pins', s.heap.get? p.1 = some p.2 ∧ H p.1 = none ∧ p.1 ≠ X.env.locals ∧ p.1 ∉ X.fs ∧ ∀ v, p.2.data ≠ .cell v) : Inv X pins' σ H s :=
  ⟨I.ok, I.os, I.bare, I.base, I.loc, I.cell, I.free, I.freeC, fun p hp => (List.mem_append.mp hp).elim (fun z => I.pin p (List.mem_append_left _ z)) (h p), I.hok, I.len⟩

theorem nodup_ix {N : List Str} (hN : N.Nodup) {i j : Nat} {x : Str} (a : N[i]? = some x) (b : N[j]? = some x) : i = j := by
  obtain ⟨h1, e1⟩ := List.getElem?_eq_some_iff.mp a
  obtain ⟨h2, e2⟩ := List.getElem?_eq_some_iff.mp b
  exact (List.getElem_inj hN).mp (e1.trans e2.symm)

/-- a name is stored; what changed -/
theorem store_ok2 {M : Model} {A : Around} {E : Value → Shared → Prop} {i : Nat} {x : Str} {v : V} {u : Value} {Q : Unit → Shared → Prop} (I : Inv X pins σ H s) (hN : X.N.Nodup) (hi : X.N[i]? = some x) (hx : Loc X.env.scope x) (r : RelV v u)
    (h : ∀ s', Inv X pins (σ.set i (some v)) H s' → (∃ a, Heap.SameBut a s.heap s'.heap ∧ (a = X.env.locals ∨ X.env.cells.lookup x = some a)) → Q () s') (hf : X.fn x = true ∨ X.env.scope.names.lookup x = some .local := by first | exact .inl rfl | exact .inr rfl | assumption) : wpAny M A (storeName X.env x u) Q E s := by
  obtain ⟨m, hn, hl⟩ := id I.loc
  have hcls : (X.env.scope.kind == .class || (X.env.scope.kind == .module && X.env.locals != X.env.globals)) = false := by rw [I.ok.kind]; rfl
  have hiσ : i < σ.length := by rw [I.len]; exact (List.getElem?_eq_some_iff.mp hi).1
  have cne := I.cne
  have tracked : ∀ {a : Addr} {h' : Heap}, (∃ o, s.heap.get? a = some o ∧ H a = none) → Heap.SameBut a s.heap h' → HOk X.prog X.w H h' := fun {a h'} ha hs b ob e => by
    obtain ⟨_, _, hfree⟩ := ha
    refine (I.hok b ob e).stay (fun c w' hc q => (hs.2 c ?_).trans q) (fun _ q => q) fun _ _ q => q
    rintro rfl
    rcases hc with rfl | hc
    · rw [hfree] at e; cases e
    · rw [hfree] at hc; cases hc
  rcases hx with hk | hk
  · refine wpAny_storeName_local hk hn (fun h' hn' hs => ?_) hcls
    obtain ⟨oL, _, _, hoL, _⟩ := id hn
    refine h _ ⟨I.ok, I.os, I.bare, ⟨fun b o e n hb hx => ?_, fun b o e n hb hx => ?_, I.base.free, fun b o e hx => ?_, I.base.tups, I.base.frzs, I.base.tbls⟩, ⟨_, hn', fun j y v' e1 e2 e3 => ?_⟩, fun y c e => ?_, I.free, I.freeC, fun p hp => ?_, tracked ⟨oL, hoL, I.free⟩ hs, by simpa using I.len⟩ ⟨_, hs, .inl rfl⟩
    · exact (hs.2 b (Nat.ne_of_lt (Nat.lt_of_lt_of_le (Heap.lt_size e) I.ok.above))).trans (I.base.keep b o e n hb hx)
    · obtain ⟨sl, e1⟩ := I.base.slot b o e n hb hx
      exact ⟨sl, (hs.2 b (Nat.ne_of_lt (Nat.lt_of_lt_of_le (Heap.lt_size e) I.ok.above))).trans e1⟩
    · obtain ⟨o', e1⟩ := I.base.there b o e hx
      exact ⟨o', (hs.2 b (Nat.ne_of_lt (Nat.lt_of_lt_of_le (Heap.lt_size e) I.ok.above))).trans e1⟩
    · by_cases hj : j = i
      · subst hj
        rw [hi] at e1; cases e1
        rw [List.getElem?_set_self hiσ] at e2
        cases e2
        exact ⟨u, r, .inl ⟨hk, by simp⟩⟩
      · rw [List.getElem?_set_ne (Ne.symm hj)] at e2
        obtain ⟨u', r', q⟩ := hl j y v' e1 e2 e3
        refine ⟨u', r', ?_⟩
        rcases q with ⟨k, e⟩ | ⟨k, c, e, z⟩
        · refine .inl ⟨k, ?_⟩
          have : y ≠ x := fun e => hj (nodup_ix hN e1 (e ▸ hi))
          simp [this, e]
        · exact .inr ⟨k, c, e, z.sameBut hs (cne y c e)⟩
    · obtain ⟨w', z⟩ := I.cell y c e
      exact ⟨w', z.sameBut hs (cne y c e)⟩
    · obtain ⟨e, n, ne, nf, d⟩ := I.pin p hp
      exact ⟨(hs.2 p.1 ne).trans e, n, ne, nf, d⟩
  · have hfn : X.fn x = true := by
      rcases hf with z | z
      · exact z
      · rw [z] at hk; cases hk
    obtain ⟨c, hc⟩ := I.ok.has x (.inl hk)
    obtain ⟨w', z⟩ := I.cell x c hc
    refine wpAny_storeName_cell I.ok.kind hk hc z (fun h' hc' hs => ?_)
    obtain ⟨oc, hoc, hocd⟩ := id z
    refine h { s with heap := h' } ⟨I.ok, I.os, I.bare, ⟨fun b o e n hb hx => ?_, fun b o e n hb hx => ?_, I.base.free, fun b o e hx => ?_, I.base.tups, I.base.frzs, I.base.tbls⟩, ⟨m, hn.sameBut hs (Ne.symm (cne x c hc)), fun j y v' e1 e2 e3 => ?_⟩, fun y c' e => ?_, I.free, I.freeC, fun p hp => ?_, tracked ⟨oc, hoc, I.freeC x c hc⟩ hs, by simpa using I.len⟩ ⟨c, hs, .inr hc⟩
    · exact (hs.2 b (Nat.ne_of_lt (Nat.lt_of_lt_of_le (Heap.lt_size e) (I.ok.cab x c hfn hc)))).trans (I.base.keep b o e n hb hx)
    · obtain ⟨sl, e1⟩ := I.base.slot b o e n hb hx
      exact ⟨sl, (hs.2 b (Nat.ne_of_lt (Nat.lt_of_lt_of_le (Heap.lt_size e) (I.ok.cab x c hfn hc)))).trans e1⟩
    · obtain ⟨o', e1⟩ := I.base.there b o e hx
      exact ⟨o', (hs.2 b (Nat.ne_of_lt (Nat.lt_of_lt_of_le (Heap.lt_size e) (I.ok.cab x c hfn hc)))).trans e1⟩
    · by_cases hj : j = i
      · subst hj
        rw [hi] at e1; cases e1
        rw [List.getElem?_set_self hiσ] at e2
        cases e2
        exact ⟨u, r, .inr ⟨.inl hk, c, hc, hc'⟩⟩
      · rw [List.getElem?_set_ne (Ne.symm hj)] at e2
        obtain ⟨u', r', q⟩ := hl j y v' e1 e2 e3
        refine ⟨u', r', ?_⟩
        rcases q with q | ⟨k, c', e, z'⟩
        · exact .inl q
        · refine .inr ⟨k, c', e, z'.sameBut hs ?_⟩
          rintro rfl
          exact hj (nodup_ix hN e1 (I.ok.inj _ _ _ e hc ▸ hi))
    · by_cases hcc : c' = c
      · subst hcc; exact ⟨_, hc'⟩
      · obtain ⟨w2, z2⟩ := I.cell y c' e
        exact ⟨w2, z2.sameBut hs hcc⟩
    · obtain ⟨e, n, ne, nf, d⟩ := I.pin p hp
      refine ⟨(hs.2 p.1 ?_).trans e, n, ne, nf, d⟩
      intro q
      rw [q, hoc] at e
      have q' : oc = p.2 := Option.some.inj e
      exact d w' (by rw [← q']; exact hocd)
theorem store_ok {M : Model} {A : Around} {E : Value → Shared → Prop} {i : Nat} {x : Str} {v : V} {u : Value} {Q : Unit → Shared → Prop} (I : Inv X pins σ H s) (hN : X.N.Nodup) (hi : X.N[i]? = some x) (hx : Loc X.env.scope x) (r : RelV v u)
    (h : ∀ s', Inv X pins (σ.set i (some v)) H s' → Q () s') (hf : X.fn x = true ∨ X.env.scope.names.lookup x = some .local := by first | exact .inl rfl | exact .inr rfl | assumption) : wpAny M A (storeName X.env x u) Q E s :=
  store_ok2 I hN hi hx r (fun s' I' _ => h s' I') hf
/-- behind a call or a block, the state as it is -/
theorem Inv.call' {s' : Shared} {ch : List Addr} (I : Inv X pins σ H s) (ho : s'.os = s.os) (u : Un (frs X.stack) ch H H' s.heap s'.heap) (hok : HOk X.prog X.w H' s'.heap) (hg : AllBare s'.gens)
    (hch : ∀ b ∈ ch, (b ∈ X.ex ∨ X.s₀.heap.objs.size ≤ b) ∧ b ≠ X.env.locals ∧ (∀ x c, X.env.cells.lookup x = some c → c ≠ b) ∧ ∀ p ∈ X.pn ++ pins, p.1 ≠ b) : Inv X pins σ H' s' := by
  obtain ⟨h', g', d', t', o'⟩ := s'
  have e : o' = s.os := ho
  subst e
  exact I.call (g' := g') (t' := t') (d' := d') u hok hg hch
end

/-! ### the judgements -/
/-- an exception: its class, its own dict's address (where it has one), the abstract heap behind it -/
abbrev XK := Value → Option Addr → Hp → Prop
abbrev St := List (Option V)
abbrev VK := V → Hp → Prop
/-- an expression's reading; a test's; an argument list's -/
abbrev TE := St → Hp → VK → Prop
abbrev TT := St → Hp → (Bool → Hp → Prop) → Prop
abbrev TA := St → Hp → (List V → Hp → Prop) → Prop
/-- what is wanted behind a statement -/
structure Ends where
  nx : St → Hp → Prop
  rt : VK
  bk : St → Hp → Prop := fun _ _ => False
  ct : St → Hp → Prop := fun _ _ => False
abbrev TS := Ends → St → Hp → Prop

def EP (X : Cx) (pins : List (Addr × Obj)) (σ : St) (Q : VK) (u : Value) (s' : Shared) : Prop := ∃ v H', Inv X pins σ H' s' ∧ RelV v u ∧ Q v H'
def TP (X : Cx) (pins : List (Addr × Obj)) (σ : St) (Q : Bool → Hp → Prop) (b : Bool) (s' : Shared) : Prop := ∃ H', Inv X pins σ H' s' ∧ Q b H'
def AP (X : Cx) (pins : List (Addr × Obj)) (σ : St) (Q : List V → Hp → Prop) (us : List Value) (s' : Shared) : Prop := ∃ vs H', Inv X pins σ H' s' ∧ Vals vs us ∧ Q vs H'
def SP (X : Cx) (pins : List (Addr × Obj)) (D : Ends) (f : Flow) (s' : Shared) : Prop :=
  match f with
  | .next => ∃ σ' H', Inv X pins σ' H' s' ∧ D.nx σ' H'
  | .brk => ∃ σ' H', Inv X pins σ' H' s' ∧ D.bk σ' H'
  | .cont => ∃ σ' H', Inv X pins σ' H' s' ∧ D.ct σ' H'
  | .ret u => ∃ v σ' H', Inv X pins σ' H' s' ∧ RelV v u ∧ D.rt v H'

def PE (X : Cx) (e : Expr) (t : TE) : Prop :=
  ∀ (pins : List (Addr × Obj)) (s : Shared) (σ : St) (H : Hp) (Q : VK), Inv X pins σ H s → t σ H Q → wpAny (model X.prog X.w) X.A (eval e X.env) (EP X pins σ Q) X.xe s
def PT (X : Cx) (e : Expr) (t : TT) : Prop :=
  ∀ (pins : List (Addr × Obj)) (s : Shared) (σ : St) (H : Hp) (Q : Bool → Hp → Prop), Inv X pins σ H s → t σ H Q → wpAny (model X.prog X.w) X.A (isTrue e X.env (eval e X.env)) (TP X pins σ Q) X.xe s
/-- a test whatever its 'whole' is (and, or) -/
def PW (X : Cx) (e : Expr) (t : TT) : Prop :=
  ∀ (whole : Sem Value) (pins : List (Addr × Obj)) (s : Shared) (σ : St) (H : Hp) (Q : Bool → Hp → Prop), Inv X pins σ H s → t σ H Q → wpAny (model X.prog X.w) X.A (isTrue e X.env whole) (TP X pins σ Q) X.xe s
theorem PW.pt {X : Cx} {e : Expr} {t : TT} (h : PW X e t) : PT X e t := h _
/-- an argument list (no star), from the left -/
def PA (X : Cx) (es : List Expr) (t : TA) : Prop :=
  ∀ (pos : Pos) (pins : List (Addr × Obj)) (s : Shared) (σ : St) (H : Hp) (Q : List V → Hp → Prop), Inv X pins σ H s → t σ H Q → wpAny (model X.prog X.w) X.A (spliced (backTo pos (starEach es X.env))) (AP X pins σ Q) X.xe s
def PS (X : Cx) (st : Stmt) (t : TS) : Prop :=
  ∀ (pins : List (Addr × Obj)) (s : Shared) (σ : St) (H : Hp) (D : Ends), Inv X pins σ H s → t D σ H → wpAny (model X.prog X.w) X.A (exec st X.env) (SP X pins D) X.xe s
def PSs (X : Cx) (st : List Stmt) (t : TS) : Prop :=
  ∀ (pins : List (Addr × Obj)) (s : Shared) (σ : St) (H : Hp) (D : Ends), Inv X pins σ H s → t D σ H → wpAny (model X.prog X.w) X.A (execs st X.env) (SP X pins D) X.xe s
/-- weaken the end -/
theorem thn {α : Type} {t : Sem α} {Q Q' : α → Shared → Prop} {M : Model} {A : Around} {E : Value → Shared → Prop} {s : Shared} (h : wpAny M A t Q E s) (hQ : ∀ a s, Q a s → Q' a s) : wpAny M A t Q' E s := wpAny_mono h hQ fun _ _ x => x
end L2

namespace L2
open PySem PySem.Spec PyProof.Rows
section
variable {X : Cx}

/-- two expressions in a row -/
theorem bin {a b : Expr} {ta tb : TE} (ha : PE X a ta) (hb : PE X b tb) {pins : List (Addr × Obj)} {s : Shared} {σ : St} {H : Hp} {R : V → V → Hp → Prop} (I : Inv X pins σ H s) (h : ta σ H fun x H1 => tb σ H1 fun y H2 => R x y H2)
    {α : Type} {Q : α → Shared → Prop} {f : Value → Value → Sem α}
    (hf : ∀ v u s2 x y H2, Inv X pins σ H2 s2 → RelV x v → RelV y u → R x y H2 → wpAny (model X.prog X.w) X.A (f v u) Q X.xe s2) :
    wpAny (model X.prog X.w) X.A (eval a X.env) (fun v s₁ => wpAny (model X.prog X.w) X.A (eval b X.env) (fun u s₂ => wpAny (model X.prog X.w) X.A (f v u) Q X.xe s₂) X.xe s₁) X.xe s := by
  refine thn (ha pins s σ H _ I h) fun v s1 ⟨x, H1, I1, r1, q1⟩ => ?_
  refine thn (hb pins s1 σ H1 _ I1 q1) fun u s2 ⟨y, H2, I2, r2, q2⟩ => ?_
  exact hf v u s2 x y H2 I2 r1 r2 q2

/-! ### names and constants -/
def tVar (i : Nat) : TE := fun σ H Q => ∃ v, σ[i]? = some (some v) ∧ Q v H
def tC (v : V) : TE := fun _ H Q => Q v H
theorem pe_var {i : Nat} {x : Str} {pos : Pos} (hN : X.N[i]? = some x) (hv : Vis X.env.scope x) (hd : (x == ("__debug__" : Str)) = false := by decide) (hcd : (x == ("__classdict__" : Str)) = false := by decide) : PE X (.Name x pos) (tVar i) := by
  intro pins s σ H Q I h
  obtain ⟨v, e, h⟩ := h
  obtain ⟨m, hn, hl⟩ := I.loc
  obtain ⟨u, r, l⟩ := hl i x v hN e hv
  have fin : EP X pins σ Q u s := ⟨v, H, I, r, h⟩
  rcases l with ⟨hk, hm⟩ | ⟨hk, c, hc, hcell⟩
  · exact wpAny_Name (wpAny_loadName_local I.ok.kind hk hn hm fin) hd
  · rcases hk with hk | hk
    · exact wpAny_Name (wpAny_loadName_cell I.ok.kind hk hc hcell fin) hd
    · exact wpAny_Name (wpAny_loadName_free I.ok.kind hk hc hcell fin hcd) hd
theorem pe_int {i j pos} : PE X (.Constant (.int i) j pos) (tC (.int i)) := fun _ _ _ H _ I h => wpAny_Constant_int ⟨.int i, H, I.tok _, ⟨_, rfl⟩, h⟩
theorem pe_bl {b j pos} : PE X (.Constant (.bool b) j pos) (tC (.bl b)) := fun _ _ _ H _ I h => Constant_bool ⟨.bl b, H, I, rfl, h⟩
theorem pe_non {j pos} : PE X (.Constant .none j pos) (tC .non) := fun _ _ _ H _ I h => Constant_none ⟨.non, H, I, rfl, h⟩
theorem pe_str {x j pos} : PE X (.Constant (.str x) j pos) (tC (.str x)) := fun _ _ _ H _ I h => Calls.Constant_str ⟨.str x, H, I.tok _, ⟨_, rfl⟩, h⟩

/-- a global name of the def -/
def Gl (X : Cx) (x : Str) : Prop := X.env.kindOf x = some .globalImplicit
theorem ld_glob {E : Value → Shared → Prop} {pins : List (Addr × Obj)} {s : Shared} {σ : St} {H : Hp} {x : Str} {u : Value} {pos : Pos} {Q : Value → Shared → Prop} (I : Inv X pins σ H s) (hg : Gl X x) (hm : X.mg x = some u) (h : Q u s)
    (hd : (x == ("__debug__" : Str)) = false := by decide) : wpAny (model X.prog X.w) X.A (eval (.Name x pos) X.env) Q E s :=
  Calls.Name_function_global I.ok.kind hg (Calls.loadGlobal_global (by rw [I.ok.glob]; exact I.mod.glob.keeps I.bk) hm h) hd
theorem ld_blt {E : Value → Shared → Prop} {pins : List (Addr × Obj)} {s : Shared} {σ : St} {H : Hp} {x : Str} {u : Value} {pos : Pos} {Q : Value → Shared → Prop} (I : Inv X pins σ H s) (hg : Gl X x) (hm : X.mg x = none) (hv : bootBuiltins x = some u) (h : Q u s)
    (hn : x ≠ "__name__" := by decide) (hd : (x == ("__debug__" : Str)) = false := by decide) : wpAny (model X.prog X.w) X.A (eval (.Name x pos) X.env) Q E s := by
  obtain ⟨mb, h1, h2⟩ := I.mod.blt
  exact Calls.Name_function_global I.ok.kind hg (Calls.loadGlobal_builtin (by rw [I.ok.glob]; exact I.mod.glob.keeps I.bk) hm (by rw [I.ok.blt]; exact h1.keeps I.bk) ((h2 x hn).trans hv) h) hd
/-- a module's constant, a class, a function, as a value -/
theorem pe_glob {x : Str} {v : V} {u : Value} {pos : Pos} (hg : Gl X x) (hm : X.mg x = some u) (r : RelV v u) (hd : (x == ("__debug__" : Str)) = false := by decide) : PE X (.Name x pos) (tC v) :=
  fun _ _ _ H _ I h => ld_glob I hg hm ⟨v, H, I, r, h⟩ hd
theorem pe_bltn {x : Str} {v : V} {u : Value} {pos : Pos} (hg : Gl X x) (hm : X.mg x = none) (hv : bootBuiltins x = some u) (r : RelV v u) (hn : x ≠ "__name__" := by decide) (hd : (x == ("__debug__" : Str)) = false := by decide) : PE X (.Name x pos) (tC v) :=
  fun _ _ _ H _ I h => ld_blt I hg hm hv ⟨v, H, I, r, h⟩ hn hd

/-! ### arithmetic -/
/-- two ints -/
def t2I (ta tb : TE) (k : Int → Int → Hp → Prop) : St → Hp → Prop := fun σ H => ta σ H fun x H1 => tb σ H1 fun y H2 => ∃ i j, x = .int i ∧ y = .int j ∧ k i j H2
def tAdd (ta tb : TE) : TE := fun σ H Q => t2I ta tb (fun i j H2 => Q (.int (i + j)) H2) σ H
def tSub (ta tb : TE) : TE := fun σ H Q => t2I ta tb (fun i j H2 => Q (.int (i - j)) H2) σ H
/-- the left factor below 2^64 -/
def tMul (ta tb : TE) : TE := fun σ H Q => t2I ta tb (fun i j H2 => (-(2 ^ 64) < i ∧ i < 2 ^ 64) ∧ Q (.int (i * j)) H2) σ H
variable {a b : Expr} {ta tb : TE} {pos : Pos}
theorem pe_add (ha : PE X a ta) (hb : PE X b tb) : PE X (.BinOp a .Add b pos) (tAdd ta tb) := by
  intro pins s σ H Q I h
  refine wpAny_BinOp (bin ha hb I h fun v u s2 x y H2 I2 rx ry q => ?_)
  obtain ⟨i, j, rfl, rfl, q⟩ := q
  obtain ⟨t, rfl⟩ := rx
  obtain ⟨t', rfl⟩ := ry
  exact add_int ⟨.int _, H2, I2.tok _, ⟨_, rfl⟩, q⟩
theorem pe_sub (ha : PE X a ta) (hb : PE X b tb) : PE X (.BinOp a .Sub b pos) (tSub ta tb) := by
  intro pins s σ H Q I h
  refine wpAny_BinOp (bin ha hb I h fun v u s2 x y H2 I2 rx ry q => ?_)
  obtain ⟨i, j, rfl, rfl, q⟩ := q
  obtain ⟨t, rfl⟩ := rx
  obtain ⟨t', rfl⟩ := ry
  exact sub_int ⟨.int _, H2, I2.tok _, ⟨_, rfl⟩, q⟩
theorem pe_mul (ha : PE X a ta) (hb : PE X b tb) : PE X (.BinOp a .Mult b pos) (tMul ta tb) := by
  intro pins s σ H Q I h
  refine wpAny_BinOp (bin ha hb I h fun v u s2 x y H2 I2 rx ry q => ?_)
  obtain ⟨i, j, rfl, rfl, ⟨q1, q2⟩, q⟩ := q
  obtain ⟨t, rfl⟩ := rx
  obtain ⟨t', rfl⟩ := ry
  exact mul_int ⟨.int _, H2, I2.tok _, ⟨_, rfl⟩, q⟩ (.of_left (intBits_le_64 q1 q2))

/-! ### comparisons -/
def PC (X : Cx) (op : CmpOp) (a b : Expr) (t : TE) : Prop :=
  ∀ (pins : List (Addr × Obj)) (s : Shared) (σ : St) (H : Hp) (Q : VK), Inv X pins σ H s → t σ H Q →
    wpAny (model X.prog X.w) X.A (eval a X.env) (fun v s₁ => wpAny (model X.prog X.w) X.A (eval b X.env) (fun u s₂ => wpAny (model X.prog X.w) X.A (compareOp op v u) (EP X pins σ Q) X.xe s₂) X.xe s₁) X.xe s
theorem nobehind (b : Expr) {op : CmpOp} (h : op ≠ .In) (h2 : op ≠ .NotIn) : behindInMarks op b = false := by
  have e1 : (op == CmpOp.In) = false := by cases op <;> first | rfl | exact absurd rfl h
  have e2 : (op == CmpOp.NotIn) = false := by cases op <;> first | rfl | exact absurd rfl h2
  cases b <;> simp [behindInMarks, e1, e2]
def tCmp (p : Int → Int → Bool) (ta tb : TE) : TE := fun σ H Q => t2I ta tb (fun i j H2 => Q (.bl (p i j)) H2) σ H
abbrev tLt : TE → TE → TE := tCmp fun i j => decide (i < j)
abbrev tLe : TE → TE → TE := tCmp fun i j => decide (i ≤ j)
abbrev tGt : TE → TE → TE := tCmp fun i j => decide (j < i)
abbrev tGe : TE → TE → TE := tCmp fun i j => decide (j ≤ i)
abbrev tEqI : TE → TE → TE := tCmp fun i j => decide (i = j)
abbrev tNeI : TE → TE → TE := tCmp fun i j => !decide (i = j)
/-- a comparison of two ints, by its rule -/
theorem pc_int {op : CmpOp} {p : Int → Int → Bool} (ha : PE X a ta) (hb : PE X b tb)
    (rule : ∀ (i j : Int) (t u : Tok) (Q : Value → Shared → Prop) (s : Shared), Q (.bool (p i j)) s → wpAny (model X.prog X.w) X.A (compareOp op (.int i t) (.int j u)) Q X.xe s) : PC X op a b (tCmp p ta tb) := by
  intro pins s σ H Q I h
  refine bin ha hb I h fun v u s2 x y H2 I2 rx ry q => ?_
  obtain ⟨i, j, rfl, rfl, q⟩ := q
  obtain ⟨t, rfl⟩ := rx
  obtain ⟨t', rfl⟩ := ry
  exact rule i j t t' _ s2 ⟨.bl _, H2, I2, rfl, q⟩
theorem pc_lt (ha : PE X a ta) (hb : PE X b tb) : PC X .Lt a b (tLt ta tb) := pc_int ha hb fun _ _ _ _ _ _ h => lt_int h
theorem pc_le (ha : PE X a ta) (hb : PE X b tb) : PC X .LtE a b (tLe ta tb) := pc_int ha hb fun _ _ _ _ _ _ h => le_int h
theorem pc_gt (ha : PE X a ta) (hb : PE X b tb) : PC X .Gt a b (tGt ta tb) := pc_int ha hb fun _ _ _ _ _ _ h => gt_int h
theorem pc_ge (ha : PE X a ta) (hb : PE X b tb) : PC X .GtE a b (tGe ta tb) := pc_int ha hb fun _ _ _ _ _ _ h => ge_int h
theorem pc_eqI (ha : PE X a ta) (hb : PE X b tb) : PC X .Eq a b (tEqI ta tb) := pc_int ha hb fun _ _ _ _ _ _ h => eq_int (by rw [Bool.beq_eq_decide_eq]; exact h)
theorem pc_neI (ha : PE X a ta) (hb : PE X b tb) : PC X .NotEq a b (tNeI ta tb) := pc_int ha hb fun _ _ _ _ _ _ h => ne_int (by rw [bne, Bool.beq_eq_decide_eq]; exact h)
/-- is None -/
def tIsN (ta : TE) : TE := fun σ H Q => ta σ H fun x H1 => Q (.bl (decide (x = .non))) H1
def tNotN (ta : TE) : TE := fun σ H Q => ta σ H fun x H1 => Q (.bl (!decide (x = .non))) H1
theorem RelV.none_iff {x : V} {v : Value} (r : RelV x v) : (v == Value.none) = decide (x = .non) := by
  cases x with
  | non => cases r; rfl
  | bl _ => cases r; rfl
  | int _ => obtain ⟨t, rfl⟩ := r; rfl
  | str _ => obtain ⟨t, rfl⟩ := r; rfl
  | byt _ => obtain ⟨t, rfl⟩ := r; rfl
  | flt _ => obtain ⟨t, rfl⟩ := r; rfl
  | ref _ => cases r; rfl
  | ty _ => cases r; rfl
theorem pc_isN {j pos'} (ha : PE X a ta) : PC X .Is a (.Constant .none j pos') (tIsN ta) := by
  intro pins s σ H Q I h
  refine thn (ha pins s σ H _ I h) fun v s1 ⟨x, H1, I1, r1, q1⟩ => ?_
  exact Constant_none (is_none_gen ⟨.bl _, H1, I1, by rw [r1.none_iff]; rfl, q1⟩)
theorem pc_notN {j pos'} (ha : PE X a ta) : PC X .IsNot a (.Constant .none j pos') (tNotN ta) := by
  intro pins s σ H Q I h
  refine thn (ha pins s σ H _ I h) fun v s1 ⟨x, H1, I1, r1, q1⟩ => ?_
  exact Constant_none (isnot_none_gen ⟨.bl _, H1, I1, by rw [r1.none_iff]; rfl, q1⟩)
/-- a comparison as a value, as a test -/
def tB (t : TE) : TT := fun σ H Q => t σ H fun x H1 => ∃ c, x = .bl c ∧ Q c H1
theorem pe_cmp {op : CmpOp} {t : TE} (h : PC X op a b t) (h1 : behindInMarks op b = false := by first | exact nobehind _ (by decide) (by decide) | rfl) : PE X (.Compare a [op] [b] pos) t := fun pins s σ H Q I hw => wpAny_Compare1 (h pins s σ H Q I hw) h1
theorem pt_cmp {op : CmpOp} {t : TE} (h : PC X op a b t) (h1 : behindInMarks op b = false := by first | exact nobehind _ (by decide) (by decide) | rfl) : PT X (.Compare a [op] [b] pos) (tB t) := by
  intro pins s σ H Q I hw
  refine wpAny_isTrue_Compare1 (thn (h pins s σ H _ I hw) fun v s1 h1 => thn h1 fun u s2 h2 => thn h2 fun c s3 ⟨x, H1, I1, r1, q1⟩ => ?_) h1
  obtain ⟨d, rfl, q⟩ := q1
  cases r1
  exact wpAny_truthy_bool ⟨H1, I1, q⟩
/-- an expression whose value is a bool, as a test -/
theorem pt_val {e : Expr} {t : TE} (h : PE X e t) (he : ∀ whole, isTrue e X.env whole = (do let v ← whole; standAt e.pos; holding [v] (truthy v)) := by intro _; rfl) : PT X e (tB t) := by
  intro pins s σ H Q I hw
  refine isTrue_plain (thn (h pins s σ H _ I hw) fun v s1 ⟨x, H1, I1, r1, q1⟩ => ?_) (he _)
  obtain ⟨d, rfl, q⟩ := q1
  cases r1
  exact wpAny_truthy_bool ⟨H1, I1, q⟩

/-! ### and, or, not -/
variable {tA tB' : TT} {rest : List Expr}
def tAnd (t u : TT) : TT := fun σ H Q => t σ H fun c H1 => if c = true then u σ H1 Q else Q false H1
def tOr (t u : TT) : TT := fun σ H Q => t σ H fun c H1 => if c = true then Q true H1 else u σ H1 Q
def tNot (t : TT) : TT := fun σ H Q => t σ H fun c H1 => Q (!c) H1
theorem pw_and1 (ha : PT X a tA) : PW X (.BoolOp .And [a] pos) tA := by
  intro wh pins s σ H Q I h
  refine isTrue_and (thn (ha pins s σ H Q I h) fun c s1 e => ?_)
  cases c with
  | true => exact isTrue_and_nil e
  | false => exact e
theorem pw_or1 (ha : PT X a tA) : PW X (.BoolOp .Or [a] pos) tA := by
  intro wh pins s σ H Q I h
  refine isTrue_or (thn (ha pins s σ H Q I h) fun c s1 e => ?_)
  cases c with
  | false => exact isTrue_or_nil e
  | true => exact e
theorem pw_and (ha : PT X a tA) (hb : PW X (.BoolOp .And (b :: rest) pos) tB') : PW X (.BoolOp .And (a :: b :: rest) pos) (tAnd tA tB') := by
  intro wh pins s σ H Q I h
  refine isTrue_and (thn (ha pins s σ H _ I h) fun c s1 ⟨H1, I1, q1⟩ => ?_)
  cases c with
  | true => exact hb wh pins s1 σ H1 Q I1 q1
  | false => exact ⟨H1, I1, q1⟩
theorem pw_or (ha : PT X a tA) (hb : PW X (.BoolOp .Or (b :: rest) pos) tB') : PW X (.BoolOp .Or (a :: b :: rest) pos) (tOr tA tB') := by
  intro wh pins s σ H Q I h
  refine isTrue_or (thn (ha pins s σ H _ I h) fun c s1 ⟨H1, I1, q1⟩ => ?_)
  cases c with
  | true => exact ⟨H1, I1, q1⟩
  | false => exact hb wh pins s1 σ H1 Q I1 q1
theorem pt_not (ha : PT X a tA) : PT X (.UnaryOp .Not a pos) (tNot tA) := by
  intro pins s σ H Q I h
  exact isTrue_not (ha pins s σ H (fun c H1 => Q (!c) H1) I h)
/-- .. as values (bools) -/
def tAndV (ta tb : TE) : TE := fun σ H Q => ta σ H fun x H1 => ∃ c, x = .bl c ∧ if c = true then tb σ H1 Q else Q (.bl false) H1
def tOrV (ta tb : TE) : TE := fun σ H Q => ta σ H fun x H1 => ∃ c, x = .bl c ∧ if c = true then Q (.bl true) H1 else tb σ H1 Q
def tNotV (ta : TE) : TE := fun σ H Q => ta σ H fun x H1 => ∃ c, x = .bl c ∧ Q (.bl (!c)) H1
theorem pe_one {op} {t : TE} (h : PE X a t) : PE X (.BoolOp op [a] pos) t := fun pins s σ H Q I hw => BoolOp_one (h pins s σ H Q I hw)
theorem pe_and (ha : PE X a ta) (hb : PE X (.BoolOp .And (b :: rest) pos) tb) : PE X (.BoolOp .And (a :: b :: rest) pos) (tAndV ta tb) := by
  intro pins s σ H Q I h
  refine BoolOp_and (thn (ha pins s σ H _ I h) fun v s1 ⟨x, H1, I1, r1, q1⟩ => ?_)
  obtain ⟨c, rfl, q1⟩ := q1
  cases r1
  refine wpAny_truthy_bool ?_
  cases c with
  | true => exact hb pins s1 σ H1 Q I1 q1
  | false => exact ⟨.bl false, H1, I1, rfl, q1⟩
theorem pe_or (ha : PE X a ta) (hb : PE X (.BoolOp .Or (b :: rest) pos) tb) : PE X (.BoolOp .Or (a :: b :: rest) pos) (tOrV ta tb) := by
  intro pins s σ H Q I h
  refine BoolOp_or (thn (ha pins s σ H _ I h) fun v s1 ⟨x, H1, I1, r1, q1⟩ => ?_)
  obtain ⟨c, rfl, q1⟩ := q1
  cases r1
  refine wpAny_truthy_bool ?_
  cases c with
  | false => exact hb pins s1 σ H1 Q I1 q1
  | true => exact ⟨.bl true, H1, I1, rfl, q1⟩
theorem pe_not (ha : PE X a ta) : PE X (.UnaryOp .Not a pos) (tNotV ta) := by
  intro pins s σ H Q I h
  refine UnaryOp_ (thn (ha pins s σ H _ I h) fun v s1 ⟨x, H1, I1, r1, q1⟩ => ?_)
  obtain ⟨c, rfl, q1⟩ := q1
  cases r1
  exact not_of (wpAny_truthy_bool ⟨.bl (!c), H1, I1, rfl, q1⟩)
/-- a if t else b -/
def tIf (t : TT) (ta tb : TE) : TE := fun σ H Q => t σ H fun c H1 => if c = true then ta σ H1 Q else tb σ H1 Q
theorem pe_ifExp {c : Expr} (hc : PT X c tA) (ha : PE X a ta) (hb : PE X b tb) : PE X (.IfExp c a b pos) (tIf tA ta tb) := by
  intro pins s σ H Q I h
  refine wpAny_IfExp (thn (hc pins s σ H _ I h) fun d s1 ⟨H1, I1, q1⟩ => ?_)
  cases d with
  | true => exact ha pins s1 σ H1 Q I1 q1
  | false => exact hb pins s1 σ H1 Q I1 q1
end
end L2

namespace L2
open PySem PySem.Spec PyProof.Rows

/-! ### a list, a tuple that is read: tracked, frozen, or an object of the module -/
def SqL (K : PySem.W.Frag) (H : Hp) (a : Addr) (xs : List V) : Prop :=
  Rd H a (.lst xs) ∨
    ∃ (o : Obj) (its : Array Value) (n : Nat), K.lookup a = some o ∧ o.cls = .type "list" ∧ o.dict = none ∧ o.data = .seq its n ∧ its.size ≤ sizeLine ∧ Vals xs its.toList
def SqT (K : PySem.W.Frag) (H : Hp) (a : Addr) (xs : List V) : Prop :=
  Rd H a (.tup xs) ∨
    ∃ (o : Obj) (its : Array Value) (n : Nat), K.lookup a = some o ∧ o.cls = .type "tuple" ∧ o.data = .seq its n ∧ its.size ≤ sizeLine ∧ Vals xs its.toList
def absV : Value → Option V
  | .none => some .non
  | .bool b => some (.bl b)
  | .int i _ => some (.int i)
  | .str x _ => some (.str x)
  | .bytes b _ => some (.byt b)
  | .float b _ => some (.flt b)
  | .ref a => some (.ref a)
  | .type n => some (.ty n)
  | _ => none
theorem RelV.abs {x : V} {u : Value} (r : RelV x u) : absV u = some x := by
  cases x with
  | non => cases r; rfl
  | bl _ => cases r; rfl
  | int _ => obtain ⟨t, rfl⟩ := r; rfl
  | str _ => obtain ⟨t, rfl⟩ := r; rfl
  | byt _ => obtain ⟨t, rfl⟩ := r; rfl
  | flt _ => obtain ⟨t, rfl⟩ := r; rfl
  | ref _ => cases r; rfl
  | ty _ => cases r; rfl
theorem RelV.inj {x y : V} {u : Value} (r : RelV x u) (q : RelV y u) : x = y := Option.some.inj (r.abs.symm.trans q.abs)
theorem Vals.inj : ∀ {xs ys : List V} {us : List Value}, Vals xs us → Vals ys us → xs = ys
  | _, _, _, .nil, .nil => rfl
  | _, _, _, .cons r t, .cons r' t' => by rw [r.inj r', Vals.inj t t']
section
variable {X : Cx} {pins : List (Addr × Obj)} {σ : St} {H : Hp} {s : Shared} {a : Addr} {xs ys : List V}
theorem SqL.of {K : PySem.W.Frag} (h : H a = some (.lst xs)) : SqL K H a xs := .inl (.inl h)
theorem SqT.of {K : PySem.W.Frag} (h : H a = some (.tup xs)) : SqT K H a xs := .inl (.inl h)
theorem Inv.list (I : Inv X pins σ H s) (h : SqL X.K H a xs) : ∃ its : List Value, Vals xs its ∧ PlainL s.heap a its.toArray ∧ xs.length ≤ sizeLine := by
  rcases h with h | ⟨o, its, n, hk, hc, hd, hs, hz, r⟩
  · obtain ⟨z, its, n, r, e⟩ := h.ok I.hok
    exact ⟨its, r, ⟨_, n, e, rfl, rfl, rfl⟩, z⟩
  · refine ⟨its.toList, r, ⟨o, n, I.kIn a o hk, hc, hd, by simpa using hs⟩, ?_⟩
    have e := r.length
    simp only [Array.length_toList] at e
    omega
theorem Inv.tuple (I : Inv X pins σ H s) (h : SqT X.K H a xs) : ∃ its : List Value, Vals xs its ∧ IsTup s.heap a its.toArray ∧ xs.length ≤ sizeLine := by
  rcases h with h | ⟨o, its, n, hk, hc, hs, hz, r⟩
  · obtain ⟨z, its, r, p⟩ := h.ok I.hok
    exact ⟨its, r, p, z⟩
  · refine ⟨its.toList, r, ⟨o, I.kIn a o hk, hc, n, by simpa using hs⟩, ?_⟩
    have e := r.length
    simp only [Array.length_toList] at e
    omega
theorem Inv.list_inj (I : Inv X pins σ H s) (h : SqL X.K H a xs) (h' : SqL X.K H a ys) : xs = ys := by
  obtain ⟨its, r, ⟨o, n, e, _, _, d⟩, _⟩ := I.list h
  obtain ⟨its', r', ⟨o', n', e', _, _, d'⟩, _⟩ := I.list h'
  rw [e] at e'; cases e'
  rw [d] at d'
  injection d' with d1 _
  have : its = its' := by simpa using congrArg Array.toList d1
  subst this
  exact r.inj r'
theorem Inv.tuple_inj (I : Inv X pins σ H s) (h : SqT X.K H a xs) (h' : SqT X.K H a ys) : xs = ys := by
  obtain ⟨its, r, ⟨o, e, _, n, d⟩, _⟩ := I.tuple h
  obtain ⟨its', r', ⟨o', e', _, n', d'⟩, _⟩ := I.tuple h'
  rw [e] at e'; cases e'
  rw [d] at d'
  injection d' with d1 _
  have : its = its' := by simpa using congrArg Array.toList d1
  subst this
  exact r.inj r'
end

/-! ### another wish about exceptions -/
abbrev Cx.wish (X : Cx) (E : Value → Shared → Prop) : Cx := { X with xe := E }
/-- no exception leaves -/
abbrev Cx.nox (X : Cx) : Cx := X.wish fun _ _ => False
theorem Cx.Ok.wish {X : Cx} (ok : X.Ok) (E : Value → Shared → Prop) : (X.wish E).Ok :=
  ⟨ok.mod, ok.kind, ok.glob, ok.blt, ok.above, ok.inj, ok.has, ok.cab, ok.hd, ok.frames, ok.stk, ok.exf, ok.bs, ok.bsz, ok.noex, ok.exfs, ok.funs, ok.frf⟩
theorem Cx.Ok.unwish {X : Cx} {E : Value → Shared → Prop} (ok : (X.wish E).Ok) : X.Ok :=
  ⟨ok.mod, ok.kind, ok.glob, ok.blt, ok.above, ok.inj, ok.has, ok.cab, ok.hd, ok.frames, ok.stk, ok.exf, ok.bs, ok.bsz, ok.noex, ok.exfs, ok.funs, ok.frf⟩
section
variable {X : Cx} {pins : List (Addr × Obj)} {σ : St} {H : Hp} {s : Shared} {E : Value → Shared → Prop}
theorem Inv.wish (I : Inv X pins σ H s) (E : Value → Shared → Prop) : Inv (X.wish E) pins σ H s := ⟨I.ok.wish E, I.os, I.bare, I.base, I.loc, I.cell, I.free, I.freeC, I.pin, I.hok, I.len⟩
theorem Inv.unwish (I : Inv (X.wish E) pins σ H s) : Inv X pins σ H s := ⟨I.ok.unwish, I.os, I.bare, I.base, I.loc, I.cell, I.free, I.freeC, I.pin, I.hok, I.len⟩
theorem SP.unwish {D : Ends} {f : Flow} {s' : Shared} (h : SP (X.wish E) pins D f s') : SP X pins D f s' := by
  cases f with
  | next => obtain ⟨σ', H', I, q⟩ := h; exact ⟨σ', H', I.unwish, q⟩
  | brk => obtain ⟨σ', H', I, q⟩ := h; exact ⟨σ', H', I.unwish, q⟩
  | cont => obtain ⟨σ', H', I, q⟩ := h; exact ⟨σ', H', I.unwish, q⟩
  | ret u => obtain ⟨v, σ', H', I, r, q⟩ := h; exact ⟨v, σ', H', I.unwish, r, q⟩
theorem PE.nox {e : Expr} {t : TE} (h : PE X.nox e t) : PE X e t := fun pins s σ H Q I hw =>
  wpAny_mono (h pins s σ H Q (I.wish _) hw) (fun _ _ ⟨v, H', I', r, q⟩ => ⟨v, H', I'.unwish, r, q⟩) fun _ _ z => False.elim z
theorem PT.nox {e : Expr} {t : TT} (h : PT X.nox e t) : PT X e t := fun pins s σ H Q I hw =>
  wpAny_mono (h pins s σ H Q (I.wish _) hw) (fun _ _ ⟨H', I', q⟩ => ⟨H', I'.unwish, q⟩) fun _ _ z => False.elim z
theorem PSs.nox {st : List Stmt} {t : TS} (h : PSs X.nox st t) : PSs X st t := fun pins s σ H D I hw =>
  wpAny_mono (h pins s σ H D (I.wish _) hw) (fun _ _ q => q.unwish) fun _ _ z => False.elim z
end

/-! ### blocks and small statements -/
section
variable {X : Cx} {st : Stmt} {rest : List Stmt} {t u : TS} {e : Expr} {te : TE} {pos : Pos}
def tNext : TS := fun D σ H => D.nx σ H
def tSeq (t u : TS) : TS := fun D σ H => t { D with nx := u D } σ H
theorem pss_nil : PSs X [] tNext := fun _ _ σ H _ I h => wpAny_execs_nil ⟨σ, H, I, h⟩
theorem pss_cons (h1 : PS X st t) (h2 : PSs X rest u) : PSs X (st :: rest) (tSeq t u) := by
  intro pins s σ H D I h
  refine wpAny_execs_cons (thn (h1 pins s σ H { D with nx := u D } I h) fun f s1 q => ?_)
  cases f with
  | next =>
    obtain ⟨σ', H', I', q⟩ := q
    exact h2 pins s1 σ' H' D I' q
  | ret v => exact q
  | brk => exact q
  | cont => exact q
theorem pss_one (h1 : PS X st t) : PSs X [st] t := by
  intro pins s σ H D I h
  refine wpAny_execs_cons (thn (h1 pins s σ H D I h) fun f s1 q => ?_)
  cases f with
  | next => exact wpAny_execs_nil q
  | ret v => exact q
  | brk => exact q
  | cont => exact q
def tBreak : TS := fun D σ H => D.bk σ H
def tCont : TS := fun D σ H => D.ct σ H
theorem ps_pass : PS X (.Pass pos) tNext := fun _ _ σ H _ I h => wpAny_Pass ⟨σ, H, I, h⟩
theorem ps_break : PS X (.Break pos) tBreak := fun _ _ σ H _ I h => wpAny_Break ⟨σ, H, I, h⟩
theorem ps_continue : PS X (.Continue pos) tCont := fun _ _ σ H _ I h => wpAny_Continue ⟨σ, H, I, h⟩
/-- in a def's body nothing is shown -/
theorem Inv.quiet {pins : List (Addr × Obj)} {σ : St} {H : Hp} {s : Shared} (I : Inv X pins σ H s) : interactive X.env = false := by simp [interactive, I.ok.kind]
/-- a docstring -/
theorem ps_doc {x j pos pos'} : PS X (.Expr (.Constant (.str x) j pos) pos') tNext := fun _ s σ H _ I h => wpAny_Expr (Calls.Constant_str (show SP X _ _ .next { s with toks := s.toks + 1 } from ⟨σ, H, I.tok _, h⟩)) I.quiet
/-- an expression whose value is dropped -/
def tDrop (te : TE) : TS := fun D σ H => te σ H fun _ H1 => D.nx σ H1
theorem ps_expr (he : PE X e te) (hs : swapsWith e none pos.line X.env = pure false := by rfl) : PS X (.Expr e pos) (tDrop te) := by
  intro pins s σ H D I h
  exact wpAny_Expr_any (thn (he pins s σ H _ I h) fun v s1 ⟨x, H1, I1, r1, q1⟩ => ⟨σ, H1, I1, q1⟩) I.quiet hs
def tRet (te : TE) : TS := fun D σ H => te σ H D.rt
theorem ps_ret (he : PE X e te) : PS X (.Return (some e) pos) (tRet te) := by
  intro pins s σ H D I h
  exact wpAny_Return_some (thn (he pins s σ H _ I h) fun v s1 ⟨x, H1, I1, r1, q1⟩ => ⟨x, σ, H1, I1, r1, q1⟩)
def tRetN : TS := fun D _ H => D.rt .non H
theorem ps_retN : PS X (.Return none pos) tRetN := fun _ _ σ H _ I h => wpAny_Return_none ⟨.non, σ, H, I, rfl, h⟩
def tIfS (c : TT) (t u : TS) : TS := fun D σ H => c σ H fun b H1 => if b = true then t D σ H1 else u D σ H1
theorem ps_if {c : Expr} {a b : List Stmt} {tc : TT} (hc : PT X c tc) (ha : PSs X a t) (hb : PSs X b u) : PS X (.If c a b pos) (tIfS tc t u) := by
  intro pins s σ H D I h
  refine wpAny_If (thn (hc pins s σ H _ I h) fun d s1 ⟨H1, I1, q1⟩ => ?_)
  cases d with
  | true => exact ha pins s1 σ H1 D I1 q1
  | false => exact hb pins s1 σ H1 D I1 q1
/-- code that the proof never comes to -/
def tNever : TS := fun _ _ _ => False
theorem ps_never : PS X st tNever := fun _ _ _ _ _ _ h => h.elim
theorem pss_never {sts : List Stmt} : PSs X sts tNever := fun _ _ _ _ _ _ h => h.elim
end

/-! ### targets -/
abbrev TG := V → St → Hp → (St → Hp → Prop) → Prop
abbrev TGs := List V → St → Hp → (St → Hp → Prop) → Prop
def PG (X : Cx) (target : Expr) (t : TG) : Prop :=
  ∀ (pins : List (Addr × Obj)) (s : Shared) (σ : St) (H : Hp) (v : V) (u : Value) (Q : St → Hp → Prop), Inv X pins σ H s → RelV v u → t v σ H Q →
    wpAny (model X.prog X.w) X.A (assign target X.env u) (fun _ s' => ∃ σ' H', Inv X pins σ' H' s' ∧ Q σ' H') X.xe s
/-- several targets, one after another -/
def PGs (X : Cx) (ts : List Expr) (t : TGs) : Prop :=
  ∀ (pins : List (Addr × Obj)) (s : Shared) (σ : St) (H : Hp) (vs : List V) (us : List Value) (Q : St → Hp → Prop), Inv X pins σ H s → Vals vs us → t vs σ H Q →
    wpAny (model X.prog X.w) X.A (assignInOrder ((assignEach ts X.env).map (·.2)) us) (fun _ s' => ∃ σ' H', Inv X pins σ' H' s' ∧ Q σ' H') X.xe s
/-- o[i] = v, by values -/
abbrev TSet := V → V → V → Hp → (Hp → Prop) → Prop
def PSet (X : Cx) (t : TSet) : Prop :=
  ∀ (pins : List (Addr × Obj)) (s : Shared) (σ : St) (H : Hp) (o i v : V) (ov iv u : Value) (Q : Hp → Prop), Inv X pins σ H s → RelV o ov → RelV i iv → RelV v u → t o i v H Q →
    wpAny (model X.prog X.w) X.A (setItem ov iv u) (fun _ s' => ∃ H', Inv X pins σ H' s' ∧ Q H') X.xe s
/-- a op= b, by values -/
abbrev TIp := V → V → Hp → VK → Prop
def PIp (X : Cx) (op : Operator) (t : TIp) : Prop :=
  ∀ (pins : List (Addr × Obj)) (s : Shared) (σ : St) (H : Hp) (x y : V) (v u : Value) (Q : VK), Inv X pins σ H s → RelV x v → RelV y u → t x y H Q →
    wpAny (model X.prog X.w) X.A (inplaceOp op v u) (EP X pins σ Q) X.xe s
section
variable {X : Cx} {pos : Pos}
def gName (i : Nat) : TG := fun v σ H Q => Q (σ.set i (some v)) H
theorem pg_name {i : Nat} {x : Str} (hN : X.N.Nodup) (hi : X.N[i]? = some x) (hx : Loc X.env.scope x) (hf : X.fn x = true ∨ X.env.scope.names.lookup x = some .local := by first | exact .inl rfl | exact .inr rfl | assumption) : PG X (.Name x pos) (gName i) := by
  intro pins s σ H v u Q I r h
  exact wpAny_assign_Name (store_ok I hN hi hx r (fun s' I' => ⟨_, H, I', h⟩) hf)
def gNil : TGs := fun vs σ H Q => vs = [] ∧ Q σ H
def gCons (t : TG) (u : TGs) : TGs := fun vs σ H Q => ∃ v r, vs = v :: r ∧ t v σ H fun σ' H' => u r σ' H' Q
theorem pgs_nil : PGs X [] gNil := by
  intro pins s σ H vs us Q I r h
  obtain ⟨e, h⟩ := h
  subst e
  cases r
  exact assignInOrder_nil ⟨σ, H, I, h⟩
theorem pgs_cons {e : Expr} {es : List Expr} {t : TG} {u : TGs} (h1 : PG X e t) (h2 : PGs X es u)
    (hs : (assignEach (e :: es) X.env).map (·.2) = assign e X.env :: (assignEach es X.env).map (·.2) := by rfl) : PGs X (e :: es) (gCons t u) := by
  intro pins s σ H vs us Q I r h
  obtain ⟨v, vr, e1, h⟩ := h
  subst e1
  cases r with
  | cons r rr =>
    rw [hs]
    refine assignInOrder_cons (thn (h1 pins s σ H _ _ _ I r h) fun _ s1 ⟨σ1, H1, I1, q1⟩ => ?_)
    exact h2 pins s1 σ1 H1 _ _ Q I1 rr q1
/-- (a, b, ..) = a tuple of that length -/
def gTup (K : PySem.W.Frag) (n : Nat) (t : TGs) : TG := fun v σ H Q => ∃ a xs, v = .ref a ∧ SqT K H a xs ∧ xs.length = n ∧ t xs σ H Q
theorem pg_tup {es : List Expr} {k : Nat} {t : TGs} {n : Nat} (hc : X.calm = true) (h : PGs X es t)
    (hn : (assignEach es X.env).length = n := by rfl) (hst : (assignEach es X.env).findIdx? (·.1) = none := by rfl) : PG X (.Tuple es k pos) (gTup X.K n t) := by
  intro pins s σ H v u Q I r hw
  obtain ⟨a, xs, e1, hq, hl, hw⟩ := hw
  subst e1
  cases r
  obtain ⟨its, rv, ht, hz⟩ := I.tuple hq
  refine assign_Tuple_tuple (I.ok.hd hc) ht (by simp [hn, ← hl, rv.length]) hst fun h' hx => ?_
  have I1 : Inv X pins σ H { s with heap := h' } := I.kept (t' := s.toks) fun b o e => hx b o (Nat.ne_of_lt (Heap.lt_size e)) e
  exact h pins _ σ H xs _ Q I1 (by simpa using rv) hw
/-- o[i] = .. -/
def gSub (to ti : TE) (t : TSet) : TG := fun v σ H Q => to σ H fun o H1 => ti σ H1 fun i H2 => t o i v H2 fun H3 => Q σ H3
theorem pg_sub {o i : Expr} {to ti : TE} {t : TSet} (ho : PE X o to) (hi : PE X i ti) (hs : PSet X t)
    (ha : ∀ v, assign (.Subscript o i pos) X.env v = (do
      let ov ← holding [v] (eval o X.env)
      let iv ← holding [v, ov] (eval i X.env)
      standAt pos
      holding [v, ov, iv] (setItem ov iv v)
      release [v, ov, iv] []) := by intro _; rfl) : PG X (.Subscript o i pos) (gSub to ti t) := by
  intro pins s σ H v u Q I r h
  rw [ha]
  refine wpAny_bind (wpAny_holding (thn (ho pins s σ H _ I h) fun ov s1 ⟨x, H1, I1, r1, q1⟩ => ?_))
  refine wpAny_bind (wpAny_holding (thn (hi pins s1 σ H1 _ I1 q1) fun iv s2 ⟨y, H2, I2, r2, q2⟩ => ?_))
  refine wpAny_bind (wpAny_standAt (wpAny_bind (wpAny_holding (thn (hs pins s2 σ H2 x y v ov iv u _ I2 r1 r2 r q2) fun _ s3 ⟨H3, I3, q3⟩ => ?_))))
  exact wpAny_release ⟨σ, H3, I3, q3⟩
/-- target = value -/
def tAsg (te : TE) (g : TG) : TS := fun D σ H => te σ H fun x H1 => g x σ H1 D.nx
theorem ps_asg {tg e : Expr} {te : TE} {g : TG} (he : PE X e te) (hg : PG X tg g) (hs : swapsWithSole [tg] e pos.line X.env = pure false := by rfl) (hw : swappedStores [tg] e X.env = pure none := by rfl)
    (h1 : (assignEach [tg] X.env).map (·.2) = [assign tg X.env] := by rfl) : PS X (.Assign [tg] e pos) (tAsg te g) := by
  intro pins s σ H D I h
  refine wpAny_Assign_stores (thn (he pins s σ H _ I h) fun v s1 ⟨x, H1, I1, r1, q1⟩ => ?_) hs hw
  rw [h1]
  exact thn (hg pins s1 σ H1 x v _ I1 r1 q1) fun _ s2 q => q
/-- name = value -/
theorem ps_set {i : Nat} {x : Str} {e : Expr} {te : TE} {pos' : Pos} (hN : X.N.Nodup) (hi : X.N[i]? = some x) (hx : Loc X.env.scope x) (he : PE X e te) (hs : swapsWith e (some (.Name x pos')) pos.line X.env = pure false := by rfl) (hf : X.fn x = true ∨ X.env.scope.names.lookup x = some .local := by first | exact .inl rfl | exact .inr rfl | assumption) :
    PS X (.Assign [.Name x pos'] e pos) (tAsg te (gName i)) := by
  intro pins s σ H D I h
  refine wpAny_Assign_Name (thn (he pins s σ H _ I h) fun v s1 ⟨y, H1, I1, r1, q1⟩ => ?_) hs
  exact store_ok I1 hN hi hx r1 (fun s2 I2 => ⟨_, H1, I2, q1⟩) hf
/-- a, b = x, y with plain local names: stored from the right; the pair itself is not tracked (the opening rows as in PyProof/Rows/TupAssign.lean:23) -/
def tPar (i j : Nat) (ta : TA) : TS := fun D σ H => ta σ H fun vs H1 => ∃ v w, vs = [v, w] ∧ D.nx ((σ.set i (some v)).set j (some w)) H1
theorem ps_par {i j : Nat} {x y : Str} {a b : Expr} {ta : TA} {px py pt : Pos} {kt k2 pt2} (hc : X.calm = true) (hN : X.N.Nodup) (hi : X.N[i]? = some x) (hj : X.N[j]? = some y) (hij : i ≠ j)
    (hx : X.env.scope.names.lookup x = some .local) (hy : X.env.scope.names.lookup y = some .local) (ha : PA X [a, b] ta)
    (hw : swappedStores [.Tuple [.Name x px, .Name y py] kt pt] (.Tuple [a, b] k2 pt2) X.env = pure (some [x, y]))
    (hs : swapsWithSole [.Tuple [.Name x px, .Name y py] kt pt] (.Tuple [a, b] k2 pt2) pos.line X.env = pure false := by rfl) :
    PS X (.Assign [.Tuple [.Name x px, .Name y py] kt pt] (.Tuple [a, b] k2 pt2) pos) (tPar i j ta) := by
  intro pins s σ H D I h
  rw [exec_Assign_arm]
  refine wpAny_bind (wpAny_standAt ?_)
  rw [hs]
  refine wpAny_bind (wpAny_pure ?_)
  rw [if_neg (by decide)]
  refine wpAny_bind (Tuple_ (thn (ha _ pins s σ H _ I h) fun us s1 ⟨vs, H1, I1, r1, q1⟩ => ?_))
  obtain ⟨v, w, e1, q1⟩ := q1
  subst e1
  obtain ⟨u1, u2, rfl, rv, rw'⟩ : ∃ u1 u2, us = [u1, u2] ∧ RelV v u1 ∧ RelV w u2 := by
    cases r1 with
    | cons p q =>
      cases q with
      | cons p' q' =>
        cases q'
        exact ⟨_, _, rfl, p, p'⟩
  refine wpAny_newObj_type ?_ (by show 2 ≤ sizeLine; decide)
  have I2 : Inv X pins σ H1 { s1 with heap := s1.heap.push { cls := .type "tuple", data := .seq [u1, u2].toArray } } := I1.kept (t' := s1.toks) fun b o e => Heap.get?_push_of_some _ e
  rw [hw]
  refine wpAny_bind (wpAny_pure ?_)
  show wpAny (model X.prog X.w) X.A (do rule "assign.swapped-stores"; let items ← unpackItems (.ref s1.heap.objs.size) 2 none; assignInOrder [fun v => bindName X.env y v, fun v => bindName X.env x v] items.reverse; pure Flow.next) _ _ _
  refine wpAny_bind (wpAny_rule (wpAny_bind (unpackItems_tuple (items := #[u1, u2]) (I.ok.hd hc) (IsTup.new s1.heap _) fun h' hx' => ?_)))
  have I3 := I2.kept (h' := h') (t' := s1.toks) fun b o e => hx' b o (Nat.ne_of_lt (Heap.lt_size e)) e
  show wpAny _ _ (assignInOrder [fun v => bindName X.env y v, fun v => bindName X.env x v] [u2, u1] >>= fun _ => pure Flow.next) _ _ _
  refine wpAny_bind (assignInOrder_cons (wpAny_bindName (store_ok I3 hN hj (.inl hy) rw' (fun s2 I4 => ?_) (.inr hy))))
  refine assignInOrder_cons (wpAny_bindName (store_ok I4 hN hi (.inl hx) rv (fun s3 I5 => assignInOrder_nil (wpAny_pure ?_)) (.inr hx)))
  rw [List.set_comm _ _ (Ne.symm hij)] at I5
  exact ⟨_, H1, I5, q1⟩
/-- name op= e -/
def tAug (i : Nat) (te : TE) (ti : TIp) : TS := fun D σ H => ∃ x, σ[i]? = some (some x) ∧ te σ H fun y H1 => ti x y H1 fun z H2 => D.nx (σ.set i (some z)) H2
theorem ps_aug {i : Nat} {x : Str} {e : Expr} {te : TE} {op : Operator} {ti : TIp} {pos' : Pos} (hN : X.N.Nodup) (hi : X.N[i]? = some x) (hx : Loc X.env.scope x) (he : PE X e te) (ho : PIp X op ti) (hf : X.fn x = true ∨ X.env.scope.names.lookup x = some .local := by first | exact .inl rfl | exact .inr rfl | assumption) :
    PS X (.AugAssign (.Name x pos') op e pos) (tAug i te ti) := by
  intro pins s σ H D I h
  obtain ⟨v, e1, h⟩ := h
  obtain ⟨m, hn, hl⟩ := I.loc
  have vis : Vis X.env.scope x := by rcases hx with k | k; exact .inl k; exact .inr (.inl k)
  obtain ⟨u, r, l⟩ := hl i x v hi e1 vis
  refine wpAny_AugAssign_Name ?_
  have go : wpAny (model X.prog X.w) X.A (eval e X.env) (fun w s₂ => wpAny (model X.prog X.w) X.A (inplaceOp op u w) (fun r s₃ => wpAny (model X.prog X.w) X.A (storeName X.env x r) (fun _ => SP X pins D .next) X.xe s₃) X.xe s₂) X.xe s := by
    refine thn (he pins s σ H _ I h) fun w s1 ⟨y, H1, I1, r1, q1⟩ => ?_
    refine thn (ho pins s1 σ H1 v y u w _ I1 r r1 q1) fun z s2 ⟨zv, H2, I2, r2, q2⟩ => ?_
    exact store_ok I2 hN hi hx r2 (fun s3 I3 => ⟨_, H2, I3, q2⟩) hf
  rcases l with ⟨hk, hm⟩ | ⟨hk, c, hc, hcell⟩
  · exact wpAny_loadName_local I.ok.kind hk hn hm go
  · rcases hk with hk | hk
    · exact wpAny_loadName_cell I.ok.kind hk hc hcell go
    · rcases hx with k | k
      · have : X.env.scope.names.lookup x = some .free := hk
        rw [k] at this; cases this
      · have : X.env.scope.names.lookup x = some .free := hk
        rw [k] at this; cases this
/-- o[i] op= e -/
def tAugS (to ti te : TE) (tget : V → V → Hp → VK → Prop) (tip : TIp) (tset : TSet) : TS := fun D σ H => to σ H fun o H1 => ti σ H1 fun i H2 => tget o i H2 fun x H3 => te σ H3 fun y H4 => tip x y H4 fun z H5 => tset o i z H5 fun H6 => D.nx σ H6
/-- o[i], by values -/
def PGet (X : Cx) (t : V → V → Hp → VK → Prop) : Prop :=
  ∀ (pins : List (Addr × Obj)) (s : Shared) (σ : St) (H : Hp) (o i : V) (ov iv : Value) (Q : VK), Inv X pins σ H s → RelV o ov → RelV i iv → t o i H Q →
    wpAny (model X.prog X.w) X.A (getItem ov iv) (EP X pins σ Q) X.xe s
theorem ps_augS {o i e : Expr} {to ti te : TE} {tget : V → V → Hp → VK → Prop} {tip : TIp} {tset : TSet} {op : Operator} {tpos : Pos} (ho : PE X o to) (hi : PE X i ti) (hg : PGet X tget) (he : PE X e te) (hp : PIp X op tip) (hs : PSet X tset)
    (ha : ∀ ov iv new, augStore i ov iv new = (do holding [new, ov, iv] (setItem ov iv new); release [new, ov, iv] []; pure .next) := by intros; rfl) : PS X (.AugAssign (.Subscript o i tpos) op e pos) (tAugS to ti te tget tip tset) := by
  intro pins s σ H D I h
  refine wpAny_AugAssign_SubscriptAny (thn (ho pins s σ H _ I h) fun ov s1 ⟨x1, H1, I1, r1, q1⟩ => ?_) ha
  refine thn (hi pins s1 σ H1 _ I1 q1) fun iv s2 ⟨x2, H2, I2, r2, q2⟩ => ?_
  refine thn (hg pins s2 σ H2 x1 x2 ov iv _ I2 r1 r2 q2) fun old s3 ⟨x3, H3, I3, r3, q3⟩ => ?_
  refine thn (he pins s3 σ H3 _ I3 q3) fun v s4 ⟨x4, H4, I4, r4, q4⟩ => ?_
  refine thn (hp pins s4 σ H4 x3 x4 old v _ I4 r3 r4 q4) fun new s5 ⟨x5, H5, I5, r5, q5⟩ => ?_
  exact thn (hs pins s5 σ H5 x1 x2 x5 ov iv new _ I5 r1 r2 r5 q5) fun _ s6 ⟨H6, I6, q6⟩ => ⟨σ, H6, I6, q6⟩
/-- ints -/
def ipI (f : Int → Int → Int) : TIp := fun x y H Q => ∃ i j, x = .int i ∧ y = .int j ∧ Q (.int (f i j)) H
theorem ip_add : PIp X .Add (ipI fun i j => i + j) := by
  intro pins s σ H x y v u Q I r1 r2 h
  obtain ⟨i, j, e1, e2, q⟩ := h
  subst e1; subst e2
  obtain ⟨t, rfl⟩ := r1
  obtain ⟨t', rfl⟩ := r2
  exact iadd_int ⟨.int _, H, I.tok _, ⟨_, rfl⟩, q⟩
theorem ip_sub : PIp X .Sub (ipI fun i j => i - j) := by
  intro pins s σ H x y v u Q I r1 r2 h
  obtain ⟨i, j, e1, e2, q⟩ := h
  subst e1; subst e2
  obtain ⟨t, rfl⟩ := r1
  obtain ⟨t', rfl⟩ := r2
  exact isub_int ⟨.int _, H, I.tok _, ⟨_, rfl⟩, q⟩
end

/-! ### while -/
section
variable {X : Cx} {pos : Pos}
/-- the invariant W with its measure -/
def tWhile (c : TT) (tb : TS) : TS := fun D σ H => ∃ W : Nat → St → Hp → Prop, (∃ m, W m σ H) ∧ ∀ m σ H, W m σ H →
  c σ H fun b H1 => if b = true then ∃ N : St → Hp → Prop, (∀ σ' H', N σ' H' → ∃ m', m' < m ∧ W m' σ' H') ∧ tb { D with nx := N, ct := N, bk := D.nx } σ H1 else D.nx σ H1
theorem ps_while {c : Expr} {body : List Stmt} {tc : TT} {tb : TS} (hp : PassesOwn (model X.prog X.w) X.A X.env X.xe) (hc : PT X c tc) (hb : PSs X body tb) : PS X (.While c body [] pos) (tWhile tc tb) := by
  intro pins s σ H D I h
  obtain ⟨W, ⟨m0, w0⟩, turn⟩ := h
  refine wpAny_While (codeAny_whileLoop (fun n s' => ∃ σ' H', Inv X pins σ' H' s' ∧ W n σ' H') ?_ m0 ⟨σ, H, I, w0⟩)
  rintro n s1 ⟨σ1, H1, I1, w1⟩
  refine wpAny_passesOwn hp (thn (hc pins s1 σ1 H1 _ I1 (turn n σ1 H1 w1)) fun b s2 ⟨H2, I2, q2⟩ => ?_)
  cases b with
  | true =>
    obtain ⟨N, hN, q2⟩ := q2
    rw [if_pos rfl]
    refine wpAny_passesOwn hp (thn (hb pins s2 σ1 H2 _ I2 q2) fun f s3 q3 => ?_)
    cases f with
    | next =>
      obtain ⟨σ3, H3, I3, n3⟩ := q3
      obtain ⟨m', hm, w3⟩ := hN σ3 H3 n3
      exact ⟨m', hm, σ3, H3, I3, w3⟩
    | cont =>
      obtain ⟨σ3, H3, I3, n3⟩ := q3
      obtain ⟨m', hm, w3⟩ := hN σ3 H3 n3
      exact ⟨m', hm, σ3, H3, I3, w3⟩
    | brk => exact q3
    | ret v => exact q3
  | false =>
    rw [if_neg Bool.false_ne_true]
    exact wpAny_execs_nil ⟨σ1, H2, I2, q2⟩
end

/-! ### what a loop or a comprehension walks -/
/-- at turn i: it yields x (the heap may grow), or it stops -/
structure It where
  go : Nat → Hp → Prop
  yld : Nat → Hp → V → Hp → Prop
  stop : Nat → Hp → Prop
/-- the iterator's own objects may turn: they are not the frame's, not pinned, younger than the entry (or a comprehension's own) -/
def FpOk (X : Cx) (pins : List (Addr × Obj)) (H : Hp) (b : Addr) : Prop :=
  H b = none ∧ b ≠ X.env.locals ∧ b ∉ X.fs ∧ (b ∈ X.ex ∨ X.s₀.heap.objs.size ≤ b) ∧ (∀ x c, X.env.cells.lookup x = some c → c ≠ b) ∧ ∀ p ∈ X.pn ++ pins, p.1 ≠ b
theorem Inv.fpOk {X : Cx} {pins : List (Addr × Obj)} {σ : St} {H H' : Hp} {s : Shared} {b : Addr} (I : Inv X pins σ H s) (hb : s.heap.objs.size ≤ b) (hn : H' b = none) : FpOk X pins H' b := by
  refine ⟨hn, Nat.ne_of_gt (Nat.lt_of_lt_of_le I.lt hb), I.nofs hb, .inr (Nat.le_trans I.sz hb), fun x c e z => ?_, fun p hp z => ?_⟩
  · obtain ⟨v, q⟩ := I.cell x c e
    exact absurd (Nat.lt_of_lt_of_le q.lt (by rw [z]; exact hb)) (Nat.lt_irrefl _)
  · exact absurd (Nat.lt_of_lt_of_le (Heap.lt_size (I.pin p hp).1) (by rw [z]; exact hb)) (Nat.lt_irrefl _)
structure Turn (P : Program) (w : World) (K : PySem.W.Frag) (tg : Expr) (J : It) (fp : List Addr) (it : Addr) (tn : Nat → Heap → Prop) : Prop where
  mem : it ∈ fp
  obj : ∀ i h, tn i h → ∀ b ∈ fp, ∃ o, h.get? b = some o ∧ ∀ v, o.data ≠ .cell v
  keep : ∀ i h h', tn i h → (∀ b ∈ fp, ∀ o, h.get? b = some o → h'.get? b = some o) → tn i h'
  item : ∀ (X : Cx), X.prog = P → X.w = w → X.K = K → X.calm = true → ∀ (i : Nat) (pins : List (Addr × Obj)) (s : Shared) (σ : St) (H : Hp) (E : Value → Shared → Prop), Inv X pins σ H s → (∀ b ∈ fp, FpOk X pins H b) → tn i s.heap → J.go i H →
    wpAny (model P w) X.A (pyNext (.ref it)) (fun r s1 => ∃ u, r = some u ∧
      wpAny (model P w) X.A (letOwnedTupleGo tg (.ref it) u) (fun _ s2 => ∃ x H', Inv X pins σ H' s2 ∧ RelV x u ∧ J.yld i H x H' ∧ tn (i + 1) s2.heap ∧ ∀ b ∈ fp, H' b = none) E s1) E s
  done : ∀ (X : Cx), X.prog = P → X.w = w → X.K = K → X.calm = true → ∀ (i : Nat) (pins : List (Addr × Obj)) (s : Shared) (σ : St) (H : Hp) (E : Value → Shared → Prop), Inv X pins σ H s → (∀ b ∈ fp, FpOk X pins H b) → tn i s.heap → J.stop i H →
    wpAny (model P w) X.A (pyNext (.ref it)) (fun r s1 => r = none ∧ Inv X pins σ H s1) E s
  self : ∀ (A : Around) (i : Nat) (s : Shared) (Q : Value → Shared → Prop) (E : Value → Shared → Prop), tn i s.heap → Q (.ref it) s → wpAny (model P w) A (pyIter (.ref it)) Q E s
abbrev TI := St → Hp → (It → Hp → Prop) → Prop
/-- an iterator has come -/
def PIE (X : Cx) (pins : List (Addr × Obj)) (σ : St) (tg : Expr) (R : It → Hp → Prop) (itv : Value) (s2 : Shared) : Prop :=
  ∃ (it : Addr) (fp : List Addr) (tn : Nat → Heap → Prop) (J : It) (H' : Hp), itv = .ref it ∧ Inv X pins σ H' s2 ∧ Turn X.prog X.w X.K tg J fp it tn ∧ tn 0 s2.heap ∧ (∀ b ∈ fp, FpOk X pins H' b) ∧ R J H'
def PI (X : Cx) (tg iter : Expr) (wi : TI) : Prop :=
  ∀ (pins : List (Addr × Obj)) (s : Shared) (σ : St) (H : Hp) (R : It → Hp → Prop), Inv X pins σ H s → wi σ H R →
    wpAny (model X.prog X.w) X.A (eval iter X.env) (fun v s1 => wpAny (model X.prog X.w) X.A (pyIter v) (PIE X pins σ tg R) X.xe s1) X.xe s

/-- the step ahead of the store is nothing for an iterator that keeps no tuple -/
theorem go_of {M : Model} {A : Around} {E : Value → Shared → Prop} {s : Shared} {tg : Expr} {it : Addr} {u : Value} {o : Obj} {n : String} {vs : Array Value} {Q : Unit → Shared → Prop} (ho : s.heap.get? it = some o) (hc : o.cls = .type n) (hd : o.data = .fields vs)
    (hn : ["enumerate", "zip", "dict_itemiterator", "dict_reverseitemiterator", "odict_iterator", "itertools.zip_longest", "itertools.pairwise"].contains n = false) (hQ : Q () s) : wpAny M A (letOwnedTupleGo tg (.ref it) u) Q E s := by
  unfold letOwnedTupleGo
  cases tg <;> first
    | exact wpAny_pure hQ
    | (cases u <;> first
        | exact wpAny_pure hQ
        | (refine wpAny_bind (wpAny_load ho ?_)
           rw [hc, hd]
           show wpAny M A (if (["enumerate", "zip", "dict_itemiterator", "dict_reverseitemiterator", "odict_iterator", "itertools.zip_longest", "itertools.pairwise"].contains n && vs[0]? == some (rawInt _)) = true then _ else _) Q E s
           rw [if_neg (by intro h; rw [hn, Bool.false_and] at h; cases h)]
           exact wpAny_pure hQ))

/-- the list at a, as it stands at each turn (a loop may append to it) -/
def Itl (K : PySem.W.Frag) (a : Addr) : It :=
  ⟨fun i H => ∃ xs x, SqL K H a xs ∧ xs[i]? = some x, fun i H x H' => H' = H ∧ ∀ xs, SqL K H a xs → xs[i]? = some x, fun i H => ∃ xs, SqL K H a xs ∧ xs.length ≤ i⟩
def Itt (K : PySem.W.Frag) (a : Addr) : It :=
  ⟨fun i H => ∃ xs x, SqT K H a xs ∧ xs[i]? = some x, fun i H x H' => H' = H ∧ ∀ xs, SqT K H a xs → xs[i]? = some x, fun i H => ∃ xs, SqT K H a xs ∧ xs.length ≤ i⟩
/-- lo, lo + 1, .. (n of them) -/
def Itr (lo : Int) (n : Nat) : It := ⟨fun i _ => i < n, fun i H x H' => H' = H ∧ x = .int (lo + i), fun i _ => n ≤ i⟩
theorem turn_list {P : Program} {w : World} {K : PySem.W.Frag} {tg : Expr} (a it : Addr) : Turn P w K tg (Itl K a) [it] it (fun i h => h.IsListIter it a i) where
  mem := by simp
  obj := fun i h st b hb => by
    have e : b = it := by simpa using hb
    subst e
    obtain ⟨o, e, c, d⟩ := st
    exact ⟨o, e, fun v z => by rw [d] at z; cases z⟩
  keep := fun i h h' st k => st.at fun o e => k it (by simp) o e
  item := by
    intro X hP hw hK hc i pins s σ H E I hf st hg
    subst hP hw hK
    obtain ⟨xs, x, hq, hx⟩ := hg
    obtain ⟨its, rv, p, hz⟩ := I.list hq
    obtain ⟨u, hu, ru⟩ := rv.get hx
    obtain ⟨f0, f1, f2, f3, f4, f5⟩ := hf it (by simp)
    refine wpAny_pyNext_list_item st p.isList (x := u) (by simpa using hu) fun h' st' sb => ?_
    have I1 : Inv X pins σ H { s with heap := h' } := I.turned (t' := s.toks) (fun b o hb e => (sb.2 b hb).trans e) f0 f1 f3 f4 f5
    obtain ⟨o, e, c, d⟩ := id st'
    exact ⟨u, rfl, go_of (s := { s with heap := h' }) e c d (by decide) ⟨x, H, I1, ru, ⟨rfl, fun ys hy => by rw [I.list_inj hy hq]; exact hx⟩, st', fun b hb => (hf b hb).1⟩⟩
  done := by
    intro X hP hw hK hc i pins s σ H E I hf st hg
    subst hP hw hK
    obtain ⟨xs, hq, hx⟩ := hg
    obtain ⟨its, rv, p, hz⟩ := I.list hq
    obtain ⟨f0, f1, f2, f3, f4, f5⟩ := hf it (by simp)
    have hl := rv.length
    exact wpAny_pyNext_list_end (I.ok.hd hc) st p.isList (by simp; omega) fun h' eb => ⟨rfl, I.turned (t' := s.toks) (fun b o hb e => eb b o hb e) f0 f1 f3 f4 f5⟩
  self := fun _ _ _ _ _ st h => wpAny_pyIter_listiter st h
theorem turn_tuple {P : Program} {w : World} {K : PySem.W.Frag} {tg : Expr} (a it : Addr) : Turn P w K tg (Itt K a) [it] it (fun i h => h.IsTupleIter it a i) where
  mem := by simp
  obj := fun i h st b hb => by
    have e : b = it := by simpa using hb
    subst e
    obtain ⟨o, e, c, d⟩ := st
    exact ⟨o, e, fun v z => by rw [d] at z; cases z⟩
  keep := fun i h h' st k => st.at fun o e => k it (by simp) o e
  item := by
    intro X hP hw hK hc i pins s σ H E I hf st hg
    subst hP hw hK
    obtain ⟨xs, x, hq, hx⟩ := hg
    obtain ⟨its, rv, p, hz⟩ := I.tuple hq
    obtain ⟨u, hu, ru⟩ := rv.get hx
    obtain ⟨f0, f1, f2, f3, f4, f5⟩ := hf it (by simp)
    refine wpAny_pyNext_tuple_item st (show s.heap.IsTuple a its.toArray from p) (x := u) (by simpa using hu) fun h' st' sb => ?_
    have I1 : Inv X pins σ H { s with heap := h' } := I.turned (t' := s.toks) (fun b o hb e => (sb.2 b hb).trans e) f0 f1 f3 f4 f5
    obtain ⟨o, e, c, d⟩ := id st'
    exact ⟨u, rfl, go_of (s := { s with heap := h' }) e c d (by decide) ⟨x, H, I1, ru, ⟨rfl, fun ys hy => by rw [I.tuple_inj hy hq]; exact hx⟩, st', fun b hb => (hf b hb).1⟩⟩
  done := by
    intro X hP hw hK hc i pins s σ H E I hf st hg
    subst hP hw hK
    obtain ⟨xs, hq, hx⟩ := hg
    obtain ⟨its, rv, p, hz⟩ := I.tuple hq
    obtain ⟨f0, f1, f2, f3, f4, f5⟩ := hf it (by simp)
    have hl := rv.length
    exact wpAny_pyNext_tuple_end (I.ok.hd hc) st (show s.heap.IsTuple a its.toArray from p) (by simp; omega) fun h' eb => ⟨rfl, I.turned (t' := s.toks) (fun b o hb e => eb b o hb e) f0 f1 f3 f4 f5⟩
  self := fun _ _ _ _ _ st h => wpAny_pyIter_tupleiter st h
theorem turn_range {P : Program} {w : World} {K : PySem.W.Frag} {tg : Expr} (it : Addr) (lo : Int) (n : Nat) : Turn P w K tg (Itr lo n) [it] it (fun i h => IsRangeIter h it (lo + (i : Nat) * 1) ((n : Int) - (i : Nat)) 1) where
  mem := by simp
  obj := fun i h st b hb => by
    have e : b = it := by simpa using hb
    subst e
    exact ⟨_, st, fun v z => by
      have z' : Data.fields _ = Data.cell v := z
      cases z'⟩
  keep := fun i h h' st k => k it (by simp) _ st
  item := by
    intro X hP hw hK hc i pins s σ H E I hf st hg
    subst hP hw hK
    obtain ⟨f0, f1, f2, f3, f4, f5⟩ := hf it (by simp)
    have W := Walks.range (prog := X.prog) (w := X.w) (I.ok.hd hc) it lo 1 n
    refine W.item i s _ _ hg st fun v h' tk hv st' kk => ?_
    obtain ⟨t, rfl⟩ := hv
    have I1 : Inv X pins σ H { s with heap := h', toks := tk } := I.turned (fun b o hb e => kk b o (by simpa using hb) e) f0 f1 f3 f4 f5
    refine ⟨_, rfl, go_of (s := { s with heap := h', toks := tk }) (n := "range_iterator") st' rfl rfl (by decide) ⟨.int (lo + i), H, I1, ⟨t, ?_⟩, ⟨rfl, rfl⟩, st', fun b hb => (hf b hb).1⟩⟩
    rw [Int.mul_one]
  done := by
    intro X hP hw hK hc i pins s σ H E I hf st hg
    subst hP hw hK
    obtain ⟨f0, f1, f2, f3, f4, f5⟩ := hf it (by simp)
    exact wpAny_pyNext_range_end (I.ok.hd hc) st (by have : n ≤ i := hg; omega) fun h' eb => ⟨rfl, I.turned (t' := s.toks) (fun b o hb e => eb b o hb e) f0 f1 f3 f4 f5⟩
  self := fun _ _ _ _ _ st h => wpAny_pyIter_rangeiter st h
end L2

namespace L2
open PySem PySem.Spec PyProof.Rows
section
variable {X : Cx} {tg : Expr}
def iList (K : PySem.W.Frag) (tl : TE) : TI := fun σ H R => tl σ H fun x H1 => ∃ a, x = .ref a ∧ (∃ xs, SqL K H1 a xs) ∧ R (Itl K a) H1
def iTup (K : PySem.W.Frag) (tl : TE) : TI := fun σ H R => tl σ H fun x H1 => ∃ a, x = .ref a ∧ (∃ xs, SqT K H1 a xs) ∧ R (Itt K a) H1
theorem pi_list {l : Expr} {tl : TE} (hl : PE X l tl) : PI X tg l (iList X.K tl) := by
  intro pins s σ H R I h
  refine thn (hl pins s σ H _ I h) fun v s1 ⟨x, H1, I1, r1, q1⟩ => ?_
  obtain ⟨a, e, ⟨xs, hq⟩, q⟩ := q1
  subst e
  cases r1
  obtain ⟨its, rv, p, hz⟩ := I1.list hq
  refine wpAny_pyIter_list p.isList ?_
  refine ⟨s1.heap.objs.size, [s1.heap.objs.size], _, _, H1, rfl, I1.kept (t' := s1.toks) fun b o e => Heap.get?_push_of_some _ e, turn_list a _, ⟨_, Heap.get?_push_size _ rfl, rfl, rfl⟩, fun b hb => ?_, q⟩
  have e : b = s1.heap.objs.size := by simpa using hb
  subst e
  exact I1.fpOk (Nat.le_refl _) (I1.hok.fresh (Nat.le_refl _))
theorem pi_tup {l : Expr} {tl : TE} (hl : PE X l tl) : PI X tg l (iTup X.K tl) := by
  intro pins s σ H R I h
  refine thn (hl pins s σ H _ I h) fun v s1 ⟨x, H1, I1, r1, q1⟩ => ?_
  obtain ⟨a, e, ⟨xs, hq⟩, q⟩ := q1
  subst e
  cases r1
  obtain ⟨its, rv, p, hz⟩ := I1.tuple hq
  refine wpAny_pyIter_tuple (show s1.heap.IsTuple a its.toArray from p) ?_
  refine ⟨s1.heap.objs.size, [s1.heap.objs.size], _, _, H1, rfl, I1.kept (t' := s1.toks) fun b o e => Heap.get?_push_of_some _ e, turn_tuple a _, ⟨_, Heap.get?_push_size _ rfl, rfl, rfl⟩, fun b hb => ?_, q⟩
  have e : b = s1.heap.objs.size := by simpa using hb
  subst e
  exact I1.fpOk (Nat.le_refl _) (I1.hok.fresh (Nat.le_refl _))
/-- a range object just made, walked -/
theorem range_it {pins : List (Addr × Obj)} {σ : St} {H : Hp} {s : Shared} {R : It → Hp → Prop} {E : Value → Shared → Prop} {lo hi : Int} {t u v : Tok} {tk : Nat} (I : Inv X pins σ H s) (h1 : -(2 ^ 62) ≤ lo) (h2 : lo < 2 ^ 62) (h3 : -(2 ^ 62) ≤ hi) (h4 : hi < 2 ^ 62)
    (q : R (Itr lo (hi - lo).toNat) H) : wpAny (model X.prog X.w) X.A (pyIter (.ref s.heap.objs.size)) (PIE X pins σ tg R) E { s with heap := s.heap.push { cls := .type "range", data := .fields #[.int lo t, .int hi u, .int 1 v] }, toks := tk } := by
  refine wpAny_pyIter_range (IsRange.new ..) (small_one h1 h2 h3 h4) ?_
  have I1 : Inv X pins σ H { s with heap := s.heap.push { cls := .type "range", data := .fields #[.int lo t, .int hi u, .int 1 v] }, toks := tk } := I.kept fun b o e => Heap.get?_push_of_some _ e
  refine ⟨(s.heap.push { cls := .type "range", data := .fields #[.int lo t, .int hi u, .int 1 v] }).objs.size, [(s.heap.push { cls := .type "range", data := .fields #[.int lo t, .int hi u, .int 1 v] }).objs.size], _, _, H, rfl,
    I1.kept (t' := tk) fun b o e => Heap.get?_push_of_some _ e, turn_range _ lo (hi - lo).toNat, ?_, fun b hb => ?_, q⟩
  · have e1 : lo + ((0 : Nat) : Int) * 1 = lo := by simp
    have e2 : (((hi - lo).toNat : Nat) : Int) - ((0 : Nat) : Int) = Builtin.Range.rangeSize lo hi 1 := by rw [rangeSize_one]; split <;> omega
    show IsRangeIter _ _ (lo + ((0 : Nat) : Int) * 1) ((((hi - lo).toNat : Nat) : Int) - ((0 : Nat) : Int)) 1
    rw [e1, e2]
    exact Heap.get?_push_size _ rfl
  · have e : b = (s.heap.push { cls := .type "range", data := .fields #[.int lo t, .int hi u, .int 1 v] }).objs.size := by simpa using hb
    subst e
    exact I1.fpOk (Nat.le_refl _) (I1.hok.fresh (Nat.le_refl _))
def iRng1 (ta : TA) : TI := fun σ H R => ta σ H fun vs H1 => ∃ j : Int, vs = [.int j] ∧ -(2 ^ 62) ≤ j ∧ j < 2 ^ 62 ∧ R (Itr 0 j.toNat) H1
def iRng2 (ta : TA) : TI := fun σ H R => ta σ H fun vs H1 => ∃ i j : Int, vs = [.int i, .int j] ∧ (-(2 ^ 62) ≤ i ∧ i < 2 ^ 62 ∧ -(2 ^ 62) ≤ j ∧ j < 2 ^ 62) ∧ R (Itr i (j - i).toNat) H1
theorem pi_range1 {a : Expr} {ta : TA} {p pos : Pos} (hg : Gl X "range") (hm : X.mg "range" = none) (ha : PA X [a] ta) (hs : starEach [a] X.env = [(false, eval a X.env)] := by rfl) : PI X tg (.Call (.Name "range" p) [a] [] pos) (iRng1 ta) := by
  intro pins s σ H R I h
  refine Call_ (ld_blt I hg hm boot_range (PyProof.Rows.callWith_type1 (thn (ha pos pins s σ H _ I h) fun us s1 ⟨vs, H1, I1, r1, q1⟩ => ?_) hs rfl))
  obtain ⟨j, e, q1, q2, q⟩ := q1
  subst e
  cases r1 with
  | cons r rr =>
    cases rr
    obtain ⟨t, rfl⟩ := r
    exact call_range_1 (range_it I1 (by omega) (by omega) q1 q2 (by simpa using q))
theorem pi_range2 {a b : Expr} {ta : TA} {p pos : Pos} (hg : Gl X "range") (hm : X.mg "range" = none) (ha : PA X [a, b] ta) (hs : starEach [a, b] X.env = [(false, eval a X.env), (false, eval b X.env)] := by rfl) (hs2 : starEach [b] X.env = [(false, eval b X.env)] := by rfl) :
    PI X tg (.Call (.Name "range" p) [a, b] [] pos) (iRng2 ta) := by
  intro pins s σ H R I h
  refine Call_ (ld_blt I hg hm boot_range (PyProof.Rows.callWith_type1 (thn (ha pos pins s σ H _ I h) fun us s1 ⟨vs, H1, I1, r1, q1⟩ => ?_) (by rw [hs, hs2]) (by rw [hs2]; rfl)))
  obtain ⟨i, j, e, ⟨q1, q2, q3, q4⟩, q⟩ := q1
  subst e
  cases r1 with
  | cons r rr =>
    cases rr with
    | cons r' rr =>
      cases rr
      obtain ⟨t, rfl⟩ := r
      obtain ⟨t', rfl⟩ := r'
      exact call_range_2 (range_it I1 q1 q2 q3 q4 q)

/-! ### for -/
/-- W: the invariant by the turn and a measure; N: what the body is to reach -/
def tFor (wi : TI) (g : TG) (tb : TS) : TS := fun D σ H => wi σ H fun J H1 => ∃ W : Nat → Nat → St → Hp → Prop, (∃ m, W 0 m σ H1) ∧ ∀ i m σ H, W i m σ H →
  (J.stop i H ∧ D.nx σ H) ∨ (J.go i H ∧ ∃ N : St → Hp → Prop, (∀ σ' H', N σ' H' → ∃ m', m' < m ∧ W (i + 1) m' σ' H') ∧ ∀ x H', J.yld i H x H' → g x σ H' fun σ2 H2 => tb { D with nx := N, ct := N, bk := D.nx } σ2 H2)
/-- the records at fp as they stand -/
def pinsAt (fp : List Addr) (h : Heap) : List (Addr × Obj) := fp.filterMap fun b => (h.get? b).map fun o => (b, o)
theorem mem_pinsAt {fp : List Addr} {h : Heap} {b : Addr} {o : Obj} (hb : b ∈ fp) (e : h.get? b = some o) : (b, o) ∈ pinsAt fp h := List.mem_filterMap.mpr ⟨b, hb, by rw [e]; rfl⟩
theorem of_pinsAt {fp : List Addr} {h : Heap} {p : Addr × Obj} (hp : p ∈ pinsAt fp h) : p.1 ∈ fp ∧ h.get? p.1 = some p.2 := by
  obtain ⟨b, hb, e⟩ := List.mem_filterMap.mp hp
  cases q : h.get? b with
  | none => rw [q] at e; cases e
  | some o =>
    rw [q] at e
    have e' : (b, o) = p := Option.some.inj e
    subst e'
    exact ⟨hb, q⟩
theorem Inv.pinned {pins : List (Addr × Obj)} {σ : St} {H : Hp} {s : Shared} {fp : List Addr} (I : Inv X pins σ H s) (hf : ∀ b ∈ fp, FpOk X pins H b) (ho : ∀ b ∈ fp, ∃ o, s.heap.get? b = some o ∧ ∀ v, o.data ≠ .cell v) : Inv X (pins ++ pinsAt fp s.heap) σ H s :=
  I.pins_of fun p hp => (List.mem_append.mp hp).elim (fun z => I.pin p (List.mem_append_right _ z)) fun z => by
    obtain ⟨hb, e⟩ := of_pinsAt z
    obtain ⟨f0, f1, f2, _⟩ := hf p.1 hb
    obtain ⟨o, e', d⟩ := ho p.1 hb
    rw [e] at e'; cases e'
    exact ⟨e, f0, f1, f2, d⟩
theorem Inv.unpinned {pins pl : List (Addr × Obj)} {σ : St} {H : Hp} {s : Shared} (I : Inv X (pins ++ pl) σ H s) : Inv X pins σ H s := I.pins_of fun p hp => I.pin p (List.mem_append_right _ (List.mem_append_left _ hp))
theorem ps_for {iter : Expr} {body : List Stmt} {wi : TI} {g : TG} {tb : TS} {pos : Pos} (hp : PassesOwn (model X.prog X.w) X.A X.env X.xe) (hc : X.calm = true) (hi : PI X tg iter wi) (hg : PG X tg g) (hb : PSs X body tb)
    (hs : ∀ x, foldedSetIterable iter X.env x = pure x := by intro _; rfl) : PS X (.For tg iter body [] pos) (tFor wi g tb) := by
  intro pins s σ H D I h
  refine wpAny_For (thn (hi pins s σ H _ I h) fun v s1 h1 => thn h1 fun itv s2 h2 => ?_) hs
  obtain ⟨it, fp, tn, J, H2, e, I2, T, st2, f2, W, ⟨m0, w0⟩, turn⟩ := h2
  subst e
  -- what stays true of the iterator's objects through the loop
  have stat : ∀ {H' : Hp}, (∀ b ∈ fp, H' b = none) → ∀ b ∈ fp, FpOk X pins H' b := fun hn b hb => ⟨hn b hb, (f2 b hb).2⟩
  refine codeAny_forLoop_any (fun n s' => ∃ i σ' H', Inv X pins σ' H' s' ∧ tn i s'.heap ∧ (∀ b ∈ fp, H' b = none) ∧ W i n σ' H') ?_ m0 ⟨0, σ, H2, I2, st2, fun b hb => (f2 b hb).1, w0⟩
  rintro n s3 ⟨i, σ3, H3, I3, st3, fr3, w3⟩
  rcases turn i n σ3 H3 w3 with ⟨stop, qn⟩ | ⟨go, N, hN, step⟩
  · refine wpAny_passesOwn hp (thn (T.done X rfl rfl rfl hc i pins s3 σ3 H3 X.xe I3 (stat fr3) st3 stop) fun r s4 ⟨hr, I4⟩ => ?_)
    subst hr
    exact wpAny_execs_nil ⟨σ3, H3, I4, qn⟩
  · refine wpAny_passesOwn hp (thn (T.item X rfl rfl rfl hc i pins s3 σ3 H3 X.xe I3 (stat fr3) st3 go) fun r s4 ⟨u, hr, h4⟩ => ?_)
    subst hr
    refine wpAny_passesOwn hp (thn h4 fun _ s5 ⟨x, H5, I5, r5, y5, st5, fr5⟩ => ?_)
    have I5' := I5.pinned (stat fr5) (T.obj _ _ st5)
    refine wpAny_passesOwn hp (thn (hg _ s5 σ3 H5 x u _ I5' r5 (step x H5 y5)) fun _ s6 ⟨σ6, H6, I6, q6⟩ => ?_)
    refine wpAny_passesOwn hp (thn (hb _ s6 σ6 H6 _ I6 q6) fun f s7 q7 => ?_)
    have again : ∀ {σ7 : St} {H7 : Hp}, Inv X (pins ++ pinsAt fp s5.heap) σ7 H7 s7 → N σ7 H7 → ∃ m, m < n ∧ ∃ i σ' H', Inv X pins σ' H' s7 ∧ tn i s7.heap ∧ (∀ b ∈ fp, H' b = none) ∧ W i m σ' H' := fun {σ7 H7} I7 n7 => by
      obtain ⟨m', hm, w7⟩ := hN σ7 H7 n7
      refine ⟨m', hm, i + 1, σ7, H7, I7.unpinned, T.keep _ _ _ st5 fun b hb o e => (I7.pin (b, o) (List.mem_append_right _ (List.mem_append_right _ (mem_pinsAt hb e)))).1, fun b hb => ?_, w7⟩
      obtain ⟨o, e, d⟩ := T.obj _ _ st5 b hb
      exact (I7.pin (b, o) (List.mem_append_right _ (List.mem_append_right _ (mem_pinsAt hb e)))).2.1
    cases f with
    | next => obtain ⟨σ7, H7, I7, n7⟩ := q7; exact again I7 n7
    | cont => obtain ⟨σ7, H7, I7, n7⟩ := q7; exact again I7 n7
    | brk => obtain ⟨σ7, H7, I7, q7⟩ := q7; exact ⟨σ7, H7, I7.unpinned, q7⟩
    | ret v => obtain ⟨x7, σ7, H7, I7, r7, q7⟩ := q7; exact ⟨x7, σ7, H7, I7.unpinned, r7, q7⟩
end

/-! ### the forms one uses -/
/-- over a list that the body leaves as it is -/
theorem for_list {K : PySem.W.Frag} {a : Addr} {xs : List V} {g : TG} {tb : TS} {D : Ends} {σ : St} {H : Hp} (Pv : Nat → St → Hp → Prop) (h0 : Pv 0 σ H) (hl : ∀ i σ H, i ≤ xs.length → Pv i σ H → SqL K H a xs)
    (hs : ∀ i x σ H, xs[i]? = some x → Pv i σ H → g x σ H fun σ2 H2 => tb { D with nx := Pv (i + 1), ct := Pv (i + 1), bk := D.nx } σ2 H2) (hd : ∀ σ H, Pv xs.length σ H → D.nx σ H) :
    ∃ W : Nat → Nat → St → Hp → Prop, (∃ m, W 0 m σ H) ∧ ∀ i m σ H, W i m σ H →
      ((Itl K a).stop i H ∧ D.nx σ H) ∨ ((Itl K a).go i H ∧ ∃ N : St → Hp → Prop, (∀ σ' H', N σ' H' → ∃ m', m' < m ∧ W (i + 1) m' σ' H') ∧ ∀ x H', (Itl K a).yld i H x H' → g x σ H' fun σ2 H2 => tb { D with nx := N, ct := N, bk := D.nx } σ2 H2) := by
  refine ⟨fun i m σ H => m = xs.length - i ∧ i ≤ xs.length ∧ Pv i σ H, ⟨xs.length, by simp, Nat.zero_le _, h0⟩, ?_⟩
  rintro i m σ H ⟨rfl, hi, p⟩
  have q := hl i σ H hi p
  by_cases hlt : i < xs.length
  · refine .inr ⟨⟨xs, xs[i], q, by simp [hlt]⟩, Pv (i + 1), fun σ' H' p' => ⟨xs.length - (i + 1), by omega, rfl, hlt, p'⟩, fun x H' y => ?_⟩
    obtain ⟨e, y⟩ := y
    subst e
    exact hs i x σ _ (y xs q) p
  · have e : i = xs.length := by omega
    subst e
    exact .inl ⟨⟨xs, q, Nat.le_refl _⟩, hd σ H p⟩
theorem for_tup {K : PySem.W.Frag} {a : Addr} {xs : List V} {g : TG} {tb : TS} {D : Ends} {σ : St} {H : Hp} (Pv : Nat → St → Hp → Prop) (h0 : Pv 0 σ H) (hl : ∀ i σ H, i ≤ xs.length → Pv i σ H → SqT K H a xs)
    (hs : ∀ i x σ H, xs[i]? = some x → Pv i σ H → g x σ H fun σ2 H2 => tb { D with nx := Pv (i + 1), ct := Pv (i + 1), bk := D.nx } σ2 H2) (hd : ∀ σ H, Pv xs.length σ H → D.nx σ H) :
    ∃ W : Nat → Nat → St → Hp → Prop, (∃ m, W 0 m σ H) ∧ ∀ i m σ H, W i m σ H →
      ((Itt K a).stop i H ∧ D.nx σ H) ∨ ((Itt K a).go i H ∧ ∃ N : St → Hp → Prop, (∀ σ' H', N σ' H' → ∃ m', m' < m ∧ W (i + 1) m' σ' H') ∧ ∀ x H', (Itt K a).yld i H x H' → g x σ H' fun σ2 H2 => tb { D with nx := N, ct := N, bk := D.nx } σ2 H2) := by
  refine ⟨fun i m σ H => m = xs.length - i ∧ i ≤ xs.length ∧ Pv i σ H, ⟨xs.length, by simp, Nat.zero_le _, h0⟩, ?_⟩
  rintro i m σ H ⟨rfl, hi, p⟩
  have q := hl i σ H hi p
  by_cases hlt : i < xs.length
  · refine .inr ⟨⟨xs, xs[i], q, by simp [hlt]⟩, Pv (i + 1), fun σ' H' p' => ⟨xs.length - (i + 1), by omega, rfl, hlt, p'⟩, fun x H' y => ?_⟩
    obtain ⟨e, y⟩ := y
    subst e
    exact hs i x σ _ (y xs q) p
  · have e : i = xs.length := by omega
    subst e
    exact .inl ⟨⟨xs, q, Nat.le_refl _⟩, hd σ H p⟩
theorem for_range {lo : Int} {n : Nat} {g : TG} {tb : TS} {D : Ends} {σ : St} {H : Hp} (Pv : Nat → St → Hp → Prop) (h0 : Pv 0 σ H)
    (hs : ∀ i σ H, i < n → Pv i σ H → g (.int (lo + i)) σ H fun σ2 H2 => tb { D with nx := Pv (i + 1), ct := Pv (i + 1), bk := D.nx } σ2 H2) (hd : ∀ σ H, Pv n σ H → D.nx σ H) :
    ∃ W : Nat → Nat → St → Hp → Prop, (∃ m, W 0 m σ H) ∧ ∀ i m σ H, W i m σ H →
      ((Itr lo n).stop i H ∧ D.nx σ H) ∨ ((Itr lo n).go i H ∧ ∃ N : St → Hp → Prop, (∀ σ' H', N σ' H' → ∃ m', m' < m ∧ W (i + 1) m' σ' H') ∧ ∀ x H', (Itr lo n).yld i H x H' → g x σ H' fun σ2 H2 => tb { D with nx := N, ct := N, bk := D.nx } σ2 H2) := by
  refine ⟨fun i m σ H => m = n - i ∧ i ≤ n ∧ Pv i σ H, ⟨n, by simp, Nat.zero_le _, h0⟩, ?_⟩
  rintro i m σ H ⟨rfl, hi, p⟩
  by_cases hlt : i < n
  · refine .inr ⟨hlt, Pv (i + 1), fun σ' H' p' => ⟨n - (i + 1), by omega, rfl, hlt, p'⟩, fun x H' y => ?_⟩
    obtain ⟨e, y⟩ := y
    subst e y
    exact hs i σ _ hlt p
  · have e : i = n := by omega
    subst e
    exact .inl ⟨Nat.le_refl _, hd σ H p⟩
/-- while, by a word and a measure of the state -/
theorem while_by {c : TT} {tb : TS} {D : Ends} {σ : St} {H : Hp} (Pv : St → Hp → Prop) (μ : St → Hp → Nat) (h0 : Pv σ H)
    (hs : ∀ σ H, Pv σ H → c σ H fun b H1 => if b = true then tb { D with nx := fun σ' H' => Pv σ' H' ∧ μ σ' H' < μ σ H, ct := fun σ' H' => Pv σ' H' ∧ μ σ' H' < μ σ H, bk := D.nx } σ H1 else D.nx σ H1)
    (mono : ∀ σ H Q Q', (∀ b H1, Q b H1 → Q' b H1) → c σ H Q → c σ H Q') : tWhile c tb D σ H := by
  refine ⟨fun m σ H => m = μ σ H ∧ Pv σ H, ⟨_, rfl, h0⟩, ?_⟩
  rintro m σ H ⟨rfl, p⟩
  refine mono σ H _ _ (fun b H1 q => ?_) (hs σ H p)
  cases b with
  | true => exact ⟨_, fun σ' H' ⟨p', l⟩ => ⟨_, l, rfl, p'⟩, q⟩
  | false => exact q
end L2

namespace L2
open PySem PySem.Spec PyProof.Rows

abbrev R2 := V → V → Hp → VK → Prop
/-- a two-place operation on values: f is binaryOp op, inplaceOp op or compareOp op -/
def OpR (X : Cx) (f : Value → Value → Sem Value) (r : R2) : Prop :=
  ∀ (pins : List (Addr × Obj)) (s : Shared) (σ : St) (H : Hp) (x y : V) (v u : Value) (Q : VK), Inv X pins σ H s → RelV x v → RelV y u → r x y H Q →
    wpAny (model X.prog X.w) X.A (f v u) (EP X pins σ Q) X.xe s
/-- a one-place operation -/
def UnR (X : Cx) (f : Value → Sem Value) (r : V → Hp → VK → Prop) : Prop :=
  ∀ (pins : List (Addr × Obj)) (s : Shared) (σ : St) (H : Hp) (x : V) (v : Value) (Q : VK), Inv X pins σ H s → RelV x v → r x H Q →
    wpAny (model X.prog X.w) X.A (f v) (EP X pins σ Q) X.xe s
/-- a call of a value that is known (a builtin, a type) with values -/
def CallR (X : Cx) (f : Value) (r : List V → Hp → VK → Prop) : Prop :=
  ∀ (pins : List (Addr × Obj)) (s : Shared) (σ : St) (H : Hp) (xs : List V) (us : List Value) (Q : VK), Inv X pins σ H s → Vals xs us → r xs H Q →
    wpAny (model X.prog X.w) X.A (call f us) (EP X pins σ Q) X.xe s
/-- a value's truth -/
def TruR (X : Cx) (r : V → Hp → (Bool → Hp → Prop) → Prop) : Prop :=
  ∀ (pins : List (Addr × Obj)) (s : Shared) (σ : St) (H : Hp) (x : V) (v : Value) (Q : Bool → Hp → Prop), Inv X pins σ H s → RelV x v → r x H Q →
    wpAny (model X.prog X.w) X.A (truthy v) (TP X pins σ Q) X.xe s

def tOp (r : R2) (ta tb : TE) : TE := fun σ H Q => ta σ H fun x H1 => tb σ H1 fun y H2 => r x y H2 Q
def tUn (r : V → Hp → VK → Prop) (ta : TE) : TE := fun σ H Q => ta σ H fun x H1 => r x H1 Q
/-- ints in, under C, and a value out -/
def rI (C : Int → Int → Prop) (g : Int → Int → V) : R2 := fun x y H Q => ∃ i j, x = .int i ∧ y = .int j ∧ C i j ∧ Q (g i j) H
def rI0 (g : Int → Int → V) : R2 := fun x y H Q => ∃ i j, x = .int i ∧ y = .int j ∧ Q (g i j) H
def rU (g : Int → V) : V → Hp → VK → Prop := fun x H Q => ∃ i, x = .int i ∧ Q (g i) H

section
variable {X : Cx} {a b c : Expr} {ta tb tc : TE} {pos : Pos}

theorem binT (ha : PE X a ta) (hb : PE X b tb) {pins : List (Addr × Obj)} {s : Shared} {σ : St} {H : Hp} {R : V → V → Hp → Prop} (I : Inv X pins σ H s)
    (h : ta σ H fun x H1 => tb σ H1 fun y H2 => R x y H2) {Q : Value → Shared → Prop} {f : Value → Value → Sem Value}
    (hf : ∀ v u s2 x y H2, Inv X pins σ H2 s2 → RelV x v → RelV y u → R x y H2 → wpAny (model X.prog X.w) X.A (f v u) Q X.xe s2) :
    wpAny (model X.prog X.w) X.A (eval a X.env) (fun v s₁ => wpAny (model X.prog X.w) X.A (eval b X.env) (fun u s₂ => wpAny (model X.prog X.w) X.A (f v u) Q X.xe s₂) X.xe s₁) X.xe s := by
  refine thn (ha pins s σ H _ I h) fun v s1 ⟨x, H1, I1, r1, q1⟩ => ?_
  refine thn (hb pins s1 σ H1 _ I1 q1) fun u s2 ⟨y, H2, I2, r2, q2⟩ => ?_
  exact hf v u s2 x y H2 I2 r1 r2 q2

theorem pe_op {op : Operator} {r : R2} (ho : OpR X (binaryOp op) r) (ha : PE X a ta) (hb : PE X b tb) : PE X (.BinOp a op b pos) (tOp r ta tb) := by
  intro pins s σ H Q I h
  exact wpAny_BinOp (binT ha hb I h fun v u s2 x y H2 I2 rx ry q => ho pins s2 σ H2 x y v u Q I2 rx ry q)
theorem pe_un {op : UnaryOp} {r : V → Hp → VK → Prop} (ho : UnR X (unaryOp op) r) (ha : PE X a ta) : PE X (.UnaryOp op a pos) (tUn r ta) := by
  intro pins s σ H Q I h
  exact UnaryOp_ (thn (ha pins s σ H _ I h) fun v s1 ⟨x, H1, I1, r1, q1⟩ => ho pins s1 σ H1 x v Q I1 r1 q1)
/-- a op= e at a name: the name's slot i -/
theorem augR {op : Operator} {r : R2} (ho : OpR X (inplaceOp op) r) {pins : List (Addr × Obj)} {s : Shared} {σ : St} {H : Hp} {x y : V} {v u : Value} {Q : VK} (I : Inv X pins σ H s)
    (rx : RelV x v) (ry : RelV y u) (q : r x y H Q) : wpAny (model X.prog X.w) X.A (inplaceOp op v u) (EP X pins σ Q) X.xe s := ho pins s σ H x y v u Q I rx ry q

/-! ### ints -/
theorem opI {f : Value → Value → Sem Value} {C : Int → Int → Prop} {g : Int → Int → Int}
    (rule : ∀ (i j : Int) (t u : Tok) (s : Shared) (Q : Value → Shared → Prop) (E : Value → Shared → Prop), C i j → Q (.int (g i j) s.toks) { s with toks := s.toks + 1 } → wpAny (model X.prog X.w) X.A (f (.int i t) (.int j u)) Q E s) :
    OpR X f (rI C fun i j => .int (g i j)) := by
  intro pins s σ H x y v u Q I rx ry h
  obtain ⟨i, j, rfl, rfl, hc, q⟩ := h
  obtain ⟨t, rfl⟩ := rx
  obtain ⟨t', rfl⟩ := ry
  exact rule i j t t' s _ _ hc ⟨.int (g i j), H, I.tok _, ⟨_, rfl⟩, q⟩
theorem opI0 {f : Value → Value → Sem Value} {g : Int → Int → Int}
    (rule : ∀ (i j : Int) (t u : Tok) (s : Shared) (Q : Value → Shared → Prop) (E : Value → Shared → Prop), Q (.int (g i j) s.toks) { s with toks := s.toks + 1 } → wpAny (model X.prog X.w) X.A (f (.int i t) (.int j u)) Q E s) :
    OpR X f (rI0 fun i j => .int (g i j)) := by
  intro pins s σ H x y v u Q I rx ry h
  obtain ⟨i, j, rfl, rfl, q⟩ := h
  obtain ⟨t, rfl⟩ := rx
  obtain ⟨t', rfl⟩ := ry
  exact rule i j t t' s _ _ ⟨.int (g i j), H, I.tok _, ⟨_, rfl⟩, q⟩
theorem opB0 {f : Value → Value → Sem Value} {g : Int → Int → Bool}
    (rule : ∀ (i j : Int) (t u : Tok) (s : Shared) (Q : Value → Shared → Prop) (E : Value → Shared → Prop), Q (.bool (g i j)) s → wpAny (model X.prog X.w) X.A (f (.int i t) (.int j u)) Q E s) :
    OpR X f (rI0 fun i j => .bl (g i j)) := by
  intro pins s σ H x y v u Q I rx ry h
  obtain ⟨i, j, rfl, rfl, q⟩ := h
  obtain ⟨t, rfl⟩ := rx
  obtain ⟨t', rfl⟩ := ry
  exact rule i j t t' s _ _ ⟨.bl (g i j), H, I, rfl, q⟩

def CDiv (i j : Int) : Prop := 0 < j ∧ j < 1073741824
def CDivN (i j : Int) : Prop := j ≠ 0 ∧ j.natAbs < 1073741824
def CPow (i j : Int) : Prop := 0 ≤ j ∧ j ≤ 1000000 ∧ i.natAbs < 2 ^ 64
def CMul (i j : Int) : Prop := (-(2 ^ 64) < i ∧ i < 2 ^ 64) ∨ (-(2 ^ 64) < j ∧ j < 2 ^ 64)
theorem CMul.ok {i j : Int} (h : CMul i j) : IntMulOk i j := by
  rcases h with ⟨h1, h2⟩ | ⟨h1, h2⟩
  · exact .of_left (intBits_le_64 h1 h2)
  · exact .of_right (intBits_le_64 h1 h2)
theorem two_pow_nn (k : Nat) : (0 : Int) ≤ 2 ^ k := by
  rw [two_pow_cast]
  exact Int.natCast_nonneg _

theorem op_add : OpR X (binaryOp .Add) (rI0 fun i j => .int (i + j)) := opI0 fun _ _ _ _ _ _ _ q => add_int q
theorem op_sub : OpR X (binaryOp .Sub) (rI0 fun i j => .int (i - j)) := opI0 fun _ _ _ _ _ _ _ q => sub_int q
theorem op_mul : OpR X (binaryOp .Mult) (rI CMul fun i j => .int (i * j)) := opI fun _ _ _ _ _ _ _ hc q => mul_int q hc.ok
/-- // by a positive divisor -/
theorem op_fdiv : OpR X (binaryOp .FloorDiv) (rI CDiv fun i j => .int (i / j)) := opI fun i j _ _ _ _ _ hc q => by
  have h1 : (0 : Int) < j := hc.1
  have h2 : j < 1073741824 := hc.2
  exact floordiv_int (by omega) (by rw [Int.fdiv_eq_ediv_of_nonneg i (by omega)]; exact q) (.inl (PyProof.noPylong_small (by omega)))
theorem op_fdivN : OpR X (binaryOp .FloorDiv) (rI CDivN fun i j => .int (i.fdiv j)) := opI fun _ _ _ _ _ _ _ hc q => floordiv_int hc.1 q (.inl (PyProof.noPylong_small hc.2))
/-- % by a positive divisor of any size -/
theorem op_mod : OpR X (binaryOp .Mod) (rI (fun _ j => 0 < j) fun i j => .int (i % j)) := opI fun i j _ _ _ _ _ hc q => by
  have h1 : (0 : Int) < j := hc
  exact mod_int' (by omega) (by rw [Int.fmod_eq_emod_of_nonneg i (by omega)]; exact q)
theorem op_modN : OpR X (binaryOp .Mod) (rI (fun _ j => j ≠ 0) fun i j => .int (i.fmod j)) := opI fun _ _ _ _ _ _ _ hc q => mod_int' hc q
theorem op_pow : OpR X (binaryOp .Pow) (rI CPow fun i j => .int (i ^ j.toNat)) := opI fun _ _ _ _ _ _ _ hc q => pow_int_small hc.1 hc.2.1 hc.2.2 q
theorem op_shl : OpR X (binaryOp .LShift) (rI CPow fun i j => .int (i * 2 ^ j.toNat)) := opI fun _ _ _ _ _ _ _ hc q => lshift_int_small hc.1 hc.2.1 hc.2.2 q
theorem op_shr : OpR X (binaryOp .RShift) (rI (fun _ j => 0 ≤ j) fun i j => .int (i / 2 ^ j.toNat)) := opI fun i j _ _ _ _ _ hc q =>
  rshift_int hc (by rw [Int.fdiv_eq_ediv_of_nonneg i (two_pow_nn _)]; exact q)
theorem op_and : OpR X (binaryOp .BitAnd) (rI0 fun i j => .int (Builtin.bitAnd i j)) := opI0 fun _ _ _ _ _ _ _ q => and_int q
theorem op_or : OpR X (binaryOp .BitOr) (rI0 fun i j => .int (Builtin.bitOr i j)) := opI0 fun _ _ _ _ _ _ _ q => or_int q
theorem op_xor : OpR X (binaryOp .BitXor) (rI0 fun i j => .int (Builtin.bitXor i j)) := opI0 fun _ _ _ _ _ _ _ q => xor_int q

theorem iop_add : OpR X (inplaceOp .Add) (rI0 fun i j => .int (i + j)) := opI0 fun _ _ _ _ _ _ _ q => iadd_int q
theorem iop_sub : OpR X (inplaceOp .Sub) (rI0 fun i j => .int (i - j)) := opI0 fun _ _ _ _ _ _ _ q => isub_int q
theorem iop_mul : OpR X (inplaceOp .Mult) (rI CMul fun i j => .int (i * j)) := opI fun _ _ _ _ _ _ _ hc q => imul_int q hc.ok
theorem iop_fdiv : OpR X (inplaceOp .FloorDiv) (rI CDiv fun i j => .int (i / j)) := opI fun i j _ _ _ _ _ hc q => by
  have h1 : (0 : Int) < j := hc.1
  have h2 : j < 1073741824 := hc.2
  exact ifloordiv_int (by omega) (by rw [Int.fdiv_eq_ediv_of_nonneg i (by omega)]; exact q) (.inl (PyProof.noPylong_small (by omega)))
theorem iop_mod : OpR X (inplaceOp .Mod) (rI (fun _ j => 0 < j) fun i j => .int (i % j)) := opI fun i j _ _ _ _ _ hc q => by
  have h1 : (0 : Int) < j := hc
  exact imod_int (by omega) (by rw [Int.fmod_eq_emod_of_nonneg i (by omega)]; exact q)
theorem iop_shl : OpR X (inplaceOp .LShift) (rI CPow fun i j => .int (i * 2 ^ j.toNat)) := opI fun _ _ _ _ _ _ _ hc q => ilshift_int_small hc.1 hc.2.1 hc.2.2 q
theorem iop_shr : OpR X (inplaceOp .RShift) (rI (fun _ j => 0 ≤ j) fun i j => .int (i / 2 ^ j.toNat)) := opI fun i j _ _ _ _ _ hc q =>
  irshift_int hc (by rw [Int.fdiv_eq_ediv_of_nonneg i (two_pow_nn _)]; exact q)
theorem iop_and : OpR X (inplaceOp .BitAnd) (rI0 fun i j => .int (Builtin.bitAnd i j)) := opI0 fun _ _ _ _ _ _ _ q => iand_int q
theorem iop_or : OpR X (inplaceOp .BitOr) (rI0 fun i j => .int (Builtin.bitOr i j)) := opI0 fun _ _ _ _ _ _ _ q => ior_int q
theorem iop_xor : OpR X (inplaceOp .BitXor) (rI0 fun i j => .int (Builtin.bitXor i j)) := opI0 fun _ _ _ _ _ _ _ q => ixor_int q

theorem unI {f : Value → Sem Value} {g : Int → Int}
    (rule : ∀ (i : Int) (t : Tok) (s : Shared) (Q : Value → Shared → Prop) (E : Value → Shared → Prop), Q (.int (g i) s.toks) { s with toks := s.toks + 1 } → wpAny (model X.prog X.w) X.A (f (.int i t)) Q E s) :
    UnR X f (rU fun i => .int (g i)) := by
  intro pins s σ H x v Q I rx h
  obtain ⟨i, rfl, q⟩ := h
  obtain ⟨t, rfl⟩ := rx
  exact rule i t s _ _ ⟨.int (g i), H, I.tok _, ⟨_, rfl⟩, q⟩
theorem un_neg : UnR X (unaryOp .USub) (rU fun i => .int (-i)) := unI fun _ _ _ _ _ q => neg_int q
theorem un_inv : UnR X (unaryOp .Invert) (rU fun i => .int (Builtin.bitNot i)) := unI fun _ _ _ _ _ q => invert_int q

/-! ### bools among ints: n += (a < b) -/
theorem op_add_ib : OpR X (binaryOp .Add) (fun x y H Q => ∃ i k, x = .int i ∧ y = .bl k ∧ Q (.int (i + b2i k)) H) := by
  intro pins s σ H x y v u Q I rx ry h
  obtain ⟨i, k, rfl, rfl, q⟩ := h
  obtain ⟨t, rfl⟩ := rx
  cases ry
  exact add_int_bool ⟨.int (i + b2i k), H, I.tok _, ⟨_, rfl⟩, q⟩
end

/-! ### comparisons -/
/-- the scalars that == tells apart as data does -/
def scal : V → V → Bool
  | .non, .non => true | .non, .int _ => true | .int _, .non => true | .non, .bl _ => true | .bl _, .non => true | .non, .str _ => true | .str _, .non => true
  | .int _, .int _ => true | .bl _, .bl _ => true | .str _, .str _ => true | .byt _, .byt _ => true
  | .int _, .str _ => true | .str _, .int _ => true | .bl _, .str _ => true | .str _, .bl _ => true
  | _, _ => false
def rEq : R2 := fun x y H Q => scal x y = true ∧ Q (.bl (decide (x = y))) H
def rNe : R2 := fun x y H Q => scal x y = true ∧ Q (.bl (!decide (x = y))) H

theorem dec_int {i j : Int} : decide (V.int i = V.int j) = (i == j) := by
  rw [Bool.eq_iff_iff]
  simp
theorem dec_bl {i j : Bool} : decide (V.bl i = V.bl j) = (i == j) := by
  rw [Bool.eq_iff_iff]
  simp
theorem dec_str {i j : Str} : decide (V.str i = V.str j) = (i == j) := by
  rw [Bool.eq_iff_iff]
  simp
theorem dec_byt {i j : Array UInt8} : decide (V.byt i = V.byt j) = (i.toList == j.toList) := by
  rw [Bool.eq_iff_iff]
  cases i
  cases j
  simp

section
variable {X : Cx} {a b c : Expr} {ta tb tc : TE} {pos : Pos}
theorem fin_bl {pins : List (Addr × Obj)} {σ : St} {H : Hp} {s : Shared} {Q : VK} {k k' : Bool} (I : Inv X pins σ H s) (q : Q (.bl k) H) (e : k = k') : EP X pins σ Q (.bool k') s := by
  subst e
  exact ⟨.bl k, H, I, rfl, q⟩
theorem op_eq : OpR X (compareOp .Eq) rEq := by
  intro pins s σ H x y v u Q I rx ry h
  obtain ⟨hs, q⟩ := h
  cases x with
  | non =>
    cases rx
    cases y with
    | non => cases ry; exact PySem.EqNone.eq_none_none (fin_bl I q (by simp))
    | bl j => cases ry; exact PySem.EqNone.eq_none_bool (fin_bl I q (by simp))
    | int j => obtain ⟨t', rfl⟩ := ry; exact PySem.EqNone.eq_none_int (fin_bl I q (by simp))
    | str j => obtain ⟨t', rfl⟩ := ry; exact PySem.EqNone.eq_none_str (fin_bl I q (by simp))
    | _ => exact absurd (show false = true from hs) Bool.false_ne_true
  | bl i =>
    cases rx
    cases y with
    | non => cases ry; exact PySem.EqNone.eq_bool_none (fin_bl I q (by simp))
    | bl j => cases ry; exact eq_bool (fin_bl I q dec_bl)
    | str j => obtain ⟨t', rfl⟩ := ry; exact PySem.EqMixed.eq_bool_str (fin_bl I q (by simp))
    | _ => exact absurd (show false = true from hs) Bool.false_ne_true
  | int i =>
    obtain ⟨t, rfl⟩ := rx
    cases y with
    | non => cases ry; exact PySem.EqNone.eq_int_none (fin_bl I q (by simp))
    | int j => obtain ⟨t', rfl⟩ := ry; exact eq_int (fin_bl I q dec_int)
    | str j => obtain ⟨t', rfl⟩ := ry; exact PySem.EqMixed.eq_int_str (fin_bl I q (by simp))
    | _ => exact absurd (show false = true from hs) Bool.false_ne_true
  | str i =>
    obtain ⟨t, rfl⟩ := rx
    cases y with
    | non => cases ry; exact PySem.EqNone.eq_str_none (fin_bl I q (by simp))
    | bl j => cases ry; exact PySem.EqMixed.eq_str_bool (fin_bl I q (by simp))
    | int j => obtain ⟨t', rfl⟩ := ry; exact PySem.EqMixed.eq_str_int (fin_bl I q (by simp))
    | str j => obtain ⟨t', rfl⟩ := ry; exact eq_str (fin_bl I q dec_str)
    | _ => exact absurd (show false = true from hs) Bool.false_ne_true
  | byt i =>
    obtain ⟨t, rfl⟩ := rx
    cases y with
    | byt j => obtain ⟨t', rfl⟩ := ry; exact PySem.W.eq_bytes (fin_bl I q dec_byt)
    | _ => exact absurd (show false = true from hs) Bool.false_ne_true
  | _ => cases y <;> exact absurd (show false = true from hs) Bool.false_ne_true
theorem op_ne : OpR X (compareOp .NotEq) rNe := by
  intro pins s σ H x y v u Q I rx ry h
  obtain ⟨hs, q⟩ := h
  cases x with
  | non =>
    cases rx
    cases y with
    | non => cases ry; exact PySem.EqNone.ne_none_none (fin_bl I q (by simp))
    | bl j => cases ry; exact PySem.EqNone.ne_none_bool (fin_bl I q (by simp))
    | int j => obtain ⟨t', rfl⟩ := ry; exact PySem.EqNone.ne_none_int (fin_bl I q (by simp))
    | str j => obtain ⟨t', rfl⟩ := ry; exact PySem.EqNone.ne_none_str (fin_bl I q (by simp))
    | _ => exact absurd (show false = true from hs) Bool.false_ne_true
  | bl i =>
    cases rx
    cases y with
    | non => cases ry; exact PySem.EqNone.ne_bool_none (fin_bl I q (by simp))
    | bl j => cases ry; exact ne_bool (fin_bl I q (congrArg not dec_bl))
    | str j => obtain ⟨t', rfl⟩ := ry; exact PySem.EqMixed.ne_bool_str (fin_bl I q (by simp))
    | _ => exact absurd (show false = true from hs) Bool.false_ne_true
  | int i =>
    obtain ⟨t, rfl⟩ := rx
    cases y with
    | non => cases ry; exact PySem.EqNone.ne_int_none (fin_bl I q (by simp))
    | int j => obtain ⟨t', rfl⟩ := ry; exact ne_int (fin_bl I q (congrArg not dec_int))
    | str j => obtain ⟨t', rfl⟩ := ry; exact PySem.EqMixed.ne_int_str (fin_bl I q (by simp))
    | _ => exact absurd (show false = true from hs) Bool.false_ne_true
  | str i =>
    obtain ⟨t, rfl⟩ := rx
    cases y with
    | non => cases ry; exact PySem.EqNone.ne_str_none (fin_bl I q (by simp))
    | bl j => cases ry; exact PySem.EqMixed.ne_str_bool (fin_bl I q (by simp))
    | int j => obtain ⟨t', rfl⟩ := ry; exact PySem.EqMixed.ne_str_int (fin_bl I q (by simp))
    | str j => obtain ⟨t', rfl⟩ := ry; exact ne_str (fin_bl I q (congrArg not dec_str))
    | _ => exact absurd (show false = true from hs) Bool.false_ne_true
  | byt i =>
    obtain ⟨t, rfl⟩ := rx
    cases y with
    | byt j => obtain ⟨t', rfl⟩ := ry; exact PySem.W.ne_bytes (fin_bl I q (congrArg not dec_byt))
    | _ => exact absurd (show false = true from hs) Bool.false_ne_true
  | _ => cases y <;> exact absurd (show false = true from hs) Bool.false_ne_true

theorem op_lt : OpR X (compareOp .Lt) (rI0 fun i j => .bl (decide (i < j))) := opB0 fun _ _ _ _ _ _ _ q => lt_int q
theorem op_le : OpR X (compareOp .LtE) (rI0 fun i j => .bl (decide (i ≤ j))) := opB0 fun _ _ _ _ _ _ _ q => le_int q
theorem op_gt : OpR X (compareOp .Gt) (rI0 fun i j => .bl (decide (j < i))) := opB0 fun _ _ _ _ _ _ _ q => gt_int q
theorem op_ge : OpR X (compareOp .GtE) (rI0 fun i j => .bl (decide (j ≤ i))) := opB0 fun _ _ _ _ _ _ _ q => ge_int q
theorem op_lt_str : OpR X (compareOp .Lt) (fun x y H Q => ∃ i j, x = .str i ∧ y = .str j ∧ Q (.bl (decide (i.cps.toList < j.cps.toList))) H) := by
  intro pins s σ H x y v u Q I rx ry h
  obtain ⟨i, j, rfl, rfl, q⟩ := h
  obtain ⟨t, rfl⟩ := rx
  obtain ⟨t', rfl⟩ := ry
  exact lt_str (fin_bl I q rfl)
/-- the one string within the other -/
theorem op_in_str : OpR X (compareOp .In) (fun x y H Q => ∃ i j, x = .str i ∧ y = .str j ∧ Q (.bl (!(Builtin.Str.occurrences j i 0 j.length 1).isEmpty)) H) := by
  intro pins s σ H x y v u Q I rx ry h
  obtain ⟨i, j, rfl, rfl, q⟩ := h
  obtain ⟨t, rfl⟩ := rx
  obtain ⟨t', rfl⟩ := ry
  exact in_str (fin_bl I q rfl)

/-- is None, is not None: the right side a value none -/
theorem op_isN : OpR X (compareOp .Is) (fun x y H Q => y = .non ∧ Q (.bl (decide (x = .non))) H) := by
  intro pins s σ H x y v u Q I rx ry h
  obtain ⟨rfl, q⟩ := h
  cases ry
  refine is_none_gen (fin_bl I q ?_)
  cases x <;> first
    | (cases rx; rfl)
    | (obtain ⟨t, rfl⟩ := rx; rfl)
theorem op_notN : OpR X (compareOp .IsNot) (fun x y H Q => y = .non ∧ Q (.bl (!decide (x = .non))) H) := by
  intro pins s σ H x y v u Q I rx ry h
  obtain ⟨rfl, q⟩ := h
  cases ry
  refine isnot_none_gen (fin_bl I q ?_)
  cases x <;> first
    | (cases rx; rfl)
    | (obtain ⟨t, rfl⟩ := rx; rfl)

theorem op_notin_str : OpR X (compareOp .NotIn) (fun x y H Q => ∃ i j, x = .str i ∧ y = .str j ∧ Q (.bl (!(!(Builtin.Str.occurrences j i 0 j.length 1).isEmpty))) H) := by
  intro pins s σ H x y v u Q I rx ry h
  obtain ⟨i, j, rfl, rfl, q⟩ := h
  obtain ⟨t, rfl⟩ := rx
  obtain ⟨t', rfl⟩ := ry
  exact notIn_str (fin_bl I q rfl)
/-- is, is not of two objects that are tracked lists or instances -/
def isObj : HO → Bool
  | .lst _ => true
  | .ins _ _ _ => true
  | _ => false
theorem obj_there {pins : List (Addr × Obj)} {s : Shared} {σ : St} {H : Hp} {a : Addr} {o : HO} (I : Inv X pins σ H s) (h : H a = some o) (p : isObj o = true) : ∃ ob, s.heap.get? a = some ob ∧ ob.cls ≠ .type "tuple" := by
  cases o with
  | lst xs =>
    obtain ⟨_, its, n, _, e⟩ : xs.length ≤ sizeLine ∧ ∃ (its : List Value) (n : Nat), Vals xs its ∧ s.heap.get? a = some { cls := .type "list", data := .seq its.toArray n } := I.hok a _ h
    exact ⟨_, e, (by show Value.type "list" ≠ .type "tuple"; decide +kernel)⟩
  | ins C dx fs =>
    have x := I.hok a _ h
    obtain ⟨_, _, _, e, _⟩ := x
    exact ⟨_, e, (by show Value.ref C ≠ .type "tuple"; exact fun z => by cases z)⟩
  | _ => exact absurd (show false = true from p) Bool.false_ne_true
theorem op_is_ref : OpR X (compareOp .Is) (fun x y H Q => ∃ a b oa ob, x = .ref a ∧ y = .ref b ∧ H a = some oa ∧ isObj oa = true ∧ H b = some ob ∧ isObj ob = true ∧ Q (.bl (decide (a = b))) H) := by
  intro pins s σ H x y v u Q I rx ry h
  obtain ⟨a, b, oa, ob, rfl, rfl, ha, pa, hb, pb, q⟩ := h
  cases rx
  cases ry
  obtain ⟨o1, e1, n1⟩ := obj_there I ha pa
  obtain ⟨o2, e2, _⟩ := obj_there I hb pb
  by_cases z : a = b
  · subst z
    exact wpAny_is_ref_self (fin_bl I q (by simp))
  · exact wpAny_is_ref_other z e1 e2 n1 (fin_bl I q (by simp [z]))
theorem op_isnot_ref : OpR X (compareOp .IsNot) (fun x y H Q => ∃ a b oa ob, x = .ref a ∧ y = .ref b ∧ H a = some oa ∧ isObj oa = true ∧ H b = some ob ∧ isObj ob = true ∧ Q (.bl (!decide (a = b))) H) := by
  intro pins s σ H x y v u Q I rx ry h
  obtain ⟨a, b, oa, ob, rfl, rfl, ha, pa, hb, pb, q⟩ := h
  cases rx
  cases ry
  obtain ⟨o1, e1, n1⟩ := obj_there I ha pa
  obtain ⟨o2, e2, _⟩ := obj_there I hb pb
  by_cases z : a = b
  · subst z
    exact wpAny_isNot_ref_self (fin_bl I q (by simp))
  · exact wpAny_isNot_ref_other z e1 e2 n1 (fin_bl I q (by simp [z]))

/-- two rules for one operation: by cases -/
theorem OpR.or {f : Value → Value → Sem Value} {r r' : R2} (h : OpR X f r) (h' : OpR X f r') : OpR X f (fun x y H Q => r x y H Q ∨ r' x y H Q) := by
  intro pins s σ H x y v u Q I rx ry q
  rcases q with q | q
  · exact h pins s σ H x y v u Q I rx ry q
  · exact h' pins s σ H x y v u Q I rx ry q

theorem nomark (b : Expr) {op : CmpOp} (h : op ≠ .In := by decide) (h2 : op ≠ .NotIn := by decide) : behindInMarks op b = false := by
  have e1 : (op == CmpOp.In) = false := by cases op <;> first | rfl | exact absurd rfl h
  have e2 : (op == CmpOp.NotIn) = false := by cases op <;> first | rfl | exact absurd rfl h2
  cases b <;> simp [behindInMarks, e1, e2]
/-- a comparison as a value; hm: nomark b, or (for in, not in) by with_unfolding_all rfl -/
theorem pe_cmpR {op : CmpOp} {r : R2} (ho : OpR X (compareOp op) r) (ha : PE X a ta) (hb : PE X b tb) (hm : behindInMarks op b = false) : PE X (.Compare a [op] [b] pos) (tOp r ta tb) := by
  intro pins s σ H Q I h
  exact wpAny_Compare1 (binT ha hb I h fun v u s2 x y H2 I2 rx ry q => ho pins s2 σ H2 x y v u Q I2 rx ry q) hm
/-- a reading of a value as a test -/
def tTest (t : TE) : TT := fun σ H Q => t σ H fun x H' => ∃ k, x = .bl k ∧ Q k H'
theorem pt_cmpR {op : CmpOp} {r : R2} (ho : OpR X (compareOp op) r) (ha : PE X a ta) (hb : PE X b tb) (hm : behindInMarks op b = false) : PT X (.Compare a [op] [b] pos) (tTest (tOp r ta tb)) := by
  intro pins s σ H Q I h
  refine wpAny_isTrue_Compare1 (thn (ha pins s σ H _ I h) fun v s1 ⟨x, H1, I1, r1, q1⟩ => thn (hb pins s1 σ H1 _ I1 q1) fun u s2 ⟨y, H2, I2, r2, q2⟩ =>
    thn (ho pins s2 σ H2 x y v u _ I2 r1 r2 q2) fun c s3 ⟨z, H3, I3, r3, k, e, q3⟩ => ?_) hm
  subst e
  cases r3
  exact wpAny_truthy_bool ⟨H3, I3, q3⟩
/-- a op1 b op2 c -/
def tChain (r r' : R2) (ta tb tc : TE) : TE := fun σ H Q => ta σ H fun x H1 => tb σ H1 fun y H2 => r x y H2 fun z H3 => ∃ k, z = .bl k ∧
  (if k = true then tc σ H3 fun w' H4 => r' y w' H4 Q else Q (.bl false) H3)
theorem pe_chain {op op' : CmpOp} {r r' : R2} (ho : OpR X (compareOp op) r) (ho' : OpR X (compareOp op') r') (ha : PE X a ta) (hb : PE X b tb) (hc : PE X c tc)
    (hm : lastMarks [op, op'] [b, c] = false := by with_unfolding_all rfl) : PE X (.Compare a [op, op'] [b, c] pos) (tChain r r' ta tb tc) := by
  intro pins s σ H Q I h
  refine Compare_chain (thn (ha pins s σ H _ I h) fun v s1 ⟨x, H1, I1, r1, q1⟩ => chain_link (thn (hb pins s1 σ H1 _ I1 q1) fun u s2 ⟨y, H2, I2, r2, q2⟩ =>
    thn (ho pins s2 σ H2 x y v u _ I2 r1 r2 q2) fun d s3 ⟨z, H3, I3, r3, k, e, q3⟩ => ?_)) hm
  subst e
  cases r3
  refine wpAny_truthy_bool ?_
  cases k with
  | false => exact ite_ff ⟨.bl false, H3, I3, rfl, q3⟩
  | true => exact ite_tt (chain_last (thn (hc pins s3 σ H3 _ I3 q3) fun w' s4 ⟨z', H4, I4, r4, q4⟩ => ho' pins s4 σ H4 y z' u w' Q I4 r2 r4 q4))
theorem pt_chain {op op' : CmpOp} {r r' : R2} (ho : OpR X (compareOp op) r) (ho' : OpR X (compareOp op') r') (ha : PE X a ta) (hb : PE X b tb) (hc : PE X c tc)
    (hm : lastMarks [op, op'] [b, c] = false := by with_unfolding_all rfl) : PT X (.Compare a [op, op'] [b, c] pos) (tTest (tChain r r' ta tb tc)) := by
  intro pins s σ H Q I h
  refine isTrue_chain (thn (ha pins s σ H _ I h) fun v s1 ⟨x, H1, I1, r1, q1⟩ => test_link (thn (hb pins s1 σ H1 _ I1 q1) fun u s2 ⟨y, H2, I2, r2, q2⟩ =>
    thn (ho pins s2 σ H2 x y v u _ I2 r1 r2 q2) fun d s3 ⟨z, H3, I3, r3, k, e, q3⟩ => ?_)) hm
  subst e
  cases r3
  refine wpAny_truthy_bool ?_
  cases k with
  | false =>
    obtain ⟨k', e', q'⟩ := q3
    cases e'
    exact ite_ff ⟨H3, I3, q'⟩
  | true =>
    refine ite_tt (test_last (thn (hc pins s3 σ H3 _ I3 q3) fun w' s4 ⟨z', H4, I4, r4, q4⟩ => thn (ho' pins s4 σ H4 y z' u w' _ I4 r2 r4 q4) fun d' s5 ⟨z2, H5, I5, r5, k2, e2, q5⟩ => ?_))
    subst e2
    cases r5
    exact wpAny_truthy_bool ⟨H5, I5, q5⟩

/-! ### truth -/
/-- a value's truth by the abstract heap -/
def TruV (K : PySem.W.Frag) (x : V) (H : Hp) (k : Bool) : Prop :=
  match x with
  | .non => k = false
  | .bl b => k = b
  | .int i => k = (i != 0)
  | .str y => y.length ≤ sizeLine ∧ k = ((y.length : Int) != 0)
  | .byt y => y.size ≤ sizeLine ∧ k = ((y.size : Int) != 0)
  | .ref p => (∃ xs, SqL K H p xs ∧ k = !xs.isEmpty) ∨ (∃ xs, SqT K H p xs ∧ k = !xs.isEmpty) ∨ ∃ kvs, H p = some (.dK kvs) ∧ k = !kvs.isEmpty
  | _ => False
theorem isEmpty_kv {κ : Type} {kvs : List (κ × V)} {vs : List (κ × Value)} (r : KV kvs vs) : (!vs.isEmpty) = !kvs.isEmpty := by
  cases r <;> rfl
theorem isEmpty_of {xs : List V} {its : List Value} (r : Vals xs its) : (!its.toArray.isEmpty) = !xs.isEmpty := by
  cases r <;> simp
theorem line63 : (sizeLine : Nat) < 2 ^ 63 := by rw [sizeLine_eq]; decide
theorem tru_ok : TruR X (fun x H Q => ∃ k, TruV X.K x H k ∧ Q k H) := by
  intro pins s σ H x v Q I rx h
  obtain ⟨k, e, q⟩ := h
  have hl := line63
  have hs : sizeLine = 16777216 := sizeLine_eq
  cases x with
  | non =>
    cases rx
    have e' : k = false := e
    subst e'
    exact truthy_none ⟨H, I, q⟩
  | bl b =>
    cases rx
    have e' : k = b := e
    subst e'
    exact wpAny_truthy_bool ⟨H, I, q⟩
  | int i =>
    obtain ⟨t, rfl⟩ := rx
    have e' : k = (i != 0) := e
    subst e'
    exact PySem.P.truthy_int ⟨H, I, q⟩
  | str y =>
    obtain ⟨t, rfl⟩ := rx
    obtain ⟨hy, e'⟩ : y.length ≤ sizeLine ∧ k = ((y.length : Int) != 0) := e
    subst e'
    exact PySem.P.truthy_str (by omega) ⟨H, I.tok _, q⟩
  | byt y =>
    obtain ⟨t, rfl⟩ := rx
    obtain ⟨hy, e'⟩ : y.size ≤ sizeLine ∧ k = ((y.size : Int) != 0) := e
    subst e'
    exact PySem.W.truthy_bytes (by omega) ⟨H, I.tok _, q⟩
  | ref p =>
    cases rx
    have e' : (∃ xs, SqL X.K H p xs ∧ k = !xs.isEmpty) ∨ (∃ xs, SqT X.K H p xs ∧ k = !xs.isEmpty) ∨ ∃ kvs, H p = some (.dK kvs) ∧ k = !kvs.isEmpty := e
    rcases e' with ⟨xs, hx, e'⟩ | ⟨xs, hx, e'⟩ | ⟨kvs, hx, e'⟩
    · subst e'
      obtain ⟨its, r, pl, hz⟩ := I.list hx
      have hlen := r.length
      exact wpAny_truthy_list pl.isList (by simp only [List.size_toArray]; omega) ⟨H, I.tok _, by rw [isEmpty_of r]; exact q⟩
    · subst e'
      obtain ⟨its, r, pl, hz⟩ := I.tuple hx
      have hlen := r.length
      exact truthy_tuple pl (by simp only [List.size_toArray]; omega) ⟨H, I.tok _, by rw [isEmpty_of r]; exact q⟩
    · subst e'
      obtain ⟨hz, hS, vs, r, m⟩ : kvs.length ≤ sizeLine ∧ (p == sysModules) = false ∧ ∃ vs, KV kvs vs ∧ s.heap.DictOf (mixKind X.prog X.w) p vs := I.hok p _ hx
      have hlen : kvs.length = vs.length := Paired.length r
      exact wpAny_truthy_dict hS m (by omega) ⟨H, I.tok _, by rw [isEmpty_kv r]; exact q⟩
  | _ => exact (show False from e).elim
/-- any expression whose test is its value's truth (a name, a call, a subscript, a field ..: he by fun _ => rfl) -/
theorem pt_truth (ha : PE X a ta) (he : ∀ whole, isTrue a X.env whole = (do let v ← whole; standAt a.pos; holding [v] (truthy v))) :
    PT X a (fun σ H Q => ta σ H fun x H' => ∃ k, TruV X.K x H' k ∧ Q k H') := by
  intro pins s σ H Q I h
  exact isTrue_plain (thn (ha pins s σ H _ I h) fun v s1 ⟨x, H1, I1, r1, q1⟩ => tru_ok pins s1 σ H1 x v Q I1 r1 q1) (he _)

/-! ### strs and bytes -/
theorem pe_byt {x : List UInt8} {k : Nat} : PE X (.Constant (.bytes x) k pos) (fun _ H Q => Q (.byt x.toArray) H) := fun _ _ _ H _ I h => PySem.W.Constant_bytes ⟨.byt x.toArray, H, I.tok _, ⟨_, rfl⟩, h⟩
theorem op_add_str : OpR X (binaryOp .Add) (fun x y H Q => ∃ i j, x = .str i ∧ y = .str j ∧ i.length + j.length ≤ sizeLine ∧ Q (.str (i ++ j)) H) := by
  intro pins s σ H x y v u Q I rx ry h
  obtain ⟨i, j, rfl, rfl, hz, q⟩ := h
  obtain ⟨t, rfl⟩ := rx
  obtain ⟨t', rfl⟩ := ry
  exact add_str (fun t' tk => ⟨.str (i ++ j), H, I.tok _, ⟨_, rfl⟩, q⟩) hz
theorem iop_add_str : OpR X (inplaceOp .Add) (fun x y H Q => ∃ i j, x = .str i ∧ y = .str j ∧ i.length + j.length ≤ sizeLine ∧ Q (.str (i ++ j)) H) := by
  intro pins s σ H x y v u Q I rx ry h
  obtain ⟨i, j, rfl, rfl, hz, q⟩ := h
  obtain ⟨t, rfl⟩ := rx
  obtain ⟨t', rfl⟩ := ry
  exact iadd_str (fun t' tk => ⟨.str (i ++ j), H, I.tok _, ⟨_, rfl⟩, q⟩) hz
theorem op_add_byt : OpR X (binaryOp .Add) (fun x y H Q => ∃ i j, x = .byt i ∧ y = .byt j ∧ i.size + j.size ≤ 16777216 ∧ Q (.byt (i ++ j)) H) := by
  intro pins s σ H x y v u Q I rx ry h
  obtain ⟨i, j, rfl, rfl, hz, q⟩ := h
  obtain ⟨t, rfl⟩ := rx
  obtain ⟨t', rfl⟩ := ry
  exact PySem.W.KBy.add_bytes hz (fun t' tk => ⟨.byt (i ++ j), H, I.tok _, ⟨_, rfl⟩, q⟩)

def PlainIxT (b : Expr) : Prop := ∀ o i, subscripted b false o i = operate [o, i] (getItem o i)
/-- s[i], 0 ≤ i < len -/
theorem pe_item_str (ha : PE X a ta) (hb : PE X b tb) (hs : PlainIxT b) :
    PE X (.Subscript a b pos) (tOp (fun x y H Q => ∃ z i c, x = .str z ∧ y = .int i ∧ 0 ≤ i ∧ i < 2 ^ 63 ∧ i < z.length ∧ z.cps[i.toNat]? = some c ∧ Q (.str ⟨#[c]⟩) H) ta tb) := by
  intro pins s σ H Q I h
  refine Subscript_ (binT ha hb I h fun v u s2 x y H2 I2 rx ry q => ?_)
  obtain ⟨z, i, c, rfl, rfl, h0, h63, h1, hc, q⟩ := q
  obtain ⟨t, rfl⟩ := rx
  obtain ⟨t', rfl⟩ := ry
  have e : seqIndex? i z.length = some i.toNat := PySem.StrLaws.seqIndex_nonneg h0 h1
  exact tail_any (typeIs_str s2 z t) slot_str_getitem.lookup (getItem_str (c := c) (by
    have e1 : decide (i < -(2 ^ 63 : Int)) = false := decide_eq_false (by omega)
    have e2 : decide (i ≥ 2 ^ 63) = false := decide_eq_false (by omega)
    rw [e1, e2] <;> rfl) (by rw [e]; exact hc) ⟨.str ⟨#[c]⟩, H2, I2.tok _, ⟨_, rfl⟩, q⟩) (hs _ _)
/-- b[i], 0 ≤ i < len -/
theorem pe_item_byt (ha : PE X a ta) (hb : PE X b tb) (hs : PlainIxT b) :
    PE X (.Subscript a b pos) (tOp (fun x y H Q => ∃ (z : List UInt8) (i : Int), x = .byt z.toArray ∧ y = .int i ∧ z.length ≤ sizeLine ∧ 0 ≤ i ∧ i < z.length ∧ Q (.int ((z.getD i.toNat 0).toNat : Nat)) H) ta tb) := by
  intro pins s σ H Q I h
  refine Subscript_ (binT ha hb I h fun v u s2 x y H2 I2 rx ry q => ?_)
  obtain ⟨z, i, rfl, rfl, hz, h0, h1, q⟩ := q
  obtain ⟨t, rfl⟩ := rx
  obtain ⟨t', rfl⟩ := ry
  have hl : sizeLine = 16777216 := sizeLine_eq
  exact tail_any (PySem.W.typeIs_bytes s2 z.toArray t) PySem.W.FB.slot_bytes_getitem.lookup (PySem.W.getItem_bytes (by omega) h0 h1 ⟨.int ((z.getD i.toNat 0).toNat : Nat), H2, I2.tok _, ⟨_, rfl⟩, q⟩) (hs _ _)

/-! ### scalar builtins, by CallR -/
theorem vals1 {x : V} {us : List Value} (r : Vals [x] us) : ∃ u, us = [u] ∧ RelV x u := by
  cases r with
  | cons r1 r2 => cases r2; exact ⟨_, rfl, r1⟩
theorem vals2 {x y : V} {us : List Value} (r : Vals [x, y] us) : ∃ u w', us = [u, w'] ∧ RelV x u ∧ RelV y w' := by
  cases r with
  | cons r1 r2 =>
    cases r2 with
    | cons r3 r4 => cases r4; exact ⟨_, _, rfl, r1, r3⟩
theorem call_abs : CallR X (.builtin "abs") (fun xs H Q => ∃ i, xs = [.int i] ∧ Q (.int (if i < 0 then -i else i)) H) := by
  intro pins s σ H xs us Q I r h
  obtain ⟨i, rfl, q⟩ := h
  obtain ⟨u, rfl, t, rfl⟩ := vals1 r
  exact call_abs_int fun u tk => ⟨.int (if i < 0 then -i else i), H, I.tok _, ⟨_, rfl⟩, q⟩
theorem call_max2 (hc : X.calm = true) : CallR X (.builtin "max") (fun xs H Q => ∃ i j, xs = [.int i, .int j] ∧ Q (.int (if j > i then j else i)) H) := by
  intro pins s σ H xs us Q I r h
  obtain ⟨i, j, rfl, q⟩ := h
  obtain ⟨u, w', rfl, ⟨t, rfl⟩, ⟨t', rfl⟩⟩ := vals2 r
  refine max_two_ints (I.ok.hd hc) fun h' tk k => ⟨_, H, I.kept k, ?_, q⟩
  by_cases hj : j > i
  · rw [if_pos hj, if_pos hj]; exact ⟨_, rfl⟩
  · rw [if_neg hj, if_neg hj]; exact ⟨_, rfl⟩
theorem call_min2 (hc : X.calm = true) : CallR X (.builtin "min") (fun xs H Q => ∃ i j, xs = [.int i, .int j] ∧ Q (.int (if j < i then j else i)) H) := by
  intro pins s σ H xs us Q I r h
  obtain ⟨i, j, rfl, q⟩ := h
  obtain ⟨u, w', rfl, ⟨t, rfl⟩, ⟨t', rfl⟩⟩ := vals2 r
  refine min_two_ints (I.ok.hd hc) fun h' tk k => ⟨_, H, I.kept k, ?_, q⟩
  by_cases hj : j < i
  · rw [if_pos hj, if_pos hj]; exact ⟨_, rfl⟩
  · rw [if_neg hj, if_neg hj]; exact ⟨_, rfl⟩
theorem call_int1 : CallR X (.type "int") (fun xs H Q => (∃ i, xs = [.int i] ∧ Q (.int i) H) ∨ ∃ k, xs = [.bl k] ∧ Q (.int (if k then 1 else 0)) H) := by
  intro pins s σ H xs us Q I r h
  rcases h with ⟨i, rfl, q⟩ | ⟨k, rfl, q⟩
  · obtain ⟨u, rfl, t, rfl⟩ := vals1 r
    exact call_int_int ⟨.int i, H, I, ⟨_, rfl⟩, q⟩
  · obtain ⟨u, rfl, r1⟩ := vals1 r
    cases r1
    exact call_int_bool ⟨.int (if k then 1 else 0), H, I.tok _, ⟨_, rfl⟩, q⟩
theorem call_bool1 : CallR X (.type "bool") (fun xs H Q => (∃ i, xs = [.int i] ∧ Q (.bl (i != 0)) H) ∨ ∃ k, xs = [.bl k] ∧ Q (.bl k) H) := by
  intro pins s σ H xs us Q I r h
  rcases h with ⟨i, rfl, q⟩ | ⟨k, rfl, q⟩
  · obtain ⟨u, rfl, t, rfl⟩ := vals1 r
    exact call_bool_int ⟨.bl (i != 0), H, I, rfl, q⟩
  · obtain ⟨u, rfl, r1⟩ := vals1 r
    cases r1
    exact call_bool_bool ⟨.bl k, H, I, rfl, q⟩
theorem call_str_int : CallR X (.type "str") (fun xs H Q => ∃ i, xs = [.int i] ∧ i.natAbs.log2 < 1920 ∧ Q (.str (toString i)) H) := by
  intro pins s σ H xs us Q I r h
  obtain ⟨i, rfl, hz, q⟩ := h
  obtain ⟨u, rfl, t, rfl⟩ := vals1 r
  exact PySem.P.str_of_int hz ⟨.str _, H, I.tok _, ⟨_, rfl⟩, q⟩
theorem call_ord : CallR X (.builtin "ord") (fun xs H Q => ∃ x, xs = [.str x] ∧ x.length = 1 ∧ Q (.int (x.cps.getD 0 0 : Nat)) H) := by
  intro pins s σ H xs us Q I r h
  obtain ⟨x, rfl, hz, q⟩ := h
  obtain ⟨u, rfl, t, rfl⟩ := vals1 r
  exact ord_of_one hz ⟨.int _, H, I.tok _, ⟨_, rfl⟩, q⟩
theorem call_chr : CallR X (.builtin "chr") (fun xs H Q => ∃ i, xs = [.int i] ∧ 0 ≤ i ∧ i ≤ 1114111 ∧ Q (.str ⟨#[i.toNat]⟩) H) := by
  intro pins s σ H xs us Q I r h
  obtain ⟨i, rfl, h0, h1, q⟩ := h
  obtain ⟨u, rfl, t, rfl⟩ := vals1 r
  exact chr_of_range h0 h1 ⟨.str _, H, I.tok _, ⟨_, rfl⟩, q⟩
/-- len of a str, a bytes, a list, a tuple -/
def LenV (K : PySem.W.Frag) (x : V) (H : Hp) (n : Nat) : Prop :=
  match x with
  | .str y => y.length ≤ sizeLine ∧ n = y.length
  | .byt y => y.size ≤ sizeLine ∧ n = y.size
  | .ref p => (∃ xs, SqL K H p xs ∧ n = xs.length) ∨ ∃ xs, SqT K H p xs ∧ n = xs.length
  | _ => False
theorem call_len : CallR X (.builtin "len") (fun xs H Q => ∃ x n, xs = [x] ∧ LenV X.K x H n ∧ Q (.int n) H) := by
  intro pins s σ H xs us Q I r h
  obtain ⟨x, n, rfl, e, q⟩ := h
  obtain ⟨u, rfl, rx⟩ := vals1 r
  have hl := line63
  have hs : sizeLine = 16777216 := sizeLine_eq
  cases x with
  | str y =>
    obtain ⟨t, rfl⟩ := rx
    obtain ⟨hy, e'⟩ : y.length ≤ sizeLine ∧ n = y.length := e
    subst e'
    exact len_str (by omega) ⟨.int _, H, I.tok _, ⟨_, rfl⟩, q⟩
  | byt y =>
    obtain ⟨t, rfl⟩ := rx
    obtain ⟨hy, e'⟩ : y.size ≤ sizeLine ∧ n = y.size := e
    subst e'
    exact PySem.W.len_bytes (by omega) ⟨.int _, H, I.tok _, ⟨_, rfl⟩, q⟩
  | ref p =>
    cases rx
    have e' : (∃ xs, SqL X.K H p xs ∧ n = xs.length) ∨ ∃ xs, SqT X.K H p xs ∧ n = xs.length := e
    rcases e' with ⟨xs, hx, e'⟩ | ⟨xs, hx, e'⟩
    · subst e'
      obtain ⟨its, r', pl, hz⟩ := I.list hx
      have hlen := r'.length
      exact Calls.call_len_list pl.isList (by simp only [List.size_toArray]; omega) ⟨.int xs.length, H, I.tok _, ⟨_, by simp only [List.size_toArray]; rw [hlen]⟩, q⟩
    · subst e'
      obtain ⟨its, r', pl, hz⟩ := I.tuple hx
      have hlen := r'.length
      exact len_tuple pl (by simp only [List.size_toArray]; omega) ⟨.int xs.length, H, I.tok _, ⟨_, by simp only [List.size_toArray]; rw [hlen]⟩, q⟩
  | _ => exact (show False from e).elim
/-- divmod: a new tuple -/
theorem call_divmod : CallR X (.builtin "divmod") (fun xs H Q => ∃ i j, xs = [.int i, .int j] ∧ CDiv i j ∧ ∀ p, H p = none → Q (.ref p) (upd H p (.tup [.int (i / j), .int (i % j)]))) := by
  intro pins s σ H xs us Q I r h
  obtain ⟨i, j, rfl, ⟨h1, h2⟩, q⟩ := h
  obtain ⟨u, w', rfl, ⟨t, rfl⟩, ⟨t', rfl⟩⟩ := vals2 r
  refine divmod_int (by omega) ?_ (.inl (PyProof.noPylong_small (by omega)))
  rw [Int.fdiv_eq_ediv_of_nonneg i (by omega), Int.fmod_eq_emod_of_nonneg i (by omega)]
  have hn : H s.heap.objs.size = none := I.hok.fresh (Nat.le_refl _)
  refine ⟨.ref s.heap.objs.size, _, ?_, rfl, q _ hn⟩
  refine I.laid (fun b o e => Heap.get?_push_of_some _ e) (Nat.le_refl _) ⟨by simp only [List.length_cons, List.length_nil]; rw [sizeLine_eq]; decide, [.int (i / j) s.toks, .int (i % j) (s.toks + 1)], .cons ⟨_, rfl⟩ (.cons ⟨_, rfl⟩ .nil), ?_⟩
  exact ⟨_, Heap.get?_push_size s.heap rfl, rfl, 0, rfl⟩
end
end L2

namespace L2
open PySem PySem.Spec PyProof.Rows

/-! ### an instance, its attributes a map -/
structure ObjM (h : Heap) (x dx C : Addr) (mA : Str → Option Value) : Prop where
  obj : h.get? x = some (PySem.W.instObj C dx)
  ns : h.Ns1 dx mA
  ne : dx ≠ x

theorem lookIn_ns {h : Heap} {dx : Addr} {mA : Str → Option Value} (n : h.Ns1 dx mA) : ∃ od, h.get? dx = some od ∧ ∀ name, PySem.W.lookIn name od = some (mA name) := by
  obtain ⟨o, es, ep, ho, hd, hk, _, hm⟩ := n
  refine ⟨o, ho, fun name => ?_⟩
  have e := hm name
  unfold nsFind findBy at e
  rw [← Array.find?_toList] at e
  unfold PySem.W.lookIn
  rw [hd]
  dsimp only
  split
  · rename_i y q
    rw [q] at e
    exact congrArg some e
  · rename_i q
    rw [q] at e
    have a : es.toList.any (·.refKey) = false := by
      rw [List.any_eq_false]
      intro y hy
      obtain ⟨z, t, hkey⟩ := hk y (Array.mem_toList_iff.mp hy)
      simp [DictEntry.refKey, hkey]
    have a' : ¬ es.toList.any (·.refKey) = true := by rw [a]; exact Bool.false_ne_true
    rw [if_neg a']
    exact congrArg some e

theorem ObjM.look {h : Heap} {x dx C : Addr} {mA : Str → Option Value} (I : ObjM h x dx C mA) : ∃ od, PySem.W.InstAt h x (PySem.W.instObj C dx) C (some od) ∧ ∀ name, PySem.W.lookIn name od = some (mA name) :=
  let ⟨od, ho, hl⟩ := lookIn_ns I.ns
  ⟨od, ⟨I.obj, rfl, rfl, ho⟩, hl⟩

section
variable {prog : Program} {w : World} {A : Around} {E : Value → Shared → Prop} {s : Shared} {K : PySem.W.Frag} {x dx C f : Addr} {mA : Str → Option Value} {name : Str} {v : Value}

theorem get_map {expr : Bool} {Q : Value → Shared → Prop} (X : K.In s.heap) (I : ObjM s.heap x dx C mA) (hg : PySem.W.plainGet K C name = true) (hh : PySem.W.hasDictIn K C = true)
    (ha : PySem.W.findIn K (.ref C) name = some none) (hv : mA name = some v) (hv' : PySem.W.handedIn v = true) (h : Q v { s with toks := s.toks + 1 }) :
    wpAny (model prog w) A (getAttr (.ref x) name expr) Q E s := by
  obtain ⟨od, J, hl⟩ := I.look
  exact PySem.W.get_value X J (PySem.W.plainGet_of hg).1 (PySem.W.findObj_own hh ha rfl (by rw [hl, hv])) hv' h

theorem get_const {expr : Bool} {a : Value} {Q : Value → Shared → Prop} (X : K.In s.heap) (I : ObjM s.heap x dx C mA) (hg : PySem.W.plainGet K C name = true) (hh : PySem.W.hasDictIn K C = true)
    (ha : PySem.W.findIn K (.ref C) name = some (some a)) (hn : PySem.W.specialIn K a "__get__" = some none) (hc : PySem.W.copiedNames.contains name = false) (hv : mA name = none) (hv' : PySem.W.handedIn a = true)
    (h : Q a { s with toks := s.toks + 1 }) : wpAny (model prog w) A (getAttr (.ref x) name expr) Q E s := by
  obtain ⟨od, J, hl⟩ := I.look
  exact PySem.W.get_value X J (PySem.W.plainGet_of hg).1 (PySem.W.findObj_cls hh ha hn hv' hc (by rw [hl, hv])) hv' h

theorem get_meth {pl : Sem Bool} {Q : Value × List Value → Shared → Prop} (X : K.In s.heap) (I : ObjM s.heap x dx C mA) (hg : PySem.W.plainGet K C name = true)
    (hf : PySem.W.findIn K (.ref C) name = some (some (.ref f))) (ht : PySem.W.isFn K (.ref f) = true) (hv : mA name = none) (h : Q (.ref f, [.ref x]) s) :
    wpAny (model prog w) A (getMethod (.ref x) name pl) Q E s := by
  obtain ⟨od, J, hl⟩ := I.look
  exact PySem.W.method_fn X J (PySem.W.plainGet_of hg).1 (PySem.W.plainGet_of hg).2 hf (beq_iff_eq.mp ht) (by show (PySem.W.lookIn name od).map (·.isSome) = some false; rw [hl, hv]; rfl) h

theorem set_map {ns : List Str} {Q : Unit → Shared → Prop} (X : K.In s.heap) (I : ObjM s.heap x dx C mA)
    (hs : PySem.W.findIn K (.ref C) "__setattr__" = some (some (.builtin "object.__setattr__"))) (hp : PySem.W.plainOver K C = true) (ht : PySem.W.takerIn K C name = some none) (hh : PySem.W.hasDictIn K C = true)
    (hw : PySem.Within mA ns) (hsz : ns.length ≤ sizeLine)
    (h : ∀ h', ObjM h' x dx C (fun y => if y = name then some v else mA y) → Heap.SameBut dx s.heap h' → Q () { s with heap := h', toks := s.toks + 2 }) :
    wpAny (model prog w) A (setAttr (.ref x) name v) Q E s := by
  obtain ⟨od, J, hl⟩ := I.look
  refine PySem.W.set_plain X J hs (PySem.W.osa_open (s := { s with toks := s.toks + 1 }) (r := none) X J hp ht fun b => ?_)
  obtain ⟨cd, hc, hd'⟩ := PySem.W.any_some hh
  have hx : s.heap.get? x = some ⟨.ref C, some dx, .plain, #[]⟩ := I.obj
  refine wpAny_bind (wpAny_pure (wpAny_bind (wpAny_bind (wpAny_loadPart hx (wpAny_bind (PySem.W.Looks.here (s := { s with toks := s.toks + 1 }) (PySem.W.looks_clsIn X hc) ?_))))))
  rw [hd']
  refine wpAny_pure (a := some dx) (wpAny_bind (wpAny_pure (wpAny_bind ?_)))
  refine wpAny_nsSet1 (s := { s with toks := s.toks + 1 }) I.ns fun h' hn2 hs2 => ?_
  obtain ⟨oD, esD, epD, hoD, hdD, hcD⟩ := hn2.count (PySem.Within.cons name v hw)
  refine wpAny_bind (wpAny_lookBehind hoD (by rw [hdD]; exact pastItsLine_dict (Nat.le_trans hcD (by rw [List.length_cons]; omega))) ?_)
  exact wpAny_pure (h _ ⟨(hs2.2 _ (Ne.symm I.ne)).trans I.obj, hn2, I.ne⟩ hs2)

/-- C(..): the dict at the heap's end, the instance behind it; then its __init__ -/
theorem make_map {R : Result → Shared → Prop} {vs : List Value} {kw : List (Str × Value)} (X : K.In s.heap) (hm : PySem.W.makesIn K C = true)
    (hi : PySem.W.findIn K (.ref C) "__init__" = some (some (.ref f))) (hf : PySem.W.typeIn K (.ref f) = some (.type "function"))
    (h : codeAny (model prog w) (A.under (.builtin "type.__call__" ⟨.ref C :: vs, kw⟩)) (.call (.ref f) ⟨.ref (s.heap.objs.size + 1) :: vs, kw⟩) (PySem.W.InitBack (s.heap.objs.size + 1) R)
      { s with heap := (s.heap.push PySem.W.emptyDict).push (PySem.W.instObj C s.heap.objs.size) }) :
    codeAny (model prog w) A (.call (.ref C) ⟨vs, kw⟩) R s := by
  obtain ⟨hh, g, d, t, os⟩ := s
  exact PySem.W.make_core (PySem.W.makes_of X hm) (PySem.W.looks_findIn X hi) (fun self => PySem.W.bind_fn X self hf) (.inl rfl) h
/-- C() where there is no __init__ but object's -/
theorem make_map0 {R : Result → Shared → Prop} (X : K.In s.heap) (hm : PySem.W.makesIn K C = true)
    (hi : PySem.W.findIn K (.ref C) "__init__" = some (some (.builtin "object.__init__")))
    (hb : ∀ self, PySem.W.Looks (model prog w) s.heap (bindSpecial (.builtin "object.__init__") self) (.builtin "object.__init__", [self]))
    (h : codeAny (model prog w) (A.under (.builtin "type.__call__" ⟨[.ref C], []⟩)) (.call (.builtin "object.__init__") ⟨[.ref (s.heap.objs.size + 1)], []⟩) (PySem.W.InitBack (s.heap.objs.size + 1) R)
      { s with heap := (s.heap.push PySem.W.emptyDict).push (PySem.W.instObj C s.heap.objs.size) }) :
    codeAny (model prog w) A (.call (.ref C) ⟨[], []⟩) R s := by
  obtain ⟨hh, g, d, t, os⟩ := s
  exact PySem.W.make_core (PySem.W.makes_of X hm) (PySem.W.looks_findIn X hi) hb (.inr ⟨rfl, rfl⟩) h
end

/-! ### the attributes as a list of pairs -/
def putF (f : Str) (v : V) : List (Str × V) → List (Str × V)
  | [] => [(f, v)]
  | (g, x) :: r => if g = f then (g, v) :: r else (g, x) :: putF f v r
theorem lookup_putF (f g : Str) (v : V) : ∀ fs : List (Str × V), (putF f v fs).lookup g = if g = f then some v else fs.lookup g
  | [] => by
    show List.lookup g [(f, v)] = _
    by_cases h : g = f
    · have hb : (g == f) = true := beq_iff_eq.mpr h
      simp only [List.lookup, hb, if_pos h]
    · have hb : (g == f) = false := beq_eq_false_iff_ne.mpr h
      simp only [List.lookup, hb, if_neg h]
  | (k, x) :: r => by
    have ih := lookup_putF f g v r
    rw [show putF f v ((k, x) :: r) = (if k = f then (k, v) :: r else (k, x) :: putF f v r) from rfl]
    by_cases hk : k = f
    · rw [if_pos hk]
      by_cases h : g = k
      · have hb : (g == k) = true := beq_iff_eq.mpr h
        simp only [List.lookup, hb, if_pos (h.trans hk)]
      · have hb : (g == k) = false := beq_eq_false_iff_ne.mpr h
        simp only [List.lookup, hb, if_neg (fun e : g = f => h (e.trans hk.symm))]
    · rw [if_neg hk]
      by_cases h : g = k
      · have hb : (g == k) = true := beq_iff_eq.mpr h
        simp only [List.lookup, hb, if_neg (fun e : g = f => hk (h.symm.trans e))]
      · have hb : (g == k) = false := beq_eq_false_iff_ne.mpr h
        simp only [List.lookup, hb]
        exact ih
theorem keys_putF (f : Str) (v : V) : ∀ fs : List (Str × V), f ∈ (putF f v fs).map (·.1) ∧ ∀ g, g ∈ fs.map (·.1) → g ∈ (putF f v fs).map (·.1)
  | [] => ⟨by simp [putF], fun g h => by simp at h⟩
  | (k, x) :: r => by
    obtain ⟨i1, i2⟩ := keys_putF f v r
    rw [show putF f v ((k, x) :: r) = (if k = f then (k, v) :: r else (k, x) :: putF f v r) from rfl]
    by_cases hk : k = f
    · rw [if_pos hk]
      subst hk
      exact ⟨by simp, fun g h => by simpa using h⟩
    · rw [if_neg hk]
      refine ⟨?_, fun g h => ?_⟩
      · rw [List.map_cons]
        exact List.mem_cons_of_mem _ i1
      · rw [List.map_cons] at h ⊢
        rcases List.mem_cons.mp h with e | e
        · exact List.mem_cons.mpr (.inl e)
        · exact List.mem_cons_of_mem _ (i2 g e)
theorem length_putF (f : Str) (v : V) : ∀ fs : List (Str × V), (putF f v fs).length ≤ fs.length + 1
  | [] => by simp [putF]
  | (k, x) :: r => by
    have ih := length_putF f v r
    rw [show putF f v ((k, x) :: r) = (if k = f then (k, v) :: r else (k, x) :: putF f v r) from rfl]
    by_cases hk : k = f
    · rw [if_pos hk, List.length_cons, List.length_cons]; omega
    · rw [if_neg hk, List.length_cons, List.length_cons]; omega

theorem RelO.some_of {v : V} {o : Option Value} (r : RelO (some v) o) : ∃ u, o = some u ∧ RelV v u := by
  cases o with
  | none => exact (show False from r).elim
  | some u => exact ⟨u, rfl, r⟩
theorem RelO.none_of {o : Option Value} (r : RelO none o) : o = none := by
  cases o with
  | none => rfl
  | some u => exact (show False from r).elim
theorem handed_of {v : V} {u : Value} (r : RelV v u) : PySem.W.handedIn u = true := by
  cases v with
  | non => cases (show u = Value.none from r); rfl
  | bl b => cases (show u = Value.bool b from r); rfl
  | int i => obtain ⟨t, e⟩ := (show ∃ t, u = Value.int i t from r); cases e; rfl
  | str x => obtain ⟨t, e⟩ := (show ∃ t, u = Value.str x t from r); cases e; rfl
  | byt b => obtain ⟨t, e⟩ := (show ∃ t, u = Value.bytes b t from r); cases e; rfl
  | flt b => obtain ⟨t, e⟩ := (show ∃ t, u = Value.float b t from r); cases e; rfl
  | ref a => cases (show u = Value.ref a from r); rfl
  | ty n => cases (show u = Value.type n from r); rfl

section
variable {P : Program} {w : World} {H H' : Hp} {h h' : Heap} {a C dx : Addr} {fs fs' : List (Str × V)}
theorem ins_get (hok : HOk P w H h) (e : H a = some (.ins C dx fs)) : ∃ mA, ObjM h a dx C mA ∧ (∀ f, RelO (fs.lookup f) (mA f)) ∧ PySem.Within mA (fs.map (·.1)) ∧ fs.length ≤ 1000 ∧ H dx = some (.own a) := by
  obtain ⟨d, z, ne, ob, mA, n, r, q⟩ := (show ObjOk P w H h a (.ins C dx fs) from hok a _ e)
  exact ⟨mA, ⟨ob, n, ne⟩, r, q, z, d⟩
end

/-! ### what of the text a class must have -/
structure Cls (K : PySem.W.Frag) (C : Addr) : Prop where
  pg : PySem.W.plainGet K C Str.empty = true
  hd : PySem.W.hasDictIn K C = true
  po : PySem.W.plainOver K C = true
  sa : PySem.W.findIn K (.ref C) "__setattr__" = some (some (.builtin "object.__setattr__"))
theorem Cls.get {K : PySem.W.Frag} {C : Addr} (c : Cls K C) (f : Str) : PySem.W.plainGet K C f = true := c.pg
/-- no class of it has the name -/
def NoAttr (K : PySem.W.Frag) (C : Addr) (f : Str) : Prop := PySem.W.findIn K (.ref C) f = some none
theorem NoAttr.taker {K : PySem.W.Frag} {C : Addr} {f : Str} (n : NoAttr K C f) : PySem.W.takerIn K C f = some none := by
  unfold PySem.W.takerIn
  rw [show PySem.W.findIn K (.ref C) f = some none from n]
  rfl
/-- a constant of the class -/
structure Con (K : PySem.W.Frag) (C : Addr) (f : Str) (v : V) (u : Value) : Prop where
  at_ : PySem.W.findIn K (.ref C) f = some (some u)
  rel : RelV v u
  get : PySem.W.specialIn K u "__get__" = some none
  cp : PySem.W.copiedNames.contains f = false
/-- a method: a plain def of the class or of one above it -/
structure Meth (K : PySem.W.Frag) (C : Addr) (m : Str) (f : Addr) : Prop where
  at_ : PySem.W.findIn K (.ref C) m = some (some (.ref f))
  fn : PySem.W.isFn K (.ref f) = true
  kp : PySem.W.keepIn K (.ref f) = true

section
variable {X : Cx} {pins : List (Addr × Obj)} {σ : St} {H : Hp} {s : Shared} {a C dx : Addr} {fs : List (Str × V)} {f : Str} {v : V} {A : Around} {E : Value → Shared → Prop}

theorem getattr_ok {b : Bool} {Q : Value → Shared → Prop} (I : Inv X pins σ H s) (e : H a = some (.ins C dx fs)) (c : Cls X.K C) (n : NoAttr X.K C f) (l : fs.lookup f = some v)
    (h : ∀ u s', Inv X pins σ H s' → RelV v u → Q u s') : wpAny (model X.prog X.w) A (getAttr (.ref a) f b) Q E s := by
  obtain ⟨mA, O, r, _, _, _⟩ := ins_get I.hok e
  obtain ⟨u, hu, ru⟩ := RelO.some_of (v := v) (o := mA f) (by rw [← l]; exact r f)
  exact get_map I.kIn O (c.get f) c.hd n hu (handed_of ru) (h u _ (I.tok _) ru)

theorem getcon_ok {b : Bool} {u : Value} {Q : Value → Shared → Prop} (I : Inv X pins σ H s) (e : H a = some (.ins C dx fs)) (c : Cls X.K C) (k : Con X.K C f v u) (l : fs.lookup f = none)
    (h : ∀ s', Inv X pins σ H s' → Q u s') : wpAny (model X.prog X.w) A (getAttr (.ref a) f b) Q E s := by
  obtain ⟨mA, O, r, _, _, _⟩ := ins_get I.hok e
  have hn : mA f = none := RelO.none_of (by rw [← l]; exact r f)
  exact get_const I.kIn O (c.get f) c.hd k.at_ k.get k.cp hn (handed_of k.rel) (h _ (I.tok _))

theorem getmeth_ok {m : Str} {g : Addr} {pl : Sem Bool} {Q : Value × List Value → Shared → Prop} (I : Inv X pins σ H s) (e : H a = some (.ins C dx fs)) (c : Cls X.K C) (k : Meth X.K C m g) (l : fs.lookup m = none)
    (h : Q (.ref g, [.ref a]) s) : wpAny (model X.prog X.w) A (getMethod (.ref a) m pl) Q E s := by
  obtain ⟨mA, O, r, _, _, _⟩ := ins_get I.hok e
  have hn : mA m = none := RelO.none_of (by rw [← l]; exact r m)
  exact get_meth I.kIn O (c.get m) k.at_ k.fn hn h

theorem setattr_ok {y : V} {u : Value} {Q : Unit → Shared → Prop} (I : Inv X pins σ H s) (e : H a = some (.ins C dx fs)) (c : Cls X.K C) (n : NoAttr X.K C f) (hl : fs.length < 1000) (ry : RelV y u)
    (h : ∀ s', Inv X pins σ (upd H a (.ins C dx (putF f y fs))) s' → Q () s') : wpAny (model X.prog X.w) A (setAttr (.ref a) f u) Q E s := by
  obtain ⟨mA, O, r, wi, _, ho⟩ := ins_get I.hok e
  have hz : (fs.map (·.1)).length ≤ sizeLine := by rw [List.length_map, sizeLine_eq]; omega
  refine set_map I.kIn O c.sa c.po n.taker c.hd wi hz fun h' O' sb => h _ ?_
  have hd : ∃ o, h'.get? dx = some o := let ⟨o, _, _, e', _⟩ := O'.ns; ⟨o, e'⟩
  refine I.write (x := a) (e := dx) (by rw [e]; exact True.intro) (.inr ho) (fun b q hb z => (sb.2 b hb).trans z) hd ?_
  refine ⟨by rw [upd_ne O.ne]; exact ho, ?_, O.ne, O'.obj, _, O'.ns, fun g => ?_, fun g hg => ?_⟩
  · have := length_putF f y fs; omega
  · show RelO ((putF f y fs).lookup g) (if g = f then some u else mA g)
    rw [lookup_putF]
    by_cases q : g = f
    · rw [if_pos q, if_pos q]; exact ry
    · rw [if_neg q, if_neg q]; exact r g
  · by_cases q : g = f
    · rw [q]; exact (keys_putF f y fs).1
    · refine (keys_putF f y fs).2 g (wi g fun z => hg ?_)
      show (if g = f then some u else mA g) = none
      rw [if_neg q]; exact z

/-- a new instance, tracked, without attributes -/
theorem Inv.made (I : Inv X pins σ H s) : Inv X pins σ (upd (upd H s.heap.objs.size (.own (s.heap.objs.size + 1))) (s.heap.objs.size + 1) (.ins C s.heap.objs.size []))
    { s with heap := (s.heap.push PySem.W.emptyDict).push (PySem.W.instObj C s.heap.objs.size) } := by
  have e1 : (s.heap.push PySem.W.emptyDict).get? s.heap.objs.size = some PySem.W.emptyDict := Heap.get?_push_size s.heap rfl
  have e2 : ((s.heap.push PySem.W.emptyDict).push (PySem.W.instObj C s.heap.objs.size)).get? (s.heap.objs.size + 1) = some (PySem.W.instObj C s.heap.objs.size) := by
    have := Heap.get?_push_size (s.heap.push PySem.W.emptyDict) (o := PySem.W.instObj C s.heap.objs.size) rfl
    rwa [Heap.size_push] at this
  have e3 : (s.heap.push PySem.W.emptyDict).Ns s.heap.objs.size (fun _ => none) := ⟨PySem.W.emptyDict, #[], _, e1, rfl, (fun e he => absurd he (by simp)), fun _ => rfl⟩
  have I1 := I.laid (a := s.heap.objs.size) (o := .own (s.heap.objs.size + 1)) (h' := s.heap.push PySem.W.emptyDict) (t' := s.toks) (fun b u q => Heap.get?_push_of_some _ q) (Nat.le_refl _) ⟨_, e1⟩
  refine I1.laid (a := s.heap.objs.size + 1) (o := .ins C s.heap.objs.size []) (t' := s.toks) (fun b u q => Heap.get?_push_of_some _ q) (Nat.le_of_eq (Heap.size_push _ _)) ?_
  have ne : s.heap.objs.size ≠ s.heap.objs.size + 1 := Nat.ne_of_lt (Nat.lt_succ_self _)
  refine ⟨by rw [upd_ne ne, upd_same], Nat.zero_le _, ne, e2, fun _ => none, (Heap.Ns1.of_empty e3).at fun o q => Heap.get?_push_of_some _ q, fun _ => True.intro, fun y hy => absurd rfl hy⟩

/-- e.f where nothing but the object is asked: through attributeBase (super) and the last hold -/
theorem attr_of {prog : Program} {w : World} {env : Env} {e : Expr} {f : Str} {pos : Pos} {s : Shared} {Q : Value → Shared → Prop} (hb : attributeBase e f env (eval e env) = eval e env)
    (h : wpAny (model prog w) A (eval e env) (fun o s₁ => wpAny (model prog w) A (getAttr o f true) Q E s₁) E s) : wpAny (model prog w) A (eval (.Attribute e f pos) env) Q E s :=
  Attribute_any_ h (by rw [arm_eval_Attribute, hb])
end

/-! ### readings and rules -/
/-- e.f, an attribute of the instance -/
def tFld (K : PySem.W.Frag) (ta : TE) (f : Str) : TE := fun σ H Q => ta σ H fun x H1 => ∃ a C dx fs v, x = .ref a ∧ H1 a = some (.ins C dx fs) ∧ Cls K C ∧ NoAttr K C f ∧ fs.lookup f = some v ∧ Q v H1
/-- e.f, a constant of the class -/
def tCon (K : PySem.W.Frag) (ta : TE) (f : Str) : TE := fun σ H Q => ta σ H fun x H1 => ∃ a C dx fs v u, x = .ref a ∧ H1 a = some (.ins C dx fs) ∧ Cls K C ∧ Con K C f v u ∧ fs.lookup f = none ∧ Q v H1
/-- e.f = value -/
def sFld (K : PySem.W.Frag) (ta tv : TE) (f : Str) : TS := fun D σ H => tv σ H fun y H1 => ta σ H1 fun x H2 => ∃ a C dx fs, x = .ref a ∧ H2 a = some (.ins C dx fs) ∧ Cls K C ∧ NoAttr K C f ∧ fs.length < 1000 ∧
  D.nx σ (upd H2 a (.ins C dx (putF f y fs)))
/-- an augmented operator on two values -/
def InOp (X : Cx) (op : Operator) (rd : V → V → Hp → VK → Prop) : Prop :=
  ∀ (pins : List (Addr × Obj)) (s : Shared) (σ : St) (H : Hp) (x y : V) (u v : Value) (Q : VK), Inv X pins σ H s → RelV x u → RelV y v → rd x y H Q → wpAny (model X.prog X.w) X.A (inplaceOp op u v) (EP X pins σ Q) X.xe s
/-- e.f op= value -/
def sFldAug (K : PySem.W.Frag) (ta tv : TE) (rd : V → V → Hp → VK → Prop) (f : Str) : TS := fun D σ H => ta σ H fun x H1 => ∃ a C dx fs v, x = .ref a ∧ H1 a = some (.ins C dx fs) ∧ Cls K C ∧ NoAttr K C f ∧ fs.lookup f = some v ∧
  tv σ H1 fun y H2 => rd v y H2 fun z H3 => ∃ dx' fs', H3 a = some (.ins C dx' fs') ∧ fs'.length < 1000 ∧ D.nx σ (upd H3 a (.ins C dx' (putF f z fs')))

section
variable {X : Cx} {o e value : Expr} {f : Str} {pos pos' tpos : Pos} {ta tv : TE}
theorem pe_fld (he : PE X e ta) (hb : attributeBase e f X.env (eval e X.env) = eval e X.env) : PE X (.Attribute e f pos) (tFld X.K ta f) := by
  intro pins s σ H Q I h
  refine attr_of hb (thn (he pins s σ H _ I h) fun u s1 ⟨x, H1, I1, rx, a, C, dx, fs, v, ex, ea, c, n, l, q⟩ => ?_)
  subst ex
  obtain rfl : u = Value.ref a := rx
  exact getattr_ok I1 ea c n l fun u' s2 I2 ru => ⟨v, H1, I2, ru, q⟩
theorem pe_con (he : PE X e ta) (hb : attributeBase e f X.env (eval e X.env) = eval e X.env) : PE X (.Attribute e f pos) (tCon X.K ta f) := by
  intro pins s σ H Q I h
  refine attr_of hb (thn (he pins s σ H _ I h) fun u s1 ⟨x, H1, I1, rx, a, C, dx, fs, v, u0, ex, ea, c, k, l, q⟩ => ?_)
  subst ex
  obtain rfl : u = Value.ref a := rx
  exact getcon_ok I1 ea c k l fun s2 I2 => ⟨v, H1, I2, k.rel, q⟩
theorem ps_fld (ha : PE X o ta) (hv : PE X value tv) (hs : swapsWith value (some (.Attribute o f pos')) pos.line X.env = pure false) : PS X (.Assign [.Attribute o f pos'] value pos) (sFld X.K ta tv f) := by
  intro pins s σ H D I h
  refine plainObj_wpAny_Assign_Attribute (thn (hv pins s σ H _ I h) fun u s1 ⟨y, H1, I1, ry, q⟩ => thn (ha pins s1 σ H1 _ I1 q) fun ov s2 ⟨x, H2, I2, rx, a, C, dx, fs, ex, ea, c, n, l, q2⟩ => ?_) hs
  subst ex
  obtain rfl : ov = Value.ref a := rx
  exact setattr_ok I2 ea c n l ry fun s3 I3 => ⟨σ, _, I3, q2⟩
theorem ps_fldaug {op : Operator} {rd : V → V → Hp → VK → Prop} (ha : PE X o ta) (hv : PE X value tv) (hop : InOp X op rd) : PS X (.AugAssign (.Attribute o f tpos) op value pos) (sFldAug X.K ta tv rd f) := by
  intro pins s σ H D I h
  refine wpAny_AugAssign_AttributeAny (thn (ha pins s σ H _ I h) fun ov s1 ⟨x, H1, I1, rx, a, C, dx, fs, v, ex, ea, c, n, l, q⟩ => ?_)
  subst ex
  obtain rfl : ov = Value.ref a := rx
  refine getattr_ok I1 ea c n l fun u s2 I2 ru => thn (hv pins s2 σ H1 _ I2 q) fun w3 s3 ⟨y, H2, I3, ry, q3⟩ => thn (hop pins s3 σ H2 v y u w3 _ I3 ru ry q3) fun w4 s4 ⟨z, H3, I4, rz, dx', fs', ea', l', q4⟩ => ?_
  exact setattr_ok I4 ea' c n l' rz fun s5 I5 => ⟨σ, _, I5, q4⟩
def rAdd : V → V → Hp → VK → Prop := fun x y H Q => ∃ i j, x = .int i ∧ y = .int j ∧ Q (.int (i + j)) H
def rSub : V → V → Hp → VK → Prop := fun x y H Q => ∃ i j, x = .int i ∧ y = .int j ∧ Q (.int (i - j)) H
theorem in_add : InOp X .Add rAdd := by
  rintro pins s σ H x y u v Q I rx ry ⟨i, j, rfl, rfl, q⟩
  obtain ⟨t, rfl⟩ := (show ∃ t, u = Value.int i t from rx)
  obtain ⟨t', rfl⟩ := (show ∃ t', v = Value.int j t' from ry)
  exact PyProof.Rows.iadd_int ⟨.int (i + j), H, I.tok _, ⟨_, rfl⟩, q⟩
theorem in_sub : InOp X .Sub rSub := by
  rintro pins s σ H x y u v Q I rx ry ⟨i, j, rfl, rfl, q⟩
  obtain ⟨t, rfl⟩ := (show ∃ t, u = Value.int i t from rx)
  obtain ⟨t', rfl⟩ := (show ∃ t', v = Value.int j t' from ry)
  exact PyProof.Rows.isub_int ⟨.int (i - j), H, I.tok _, ⟨_, rfl⟩, q⟩

/-- what is between an instance and its method: the tree of a method call -/
theorem methcall_of {pl : Sem Bool} {m : Str} {apos : Pos} {args : List Expr} {pins : List (Addr × Obj)} {s : Shared} {σ : St} {H : Hp} {Q : Value → Shared → Prop} {te : TE} (he : PE X e te) (I : Inv X pins σ H s)
    (h : te σ H fun x H1 => ∃ a C dx fs g, x = .ref a ∧ H1 a = some (.ins C dx fs) ∧ Cls X.K C ∧ Meth X.K C m g ∧ fs.lookup m = none ∧
      ∀ s1, Inv X pins σ H1 s1 → wpAny (model X.prog X.w) X.A (callWith pos (.ref g) [.ref a] (backTo pos (starEach args X.env)) (backToKw pos (keywordEach [] X.env))) Q X.xe s1)
    (ht : eval (.Call (.Attribute e m apos) args [] pos) X.env = (do
      let ov ← eval e X.env
      standAt apos.atName
      let (f, first) ← holding [ov] (getMethod ov m pl)
      callWith pos f first (backTo pos (starEach args X.env)) (backToKw pos (keywordEach [] X.env)))) :
    wpAny (model X.prog X.w) X.A (eval (.Call (.Attribute e m apos) args [] pos) X.env) Q X.xe s := by
  refine PySem.W.methodCall_KW (pl := pl) (thn (he pins s σ H _ I h) fun u s1 ⟨x, H1, I1, rx, a, C, dx, fs, g, ex, ea, c, k, l, q⟩ => ?_) ht
  subst ex
  obtain rfl : u = Value.ref a := rx
  exact getmeth_ok I1 ea c k l (q s1 I1)
end

/-! ### isinstance -/
section
variable {X : Cx} {pins : List (Addr × Obj)} {σ : St} {H : Hp} {s : Shared} {A : Around} {E : Value → Shared → Prop} {Q : Value → Shared → Prop} {c : Value} {b : Bool}
/-- the type of a value, as the fragment's deciders take it; for an instance its class -/
inductive TyOf (K : PySem.W.Frag) (H : Hp) : V → Value → Prop where
  | non : TyOf K H .non (.type "NoneType")
  | bl (x : Bool) : TyOf K H (.bl x) (.type "bool")
  | int (i : Int) : TyOf K H (.int i) (.type "int")
  | str (x : Str) : TyOf K H (.str x) (.type "str")
  | flt (x : UInt64) : TyOf K H (.flt x) (.type "float")
  | lst {a : Addr} {xs : List V} (e : H a = some (.lst xs)) : TyOf K H (.ref a) (.type "list")
  | frz {a : Addr} {o : Obj} {xs : List V} (e : H a = some (.frz o (.lst xs))) : TyOf K H (.ref a) (.type "list")
  | tup {a : Addr} {xs : List V} (e : H a = some (.tup xs)) : TyOf K H (.ref a) (.type "tuple")
  | dK {a : Addr} {kvs : List (Key × V)} (e : H a = some (.dK kvs)) : TyOf K H (.ref a) (.type "dict")
  | dT {a : Addr} {kvs : List (List Key × V)} (e : H a = some (.dT kvs)) : TyOf K H (.ref a) (.type "dict")
  | ins {a C dx : Addr} {fs : List (Str × V)} (e : H a = some (.ins C dx fs)) (cl : Cls K C) (ha : PySem.W.findIn K (.ref C) "__class__" = some (some (.builtin "object.__class__")))
      (hn : PySem.W.specialIn K (.builtin "object.__class__") "__get__" = some (some (.builtin "getset_descriptor.__get__"))) (htk : PySem.W.takesIn K (.builtin "object.__class__") = some true)
      (hm : PySem.W.mroIn K C (.type "object") = some true) : TyOf K H (.ref a) (.ref C)
/-- isinstance(x, c) for one class c, a built-in or an own one: kitOne's answer -/
theorem isinst_ok {x : V} {u t : Value} (I : Inv X pins σ H s) (rx : RelV x u) (ty : TyOf X.K H x t) (e : PySem.W.kitOne X.K t c = some b) (h : ∀ tk, Q (.bool b) { s with toks := tk }) :
    wpAny (model X.prog X.w) A (call (.builtin "isinstance") [u, c]) Q E s := by
  cases ty with
  | non => cases (show u = Value.none from rx); exact PySem.W.kia_one PySem.W.kitx_none I.kIn True.intro e (fun z => nomatch z) h
  | bl y => cases (show u = Value.bool y from rx); exact PySem.W.kia_one PySem.W.kitx_bool I.kIn True.intro e (fun z => nomatch z) h
  | int i => obtain ⟨t, q⟩ := (show ∃ t, u = Value.int i t from rx); cases q; exact PySem.W.kia_one PySem.W.kitx_int I.kIn True.intro e (fun z => nomatch z) h
  | str y => obtain ⟨t, q⟩ := (show ∃ t, u = Value.str y t from rx); cases q; exact PySem.W.kia_one PySem.W.kitx_str I.kIn True.intro e (fun z => nomatch z) h
  | flt y => obtain ⟨t, q⟩ := (show ∃ t, u = Value.float y t from rx); cases q; exact PySem.W.kia_one PySem.W.kitx_float I.kIn True.intro e (fun z => nomatch z) h
  | @lst a xs ea =>
    cases (show u = Value.ref a from rx)
    obtain ⟨_, _, n, _, h1⟩ := (show ObjOk X.prog X.w H s.heap a (.lst xs) from I.hok a _ ea)
    exact PySem.W.kia_one PySem.W.kitx_list I.kIn ⟨_, h1, rfl⟩ e (fun z => nomatch z) h
  | @frz a ob xs ea =>
    cases (show u = Value.ref a from rx)
    obtain ⟨_, _, _, n, _, h1⟩ := (show ObjOk X.prog X.w H s.heap a (.frz ob (.lst xs)) from I.hok a _ ea)
    exact PySem.W.kia_one PySem.W.kitx_list I.kIn ⟨_, h1, rfl⟩ e (fun z => nomatch z) h
  | @tup a xs ea =>
    cases (show u = Value.ref a from rx)
    obtain ⟨_, _, _, p⟩ := (show ObjOk X.prog X.w H s.heap a (.tup xs) from I.hok a _ ea)
    obtain ⟨o, h1, h2, _⟩ := p
    exact PySem.W.kia_one PySem.W.kitx_tuple I.kIn ⟨o, h1, h2⟩ e (fun z => nomatch z) h
  | @dK a kvs ea =>
    cases (show u = Value.ref a from rx)
    obtain ⟨_, _, vs, _, p⟩ := (show ObjOk X.prog X.w H s.heap a (.dK kvs) from I.hok a _ ea)
    obtain ⟨o, es, ep, h1, h2, _⟩ := p
    exact PySem.W.kia_one PySem.W.kitx_dict I.kIn ⟨o, h1, h2.1⟩ e (fun z => nomatch z) h
  | @dT a kvs ea =>
    cases (show u = Value.ref a from rx)
    obtain ⟨_, _, xs, _, o, es, ep, h1, h2, _⟩ := (show ObjOk X.prog X.w H s.heap a (.dT kvs) from I.hok a _ ea)
    exact PySem.W.kia_one PySem.W.kitx_dict I.kIn ⟨o, h1, h2.1⟩ e (fun z => nomatch z) h
  | @ins a C dx fs ea cl ha hn htk hm =>
    cases (show u = Value.ref a from rx)
    obtain ⟨mA, O, _⟩ := ins_get I.hok ea
    obtain ⟨od, J, _⟩ := O.look
    exact PySem.W.kia_one (PySem.W.kitx_own (cl.get _) cl.hd ha hn htk hm) I.kIn J e (fun z => nomatch z) h
end
end L2

namespace L2
open PySem PySem.Spec PyProof.Rows

/-! ### room -/
structure Room (k : Nat) (A : Around) : Prop where
  hd : A.handled = none
  dp : A.depth + 3 * k + 5 < recursionLimit
  un : A.units + 16 * k + 200 < cLine
theorem Room.mono {j k : Nat} {A : Around} (r : Room k A) (h : j ≤ k) : Room j A := ⟨r.hd, by have := r.dp; omega, by have := r.un; omega⟩
theorem Room.deeper {k : Nat} {A : Around} (r : Room (k + 1) A) (env : Env) : Room k (A.deeper env) :=
  ⟨r.hd, by have := r.dp; show A.depth + 1 + 3 * k + 5 < _; omega, by have := r.un; show A.units + 3 + 16 * k + 200 < _; omega⟩
theorem Room.in1 {k : Nat} {A : Around} (r : Room (k + 1) A) : Room k A.in1 :=
  ⟨r.hd, by have := r.dp; show A.depth + 3 * k + 5 < _; omega, by have := r.un; show A.units + 1 + 16 * k + 200 < _; omega⟩
theorem make_depth {A : Around} {C : Addr} {us : List Value} {kw : List (Str × Value)} : (A.under (.builtin "type.__call__" ⟨.ref C :: us, kw⟩)).depth = A.depth + 1 := by
  first | rfl | simp [Around.under, Code.weight, Code.isCreation, Code.isGuard, Code.isCaller, Code.frames, Code.isFrame, guardIds]
theorem make_units {A : Around} {C : Addr} {us : List Value} {kw : List (Str × Value)} : (A.under (.builtin "type.__call__" ⟨.ref C :: us, kw⟩)).units = A.units + 1 := by
  first | rfl | simp [Around.under, Code.cUnits, Code.frames, Code.isFrame]
theorem Room.make {k : Nat} {A : Around} (r : Room (k + 1) A) (C : Addr) (us : List Value) (kw : List (Str × Value)) : Room k (A.under (.builtin "type.__call__" ⟨.ref C :: us, kw⟩)) :=
  ⟨r.hd, by have := r.dp; rw [make_depth]; omega, by have := r.un; rw [make_units]; omega⟩
theorem Room.depth {k : Nat} {A : Around} (r : Room k A) : A.depth < recursionLimit := by have := r.dp; omega
theorem Room.units {k : Nat} {A : Around} (r : Room k A) : A.units + 64 < cLine := by have := r.un; omega
theorem Room.units0 {k : Nat} {A : Around} (r : Room k A) : A.units < cLine := by have := r.un; omega

/-! ### argument lists and displays -/
def tNil : TA := fun _ H Q => Q [] H
def tCons (ta : TE) (tr : TA) : TA := fun σ H Q => ta σ H fun x H1 => tr σ H1 fun xs H2 => Q (x :: xs) H2
section
variable {X : Cx} {e : Expr} {es : List Expr} {te : TE} {t : TA} {pos : Pos}
theorem pa_nil : PA X [] tNil := fun _ _ _ _ H Q I h => Calls.spliced_nil ⟨[], H, I, .nil, h⟩
theorem pa_cons (ha : PE X e te) (hr : PA X es t) (hs : starEach (e :: es) X.env = (false, eval e X.env) :: starEach es X.env := by rfl) : PA X (e :: es) (tCons te t) := by
  intro pos pins s σ H Q I h
  rw [hs]
  show wpAny _ _ (spliced ((false, eval e X.env) :: backTo pos (starEach es X.env))) _ _ s
  refine Calls.spliced_cons (thn (ha pins s σ H _ I h) fun u s1 ⟨x, H1, I1, r1, q1⟩ => ?_)
  exact thn (hr pos pins s1 σ H1 _ I1 q1) fun us s2 ⟨xs, H2, I2, r2, q2⟩ => ⟨x :: xs, H2, I2, .cons r1 r2, q2⟩

/-- a tuple, a list of written items -/
def tTup (t : TA) : TE := fun σ H Q => t σ H fun xs H1 => xs.length ≤ sizeLine ∧ ∀ p, H1 p = none → Q (.ref p) (upd H1 p (.tup xs))
def tLst (t : TA) : TE := fun σ H Q => t σ H fun xs H1 => xs.length ≤ sizeLine ∧ ∀ p, H1 p = none → Q (.ref p) (upd H1 p (.lst xs))
theorem pe_tup {x1} (h : PA X es t) : PE X (.Tuple es x1 pos) (tTup t) := by
  intro pins s σ H Q I hq
  refine wpAny_Tuple_spliced (thn (h pos pins s σ H _ I hq) fun us s1 ⟨xs, H1, I1, r, z, q⟩ => ⟨by rw [← r.length]; exact z, ?_⟩)
  have hf : H1 s1.heap.objs.size = none := I1.hok.fresh (Nat.le_refl _)
  refine ⟨.ref s1.heap.objs.size, upd H1 s1.heap.objs.size (.tup xs), I1.laid (t' := s1.toks) (fun b u e => Heap.get?_push_of_some _ e) (Nat.le_refl _) ?_, rfl, q _ hf⟩
  exact ⟨z, us, r, ⟨_, Heap.get?_push_size _ rfl, rfl, _, rfl⟩⟩
theorem pe_lst (h : PA X es t) : PE X (.List es pos) (tLst t) := by
  intro pins s σ H Q I hq
  refine wpAny_List_spliced (thn (h pos pins s σ H _ I hq) fun us s1 ⟨xs, H1, I1, r, z, q⟩ => ⟨by rw [← r.length]; exact z, ?_⟩)
  have hf : H1 s1.heap.objs.size = none := I1.hok.fresh (Nat.le_refl _)
  refine ⟨.ref s1.heap.objs.size, upd H1 s1.heap.objs.size (.lst xs), I1.laid (t' := s1.toks) (fun b u e => Heap.get?_push_of_some _ e) (Nat.le_refl _) ?_, rfl, q _ hf⟩
  exact ⟨z, us, 0, r, Heap.get?_push_size _ rfl⟩
end

/-! ### what a def promises -/
/-- a def's promise: the bound arguments in the parameters' order, the heap, the wanted end, the wanted exception -/
abbrev Sp := List V → Hp → VK → XK → Prop
/-- how an exception lies behind a call (file 08 gives it): the callers' frames, abstract heap and state ahead of the call, the wish, the exception, the state -/
abbrev CXT := List Env → Hp → Shared → XK → Value → Shared → Prop

/-- the state at a call -/
structure Env0 (P : Program) (w : World) (K : PySem.W.Frag) (mg : Str → Option Value) (base : Heap) (A : Around) (outer : List Env) (s : Shared) (H : Hp) : Prop where
  frames : A.frames = some outer
  mod : Mod K mg base
  bs : ∀ b o, base.get? b = some o → s.heap.get? b = some o ∧ H b = none
  bsz : base.objs.size ≤ s.heap.objs.size
  funs : s.heap.FunFrames base outer
  frf : ∀ b ∈ frs outer, H b = none
  hok : HOk P w H s.heap
  bare : AllBare s.gens
/-- a call's end -/
def CE (outer : List Env) (P : Program) (w : World) (H : Hp) (s : Shared) (Q : VK) (u : Value) (s' : Shared) : Prop :=
  ∃ v H', s'.os = s.os ∧ AllBare s'.gens ∧ Un (frs outer) [] H H' s.heap s'.heap ∧ HOk P w H' s'.heap ∧ RelV v u ∧ Q v H'
def CR (CX : CXT) (outer : List Env) (P : Program) (w : World) (H : Hp) (s : Shared) (Q : VK) (E : XK) (r : Result) (s' : Shared) : Prop :=
  match r with
  | .ok (.ret u) => CE outer P w H s Q u s'
  | .ok _ => False
  | .error e => CX outer H s E e s'
structure FnOk (P : Program) (w : World) (K : PySem.W.Frag) (mg : Str → Option Value) (base : Heap) (CX : CXT) (k : Nat) (f : Addr) (fd : FuncData) (ps : List Str) (sp : Sp) : Prop where
  len : ∀ vs H Q E, sp vs H Q E → vs.length = ps.length
  run : ∀ (A : Around) (outer : List Env) (s : Shared) (H : Hp) (args : Args) (us : List Value) (vs : List V) (Q : VK) (E : XK), Room k A → Env0 P w K mg base A outer s H → BindsTo s fd args (ps.zip us) → Vals vs us → sp vs H Q E →
    codeAny (model P w) A (.call (.ref f) args) (CR CX outer P w H s Q E) s
theorem FnOk.mono {P : Program} {w : World} {K : PySem.W.Frag} {mg : Str → Option Value} {base : Heap} {CX : CXT} {j k : Nat} {f : Addr} {fd : FuncData} {ps : List Str} {sp : Sp} (F : FnOk P w K mg base CX j f fd ps sp) (h : j ≤ k) :
    FnOk P w K mg base CX k f fd ps sp := ⟨F.len, fun A outer s H args us vs Q E hr => F.run A outer s H args us vs Q E (hr.mono h)⟩
/-- a weaker promise -/
theorem FnOk.imp {P : Program} {w : World} {K : PySem.W.Frag} {mg : Str → Option Value} {base : Heap} {CX : CXT} {k : Nat} {f : Addr} {fd : FuncData} {ps : List Str} {sp sp' : Sp} (F : FnOk P w K mg base CX k f fd ps sp)
    (h : ∀ vs H Q E, sp' vs H Q E → sp vs H Q E) : FnOk P w K mg base CX k f fd ps sp' :=
  ⟨fun vs H Q E q => F.len vs H Q E (h _ _ _ _ q), fun A outer s H args us vs Q E hr he hb hv hs => F.run A outer s H args us vs Q E hr he hb hv (h _ _ _ _ hs)⟩

theorem Env0.make {P : Program} {w : World} {K : PySem.W.Frag} {mg : Str → Option Value} {base : Heap} {A : Around} {outer : List Env} {s : Shared} {H : Hp} (e : Env0 P w K mg base A outer s H) (C : Addr) (us : List Value) (kw : List (Str × Value)) :
    Env0 P w K mg base (A.under (.builtin "type.__call__" ⟨.ref C :: us, kw⟩)) outer s H := ⟨by first | exact e.frames | (simpa [Around.under, Code.envs, Code.isFrame, pushEnvs] using e.frames), e.mod, e.bs, e.bsz, e.funs, e.frf, e.hok, e.bare⟩
theorem Env0.in1 {P : Program} {w : World} {K : PySem.W.Frag} {mg : Str → Option Value} {base : Heap} {A : Around} {outer : List Env} {s : Shared} {H : Hp} (e : Env0 P w K mg base A outer s H) :
    Env0 P w K mg base A.in1 outer s H := ⟨e.frames, e.mod, e.bs, e.bsz, e.funs, e.frf, e.hok, e.bare⟩

section
variable {X : Cx} {pins : List (Addr × Obj)} {σ : St} {H : Hp} {s s' : Shared}
/-- from a body: what a callee wants -/
theorem Inv.env0 (I : Inv X pins σ H s) : Env0 X.prog X.w X.K X.mg X.base X.A X.stack s H :=
  ⟨I.ok.frames, I.ok.mod, I.bs, Nat.le_trans I.ok.bsz I.sz, I.stack, I.stkFree, I.hok, I.bare⟩
/-- behind a call -/
theorem Inv.after {Q : VK} {u : Value} (I : Inv X pins σ H s) (h : CE X.stack X.prog X.w H s Q u s') : EP X pins σ Q u s' := by
  obtain ⟨v, H', os, bare, un, hok, r, q⟩ := h
  obtain ⟨hh, g, d, t, os'⟩ := s'
  obtain rfl : os' = s.os := os
  exact ⟨v, H', I.call (h' := hh) (g' := g) (d' := d) (t' := t) (ch := []) un hok bare (fun b z => absurd z (by simp)), r, q⟩
end

/-! ### calls -/
/-- f(..): the written arguments, then the defaults dvs; E: what is wanted of an exception -/
def tCall (sp : Sp) (dvs : List V) (E : XK) (t : TA) : TE := fun σ H Q => t σ H fun vs H1 => sp (vs ++ dvs) H1 Q E
/-- o.m(..) of an instance of the class at C -/
def tMeth (C : Addr) (m : Str) (sp : Sp) (dvs : List V) (E : XK) (ta : TE) (t : TA) : TE := fun σ H Q => ta σ H fun x H1 => ∃ a dx fs, x = .ref a ∧ H1 a = some (.ins C dx fs) ∧ fs.lookup m = none ∧
  t σ H1 fun vs H2 => sp (x :: (vs ++ dvs)) H2 Q E
/-- C(..): a new instance and its dict, then __init__ -/
def tMake (C : Addr) (sp : Sp) (dvs : List V) (E : XK) (t : TA) : TE := fun σ H Q => t σ H fun vs H1 => ∀ x dx, H1 x = none → H1 dx = none → dx ≠ x →
  sp (.ref x :: (vs ++ dvs)) (upd (upd H1 dx (.own x)) x (.ins C dx [])) (fun v H2 => v = .non ∧ Q (.ref x) H2) E

/-- how the parameters are bound: us the positional arguments, kw the keywords' values by name, ds the defaults that fill up -/
def Binds (K : PySem.W.Frag) (fd : FuncData) (ps : List Str) (ds : List Value) : Prop :=
  ∀ (s : Shared) (us : List Value), K.In s.heap → (us ++ ds).length = ps.length → BindsTo s fd ⟨us, []⟩ (ps.zip (us ++ ds))
/-- every parameter is given -/
theorem Binds.all {K : PySem.W.Frag} {fd : FuncData} {ps : List Str} (h : ∀ us : List Value, us.length = ps.length → bindArgs fd ⟨us, []⟩ = pure (ps.zip us)) : Binds K fd ps [] := fun s us _ hl => by
  rw [List.append_nil] at hl ⊢
  exact .of_eq (h us hl)

/-- an exception of a callee reaches what this body wants of exceptions -/
def Passes (CX : CXT) (X : Cx) (E : XK) : Prop := ∀ (pins : List (Addr × Obj)) (σ : St) (H : Hp) (s : Shared) (e : Value) (s' : Shared), Inv X pins σ H s → CX X.stack H s E e s' → X.xe e s'

section
variable {X : Cx} {CX : CXT} {k : Nat} {f C : Addr} {fd : FuncData} {ps : List Str} {sp : Sp} {dvs : List V} {ds : List Value} {E : XK} {x m : Str} {p pos apos : Pos} {e o : Expr} {es : List Expr} {ta : TE} {t : TA}

/-- the callee runs -/
theorem run_fn {pins : List (Addr × Obj)} {σ : St} {H : Hp} {s : Shared} {Q : VK} {us : List Value} {vs : List V} (F : FnOk X.prog X.w X.K X.mg X.base CX k f fd ps sp) (hr : Room k X.A) (hb : Binds X.K fd ps ds) (hd : Vals dvs ds) (hx : Passes CX X E)
    (I : Inv X pins σ H s) (r : Vals vs us) (h : sp (vs ++ dvs) H Q E) : wpAny (model X.prog X.w) X.A (call (.ref f) us) (EP X pins σ Q) X.xe s := by
  have r2 : Vals (vs ++ dvs) (us ++ ds) := r.append hd
  have hl : (us ++ ds).length = ps.length := by rw [← r2.length]; exact F.len _ _ _ _ h
  refine wpAny_call (codeAny_mono (F.run X.A X.stack s H ⟨us, []⟩ (us ++ ds) (vs ++ dvs) Q E hr I.env0 (hb s us I.kIn hl) r2 h) fun r s' hq => ?_)
  cases r with
  | error e => exact hx pins σ H s e s' I hq
  | ok fl =>
    cases fl with
    | ret u => exact I.after hq
    | next => exact False.elim hq
    | brk => exact False.elim hq
    | cont => exact False.elim hq

theorem pe_call (F : FnOk X.prog X.w X.K X.mg X.base CX k f fd ps sp) (hr : Room k X.A) (hg : Gl X x) (hm : X.mg x = some (.ref f)) (hk : PySem.W.keepIn X.K (.ref f) = true) (hb : Binds X.K fd ps ds) (hd : Vals dvs ds) (hx : Passes CX X E)
    (ha : PA X (e :: es) t) (hdb : (x == ("__debug__" : Str)) = false := by decide) (he : starEach (e :: es) X.env = (false, eval e X.env) :: starEach es X.env := by rfl) (hpl : (backTo pos (starEach es X.env)).any (·.1) = false := by rfl) :
    PE X (.Call (.Name x p) (e :: es) [] pos) (tCall sp dvs E t) := by
  intro pins s σ H Q I h
  refine wpAny_Call_Name_kw (ld_glob I hg hm ?_ hdb)
  refine PySem.W.callWith_K (h₀ := X.base) I.ok.mod.kin hk (thn (ha pos pins s σ H _ I h) fun us s1 ⟨vs, H1, I1, r, q⟩ => ⟨I1.kIn, ?_⟩) he hpl
  exact run_fn F hr hb hd hx I1 r q
theorem pe_call0 (F : FnOk X.prog X.w X.K X.mg X.base CX k f fd ps sp) (hr : Room k X.A) (hg : Gl X x) (hm : X.mg x = some (.ref f)) (hk : PySem.W.keepIn X.K (.ref f) = true) (hb : Binds X.K fd ps ds) (hd : Vals dvs ds) (hx : Passes CX X E)
    (hdb : (x == ("__debug__" : Str)) = false := by decide) : PE X (.Call (.Name x p) [] [] pos) (tCall sp dvs E tNil) := by
  intro pins s σ H Q I h
  refine wpAny_Call_Name_kw (ld_glob I hg hm ?_ hdb)
  exact PySem.W.callWith_K0 I.kIn hk (run_fn (us := []) F hr hb hd hx I .nil h)

/-- o.m(e, ..) -/
theorem pe_meth {pl : Sem Bool} (he : PE X o ta) (c : Cls X.K C) (hm : Meth X.K C m f) (F : FnOk X.prog X.w X.K X.mg X.base CX k f fd ps sp) (hr : Room k X.A) (hb : Binds X.K fd ps ds) (hd : Vals dvs ds) (hx : Passes CX X E) (ha : PA X (e :: es) t)
    (hst : starEach (e :: es) X.env = (false, eval e X.env) :: starEach es X.env := by rfl) (hpl : (backTo pos (starEach es X.env)).any (·.1) = false := by rfl)
    (ht : eval (.Call (.Attribute o m apos) (e :: es) [] pos) X.env = (do
      let ov ← eval o X.env
      standAt apos.atName
      let (f, first) ← holding [ov] (getMethod ov m pl)
      callWith pos f first (backTo pos (starEach (e :: es) X.env)) (backToKw pos (keywordEach [] X.env))) := by rfl) :
    PE X (.Call (.Attribute o m apos) (e :: es) [] pos) (tMeth C m sp dvs E ta t) := by
  intro pins s σ H Q I h
  refine PySem.W.methodCall_KW (pl := pl) (thn (he pins s σ H _ I h) fun u s1 ⟨x, H1, I1, rx, a, dx, fs, ex, ea, l, q⟩ => ?_) ht
  subst ex
  obtain rfl : u = Value.ref a := rx
  refine getmeth_ok I1 ea c hm l ?_
  refine PySem.W.callWith_K (first := [.ref a]) (h₀ := X.base) I.ok.mod.kin hm.kp (thn (ha pos pins s1 σ H1 _ I1 q) fun us s2 ⟨vs, H2, I2, r, q2⟩ => ⟨I2.kIn, ?_⟩) hst hpl
  exact run_fn (us := .ref a :: us) (vs := .ref a :: vs) F hr hb hd hx I2 (.cons rfl r) q2
/-- o.m() -/
theorem pe_meth0 {pl : Sem Bool} (he : PE X o ta) (c : Cls X.K C) (hm : Meth X.K C m f) (F : FnOk X.prog X.w X.K X.mg X.base CX k f fd ps sp) (hr : Room k X.A) (hb : Binds X.K fd ps ds) (hd : Vals dvs ds) (hx : Passes CX X E)
    (ht : eval (.Call (.Attribute o m apos) [] [] pos) X.env = (do
      let ov ← eval o X.env
      standAt apos.atName
      let (f, first) ← holding [ov] (getMethod ov m pl)
      callWith pos f first (backTo pos (starEach [] X.env)) (backToKw pos (keywordEach [] X.env))) := by rfl) :
    PE X (.Call (.Attribute o m apos) [] [] pos) (tMeth C m sp dvs E ta tNil) := by
  intro pins s σ H Q I h
  refine PySem.W.methodCall_KW (pl := pl) (thn (he pins s σ H _ I h) fun u s1 ⟨x, H1, I1, rx, a, dx, fs, ex, ea, l, q⟩ => ?_) ht
  subst ex
  obtain rfl : u = Value.ref a := rx
  refine getmeth_ok I1 ea c hm l ?_
  exact PySem.W.callWith_K0 (first := [.ref a]) I1.kIn hm.kp (run_fn (us := [.ref a]) (vs := [.ref a]) F hr hb hd hx I1 (.cons rfl .nil) q)

/-- what a class must have to be made -/
structure Mk (K : PySem.W.Frag) (C f : Addr) : Prop where
  makes : PySem.W.makesIn K C = true
  init : PySem.W.findIn K (.ref C) "__init__" = some (some (.ref f))
  fn : PySem.W.isFn K (.ref f) = true
  kp : PySem.W.keepIn K (.ref C) = true

theorem run_make {pins : List (Addr × Obj)} {σ : St} {H : Hp} {s : Shared} {Q : VK} {us : List Value} {vs : List V} (M : Mk X.K C f) (F : FnOk X.prog X.w X.K X.mg X.base CX k f fd ps sp) (hr : Room (k + 1) X.A) (hb : Binds X.K fd ps ds) (hd : Vals dvs ds)
    (hx : Passes CX X E) (I : Inv X pins σ H s) (r : Vals vs us)
    (h : ∀ x dx, H x = none → H dx = none → dx ≠ x → sp (.ref x :: (vs ++ dvs)) (upd (upd H dx (.own x)) x (.ins C dx [])) (fun v H2 => v = .non ∧ Q (.ref x) H2) E) :
    wpAny (model X.prog X.w) X.A (call (.ref C) us) (EP X pins σ Q) X.xe s := by
  have hq := h (s.heap.objs.size + 1) s.heap.objs.size (I.hok.fresh (Nat.le_succ _)) (I.hok.fresh (Nat.le_refl _)) (Nat.ne_of_lt (Nat.lt_succ_self _))
  have I2 := Inv.made (C := C) I
  have r2 : Vals (V.ref (s.heap.objs.size + 1) :: (vs ++ dvs)) (Value.ref (s.heap.objs.size + 1) :: (us ++ ds)) := .cons rfl (r.append hd)
  have hl : (Value.ref (s.heap.objs.size + 1) :: us ++ ds).length = ps.length := by
    have e := r2.length
    rw [F.len _ _ _ _ hq] at e
    exact e.symm
  refine wpAny_call (make_map (f := f) I.kIn M.makes M.init (beq_iff_eq.mp M.fn) (codeAny_mono (F.run _ X.stack _ _ ⟨Value.ref (s.heap.objs.size + 1) :: us, []⟩ (Value.ref (s.heap.objs.size + 1) :: (us ++ ds)) _ _ E (hr.make C us [])
    (I2.env0.make C us []) (hb _ (Value.ref (s.heap.objs.size + 1) :: us) I2.kIn hl) r2 hq) fun r s' hq' => ?_))
  cases r with
  | error e => exact hx pins σ _ _ e s' I2 hq'
  | ok fl =>
    cases fl with
    | ret u =>
      obtain ⟨v, H', I3, rv, ev, q3⟩ := I2.after hq'
      subst ev
      exact ⟨rv, ⟨V.ref (s.heap.objs.size + 1), H', I3, rfl, q3⟩⟩
    | next => exact False.elim hq'
    | brk => exact False.elim hq'
    | cont => exact False.elim hq'
theorem pe_make (M : Mk X.K C f) (F : FnOk X.prog X.w X.K X.mg X.base CX k f fd ps sp) (hr : Room (k + 1) X.A) (hg : Gl X x) (hm : X.mg x = some (.ref C)) (hb : Binds X.K fd ps ds) (hd : Vals dvs ds) (hx : Passes CX X E)
    (ha : PA X (e :: es) t) (hdb : (x == ("__debug__" : Str)) = false := by decide) (he : starEach (e :: es) X.env = (false, eval e X.env) :: starEach es X.env := by rfl) (hpl : (backTo pos (starEach es X.env)).any (·.1) = false := by rfl) :
    PE X (.Call (.Name x p) (e :: es) [] pos) (tMake C sp dvs E t) := by
  intro pins s σ H Q I h
  refine wpAny_Call_Name_kw (ld_glob I hg hm ?_ hdb)
  refine PySem.W.callWith_K (h₀ := X.base) I.ok.mod.kin M.kp (thn (ha pos pins s σ H _ I h) fun us s1 ⟨vs, H1, I1, r, q⟩ => ⟨I1.kIn, ?_⟩) he hpl
  exact run_make M F hr hb hd hx I1 r q
theorem pe_make0 (M : Mk X.K C f) (F : FnOk X.prog X.w X.K X.mg X.base CX k f fd ps sp) (hr : Room (k + 1) X.A) (hg : Gl X x) (hm : X.mg x = some (.ref C)) (hb : Binds X.K fd ps ds) (hd : Vals dvs ds) (hx : Passes CX X E)
    (hdb : (x == ("__debug__" : Str)) = false := by decide) : PE X (.Call (.Name x p) [] [] pos) (tMake C sp dvs E tNil) := by
  intro pins s σ H Q I h
  refine wpAny_Call_Name_kw (ld_glob I hg hm ?_ hdb)
  exact PySem.W.callWith_K0 I.kIn M.kp (run_make (us := []) M F hr hb hd hx I .nil h)
end

/-! ### keywords -/
/-- the values of the keywords, from the left -/
def PK (X : Cx) (kws : List Keyword) (t : TA) : Prop :=
  ∀ (pos : Pos) (pins : List (Addr × Obj)) (s : Shared) (σ : St) (H : Hp) (Q : List V → Hp → Prop), Inv X pins σ H s → t σ H Q → wpAny (model X.prog X.w) X.A (evalAll ((backToKw pos (keywordEach kws X.env)).map (·.2))) (AP X pins σ Q) X.xe s
section
variable {X : Cx} {CX : CXT} {k : Nat} {f C : Addr} {fd : FuncData} {ps ks : List Str} {sp : Sp} {E : XK} {x m : Str} {p pos apos kpos : Pos} {e o : Expr} {es : List Expr} {kws : List Keyword} {te ta : TE} {t tk : TA} {nm : Option Str}
theorem pk_nil : PK X [] tNil := fun _ _ _ _ H Q I h => wpAny_evalAll_nil ⟨[], H, I, .nil, h⟩
theorem pk_cons (ha : PE X e te) (hr : PK X kws t) : PK X (⟨nm, e, kpos⟩ :: kws) (tCons te t) := by
  intro pos pins s σ H Q I h
  show wpAny _ _ (evalAll ((do let v ← eval e X.env; standAt pos; pure v) :: (backToKw pos (keywordEach kws X.env)).map (·.2))) _ _ s
  refine wpAny_evalAll_cons (wpAny_bind (thn (ha pins s σ H _ I h) fun u s1 ⟨x, H1, I1, r1, q1⟩ => wpAny_bind (wpAny_standAt (wpAny_pure ?_))))
  exact thn (hr pos pins s1 σ H1 _ I1 q1) fun us s2 ⟨xs, H2, I2, r2, q2⟩ => ⟨x :: xs, H2, I2, .cons r1 r2, q2⟩

/-- how a call with keywords binds: g puts the positional values us and the keywords' values ws (names ks) in the parameters' order, defaults among them -/
structure KBinds (K : PySem.W.Frag) (fd : FuncData) (ps ks : List Str) (g : List Value → List Value → List Value) (gV : List V → List V → List V) : Prop where
  to : ∀ (s : Shared) (us ws : List Value), K.In s.heap → (g us ws).length = ps.length → BindsTo s fd ⟨us, ks.zip ws⟩ (ps.zip (g us ws))
  rel : ∀ {vs : List V} {us : List Value} {zs : List V} {ws : List Value}, Vals vs us → Vals zs ws → Vals (gV vs zs) (g us ws)
def tCallK (sp : Sp) (gV : List V → List V → List V) (E : XK) (t tk : TA) : TE := fun σ H Q => t σ H fun vs H1 => tk σ H1 fun zs H2 => sp (gV vs zs) H2 Q E
variable {g : List Value → List Value → List Value} {gV : List V → List V → List V}
theorem run_fnk {pins : List (Addr × Obj)} {σ : St} {H : Hp} {s : Shared} {Q : VK} {us ws : List Value} {vs zs : List V} (F : FnOk X.prog X.w X.K X.mg X.base CX k f fd ps sp) (hr : Room k X.A) (hb : KBinds X.K fd ps ks g gV) (hx : Passes CX X E)
    (I : Inv X pins σ H s) (r : Vals vs us) (rz : Vals zs ws) (h : sp (gV vs zs) H Q E) : wpAny (model X.prog X.w) X.A (call (.ref f) us (ks.zip ws)) (EP X pins σ Q) X.xe s := by
  have r2 := hb.rel r rz
  have hl : (g us ws).length = ps.length := by rw [← r2.length]; exact F.len _ _ _ _ h
  refine wpAny_call (codeAny_mono (F.run X.A X.stack s H ⟨us, ks.zip ws⟩ (g us ws) (gV vs zs) Q E hr I.env0 (hb.to s us ws I.kIn hl) r2 h) fun r s' hq => ?_)
  cases r with
  | error e => exact hx pins σ H s e s' I hq
  | ok fl =>
    cases fl with
    | ret u => exact I.after hq
    | next => exact False.elim hq
    | brk => exact False.elim hq
    | cont => exact False.elim hq
/-- f(e, .., k = v, ..) -/
theorem pe_callK (F : FnOk X.prog X.w X.K X.mg X.base CX k f fd ps sp) (hr : Room k X.A) (hg : Gl X x) (hm : X.mg x = some (.ref f)) (hk : PySem.W.keepIn X.K (.ref f) = true) (hb : KBinds X.K fd ps ks g gV) (hx : Passes CX X E)
    (ha : PA X (e :: es) t) (hkw : PK X kws tk) (hall : (backToKw pos (keywordEach kws X.env)).all (·.1.isSome) = true := by rfl) (hks : (backToKw pos (keywordEach kws X.env)).filterMap (·.1) = ks := by rfl)
    (hdb : (x == ("__debug__" : Str)) = false := by decide) (he : starEach (e :: es) X.env = (false, eval e X.env) :: starEach es X.env := by rfl)
    (hpl : ((backTo pos (starEach (e :: es) X.env)).any (·.1) || (backToKw pos (keywordEach kws X.env)).any (·.1.isNone)) = false := by rfl) :
    PE X (.Call (.Name x p) (e :: es) kws pos) (tCallK sp gV E t tk) := by
  intro pins s σ H Q I h
  refine wpAny_Call_Name_kw (ld_glob I hg hm ?_ hdb)
  refine PySem.W.callWith_KW (h₀ := X.base) I.ok.mod.kin hk hall (thn (ha pos pins s σ H _ I h) fun us s1 ⟨vs, H1, I1, r, q⟩ => ?_) hpl he
  refine thn (hkw pos pins s1 σ H1 _ I1 q) fun ws s2 ⟨zs, H2, I2, rz, q2⟩ => ⟨I2.kIn, ?_⟩
  rw [hks]
  exact run_fnk F hr hb hx I2 r rz q2
end

/-! ### a def's body keeps its promise -/
/-- names: the parameters first -/
structure FnScope (N P : List Str) (sc : Scope) : Prop where
  kind : sc.kind = .function
  co : sc.isCoroutine = false
  gen : sc.isGenerator = false
  nd : N.Nodup
  pre : N.take P.length = P
  par : ∀ x ∈ P, sc.names.lookup x = some .local ∨ sc.names.lookup x = some .cell
  nofree : ∀ y ∈ sc.names, y.2 ≠ .free

theorem bindL_out {kindOf : Str → Option NameKind} {x : Str} : ∀ {binds : List (Str × Value)} {m : Str → Option Value}, (∀ v, (x, v) ∉ binds) → bindL kindOf binds m x = m x
  | [], _, _ => rfl
  | (n, v) :: r, m, h => by
    unfold bindL
    rw [bindL_out fun w hw => h w (List.mem_cons_of_mem _ hw)]
    split
    · have : x ≠ n := by rintro rfl; exact h v List.mem_cons_self
      simp [this]
    · rfl
theorem bindC_out {kindOf : Str → Option NameKind} {x : Str} : ∀ {binds : List (Str × Value)} {m : Str → Option Value}, (∀ v, (x, v) ∉ binds) → bindC kindOf binds m x = m x
  | [], _, _ => rfl
  | (n, v) :: r, m, h => by
    unfold bindC
    rw [bindC_out fun w hw => h w (List.mem_cons_of_mem _ hw)]
    split
    · rfl
    · have : x ≠ n := by rintro rfl; exact h v List.mem_cons_self
      simp [this]
theorem bindL_get {kindOf : Str → Option NameKind} {x : Str} {v : Value} : ∀ {P : List Str} {vs : List Value} {i : Nat} {m : Str → Option Value}, P.Nodup → P[i]? = some x → vs[i]? = some v → kindOf x = some .local →
    bindL kindOf (P.zip vs) m x = some v
  | [], _, _, _, _, h, _, _ => by simp at h
  | _ :: _, [], _, _, _, _, h, _ => by simp at h
  | p :: P, w :: vs, 0, m, nd, h1, h2, hk => by
    simp at h1 h2; subst h1; subst h2
    show bindL kindOf ((p, w) :: P.zip vs) m p = _
    unfold bindL
    rw [bindL_out fun v hv => (List.nodup_cons.mp nd).1 (List.of_mem_zip hv).1, if_pos hk]
    simp
  | p :: P, w :: vs, i + 1, m, nd, h1, h2, hk => by
    show bindL kindOf ((p, w) :: P.zip vs) m x = _
    unfold bindL
    exact bindL_get (i := i) (List.nodup_cons.mp nd).2 (by simpa using h1) (by simpa using h2) hk
theorem bindC_get {kindOf : Str → Option NameKind} {x : Str} {v : Value} : ∀ {P : List Str} {vs : List Value} {i : Nat} {m : Str → Option Value}, P.Nodup → P[i]? = some x → vs[i]? = some v → kindOf x ≠ some .local →
    bindC kindOf (P.zip vs) m x = some v
  | [], _, _, _, _, h, _, _ => by simp at h
  | _ :: _, [], _, _, _, _, h, _ => by simp at h
  | p :: P, w :: vs, 0, m, nd, h1, h2, hk => by
    simp at h1 h2; subst h1; subst h2
    show bindC kindOf ((p, w) :: P.zip vs) m p = _
    unfold bindC
    rw [bindC_out fun v hv => (List.nodup_cons.mp nd).1 (List.of_mem_zip hv).1, if_neg hk]
    simp
  | p :: P, w :: vs, i + 1, m, nd, h1, h2, hk => by
    show bindC kindOf ((p, w) :: P.zip vs) m x = _
    unfold bindC
    exact bindC_get (i := i) (List.nodup_cons.mp nd).2 (by simpa using h1) (by simpa using h2) hk

/-- the names' values at the entry -/
def start (N : List Str) (vs : List V) : St := vs.map some ++ List.replicate (N.length - vs.length) none

/-- the context of a def's body, at its entry; an exception leaves the frame, then lies as CX says -/
def cxOf (CX : CXT) (P : Program) (w : World) (K : PySem.W.Frag) (mg : Str → Option Value) (base : Heap) (N : List Str) (qual : Str) (scope : Scope) (f : Addr) (cd : Value) (A : Around) (outer : List Env) (s : Shared) (H : Hp) (E : XK) : Cx where
  prog := P
  w := w
  K := K
  mg := mg
  base := base
  A := A.deeper (envOfC qual scope s.heap.objs.size f cd)
  N := N
  s₀ := s
  H₀ := H
  env := envOfC qual scope s.heap.objs.size f cd
  outer := outer
  stack := envOfC qual scope s.heap.objs.size f cd :: outer
  ex := []
  calm := true
  fn := fun _ => true
  pn := []
  xe := fun e s' => wpAny (model P w) (A.deeper (envOfC qual scope s.heap.objs.size f cd)) (leaving (envOfC qual scope s.heap.objs.size f cd) e) (fun _ s'' => CX outer H s E e s'') (fun e' s'' => CX outer H s E e' s'') s'

theorem cell_has {sc : Scope} {n : Nat} {x : Str} (h : sc.names.lookup x = some .cell) : ∃ c, (cellsFrom n sc.names []).lookup x = some c := by
  have q := PySem.W.cellsFrom_some sc.names n [] (.inl h)
  exact Option.isSome_iff_exists.mp q

theorem inv_start {CX : CXT} {P : Program} {w : World} {K : PySem.W.Frag} {mg : Str → Option Value} {base : Heap} {N ps : List Str} {qual : Str} {scope : Scope} {f : Addr} {cd : Value} {A : Around} {outer : List Env} {s s1 : Shared} {H : Hp} {E : XK} {us : List Value} {vs : List V}
    (S : FnScope N ps scope) (hd : A.handled = none) (e0 : Env0 P w K mg base A outer s H) (hl : vs.length = ps.length) (r : Vals vs us)
    (x : InCallC s s.heap.objs.size (bindL (envOfC qual scope s.heap.objs.size f cd).kindOf (ps.zip us) fun _ => none) (cellsFrom (s.heap.objs.size + 1) scope.names []) (bindC (envOfC qual scope s.heap.objs.size f cd).kindOf (ps.zip us) fun _ => none) s1) :
    Inv (cxOf CX P w K mg base N qual scope f cd A outer s H E) [] (start N vs) H s1 := by
  have hpl : ps.length ≤ N.length := by have := congrArg List.length S.pre; rw [List.length_take] at this; omega
  obtain ⟨h1, tk, rfl, hk⟩ := x.done
  have noA : ∀ b : Addr, b ∉ (cxOf CX P w K mg base N qual scope f cd A outer s H E).ex := fun b z => absurd (show b ∈ ([] : List Addr) from z) (by simp)
  refine ⟨⟨e0.mod, S.kind, rfl, rfl, Nat.le_refl _, fun y z c h1 h2 => ?_, fun y hy => ?_, fun y c _ h => ?_, fun _ => hd, Around.frames_deeper e0.frames, .inr ⟨rfl, rfl⟩, fun b z => absurd z (noA b), e0.bs, e0.bsz, fun b _ _ => noA b, fun b z => absurd z (noA b), e0.funs, e0.frf⟩,
    rfl, e0.bare, Un.kept hk, ⟨_, x.toInCall.ns, fun i y v h1 h2 h3 => ?_⟩, fun y c h => ⟨_, x.cell y c h⟩, e0.hok.fresh (Nat.le_refl _), fun y c h => ?_, fun p hp => absurd (show p ∈ ([] : List (Addr × Obj)) from hp) (by simp), e0.hok.kept hk, ?_⟩
  · exact name_of_addr x.apart (PySem.mem_of_lookup h1) (PySem.mem_of_lookup h2)
  · have hy : scope.names.lookup y = some .cell ∨ scope.names.lookup y = some .free := hy
    rcases hy with hy | hy
    · exact cell_has hy
    · exact absurd rfl (S.nofree _ (PySem.mem_of_lookup hy))
  · exact Nat.le_of_lt (x.above y c (PySem.mem_of_lookup h))
  · have hi : i < vs.length := by
      unfold start at h2
      by_cases hi : i < vs.length
      · exact hi
      · rw [List.getElem?_append_right (by simpa using hi)] at h2
        rw [List.getElem?_replicate] at h2
        split at h2 <;> cases h2
    have ha : vs[i]? = some v := by
      unfold start at h2
      rw [List.getElem?_append_left (by simpa using hi), List.getElem?_map] at h2
      cases e : vs[i]? with
      | none => rw [e] at h2; cases h2
      | some a => rw [e] at h2; cases h2; rfl
    obtain ⟨u, hu, rv⟩ := r.get ha
    have hp : ps[i]? = some y := by
      rw [← S.pre, List.getElem?_take_of_lt (by omega)]; exact h1
    have ndP : ps.Nodup := by rw [← S.pre]; exact S.nd.sublist (List.take_sublist _ _)
    refine ⟨u, rv, ?_⟩
    rcases S.par y (List.mem_of_getElem? hp) with k | k
    · exact .inl ⟨k, bindL_get ndP hp hu k⟩
    · obtain ⟨c, e⟩ := cell_has (n := s.heap.objs.size + 1) k
      refine .inr ⟨.inl k, c, e, ?_⟩
      have q := x.cell y c e
      rw [bindC_get ndP hp hu (by show scope.names.lookup y ≠ _; rw [k]; decide)] at q
      exact q
  · exact e0.hok.fresh (Nat.le_of_lt (x.above y c (PySem.mem_of_lookup h)))
  · unfold start
    show _ = N.length
    rw [List.length_append, List.length_map, List.length_replicate]
    omega

/-- THE RULE: a def (or a method) of the text, by its body. The body's reading t is chosen for each entry; it is run at the parameters' values -/
theorem fn_of {CX : CXT} {P : Program} {w : World} {K : PySem.W.Frag} {mg : Str → Option Value} {base : Heap} {k : Nat} {f : Addr} {name qual : Str} {params : Arguments} {body : List Stmt} {scope : Scope} {dV kV doc pm cdv ct oc : Value} {an od : Option Addr}
    {osl : Array (Option Value)} {N ps : List Str} {sp : Sp} (lk : K.lookup f = some ⟨oc, od, .func (PySem.W.fnOf name qual params body scope dV kV doc pm an cdv ct), osl⟩) (hcd : PySem.W.codeIn K cdv qual = true) (S : FnScope N ps scope)
    (len : ∀ vs H Q E, sp vs H Q E → vs.length = ps.length)
    (hbody : ∀ (A : Around) (outer : List Env) (s : Shared) (H : Hp) (vs : List V) (Q : VK) (E : XK), Room k (A.deeper (envOfC qual scope s.heap.objs.size f cdv)) → sp vs H Q E →
      ∃ t, PSs (cxOf CX P w K mg base N qual scope f cdv A outer s H E) body t ∧ t { nx := fun _ H' => Q .non H', rt := Q } (start N vs) H) :
    FnOk P w K mg base CX (k + 1) f (PySem.W.fnOf name qual params body scope dV kV doc pm an cdv ct) ps sp := by
  refine ⟨len, fun A outer s H args us vs Q E hr e0 hb r hsp => ?_⟩
  have hl := len _ _ _ _ hsp
  have KX : K.In s.heap := e0.mod.kin.keeps fun b o e => (e0.bs b o e).1
  have lim : s.heap.NoLimit := e0.mod.nolimit.keeps fun b o e => (e0.bs b o e).1
  have hkind : ∀ y ∈ ps.zip us, scope.names.lookup y.1 = some .local ∨ (scope.names.lookup y.1 = some .cell ∧ ((cellsFrom (s.heap.objs.size + 1) scope.names []).lookup y.1).isSome = true) := fun ⟨n, v⟩ hy => by
    rcases S.par n (List.of_mem_zip hy).1 with q | q
    · exact .inl q
    · exact .inr ⟨q, PySem.W.cellsFrom_some _ _ _ (.inl q)⟩
  refine codeAny_call_function hr.depth (KX _ _ lk) rfl S.co S.gen rfl (PySem.W.codeRec_of KX hcd) (hb _ _ _ _ ?_)
  refine wpAny_newFunctionEnv_cells S.kind hkind fun env he s1 x => ?_
  subst he
  refine ⟨lim.keeps x.toInCall.keep, codeAny_func ?_⟩
  obtain ⟨t, ht, hq⟩ := hbody A outer s H vs Q E (hr.deeper _) hsp
  have I : Inv (cxOf CX P w K mg base N qual scope f cdv A outer s H E) [] (start N vs) H s1 := inv_start S hr.hd e0 hl r x
  refine wpAny_mono (ht [] s1 (start N vs) H _ I hq) (fun fl s' hs => ?_) fun e s' hs => hs
  have fin : ∀ {σ' : St} {H' : Hp} {v : V} {u : Value}, Inv (cxOf CX P w K mg base N qual scope f cdv A outer s H E) [] σ' H' s' → RelV v u → Q v H' → CE outer P w H s Q u s' :=
    fun {σ' H' v u} J rv q => ⟨v, H', J.os, J.bare, J.base, J.hok, rv, q⟩
  cases fl with
  | ret u =>
    obtain ⟨v, σ', H', J, rv, q⟩ := hs
    exact fin J rv q
  | next =>
    obtain ⟨σ', H', J, q⟩ := hs
    exact fin (v := V.non) (u := Value.none) J rfl q
  | brk =>
    obtain ⟨_, _, _, q⟩ := hs
    exact False.elim q
  | cont =>
    obtain ⟨_, _, _, q⟩ := hs
    exact False.elim q
end L2

namespace L2
open PySem PySem.Spec PyProof.Rows
section
variable {X : Cx} {x : Str} {p pos : Pos} {e : Expr} {es : List Expr} {t : TA} {id T : String} {r : List V → Hp → VK → Prop}

def tCB (r : List V → Hp → VK → Prop) (t : TA) : TE := fun σ H Q => t σ H fun vs H1 => r vs H1 Q
/-- f(e, ..), f a built-in function -/
theorem pe_callB (hc : CallR X (.builtin id) r) (hg : Gl X x) (hm : X.mg x = none) (hv : bootBuiltins x = some (.builtin id)) (ha : PA X (e :: es) t) (hn : x ≠ "__name__" := by decide) (hdb : (x == ("__debug__" : Str)) = false := by decide)
    (he : starEach (e :: es) X.env = (false, eval e X.env) :: starEach es X.env := by rfl) (hpl : (backTo pos (starEach es X.env)).any (·.1) = false := by rfl) : PE X (.Call (.Name x p) (e :: es) [] pos) (tCB r t) := by
  intro pins s σ H Q I h
  refine wpAny_Call_Name_kw (ld_blt I hg hm hv ?_ hn hdb)
  exact PyProof.Rows.callWith_builtin1 (thn (ha pos pins s σ H _ I h) fun us s1 ⟨vs, H1, I1, r1, q1⟩ => hc pins s1 σ H1 vs us Q I1 r1 q1) he hpl
/-- T(e, ..), T a built-in type -/
theorem pe_callTy (hc : CallR X (.type T) r) (hg : Gl X x) (hm : X.mg x = none) (hv : bootBuiltins x = some (.type T)) (ha : PA X (e :: es) t) (hn : x ≠ "__name__" := by decide) (hdb : (x == ("__debug__" : Str)) = false := by decide)
    (he : starEach (e :: es) X.env = (false, eval e X.env) :: starEach es X.env := by rfl) (hpl : (backTo pos (starEach es X.env)).any (·.1) = false := by rfl) : PE X (.Call (.Name x p) (e :: es) [] pos) (tCB r t) := by
  intro pins s σ H Q I h
  refine wpAny_Call_Name_kw (ld_blt I hg hm hv ?_ hn hdb)
  exact PyProof.Rows.callWith_type1 (thn (ha pos pins s σ H _ I h) fun us s1 ⟨vs, H1, I1, r1, q1⟩ => hc pins s1 σ H1 vs us Q I1 r1 q1) he hpl
/-- T() -/
theorem pe_callTy0 (hc : CallR X (.type T) r) (hg : Gl X x) (hm : X.mg x = none) (hv : bootBuiltins x = some (.type T)) (hn : x ≠ "__name__" := by decide) (hdb : (x == ("__debug__" : Str)) = false := by decide) :
    PE X (.Call (.Name x p) [] [] pos) (tCB r tNil) := by
  intro pins s σ H Q I h
  refine wpAny_Call_Name_kw (ld_blt I hg hm hv ?_ hn hdb)
  exact PyProof.Rows.callWith_type0 (hc pins s σ H [] [] Q I .nil h)
end
end L2

namespace HT
open PySem PyProof.Rows

/-- t < u of tuples of ints -/
def lexLt : List Int → List Int → Bool
  | [], [] => false
  | [], _ :: _ => true
  | _ :: _, [] => false
  | x :: xs, y :: ys => if x = y then lexLt xs ys else decide (x < y)
theorem lexLt_cons (x y : Int) (xs ys : List Int) : lexLt (x :: xs) (y :: ys) = if x = y then lexLt xs ys else decide (x < y) := rfl
theorem lexLt_nil_nil : lexLt [] [] = false := rfl
theorem lexLt_nil_cons (y : Int) (ys : List Int) : lexLt [] (y :: ys) = true := rfl
theorem lexLt_cons_nil (x : Int) (xs : List Int) : lexLt (x :: xs) [] = false := rfl

theorem eqAt_int (A : Around) (s : Shared) (a : Int) (t : Tok) (c : Int) (u : Tok) : ∃ e, SeqAt.EqAt A s (.int a t) (.int c u) e ∧ (e = true ↔ a = c) :=
  ⟨(a == c), SeqAt.EqAt.int_int a t c u, by simp⟩
theorem rcLt_int (A : Around) (s : Shared) (a : Int) (t : Tok) (c : Int) (u : Tok) (prog : Program) (w : World) (E : Value → Shared → Prop) (Q : Value → Shared → Prop) (h : Q (.bool (decide (a < c))) s) :
    wpAny (model prog w) A (richCompare .Lt (.int a t) (.int c u)) Q E s :=
  (PyProof.Rows.lt_int h : wpAny (model prog w) A (compareOp .Lt (.int a t) (.int c u)) Q E s)

section
open PySem.SeqAt
open PySem.AutoSeq1 (wpAny_loadPart')
open PySem.MeetsSeq PySem.MeetsSeq2 PySem.MeetsSeq3

theorem tuple_lt_ints (l b : Addr) (items items2 : Array Value) (n n2 : Nat) (dd dd2 : Option Addr) (sl sl2 : Array (Option Value)) (ns ms : List Int) (hi : IntsAre items.toList ns) (hj : IntsAre items2.toList ms) :
    Meets (Builtin.«tuple.__lt__» ⟨[.ref l, .ref b], []⟩)
      (fun _ R s => s.heap.get? l = some { cls := .type "tuple", dict := dd, data := .seq items n, slots := sl } ∧ s.heap.get? b = some { cls := .type "tuple", dict := dd2, data := .seq items2 n2, slots := sl2 } ∧
        R (.ok (.ret (.bool (lexLt ns ms)))) s) :=
  .of_wp fun prog w A R s h => by
    obtain ⟨hp, g, d, tk, os⟩ := s; obtain ⟨hl, hb, h⟩ := h
    have f2 := AutoSeq1.sub_tuple_tuple
    have z1 : items.size = ns.length := by rw [← hi.length]; simp
    have z2 : items2.size = ms.length := by rw [← hj.length]; simp
    wp_walk using wpAny_loadPart' hl, wpAny_loadPart' hb, wpAny_forIn_list _ (fun rest b s' => b.1 = none ∧ s' = ⟨hp, g, d, tk, os⟩ ∧ ∃ (vs ws : List Value) (ns' ms' : List Int), rest = vs.zip ws ∧
      IntsAre vs ns' ∧ IntsAre ws ms' ∧ ns'.length + items2.size = ms'.length + items.size ∧ R (.ok (.ret (.bool (lexLt ns' ms')))) ⟨hp, g, d, tk, os⟩) _
    case turn =>
      rintro ⟨y, x⟩ rest b s' ⟨hb', rfl, vs, ws, ns', ms', hz, hvi, hwi, hlen, hR⟩
      cases hvi with
      | nil => rw [List.zip_nil_left] at hz; cases hz
      | cons a t hvi' =>
        cases hwi with
        | nil => rw [List.zip_nil_right] at hz; cases hz
        | cons c u hwi' =>
          rw [List.zip_cons_cons] at hz
          injection hz with hyx hrest
          injection hyx with hy hx
          subst hy hx
          rw [lexLt_cons] at hR
          simp only [List.length_cons] at hlen
          obtain ⟨e, he, hiff⟩ := eqAt_int A.in1 ⟨hp, g, d, tk, os⟩ a t c u
          refine wpAny_bind (he prog w _ _ ?_)
          cases e with
          | true =>
            rw [if_pos (hiff.mp rfl)] at hR
            wp_walk
            exact ⟨rfl, rfl, _, _, _, _, hrest, hvi', hwi', by omega, hR⟩
          | false =>
            rw [if_neg (fun q => absurd (hiff.mpr q) Bool.false_ne_true)] at hR
            have hri := rcLt_int A.in1 ⟨hp, g, d, tk, os⟩ a t c u prog w
            wp_walk using hri
            exact ⟨_, rfl, by simpa using hR⟩
    case fin =>
      rintro ⟨b1, b2⟩ s' ⟨hb', rfl, vs, ws, ns', ms', hz, hvi, hwi, hlen, hR⟩
      simp only at hb'
      subst hb'
      have hv : lexLt ns' ms' = decide (items.size < items2.size) := by
        cases hvi with
        | nil =>
          cases hwi with
          | nil =>
            simp only [List.length_nil] at hlen
            rw [lexLt_nil_nil]
            exact (decide_eq_false (by omega)).symm
          | cons c u hw =>
            simp only [List.length_nil, List.length_cons] at hlen
            rw [lexLt_nil_cons]
            exact (decide_eq_true (by omega)).symm
        | cons a t hv =>
          cases hwi with
          | nil =>
            simp only [List.length_nil, List.length_cons] at hlen
            rw [lexLt_cons_nil]
            exact (decide_eq_false (by omega)).symm
          | cons c u hw =>
            rw [List.zip_cons_cons] at hz
            cases hz
      rw [hv] at hR
      wp_walk
      exact ⟨_, rfl, by simpa [Builtin.Tuple.tupleCompareSizes] using hR⟩
    case h =>
      exact ⟨rfl, rfl, items.toList, items2.toList, ns, ms, rfl, hi, hj, by omega, h⟩
end

section
variable {prog : Program} {w : World} {A : Around} {E : Value → Shared → Prop} {s : Shared}

theorem lt_tupInts {l b : Addr} {items items2 : Array Value} {ns ms : List Int} {Q : Value → Shared → Prop} (hl : IsTup s.heap l items) (hb : IsTup s.heap b items2) (hi : IntsAre items.toList ns) (hj : IntsAre items2.toList ms)
    (hu : A.units < cLine) (h : Q (.bool (lexLt ns ms)) s) : wpAny (model prog w) A (compareOp .Lt (.ref l) (.ref b)) Q E s := by
  obtain ⟨⟨cls, dd, data, sl⟩, ho, hc, n, hd⟩ := id hl
  obtain ⟨⟨cls2, dd2, data2, sl2⟩, ho2, hc2, n2, hd2⟩ := id hb
  simp only at hc hd hc2 hd2
  subst hc hd hc2 hd2
  exact richCompare_meets_room (op := .Lt) ⟨_, ho, rfl⟩ ⟨_, ho2, rfl⟩ PySem.F.slot_tuple_lt PySem.F.entry_tuple_lt (PySem.F.args_tuple_lt_2 _ _) (tuple_lt_ints l b items items2 n n2 dd dd2 sl sl2 ns ms hi hj)
    ⟨ho, ho2, show Value.bool (lexLt ns ms) ≠ Value.notImplemented ∧ Q (.bool (lexLt ns ms)) s from ⟨(fun x => nomatch x), h⟩⟩ hu

/-- t + u, t not empty -/
theorem cat_tup {t b : Addr} {vs ws : List Value} {Q : Value → Shared → Prop} (ht : IsTup s.heap t vs.toArray) (hb : IsTup s.heap b ws.toArray) (hv : vs ≠ [])
    (h1 : ws = [] → Q (.ref t) s) (h2 : ws ≠ [] → Q (.ref s.heap.objs.size) { s with heap := s.heap.push { cls := .type "tuple", data := .seq (vs ++ ws).toArray } })
    (hsz : vs.length + ws.length ≤ sizeLine) : wpAny (model prog w) A (binaryOp .Add (.ref t) (.ref b)) Q E s := by
  obtain ⟨⟨cls, dd, data, sl⟩, ho, hc, n, hd⟩ := id ht
  obtain ⟨⟨cls2, dd2, data2, sl2⟩, ho2, hc2, n2, hd2⟩ := id hb
  simp only at hc hd hc2 hd2
  subst hc hd hc2 hd2
  have e : vs.toArray ++ ws.toArray = (vs ++ ws).toArray := by simp
  by_cases hw : ws = []
  · exact concat_meets ⟨_, ho, rfl⟩ ⟨_, ho2, rfl⟩ noFill_tuple_add seq_tuple_add PySem.F.slot_tuple_add PySem.F.entry_tuple_add (PySem.F.args_tuple_add_2 _ _)
      (tuple_addW1 t b vs.toArray ws.toArray n n2 dd dd2 sl sl2 (by simpa using hv) (by simp [hw])) ⟨ho, ho2, h1 hw⟩
  · refine concat_meets ⟨_, ho, rfl⟩ ⟨_, ho2, rfl⟩ noFill_tuple_add seq_tuple_add PySem.F.slot_tuple_add PySem.F.entry_tuple_add (PySem.F.args_tuple_add_2 _ _)
      (tuple_addW2 t b vs.toArray ws.toArray n n2 dd dd2 sl sl2 (by simpa using hv) (by simpa using hw) (by rw [List.size_toArray, List.size_toArray]; exact hsz)) ⟨ho, ho2, ?_⟩
    rw [e]
    exact h2 hw

/-! ### t[a:b], not the whole -/
/-- a slice's bound as a place among n (d where it is left out) -/
def sIx (n d : Nat) : Option Int → Nat
  | none => d
  | some v => if v < 0 then (v + (n : Int)).toNat else min v.toNat n
theorem sIx_none (n d : Nat) : sIx n d none = d := rfl
theorem sIx_nat (n d k : Nat) : sIx n d (some (k : Int)) = min k n := by
  show (if (k : Int) < 0 then ((k : Int) + (n : Int)).toNat else min (k : Int).toNat n) = min k n
  rw [if_neg (by omega), Int.toNat_natCast]
theorem sIx_le (n d : Nat) (hd : d ≤ n) (o : Option Int) : sIx n d o ≤ n := by
  cases o with
  | none => exact hd
  | some v =>
    show (if v < 0 then (v + (n : Int)).toNat else min v.toNat n) ≤ n
    by_cases hv : v < 0
    · rw [if_pos hv]; omega
    · rw [if_neg hv]; exact Nat.min_le_right _ _
theorem clip_eq (v : Int) (n d : Nat) : (if v < 0 then max (v + (n : Int)) 0 else min v (n : Int)) = ((sIx n d (some v) : Nat) : Int) := by
  show (if v < 0 then max (v + (n : Int)) 0 else min v (n : Int)) = (((if v < 0 then (v + (n : Int)).toNat else min v.toNat n) : Nat) : Int)
  by_cases hv : v < 0
  · simp only [if_pos hv]; omega
  · simp only [if_neg hv]; omega
theorem adjust_gen (lo hi : Option Int) (n : Nat) : Builtin.Slice.sliceAdjust lo hi 1 (n : Int) = (((sIx n 0 lo : Nat) : Int), ((sIx n n hi : Nat) : Int)) := by
  have h1 : ¬ ((1 : Int) < 0) := by omega
  unfold Builtin.Slice.sliceAdjust
  simp only [h1, if_false]
  refine Prod.ext ?_ ?_
  · cases lo with
    | none => rfl
    | some v => exact clip_eq v n 0
  · cases hi with
    | none => rfl
    | some v => exact clip_eq v n n
theorem places_gen (i j : Nat) : Builtin.Slice.slicePlaces (i : Int) (j : Int) 1 = j - i := by
  unfold Builtin.Slice.slicePlaces
  have h1 : (1 : Int) > 0 := by omega
  simp only [h1, if_true, Int.ediv_one]
  split <;> omega
theorem slicePart_ {v : Value} {o : Option Int} {Q : Option Int → Shared → Prop} (p : IsPart v o) (h : Q o s) : wpAny (model prog w) A (Builtin.Slice.slicePartIndex v) Q E s := by
  cases p with
  | none => exact slicePart_none h
  | int i t => exact slicePart_int h
theorem sliceApplied_gen {sl : Addr} {vl vu : Value} {lo hi : Option Int} {n : Nat} {Q : Int × Int × Nat → Shared → Prop} (hs : s.heap.IsSliceOf sl vl vu .none) (pl : IsPart vl lo) (pu : IsPart vu hi)
    (h : Q (((sIx n 0 lo : Nat) : Int), 1, sIx n n hi - sIx n 0 lo) s) : wpAny (model prog w) A (Builtin.Slice.sliceApplied (.ref sl) (pure (n : Int))) Q E s := by
  obtain ⟨os, hos, hcs, hds⟩ := id hs
  unfold Builtin.Slice.sliceApplied Builtin.Slice.sliceFields
  refine wpAny_bind (wpAny_bind (wpAny_field hos hds (x := vl) rfl (wpAny_bind (wpAny_field hos hds (x := vu) rfl (wpAny_bind (wpAny_field hos hds (x := .none) rfl (wpAny_pure ?_)))))))
  refine wpAny_bind (slicePart_none ?_)
  show wpAny _ _ (if ((1 : Int) == 0) = true then _ else _) _ _ s
  rw [if_neg (by decide)]
  refine wpAny_bind (slicePart_ pl (wpAny_bind (slicePart_ pu (wpAny_bind (wpAny_pure ?_)))))
  show wpAny _ _ (match Builtin.Slice.sliceAdjust lo hi 1 (n : Int) with | (lo, hi) => pure (lo, (1 : Int), Builtin.Slice.slicePlaces lo hi 1)) _ _ s
  rw [adjust_gen lo hi n]
  show wpAny _ _ (pure (((sIx n 0 lo : Nat) : Int), (1 : Int), Builtin.Slice.slicePlaces ((sIx n 0 lo : Nat) : Int) ((sIx n n hi : Nat) : Int) 1)) _ _ s
  rw [places_gen]
  exact wpAny_pure h
theorem pick_gen (xs : Array Value) (i k : Nat) : ((List.range k).filterMap fun (m : Nat) => xs[((i : Int) + (m : Int) * 1).toNat]?).toArray = ((xs.toList.drop i).take k).toArray := by
  have e : (fun (m : Nat) => xs[((i : Int) + (m : Int) * 1).toNat]?) = fun m => xs[i + m]? := by
    funext m
    have : ((i : Int) + (m : Int) * 1).toNat = i + m := by omega
    rw [this]
  rw [e]
  have := pick_run xs i k
  rw [List.filterMap_map] at this
  have e2 : ((fun x => xs[x]?) ∘ fun x => i + x) = fun m => xs[i + m]? := rfl
  rw [e2] at this
  rw [this]

theorem getItem_tuple_cut {t sl : Addr} {items : Array Value} {vl vu : Value} {lo hi : Option Int} {Q : Value → Shared → Prop} (ht : IsTup s.heap t items) (hs : s.heap.IsSliceOf sl vl vu .none) (pl : IsPart vl lo) (pu : IsPart vu hi)
    (hw : ¬ (sIx items.size 0 lo = 0 ∧ sIx items.size items.size hi = items.size))
    (h : Q (.ref s.heap.objs.size) { s with heap := s.heap.push { cls := .type "tuple", data := .seq ((items.toList.drop (sIx items.size 0 lo)).take (sIx items.size items.size hi - sIx items.size 0 lo)).toArray } })
    (hsz : items.size ≤ sizeLine) : wpAny (model prog w) A (getItem (.ref t) (.ref sl)) Q E s := by
  have htake : sizeOk (.seq ((items.toList.drop (sIx items.size 0 lo)).take (sIx items.size items.size hi - sIx items.size 0 lo)).toArray) := by
    show ((items.toList.drop (sIx items.size 0 lo)).take (sIx items.size items.size hi - sIx items.size 0 lo)).toArray.size ≤ sizeLine
    rw [List.size_toArray, List.length_take, List.length_drop, Array.length_toList]
    omega
  have hj : sIx items.size items.size hi ≤ items.size := sIx_le _ _ (Nat.le_refl _) hi
  obtain ⟨os, hos, hcs, hds⟩ := id hs
  have hTs : s.TypeIs (.ref sl) "slice" := ⟨os, hos, hcs⟩
  unfold getItem
  try with_reducible refine wpAny_holding ?_
  first | refine wpAny_bind (wpAny_pure ?_) | skip
  refine wpAny_bind (wpAny_sequenceKey ht.typeIs (by decide) ?_)
  refine wpAny_bind (wpAny_callSpecial?_slot (name := Str.ofString "__getitem__") ht.typeIs PyProof.Rows.slot_tuple_getitem
    (wpAny_call_entry PyProof.Rows.slot_tuple_getitem ht.typeIs entry_tuple_getitem ?_ (args_tuple_getitem _ _)))
  show wpAny _ _ (Builtin.Tuple.tupleItemsOf (.ref t) >>= _) _ _ s
  refine wpAny_bind (tupleItemsOf_ ht ?_)
  refine wpAny_bind (wpAny_typeOf hTs ?_)
  rw [if_pos (by decide)]
  refine wpAny_bind (sliceApplied_gen hs pl pu ?_)
  have hno : ¬ ((((sIx items.size 0 lo : Nat) : Int) == 0 && (1 : Int) == 1 && (sIx items.size items.size hi - sIx items.size 0 lo) == items.size) = true) := by
    intro q
    rw [Bool.and_eq_true, Bool.and_eq_true] at q
    have q1 : ((sIx items.size 0 lo : Nat) : Int) = 0 := eq_of_beq q.1.1
    have q2 : sIx items.size items.size hi - sIx items.size 0 lo = items.size := eq_of_beq q.2
    exact hw ⟨by omega, by omega⟩
  show wpAny _ _ (if (((sIx items.size 0 lo : Nat) : Int) == 0 && (1 : Int) == 1 && (sIx items.size items.size hi - sIx items.size 0 lo) == items.size) = true then _ else _) _ _ s
  rw [if_neg hno, pick_gen]
  first
    | exact wpAny_bind (m := Builtin.Tuple.tupleExact _) (wpAny_newObj_type (wpAny_pure ⟨_, rfl, wpAny_pure h⟩) htake)
    | exact wpAny_bind (m := Builtin.Tuple.tupleExact _) (wpAny_newObj_type (wpAny_bind (wpAny_pure (wpAny_pure ⟨_, rfl, wpAny_pure h⟩))) htake)
    | exact wpAny_bind (wpAny_bind (m := Builtin.Tuple.tupleExact _) (wpAny_newObj_type (wpAny_pure (wpAny_pure ⟨_, rfl, wpAny_pure h⟩)) htake))
    | exact wpAny_bind (wpAny_bind (m := Builtin.Tuple.tupleExact _) (wpAny_newObj_type (wpAny_pure ⟨_, rfl, wpAny_pure h⟩) htake))
end
end HT

namespace L2
open PySem PySem.Spec PyProof.Rows

/-! ### the parts of a slice -/
abbrev TO := St → Hp → (Option Int → Hp → Prop) → Prop
/-- a slice's part (left out, or an int) -/
def PO (X : Cx) (e : Option Expr) (t : TO) : Prop :=
  ∀ (pins : List (Addr × Obj)) (s : Shared) (σ : St) (H : Hp) (Q : Option Int → Hp → Prop), Inv X pins σ H s → t σ H Q →
    wpAny (model X.prog X.w) X.A (evalPart e X.env) (fun u s' => ∃ o H', Inv X pins σ H' s' ∧ IsPart u o ∧ Q o H') X.xe s
def tNoPart : TO := fun _ H Q => Q none H
def tPart (t : TE) : TO := fun σ H Q => t σ H fun x H1 => ∃ i, x = .int i ∧ Q (some i) H1

theorem intsAre_of {ns : List Int} : ∀ {us : List Value}, Vals (ns.map V.int) us → IntsAre us ns := by
  induction ns with
  | nil => intro us r; rw [List.map_nil] at r; cases r; exact .nil
  | cons n ns ih =>
    intro us r
    rw [List.map_cons] at r
    cases r with
    | cons r1 r2 =>
      obtain ⟨t, e⟩ := r1
      subst e
      exact .cons n t (ih r2)

section
variable {X : Cx} {e : Expr} {te : TE} {lo hi : Option Expr} {tl th : TO} {pos p2 : Pos}

theorem po_none : PO X none tNoPart := by
  intro pins s σ H Q I h
  rw [evalPart_none]
  exact wpAny_pure ⟨none, H, I, .none, h⟩
theorem po_some (h : PE X e te) : PO X (some e) (tPart te) := by
  intro pins s σ H Q I hw
  rw [evalPart_some]
  refine thn (h pins s σ H _ I hw) fun u s1 ⟨x, H1, I1, r1, q1⟩ => ?_
  obtain ⟨i, rfl, q⟩ := q1
  obtain ⟨t, rfl⟩ := r1
  exact ⟨some i, H1, I1, .int i t, q⟩

/-- what a slice of a value is, by values: the slice object stands at sl -/
def SlR (X : Cx) (r : V → Option Int → Option Int → Hp → VK → Prop) : Prop :=
  ∀ (pins : List (Addr × Obj)) (s : Shared) (σ : St) (H : Hp) (x : V) (v vl vu : Value) (lo hi : Option Int) (sl : Addr) (Q : VK), Inv X pins σ H s → RelV x v → s.heap.IsSliceOf sl vl vu .none → IsPart vl lo → IsPart vu hi → r x lo hi H Q →
    ∃ T id, typeLookup (.type T) "__getitem__" = pure (some (.builtin id)) ∧ s.TypeIs v T ∧ wpAny (model X.prog X.w) X.A (getItem v (.ref sl)) (EP X pins σ Q) X.xe s
theorem SlR.or {r r' : V → Option Int → Option Int → Hp → VK → Prop} (h : SlR X r) (h' : SlR X r') : SlR X (fun x lo hi H Q => r x lo hi H Q ∨ r' x lo hi H Q) := by
  intro pins s σ H x v vl vu lo hi sl Q I rx hs pl pu q
  rcases q with q | q
  · exact h pins s σ H x v vl vu lo hi sl Q I rx hs pl pu q
  · exact h' pins s σ H x v vl vu lo hi sl Q I rx hs pl pu q
def tSl (r : V → Option Int → Option Int → Hp → VK → Prop) (te : TE) (tl th : TO) : TE := fun σ H Q => te σ H fun x H1 => tl σ H1 fun l H2 => th σ H2 fun u H3 => r x l u H3 Q
/-- a[lo:hi], any a -/
theorem pe_slice {r : V → Option Int → Option Int → Hp → VK → Prop} (hr : SlR X r) (he : PE X e te) (hl : PO X lo tl) (hu : PO X hi th) : PE X (.Subscript e (.Slice lo hi none p2) pos) (tSl r te tl th) := by
  intro pins s σ H Q I h
  refine Subscript_ (thn (he pins s σ H _ I h) fun v s1 ⟨x, H1, I1, r1, q1⟩ => ?_)
  refine wpAny_Slice (thn (hl pins s1 σ H1 _ I1 q1) fun vl s2 ⟨l, H2, I2, pl, q2⟩ => thn (hu pins s2 σ H2 _ I2 q2) fun vu s3 ⟨u, H3, I3, pu, q3⟩ => ?_)
  rw [evalPart_none]
  refine wpAny_pure ?_
  have I4 : Inv X pins σ H3 { s3 with heap := s3.heap.push { cls := .type "slice", data := .fields #[vl, vu, .none] } } := I3.kept (t' := s3.toks) fun b ob q => Heap.get?_push_of_some _ q
  obtain ⟨T, id, hT, ht, hg⟩ := hr pins { s3 with heap := s3.heap.push { cls := .type "slice", data := .fields #[vl, vu, .none] } } σ H3 x v vl vu l u s3.heap.objs.size Q I4 r1 (Heap.IsSliceOf.new ..) pl pu q3
  show wpAny (model X.prog X.w) X.A (subscriptTail e (.Slice lo hi none p2) v (.ref s3.heap.objs.size)) (EP X pins σ Q) X.xe { s3 with heap := s3.heap.push { cls := .type "slice", data := .fields #[vl, vu, .none] } }
  exact tail_any (ops := [.ref s3.heap.objs.size, v]) ht hT hg (by with_unfolding_all rfl)

/-- the items of xs[lo:hi] -/
def cutV (xs : List V) (lo hi : Option Int) : List V := (xs.drop (HT.sIx xs.length 0 lo)).take (HT.sIx xs.length xs.length hi - HT.sIx xs.length 0 lo)
theorem cutV_length (xs : List V) (lo hi : Option Int) : (cutV xs lo hi).length ≤ xs.length := by
  unfold cutV
  rw [List.length_take, List.length_drop]
  omega
/-- t[lo:hi], not the whole of it (the whole would be t itself) -/
def rSlT (K : PySem.W.Frag) : V → Option Int → Option Int → Hp → VK → Prop := fun x lo hi H Q => ∃ a xs, x = .ref a ∧ SqT K H a xs ∧
  ¬ (HT.sIx xs.length 0 lo = 0 ∧ HT.sIx xs.length xs.length hi = xs.length) ∧ ∀ p, H p = none → Q (.ref p) (upd H p (.tup (cutV xs lo hi)))
theorem sl_tup : SlR X (rSlT X.K) := by
  intro pins s σ H x v vl vu lo hi sl Q I rx hs pl pu h
  obtain ⟨a, xs, rfl, hx, hw, q⟩ := h
  cases rx
  obtain ⟨its, r, ht, hz⟩ := I.tuple hx
  have hlen : its.toArray.size = xs.length := by rw [List.size_toArray]; exact r.length.symm
  refine ⟨"tuple", _, PyProof.Rows.slot_tuple_getitem.lookup, ht.typeIs, ?_⟩
  refine HT.getItem_tuple_cut ht hs pl pu (by rw [hlen]; exact hw) ?_ (by rw [hlen]; exact hz)
  rw [hlen]
  refine ⟨.ref s.heap.objs.size, _, I.laid (t' := s.toks) (o := .tup (cutV xs lo hi)) (fun b ob q => Heap.get?_push_of_some _ q) (Nat.le_refl _) ?_, rfl, q _ (I.hok.fresh (Nat.le_refl _))⟩
  exact ⟨Nat.le_trans (cutV_length xs lo hi) hz, _, (r.drop (HT.sIx xs.length 0 lo)).take (HT.sIx xs.length xs.length hi - HT.sIx xs.length 0 lo), IsTup.new _ _⟩

/-! ### t < u, t + u -/
def rLtT (K : PySem.W.Frag) : R2 := fun x y H Q => ∃ a b ns ms, x = .ref a ∧ y = .ref b ∧ SqT K H a (ns.map V.int) ∧ SqT K H b (ms.map V.int) ∧ Q (.bl (HT.lexLt ns ms)) H
theorem op_ltT (hu : X.A.units < cLine) : OpR X (compareOp .Lt) (rLtT X.K) := by
  intro pins s σ H x y v u Q I rx ry h
  obtain ⟨a, b, ns, ms, rfl, rfl, ha, hb, q⟩ := h
  cases rx
  cases ry
  obtain ⟨its, r1, p1, _⟩ := I.tuple ha
  obtain ⟨its2, r2, p2, _⟩ := I.tuple hb
  have i1 : IntsAre its.toArray.toList ns := intsAre_of r1
  have i2 : IntsAre its2.toArray.toList ms := intsAre_of r2
  exact HT.lt_tupInts p1 p2 i1 i2 hu ⟨.bl (HT.lexLt ns ms), H, I, rfl, q⟩
/-- t + u, t not empty: u empty gives t itself -/
def rCatT (K : PySem.W.Frag) : R2 := fun x y H Q => ∃ a b xs ys, x = .ref a ∧ y = .ref b ∧ SqT K H a xs ∧ SqT K H b ys ∧ xs ≠ [] ∧ xs.length + ys.length ≤ sizeLine ∧
  (ys = [] → Q (.ref a) H) ∧ (ys ≠ [] → ∀ p, H p = none → Q (.ref p) (upd H p (.tup (xs ++ ys))))
theorem Vals.nil_iff {xs : List V} {us : List Value} (r : Vals xs us) : us = [] ↔ xs = [] := by
  cases r with
  | nil => simp
  | cons _ _ => simp
theorem op_catT : OpR X (binaryOp .Add) (rCatT X.K) := by
  intro pins s σ H x y v u Q I rx ry h
  obtain ⟨a, b, xs, ys, rfl, rfl, ha, hb, hx, hz, q1, q2⟩ := h
  cases rx
  cases ry
  obtain ⟨its, r1, p1, _⟩ := I.tuple ha
  obtain ⟨its2, r2, p2, _⟩ := I.tuple hb
  refine HT.cat_tup p1 p2 (fun z => hx (r1.nil_iff.mp z)) (fun z => ⟨.ref a, H, I, rfl, q1 (r2.nil_iff.mp z)⟩) (fun z => ?_) (by rw [← r1.length, ← r2.length]; exact hz)
  refine ⟨.ref s.heap.objs.size, _, I.laid (t' := s.toks) (o := .tup (xs ++ ys)) (fun b ob q => Heap.get?_push_of_some _ q) (Nat.le_refl _) ?_, rfl, q2 (fun w => z (r2.nil_iff.mpr w)) _ (I.hok.fresh (Nat.le_refl _))⟩
  exact ⟨by rw [List.length_append]; exact hz, _, r1.append r2, IsTup.new _ _⟩
/-- tuple(t) -/
theorem call_tupleT : CallR X (.type "tuple") (fun xs H Q => ∃ a ys, xs = [.ref a] ∧ SqT X.K H a ys ∧ Q (.ref a) H) := by
  intro pins s σ H xs us Q I r h
  obtain ⟨a, ys, rfl, ha, q⟩ := h
  obtain ⟨u, rfl, ru⟩ := vals1 r
  cases ru
  obtain ⟨its, _, p1, _⟩ := I.tuple ha
  exact call_tuple_same (items := its.toArray) p1 ⟨.ref a, H, I, rfl, q⟩
end
end L2

namespace L2
open PySem PySem.Spec PyProof.Rows

/-! ### places -/
/-- the place that an index of any sign means -/
def ixN (n : Nat) (i : Int) : Option Nat := if 0 ≤ i then (if i < n then some i.toNat else none) else if -(n : Int) ≤ i then some (i + n).toNat else none
def atI {α : Type} (xs : List α) (i : Int) : Option α := (ixN xs.length i).bind fun j => xs[j]?
theorem ixN_seq {n : Nat} {i : Int} {j : Nat} (h : ixN n i = some j) : seqIndex? i n = some j ∧ j < n ∧ -(n : Int) ≤ i ∧ i < n := by
  unfold ixN at h
  by_cases h0 : 0 ≤ i
  · rw [if_pos h0] at h
    by_cases h1 : i < n
    · rw [if_pos h1] at h
      have e : i.toNat = j := Option.some.inj h
      exact ⟨by rw [seqIndex_of h0 h1, e], by omega, by omega, h1⟩
    · rw [if_neg h1] at h; cases h
  · rw [if_neg h0] at h
    by_cases h1 : -(n : Int) ≤ i
    · rw [if_pos h1] at h
      have e : (i + n).toNat = j := Option.some.inj h
      exact ⟨by rw [seqIndex_neg (by omega) h1, e], by omega, h1, by omega⟩
    · rw [if_neg h1] at h; cases h
theorem atI_get {α : Type} {xs : List α} {i : Int} {v : α} (h : atI xs i = some v) : ∃ j, seqIndex? i xs.length = some j ∧ xs[j]? = some v ∧ j < xs.length ∧ -(xs.length : Int) ≤ i ∧ i < xs.length := by
  unfold atI at h
  cases e : ixN xs.length i with
  | none => rw [e] at h; cases h
  | some j =>
    rw [e] at h
    obtain ⟨h1, h2, h3, h4⟩ := ixN_seq e
    exact ⟨j, h1, h, h2, h3, h4⟩
theorem atI_nat {α : Type} {xs : List α} {j : Nat} {v : α} (h : xs[j]? = some v) : atI xs (j : Int) = some v := by
  have hj : j < xs.length := (List.getElem?_eq_some_iff.mp h).1
  have e : ixN xs.length (j : Int) = some j := by
    unfold ixN
    rw [if_pos (by omega), if_pos (by omega)]; simp
  unfold atI; rw [e]; exact h
theorem atI_last {α : Type} (xs : List α) (v : α) : atI (xs ++ [v]) (-1) = some v := by
  have hl : (xs ++ [v]).length = xs.length + 1 := by simp
  have e : ixN (xs ++ [v]).length (-1) = some xs.length := by
    unfold ixN
    rw [hl, if_neg (by decide), if_pos (by omega)]
    congr 1
    omega
  unfold atI
  rw [e]
  show (xs ++ [v])[xs.length]? = some v
  simp

/-! ### what may be subscripted -/
/-- what stands as an index of a plain subscript -/
def PlainIx (b : Expr) : Prop := ∀ o i, subscripted b false o i = operate [o, i] (getItem o i)
/-- a subscript by values -/
def IxR (X : Cx) (r : R2) : Prop :=
  ∀ (value slice : Expr) (pins : List (Addr × Obj)) (s : Shared) (σ : St) (H : Hp) (x y : V) (v u : Value) (Q : VK), Inv X pins σ H s → RelV x v → RelV y u → r x y H Q →
    subscripted slice false v u = operate [v, u] (getItem v u) → wpAny (model X.prog X.w) X.A (subscriptTail value slice v u) (EP X pins σ Q) X.xe s
/-- a call of a builtin's method by values: the receiver, the arguments -/
def MtR (X : Cx) (id : String) (r : V → List V → Hp → VK → Prop) : Prop :=
  ∀ (pins : List (Addr × Obj)) (s : Shared) (σ : St) (H : Hp) (x : V) (xs : List V) (v : Value) (us : List Value) (Q : VK), Inv X pins σ H s → RelV x v → Vals xs us → r x xs H Q →
    wpAny (model X.prog X.w) X.A (call (.builtin id) (v :: us)) (EP X pins σ Q) X.xe s
section
variable {X : Cx} {a b : Expr} {ta tb : TE} {pos : Pos}
theorem IxR.or {r r' : R2} (h : IxR X r) (h' : IxR X r') : IxR X (fun x y H Q => r x y H Q ∨ r' x y H Q) := by
  intro value slice pins s σ H x y v u Q I rx ry q hs
  rcases q with q | q
  · exact h value slice pins s σ H x y v u Q I rx ry q hs
  · exact h' value slice pins s σ H x y v u Q I rx ry q hs
theorem MtR.or {id : String} {r r' : V → List V → Hp → VK → Prop} (h : MtR X id r) (h' : MtR X id r') : MtR X id (fun x xs H Q => r x xs H Q ∨ r' x xs H Q) := by
  intro pins s σ H x xs v us Q I rx rs q
  rcases q with q | q
  · exact h pins s σ H x xs v us Q I rx rs q
  · exact h' pins s σ H x xs v us Q I rx rs q
/-- a[b] -/
theorem pe_ix {r : R2} (hr : IxR X r) (ha : PE X a ta) (hb : PE X b tb) (hs : PlainIx b) : PE X (.Subscript a b pos) (tOp r ta tb) := by
  intro pins s σ H Q I h
  exact Subscript_ (binT ha hb I h fun v u s2 x y H2 I2 rx ry q => hr a b pins s2 σ H2 x y v u Q I2 rx ry q (hs _ _))

def rIxL (K : PySem.W.Frag) : R2 := fun x y H Q => ∃ p xs i v, x = .ref p ∧ y = .int i ∧ SqL K H p xs ∧ atI xs i = some v ∧ Q v H
def rIxT (K : PySem.W.Frag) : R2 := fun x y H Q => ∃ p xs i v, x = .ref p ∧ y = .int i ∧ SqT K H p xs ∧ atI xs i = some v ∧ Q v H
def rIxS : R2 := fun x y H Q => ∃ z i c, x = .str z ∧ y = .int i ∧ z.length ≤ sizeLine ∧ atI z.cps.toList i = some c ∧ Q (.str ⟨#[c]⟩) H
theorem ix_list : IxR X (rIxL X.K) := by
  intro value slice pins s σ H x y v u Q I rx ry h hs
  obtain ⟨p, xs, i, z, rfl, rfl, hq, he, q⟩ := h
  cases rx
  obtain ⟨t, rfl⟩ := ry
  obtain ⟨its, r, pl, hz⟩ := I.list hq
  obtain ⟨j, h1, h2, h3, h4, h5⟩ := atI_get he
  obtain ⟨w, ew, rw'⟩ := r.get h2
  have hl := r.length
  have hn := line63
  have fin : EP X pins σ Q w s := ⟨z, H, I, rw', q⟩
  by_cases h0 : 0 ≤ i
  · have hj : i.toNat = j := by
      rw [seqIndex_of h0 h5] at h1
      exact Option.some.inj h1
    exact item_listR pl.isList h0 (by omega) (by rw [hj]; simpa using ew) fin hs
  · have hj : (i + (its.toArray.size : Int)).toNat = j := by
      rw [seqIndex_neg (by omega) h4] at h1
      rw [List.size_toArray, ← hl]
      exact Option.some.inj h1
    exact subscriptTail_builtinR (x := w) pl.isList.typeIs slot_list_getitem.lookup
      (wpAny_getItem_list_neg (Q := fun r s' => r = w ∧ EP X pins σ Q r s') pl.isList (by omega) (by rw [List.size_toArray] <;> omega) (by omega) (by rw [hj]; simpa using ew) ⟨rfl, fin⟩) hs
theorem ix_tup : IxR X (rIxT X.K) := by
  intro value slice pins s σ H x y v u Q I rx ry h hs
  obtain ⟨p, xs, i, z, rfl, rfl, hq, he, q⟩ := h
  cases rx
  obtain ⟨t, rfl⟩ := ry
  obtain ⟨its, r, pl, hz⟩ := I.tuple hq
  obtain ⟨j, h1, h2, h3, h4, h5⟩ := atI_get he
  obtain ⟨w, ew, rw'⟩ := r.get h2
  have hl := r.length
  have hn := line63
  have fin : EP X pins σ Q w s := ⟨z, H, I, rw', q⟩
  exact subscriptTail_builtinR (x := w) pl.typeIs slot_tuple_getitem.lookup
    (getItem_tuple (j := j) (Q := fun r s' => r = w ∧ EP X pins σ Q r s') pl (by omega) (by omega) (by rw [List.size_toArray, ← hl]; exact h1) (by simpa using ew) ⟨rfl, fin⟩) hs
theorem ix_str : IxR X rIxS := by
  intro value slice pins s σ H x y v u Q I rx ry h hs
  obtain ⟨z, i, c, rfl, rfl, hz, he, q⟩ := h
  obtain ⟨t, rfl⟩ := rx
  obtain ⟨t', rfl⟩ := ry
  obtain ⟨j, h1, h2, h3, h4, h5⟩ := atI_get he
  have hl : z.cps.toList.length = z.length := by simp [Str.length]
  rw [hl] at h1 h4 h5
  have hn := line63
  exact tail_any (typeIs_str s z t) slot_str_getitem.lookup (getItem_str (c := c) (by
    have e1 : decide (i < -(2 ^ 63 : Int)) = false := decide_eq_false (by omega)
    have e2 : decide (i ≥ 2 ^ 63) = false := decide_eq_false (by omega)
    rw [e1, e2, Bool.or_false]) (by rw [h1]; simpa using h2) ⟨.str ⟨#[c]⟩, H, I.tok _, ⟨_, rfl⟩, q⟩) hs
/-- list, tuple or str -/
def rIx (K : PySem.W.Frag) : R2 := fun x y H Q => rIxL K x y H Q ∨ rIxT K x y H Q ∨ rIxS x y H Q
theorem ix_seq : IxR X (rIx X.K) := ix_list.or (ix_tup.or ix_str)

/-! ### xs[i] = v, any sign -/
/-- the list's object behind a store -/
theorem mapSeq_set (its : List Value) (n j : Nat) (u : Value) : Obj.mapSeq (·.setIfInBounds j u) { cls := .type "list", data := .seq its.toArray n } = { cls := .type "list", data := .seq (its.set j u).toArray n } := by
  simp [Obj.mapSeq]
theorem Inv.lst {pins : List (Addr × Obj)} {σ : St} {H : Hp} {s : Shared} {p : Addr} {xs : List V} (I : Inv X pins σ H s) (h : H p = some (.lst xs)) :
    ∃ (its : List Value) (n : Nat), Vals xs its ∧ s.heap.get? p = some { cls := .type "list", data := .seq its.toArray n } ∧ xs.length ≤ sizeLine := by
  obtain ⟨z, its, n, r, e⟩ := I.hok p _ h
  exact ⟨its, n, r, e, z⟩
/-- the list at p is written by an update of its object -/
theorem Inv.lstUpd {pins : List (Addr × Obj)} {σ : St} {H : Hp} {s : Shared} {p : Addr} {xs ys : List V} {its its' : List Value} {n n' : Nat} {f : Obj → Obj} (I : Inv X pins σ H s) (h : H p = some (.lst xs))
    (ho : s.heap.get? p = some { cls := .type "list", data := .seq its.toArray n }) (hf : f { cls := .type "list", data := .seq its.toArray n } = { cls := .type "list", data := .seq its'.toArray n' }) (r : Vals ys its') (hz : ys.length ≤ sizeLine) (t : Nat) :
    Inv X pins σ (upd H p (.lst ys)) { s with heap := s.heap.update p f, toks := t } := by
  have e : (s.heap.update p f).get? p = some { cls := .type "list", data := .seq its'.toArray n' } := by
    rw [Heap.get?_update_self f ho (by rw [hf] <;> rfl), hf]
  refine I.write (x := p) (e := p) (by rw [h]; trivial) (.inl rfl) (fun b u hb q => (Heap.get?_update_other _ _ (Ne.symm hb)).trans q) ⟨_, e⟩ ?_
  exact ⟨hz, its', n', r, e⟩
def rSetL : V → V → V → Hp → (Hp → Prop) → Prop := fun o i v H Q => ∃ p xs k j, o = .ref p ∧ i = .int k ∧ H p = some (.lst xs) ∧ ixN xs.length k = some j ∧ Q (upd H p (.lst (xs.set j v)))
theorem set_list : PSet X rSetL := by
  intro pins s σ H o i v ov iv u Q I ro ri rv h
  obtain ⟨p, xs, k, j, rfl, rfl, hp, hj, q⟩ := h
  cases ro
  obtain ⟨t, rfl⟩ := ri
  obtain ⟨its, n, r, ho, hz⟩ := I.lst hp
  obtain ⟨h1, h2, h3, h4⟩ := ixN_seq hj
  have hl := r.length
  have hn := line63
  have I' : Inv X pins σ (upd H p (.lst (xs.set j v))) { s with heap := s.heap.update p (Obj.mapSeq (·.setIfInBounds j u)) } :=
    I.lstUpd hp ho (mapSeq_set its n j u) (r.set rv j) (by rw [List.length_set]; exact hz) s.toks
  by_cases h0 : 0 ≤ k
  · have hk : k.toNat = j := by
      rw [seqIndex_of h0 h4] at h1
      exact Option.some.inj h1
    exact PySem.W.ki_setAt ho h0 (by omega) (by rw [List.size_toArray, ← hl]; exact h4) (by rw [hk]; exact ⟨_, I', q⟩)
  · have hk : (k + (its.toArray.size : Int)).toNat = j := by
      rw [seqIndex_neg (by omega) h3] at h1
      rw [List.size_toArray, ← hl]
      exact Option.some.inj h1
    exact PySem.W.ki_setBack ho (by omega) (by rw [List.size_toArray, ← hl]; exact h3) (by omega) (by rw [hk]; exact ⟨_, I', q⟩)

/-! ### slices -/
theorem slice_bounds (lo hi : Option Int) (n : Nat) : (sliceBounds lo hi none n).1 = ((HT.sIx n 0 lo : Nat) : Int) ∧ (sliceBounds lo hi none n).2.1 = ((HT.sIx n n hi : Nat) : Int) ∧ (sliceBounds lo hi none n).2.2 = 1 := by
  refine ⟨?_, ?_, rfl⟩
  · cases lo with
    | none => simp [sliceBounds, HT.sIx]
    | some i =>
      simp only [sliceBounds, HT.sIx, Option.getD_none, show (1 : Int) > 0 by decide, if_true]
      by_cases h : i < 0
      · simp only [h, if_true] <;> omega
      · simp only [h, if_false] <;> omega
  · cases hi with
    | none => simp [sliceBounds, HT.sIx]
    | some i =>
      simp only [sliceBounds, HT.sIx, Option.getD_none, show (1 : Int) > 0 by decide, if_true]
      by_cases h : i < 0
      · simp only [h, if_true] <;> omega
      · simp only [h, if_false] <;> omega
theorem slicePick_cut (its : List Value) (lo hi : Option Int) : slicePick its.toArray lo hi none = ((its.drop (HT.sIx its.length 0 lo)).take (HT.sIx its.length its.length hi - HT.sIx its.length 0 lo)).toArray := by
  obtain ⟨h1, h2, h3⟩ := slice_bounds lo hi its.toArray.size
  unfold slicePick
  rw [h1, h2, h3]
  simp only [sliceRange_one, pick_run, List.size_toArray] <;> rfl
/-- xs[lo:hi] of a list: a new list -/
def rSlL (K : PySem.W.Frag) : V → Option Int → Option Int → Hp → VK → Prop := fun x lo hi H Q => ∃ a xs, x = .ref a ∧ SqL K H a xs ∧ ∀ p, H p = none → Q (.ref p) (upd H p (.lst (cutV xs lo hi)))
theorem sl_list : SlR X (rSlL X.K) := by
  intro pins s σ H x v vl vu lo hi sl Q I rx hs pl pu h
  obtain ⟨a, xs, rfl, hx, q⟩ := h
  cases rx
  obtain ⟨its, r, ht, hz⟩ := I.list hx
  have hlen := r.length
  refine ⟨"list", _, slot_list_getitem.lookup, ht.isList.typeIs, ?_⟩
  refine wpAny_getItem_list_slice ht.isList hs pl pu .none (by simp) ?_ (by rw [List.size_toArray] <;> omega)
  rw [slicePick_cut, ← hlen]
  refine ⟨.ref s.heap.objs.size, _, I.laid (t' := s.toks) (o := .lst (cutV xs lo hi)) (fun b ob q => Heap.get?_push_of_some _ q) (Nat.le_refl _) ?_, rfl, q _ (I.hok.fresh (Nat.le_refl _))⟩
  exact ⟨Nat.le_trans (cutV_length xs lo hi) hz, _, 0, (r.drop (HT.sIx xs.length 0 lo)).take (HT.sIx xs.length xs.length hi - HT.sIx xs.length 0 lo), Heap.get?_push_size _ rfl⟩

/-! ### in, not in: flat items -/
def flatV : V → Bool
  | .non => true
  | .bl _ => true
  | .int _ => true
  | .str _ => true
  | _ => false
/-- == of flat values -/
def eqV : V → V → Bool
  | .non, .non => true
  | .bl a, .bl b => a == b
  | .bl a, .int b => (if a then 1 else 0) == b
  | .int a, .bl b => a == (if b then 1 else 0)
  | .int a, .int b => a == b
  | .str a, .str b => a == b
  | _, _ => false
theorem eqAt_V {A : Around} {s : Shared} {y x : V} {u v : Value} (ry : RelV y u) (rx : RelV x v) (fy : flatV y = true) (fx : flatV x = true) : SeqAt.EqAt A s u v (eqV y x) := by
  cases y with
  | non =>
    cases ry
    cases x with
    | non => cases rx; exact SeqAt.EqAt.same _
    | bl b => cases rx; exact SeqAt.EqAt.none_bool b
    | int b => obtain ⟨t, rfl⟩ := rx; exact SeqAt.EqAt.none_int b t
    | str b => obtain ⟨t, rfl⟩ := rx; exact SeqAt.EqAt.none_str b t
    | _ => exact absurd (show false = true from fx) Bool.false_ne_true
  | bl a =>
    cases ry
    cases x with
    | non => cases rx; exact SeqAt.EqAt.bool_none a
    | bl b => cases rx; exact SeqAt.EqAt.bool_bool a b
    | int b => obtain ⟨t, rfl⟩ := rx; exact SeqAt.EqAt.bool_int a b t
    | str b => obtain ⟨t, rfl⟩ := rx; exact SeqAt.EqAt.bool_str a b t
    | _ => exact absurd (show false = true from fx) Bool.false_ne_true
  | int a =>
    obtain ⟨t', rfl⟩ := ry
    cases x with
    | non => cases rx; exact SeqAt.EqAt.int_none a t'
    | bl b => cases rx; exact SeqAt.EqAt.int_bool a t' b
    | int b => obtain ⟨t, rfl⟩ := rx; exact SeqAt.EqAt.int_int a t' b t
    | str b => obtain ⟨t, rfl⟩ := rx; exact SeqAt.EqAt.int_str a t' b t
    | _ => exact absurd (show false = true from fx) Bool.false_ne_true
  | str a =>
    obtain ⟨t', rfl⟩ := ry
    cases x with
    | non => cases rx; exact SeqAt.EqAt.str_none a t'
    | bl b => cases rx; exact SeqAt.EqAt.str_bool a t' b
    | int b => obtain ⟨t, rfl⟩ := rx; exact SeqAt.EqAt.str_int a t' b t
    | str b => obtain ⟨t, rfl⟩ := rx; exact SeqAt.EqAt.str_str a t' b t
    | _ => exact absurd (show false = true from fx) Bool.false_ne_true
  | _ => exact absurd (show false = true from fy) Bool.false_ne_true
/-- the items' answers, read off the values (a value's own answer does not lean on its token) -/
def eqU (x : V) (u : Value) : Bool := match u with
  | .none => eqV .non x
  | .bool b => eqV (.bl b) x
  | .int i _ => eqV (.int i) x
  | .str z _ => eqV (.str z) x
  | _ => false
theorem eqU_of {x y : V} {u : Value} (r : RelV y u) (f : flatV y = true) : eqU x u = eqV y x := by
  cases y with
  | non => cases r; rfl
  | bl b => cases r; rfl
  | int i => obtain ⟨t, rfl⟩ := r; rfl
  | str z => obtain ⟨t, rfl⟩ := r; rfl
  | _ => exact absurd (show false = true from f) Bool.false_ne_true
theorem any_eqU {x : V} : ∀ {xs : List V} {us : List Value}, Vals xs us → xs.all flatV = true → us.any (eqU x) = xs.any fun y => eqV y x
  | _, _, .nil, _ => rfl
  | y :: xs, u :: us, .cons r t, f => by
    rw [List.all_cons, Bool.and_eq_true] at f
    rw [List.any_cons, List.any_cons, eqU_of r f.1, any_eqU t f.2]
theorem mem_eqAt {A : Around} {s : Shared} {x : V} {v : Value} (rx : RelV x v) (fx : flatV x = true) : ∀ {xs : List V} {us : List Value}, Vals xs us → xs.all flatV = true → ∀ u ∈ us, SeqAt.EqAt A s u v (eqU x u)
  | _, _, .nil, _ => fun u hu => by cases hu
  | y :: xs, u :: us, .cons r t, f => fun u' hu => by
    rw [List.all_cons, Bool.and_eq_true] at f
    rcases List.mem_cons.mp hu with rfl | hu
    · rw [eqU_of r f.1]; exact eqAt_V r rx f.1 fx
    · exact mem_eqAt rx fx t f.2 u' hu
def inV (x : V) (xs : List V) : Bool := xs.any fun y => eqV y x
/-- x in a list or tuple of flat items -/
def rIn (K : PySem.W.Frag) (neg : Bool) : R2 := fun x y H Q => ∃ p xs, y = .ref p ∧ (SqL K H p xs ∨ SqT K H p xs) ∧ flatV x = true ∧ xs.all flatV = true ∧ Q (.bl (if neg then !inV x xs else inV x xs)) H
theorem op_in_seq : OpR X (compareOp .In) (rIn X.K false) := by
  intro pins s σ H x y v u Q I rx ry h
  obtain ⟨p, xs, rfl, hq, fx, fs, q⟩ := h
  cases ry
  rcases hq with hq | hq
  · obtain ⟨its, r, pl, hz⟩ := I.list hq
    refine SeqAt.in_listAt (eqU x) pl.isList (fun w hw => mem_eqAt rx fx r fs w (by simpa using hw)) ⟨.bl _, H, I, rfl, ?_⟩
    rw [show its.toArray.any (eqU x) = its.any (eqU x) by simp, any_eqU r fs]
    exact q
  · obtain ⟨its, r, pl, hz⟩ := I.tuple hq
    refine SeqAt.in_tupleAt (eqU x) pl (fun w hw => mem_eqAt rx fx r fs w (by simpa using hw)) ⟨.bl _, H, I, rfl, ?_⟩
    rw [show its.toArray.any (eqU x) = its.any (eqU x) by simp, any_eqU r fs]
    exact q
theorem op_notIn_seq : OpR X (compareOp .NotIn) (rIn X.K true) := by
  intro pins s σ H x y v u Q I rx ry h
  obtain ⟨p, xs, rfl, hq, fx, fs, q⟩ := h
  cases ry
  rcases hq with hq | hq
  · obtain ⟨its, r, pl, hz⟩ := I.list hq
    refine SeqAt.notIn_listAt (eqU x) pl.isList (fun w hw => mem_eqAt rx fx r fs w (by simpa using hw)) ⟨.bl _, H, I, rfl, ?_⟩
    rw [show its.toArray.any (eqU x) = its.any (eqU x) by simp, any_eqU r fs]
    exact q
  · obtain ⟨its, r, pl, hz⟩ := I.tuple hq
    refine SeqAt.notIn_tupleAt (eqU x) pl (fun w hw => mem_eqAt rx fx r fs w (by simpa using hw)) ⟨.bl _, H, I, rfl, ?_⟩
    rw [show its.toArray.any (eqU x) = its.any (eqU x) by simp, any_eqU r fs]
    exact q
theorem op_notIn_str : OpR X (compareOp .NotIn) (fun x y H Q => ∃ i j, x = .str i ∧ y = .str j ∧ Q (.bl (!(!(Builtin.Str.occurrences j i 0 j.length 1).isEmpty))) H) := by
  intro pins s σ H x y v u Q I rx ry h
  obtain ⟨i, j, rfl, rfl, q⟩ := h
  obtain ⟨t, rfl⟩ := rx
  obtain ⟨t', rfl⟩ := ry
  exact notIn_str ⟨.bl _, H, I, rfl, q⟩

/-! ### len, list(x), tuple(x) of any list or tuple that is read -/
theorem call_len_seq : CallR X (.builtin "len") (fun xs H Q => ∃ p ys, xs = [.ref p] ∧ (SqL X.K H p ys ∨ SqT X.K H p ys) ∧ Q (.int ys.length) H) := by
  intro pins s σ H xs us Q I r h
  obtain ⟨p, ys, rfl, hq, q⟩ := h
  obtain ⟨u, rfl, rx⟩ := vals1 r
  cases rx
  have hn := line63
  rcases hq with hq | hq
  · obtain ⟨its, r', pl, hz⟩ := I.list hq
    have hlen := r'.length
    exact Calls.call_len_list pl.isList (by simp only [List.size_toArray] <;> omega) ⟨.int ys.length, H, I.tok _, ⟨s.toks + 1, by rw [List.size_toArray, hlen]⟩, q⟩
  · obtain ⟨its, r', pl, hz⟩ := I.tuple hq
    have hlen := r'.length
    exact len_tuple pl (by simp only [List.size_toArray] <;> omega) ⟨.int ys.length, H, I.tok _, ⟨s.toks + 1, by rw [List.size_toArray, hlen]⟩, q⟩
theorem call_len_str : CallR X (.builtin "len") (fun xs H Q => ∃ z, xs = [.str z] ∧ z.length ≤ sizeLine ∧ Q (.int z.length) H) := by
  intro pins s σ H xs us Q I r h
  obtain ⟨z, rfl, hz, q⟩ := h
  obtain ⟨u, rfl, t, rfl⟩ := vals1 r
  have hn := line63
  exact len_str (by omega) ⟨.int z.length, H, I.tok _, ⟨_, rfl⟩, q⟩
theorem CallR.or {f : Value} {r r' : List V → Hp → VK → Prop} (h : CallR X f r) (h' : CallR X f r') : CallR X f (fun xs H Q => r xs H Q ∨ r' xs H Q) := by
  intro pins s σ H xs us Q I rs q
  rcases q with q | q
  · exact h pins s σ H xs us Q I rs q
  · exact h' pins s σ H xs us Q I rs q
theorem call_list_of : CallR X (.type "list") (fun xs H Q => ∃ p ys, xs = [.ref p] ∧ (SqL X.K H p ys ∨ SqT X.K H p ys) ∧ ∀ l, H l = none → Q (.ref l) (upd H l (.lst ys))) := by
  intro pins s σ H xs us Q I r h
  obtain ⟨p, ys, rfl, hq, q⟩ := h
  obtain ⟨u, rfl, rx⟩ := vals1 r
  cases rx
  have fin : ∀ (its : List Value), Vals ys its → ys.length ≤ sizeLine → ∀ (h' : Heap) (c' : Nat), (∀ b o', s.heap.get? b = some o' → h'.get? b = some o') →
      h'.get? s.heap.objs.size = some { cls := .type "list", dict := none, data := .seq its.toArray c', slots := #[] } → EP X pins σ Q (.ref s.heap.objs.size) { s with heap := h' } := fun its r' hz h' c' kp e =>
    ⟨.ref s.heap.objs.size, _, I.laid (t' := s.toks) kp (Nat.le_refl _) (show ObjOk X.prog X.w _ h' _ (.lst ys) from ⟨hz, its, c', r', e⟩), rfl, q _ (I.hok.fresh (Nat.le_refl _))⟩
  rcases hq with hq | hq
  · obtain ⟨its, r', pl, hz⟩ := I.list hq
    have hlen := r'.length
    obtain ⟨o, ho, hc, n, hd⟩ := pl.isList
    exact call_list_seq p (.inl rfl) ho hc hd (fun h' c' kp e => fin its r' hz h' c' kp e) (by simp only [List.size_toArray] <;> omega)
  · obtain ⟨its, r', pl, hz⟩ := I.tuple hq
    have hlen := r'.length
    obtain ⟨o, ho, hc, n, hd⟩ := pl
    exact call_list_seq p (.inr rfl) ho hc hd (fun h' c' kp e => fin its r' hz h' c' kp e) (by simp only [List.size_toArray] <;> omega)
theorem call_tuple_of : CallR X (.type "tuple") (fun xs H Q => ∃ p ys, xs = [.ref p] ∧ ((SqL X.K H p ys ∧ ∀ l, H l = none → Q (.ref l) (upd H l (.tup ys))) ∨ (SqT X.K H p ys ∧ Q (.ref p) H))) := by
  intro pins s σ H xs us Q I r h
  obtain ⟨p, ys, rfl, h⟩ := h
  obtain ⟨u, rfl, rx⟩ := vals1 r
  cases rx
  rcases h with ⟨hq, q⟩ | ⟨hq, q⟩
  · obtain ⟨its, r', pl, hz⟩ := I.list hq
    have hlen := r'.length
    refine call_tuple_list pl.isList (fun h' kp => ?_) (by simp only [List.size_toArray] <;> omega)
    have I1 : Inv X pins σ H { s with heap := h' } := I.kept (t' := s.toks) kp
    have I2 : Inv X pins σ (upd H h'.objs.size (.tup ys)) { s with heap := h'.push { cls := .type "tuple", data := .seq its.toArray } } :=
      I1.laid (t' := s.toks) (fun b o e => Heap.get?_push_of_some _ e) (Nat.le_refl _) (show ObjOk X.prog X.w _ _ _ (.tup ys) from ⟨hz, its, r', IsTup.new _ _⟩)
    exact ⟨.ref h'.objs.size, _, I2, rfl, q _ (I1.hok.fresh (Nat.le_refl _))⟩
  · obtain ⟨its, r', pl, hz⟩ := I.tuple hq
    exact call_tuple_same pl ⟨.ref p, H, I, rfl, q⟩

/-! ### the call of a builtin's method: o.m(..) -/
/-- the value is of that builtin type -/
def tyV (K : PySem.W.Frag) (T : String) (x : V) (H : Hp) : Prop := match x with
  | .str _ => T = "str"
  | .int _ => T = "int"
  | .ref p => (T = "list" ∧ ∃ xs, SqL K H p xs) ∨ (T = "tuple" ∧ ∃ o, K.lookup p = some o ∧ o.cls = .type "tuple" ∧ o.dict = none) ∨
      (T = "dict" ∧ ((∃ kvs, H p = some (.dK kvs)) ∨ ∃ kvs, H p = some (.dT kvs))) ∨ (T = "set" ∧ ∃ S n, H p = some (.set S n))
  | _ => False
theorem tyV_is {pins : List (Addr × Obj)} {σ : St} {H : Hp} {s : Shared} {T : String} {x : V} {v : Value} (I : Inv X pins σ H s) (r : RelV x v) (ty : tyV X.K T x H) :
    s.TypeIs v T ∧ ∀ a, v = .ref a → ∃ ob, s.heap.get? a = some ob ∧ ob.dict = none := by
  cases x with
  | str z =>
    obtain ⟨t, rfl⟩ := r
    cases (show T = "str" from ty)
    exact ⟨typeIs_str s z t, fun _ e => nomatch e⟩
  | int i =>
    obtain ⟨t, rfl⟩ := r
    cases (show T = "int" from ty)
    exact ⟨typeIs_int s i t, fun _ e => nomatch e⟩
  | ref p =>
    cases r
    rcases ty with ⟨rfl, xs, hq⟩ | ⟨rfl, o, hk, hc, hd⟩ | ⟨rfl, hk⟩ | ⟨rfl, S, n, hk⟩
    · obtain ⟨its, _, pl, _⟩ := I.list hq
      refine ⟨pl.isList.typeIs, fun a e => ?_⟩
      cases e
      obtain ⟨o, n, e, c, hd, _⟩ := pl
      exact ⟨o, e, hd⟩
    · refine ⟨⟨o, I.kIn p o hk, hc⟩, fun a e => ?_⟩
      cases e
      exact ⟨o, I.kIn _ o hk, hd⟩
    · have z : ∃ o, s.heap.get? p = some o ∧ o.ExactDict := by
        rcases hk with ⟨kvs, hk⟩ | ⟨kvs, hk⟩
        · obtain ⟨_, _, _, _, o, _, _, e, ex, _⟩ := I.hok p _ hk
          exact ⟨o, e, ex⟩
        · obtain ⟨_, _, _, _, o, _, _, e, ex, _⟩ := I.hok p _ hk
          exact ⟨o, e, ex⟩
      obtain ⟨o, e, ex⟩ := z
      refine ⟨⟨o, e, ex.1⟩, fun a e2 => ?_⟩
      cases e2
      exact ⟨o, e, ex.2.1⟩
    · obtain ⟨o, _, _, _, e, ex, _⟩ := I.hok p _ hk
      refine ⟨⟨o, e, ex.1⟩, fun a e2 => ?_⟩
      cases e2
      exact ⟨o, e, ex.2.1⟩
  | _ => exact False.elim ty
def tBM0 (K : PySem.W.Frag) (T : String) (r : V → List V → Hp → VK → Prop) (to : TE) : TE := fun σ H Q => to σ H fun x H1 => tyV K T x H1 ∧ r x [] H1 Q
def tBM (K : PySem.W.Frag) (T : String) (r : V → List V → Hp → VK → Prop) (to : TE) (t : TA) : TE := fun σ H Q => to σ H fun x H1 => tyV K T x H1 ∧ t σ H1 fun xs H2 => r x xs H2 Q
variable {o e : Expr} {es : List Expr} {to : TE} {t : TA} {name : Str} {apos cpos : Pos} {T id : String} {r : V → List V → Hp → VK → Prop}
theorem pe_bm0 (pa : PlainAttrs T) (slot : Slot T name id) (hty : typeOf (.builtin id) = pure (.type "method_descriptor")) (hm : MtR X id r) (ho : PE X o to)
    (hbase : attributeBase o name X.env (eval o X.env) = eval o X.env := by rfl) (hline : (apos.endLine == cpos.line) = true := by rfl) : PE X (.Call (.Attribute o name apos) [] [] cpos) (tBM0 X.K T r to) := by
  intro pins s σ H Q I h
  refine wpAny_Call_method0_late hbase hline (thn (ho pins s σ H _ I h) fun v s1 ⟨x, H1, I1, r1, ty, q1⟩ => ?_)
  obtain ⟨h1, h2⟩ := tyV_is I1 r1 ty
  exact ⟨T, id, pa, slot, hty, h1, h2, Calls.callWith_builtin rfl (PySem.evalArgs_none (hm pins s1 σ H1 x [] v [] Q I1 r1 .nil q1))⟩
theorem pe_bm (pa : PlainAttrs T) (slot : Slot T name id) (hty : typeOf (.builtin id) = pure (.type "method_descriptor")) (hm : MtR X id r) (ho : PE X o to) (ha : PA X (e :: es) t)
    (hbase : attributeBase o name X.env (eval o X.env) = eval o X.env := by rfl)
    (hfew : ((backTo cpos (starEach (e :: es) X.env)).all (fun x => !x.1) && (backToKw cpos (keywordEach [] X.env)).all (fun x => x.1.isSome)
      && decide ((e :: es).length + ([] : List Keyword).length + (if ([] : List Keyword).isEmpty then 0 else 1) < 30)) = true := by rfl)
    (hline : (apos.endLine == cpos.line) = true := by rfl) (hs : starEach (e :: es) X.env = (false, eval e X.env) :: starEach es X.env := by rfl) (hplain : (backTo cpos (starEach es X.env)).any (·.1) = false := by rfl) :
    PE X (.Call (.Attribute o name apos) (e :: es) [] cpos) (tBM X.K T r to t) := by
  intro pins s σ H Q I h
  refine wpAny_Call_method_late hbase hfew hline rfl (thn (ho pins s σ H _ I h) fun v s1 ⟨x, H1, I1, r1, ty, q1⟩ => ?_)
  obtain ⟨h1, h2⟩ := tyV_is I1 r1 ty
  refine ⟨T, id, pa, slot, hty, h1, h2, ?_⟩
  have hA := ha cpos pins s1 σ H1 _ I1 q1
  rw [hs] at hA ⊢
  refine Calls.callWith_builtin (by show (false || (backTo cpos (starEach es X.env)).any (·.1)) = false; rw [hplain] <;> rfl) (Calls.evalArgs_plain ?_)
  exact thn hA fun us s2 ⟨vs, H2, I2, r2, q2⟩ => hm pins s2 σ H2 x vs v us Q I2 r1 r2 q2
/- xs.append(e), list.index on a module's tuple .. are MtR facts of 06m -/
end
end L2

namespace L2
open PySem PySem.Spec PyProof.Rows

def MtM (X : Cx) (id : String) (r : V → List V → Hp → VK → Prop) : Prop :=
  ∀ (pins : List (Addr × Obj)) (s : Shared) (σ : St) (H : Hp) (x : V) (xs : List V) (v : Value) (us : List Value) (Q : VK), Inv X pins σ H s → RelV x v → Vals xs us → r x xs H Q →
    wpAny (model X.prog X.w) X.A (call (.builtin id) (v :: us)) (EP X pins σ Q) X.xe s

/-! ### lists of values -/
theorem Vals.one : ∀ {x : V} {us : List Value}, Vals [x] us → ∃ u, us = [u] ∧ RelV x u
  | _, _, .cons r .nil => ⟨_, rfl, r⟩
theorem Vals.two : ∀ {x y : V} {us : List Value}, Vals [x, y] us → ∃ u v, us = [u, v] ∧ RelV x u ∧ RelV y v
  | _, _, _, .cons r (.cons q .nil) => ⟨_, _, rfl, r, q⟩
theorem Vals.zero : ∀ {us : List Value}, Vals [] us → us = []
  | _, .nil => rfl
theorem Vals.dropLast {xs : List V} {us : List Value} (h : Vals xs us) : Vals xs.dropLast us.dropLast := by
  induction h with
  | nil => exact .nil
  | cons r t ih =>
    cases t with
    | nil => exact .nil
    | cons q t' => exact .cons r ih
theorem Vals.eraseIdx : ∀ {xs : List V} {us : List Value} (i : Nat), Vals xs us → Vals (xs.eraseIdx i) (us.eraseIdx i)
  | _, _, _, .nil => .nil
  | _, _, 0, .cons _ t => t
  | _, _, i + 1, .cons r t => .cons r (Vals.eraseIdx i t)
theorem Vals.reverse {xs : List V} {us : List Value} (h : Vals xs us) : Vals xs.reverse us.reverse := by
  induction h with
  | nil => exact .nil
  | cons r t ih => rw [List.reverse_cons, List.reverse_cons]; exact Vals.append ih (.cons r .nil)
theorem Vals.rep {xs : List V} {us : List Value} (h : Vals xs us) : ∀ k : Nat, Vals (List.replicate k xs).flatten (List.replicate k us).flatten
  | 0 => .nil
  | k + 1 => by
    rw [List.replicate_succ, List.replicate_succ, List.flatten_cons, List.flatten_cons]
    exact Vals.append h (Vals.rep h k)
theorem erase_last {α : Type} (l : List α) : l.eraseIdx (l.length - 1) = l.dropLast := by
  induction l with
  | nil => rfl
  | cons a r ih =>
    cases r with
    | nil => rfl
    | cons b r =>
      have e : (a :: b :: r).length - 1 = ((b :: r).length - 1) + 1 := by
        have h1 : (a :: b :: r).length = r.length + 2 := rfl
        have h2 : (b :: r).length = r.length + 1 := rfl
        omega
      rw [e, List.eraseIdx_cons_succ, ih]
      all_goals rfl
theorem len_erase {α : Type} : ∀ (l : List α) (i : Nat), (l.eraseIdx i).length ≤ l.length
  | [], _ => Nat.le_refl _
  | _ :: _, 0 => Nat.le_succ _
  | _ :: r, i + 1 => Nat.succ_le_succ (len_erase r i)
theorem foldl_rep (its : List Value) : ∀ (k : Nat) (acc : List Value),
    List.foldl (fun x1 x2 => x1 ++ x2) acc.toArray (List.replicate k its.toArray) = (acc ++ (List.replicate k its).flatten).toArray
  | 0, acc => by simp
  | k + 1, acc => by
    have e : acc.toArray ++ its.toArray = (acc ++ its).toArray := by simp
    have e2 : (acc ++ its) ++ (List.replicate k its).flatten = acc ++ (List.replicate (k + 1) its).flatten := by
      rw [List.replicate_succ, List.flatten_cons, List.append_assoc]
    rw [← e2, ← foldl_rep its k (acc ++ its), ← e, List.replicate_succ, List.foldl_cons]

section
variable {X : Cx} {pins : List (Addr × Obj)} {σ : St} {H : Hp} {s : Shared} {l b : Addr} {xs ys zs : List V}

/-! ### the two steps: a tracked list is rewritten, a new list is laid -/
theorem Inv.lset {its its' : List Value} {n : Nat} {f : Array Value → Array Value} {t' : Nat} (I : Inv X pins σ H s) (hH : H l = some (.lst xs))
    (e : s.heap.get? l = some { cls := .type "list", data := .seq its.toArray n }) (hf : f its.toArray = its'.toArray) (hv : Vals ys its') (hz : ys.length ≤ sizeLine) :
    Inv X pins σ (upd H l (.lst ys)) { s with heap := s.heap.update l (Obj.mapSeq f), toks := t' } := by
  have q := PySem.IsL.update e f
  rw [hf] at q
  refine I.write (x := l) (e := l) (by rw [hH]; exact trivial) (.inl rfl) (fun b' u hb hu => (Heap.get?_update_other s.heap (Obj.mapSeq f) (Ne.symm hb)).trans hu) ⟨_, q⟩ ?_
  exact ⟨hz, its', _, hv, q⟩
theorem Inv.lnew {its : List Value} {t' : Nat} (I : Inv X pins σ H s) (hv : Vals ys its) (hz : ys.length ≤ sizeLine) :
    Inv X pins σ (upd H s.heap.objs.size (.lst ys)) { s with heap := s.heap.push { cls := .type "list", data := .seq its.toArray }, toks := t' } :=
  I.laid (fun _ _ q => Heap.get?_push_of_some _ q) (Nat.le_refl _) ⟨hz, its, 0, hv, Heap.get?_push_size _ rfl⟩
theorem Inv.fresh (I : Inv X pins σ H s) : H s.heap.objs.size = none := I.hok.fresh (Nat.le_refl _)
theorem Inv.lstM (I : Inv X pins σ H s) (hH : H l = some (.lst xs)) : xs.length ≤ sizeLine ∧ ∃ (its : List Value) (n : Nat), Vals xs its ∧ xs.length = its.length ∧ s.heap.get? l = some { cls := .type "list", data := .seq its.toArray n } := by
  obtain ⟨z, its, n, r, e⟩ := I.hok l _ hH
  exact ⟨z, its, n, r, r.length, e⟩

theorem notLongL {n : Nat} (h : n ≤ sizeLine) : Builtin.List.listTooLong n = false := by
  unfold Builtin.List.listTooLong
  exact decide_eq_false (by omega)
end

section
variable {X : Cx}

/-! ### methods -/
def rAppend : V → List V → Hp → VK → Prop := fun x vs H Q => ∃ l xs y, x = .ref l ∧ vs = [y] ∧ H l = some (.lst xs) ∧ xs.length < sizeLine ∧ Q .non (upd H l (.lst (xs ++ [y])))
theorem mt_append : MtM X "list.append" rAppend := by
  intro pins s σ H x vs v us Q I rx rv h
  obtain ⟨l, xs, y, rfl, rfl, hH, hz, q⟩ := h
  cases rx
  obtain ⟨u, rfl, ru⟩ := rv.one
  obtain ⟨z, its, n, r, hl, e⟩ := I.lstM hH
  refine call_meets F.slot_list_append ⟨_, e, rfl⟩ F.entry_list_append (F.args_list_append_2 _ _) (PySem.list_append l its.toArray n u (by rw [List.size_toArray]; omega)) ⟨e, ?_⟩
  refine ⟨.non, _, I.lset (its' := its ++ [u]) hH e (by simp) (r.append (.cons ru .nil)) ?_, rfl, q⟩
  rw [List.length_append, List.length_singleton]
  omega

def rExtend : V → List V → Hp → VK → Prop := fun x vs H Q => ∃ l b xs zs, x = .ref l ∧ vs = [.ref b] ∧ H l = some (.lst xs) ∧ H b = some (.lst zs) ∧ xs.length + zs.length ≤ sizeLine ∧ Q .non (upd H l (.lst (xs ++ zs)))
theorem mt_extend : MtM X "list.extend" rExtend := by
  intro pins s σ H x vs v us Q I rx rv h
  obtain ⟨l, b, xs, zs, rfl, rfl, hH, hB, hz, q⟩ := h
  cases rx
  obtain ⟨u, rfl, ru⟩ := rv.one
  cases ru
  obtain ⟨z, its, n, r, hl, e⟩ := I.lstM hH
  obtain ⟨z2, its2, n2, r2, hl2, e2⟩ := I.lstM hB
  have hsz : its.toArray.size + its2.toArray.size ≤ sizeLine := by rw [List.size_toArray, List.size_toArray]; omega
  have hlong : ¬ (!its.toArray.isEmpty && Builtin.List.listTooLong (its.toArray.size + its2.toArray.size)) = true := by
    rw [notLongL hsz, Bool.and_false]
    exact Bool.false_ne_true
  refine call_meets F.slot_list_extend ⟨_, e, rfl⟩ F.entry_list_extend (F.args_list_extend_2 _ _)
    (AutoSeq1.list_extend_list_list_0 l its.toArray n b its2.toArray n2 hlong (by rw [List.size_toArray]; omega) (by omega)) ⟨e, e2, ?_⟩
  refine ⟨.non, _, I.lset (its' := its ++ its2) hH e (by simp) (r.append r2) ?_, rfl, q⟩
  rw [List.length_append]
  omega

def rPop : V → List V → Hp → VK → Prop := fun x vs H Q => ∃ l xs y, x = .ref l ∧ vs = [] ∧ H l = some (.lst xs) ∧ xs[xs.length - 1]? = some y ∧ Q y (upd H l (.lst xs.dropLast))
theorem mt_pop : MtM X "list.pop" rPop := by
  intro pins s σ H x vs v us Q I rx rv h
  obtain ⟨l, xs, y, rfl, rfl, hH, hy, q⟩ := h
  cases rx
  have hus := rv.zero
  subst hus
  obtain ⟨z, its, n, r, hl, e⟩ := I.lstM hH
  obtain ⟨u, hu, ru⟩ := r.get hy
  have hy' : its.toArray[its.toArray.size - 1]? = some u := by
    show its.toArray[its.length - 1]? = some u
    rw [← Array.getElem?_toList, ← hl]
    exact hu
  refine call_meets F.slot_list_pop ⟨_, e, rfl⟩ F.entry_list_pop (F.args_list_pop_1 _) (MeetsSeq.list_pop_last l its.toArray n u hy' (by rw [List.size_toArray]; omega)) ⟨e, ?_⟩
  refine ⟨y, _, I.lset (its' := its.dropLast) hH e ?_ r.dropLast ?_, ru, q⟩
  · show its.toArray.eraseIdxIfInBounds (its.toArray.size - 1) = its.dropLast.toArray
    rw [List.size_toArray, List.eraseIdxIfInBounds_toArray, erase_last]
  · rw [List.length_dropLast]
    omega

def rPopAt : V → List V → Hp → VK → Prop := fun x vs H Q => ∃ l xs i k y, x = .ref l ∧ vs = [.int i] ∧ H l = some (.lst xs) ∧ -(2 ^ 63) ≤ i ∧ i < 2 ^ 63 ∧ seqIndex? i xs.length = some k ∧ xs[k]? = some y ∧ Q y (upd H l (.lst (xs.eraseIdx k)))
theorem mt_popAt : MtM X "list.pop" rPopAt := by
  intro pins s σ H x vs v us Q I rx rv h
  obtain ⟨l, xs, i, k, y, rfl, rfl, hH, h1, h2, hk, hy, q⟩ := h
  cases rx
  obtain ⟨u, rfl, ru⟩ := rv.one
  obtain ⟨t, rfl⟩ := ru
  obtain ⟨z, its, n, r, hl, e⟩ := I.lstM hH
  obtain ⟨w, hw, rw'⟩ := r.get hy
  refine call_meets F.slot_list_pop ⟨_, e, rfl⟩ F.entry_list_pop (F.args_list_pop_2 _ _)
    (MeetsSeq.list_pop_at l its.toArray n i t k w (fitsIndex_both h1 h2) (by rw [List.size_toArray, ← hl]; exact hk) (by rw [← Array.getElem?_toList]; exact hw) (by rw [List.size_toArray]; omega)) ⟨e, ?_⟩
  refine ⟨y, _, I.lset (its' := its.eraseIdx k) hH e ?_ (r.eraseIdx k) ?_, rw', q⟩
  · show its.toArray.eraseIdxIfInBounds k = (its.eraseIdx k).toArray
    rw [List.eraseIdxIfInBounds_toArray]
  · have := len_erase xs k
    omega

def rReverse : V → List V → Hp → VK → Prop := fun x vs H Q => ∃ l xs, x = .ref l ∧ vs = [] ∧ H l = some (.lst xs) ∧ Q .non (upd H l (.lst xs.reverse))
theorem mt_reverse : MtM X "list.reverse" rReverse := by
  intro pins s σ H x vs v us Q I rx rv h
  obtain ⟨l, xs, rfl, rfl, hH, q⟩ := h
  cases rx
  have hus := rv.zero
  subst hus
  obtain ⟨z, its, n, r, hl, e⟩ := I.lstM hH
  refine call_meets F.slot_list_reverse ⟨_, e, rfl⟩ F.entry_list_reverse (F.args_list_reverse_1 _) (AutoSeq1.list_reverse_list_0 l its.toArray n (by rw [List.size_toArray]; omega)) ⟨e, ?_⟩
  refine ⟨.non, _, I.lset (its' := its.reverse) hH e (by simp) r.reverse ?_, rfl, q⟩
  rw [List.length_reverse]
  omega

def rClear : V → List V → Hp → VK → Prop := fun x vs H Q => ∃ l xs, x = .ref l ∧ vs = [] ∧ H l = some (.lst xs) ∧ Q .non (upd H l (.lst []))
theorem mt_clear : MtM X "list.clear" rClear := by
  intro pins s σ H x vs v us Q I rx rv h
  obtain ⟨l, xs, rfl, rfl, hH, q⟩ := h
  cases rx
  have hus := rv.zero
  subst hus
  obtain ⟨z, its, n, r, hl, e⟩ := I.lstM hH
  refine call_meets F.slot_list_clear ⟨_, e, rfl⟩ F.entry_list_clear (F.args_list_clear_1 _) (AutoSeq1.list_clear_list_0 l its.toArray n (by rw [List.size_toArray]; omega)) ⟨e, ?_⟩
  exact ⟨.non, _, I.lset (its' := []) (ys := []) hH e rfl .nil (Nat.zero_le _), rfl, q⟩

/-! ### list + list, list += list, list * int -/
def rCat : R2 := fun x y H Q => ∃ l b xs zs, x = .ref l ∧ y = .ref b ∧ H l = some (.lst xs) ∧ H b = some (.lst zs) ∧ xs.length + zs.length ≤ sizeLine ∧ ∀ p, H p = none → Q (.ref p) (upd H p (.lst (xs ++ zs)))
theorem op_cat : OpR X (binaryOp .Add) rCat := by
  intro pins s σ H x y v u Q I rx ry h
  obtain ⟨l, b, xs, zs, rfl, rfl, hH, hB, hz, q⟩ := h
  cases rx
  cases ry
  obtain ⟨z, its, n, r, hl, e⟩ := I.lstM hH
  obtain ⟨z2, its2, n2, r2, hl2, e2⟩ := I.lstM hB
  refine PySem.P.add_list e e2 ?_ (by rw [List.size_toArray, List.size_toArray]; omega)
  have ea : its.toArray ++ its2.toArray = (its ++ its2).toArray := by simp
  rw [ea]
  exact ⟨.ref _, _, I.lnew (t' := s.toks) (r.append r2) (by rw [List.length_append]; omega), rfl, q _ I.fresh⟩
/-- a list times an int (a negative one is nothing) -/
def rRep : R2 := fun x y H Q => ∃ l k xs, x = .ref l ∧ y = .int k ∧ H l = some (.lst xs) ∧ -(2 ^ 63) ≤ k ∧ k < 2 ^ 63 ∧ xs.length * k.toNat ≤ sizeLine ∧
  ∀ p, H p = none → Q (.ref p) (upd H p (.lst (List.replicate k.toNat xs).flatten))
theorem len_rep {α : Type} (xs : List α) (k : Nat) : (List.replicate k xs).flatten.length = k * xs.length := by
  induction k with
  | zero => simp
  | succ k ih => rw [List.replicate_succ, List.flatten_cons, List.length_append, ih, Nat.succ_mul, Nat.add_comm]
theorem op_rep : OpR X (binaryOp .Mult) rRep := by
  intro pins s σ H x y v u Q I rx ry h
  obtain ⟨l, k, xs, rfl, rfl, hH, h1, h2, hz, q⟩ := h
  cases rx
  obtain ⟨t, rfl⟩ := ry
  obtain ⟨z, its, n, r, hl, e⟩ := I.lstM hH
  have hlen : its.toArray.size * k.toNat ≤ sizeLine := by rw [List.size_toArray, ← hl]; exact hz
  have hcap : ¬ its.toArray.size * k.toNat > (2 ^ 63 - 1) / 8 := by
    have : (sizeLine : Nat) ≤ (2 ^ 63 - 1) / 8 := by decide
    omega
  have hfit : ¬ (!Builtin.List.listFitsIndex k) = true := by
    rw [fitsIndex_both h1 h2]
    exact Bool.false_ne_true
  have hlong : ¬ Builtin.List.listTooLong (its.toArray.size * k.toNat) = true := by
    rw [notLongL hlen]
    exact Bool.false_ne_true
  have hnew : List.foldl (fun x1 x2 => x1 ++ x2) #[] (List.replicate (if its.toArray.isEmpty = true then 0 else k.toNat) its.toArray) = (List.replicate k.toNat its).flatten.toArray := by
    have f0 : ∀ m : Nat, List.foldl (fun x1 x2 => x1 ++ x2) #[] (List.replicate m its.toArray) = (List.replicate m its).flatten.toArray := fun m => by
      have := foldl_rep its m []
      rw [List.nil_append] at this
      exact this
    rw [f0]
    cases its with
    | nil => simp
    | cons a r' => rw [if_neg (by simp)]
  refine wpAny_binaryOp_repeat_ref (T := "list") (U := "int") (by decide) ⟨_, e, rfl⟩ (fun s' => typeIs_int s' k t) noFill_list_mul F.fills_int_mul F.slot_int_rmul repeat_list F.slot_int_index.lookup
    (call_meets F.slot_int_rmul (typeIs_int s k t) F.entry_int_rmul (F.args_int_rmul_2 _ _) (int___rmul___int_list k t l its.toArray n)
      ⟨e, rfl, ⟨_, e, rfl⟩, call_meets F.slot_list_mul ⟨_, e, rfl⟩ F.entry_list_mul (F.args_list_mul_2 _ _) (AutoListH.list___mul___list_int_3 l its.toArray n k t hfit hcap hlong) ⟨e, ?_⟩⟩)
  rw [hnew]
  exact ⟨.ref _, _, I.lnew (t' := s.toks) (r.rep k.toNat) (by rw [len_rep, Nat.mul_comm]; exact hz), rfl, q _ I.fresh⟩

/-! ### del xs[i] -/
theorem del_list {pins : List (Addr × Obj)} {s : Shared} {σ : St} {H : Hp} {l : Addr} {xs : List V} {i : Int} {t : Tok} {k : Nat} {Q : Unit → Shared → Prop} (I : Inv X pins σ H s) (hH : H l = some (.lst xs))
    (h1 : -(2 ^ 63) ≤ i) (h2 : i < 2 ^ 63) (hk : seqIndex? i xs.length = some k) (h : ∀ s', Inv X pins σ (upd H l (.lst (xs.eraseIdx k))) s' → Q () s') :
    wpAny (model X.prog X.w) X.A (delItem (.ref l) (.int i t)) Q X.xe s := by
  obtain ⟨z, its, n, r, hl, e⟩ := I.lstM hH
  refine PySem.P.delItem_list (k := k) e (fitsIndex_both h1 h2) (by rw [List.size_toArray, ← hl]; exact hk) (h _ ?_) (by rw [List.size_toArray]; omega)
  refine I.lset (its' := its.eraseIdx k) (t' := s.toks) hH e ?_ (r.eraseIdx k) ?_
  · show its.toArray.eraseIdxIfInBounds k = (its.eraseIdx k).toArray
    rw [List.eraseIdxIfInBounds_toArray]
  · have := len_erase xs k
    omega
end

/-! ### xs[a:b] = ys -/
section
variable {prog : Program} {w : World} {A : Around} {E : Value → Shared → Prop} {s : Shared}
theorem splice_eq (its its2 : List Value) (a c : Nat) : its.toArray.extract 0 a ++ its2.toArray ++ its.toArray.extract c its.toArray.size = (its.take a ++ its2 ++ its.drop c).toArray := by
  apply Array.toList_inj.mp
  first
    | (simp
       exact List.take_of_length_le (by simp))
    | simp [List.take_of_length_le]
    | simp
theorem bounds_run {a c n : Nat} (hac : a ≤ c) (hc : c ≤ n) : sliceBounds (some (a : Int)) (some (c : Int)) none n = ((a : Int), (c : Int), 1) := by
  simp only [sliceBounds, Option.getD_none]
  have h1 : ¬ ((a : Int) < 0) := by omega
  have h2 : ¬ ((c : Int) < 0) := by omega
  simp only [h1, h2, if_false, show (1 : Int) > 0 by decide, if_true]
  congr 1
  · omega
  · congr 1; omega
set_option maxRecDepth 100000 in
/-- list.__setitem__ with a slice of step one and another list -/
theorem setItem_slice {l b sl : Addr} {items new : Array Value} {n n2 : Nat} {vl vu : Value} {a c : Nat} {Q : Unit → Shared → Prop}
    (e : s.heap.get? l = some { cls := .type "list", data := .seq items n }) (e2 : s.heap.get? b = some { cls := .type "list", data := .seq new n2 }) (hne : l ≠ b)
    (hs : s.heap.IsSliceOf sl vl vu .none) (pl : IsPart vl (some (a : Int))) (pu : IsPart vu (some (c : Int))) (hac : a ≤ c) (hc : c ≤ items.size)
    (hsz : items.size + new.size ≤ sizeLine) (h : Q () { s with heap := s.heap.update l (Obj.mapSeq fun xs => xs.extract 0 a ++ new ++ xs.extract c xs.size) }) :
    wpAny (model prog w) A (setItem (.ref l) (.ref sl) (.ref b)) Q E s := by
  have hl : s.heap.IsList l items := PySem.IsL.isList e
  have hb : s.heap.IsList b new := PySem.IsL.isList e2
  obtain ⟨os, hos, hcs, hds⟩ := id hs
  have hTs : s.TypeIs (.ref sl) "slice" := ⟨os, hos, hcs⟩
  have hstep : ¬ ((rawPart none == rawInt 0) = true) := Bool.false_ne_true
  have hsame : Builtin.List.listSameRef (.ref l) (.ref b) = false := by
    unfold Builtin.List.listSameRef
    exact beq_eq_false_iff_ne.mpr hne
  have hmax : (max (a : Int) (c : Int)).toNat = c := by omega
  have hz' : ((fun xs : Array Value => xs.extract 0 a ++ new ++ xs.extract c xs.size) items).size ≤ sizeLine + 1 := by
    simp only [Array.size_append, Array.size_extract]
    omega
  unfold setItem
  try with_reducible refine wpAny_holding ?_
  first | refine wpAny_bind (wpAny_pure ?_) | skip
  refine wpAny_bind (wpAny_sequenceKey hl.typeIs (by decide) ?_)
  refine wpAny_bind (wpAny_callSpecial?_slot (name := Str.ofString "__setitem__") hl.typeIs slot_list_setitem
    (wpAny_call_entry slot_list_setitem hl.typeIs entry_list_setitem ?_ (args_list_setitem _ _ _)))
  show wpAny _ _ (Builtin.List.listSubscript? (.ref sl) >>= _) _ _ s
  refine wpAny_bind ?_
  unfold Builtin.List.listSubscript?
  refine wpAny_bind (wpAny_specialOf hTs slice_no_index ?_)
  simp only [Option.isNone_none, if_true]
  refine wpAny_pure ?_
  show wpAny _ _ (typeOf (.ref sl) >>= _) _ _ s
  refine wpAny_bind (wpAny_typeOf hTs ?_)
  first
    | rw [if_neg (by decide)]
    | refine PySem.W.KFB.if_not (by decide) ?_
  rw [listSliceParts_eq]
  refine wpAny_bind (wpAny_bind (wpAny_field hos hds (x := .none) rfl (wpAny_bind (wpAny_listPart .none ?_))))
  rw [if_neg hstep]
  refine wpAny_bind (wpAny_field hos hds (x := vl) rfl (wpAny_bind (wpAny_listPart pl ?_)))
  refine wpAny_bind (wpAny_field hos hds (x := vu) rfl (wpAny_bind (wpAny_listPart pu (wpAny_pure ?_))))
  first
    | simp only [hsame, Bool.false_eq_true, if_false]
    | refine PySem.W.KFB.if_not hsame ?_
    | (dsimp only
       rw [if_neg (by rw [hsame]; exact Bool.false_ne_true)])
  refine wpAny_bind (m := Builtin.List.listAllItems (.ref b) "must assign iterable to extended slice") ?_
  unfold Builtin.List.listAllItems
  refine wpAny_bind (wpAny_typeOf hb.typeIs ?_)
  first
    | refine PySem.W.KFB.if_so (by decide) ?_
    | rw [if_pos (by decide)]
    | simp only [beq_self_eq_true, Bool.true_or, if_true]
  unfold Builtin.List.listItems
  refine wpAny_bind (wpAny_seqItems e2 rfl (wpAny_pure ?_))
  refine wpAny_bind (wpAny_bind (wpAny_seqItems e rfl (wpAny_pure ?_)))
  refine wpAny_bind (wpAny_of_eq ((sliceIndices_raw (some (a : Int)) (some (c : Int)) none items.size (by simp)).trans (congrArg (pure : Int × Int × Int → Sem (Int × Int × Int)) (bounds_run hac hc))) ?_)
  show wpAny _ _ (if ((1 : Int) == 1) = true then _ else _) _ _ s
  rw [if_pos (by decide)]
  refine wpAny_bind (wpAny_rule ?_)
  first
    | simp only [notLongL hsz, Bool.false_eq_true, if_false]
    | refine PySem.W.KFB.if_not (notLongL hsz) ?_
  first | refine wpAny_bind (wpAny_pure ?_) | skip
  show wpAny _ _ (updateSeq l (fun xs => xs.extract 0 ((a : Int)).toNat ++ new ++ xs.extract (max (a : Int) (c : Int)).toNat xs.size) >>= _) _ _ s
  rw [hmax, Int.toNat_natCast]
  refine wpAny_bind (wpAny_updateSeq (hz := Nat.le_trans (Nat.le_add_right _ _) hsz) (_hz' := hz') e rfl ?_)
  refine wpAny_bind (wpAny_letGo ?_)
  first
    | exact wpAny_bind (wpAny_pure (wpAny_pure ⟨.none, rfl, wpAny_pure h⟩))
    | exact wpAny_pure ⟨.none, rfl, wpAny_pure h⟩
end

section
variable {X : Cx}
/-- xs[a:c] = ys of another list, at the value level: sl is the slice object that was just made -/
theorem set_slice {pins : List (Addr × Obj)} {s : Shared} {σ : St} {H : Hp} {l b sl : Addr} {xs ys : List V} {a c : Int} {vl vu : Value} {Q : Unit → Shared → Prop} (I : Inv X pins σ H s)
    (hH : H l = some (.lst xs)) (hB : H b = some (.lst ys)) (hne : l ≠ b) (hs : s.heap.IsSliceOf sl vl vu .none) (ra : RelV (.int a) vl) (rc : RelV (.int c) vu) (h0 : 0 ≤ a) (hac : a ≤ c) (hc : c ≤ xs.length)
    (hz : xs.length + ys.length ≤ sizeLine) (h : ∀ s', Inv X pins σ (upd H l (.lst (xs.take a.toNat ++ ys ++ xs.drop c.toNat))) s' → Q () s') :
    wpAny (model X.prog X.w) X.A (setItem (.ref l) (.ref sl) (.ref b)) Q X.xe s := by
  obtain ⟨ta, rfl⟩ := ra
  obtain ⟨tc, rfl⟩ := rc
  obtain ⟨z, its, n, r, hl, e⟩ := I.lstM hH
  obtain ⟨z2, its2, n2, r2, hl2, e2⟩ := I.lstM hB
  obtain ⟨a', rfl⟩ := Int.eq_ofNat_of_zero_le h0
  obtain ⟨c', rfl⟩ := Int.eq_ofNat_of_zero_le (Int.le_trans h0 hac)
  simp only [Int.toNat_natCast] at h
  refine setItem_slice (a := a') (c := c') e e2 hne hs (.int _ _) (.int _ _) (by omega) (by rw [List.size_toArray]; omega) (by rw [List.size_toArray, List.size_toArray]; omega) (h _ ?_)
  refine I.lset (its' := its.take a' ++ its2 ++ its.drop c') (t' := s.toks) hH e ?_ (Vals.append (Vals.append (r.take _) r2) (r.drop _)) ?_
  · exact splice_eq its its2 a' c'
  · rw [List.length_append, List.length_append, List.length_take, List.length_drop]
    omega
end
end L2

namespace Att
open PySem PySem.W PySem.Calls PyProof.Rows

/-! ### the script -/
theorem ints_of_wellAll {P : Params} {h : Heap} : ∀ (ns : List Int) (vs : List Value), WellAll P h vs (ns.map WData.int) → IntsAre vs ns := by
  intro ns
  induction ns with
  | nil =>
    intro vs w
    rw [List.map_nil] at w
    cases w
    exact .nil
  | cons n ns ih =>
    intro vs w
    rw [List.map_cons] at w
    cases w with
    | cons a b =>
      cases a
      exact .cons _ _ (ih _ b)

theorem script_of {l : OpenLaw} {n : Nat} (hn : l.most = some n) {P : Params} {h : Heap} {args : List WData} {vals : List Value}
    (hpre : l.row.toRowW.claim.pre args = true) (hwl : WellAll P h vals args) :
    ∃ a vs ns, vals = [Value.ref a] ∧ args = [WData.list (ns.map WData.int)] ∧ h.get? a = some { cls := .type "list", data := .seq vs.toArray } ∧ IntsAre vs ns ∧ ns.length ≤ n := by
  have hsh : WShape.hasAll [] args [.list .int] = true := (pre_splitW hpre).1
  have hc : l.pre.holds [] { args := args } = true := (pre_splitW hpre).2
  obtain ⟨d, r, rfl, h1, h2⟩ := hasAllW_cons hsh
  obtain rfl := hasAllW_nil h2
  obtain ⟨xs, rfl, h3⟩ := hasW_list h1
  obtain ⟨ns, rfl⟩ := items_int h3
  have hlen : ns.length ≤ n := by
    unfold OpenLaw.pre at hc
    have h4 : (WTm.not (.lt (.lit (.int (n : Int))) (.len (.arg 0)))).holds [] { args := [.list (ns.map .int)] } = true := by
      have h4 := (holds_andW hc).1
      rw [hn] at h4
      exact h4
    have h5 := condW_of h4 (w_not (w_lt w_lit (w_len_list (w_arg rfl))))
    rw [List.length_map] at h5
    refine Nat.le_of_not_lt fun q => ?_
    have q' : (n : Int) < ((ns.length : Nat) : Int) := by omega
    first
      | (rw [decide_eq_true q'] at h5; exact absurd h5 (by decide))
      | (simp at h5; omega)
  cases hwl with
  | cons w1 w2 =>
    cases w2
    cases w1 with
    | list ho hall => exact ⟨_, _, ns, rfl, rfl, ho, ints_of_wellAll ns _ hall, hlen⟩

theorem post_true (l : OpenLaw) (args : List WData) : l.row.toRowW.claim.post args (.bool true) args = true :=
  postW_of (r := l.row.toRowW) (X := (true == true))
    (show WShape.has [] (.bool true) .bool = true by first | rfl | decide | simp [WShape.has, WShape.arms, WShape.armsAll])
    (show (WTm.eq .res (.lit (.bool true))).value [] { args := args, res := some (.bool true), after := args } = some (.bool (true == true)) from w_eq_bool (w_res rfl) w_lit) rfl

/-! ### the attachment: holds_open's last premise (the goal 'hc' behind k_head) from a wpAny of the law's body -/
theorem attach {l : OpenLaw} {n : Nat} {q : Program} {loose : List Str} {XP : (Str → Option Value) → Heap → Prop} {YP : World → Heap → Prop} {d : DefRec} {x : Str}
    (hn : l.most = some n) (hdf : d.params.defaults = [])
    (hbind : ∀ pm cd doc v : Value, bindArgs (docDef d.name d.params d.body d.scope pm cd doc) ⟨[v], []⟩ = pure [(x, v)])
    (hx : d.scope.names.lookup x = some .local ∨ d.scope.names.lookup x = some .cell)
    (hk : d.scope.kind = .function) (hco : d.scope.isCoroutine = false) (hgen : d.scope.isGenerator = false)
    (body : ∀ (w : World) (s₀ s₁ s : Shared) (mg mb : Str → Option Value) (fa : Addr) (o : Obj) (pm cd doc : Value) (a : Addr) (vs : List Value) (ns : List Int),
      Ground q loose [] XP w s₀ mg mb s₁.heap → YP w s₁.heap →
      s₁.heap.get? fa = some o → o.data = .func (docDef d.name d.params d.body d.scope pm cd doc) → s₁.heap.CodeRec cd d.name → mg d.name = some (.ref fa) →
      s₁.heap.get? a = some { cls := .type "list", data := .seq vs.toArray } → IntsAre vs ns → ns.length ≤ n →
      s.gens = #[] → s.os = s₁.os →
      Fr s₁.heap s₁.heap.objs.size s.heap (bindL (envOfC d.name d.scope s₁.heap.objs.size fa cd).kindOf [(x, .ref a)] fun _ => none) →
      Cl s₁.heap.objs.size (cellsFrom (s₁.heap.objs.size + 1) d.scope.names []) s.heap (bindC (envOfC d.name d.scope s₁.heap.objs.size fa cd).kindOf [(x, .ref a)] fun _ => none) →
      wpAny (model l.prog w) (callerA.deeper (envOfC d.name d.scope s₁.heap.objs.size fa cd)) (execs d.body (envOfC d.name d.scope s₁.heap.objs.size fa cd))
        (fun f s' => f = .ret (.bool true) ∧ OldK s₁.heap s'.heap ∧ s'.os = s₁.os ∧ AllBare s'.gens) (fun _ _ => False) s) :
    WalkO q loose XP YP l.row.toRowW d [] (fun f vs => PySem.call f vs) := by
  intro w s₀ s₁ mg mb G Y fa o pm cd doc dV kV ho hd hcd hD hmg hg args vals as hpre hlay hrd hwl hlo
  obtain rfl : dV = .none := Dflts.none hD hdf
  obtain rfl : kV = .none := Dflts.noKw hD
  obtain ⟨a, vs, ns, rfl, rfl, hobj, hints, hlen⟩ := script_of hn hpre hwl
  refine enter_call ?_
  refine call_cells_ret (o := o) (by rw [depth_caller]; decide) ho (fd_plain hd) G.T.nolimit hcd (hbind pm cd doc (.ref a)) (fun y hy => ?_) (fun h₁ tk F X => ?_) hco hgen hk
  · obtain rfl : y = (x, Value.ref a) := List.mem_singleton.mp hy
    rcases hx with e | e
    · exact .inl e
    · exact .inr ⟨e, cellsFrom_some _ _ _ (.inl e)⟩
  · refine wpAny_mono (body w s₀ s₁ { s₁ with heap := h₁, toks := tk } mg mb fa o pm cd doc a vs ns G Y ho (fd_plain hd) hcd hmg hobj hints hlen hg rfl F X) (fun f s' hq => ?_) (fun _ _ hq => hq)
    obtain ⟨rfl, h2, h3, h4⟩ := hq
    exact ⟨.inl ⟨.bool true, .bool true, [], rfl, fun _ => rfl, .bool true, post_true l _, fun _ => ⟨List.Pairwise.nil, fun _ hm => (nomatch hm)⟩⟩, h2, h3, h4⟩

/-- the same from a codeAny of the CALL (for a layer whose function contracts speak of calls) -/
theorem attach_call {l : OpenLaw} {n : Nat} {q : Program} {loose : List Str} {XP : (Str → Option Value) → Heap → Prop} {YP : World → Heap → Prop} {d : DefRec}
    (hn : l.most = some n) (hdf : d.params.defaults = [])
    (call : ∀ (w : World) (s₀ s₁ : Shared) (mg mb : Str → Option Value) (fa : Addr) (o : Obj) (pm cd doc : Value) (a : Addr) (vs : List Value) (ns : List Int),
      Ground q loose [] XP w s₀ mg mb s₁.heap → YP w s₁.heap →
      s₁.heap.get? fa = some o → o.data = .func (docDef d.name d.params d.body d.scope pm cd doc) → s₁.heap.CodeRec cd d.name → mg d.name = some (.ref fa) →
      s₁.heap.get? a = some { cls := .type "list", data := .seq vs.toArray } → IntsAre vs ns → ns.length ≤ n → s₁.gens = #[] →
      codeAny (model l.prog w) callerA (.call (.ref fa) ⟨[.ref a], []⟩) (fun r s' => r = .ok (.ret (.bool true)) ∧ OldK s₁.heap s'.heap ∧ s'.os = s₁.os ∧ AllBare s'.gens) s₁) :
    WalkO q loose XP YP l.row.toRowW d [] (fun f vs => PySem.call f vs) := by
  intro w s₀ s₁ mg mb G Y fa o pm cd doc dV kV ho hd hcd hD hmg hg args vals as hpre hlay hrd hwl hlo
  obtain rfl : dV = .none := Dflts.none hD hdf
  obtain rfl : kV = .none := Dflts.noKw hD
  obtain ⟨a, vs, ns, rfl, rfl, hobj, hints, hlen⟩ := script_of hn hpre hwl
  refine enter_call (codeAny_mono (call w s₀ s₁ mg mb fa o pm cd doc a vs ns G Y ho (fd_plain hd) hcd hmg hobj hints hlen hg) fun r s' hq => ?_)
  obtain ⟨rfl, h2, h3, h4⟩ := hq
  exact ⟨.inl ⟨.bool true, .bool true, [], rfl, fun _ => rfl, .bool true, post_true l _, fun _ => ⟨List.Pairwise.nil, fun _ hm => (nomatch hm)⟩⟩, h2, h3, h4⟩

/-- the same where the top left finished generators (o_head chose holds_openN): nothing may have changed at all and no generator may be left -/
theorem attachN {l : OpenLaw} {n : Nat} {q : Program} {loose : List Str} {XP : (Str → Option Value) → Heap → Prop} {YP : World → Heap → Prop} {d : DefRec} {x : Str}
    (hn : l.most = some n) (hdf : d.params.defaults = [])
    (hbind : ∀ pm cd doc v : Value, bindArgs (docDef d.name d.params d.body d.scope pm cd doc) ⟨[v], []⟩ = pure [(x, v)])
    (hx : d.scope.names.lookup x = some .local ∨ d.scope.names.lookup x = some .cell)
    (hk : d.scope.kind = .function) (hco : d.scope.isCoroutine = false) (hgen : d.scope.isGenerator = false)
    (body : ∀ (w : World) (s₀ s₁ s : Shared) (mg mb : Str → Option Value) (fa : Addr) (o : Obj) (pm cd doc : Value) (a : Addr) (vs : List Value) (ns : List Int),
      Ground q loose [] XP w s₀ mg mb s₁.heap → YP w s₁.heap →
      s₁.heap.get? fa = some o → o.data = .func (docDef d.name d.params d.body d.scope pm cd doc) → s₁.heap.CodeRec cd d.name → mg d.name = some (.ref fa) →
      s₁.heap.get? a = some { cls := .type "list", data := .seq vs.toArray } → IntsAre vs ns → ns.length ≤ n →
      s.gens = #[] → s.os = s₁.os →
      Fr s₁.heap s₁.heap.objs.size s.heap (bindL (envOfC d.name d.scope s₁.heap.objs.size fa cd).kindOf [(x, .ref a)] fun _ => none) →
      Cl s₁.heap.objs.size (cellsFrom (s₁.heap.objs.size + 1) d.scope.names []) s.heap (bindC (envOfC d.name d.scope s₁.heap.objs.size fa cd).kindOf [(x, .ref a)] fun _ => none) →
      wpAny (model l.prog w) (callerA.deeper (envOfC d.name d.scope s₁.heap.objs.size fa cd)) (execs d.body (envOfC d.name d.scope s₁.heap.objs.size fa cd))
        (fun f s' => f = .ret (.bool true) ∧ (∀ b o, s₁.heap.get? b = some o → s'.heap.get? b = some o) ∧ s'.os = s₁.os ∧ s'.gens = #[]) (fun _ _ => False) s) :
    WalkN q loose XP YP l.row.toRowW d [] (fun f vs => PySem.call f vs) := by
  intro w s₀ s₁ mg mb G Y fa o pm cd doc dV kV ho hd hcd hD hmg hg args vals as hpre hlay hrd hwl hlo
  obtain rfl : dV = .none := Dflts.none hD hdf
  obtain rfl : kV = .none := Dflts.noKw hD
  obtain ⟨a, vs, ns, rfl, rfl, hobj, hints, hlen⟩ := script_of hn hpre hwl
  refine enter_callW ?_
  refine call_cells_ret (o := o) (by rw [depth_caller]; decide) ho (fd_plain hd) G.T.nolimit hcd (hbind pm cd doc (.ref a)) (fun y hy => ?_) (fun h₁ tk F X => ?_) hco hgen hk
  · obtain rfl : y = (x, Value.ref a) := List.mem_singleton.mp hy
    rcases hx with e | e
    · exact .inl e
    · exact .inr ⟨e, cellsFrom_some _ _ _ (.inl e)⟩
  · refine wpAny_mono (body w s₀ s₁ { s₁ with heap := h₁, toks := tk } mg mb fa o pm cd doc a vs ns G Y ho (fd_plain hd) hcd hmg hobj hints hlen hg rfl F X) (fun f s' hq => ?_) (fun _ _ hq => hq)
    obtain ⟨rfl, h2, h3, h4⟩ := hq
    exact ⟨.inl ⟨.bool true, .bool true, [], rfl, fun _ => rfl, .bool true, post_true l _, fun _ => ⟨List.Pairwise.nil, fun _ hm => (nomatch hm)⟩⟩, h2, h3, h4⟩

/-! ### rules over ANY heap (no ledger) from facts about the written part K: the library's own take a ledger (News) for what they write -/
section
variable {prog : Program} {w : World} {A : Around} {E : Value → Shared → Prop} {s : Shared} {K : Frag}

/-- a def of the module, or a method (qual 'C.m'), entered: the frame is the next address; cells behind it -/
theorem call_fn {R : Result → Shared → Prop} {name qual : Str} {params : Arguments} {body : List Stmt} {scope : Scope} {dV kV doc pm cdv ct oc : Value} {an od : Option Addr} {osl : Array (Option Value)} {f : Addr} {args : Args} {binds : List (Str × Value)}
    (X : K.In s.heap) (hlim : s.heap.NoLimit) (ho : K.lookup f = some ⟨oc, od, .func (fnOf name qual params body scope dV kV doc pm an cdv ct), osl⟩) (hcd : codeIn K cdv qual = true) (hroom : A.depth < recursionLimit)
    (hbind : BindsTo s (fnOf name qual params body scope dV kV doc pm an cdv ct) args binds)
    (hkind : (binds.all fun y => scope.names.lookup y.1 == some .local || scope.names.lookup y.1 == some .cell) = true)
    (h : ∀ s₁, InCallC s s.heap.objs.size (bindL (envOfC qual scope s.heap.objs.size f cdv).kindOf binds fun _ => none) (cellsFrom (s.heap.objs.size + 1) scope.names [])
        (bindC (envOfC qual scope s.heap.objs.size f cdv).kindOf binds fun _ => none) s₁ →
      wpAny (model prog w) (A.deeper (envOfC qual scope s.heap.objs.size f cdv)) (execs body (envOfC qual scope s.heap.objs.size f cdv))
        (fun fl s' => R (.ok (.ret (match fl with | .ret v => v | _ => .none))) s')
        (fun e s' => wpAny (model prog w) (A.deeper (envOfC qual scope s.heap.objs.size f cdv)) (leaving (envOfC qual scope s.heap.objs.size f cdv) e) (fun _ s'' => R (.error e) s'') (fun e' s'' => R (.error e') s'') s') s₁)
    (hco : scope.isCoroutine = false) (hgen : scope.isGenerator = false) (hk : scope.kind = .function) : codeAny (model prog w) A (.call (.ref f) args) R s := by
  refine codeAny_call_function hroom (X _ _ ho) rfl hco hgen rfl (codeRec_of X hcd) (hbind _ _ _ _ ?_)
  refine wpAny_newFunctionEnv_cells hk (kindsX hkind _) fun env he s₁ x => ?_
  subst he
  exact ⟨hlim.keeps x.toInCall.keep, codeAny_func (h s₁ x)⟩

/-- C(..): dict at size, instance at size + 1, then __init__ -/
theorem make_obj {R : Result → Shared → Prop} {C fI : Addr} {rest : List Value} {kw : List (Str × Value)}
    (X : K.In s.heap) (hm : makesIn K C = true) (hi : findIn K (.ref C) "__init__" = some (some (.ref fI))) (hf : isFn K (.ref fI) = true)
    (h : codeAny (model prog w) (A.under (.builtin "type.__call__" ⟨.ref C :: rest, kw⟩)) (.call (.ref fI) ⟨.ref (s.heap.objs.size + 1) :: rest, kw⟩) (InitBack (s.heap.objs.size + 1) R)
      { s with heap := (s.heap.push emptyDict).push (instObj C s.heap.objs.size) }) : codeAny (model prog w) A (.call (.ref C) ⟨rest, kw⟩) R s := by
  obtain ⟨hh, g, d, t, os⟩ := s
  exact make_core (makes_of X hm) (looks_findIn X hi) (fun self => bind_fn X self (beq_iff_eq.mp hf)) (.inl rfl) h

/-- x.name where the instance's dict holds the name and the class does not -/
theorem get_field {x C : Addr} {ox : Obj} {es : List DictEntry} {n : Nat} {name : Str} {expr : Bool} {v : Value} {Q : Value → Shared → Prop}
    (X : K.In s.heap) (I : PySem.W.InstAt s.heap x ox C (some (dictOf es n))) (hg : plainGet K C name = true) (hh : hasDictIn K C = true) (ha : findIn K (.ref C) name = some none)
    (hl : getL name es = some (some v)) (hv : handedIn v = true) (h : Q v { s with toks := s.toks + 1 }) : wpAny (model prog w) A (getAttr (.ref x) name expr) Q E s :=
  get_value X I (plainGet_of hg).1 (findObj_own hh ha rfl hl) hv h

/-- x.m(..): the method found in the class -/
theorem get_method {x C f : Addr} {ox : Obj} {es : List DictEntry} {n : Nat} {name : Str} {pl : Sem Bool} {Q : Value × List Value → Shared → Prop}
    (X : K.In s.heap) (I : PySem.W.InstAt s.heap x ox C (some (dictOf es n))) (hg : plainGet K C name = true) (hf : findIn K (.ref C) name = some (some (.ref f))) (ht : isFn K (.ref f) = true)
    (hl : getL name es = some none) (h : Q (.ref f, [.ref x]) s) : wpAny (model prog w) A (getMethod (.ref x) name pl) Q E s :=
  method_fn X I (plainGet_of hg).1 (plainGet_of hg).2 hf (beq_iff_eq.mp ht) (by show (lookIn name (dictOf es n)).map _ = _; rw [lookIn_dict, hl]; rfl) h

/-! the whole heap as the ledger: makes every rule that writes through a ledger a rule over any heap -/
def noObjs (h : Heap) : Heap := { h with objs := #[] }
theorem noObjs_get (h : Heap) (b : Addr) : (noObjs h).get? b = none := by
  cases e : (noObjs h).get? b with
  | none => rfl
  | some o => exact absurd (Heap.lt_size e) (Nat.not_lt_zero _)
def ledger (h : Heap) (L d : Addr) : List (Addr × Obj) := (List.range h.objs.size).filterMap fun a => if a = L ∨ a = d then none else (h.get? a).map fun o => (a, o)
theorem mem_ledger {h : Heap} {L d a : Addr} {o : Obj} : (a, o) ∈ ledger h L d ↔ a ≠ L ∧ a ≠ d ∧ h.get? a = some o := by
  unfold ledger
  rw [List.mem_filterMap]
  constructor
  · rintro ⟨b, _, e⟩
    split at e
    · cases e
    · rename_i hb
      obtain ⟨o', ho, e'⟩ := Option.map_eq_some_iff.mp e
      cases e'
      exact ⟨fun q => hb (.inl q), fun q => hb (.inr q), ho⟩
  · rintro ⟨n1, n2, ho⟩
    refine ⟨a, List.mem_range.mpr (Heap.lt_size ho), ?_⟩
    rw [if_neg (show ¬ (a = L ∨ a = d) from fun q => q.elim n1 n2), ho] <;> rfl
theorem news_ledger {h : Heap} {L d : Addr} {od : Obj} (hne : d ≠ L) (ho : h.get? d = some od) : News (noObjs h) L h ([] ++ (d, od) :: ledger h L d) := by
  rintro ⟨a, o⟩ hp
  rcases List.mem_cons.mp hp with e | hp
  · cases e
    exact ⟨ho, hne, noObjs_get _ _⟩
  · obtain ⟨n1, n2, e⟩ := mem_ledger.mp hp
    exact ⟨e, n1, noObjs_get _ _⟩
theorem fr_all {h : Heap} {L : Addr} {m : Str → Option Value} (n : h.Ns L m) : Fr (noObjs h) L h m :=
  ⟨n, fun b o e => (by rw [noObjs_get] at e; cases e), Nat.zero_le _⟩
/-- Upd of the head entry (for append_K, setItem_K ..) -/
theorem upd_ledger {h : Heap} {L d : Addr} {o o' : Obj} : Upd d o o' ((d, o) :: ledger h L d) ((d, o') :: ledger h L d) :=
  .head fun ⟨_, _⟩ hp => (mem_ledger.mp hp).2.1

/-- x.name = v over any heap: L is any namespace of the heap (the frame's, say): its map stays, its object is not told; all else but the dict stays -/
theorem set_field {x C dx L : Addr} {ox : Obj} {m : Str → Option Value} {es es' : List DictEntry} {n n' : Nat} {name : Str} {v : Value} {Q : Unit → Shared → Prop}
    (X : K.In s.heap) (I : PySem.W.InstAt s.heap x ox C (some (dictOf es n))) (hd : ox.dict = some dx) (hL : s.heap.Ns L m) (hne : dx ≠ L)
    (hs : findIn K (.ref C) "__setattr__" = some (some (.builtin "object.__setattr__"))) (hp : plainOver K C = true) (ht : takerIn K C name = some none) (hh : hasDictIn K C = true) (hl : (getL name es).isSome = true)
    (e : (putL name (PyData.keyHash w.params name) (.str name (s.toks + 1)) v es, putN name es n) = (es', n')) (hz : es'.length ≤ 1000)
    (h : ∀ h' : Heap, h'.Ns L m → h'.get? dx = some (dictOf es' n') → (∀ b o, b ≠ dx → b ≠ L → s.heap.get? b = some o → h'.get? b = some o) → Q () { s with heap := h', toks := s.toks + 2 }) :
    wpAny (model prog w) A (setAttr (.ref x) name v) Q E s := by
  obtain ⟨e1, e2⟩ := Prod.mk.inj e
  have hdx : s.heap.get? dx = some (dictOf es n) := by
    have := I.dict
    rw [hd] at this
    exact this
  refine set_plain X I hs (osa_dict (s := { s with toks := s.toks + 1 }) (h₀ := noObjs s.heap) (L := L) (m := m) (od := dictOf es n) (od' := dictOf es' n') (es := es') (n := n') (pre := []) (post := ledger s.heap L dx)
    (fr_all hL) (news_ledger hne hdx) X I hd hp ht hh hl (fun _ q => nomatch q) (fun ⟨_, _⟩ q => (mem_ledger.mp q).2.1) (by rw [putName_dict, e1, e2]) rfl hz fun h' F' N' => ?_)
  exact h h' F'.ns (N'.get (List.Mem.head _)) fun b o n1 n2 ho => N'.get (List.Mem.tail _ (mem_ledger.mpr ⟨n2, n1, ho⟩))
end
end Att

namespace L2
open PySem PySem.Spec PyProof.Rows

theorem vals_ints : ∀ {vs : List Value} {ns : List Int}, IntsAre vs ns → Vals (ns.map V.int) vs
  | _, _, .nil => .nil
  | _, _, .cons n t h => .cons ⟨t, rfl⟩ (vals_ints h)

/-- nothing is tracked but the script, known to the object (or it is an object of the module) -/
def Only (H : Hp) : Prop := ∀ b, H b = none ∨ ∃ o xs, H b = some (.frz o (.lst xs))

/-- THE HEAD: the law's promise, at the heap behind the top. F, the promise of the law's def, may use that base is part of the heap (so K.In base, base.Ns mainGlobals mg stand in Mod) -/
theorem law_call {P : Program} {w : World} {K : PySem.W.Frag} {mg mb : Str → Option Value} {CX : CXT} {k : Nat} {fa a : Addr} {fd : FuncData} {x : Str} {sp : Sp} {s₁ : Shared} {vs : List Value} {ns : List Int}
    (KX : K.In s₁.heap) (hns : s₁.heap.Ns mainGlobals mg) (hb : s₁.heap.Ns builtinsNs mb) (hbb : ∀ x : Str, x ≠ "__name__" → mb x = bootBuiltins x) (hlim : s₁.heap.NoLimit) (hg : s₁.gens = #[])
    (ha : s₁.heap.get? a = some { cls := .type "list", data := .seq vs.toArray }) (hi : IntsAre vs ns) (hl : ns.length ≤ sizeLine) (hr : Room k callerA)
    (F : ∀ base : Heap, K.In base → base.Ns mainGlobals mg → FnOk P w K mg base CX k fa fd [x] sp) (hbind : ∀ (s : Shared) (u : Value), BindsTo s fd ⟨[u], []⟩ [(x, u)])
    (hsp : ∀ H : Hp, Only H → SqL K H a (ns.map V.int) → sp [.ref a] H (fun v _ => v = .bl true) fun _ _ _ => False)
    (hCX : ∀ H e s', CX [] H s₁ (fun _ _ _ => False) e s' → False) :
    codeAny (model P w) callerA (.call (.ref fa) ⟨[.ref a], []⟩) (fun r s' => r = .ok (.ret (.bool true)) ∧ OldK s₁.heap s'.heap ∧ s'.os = s₁.os ∧ AllBare s'.gens) s₁ := by
  have rv := vals_ints hi
  have lenV := hi.length
  -- from an abstract heap in which nothing but the script may be tracked
  have core : ∀ H : Hp, Only H → SqL K H a (ns.map V.int) → HOk P w H s₁.heap → (∀ b, H b ≠ none → b = a) → (H a ≠ none → K.lookup a = none) →
      codeAny (model P w) callerA (.call (.ref fa) ⟨[.ref a], []⟩) (fun r s' => r = .ok (.ret (.bool true)) ∧ OldK s₁.heap s'.heap ∧ s'.os = s₁.os ∧ AllBare s'.gens) s₁ := by
    intro H hO hS hok hA hK
    have base_of : ∀ {b : Addr} {o : Obj}, s₁.heap.get? b = some o → H b = none → (hidT s₁.heap H).get? b = some o := fun e n => hidT_get e n
    have noA : ∀ {b : Addr} {o : Obj} {es : Array DictEntry} {ep : Nat}, s₁.heap.get? b = some o → o.data = .dict es ep → H b = none := fun {b o es ep} e d => by
      cases q : H b with
      | none => rfl
      | some u =>
        have e' : b = a := hA b (by rw [q]; simp)
        subst e'
        rw [ha] at e; cases e
        have d' : Data.seq vs.toArray _ = Data.dict es ep := d
        cases d'
    have nsK : ∀ {b : Addr} {m : Str → Option Value}, s₁.heap.Ns b m → (hidT s₁.heap H).Ns b m := fun {b m} ⟨o, es, ep, e, d, r⟩ => ⟨o, es, ep, base_of e (noA e d), d, r⟩
    have hKb : K.In (hidT s₁.heap H) := fun b o e => base_of (KX b o e) (by
      cases q : H b with
      | none => rfl
      | some u =>
        have e' : b = a := hA b (by rw [q]; simp)
        subst e'
        rw [hK (by rw [q]; simp)] at e; cases e)
    have hM : Mod K mg (hidT s₁.heap H) := ⟨hKb, nsK hns, ⟨mb, nsK hb, hbb⟩, let ⟨mc, h1, h2⟩ := hlim; ⟨mc, nsK h1, h2⟩⟩
    have e0 : Env0 P w K mg (hidT s₁.heap H) callerA [] s₁ H := ⟨rfl, hM, fun b o e => of_hidT e, Nat.le_of_eq (hidT_size _ _), trivial, fun b hb => absurd (show b ∈ ([] : List Addr) from hb) (by simp), hok, .of_eq hg⟩
    refine codeAny_mono ((F _ hKb (nsK hns)).run callerA [] s₁ H ⟨[.ref a], []⟩ [.ref a] [.ref a] _ _ hr e0 (hbind s₁ (.ref a)) (.cons rfl .nil) (hsp H hO hS)) fun r s' h => ?_
    cases r with
    | error e => exact (hCX H e s' h).elim
    | ok fl =>
      cases fl with
      | next => exact False.elim h
      | brk => exact False.elim h
      | cont => exact False.elim h
      | ret u =>
        obtain ⟨v, H', os, bare, un, hok', r', q⟩ := h
        have q' : v = .bl true := q
        subst q'
        obtain rfl : u = Value.bool true := r'
        refine ⟨rfl, OldK.of_keep fun b o e => ?_, os, bare⟩
        cases q : H b with
        | none => exact un.keep b o e q (by intro z; exact absurd (show b ∈ ([] : List Addr) from z) (by simp)) (by simp)
        | some u =>
          rcases hO b with z | ⟨ob, xs, z⟩
          · rw [q] at z; cases z
          · have z2 := un.frzs b ob _ z
            obtain ⟨e1, _⟩ := hok b _ z
            obtain ⟨e2, _⟩ := hok' b _ z2
            rw [e] at e1; cases e1
            exact e2
  cases hk : K.lookup a with
  | some o =>
    -- the script is one of the module's own objects
    have e := KX a o hk
    rw [ha] at e
    cases e
    refine core (fun _ => none) (fun _ => .inl rfl) (.inr ⟨_, vs.toArray, _, hk, rfl, rfl, rfl, by rw [List.size_toArray, lenV]; exact hl, by simpa using rv⟩) (fun b u z => by have z' : (none : Option HO) = some u := z; cases z') (fun b z => absurd rfl z) fun z => absurd rfl z
  | none =>
    refine core (fun b => if b = a then some (.frz { cls := .type "list", data := .seq vs.toArray } (.lst (ns.map V.int))) else none) (fun b => ?_) (.inl (.inr ⟨{ cls := .type "list", data := .seq vs.toArray }, if_pos rfl⟩)) (fun b u z => ?_) (fun b z => ?_) fun _ => hk
    · by_cases hb : b = a
      · exact .inr ⟨_, _, if_pos hb⟩
      · exact .inl (if_neg hb)
    · by_cases hb : b = a
      · have z' := (if_pos hb).symm.trans z
        cases z'
        subst hb
        exact ⟨ha, by rw [List.length_map]; exact hl, vs, _, rv, ha⟩
      · have z' := (if_neg hb).symm.trans z
        cases z'
    · by_cases hb : b = a
      · exact hb
      · exact absurd (if_neg hb) z
end L2

namespace L2
open PySem PySem.Spec PyProof.Rows

abbrev KOf {K : PySem.W.Frag} {h : Heap} (_ : K.In h) : PySem.W.Frag := K

/-- the goal that k_head leaves (case hc), from the law's promise. F gives the function object fd (K's own) once, then the promise over every base -/
theorem walk_of {l : PySem.W.OpenLaw} {n k : Nat} {q : Program} {loose : List Str} {XP : (Str → Option Value) → Heap → Prop} {YP : World → Heap → Prop} {d : DefRec} {K : Params → PySem.W.Frag} {CX : World → CXT} {sp : World → Sp} {x : Str}
    (hn : l.most = some n) (hn2 : n ≤ sizeLine) (hdf : d.params.defaults = []) (hr : Room k callerA)
    (hY : ∀ (w : World) (h : Heap), YP w h → (K w.params).In h)
    (F : ∀ (w : World) (mg : Str → Option Value) (fa : Addr) (h : Heap), (K w.params).In h → h.Ns mainGlobals mg → mg d.name = some (.ref fa) →
      ∃ fd : FuncData, (∀ (s : Shared) (u : Value), BindsTo s fd ⟨[u], []⟩ [(x, u)]) ∧
        ∀ base : Heap, (K w.params).In base → base.Ns mainGlobals mg → FnOk l.prog w (K w.params) mg base (CX w) k fa fd [x] (sp w))
    (hsp : ∀ (w : World) (H : Hp) (a : Addr) (ns : List Int), ns.length ≤ n → Only H → SqL (K w.params) H a (ns.map V.int) → sp w [.ref a] H (fun v _ => v = .bl true) fun _ _ _ => False)
    (hCX : ∀ (w : World) (H : Hp) (s : Shared) (e : Value) (s' : Shared), CX w [] H s (fun _ _ _ => False) e s' → False) :
    PySem.W.WalkO q loose XP YP l.row.toRowW d [] (fun f vs => PySem.call f vs) := by
  refine Att.attach_call hn hdf fun w s₀ s₁ mg mb fa o pm cd doc a vs ns G Y ho hd hcd hmg hobj hints hlen hg => ?_
  have KX := hY w _ Y
  obtain ⟨fd, hb, hF⟩ := F w mg fa _ KX G.T.g hmg
  exact law_call KX G.T.g G.T.b G.T.builtins G.T.nolimit hg hobj hints (Nat.le_trans hlen hn2) hr hF hb (fun H hO hS => hsp w H a ns hlen hO hS) fun H e s' => hCX w H s₁ e s'
/-- the same where the promise hangs on the written part alone: (sp := My.sp_law), no hole under a binder -/
theorem walk_ofK {l : PySem.W.OpenLaw} {n k : Nat} {q : Program} {loose : List Str} {XP : (Str → Option Value) → Heap → Prop} {YP : World → Heap → Prop} {d : DefRec} {K : Params → PySem.W.Frag} {CX : CXT} {sp : PySem.W.Frag → Sp} {x : Str}
    (hn : l.most = some n) (hn2 : n ≤ sizeLine) (hdf : d.params.defaults = []) (hr : Room k callerA)
    (hY : ∀ (w : World) (h : Heap), YP w h → (K w.params).In h)
    (F : ∀ (w : World) (mg : Str → Option Value) (fa : Addr) (h : Heap), (K w.params).In h → h.Ns mainGlobals mg → mg d.name = some (.ref fa) →
      ∃ fd : FuncData, (∀ (s : Shared) (u : Value), BindsTo s fd ⟨[u], []⟩ [(x, u)]) ∧
        ∀ base : Heap, (K w.params).In base → base.Ns mainGlobals mg → FnOk l.prog w (K w.params) mg base CX k fa fd [x] (sp (K w.params)))
    (hsp : ∀ (K : PySem.W.Frag) (H : Hp) (a : Addr) (ns : List Int), ns.length ≤ n → Only H → SqL K H a (ns.map V.int) → sp K [.ref a] H (fun v _ => v = .bl true) fun _ _ _ => False)
    (hCX : ∀ (H : Hp) (s : Shared) (e : Value) (s' : Shared), CX [] H s (fun _ _ _ => False) e s' → False) :
    PySem.W.WalkO q loose XP YP l.row.toRowW d [] (fun f vs => PySem.call f vs) :=
  walk_of (K := K) (CX := fun _ => CX) (sp := fun w => sp (K w.params)) hn hn2 hdf hr hY F (fun w H a ns h1 h2 h3 => hsp (K w.params) H a ns h1 h2 h3) fun _ H s e s' => hCX H s e s'
end L2

/- THE LAST THEOREM (shape; LID, My.* are yours):
   My.Adr: a structure of the addresses that your layer names (classes, functions); My.Txt K t: a structure (Prop) of the equations over K;
   My.txt_mk : {K} {implicit addresses ..} (e1 : nsIn K mainGlobals "law" = some (some (.ref f))) (e2 : K.lookup f = some ⟨oc, od, .func (fnOf "law" "law" params body scope dV kV doc pm an cdv ct), sl⟩) (e3 : codeIn K cdv "law" = true) .. : ∃ t, My.Txt K t

set_option maxRecDepth 100000 in
set_option maxHeartbeats 0 in
theorem PySem.Challenge.cw_LID_holds : PySem.Challenge.rw_LID.Holds := by
  w_on; o_law; k_head; (case hw => w_witness2)
  k_fill
  refine L2.walk_of (l := PySem.Challenge.rw_LID) (n := 63) (k := 40) (x := "script") (CX := fun w => ..) (sp := fun _ => My.sp_law) rfl (by decide) rfl ⟨rfl, by decide, by decide⟩ (fun w h Y => PySem.W.kIn_of Y) ?F ?S ?C
  case F =>
    intro w mg fa h KX G hmg
    have T : ∃ t, My.Txt (L2.KOf KX) t := by
      dsimp only [L2.KOf]                          -- K must stand as «<heap const> w.params» for k_is
      refine' My.txt_mk ?e1 ?e2 ?e3 ..
      (case e1 => PySem.W.k_is)                    -- in the order: a name -> its address -> its object -> its parts
      (case e2 => PySem.W.k_is)
      ..
    obtain ⟨t, T⟩ := T
    have e0 := hmg.symm.trans (PySem.W.mg_of KX G T.law)
    cases e0                                       -- fa is the law's own address
    exact ⟨_, fun s u => .of_eq rfl, fun base kb nb => My.law_fn T kb nb⟩     -- if «.of_eq rfl» comes too early: refine' ⟨_, ?b, fun base kb nb => My.law_fn T kb nb⟩; exact fun s u => .of_eq rfl
  case S => exact fun w H a ns hl hO hS => ..
  case C => exact ..
(the tactic k_is has no namespace: write k_is) -/

/-! SHORT WORDS over the layer: a def of the text, its body, what a loop and a test want. -/
namespace L2
open PySem PySem.Spec PyProof.Rows

/-! ### the text by places -/
/-- the j-th statement of a class's body -/
def inClass (s : Stmt) (j : Nat) : Stmt := match s with
  | .ClassDef _ _ _ body _ _ _ _ _ _ _ => body.getD j (.Pass ⟨0, 0, 0, 0⟩)
  | _ => .Pass ⟨0, 0, 0, 0⟩
def defArgs (s : Stmt) : Arguments := match s with
  | .FunctionDef _ a _ _ _ _ _ _ _ _ => a
  | _ => { posonlyargs := [], args := [], vararg := none, kwonlyargs := [], kw_defaults := [], kwarg := none, defaults := [] }
def defBody (s : Stmt) : List Stmt := match s with
  | .FunctionDef _ _ b _ _ _ _ _ _ _ => b
  | _ => []
def defScope (s : Stmt) : Scope := match s with
  | .FunctionDef _ _ _ _ _ _ sc _ _ _ => sc
  | _ => { kind := .function, names := [], isGenerator := false, isCoroutine := false }

/-! ### no exception leaves a def -/
abbrev CX0 : CXT := fun _ _ _ _ _ _ => False
abbrev E0 : XK := fun _ _ _ => False
theorem pass0 {X : Cx} : Passes CX0 X E0 := fun _ _ _ _ _ _ _ h => h.elim

/-! ### a def (or method) of the text as it stands behind the top -/
structure Fun (K : PySem.W.Frag) (x qual : Str) (st : Stmt) (f : Addr) (fd : FuncData) : Prop where
  ex : ∃ (oc : Value) (od : Option Addr) (kV doc pm : Value) (an : Option Addr) (cdv ct : Value) (osl : Array (Option Value)),
    fd = PySem.W.fnOf x qual (defArgs st) (defBody st) (defScope st) .none kV doc pm an cdv ct ∧ K.lookup f = some ⟨oc, od, .func fd, osl⟩ ∧ PySem.W.codeIn K cdv qual = true
  kp : PySem.W.keepIn K (.ref f) = true
section
variable {P : Program} {w : World} {K : PySem.W.Frag} {mg : Str → Option Value} {base : Heap}
/-- THE RULE for a def: its body as a term of rules, and the reading of that term -/
theorem Fun.ok {x qual : Str} {st : Stmt} {f : Addr} {fd : FuncData} {N ps : List Str} {k : Nat} {sp : Sp} (F : Fun K x qual st f fd) (S : FnScope N ps (defScope st)) (len : ∀ vs H Q E, sp vs H Q E → vs.length = ps.length)
    (hbody : ∀ (cdv : Value) (A : Around) (outer : List Env) (s : Shared) (H : Hp) (vs : List V) (Q : VK) (E : XK), Room k (A.deeper (envOfC qual (defScope st) s.heap.objs.size f cdv)) → sp vs H Q E →
      ∃ t, PSs (cxOf CX0 P w K mg base N qual (defScope st) f cdv A outer s H E).nox (defBody st) t ∧ t { nx := fun _ H' => Q .non H', rt := Q } (start N vs) H) : FnOk P w K mg base CX0 (k + 1) f fd ps sp := by
  obtain ⟨oc, od, kV, doc, pm, an, cdv, ct, osl, rfl, lk, hcd⟩ := F.ex
  refine fn_of lk hcd S len fun A outer s H vs Q E hr hsp => ?_
  obtain ⟨t, h, q⟩ := hbody cdv A outer s H vs Q E hr hsp
  exact ⟨t, h.nox, q⟩
/-- how its arguments bind (no defaults): h is «fun _ _ _ _ _ _ us hl => match us, hl with | [_, _], _ => rfl», one _ a parameter -/
theorem Fun.binds {x qual : Str} {st : Stmt} {f : Addr} {fd : FuncData} {ps : List Str} (F : Fun K x qual st f fd)
    (h : ∀ (kV doc pm : Value) (an : Option Addr) (cdv ct : Value) (us : List Value), us.length = ps.length → bindArgs (PySem.W.fnOf x qual (defArgs st) (defBody st) (defScope st) .none kV doc pm an cdv ct) ⟨us, []⟩ = pure (ps.zip us)) : Binds K fd ps [] := by
  obtain ⟨oc, od, kV, doc, pm, an, cdv, ct, osl, rfl, lk, hcd⟩ := F.ex
  exact .all (h kV doc pm an cdv ct)
theorem fun_mk {x qual : Str} {st : Stmt} {f : Addr} {oc : Value} {od an : Option Addr} {osl : Array (Option Value)} {kV doc pm cdv ct : Value} (l : K.lookup f = some ⟨oc, od, .func (PySem.W.fnOf x qual (defArgs st) (defBody st) (defScope st) .none kV doc pm an cdv ct), osl⟩)
    (c : PySem.W.codeIn K cdv qual = true) (k : PySem.W.keepIn K (.ref f) = true) : Fun K x qual st f (PySem.W.fnOf x qual (defArgs st) (defBody st) (defScope st) .none kV doc pm an cdv ct) := ⟨⟨oc, od, kV, doc, pm, an, cdv, ct, osl, rfl, l, c⟩, k⟩
end
theorem hu_of {A : Around} {k : Nat} (hr : Room k A) : A.units + 1 < cLine := Nat.lt_of_le_of_lt (Nat.add_le_add_left (by decide : 1 ≤ 64) _) hr.units
theorem small1000 {n : Nat} (h : n ≤ 1000) : n < sizeLine := Nat.lt_of_le_of_lt h (by decide)

/-! ### expressions in short: the name that stands in the i-th slot -/
section
variable {X : Cx}
theorem pv (i : Nat) {x : Str} {pos : Pos} (hN : X.N[i]? = some x := by rfl) (hv : Vis X.env.scope x := by first | exact Or.inl rfl | exact Or.inr (Or.inl rfl) | exact Or.inr (Or.inr rfl)) (hd : (x == ("__debug__" : Str)) = false := by decide)
    (hcd : (x == ("__classdict__" : Str)) = false := by decide) : PE X (.Name x pos) (tVar i) := pe_var hN hv hd hcd
end

/-! ### tests -/
theorem iteF {A B : Prop} (h : B) : if false = true then A else B := by
  rw [if_neg Bool.false_ne_true]
  exact h
theorem iteT {A B : Prop} (h : A) : if true = true then A else B := by
  rw [if_pos rfl]
  exact h
theorem ite2 {c A B : Prop} [Decidable c] (h1 : c → A) (h2 : ¬ c → B) : if c then A else B := by
  by_cases h : c
  · rw [if_pos h]
    exact h1 h
  · rw [if_neg h]
    exact h2 h
theorem iteNS {c A B : Prop} [Decidable c] (hc : c) (h : B) : if (!decide c) = true then A else B := by
  rw [decide_eq_true hc]
  exact iteF h

/-! ### heaps -/
/-- all that was tracked is as it was -/
def Same (H H' : Hp) : Prop := ∀ b o, H b = some o → H' b = some o
theorem Same.refl (H : Hp) : Same H H := fun _ _ h => h
theorem Same.trans {H H1 H2 : Hp} (a : Same H H1) (b : Same H1 H2) : Same H H2 := fun c o h => b c o (a c o h)
theorem Same.free {H H' : Hp} (e : Same H H') {l : Addr} (h : H' l = Option.none) : H l = Option.none := by
  cases q : H l with
  | none => rfl
  | some o =>
    rw [e l o q] at h
    cases h
theorem Same.seq {K : PySem.W.Frag} {H H' : Hp} {a : Addr} {xs : List V} (e : Same H H') (h : SqL K H a xs) : SqL K H' a xs := by
  rcases h with (h | ⟨o, h⟩) | h
  · exact .inl (.inl (e _ _ h))
  · exact .inl (.inr ⟨o, e _ _ h⟩)
  · exact .inr h

end L2

namespace DL
open PySem

/-! Pure part: data, results, and what expressions and statements of the text are worth. -/
inductive D where
  | non | bl (b : Bool) | int (i : Int) | str (x : Str) | tup (ds : List D) | fu (x : Str)
inductive Fl where
  | bor | own | view
def Fl.mine : Fl → Bool
  | .bor => false
  | _ => true
/-- a result: a datum, or a list (borrowed: as it stood at the entry; own: made here; view: read only) -/
inductive R where
  | d (x : D) | l (f : Fl) (ds : List D)
abbrev Ev := List (Option R)
inductive O where
  | nx (δ : Ev) | rt (r : R) | bk (δ : Ev) | ct (δ : Ev) | ex
abbrev DEn := Ev → Option R
abbrev DTn := Ev → Option Bool
abbrev DSn := Ev → Option O
abbrev DAn := Ev → Option (List R)
abbrev DIn := Ev → Option (List D)

/-! places -/
def ixP (n : Nat) (i : Int) : Option Nat := if 0 ≤ i then (if i < n then some i.toNat else none) else if -(n : Int) ≤ i then some (i + n).toNat else none
def atP {α : Type} (xs : List α) (i : Int) : Option α := (ixP xs.length i).bind fun j => xs[j]?
def slP (n d : Nat) : Option Int → Nat
  | none => d
  | some v => if v < 0 then (v + (n : Int)).toNat else min v.toNat n
def cutP {α : Type} (xs : List α) (lo hi : Option Int) : List α := (xs.drop (slP xs.length 0 lo)).take (slP xs.length xs.length hi - slP xs.length 0 lo)

/-! expressions -/
def see : R → R
  | .d x => .d x
  | .l .bor ds => .l .bor ds
  | .l _ ds => .l .view ds
def dVar (i : Nat) : DEn := fun δ => match δ[i]? with | some (some r) => some (see r) | _ => none
def dC (x : D) : DEn := fun _ => some (.d x)
def d1 (g : R → Option R) (a : DEn) : DEn := fun δ => (a δ).bind g
def d2 (g : R → R → Option R) (a b : DEn) : DEn := fun δ => (a δ).bind fun x => (b δ).bind fun y => g x y
/-- two ints -/
def gI (g : Int → Int → Option D) : R → R → Option R
  | .d (.int i), .d (.int j) => (g i j).map .d
  | _, _ => none
def kSub (i j : Int) : Option D := some (.int (i - j))
def kMul (i j : Int) : Option D := if (-(2 ^ 64) < i ∧ i < 2 ^ 64) ∨ (-(2 ^ 64) < j ∧ j < 2 ^ 64) then some (.int (i * j)) else none
def kDiv (i j : Int) : Option D := if 0 < j ∧ j < 1073741824 then some (.int (i / j)) else none
def kMod (i j : Int) : Option D := if 0 < j then some (.int (i % j)) else none
def kPow (i j : Int) : Option D := if 0 ≤ j ∧ j ≤ 1000000 ∧ i.natAbs < 2 ^ 64 then some (.int (i ^ j.toNat)) else none
def kLt (i j : Int) : Option D := some (.bl (decide (i < j)))
def kLe (i j : Int) : Option D := some (.bl (decide (i ≤ j)))
def kGt (i j : Int) : Option D := some (.bl (decide (j < i)))
def kGe (i j : Int) : Option D := some (.bl (decide (j ≤ i)))
/-- == of plainD values -/
def eqK : D → D → Option Bool
  | .int i, .int j => some (decide (i = j))
  | .str i, .str j => some (decide (i = j))
  | .bl i, .bl j => some (decide (i = j))
  | .non, .non => some true
  | .non, .int _ => some false | .int _, .non => some false
  | .non, .str _ => some false | .str _, .non => some false
  | .non, .bl _ => some false | .bl _, .non => some false
  | .int _, .str _ => some false | .str _, .int _ => some false
  | .bl _, .str _ => some false | .str _, .bl _ => some false
  | _, _ => none
def gEq : R → R → Option R
  | .d x, .d y => (eqK x y).map fun b => .d (.bl b)
  | _, _ => none
def gNe : R → R → Option R
  | .d x, .d y => (eqK x y).map fun b => .d (.bl (!b))
  | _, _ => none
def isN : R → Bool
  | .d .non => true
  | _ => false
def gIsN (r : R) : Option R := some (.d (.bl (isN r)))
def gNotN (r : R) : Option R := some (.d (.bl (!isN r)))
def gNeg : R → Option R
  | .d (.int i) => some (.d (.int (-i)))
  | _ => none
/-- a chain a op b op c -/
def dCh (g h : R → R → Option R) (a b c : DEn) : DEn := fun δ => (a δ).bind fun x => (b δ).bind fun y => (g x y).bind fun z => match z with
  | .d (.bl true) => (c δ).bind fun w => h y w
  | .d (.bl false) => some (.d (.bl false))
  | _ => none
/-! tests -/
def qB (a : DEn) : DTn := fun δ => match a δ with | some (.d (.bl b)) => some b | _ => none
def qAnd (a b : DTn) : DTn := fun δ => (a δ).bind fun x => if x then b δ else some false
def qOr (a b : DTn) : DTn := fun δ => (a δ).bind fun x => if x then some true else b δ
def qNot (a : DTn) : DTn := fun δ => (a δ).map fun x => !x
/-! and, or, not as values -/
def dAnd (a b : DEn) : DEn := fun δ => match a δ with | some (.d (.bl true)) => b δ | some (.d (.bl false)) => some (.d (.bl false)) | _ => none
def dOr (a b : DEn) : DEn := fun δ => match a δ with | some (.d (.bl true)) => some (.d (.bl true)) | some (.d (.bl false)) => b δ | _ => none
def dNot (a : DEn) : DEn := fun δ => match a δ with | some (.d (.bl x)) => some (.d (.bl (!x))) | _ => none
def dIf (t : DTn) (a b : DEn) : DEn := fun δ => (t δ).bind fun c => if c then a δ else b δ
/-! sequences -/
def gIx : R → R → Option R
  | .d (.tup ds), .d (.int i) => (atP ds i).map .d
  | .l _ ds, .d (.int i) => (atP ds i).map .d
  | _, _ => none
def oI (o : Option DEn) (δ : Ev) : Option (Option Int) := match o with
  | none => some none
  | some a => match a δ with | some (.d (.int i)) => some (some i) | _ => none
def dSl (a : DEn) (lo hi : Option DEn) : DEn := fun δ => (a δ).bind fun x => (oI lo δ).bind fun l => (oI hi δ).bind fun h => match x with
  | .d (.tup ds) => some (.d (.tup (cutP ds l h)))
  | .l _ ds => some (.l .own (cutP ds l h))
  | _ => none
def aNil : DAn := fun _ => some []
def aCons (a : DEn) (r : DAn) : DAn := fun δ => (a δ).bind fun x => (r δ).bind fun xs => some (x :: xs)
def plainD : List R → Option (List D)
  | [] => some []
  | .d x :: r => (plainD r).map (x :: ·)
  | _ :: _ => none
def dTup (a : DAn) : DEn := fun δ => (a δ).bind fun rs => if rs.length ≤ 1000 then (plainD rs).map fun ds => .d (.tup ds) else none
def dLst (a : DAn) : DEn := fun δ => (a δ).bind fun rs => if rs.length ≤ 1000 then (plainD rs).map fun ds => .l .own ds else none
/-- x + y -/
def gAdd : R → R → Option R
  | .d (.int i), .d (.int j) => some (.d (.int (i + j)))
  | .d (.tup []), .d (.tup ys) => some (.d (.tup ys))
  | .d (.tup (x :: xs)), .d (.tup ys) => if xs.length + ys.length ≤ 10000 then some (.d (.tup (x :: xs ++ ys))) else none
  | .l f xs, .l g ys => if f.mine ∧ g.mine ∧ xs.length + ys.length ≤ 10000 then some (.l .own (xs ++ ys)) else none
  | _, _ => none
/-! calls -/
def R.arg : R → R
  | .d x => .d x
  | .l _ ds => .l .bor ds
abbrev Fn := List R → Option R
def dCall (F : Fn) (a : DAn) : DEn := fun δ => (a δ).bind fun rs => F (rs.map R.arg)
def gLen : List R → Option R
  | [.d (.tup ds)] => some (.d (.int ds.length))
  | [.l _ ds] => some (.d (.int ds.length))
  | _ => none
def gTuple : List R → Option R
  | [.d (.tup ds)] => some (.d (.tup ds))
  | [.l _ ds] => some (.d (.tup ds))
  | _ => none
def gList : List R → Option R
  | [.d (.tup ds)] => some (.l .own ds)
  | [.l _ ds] => some (.l .own ds)
  | _ => none
def gMax : List R → Option R
  | [.d (.int i), .d (.int j)] => some (.d (.int (if j > i then j else i)))
  | _ => none
def gMin : List R → Option R
  | [.d (.int i), .d (.int j)] => some (.d (.int (if j < i then j else i)))
  | _ => none
inductive Ty where
  | int | bool | tuple | str
def isT : Ty → D → Bool
  | .int, .int _ => true | .int, .bl _ => true
  | .bool, .bl _ => true
  | .tuple, .tup _ => true
  | .str, .str _ => true
  | _, _ => false
def gIs (T : Ty) : R → Option R
  | .d (.fu _) => none
  | .d x => some (.d (.bl (isT T x)))
  | _ => none
def bools : List D → Option (List Bool)
  | [] => some []
  | .bl b :: r => (bools r).map (b :: ·)
  | _ :: _ => none
def gAll : R → Option R
  | .l _ ds => (bools ds).map fun bs => .d (.bl (bs.all id))
  | _ => none
def dB (g : List R → Option R) (a : DAn) : DEn := fun δ => (a δ).bind g
/-! what is walked -/
def iTo (a : DEn) : DIn := fun δ => match a δ with
  | some (.d (.int n)) => if -1000000 ≤ n ∧ n ≤ 1000000 then some ((List.range n.toNat).map fun (k : Nat) => D.int (k : Int)) else none
  | _ => none
def iFrom (a b : DEn) : DIn := fun δ => match a δ, b δ with
  | some (.d (.int m)), some (.d (.int n)) => if -1000000 ≤ m ∧ m ≤ 1000000 ∧ n ≤ 1000000 ∧ -1000000 ≤ n then some ((List.range (n - m).toNat).map fun (k : Nat) => D.int (m + (k : Int))) else none
  | _, _ => none
/-- a tuple, or any list (in a comprehension); a tuple, or a list that the loop's body can't write -/
def iAny (a : DEn) : DIn := fun δ => match a δ with
  | some (.d (.tup ds)) => some ds
  | some (.l _ ds) => some ds
  | _ => none
def iSeq (a : DEn) : DIn := fun δ => match a δ with
  | some (.d (.tup ds)) => some ds
  | some (.l .bor ds) => some ds
  | _ => none
def iRev (a : DEn) : DIn := fun δ => match a δ with
  | some (.d (.tup ds)) => some ds.reverse
  | _ => none
/-- a comprehension: the loop's name first, then the captured ones -/
def cpGo (t : DTn) (e : DEn) (caps : Ev) : List D → Option (List D)
  | [] => some []
  | x :: r => (t (some (.d x) :: caps)).bind fun b => if b then (match e (some (.d x) :: caps) with | some (.d y) => (cpGo t e caps r).map (y :: ·) | _ => none) else cpGo t e caps r
def capsOf (cs : List Nat) (δ : Ev) : Ev := cs.map fun i => (δ[i]?.join).map R.arg
def qYes : DTn := fun _ => some true
def dComp (cs : List Nat) (it : DIn) (t : DTn) (e : DEn) : DEn := fun δ => (it δ).bind fun ds => if ds.length ≤ 10000 then (cpGo t e (capsOf cs δ) ds).map fun ys => .l .own ys else none
/-! statements -/
def keepR : R → Option R
  | .l .view _ => none
  | r => some r
def sSet (i : Nat) (e : DEn) : DSn := fun δ => (e δ).bind fun r => (keepR r).map fun r => .nx (δ.set i (some r))
def retR : R → Option R
  | .d x => some (.d x)
  | .l .own ds => some (.l .own ds)
  | _ => none
def sRet (e : DEn) : DSn := fun δ => (e δ).bind fun r => (retR r).map .rt
/-- return x, x a list made here -/
def sRetV (i : Nat) : DSn := fun δ => match δ[i]? with | some (some r) => (retR r).map .rt | _ => none
def sRetN : DSn := fun _ => some (.rt (.d .non))
def sNx : DSn := fun δ => some (.nx δ)
def sBrk : DSn := fun δ => some (.bk δ)
def sCont : DSn := fun δ => some (.ct δ)
def sSeq (a b : DSn) : DSn := fun δ => (a δ).bind fun o => match o with
  | .nx δ' => b δ'
  | o => some o
def sIf (t : DTn) (a b : DSn) : DSn := fun δ => (t δ).bind fun c => if c then a δ else b δ
def sEx (e : DEn) : DSn := fun δ => (e δ).map fun _ => .nx δ
def sApp (i : Nat) (e : DEn) : DSn := fun δ => (e δ).bind fun r => match r, δ[i]? with
  | .d x, some (some (.l .own ds)) => if ds.length < 10000 then some (.nx (δ.set i (some (.l .own (ds ++ [x]))))) else none
  | _, _ => none
def sPut (i : Nat) (k e : DEn) : DSn := fun δ => (e δ).bind fun r => (k δ).bind fun q => match r, q, δ[i]? with
  | .d x, .d (.int n), some (some (.l .own ds)) => (ixP ds.length n).map fun j => .nx (δ.set i (some (.l .own (ds.set j x))))
  | _, _, _ => none
def foGo (i : Nat) (b : DSn) : List D → Ev → Option O
  | [], δ => some (.nx δ)
  | x :: r, δ => (b (δ.set i (some (.d x)))).bind fun o => match o with
    | .nx δ' => foGo i b r δ'
    | .ct δ' => foGo i b r δ'
    | .bk δ' => some (.nx δ')
    | .rt q => some (.rt q)
    | .ex => some .ex
def sFor (i : Nat) (it : DIn) (b : DSn) : DSn := fun δ => (it δ).bind fun ds => foGo i b ds δ
/-- for x in xs, xs a name: a list of one's own is only read from here on -/
def lend : R → R
  | .l .own ds => .l .bor ds
  | r => r
def sForV (i j : Nat) (b : DSn) : DSn := fun δ => match δ[j]? with
  | some (some (.d (.tup ds))) => foGo i b ds δ
  | some (some (.l .bor ds)) => foGo i b ds δ
  | some (some (.l .own ds)) => foGo i b ds (δ.set j (some (.l .bor ds)))
  | _ => none
def whGo (t : DTn) (b : DSn) : Nat → Ev → Option O
  | 0, _ => none
  | n + 1, δ => (t δ).bind fun c => if c then (b δ).bind fun o => match o with
      | .nx δ' => whGo t b n δ'
      | .ct δ' => whGo t b n δ'
      | .bk δ' => some (.nx δ')
      | .rt q => some (.rt q)
      | .ex => some .ex
    else some (.nx δ)
open Classical in
noncomputable def sWh (t : DTn) (b : DSn) : DSn := fun δ => if h : ∃ n o, whGo t b n δ = some o then some h.choose_spec.choose else none
theorem whGo_mono (t : DTn) (b : DSn) : ∀ (n m : Nat) (δ : Ev) (o : O), n ≤ m → whGo t b n δ = some o → whGo t b m δ = some o
  | 0, _, _, _, _, h => by simp [whGo] at h
  | n + 1, 0, _, _, hm, _ => by omega
  | n + 1, m + 1, δ, o, hm, h => by
    unfold whGo at h ⊢
    cases ht : t δ with
    | none => simp [ht] at h
    | some c =>
      rw [ht] at h
      simp only [Option.bind_some] at h ⊢
      cases c with
      | false => simpa using h
      | true =>
        simp only [if_true] at h ⊢
        cases hb : b δ with
        | none => simp [hb] at h
        | some p =>
          rw [hb] at h
          simp only [Option.bind_some] at h ⊢
          cases p with
          | nx δ' => exact whGo_mono t b n m δ' o (by omega) h
          | ct δ' => exact whGo_mono t b n m δ' o (by omega) h
          | bk δ' => exact h
          | rt q => exact h
          | ex => exact h
theorem sWh_of {t : DTn} {b : DSn} {n : Nat} {δ : Ev} {o : O} (h : whGo t b n δ = some o) : sWh t b δ = some o := by
  have hx : ∃ n o, whGo t b n δ = some o := ⟨n, o, h⟩
  unfold sWh
  rw [dif_pos hx]
  have q := hx.choose_spec.choose_spec
  have a := whGo_mono t b n (max n hx.choose) δ o (Nat.le_max_left ..) h
  have c := whGo_mono t b hx.choose (max n hx.choose) δ _ (Nat.le_max_right ..) q
  rw [a] at c
  exact c.symm ▸ rfl
theorem of_sWh {t : DTn} {b : DSn} {δ : Ev} {o : O} (h : sWh t b δ = some o) : ∃ n, whGo t b n δ = some o := by
  unfold sWh at h
  split at h
  · rename_i hx
    refine ⟨hx.choose, ?_⟩
    have q := hx.choose_spec.choose_spec
    rw [q, ← h]
  · cases h
theorem sWh_out {t : DTn} {b : DSn} {δ : Ev} (h : t δ = some false) : sWh t b δ = some (.nx δ) := sWh_of (n := 1) (by simp [whGo, h])
theorem sWh_turn {t : DTn} {b : DSn} {δ δ' : Ev} {o : O} (h : t δ = some true) (hb : b δ = some (.nx δ')) (hr : sWh t b δ' = some o) : sWh t b δ = some o := by
  obtain ⟨n, q⟩ := of_sWh hr
  exact sWh_of (n := n + 1) (by simp [whGo, h, hb, q])
theorem sWh_brk {t : DTn} {b : DSn} {δ δ' : Ev} (h : t δ = some true) (hb : b δ = some (.bk δ')) : sWh t b δ = some (.nx δ') := sWh_of (n := 1) (by simp [whGo, h, hb])
theorem sWh_ret {t : DTn} {b : DSn} {δ : Ev} {r : R} (h : t δ = some true) (hb : b δ = some (.rt r)) : sWh t b δ = some (.rt r) := sWh_of (n := 1) (by simp [whGo, h, hb])
/-! refusals: raise X(..), a call that may refuse, a call whose refusal is caught -/
abbrev Fx := List R → Option (Option R)
def sRaise : DSn := fun _ => some .ex
def sExX (F : Fx) (a : DAn) : DSn := fun δ => (a δ).bind fun rs => (F (rs.map R.arg)).map fun o => match o with
  | some _ => .nx δ
  | none => .ex
/-- try: F(..) except .. as e: x = True -/
def sTry (i : Nat) (F : Fx) (a : DAn) : DSn := fun δ => (a δ).bind fun rs => (F (rs.map R.arg)).map fun o => match o with
  | some _ => .nx δ
  | none => .nx (δ.set i (some (.d (.bl true))))
def dCallX (F : Fx) (a : DAn) : DEn := fun δ => (a δ).bind fun rs => (F (rs.map R.arg)).bind fun o => o
def fnX (n N : Nat) (body : DSn) : Fx := fun rs => if rs.length = n then (body (rs.map some ++ List.replicate (N - n) none)).bind fun o => match o with
    | .rt r => some (some r)
    | .nx _ => some (some (.d .non))
    | .ex => some none
    | _ => none
  else none
/-- a def: n parameters, N names -/
def fn (n N : Nat) (body : DSn) : Fn := fun rs => if rs.length = n then (body (rs.map some ++ List.replicate (N - n) none)).bind fun o => match o with
    | .rt r => some r
    | .nx _ => some (.d .non)
    | _ => none
  else none
end DL
namespace DL
open PySem
def gAllL : List R → Option R
  | [r] => gAll r
  | _ => none
/-- x is None, x is not None -/
def g2N (g : R → Option R) : R → R → Option R := fun x y => match y with | .d .non => g x | _ => none
/-! second edition: more operations -/
def kMulB (i j : Int) : Option D := if i.natAbs.log2 < 4000 ∧ j.natAbs.log2 < 4000 then some (.int (i * j)) else none
def kDivB (i j : Int) : Option D := if 0 < j ∧ j.natAbs.log2 < 9000 then some (.int (i / j)) else none
/-- x.extend(e) -/
def sExt (i : Nat) (e : DEn) : DSn := fun δ => (e δ).bind fun r => match r, δ[i]? with
  | .l f es, some (some (.l .own ds)) => if f.mine = true ∧ ds.length + es.length ≤ 10000 then some (.nx (δ.set i (some (.l .own (ds ++ es))))) else none
  | _, _ => none
/-- isinstance(x, list) -/
def gIsL : R → Option R
  | .l _ _ => some (.d (.bl true))
  | _ => none
def intsD : List D → Option (List Int)
  | [] => some []
  | .int i :: r => (intsD r).map (i :: ·)
  | _ :: _ => none
def gIn : R → R → Option R
  | .d (.int i), .l _ ds => (intsD ds).map fun ns => .d (.bl (ns.contains i))
  | .d (.int i), .d (.tup ds) => (intsD ds).map fun ns => .d (.bl (ns.contains i))
  | _, _ => none
def gNotIn : R → R → Option R
  | .d (.int i), .l _ ds => (intsD ds).map fun ns => .d (.bl (!ns.contains i))
  | .d (.int i), .d (.tup ds) => (intsD ds).map fun ns => .d (.bl (!ns.contains i))
  | _, _ => none
def gInt : List R → Option R
  | [.d (.int i)] => some (.d (.int i))
  | [.d (.bl b)] => some (.d (.int (if b then 1 else 0)))
  | _ => none
def gSum : List R → Option R
  | [.l _ ds] => (intsD ds).map fun ns => .d (.int ns.sum)
  | _ => none
/-- xs.index(i) -/
def gIdx : R → R → Option R
  | .l _ ds, .d (.int i) => (intsD ds).bind fun ns => if i ∈ ns then some (.d (.int (ns.idxOf i : Nat))) else none
  | _, _ => none
/-- a def as a value, and its call by a name of one's own -/
def dFu (x : Str) : DEn := dC (.fu x)
def dCallV (i : Nat) (x : Str) (F : Fn) (a : DAn) : DEn := fun δ => match δ[i]? with
  | some (some (.d (.fu y))) => if y = x then dCall F a δ else none
  | _ => none
/-- one of two ways to see it -/
def dElse (a b : DEn) : DEn := fun δ => match a δ with | some r => some r | none => b δ
/-- for x in reversed(y), y a name of a list -/
def sForRV (i j : Nat) (b : DSn) : DSn := fun δ => match δ[j]? with
  | some (some (.l .bor ds)) => foGo i b ds.reverse δ
  | some (some (.l .own ds)) => foGo i b ds.reverse (δ.set j (some (.l .bor ds)))
  | _ => none
/-- for x in e, e a new list -/
def sForF (i : Nat) (e : DEn) (b : DSn) : DSn := fun δ => match e δ with
  | some (.l .own ds) => foGo i b ds δ
  | _ => none
/-! == of equal data, at any depth up to six -/
def shal : Nat → D → Bool
  | _, .int _ => true
  | _, .non => true
  | _, .str _ => true
  | _, .bl _ => true
  | _, .fu _ => false
  | 0, .tup _ => false
  | n + 1, .tup ds => ds.all (shal n)
open Classical in
noncomputable def eqD (x y : D) : Option Bool := match eqK x y with
  | some b => some b
  | none => if x = y ∧ shal 6 x = true then some true else none
open Classical in
noncomputable def gEqD : R → R → Option R
  | .d x, .d y => (eqD x y).map fun b => .d (.bl b)
  | .l _ xs, .l _ ys => if xs = ys ∧ xs.all (shal 6) = true then some (.d (.bl true)) else none
  | _, _ => none
open Classical in
noncomputable def gNeD : R → R → Option R
  | .l _ xs, .l _ ys => if xs = ys ∧ xs.all (shal 6) = true then some (.d (.bl false)) else none
  | _, _ => none
/-! facts for the reckoning -/
theorem atP_nat {α : Type} (xs : List α) (k : Nat) : atP xs (k : Int) = xs[k]? := by
  unfold atP ixP
  rw [if_pos (by omega)]
  by_cases h : k < xs.length
  · rw [if_pos (by omega)]; simp
  · rw [if_neg (by omega)]; simp; omega
theorem atP_int {α : Type} (xs : List α) (k : Int) (h : 0 ≤ k) : atP xs k = xs[k.toNat]? := by
  have := atP_nat xs k.toNat
  rwa [Int.toNat_of_nonneg h] at this
theorem atP_last {α : Type} (xs : List α) : atP xs (-1) = xs[xs.length - 1]? := by
  unfold atP ixP
  rw [if_neg (by omega)]
  by_cases h : xs = []
  · subst h; simp
  · have : 0 < xs.length := List.length_pos_iff.mpr h
    rw [if_pos (by omega)]
    simp
    congr 1
    omega
theorem at0 {α : Type} (a : α) (l : List α) : atP (a :: l) 0 = some a := atP_nat (a :: l) 0
theorem at1 {α : Type} (a b : α) (l : List α) : atP (a :: b :: l) 1 = some b := atP_nat (a :: b :: l) 1
theorem at2 {α : Type} (a b c : α) (l : List α) : atP (a :: b :: c :: l) 2 = some c := atP_nat (a :: b :: c :: l) 2
theorem at3 {α : Type} (a b c d : α) (l : List α) : atP (a :: b :: c :: d :: l) 3 = some d := atP_nat (a :: b :: c :: d :: l) 3
theorem ixP_nat (n k : Nat) (h : k < n) : ixP n (k : Int) = some k := by
  unfold ixP
  rw [if_pos (by omega), if_pos (by omega)]; simp
theorem ixP_int (n : Nat) (k : Int) (h : 0 ≤ k) (h2 : k < n) : ixP n k = some k.toNat := by
  unfold ixP
  rw [if_pos h, if_pos h2]
theorem cutP_from {α : Type} (xs : List α) (k : Nat) : cutP xs (some (k : Int)) none = xs.drop k := by
  unfold cutP slP
  dsimp only
  rw [if_neg (by omega)]
  simp only [Int.toNat_natCast]
  by_cases h : k ≤ xs.length
  · rw [Nat.min_eq_left h, List.take_of_length_le (by simp)]
  · rw [Nat.min_eq_right (by omega)]; simp; omega
theorem cutP_to {α : Type} (xs : List α) (k : Nat) : cutP xs none (some (k : Int)) = xs.take k := by
  unfold cutP slP
  dsimp only
  rw [if_neg (by omega)]
  simp only [Int.toNat_natCast, List.drop_zero, Nat.sub_zero]
  by_cases h : k ≤ xs.length
  · rw [Nat.min_eq_left h]
  · rw [Nat.min_eq_right (by omega), List.take_of_length_le (by omega), List.take_of_length_le (by omega)]
theorem cutP_init {α : Type} (xs : List α) : cutP xs none (some (-1)) = xs.dropLast := by
  unfold cutP slP
  dsimp only
  rw [if_pos (by omega)]
  simp only [List.drop_zero, Nat.sub_zero, List.dropLast_eq_take]
  congr 1
  omega
end DL

namespace DL
open PySem PySem.Spec PyProof.Rows L2
abbrev St := L2.St

/-! How data stand in the abstract heap. -/
mutual
def Has (K : PySem.W.Frag) (H : Hp) : D → V → Prop
  | .non, v => v = V.non
  | .bl b, v => v = V.bl b
  | .int i, v => v = V.int i
  | .str x, v => v = V.str x
  | .tup ds, v => ∃ a xs, v = V.ref a ∧ SqT K H a xs ∧ HasL K H ds xs
  | .fu x, v => ∃ a, v = V.ref a ∧ PySem.W.nsIn K mainGlobals x = some (some (.ref a))
def HasL (K : PySem.W.Frag) (H : Hp) : List D → List V → Prop
  | [], xs => xs = []
  | d :: ds, xs => ∃ x r, xs = x :: r ∧ Has K H d x ∧ HasL K H ds r
end
/-- the tuples stay -/
def TK (K : PySem.W.Frag) (H H' : Hp) : Prop := ∀ a xs, SqT K H a xs → SqT K H' a xs
theorem Same.tk {K : PySem.W.Frag} {H H' : Hp} (g : Same H H') : TK K H H' := by
  intro a xs h
  rcases h with (h | ⟨o, h⟩) | h
  · exact .inl (.inl (g _ _ h))
  · exact .inl (.inr ⟨o, g _ _ h⟩)
  · exact .inr h
theorem tk_upd {K : PySem.W.Frag} {H : Hp} {a : Addr} {xs ys : List V} (h : H a = some (.lst xs)) : TK K H (upd H a (.lst ys)) := by
  intro b zs q
  have ne : ∀ u, H b = some u → (∀ ws, u ≠ .lst ws) → b ≠ a := fun u e n z => by
    subst z
    rw [h] at e
    cases e
    exact n _ rfl
  rcases q with (q | ⟨o, q⟩) | q
  · exact .inl (.inl (by rw [upd_ne (ne _ q (by intro ws z; cases z))]; exact q))
  · exact .inl (.inr ⟨o, by rw [upd_ne (ne _ q (by intro ws z; cases z))]; exact q⟩)
  · exact .inr q
mutual
theorem Has.mono {K : PySem.W.Frag} {H H' : Hp} (g : TK K H H') : ∀ (d : D) (v : V), Has K H d v → Has K H' d v
  | .non, v, h => by simpa only [Has] using h
  | .bl b, v, h => by simpa only [Has] using h
  | .int i, v, h => by simpa only [Has] using h
  | .str x, v, h => by simpa only [Has] using h
  | .fu x, v, h => by simpa only [Has] using h
  | .tup ds, v, h => by
    simp only [Has] at h ⊢
    obtain ⟨a, xs, e, s, l⟩ := h
    exact ⟨a, xs, e, g a xs s, HasL.mono g ds xs l⟩
theorem HasL.mono {K : PySem.W.Frag} {H H' : Hp} (g : TK K H H') : ∀ (ds : List D) (xs : List V), HasL K H ds xs → HasL K H' ds xs
  | [], xs, h => by simpa only [HasL] using h
  | d :: ds, xs, h => by
    simp only [HasL] at h ⊢
    obtain ⟨x, r, e, h1, h2⟩ := h
    exact ⟨x, r, e, Has.mono g d x h1, HasL.mono g ds r h2⟩
end
section
variable {K : PySem.W.Frag} {H H' : Hp}
theorem Has.grow (g : Same H H') {d : D} {v : V} (h : Has K H d v) : Has K H' d v := Has.mono (Same.tk g) d v h
theorem HasL.grow (g : Same H H') {ds : List D} {xs : List V} (h : HasL K H ds xs) : HasL K H' ds xs := HasL.mono (Same.tk g) ds xs h
theorem HasL.nil : HasL K H [] [] := by simp only [HasL]
theorem HasL.cons {d : D} {x : V} {ds : List D} {xs : List V} (h : Has K H d x) (t : HasL K H ds xs) : HasL K H (d :: ds) (x :: xs) := by
  simp only [HasL]
  exact ⟨x, xs, rfl, h, t⟩
theorem HasL.inv : ∀ {ds : List D} {xs : List V}, HasL K H ds xs → (ds = [] ∧ xs = []) ∨ ∃ d r x q, ds = d :: r ∧ xs = x :: q ∧ Has K H d x ∧ HasL K H r q
  | [], xs, h => by simp only [HasL] at h; exact .inl ⟨rfl, h⟩
  | d :: r, xs, h => by
    simp only [HasL] at h
    obtain ⟨x, q, e, h1, h2⟩ := h
    exact .inr ⟨d, r, x, q, rfl, e, h1, h2⟩
theorem HasL.len : ∀ {ds : List D} {xs : List V}, HasL K H ds xs → ds.length = xs.length
  | [], xs, h => by simp only [HasL] at h; subst h; rfl
  | d :: r, xs, h => by
    simp only [HasL] at h
    obtain ⟨x, q, e, h1, h2⟩ := h
    subst e
    simp [HasL.len h2]
theorem HasL.get : ∀ {ds : List D} {xs : List V} {i : Nat} {d : D}, HasL K H ds xs → ds[i]? = some d → ∃ x, xs[i]? = some x ∧ Has K H d x
  | [], _, _, _, _, e => by simp at e
  | d :: r, xs, i, d', h, e => by
    simp only [HasL] at h
    obtain ⟨x, q, e', h1, h2⟩ := h
    subst e'
    cases i with
    | zero => simp at e; subst e; exact ⟨x, rfl, h1⟩
    | succ i =>
      simp at e
      obtain ⟨y, e1, e2⟩ := HasL.get h2 e
      exact ⟨y, by simpa using e1, e2⟩
theorem HasL.get' {ds : List D} {xs : List V} {i : Nat} {x : V} (h : HasL K H ds xs) (e : xs[i]? = some x) : ∃ d, ds[i]? = some d ∧ Has K H d x := by
  have hi : i < ds.length := by rw [h.len]; exact (List.getElem?_eq_some_iff.mp e).1
  obtain ⟨y, e1, e2⟩ := h.get (List.getElem?_eq_getElem hi)
  rw [e] at e1; cases e1
  exact ⟨_, List.getElem?_eq_getElem hi, e2⟩
theorem HasL.app : ∀ {ds es : List D} {xs ys : List V}, HasL K H ds xs → HasL K H es ys → HasL K H (ds ++ es) (xs ++ ys)
  | [], es, xs, ys, h, t => by simp only [HasL] at h; subst h; exact t
  | d :: r, es, xs, ys, h, t => by
    simp only [HasL] at h
    obtain ⟨x, q, e', h1, h2⟩ := h
    subst e'
    exact HasL.cons h1 (HasL.app h2 t)
theorem HasL.set {d : D} {x : V} (hx : Has K H d x) : ∀ {ds : List D} {xs : List V} (i : Nat), HasL K H ds xs → HasL K H (ds.set i d) (xs.set i x)
  | [], xs, i, h => by simp only [HasL] at h; subst h; exact HasL.nil
  | d' :: r, xs, i, h => by
    simp only [HasL] at h
    obtain ⟨y, q, e', h1, h2⟩ := h
    subst e'
    cases i with
    | zero => exact HasL.cons hx h2
    | succ i => exact HasL.cons h1 (HasL.set hx i h2)
theorem HasL.drop : ∀ {ds : List D} {xs : List V} (n : Nat), HasL K H ds xs → HasL K H (ds.drop n) (xs.drop n)
  | ds, xs, 0, h => h
  | [], xs, n + 1, h => by simp only [HasL] at h; subst h; exact HasL.nil
  | d :: r, xs, n + 1, h => by
    simp only [HasL] at h
    obtain ⟨y, q, e', h1, h2⟩ := h
    subst e'
    exact HasL.drop n h2
theorem HasL.take : ∀ {ds : List D} {xs : List V} (n : Nat), HasL K H ds xs → HasL K H (ds.take n) (xs.take n)
  | ds, xs, 0, h => HasL.nil
  | [], xs, n + 1, h => by simp only [HasL] at h; subst h; exact HasL.nil
  | d :: r, xs, n + 1, h => by
    simp only [HasL] at h
    obtain ⟨y, q, e', h1, h2⟩ := h
    subst e'
    exact HasL.cons h1 (HasL.take n h2)
theorem HasL.rev : ∀ {ds : List D} {xs : List V}, HasL K H ds xs → HasL K H ds.reverse xs.reverse
  | [], xs, h => by simp only [HasL] at h; subst h; exact HasL.nil
  | d :: r, xs, h => by
    simp only [HasL] at h
    obtain ⟨y, q, e', h1, h2⟩ := h
    subst e'
    rw [List.reverse_cons, List.reverse_cons]
    exact HasL.app (HasL.rev h2) (HasL.cons h1 HasL.nil)
theorem HasL.ints : ∀ (ns : List Int), HasL K H (ns.map D.int) (ns.map V.int)
  | [] => HasL.nil
  | n :: r => HasL.cons (by simp only [Has]) (HasL.ints r)
theorem HasL.cut {ds : List D} {xs : List V} {lo hi : Option Int} (h : HasL K H ds xs) : HasL K H (cutP ds lo hi) (cutV xs lo hi) := by
  have e : cutP ds lo hi = (ds.drop (HT.sIx xs.length 0 lo)).take (HT.sIx xs.length xs.length hi - HT.sIx xs.length 0 lo) := by
    unfold cutP
    rw [h.len]
    have q : ∀ d o, slP xs.length d o = HT.sIx xs.length d o := by intro d o; cases o <;> rfl
    rw [q, q]
  rw [e]
  exact (h.drop _).take _
theorem HasL.at {ds : List D} {xs : List V} {i : Int} {d : D} (h : HasL K H ds xs) (e : atP ds i = some d) : ∃ x, atI xs i = some x ∧ Has K H d x := by
  have q : ixP ds.length i = ixN xs.length i := by rw [h.len]; rfl
  unfold atP at e
  unfold atI
  rw [q] at e
  cases hj : ixN xs.length i with
  | none => rw [hj] at e; cases e
  | some j =>
    rw [hj] at e
    exact h.get e
end

/-! results -/
def IsR (K : PySem.W.Frag) (B H H' : Hp) : R → V → Prop
  | .d x, v => Has K H' x v
  | .l .own ds, v => ∃ a xs, v = V.ref a ∧ H a = none ∧ H' a = some (.lst xs) ∧ HasL K H' ds xs
  | .l .view ds, v => ∃ a xs, v = V.ref a ∧ H' a = some (.lst xs) ∧ HasL K H' ds xs
  | .l .bor ds, v => ∃ a xs, v = V.ref a ∧ SqL K B a xs ∧ HasL K B ds xs
/-- .. as they are read -/
def VwR (K : PySem.W.Frag) (H : Hp) : R → V → Prop
  | .d x, v => Has K H x v
  | .l .bor ds, v => ∃ a xs, v = V.ref a ∧ SqL K H a xs ∧ HasL K H ds xs
  | .l _ ds, v => ∃ a xs, v = V.ref a ∧ H a = some (.lst xs) ∧ HasL K H ds xs
/-- what an operation gives -/
def Out (K : PySem.W.Frag) (H H' : Hp) : R → V → Prop
  | .d x, v => Has K H' x v
  | .l .own ds, v => ∃ a xs, v = V.ref a ∧ H a = none ∧ H' a = some (.lst xs) ∧ HasL K H' ds xs
  | .l _ _, _ => False
section
variable {K : PySem.W.Frag} {B H H' H1 H2 : Hp} {r : R} {v : V}
theorem Out.is (g : Same H H1) (h : Out K H1 H2 r v) : IsR K B H H2 r v := by
  cases r with
  | d x => exact h
  | l f ds =>
    cases f with
    | own =>
      obtain ⟨a, xs, e, n, q⟩ := h
      exact ⟨a, xs, e, g.free n, q⟩
    | bor => exact False.elim h
    | view => exact False.elim h
theorem IsR.grow (g : Same H1 H2) (h : IsR K B H H1 r v) : IsR K B H H2 r v := by
  cases r with
  | d x => exact Has.grow g h
  | l f ds =>
    cases f with
    | own =>
      obtain ⟨a, xs, e, n, q, t⟩ := h
      exact ⟨a, xs, e, n, g _ _ q, t.grow g⟩
    | bor => exact h
    | view =>
      obtain ⟨a, xs, e, q, t⟩ := h
      exact ⟨a, xs, e, g _ _ q, t.grow g⟩
theorem IsR.early (g : Same H H1) (h : IsR K B H1 H2 r v) : IsR K B H H2 r v := by
  cases r with
  | d x => exact h
  | l f ds =>
    cases f with
    | own =>
      obtain ⟨a, xs, e, n, q⟩ := h
      exact ⟨a, xs, e, g.free n, q⟩
    | bor => exact h
    | view => exact h
theorem IsR.vw (g : Same B H') (h : IsR K B H H' r v) : VwR K H' r v := by
  cases r with
  | d x => exact h
  | l f ds =>
    cases f with
    | own =>
      obtain ⟨a, xs, e, n, q⟩ := h
      exact ⟨a, xs, e, q⟩
    | bor =>
      obtain ⟨a, xs, e, q, t⟩ := h
      exact ⟨a, xs, e, g.seq q, t.grow g⟩
    | view => exact h
theorem VwR.sq {f : Fl} {ds : List D} (h : VwR K H (.l f ds) v) : ∃ a xs, v = V.ref a ∧ SqL K H a xs ∧ HasL K H ds xs := by
  cases f with
  | own => obtain ⟨a, xs, e, q, t⟩ := h; exact ⟨a, xs, e, SqL.of q, t⟩
  | bor => exact h
  | view => obtain ⟨a, xs, e, q, t⟩ := h; exact ⟨a, xs, e, SqL.of q, t⟩
theorem VwR.trk {f : Fl} {ds : List D} (m : f.mine = true) (h : VwR K H (.l f ds) v) : ∃ a xs, v = V.ref a ∧ H a = some (.lst xs) ∧ HasL K H ds xs := by
  cases f with
  | own => exact h
  | bor => cases m
  | view => exact h
theorem VwR.grow (g : Same H H') (h : VwR K H r v) : VwR K H' r v := by
  cases r with
  | d x => exact Has.grow g h
  | l f ds =>
    cases f with
    | own => obtain ⟨a, xs, e, q, t⟩ := h; exact ⟨a, xs, e, g _ _ q, t.grow g⟩
    | bor => obtain ⟨a, xs, e, q, t⟩ := h; exact ⟨a, xs, e, g.seq q, t.grow g⟩
    | view => obtain ⟨a, xs, e, q, t⟩ := h; exact ⟨a, xs, e, g _ _ q, t.grow g⟩
theorem same_new {p : Addr} (h : H p = none) (o : HO) : Same H (upd H p o) := fun b u q => by rw [upd_ne (ne_of_none q h)]; exact q
theorem line10000 {n : Nat} (h : n ≤ 10001) : n ≤ sizeLine := Nat.le_trans h (by decide)
end

/-! slots -/
def IsS (K : PySem.W.Frag) (B H : Hp) : R → V → Prop
  | .d x, v => Has K H x v
  | .l .own ds, v => ∃ a xs, v = V.ref a ∧ H a = some (.lst xs) ∧ B a = none ∧ HasL K H ds xs
  | .l .bor ds, v => ∃ a xs, v = V.ref a ∧ SqL K B a xs ∧ HasL K B ds xs
  | .l .view _, _ => False
structure Rep (K : PySem.W.Frag) (B : Hp) (δ : Ev) (σ : St) (H : Hp) : Prop where
  same : Same B H
  len : δ.length = σ.length
  at_ : ∀ (i : Nat) (r : R), δ[i]? = some (some r) → ∃ v, σ[i]? = some (some v) ∧ IsS K B H r v
  dis : ∀ (i j : Nat) (ds es : List D) (a : Addr), δ[i]? = some (some (.l .own ds)) → δ[j]? = some (some (.l .own es)) → σ[i]? = some (some (.ref a)) → σ[j]? = some (some (.ref a)) → i = j
section
variable {K : PySem.W.Frag} {B B' H H' H1 H2 : Hp} {r : R} {v : V} {δ : Ev} {σ : St}
theorem IsS.grow (g : Same H H') (h : IsS K B H r v) : IsS K B H' r v := by
  cases r with
  | d x => exact Has.grow g h
  | l f ds =>
    cases f with
    | own => obtain ⟨a, xs, e, q, n, t⟩ := h; exact ⟨a, xs, e, g _ _ q, n, t.grow g⟩
    | bor => exact h
    | view => exact h
theorem Rep.grow (W : Rep K B δ σ H) (g : Same H H') : Rep K B δ σ H' :=
  ⟨W.same.trans g, W.len, fun i r e => let ⟨v, e1, h⟩ := W.at_ i r e; ⟨v, e1, h.grow g⟩, W.dis⟩
theorem IsS.see (g : Same B H) (h : IsS K B H r v) : IsR K B H H (see r) v := by
  cases r with
  | d x => exact h
  | l f ds =>
    cases f with
    | own => obtain ⟨a, xs, e, q, n, t⟩ := h; exact ⟨a, xs, e, q, t⟩
    | bor => exact h
    | view => exact False.elim h
/-- a slot is stored -/
theorem Rep.set (W : Rep K B δ σ H) (g : Same H H') {i : Nat} {r r' : R} {v : V} (hr : keepR r = some r') (h : IsR K B H H' r v) : Rep K B (δ.set i (some r')) (σ.set i (some v)) H' := by
  have W' := W.grow g
  have new : IsS K B H' r' v := by
    cases r with
    | d x => cases hr; exact h
    | l f ds =>
      cases f with
      | own =>
        cases hr
        obtain ⟨a, xs, e, n, q, t⟩ := h
        exact ⟨a, xs, e, q, W.same.free n, t⟩
      | bor => cases hr; exact h
      | view => cases hr
  have far : ∀ (j : Nat) (ds es : List D) (a : Addr), r' = .l .own ds → δ[j]? = some (some (.l .own es)) → v = .ref a → σ[j]? = some (some (.ref a)) → False := by
    intro j ds es a e1 e2 e3 e4
    subst e1
    obtain ⟨w, q1, q2⟩ := W.at_ j _ e2
    rw [e4] at q1
    cases q1
    obtain ⟨b, xs, z1, z2, _⟩ := q2
    cases z1
    cases r with
    | d x => cases hr
    | l f ds' =>
      cases f with
      | own =>
        cases hr
        obtain ⟨c, ys, y1, y2, _⟩ := h
        rw [e3] at y1
        cases y1
        rw [y2] at z2
        cases z2
      | bor => cases hr
      | view => cases hr
  refine ⟨W'.same, by simp [W'.len], fun j q e => ?_, fun j k ds es a e1 e2 e3 e4 => ?_⟩
  · by_cases hj : j = i
    · subst hj
      have hl : j < δ.length := by
        have := (List.getElem?_eq_some_iff.mp e).1
        simpa using this
      rw [List.getElem?_set_self hl] at e
      cases e
      exact ⟨v, by rw [List.getElem?_set_self (by rw [← W.len]; exact hl)], new⟩
    · rw [List.getElem?_set_ne (Ne.symm hj)] at e
      rw [List.getElem?_set_ne (Ne.symm hj)]
      exact W'.at_ j q e
  · by_cases hj : j = i
    · by_cases hk : k = i
      · rw [hj, hk]
      · subst hj
        have hl : j < δ.length := by
          have := (List.getElem?_eq_some_iff.mp e1).1
          simpa using this
        rw [List.getElem?_set_self hl] at e1
        rw [List.getElem?_set_self (by rw [← W.len]; exact hl)] at e3
        rw [List.getElem?_set_ne (Ne.symm hk)] at e2 e4
        cases e1
        cases e3
        exact (far k ds es a rfl e2 rfl e4).elim
    · by_cases hk : k = i
      · subst hk
        have hl : k < δ.length := by
          have := (List.getElem?_eq_some_iff.mp e2).1
          simpa using this
        rw [List.getElem?_set_self hl] at e2
        rw [List.getElem?_set_self (by rw [← W.len]; exact hl)] at e4
        rw [List.getElem?_set_ne (Ne.symm hj)] at e1 e3
        cases e2
        cases e4
        exact (far j es ds a rfl e1 rfl e3).elim
      · rw [List.getElem?_set_ne (Ne.symm hj)] at e1 e3
        rw [List.getElem?_set_ne (Ne.symm hk)] at e2 e4
        exact W'.dis j k ds es a e1 e2 e3 e4
/-- the list of a slot is written -/
theorem Rep.write (W : Rep K B δ σ H) {i : Nat} {ds es : List D} {a : Addr} {ys : List V} (e : δ[i]? = some (some (.l .own ds))) (ev : σ[i]? = some (some (.ref a))) {xs : List V} (ha : H a = some (.lst xs)) (hy : HasL K H es ys) :
    Rep K B (δ.set i (some (.l .own es))) σ (upd H a (.lst ys)) := by
  have hB : B a = none := by
    obtain ⟨v, q1, q2⟩ := W.at_ i _ e
    rw [ev] at q1
    cases q1
    obtain ⟨b, zs, z1, _, z3, _⟩ := q2
    cases z1
    exact z3
  have hl : i < δ.length := (List.getElem?_eq_some_iff.mp e).1
  have tk : TK K H (upd H a (.lst ys)) := tk_upd ha
  have oth : ∀ (j : Nat) (ds' : List D), δ[j]? = some (some (.l .own ds')) → σ[j]? = some (some (.ref a)) → j = i := fun j ds' q1 q2 => W.dis j i ds' ds a q1 e q2 ev
  refine ⟨fun b o q => ?_, by simp [W.len], fun j q ej => ?_, fun j k ds1 ds2 b e1 e2 e3 e4 => ?_⟩
  · rw [upd_ne (fun z => by subst z; rw [hB] at q; cases q)]
    exact W.same b o q
  · by_cases hj : j = i
    · subst hj
      rw [List.getElem?_set_self hl] at ej
      cases ej
      exact ⟨.ref a, ev, a, ys, rfl, upd_same, hB, HasL.mono tk _ _ hy⟩
    · rw [List.getElem?_set_ne (Ne.symm hj)] at ej
      obtain ⟨v, q1, q2⟩ := W.at_ j q ej
      refine ⟨v, q1, ?_⟩
      cases q with
      | d x => exact Has.mono tk _ _ q2
      | l f ds' =>
        cases f with
        | own =>
          obtain ⟨b, zs, z1, z2, z3, z4⟩ := q2
          subst z1
          have ne : b ≠ a := fun z => hj (oth j ds' ej (by rw [q1, z]))
          exact ⟨b, zs, rfl, by rw [upd_ne ne]; exact z2, z3, HasL.mono tk _ _ z4⟩
        | bor => exact q2
        | view => exact q2
  · have un : ∀ (j : Nat) (ds' : List D), (δ.set i (some (.l .own es)))[j]? = some (some (.l .own ds')) → ∃ ds'', δ[j]? = some (some (.l .own ds'')) := fun j ds' q => by
      by_cases hj : j = i
      · subst hj; exact ⟨ds, e⟩
      · rw [List.getElem?_set_ne (Ne.symm hj)] at q; exact ⟨ds', q⟩
    obtain ⟨d1, q1⟩ := un j _ e1
    obtain ⟨d2, q2⟩ := un k _ e2
    exact W.dis j k d1 d2 b q1 q2 e3 e4
/-- a list of one's own is only read from here on -/
theorem Rep.lend (W : Rep K B δ σ H) {i : Nat} {ds : List D} (e : δ[i]? = some (some (.l .own ds))) :
    ∃ (B' : Hp) (a : Addr) (xs : List V), Same B B' ∧ Rep K B' (δ.set i (some (.l .bor ds))) σ H ∧ σ[i]? = some (some (.ref a)) ∧ SqL K B' a xs ∧ HasL K B' ds xs := by
  classical
  obtain ⟨v, q1, a, xs, q2, ha, hB, hh⟩ := W.at_ i _ e
  subst q2
  have hl : i < δ.length := (List.getElem?_eq_some_iff.mp e).1
  -- all that is tracked now but the other lists of one's own
  let B' : Hp := fun b => if (∃ j es, j ≠ i ∧ δ[j]? = some (some (R.l .own es)) ∧ σ[j]? = some (some (V.ref b))) then none else H b
  have sB : Same B B' := fun b o q => by
    show (if _ then none else H b) = some o
    rw [if_neg]
    · exact W.same b o q
    · rintro ⟨j, es, _, z1, z2⟩
      obtain ⟨w, y1, y2⟩ := W.at_ j _ z1
      rw [z2] at y1
      cases y1
      obtain ⟨c, zs, x1, _, x3, _⟩ := y2
      cases x1
      rw [x3] at q
      cases q
  have sH : Same B' H := fun b o q => by
    have q' : (if (∃ j es, j ≠ i ∧ δ[j]? = some (some (R.l .own es)) ∧ σ[j]? = some (some (V.ref b))) then none else H b) = some o := q
    split at q'
    · cases q'
    · exact q'
  have keepT : TK K H B' := fun b zs q => by
    have ne : ∀ u, H b = some u → (∀ ws, u ≠ .lst ws) → B' b = H b := fun u eu n => by
      show (if _ then none else H b) = H b
      rw [if_neg]
      rintro ⟨j, es, _, z1, z2⟩
      obtain ⟨w, y1, y2⟩ := W.at_ j _ z1
      rw [z2] at y1
      cases y1
      obtain ⟨c, zs', x1, x2, _⟩ := y2
      cases x1
      rw [eu] at x2
      cases x2
      exact n _ rfl
    rcases q with (q | ⟨o, q⟩) | q
    · exact .inl (.inl (by rw [ne _ q (by intro ws z; cases z)]; exact q))
    · exact .inl (.inr ⟨o, by rw [ne _ q (by intro ws z; cases z)]; exact q⟩)
    · exact .inr q
  have aB : B' a = some (.lst xs) := by
    show (if _ then none else H a) = _
    rw [if_neg]
    · exact ha
    · rintro ⟨j, es, z0, z1, z2⟩
      exact z0 (W.dis j i es ds a z1 e z2 q1)
  have hB' : HasL K B' ds xs := HasL.mono keepT _ _ hh
  refine ⟨B', a, xs, sB, ⟨sH, by simp [W.len], fun j q ej => ?_, fun j k ds1 ds2 b e1 e2 e3 e4 => ?_⟩, q1, SqL.of aB, hB'⟩
  · by_cases hj : j = i
    · subst hj
      rw [List.getElem?_set_self hl] at ej
      cases ej
      exact ⟨_, q1, a, xs, rfl, SqL.of aB, hB'⟩
    · rw [List.getElem?_set_ne (Ne.symm hj)] at ej
      obtain ⟨w, y1, y2⟩ := W.at_ j q ej
      refine ⟨w, y1, ?_⟩
      cases q with
      | d x => exact y2
      | l f ds' =>
        cases f with
        | own =>
          obtain ⟨b, zs, z1, z2, z3, z4⟩ := y2
          subst z1
          refine ⟨b, zs, rfl, z2, ?_, z4⟩
          show (if _ then none else H b) = none
          rw [if_pos ⟨j, ds', hj, ej, y1⟩]
        | bor =>
          obtain ⟨b, zs, z1, z2, z3⟩ := y2
          exact ⟨b, zs, z1, sB.seq z2, z3.grow sB⟩
        | view => exact y2
  · by_cases hj : j = i
    · subst hj; rw [List.getElem?_set_self hl] at e1; cases e1
    · by_cases hk : k = i
      · subst hk; rw [List.getElem?_set_self hl] at e2; cases e2
      · rw [List.getElem?_set_ne (Ne.symm hj)] at e1
        rw [List.getElem?_set_ne (Ne.symm hk)] at e2
        exact W.dis j k ds1 ds2 b e1 e2 e3 e4
end
end DL

namespace DL
open PySem PySem.Spec PyProof.Rows L2

/-! The rules: an expression, test, argument list, statement of the text is worth what its denotation says. -/
def rd (K : PySem.W.Frag) (t : DEn) : TE := fun σ H Q => ∃ B δ r, Rep K B δ σ H ∧ t δ = some r ∧ ∀ v H', Same H H' → IsR K B H H' r v → Q v H'
def rt (K : PySem.W.Frag) (t : DTn) : TT := fun σ H Q => ∃ B δ b, Rep K B δ σ H ∧ t δ = some b ∧ ∀ H', Same H H' → Q b H'
def IsRs (K : PySem.W.Frag) (B H H' : Hp) : List R → List V → Prop
  | [], vs => vs = []
  | r :: rs, vs => ∃ v ws, vs = v :: ws ∧ IsR K B H H' r v ∧ IsRs K B H H' rs ws
def ra (K : PySem.W.Frag) (t : DAn) : TA := fun σ H Q => ∃ B δ rs, Rep K B δ σ H ∧ t δ = some rs ∧ ∀ vs H', Same H H' → IsRs K B H H' rs vs → Q vs H'
abbrev DE (X : Cx) (e : Expr) (t : DEn) : Prop := PE X e (rd X.K t)
abbrev DT (X : Cx) (e : Expr) (t : DTn) : Prop := PT X e (rt X.K t)
abbrev DW (X : Cx) (e : Expr) (t : DTn) : Prop := PW X e (rt X.K t)
abbrev DA (X : Cx) (es : List Expr) (t : DAn) : Prop := PA X es (ra X.K t)
theorem pe_to {X : Cx} {e : Expr} {t t' : TE} (h : PE X e t) (w : ∀ σ H Q, t' σ H Q → t σ H Q) : PE X e t' := fun pins s σ H Q I q => h pins s σ H Q I (w σ H Q q)
theorem pt_to {X : Cx} {e : Expr} {t t' : TT} (h : PT X e t) (w : ∀ σ H Q, t' σ H Q → t σ H Q) : PT X e t' := fun pins s σ H Q I q => h pins s σ H Q I (w σ H Q q)
theorem pw_to {X : Cx} {e : Expr} {t t' : TT} (h : PW X e t) (w : ∀ σ H Q, t' σ H Q → t σ H Q) : PW X e t' := fun wh pins s σ H Q I q => h wh pins s σ H Q I (w σ H Q q)
theorem pa_to {X : Cx} {e : List Expr} {t t' : TA} (h : PA X e t) (w : ∀ σ H Q, t' σ H Q → t σ H Q) : PA X e t' := fun pos pins s σ H Q I q => h pos pins s σ H Q I (w σ H Q q)
theorem ps_to {X : Cx} {e : Stmt} {t t' : TS} (h : PS X e t) (w : ∀ D σ H, t' D σ H → t D σ H) : PS X e t' := fun pins s σ H D I q => h pins s σ H D I (w D σ H q)
theorem pss_to {X : Cx} {e : List Stmt} {t t' : TS} (h : PSs X e t) (w : ∀ D σ H, t' D σ H → t D σ H) : PSs X e t' := fun pins s σ H D I q => h pins s σ H D I (w D σ H q)
theorem bs {α β : Type} {x : Option α} {f : α → Option β} {b : β} (h : x.bind f = some b) : ∃ a, x = some a ∧ f a = some b := Option.bind_eq_some_iff.mp h
theorem ms {α β : Type} {x : Option α} {f : α → β} {b : β} (h : x.map f = some b) : ∃ a, x = some a ∧ f a = b := Option.map_eq_some_iff.mp h
/-- an operation on two results -/
def r2R (K : PySem.W.Frag) (g : R → R → Option R) : R2 := fun x y H Q => ∃ r1 r2 r, VwR K H r1 x ∧ VwR K H r2 y ∧ g r1 r2 = some r ∧ ∀ v H', Same H H' → Out K H H' r v → Q v H'
def r1R (K : PySem.W.Frag) (g : R → Option R) : V → Hp → VK → Prop := fun x H Q => ∃ r1 r, VwR K H r1 x ∧ g r1 = some r ∧ ∀ v H', Same H H' → Out K H H' r v → Q v H'
section
variable {X : Cx} {pos : Pos} {a b c : Expr} {f h k : DEn} {g g' : R → R → Option R}

theorem rd2 (K : PySem.W.Frag) {f h : DEn} {g : R → R → Option R} (σ : St) (H : Hp) (Q : VK) (q : rd K (d2 g f h) σ H Q) : tOp (r2R K g) (rd K f) (rd K h) σ H Q := by
  obtain ⟨B, δ, r, rp, e, q⟩ := q
  obtain ⟨x, ex, e⟩ := bs e
  obtain ⟨y, ey, e⟩ := bs e
  refine ⟨B, δ, x, rp, ex, fun v H1 g1 i1 => ⟨B, δ, y, rp.grow g1, ey, fun u H2 g2 i2 => ?_⟩⟩
  have s1 := rp.same.trans g1
  exact ⟨x, y, r, (i1.vw s1).grow g2, i2.vw (s1.trans g2), e, fun w H3 g3 o => q w H3 (g1.trans (g2.trans g3)) (o.is (g1.trans g2))⟩
theorem rd1 (K : PySem.W.Frag) {f : DEn} {g : R → Option R} (σ : St) (H : Hp) (Q : VK) (q : rd K (d1 g f) σ H Q) : tUn (r1R K g) (rd K f) σ H Q := by
  obtain ⟨B, δ, r, rp, e, q⟩ := q
  obtain ⟨x, ex, e⟩ := bs e
  refine ⟨B, δ, x, rp, ex, fun v H1 g1 i1 => ?_⟩
  exact ⟨x, r, i1.vw (rp.same.trans g1), e, fun w H3 g3 o => q w H3 (g1.trans g3) (o.is g1)⟩

theorem de_var (i : Nat) {x : Str} (hN : X.N[i]? = some x := by rfl) (hv : Vis X.env.scope x := by first | exact Or.inl rfl | exact Or.inr (Or.inl rfl) | exact Or.inr (Or.inr rfl)) (hd : (x == ("__debug__" : Str)) = false := by decide)
    (hcd : (x == ("__classdict__" : Str)) = false := by decide) : DE X (.Name x pos) (dVar i) :=
  pe_to (pe_var hN hv hd hcd) fun σ H Q ⟨B, δ, r, rp, e, q⟩ => by
    unfold dVar at e
    split at e
    · rename_i r0 e0
      cases e
      obtain ⟨v, e1, hs⟩ := rp.at_ i r0 e0
      exact ⟨v, e1, q v H (Same.refl _) (hs.see rp.same)⟩
    · cases e
theorem de_c {x : D} {v : V} (h : PE X a (tC v)) (hv : ∀ K H, Has K H x v) : DE X a (dC x) :=
  pe_to h fun σ H Q ⟨B, δ, r, rp, e, q⟩ => by
    cases e
    exact q v H (Same.refl _) (hv _ _)
theorem de_int {i j} : DE X (.Constant (.int i) j pos) (dC (.int i)) := de_c pe_int fun _ _ => by simp only [Has]
theorem de_bl {i j} : DE X (.Constant (.bool i) j pos) (dC (.bl i)) := de_c pe_bl fun _ _ => by simp only [Has]
theorem de_non {j} : DE X (.Constant .none j pos) (dC .non) := de_c pe_non fun _ _ => by simp only [Has]
theorem de_str {i j} : DE X (.Constant (.str i) j pos) (dC (.str i)) := de_c pe_str fun _ _ => by simp only [Has]
/-- an int of the module's top -/
theorem de_globI {x : Str} {i : Int} {t : Tok} (hg : Gl X x) (hm : X.mg x = some (.int i t)) (hd : (x == ("__debug__" : Str)) = false := by decide) : DE X (.Name x pos) (dC (.int i)) := de_c (v := V.int i) (pe_glob (v := V.int i) hg hm ⟨t, rfl⟩ hd) fun _ _ => by simp only [Has]
theorem de_op {op : Operator} (ho : OpR X (binaryOp op) (r2R X.K g)) (ha : DE X a f) (hb : DE X b h) : DE X (.BinOp a op b pos) (d2 g f h) := pe_to (pe_op ho ha hb) (rd2 X.K)
theorem de_un {op : UnaryOp} {g : R → Option R} (ho : UnR X (unaryOp op) (r1R X.K g)) (ha : DE X a f) : DE X (.UnaryOp op a pos) (d1 g f) := pe_to (pe_un ho ha) (rd1 X.K)
theorem de_cmp {op : CmpOp} (ho : OpR X (compareOp op) (r2R X.K g)) (ha : DE X a f) (hb : DE X b h) (hm : behindInMarks op b = false) : DE X (.Compare a [op] [b] pos) (d2 g f h) := pe_to (pe_cmpR ho ha hb hm) (rd2 X.K)
theorem rdT (K : PySem.W.Frag) {f : DEn} (σ : St) (H : Hp) (Q : Bool → Hp → Prop) (q : rt K (qB f) σ H Q) : rd K f σ H fun x H' => ∃ k, x = .bl k ∧ Q k H' := by
  obtain ⟨B, δ, b, rp, e, q⟩ := q
  unfold qB at e
  split at e
  · rename_i c e0
    cases e
    refine ⟨B, δ, _, rp, e0, fun v H1 g1 i1 => ⟨b, ?_, q H1 g1⟩⟩
    have i2 : Has K H1 (.bl b) v := i1
    simpa only [Has] using i2
  · cases e
theorem tOp_mono {r : R2} {ta tb : TE} (m1 : ∀ σ H Q Q', (∀ v H1, Q v H1 → Q' v H1) → ta σ H Q → ta σ H Q') : True := trivial
theorem dt_cmp {op : CmpOp} (ho : OpR X (compareOp op) (r2R X.K g)) (ha : DE X a f) (hb : DE X b h) (hm : behindInMarks op b = false) : DT X (.Compare a [op] [b] pos) (qB (d2 g f h)) :=
  pt_to (pt_cmpR ho ha hb hm) fun σ H Q q => rd2 X.K σ H _ (rdT X.K σ H Q q)
/-- a call, a name, a subscript as a test -/
theorem dt_val (ha : DE X a f) (he : ∀ whole, isTrue a X.env whole = (do let v ← whole; standAt a.pos; holding [v] (truthy v)) := by intro _; rfl) : DT X a (qB f) :=
  pt_to (pt_truth ha he) fun σ H Q q => by
    obtain ⟨B, δ, r, rp, e, q⟩ := rdT X.K σ H Q q
    exact ⟨B, δ, r, rp, e, fun v H1 g1 i1 => let ⟨k, e1, z⟩ := q v H1 g1 i1; ⟨k, by subst e1; rfl, z⟩⟩
variable {t u : DTn} {rest : List Expr}
theorem dt_not (ha : DT X a t) : DT X (.UnaryOp .Not a pos) (qNot t) :=
  pt_to (pt_not ha) fun σ H Q ⟨B, δ, b, rp, e, q⟩ => by
    obtain ⟨c, e0, e1⟩ := ms e
    subst e1
    exact ⟨B, δ, c, rp, e0, fun H1 g1 => q H1 g1⟩
theorem dw_and1 (ha : DT X a t) : DW X (.BoolOp .And [a] pos) t := pw_and1 ha
theorem dw_or1 (ha : DT X a t) : DW X (.BoolOp .Or [a] pos) t := pw_or1 ha
theorem dw_and (ha : DT X a t) (hb : DW X (.BoolOp .And (b :: rest) pos) u) : DW X (.BoolOp .And (a :: b :: rest) pos) (qAnd t u) :=
  pw_to (pw_and ha hb) fun σ H Q ⟨B, δ, r, rp, e, q⟩ => by
    obtain ⟨x, e0, e1⟩ := bs e
    refine ⟨B, δ, x, rp, e0, fun H1 g1 => ?_⟩
    cases x with
    | true => exact iteT ⟨B, δ, r, rp.grow g1, e1, fun H2 g2 => q H2 (g1.trans g2)⟩
    | false => cases e1; exact iteF (q H1 g1)
theorem dw_or (ha : DT X a t) (hb : DW X (.BoolOp .Or (b :: rest) pos) u) : DW X (.BoolOp .Or (a :: b :: rest) pos) (qOr t u) :=
  pw_to (pw_or ha hb) fun σ H Q ⟨B, δ, r, rp, e, q⟩ => by
    obtain ⟨x, e0, e1⟩ := bs e
    refine ⟨B, δ, x, rp, e0, fun H1 g1 => ?_⟩
    cases x with
    | false => exact iteF ⟨B, δ, r, rp.grow g1, e1, fun H2 g2 => q H2 (g1.trans g2)⟩
    | true => cases e1; exact iteT (q H1 g1)
theorem dw_dt (h : DW X a t) : DT X a t := h.pt
theorem de_one {op} (ha : DE X a f) : DE X (.BoolOp op [a] pos) f := pe_one ha
theorem de_and (ha : DE X a f) (hb : DE X (.BoolOp .And (b :: rest) pos) h) : DE X (.BoolOp .And (a :: b :: rest) pos) (dAnd f h) :=
  pe_to (pe_and ha hb) fun σ H Q ⟨B, δ, r, rp, e, q⟩ => by
    unfold dAnd at e
    split at e
    · rename_i e0
      refine ⟨B, δ, _, rp, e0, fun v H1 g1 i1 => ⟨true, by simpa only [IsR, Has] using i1, iteT ⟨B, δ, r, rp.grow g1, e, fun u H2 g2 i2 => q u H2 (g1.trans g2) (i2.early g1)⟩⟩⟩
    · rename_i e0
      cases e
      refine ⟨B, δ, _, rp, e0, fun v H1 g1 i1 => ⟨false, by simpa only [IsR, Has] using i1, iteF (q _ H1 g1 (by simp only [IsR, Has]))⟩⟩
    · cases e
theorem de_or (ha : DE X a f) (hb : DE X (.BoolOp .Or (b :: rest) pos) h) : DE X (.BoolOp .Or (a :: b :: rest) pos) (dOr f h) :=
  pe_to (pe_or ha hb) fun σ H Q ⟨B, δ, r, rp, e, q⟩ => by
    unfold dOr at e
    split at e
    · rename_i e0
      cases e
      refine ⟨B, δ, _, rp, e0, fun v H1 g1 i1 => ⟨true, by simpa only [IsR, Has] using i1, iteT (q _ H1 g1 (by simp only [IsR, Has]))⟩⟩
    · rename_i e0
      refine ⟨B, δ, _, rp, e0, fun v H1 g1 i1 => ⟨false, by simpa only [IsR, Has] using i1, iteF ⟨B, δ, r, rp.grow g1, e, fun u H2 g2 i2 => q u H2 (g1.trans g2) (i2.early g1)⟩⟩⟩
    · cases e
theorem de_not (ha : DE X a f) : DE X (.UnaryOp .Not a pos) (dNot f) :=
  pe_to (pe_not ha) fun σ H Q ⟨B, δ, r, rp, e, q⟩ => by
    unfold dNot at e
    split at e
    · rename_i x e0
      cases e
      refine ⟨B, δ, _, rp, e0, fun v H1 g1 i1 => ⟨x, by simpa only [IsR, Has] using i1, q _ H1 g1 (by simp only [IsR, Has])⟩⟩
    · cases e
theorem de_if (hc : DT X c t) (ha : DE X a f) (hb : DE X b h) : DE X (.IfExp c a b pos) (dIf t f h) :=
  pe_to (pe_ifExp hc ha hb) fun σ H Q ⟨B, δ, r, rp, e, q⟩ => by
    obtain ⟨x, e0, e1⟩ := bs e
    refine ⟨B, δ, x, rp, e0, fun H1 g1 => ?_⟩
    cases x with
    | true => exact iteT ⟨B, δ, r, rp.grow g1, e1, fun u H2 g2 i2 => q u H2 (g1.trans g2) (i2.early g1)⟩
    | false => exact iteF ⟨B, δ, r, rp.grow g1, e1, fun u H2 g2 i2 => q u H2 (g1.trans g2) (i2.early g1)⟩
/-- a op b op c -/
theorem rdCh (K : PySem.W.Frag) (σ : St) (H : Hp) (Q : VK) (q : rd K (dCh g g' f h k) σ H Q) : tChain (r2R K g) (r2R K g') (rd K f) (rd K h) (rd K k) σ H Q := by
  obtain ⟨B, δ, r, rp, e, q⟩ := q
  obtain ⟨x, ex, e⟩ := bs e
  obtain ⟨y, ey, e⟩ := bs e
  obtain ⟨z, ez, e⟩ := bs e
  refine ⟨B, δ, x, rp, ex, fun v H1 g1 i1 => ⟨B, δ, y, rp.grow g1, ey, fun u H2 g2 i2 => ?_⟩⟩
  have s1 := rp.same.trans g1
  have s2 := s1.trans g2
  refine ⟨x, y, z, (i1.vw s1).grow g2, i2.vw s2, ez, fun w H3 g3 o => ?_⟩
  split at e
  · refine ⟨true, by simpa only [Out, Has] using o, iteT ?_⟩
    obtain ⟨m, em, e⟩ := bs e
    refine ⟨B, δ, m, ((rp.grow g1).grow g2).grow g3, em, fun w' H4 g4 i4 => ?_⟩
    exact ⟨y, m, r, ((i2.vw s2).grow g3).grow g4, i4.vw ((s2.trans g3).trans g4), e, fun w5 H5 g5 o5 => q w5 H5 (g1.trans (g2.trans (g3.trans (g4.trans g5)))) (o5.is (g1.trans (g2.trans (g3.trans g4))))⟩
  · cases e
    exact ⟨false, by simpa only [Out, Has] using o, iteF (q _ H3 (g1.trans (g2.trans g3)) (by simp only [IsR, Has]))⟩
  · cases e
theorem de_ch {op op' : CmpOp} (ho : OpR X (compareOp op) (r2R X.K g)) (ho' : OpR X (compareOp op') (r2R X.K g')) (ha : DE X a f) (hb : DE X b h) (hc : DE X c k) (hm : lastMarks [op, op'] [b, c] = false := by rfl) :
    DE X (.Compare a [op, op'] [b, c] pos) (dCh g g' f h k) := pe_to (pe_chain ho ho' ha hb hc hm) (rdCh X.K)
theorem dt_ch {op op' : CmpOp} (ho : OpR X (compareOp op) (r2R X.K g)) (ho' : OpR X (compareOp op') (r2R X.K g')) (ha : DE X a f) (hb : DE X b h) (hc : DE X c k) (hm : lastMarks [op, op'] [b, c] = false := by rfl) :
    DT X (.Compare a [op, op'] [b, c] pos) (qB (dCh g g' f h k)) := pt_to (pt_chain ho ho' ha hb hc hm) fun σ H Q q => rdCh X.K σ H _ (rdT X.K σ H Q q)
end

/-! operations on results -/
section
variable {X : Cx}
theorem o_int {f : Value → Value → Sem Value} {C : Int → Int → Prop} {gv : Int → Int → V} {k : Int → Int → Option D} (ho : OpR X f (rI C gv)) (hk : ∀ i j d, k i j = some d → C i j ∧ ∀ K H, Has K H d (gv i j)) : OpR X f (r2R X.K (gI k)) := by
  intro pins s σ H x y v u Q I rx ry h
  obtain ⟨r1, r2, r, h1, h2, e, q⟩ := h
  unfold gI at e
  split at e
  · rename_i i j
    obtain ⟨d, ed, er⟩ := ms e
    subst er
    obtain ⟨c1, c2⟩ := hk i j d ed
    have h1 : Has X.K H (.int i) x := h1
    have h2 : Has X.K H (.int j) y := h2
    simp only [Has] at h1 h2
    exact ho pins s σ H x y v u Q I rx ry ⟨i, j, h1, h2, c1, q _ H (Same.refl _) (c2 _ _)⟩
  · cases e
theorem o_int0 {f : Value → Value → Sem Value} {gv : Int → Int → V} {k : Int → Int → Option D} (ho : OpR X f (rI0 gv)) (hk : ∀ i j d, k i j = some d → ∀ K H, Has K H d (gv i j)) : OpR X f (r2R X.K (gI k)) :=
  o_int (C := fun _ _ => True) (gv := gv) (fun pins s σ H x y v u Q I rx ry ⟨i, j, e1, e2, _, q⟩ => ho pins s σ H x y v u Q I rx ry ⟨i, j, e1, e2, q⟩) fun i j d e => ⟨trivial, hk i j d e⟩
theorem o_sub : OpR X (binaryOp .Sub) (r2R X.K (gI kSub)) := o_int0 op_sub fun i j d e K H => by cases e; simp only [Has]
theorem o_mul : OpR X (binaryOp .Mult) (r2R X.K (gI kMul)) := o_int op_mul fun i j d e => by
  unfold kMul at e
  split at e
  · rename_i c
    cases e
    exact ⟨c, fun K H => by simp only [Has]⟩
  · cases e
theorem o_div : OpR X (binaryOp .FloorDiv) (r2R X.K (gI kDiv)) := o_int op_fdiv fun i j d e => by
  unfold kDiv at e
  split at e
  · rename_i c
    cases e
    exact ⟨c, fun K H => by simp only [Has]⟩
  · cases e
theorem o_mod : OpR X (binaryOp .Mod) (r2R X.K (gI kMod)) := o_int op_mod fun i j d e => by
  unfold kMod at e
  split at e
  · rename_i c
    cases e
    exact ⟨c, fun K H => by simp only [Has]⟩
  · cases e
theorem o_pow : OpR X (binaryOp .Pow) (r2R X.K (gI kPow)) := o_int op_pow fun i j d e => by
  unfold kPow at e
  split at e
  · rename_i c
    cases e
    exact ⟨c, fun K H => by simp only [Has]⟩
  · cases e
theorem o_lt : OpR X (compareOp .Lt) (r2R X.K (gI kLt)) := o_int0 op_lt fun i j d e K H => by cases e; simp only [Has]
theorem o_le : OpR X (compareOp .LtE) (r2R X.K (gI kLe)) := o_int0 op_le fun i j d e K H => by cases e; simp only [Has]
theorem o_gt : OpR X (compareOp .Gt) (r2R X.K (gI kGt)) := o_int0 op_gt fun i j d e K H => by cases e; simp only [Has]
theorem o_ge : OpR X (compareOp .GtE) (r2R X.K (gI kGe)) := o_int0 op_ge fun i j d e K H => by cases e; simp only [Has]
theorem u_neg : UnR X (unaryOp .USub) (r1R X.K gNeg) := by
  intro pins s σ H x v Q I rx h
  obtain ⟨r1, r, h1, e, q⟩ := h
  unfold gNeg at e
  split at e
  · rename_i i
    cases e
    have h1 : Has X.K H (.int i) x := h1
    simp only [Has] at h1
    exact un_neg pins s σ H x v Q I rx ⟨i, h1, q _ H (Same.refl _) (by simp only [Out, Has])⟩
  · cases e
theorem eqK_scal {K : PySem.W.Frag} {H : Hp} {x y : D} {v u : V} {b : Bool} (h1 : Has K H x v) (h2 : Has K H y u) (e : eqK x y = some b) : scal v u = true ∧ decide (v = u) = b := by
  unfold eqK at e
  split at e <;> first
    | (simp only [Has] at h1 h2; subst h1; subst h2; cases e; exact ⟨rfl, by simp⟩)
    | cases e
theorem o_eq : OpR X (compareOp .Eq) (r2R X.K gEq) := by
  intro pins s σ H x y v u Q I rx ry h
  obtain ⟨r1, r2, r, h1, h2, e, q⟩ := h
  unfold gEq at e
  split at e
  · obtain ⟨b, eb, er⟩ := ms e
    subst er
    obtain ⟨c1, c2⟩ := eqK_scal h1 h2 eb
    exact op_eq pins s σ H x y v u Q I rx ry ⟨c1, q _ H (Same.refl _) (by simp only [Out, Has, c2])⟩
  · cases e
theorem o_ne : OpR X (compareOp .NotEq) (r2R X.K gNe) := by
  intro pins s σ H x y v u Q I rx ry h
  obtain ⟨r1, r2, r, h1, h2, e, q⟩ := h
  unfold gNe at e
  split at e
  · obtain ⟨b, eb, er⟩ := ms e
    subst er
    obtain ⟨c1, c2⟩ := eqK_scal h1 h2 eb
    exact op_ne pins s σ H x y v u Q I rx ry ⟨c1, q _ H (Same.refl _) (by simp only [Out, Has, c2])⟩
  · cases e
theorem vw_non {K : PySem.W.Frag} {H : Hp} {r : R} {v : V} (h : VwR K H r v) : decide (v = .non) = isN r := by
  cases r with
  | d x =>
    have h : Has K H x v := h
    cases x with
    | non => simp only [Has] at h; subst h; rfl
    | bl b => simp only [Has] at h; subst h; rfl
    | int b => simp only [Has] at h; subst h; rfl
    | str b => simp only [Has] at h; subst h; rfl
    | tup b => simp only [Has] at h; obtain ⟨a, xs, e, _⟩ := h; subst e; rfl
    | fu b => simp only [Has] at h; obtain ⟨a, e, _⟩ := h; subst e; rfl
  | l f ds => obtain ⟨a, xs, e, _⟩ := h.sq; subst e; rfl
theorem o_is : OpR X (compareOp .Is) (r2R X.K (g2N gIsN)) := by
  intro pins s σ H x y v u Q I rx ry h
  obtain ⟨r1, r2, r, h1, h2, e, q⟩ := h
  unfold g2N at e
  split at e
  · cases e
    have h2 : Has X.K H .non y := h2
    simp only [Has] at h2
    exact op_isN pins s σ H x y v u Q I rx ry ⟨h2, q _ H (Same.refl _) (by simp only [Out, Has, vw_non h1])⟩
  · cases e
theorem o_isnot : OpR X (compareOp .IsNot) (r2R X.K (g2N gNotN)) := by
  intro pins s σ H x y v u Q I rx ry h
  obtain ⟨r1, r2, r, h1, h2, e, q⟩ := h
  unfold g2N at e
  split at e
  · cases e
    have h2 : Has X.K H .non y := h2
    simp only [Has] at h2
    exact op_notN pins s σ H x y v u Q I rx ry ⟨h2, q _ H (Same.refl _) (by simp only [Out, Has, vw_non h1])⟩
  · cases e
/-- () + t -/
theorem cat_nil {prog : Program} {w : World} {A : Around} {E : Value → Shared → Prop} {s : Shared} {t b : Addr} {vs ws : List Value} {Q : Value → Shared → Prop} (ht : IsTup s.heap t vs.toArray) (hb : IsTup s.heap b ws.toArray) (hv : vs = []) (h1 : Q (.ref b) s) :
    wpAny (model prog w) A (binaryOp .Add (.ref t) (.ref b)) Q E s := by
  obtain ⟨⟨cls, dd, data, sl⟩, ho, hc, n, hd⟩ := id ht
  obtain ⟨⟨cls2, dd2, data2, sl2⟩, ho2, hc2, n2, hd2⟩ := id hb
  simp only at hc hd hc2 hd2
  subst hc hd hc2 hd2
  exact concat_meets ⟨_, ho, rfl⟩ ⟨_, ho2, rfl⟩ noFill_tuple_add seq_tuple_add PySem.F.slot_tuple_add PySem.F.entry_tuple_add (PySem.F.args_tuple_add_2 _ _)
    (tuple_addW0 t b vs.toArray ws.toArray n n2 dd dd2 sl sl2 (by simp [hv])) ⟨ho, ho2, h1⟩
theorem o_add : OpR X (binaryOp .Add) (r2R X.K gAdd) := by
  intro pins s σ H x y v u Q I rx ry h
  obtain ⟨r1, r2, r, h1, h2, e, q⟩ := h
  unfold gAdd at e
  split at e
  · rename_i i j
    cases e
    have h1 : Has X.K H (.int i) x := h1
    have h2 : Has X.K H (.int j) y := h2
    simp only [Has] at h1 h2
    exact op_add pins s σ H x y v u Q I rx ry ⟨i, j, h1, h2, q _ H (Same.refl _) (by simp only [Out, Has])⟩
  · rename_i es
    cases e
    have h1 : Has X.K H (.tup []) x := h1
    have h2 : Has X.K H (.tup es) y := h2
    have h3 := h2
    simp only [Has] at h1 h2
    obtain ⟨a1, xs, e1, s1, l1⟩ := h1
    obtain ⟨a2, ys, e2, s2, l2⟩ := h2
    have n1 := l1.len
    subst e1
    subst e2
    cases (show v = Value.ref a1 from rx)
    cases (show u = Value.ref a2 from ry)
    obtain ⟨its, r1, p1, _⟩ := I.tuple s1
    obtain ⟨its2, r2, p2, _⟩ := I.tuple s2
    have m1 := r1.length
    refine cat_nil p1 p2 (by cases its with | nil => rfl | cons _ _ => simp at m1 n1; omega) ⟨.ref a2, H, I, rfl, q _ H (Same.refl _) h3⟩
  · rename_i d ds es
    split at e
    · rename_i hz
      cases e
      have h1 : Has X.K H (.tup (d :: ds)) x := h1
      have h2 : Has X.K H (.tup es) y := h2
      simp only [Has] at h1 h2
      obtain ⟨a1, xs, e1, s1, l1⟩ := h1
      obtain ⟨a2, ys, e2, s2, l2⟩ := h2
      have n1 := l1.len
      have n2 := l2.len
      rw [List.length_cons] at n1
      refine op_catT pins s σ H x y v u Q I rx ry ⟨a1, a2, xs, ys, e1, e2, s1, s2, (by rintro rfl; cases n1), line10000 (by omega), fun z => ?_, fun z p hp => ?_⟩
      · have z2 : es = [] := by subst z; cases es with | nil => rfl | cons _ _ => cases n2
        subst z2
        refine q _ H (Same.refl _) ?_
        show Has X.K H (.tup (d :: ds ++ [])) _
        rw [List.append_nil]
        simp only [Has]
        exact ⟨a1, xs, rfl, s1, l1⟩
      · have g := same_new hp (.tup (xs ++ ys))
        refine q _ _ g ?_
        show Has X.K _ (.tup (d :: ds ++ es)) _
        simp only [Has]
        exact ⟨p, xs ++ ys, rfl, SqT.of upd_same, (l1.app l2).grow g⟩
    · cases e
  · rename_i f xs' g' ys'
    split at e
    · rename_i hz
      cases e
      obtain ⟨a1, xs, e1, s1, l1⟩ := h1.trk hz.1
      obtain ⟨a2, ys, e2, s2, l2⟩ := h2.trk hz.2.1
      have n1 := l1.len
      have n2 := l2.len
      refine op_cat pins s σ H x y v u Q I rx ry ⟨a1, a2, xs, ys, e1, e2, s1, s2, line10000 (by omega), fun p hp => ?_⟩
      have g := same_new hp (.lst (xs ++ ys))
      exact q _ _ g ⟨p, xs ++ ys, rfl, hp, upd_same, (l1.app l2).grow g⟩
    · cases e
  · cases e
end

/-! subscripts, slices, displays, calls -/
section
variable {X : Cx} {pos p2 : Pos} {a b c : Expr} {f h k : DEn} {es : List Expr} {t : DAn}
theorem ix_any : IxR X (r2R X.K gIx) := by
  intro value slice pins s σ H x y v u Q I rx ry h hs
  obtain ⟨r1, r2, r, h1, h2, e, q⟩ := h
  unfold gIx at e
  split at e
  · rename_i ds i
    obtain ⟨d, e1, e2⟩ := ms e
    subst e2
    have h1 : Has X.K H (.tup ds) x := h1
    have h2 : Has X.K H (.int i) y := h2
    simp only [Has] at h1 h2
    obtain ⟨a1, xs, e3, s1, l1⟩ := h1
    obtain ⟨w, e4, e5⟩ := l1.at e1
    exact ix_tup value slice pins s σ H x y v u Q I rx ry ⟨a1, xs, i, w, e3, h2, s1, e4, q _ H (Same.refl _) e5⟩ hs
  · rename_i fl ds i
    obtain ⟨d, e1, e2⟩ := ms e
    subst e2
    have h2 : Has X.K H (.int i) y := h2
    simp only [Has] at h2
    obtain ⟨a1, xs, e3, s1, l1⟩ := h1.sq
    obtain ⟨w, e4, e5⟩ := l1.at e1
    exact ix_list value slice pins s σ H x y v u Q I rx ry ⟨a1, xs, i, w, e3, h2, s1, e4, q _ H (Same.refl _) e5⟩ hs
  · cases e
theorem de_ix (ha : DE X a f) (hb : DE X b h) (hs : PlainIx b := by intro _ _; rfl) : DE X (.Subscript a b pos) (d2 gIx f h) := pe_to (pe_ix ix_any ha hb hs) (rd2 X.K)
def ro (K : PySem.W.Frag) (o : Option DEn) : TO := fun σ H Q => ∃ B δ i, Rep K B δ σ H ∧ oI o δ = some i ∧ ∀ H', Same H H' → Q i H'
theorem do_none : PO X none (ro X.K none) := fun pins s σ H Q I ⟨B, δ, i, rp, e, q⟩ => by
  cases e
  exact po_none pins s σ H Q I (q H (Same.refl _))
theorem do_some (ha : DE X a f) : PO X (some a) (ro X.K (some f)) := fun pins s σ H Q I ⟨B, δ, i, rp, e, q⟩ => by
  unfold oI at e
  dsimp only at e
  split at e
  · rename_i j e0
    cases e
    refine po_some ha pins s σ H Q I ⟨B, δ, _, rp, e0, fun v H1 g1 i1 => ⟨j, ?_, q H1 g1⟩⟩
    have i1 : Has X.K H1 (.int j) v := i1
    simpa only [Has] using i1
  · cases e
end
end DL

namespace HT
open PySem PyProof.Rows
section
variable {prog : Program} {w : World} {A : Around} {E : Value → Shared → Prop} {s : Shared}
theorem getItem_tuple_all {t sl : Addr} {items : Array Value} {vl vu : Value} {lo hi : Option Int} {Q : Value → Shared → Prop} (ht : IsTup s.heap t items) (hs : s.heap.IsSliceOf sl vl vu .none) (pl : IsPart vl lo) (pu : IsPart vu hi)
    (hw : sIx items.size 0 lo = 0 ∧ sIx items.size items.size hi = items.size) (h : Q (.ref t) s) : wpAny (model prog w) A (getItem (.ref t) (.ref sl)) Q E s := by
  obtain ⟨os, hos, hcs, hds⟩ := id hs
  have hTs : s.TypeIs (.ref sl) "slice" := ⟨os, hos, hcs⟩
  unfold getItem
  try with_reducible refine wpAny_holding ?_
  first | refine wpAny_bind (wpAny_pure ?_) | skip
  refine wpAny_bind (wpAny_sequenceKey ht.typeIs (by decide) ?_)
  refine wpAny_bind (wpAny_callSpecial?_slot (name := Str.ofString "__getitem__") ht.typeIs PyProof.Rows.slot_tuple_getitem
    (wpAny_call_entry PyProof.Rows.slot_tuple_getitem ht.typeIs entry_tuple_getitem ?_ (args_tuple_getitem _ _)))
  show wpAny _ _ (Builtin.Tuple.tupleItemsOf (.ref t) >>= _) _ _ s
  refine wpAny_bind (tupleItemsOf_ ht ?_)
  refine wpAny_bind (wpAny_typeOf hTs ?_)
  rw [if_pos (by decide)]
  refine wpAny_bind (sliceApplied_gen hs pl pu ?_)
  have hyes : ((((sIx items.size 0 lo : Nat) : Int) == 0 && (1 : Int) == 1 && (sIx items.size items.size hi - sIx items.size 0 lo) == items.size) = true) := by
    rw [hw.1, hw.2]
    simp
  show wpAny _ _ (if (((sIx items.size 0 lo : Nat) : Int) == 0 && (1 : Int) == 1 && (sIx items.size items.size hi - sIx items.size 0 lo) == items.size) = true then _ else _) _ _ s
  rw [if_pos hyes]
  refine wpAny_bind ?_
  unfold Builtin.Tuple.tupleIsExact
  first
    | refine wpAny_bind (wpAny_typeOf ht.typeIs (wpAny_pure ?_))
    | refine wpAny_typeOf ht.typeIs ?_
  first
    | rw [if_pos (by decide)]
    | rw [if_pos rfl]
  exact wpAny_bind (wpAny_rule (wpAny_pure ⟨_, rfl, wpAny_pure h⟩))
end
end HT

namespace DL
open PySem PySem.Spec PyProof.Rows L2
section
variable {X : Cx} {pos p2 : Pos} {a b c : Expr} {f h k : DEn} {es : List Expr} {t : DAn}
/-- t[lo:hi], the whole of it -/
theorem sl_all : SlR X (fun x lo hi H Q => ∃ a xs, x = .ref a ∧ SqT X.K H a xs ∧ (HT.sIx xs.length 0 lo = 0 ∧ HT.sIx xs.length xs.length hi = xs.length) ∧ Q (.ref a) H) := by
  intro pins s σ H x v vl vu lo hi sl Q I rx hs pl pu h
  obtain ⟨a, xs, rfl, hx, hw, q⟩ := h
  cases rx
  obtain ⟨its, r, ht, hz⟩ := I.tuple hx
  have hlen : its.toArray.size = xs.length := by rw [List.size_toArray]; exact r.length.symm
  refine ⟨"tuple", _, PyProof.Rows.slot_tuple_getitem.lookup, ht.typeIs, ?_⟩
  exact HT.getItem_tuple_all ht hs pl pu (by rw [hlen]; exact hw) ⟨.ref a, H, I, rfl, q⟩
def gSl (x : R) (l h : Option Int) : Option R := match x with
  | .d (.tup ds) => some (.d (.tup (cutP ds l h)))
  | .l _ ds => some (.l .own (cutP ds l h))
  | _ => none
theorem cut_all {xs : List V} {lo hi : Option Int} (h : HT.sIx xs.length 0 lo = 0 ∧ HT.sIx xs.length xs.length hi = xs.length) : cutV xs lo hi = xs := by
  unfold cutV
  rw [h.1, h.2]
  simp
theorem sl_any : SlR X (fun x lo hi H Q => ∃ r1 r, VwR X.K H r1 x ∧ gSl r1 lo hi = some r ∧ ∀ v H', Same H H' → Out X.K H H' r v → Q v H') := by
  intro pins s σ H x v vl vu lo hi sl Q I rx hs pl pu h
  obtain ⟨r1, r, h1, e, q⟩ := h
  unfold gSl at e
  split at e
  · rename_i ds
    cases e
    have h1 : Has X.K H (.tup ds) x := h1
    simp only [Has] at h1
    obtain ⟨a1, xs, e3, s1, l1⟩ := h1
    by_cases hw : HT.sIx xs.length 0 lo = 0 ∧ HT.sIx xs.length xs.length hi = xs.length
    · refine sl_all pins s σ H x v vl vu lo hi sl Q I rx hs pl pu ⟨a1, xs, e3, s1, hw, q _ H (Same.refl _) ?_⟩
      show Has X.K H (.tup (cutP ds lo hi)) _
      simp only [Has]
      refine ⟨a1, xs, rfl, s1, ?_⟩
      have := l1.cut (lo := lo) (hi := hi)
      rw [cut_all hw] at this
      exact this
    · refine sl_tup pins s σ H x v vl vu lo hi sl Q I rx hs pl pu ⟨a1, xs, e3, s1, hw, fun p hp => ?_⟩
      have g := same_new hp (.tup (cutV xs lo hi))
      refine q _ _ g ?_
      show Has X.K _ (.tup (cutP ds lo hi)) _
      simp only [Has]
      exact ⟨p, _, rfl, SqT.of upd_same, l1.cut.grow g⟩
  · rename_i fl ds
    cases e
    obtain ⟨a1, xs, e3, s1, l1⟩ := h1.sq
    refine sl_list pins s σ H x v vl vu lo hi sl Q I rx hs pl pu ⟨a1, xs, e3, s1, fun p hp => ?_⟩
    have g := same_new hp (.lst (cutV xs lo hi))
    exact q _ _ g ⟨p, _, rfl, hp, upd_same, l1.cut.grow g⟩
  · cases e
theorem de_sl {lo hi : Option Expr} {l u : Option DEn} (ha : DE X a f) (hl : PO X lo (ro X.K l)) (hu : PO X hi (ro X.K u)) : DE X (.Subscript a (.Slice lo hi none p2) pos) (dSl f l u) :=
  pe_to (pe_slice sl_any ha hl hu) fun σ H Q ⟨B, δ, r, rp, e, q⟩ => by
    obtain ⟨x, ex, e⟩ := bs e
    obtain ⟨y, ey, e⟩ := bs e
    obtain ⟨z, ez, e⟩ := bs e
    refine ⟨B, δ, x, rp, ex, fun v H1 g1 i1 => ⟨B, δ, y, rp.grow g1, ey, fun H2 g2 => ⟨B, δ, z, (rp.grow g1).grow g2, ez, fun H3 g3 => ?_⟩⟩⟩
    refine ⟨x, r, ((i1.vw (rp.same.trans g1)).grow g2).grow g3, ?_, fun w H4 g4 o => q w H4 (g1.trans (g2.trans (g3.trans g4))) (o.is (g1.trans (g2.trans g3)))⟩
    rw [← e]
    cases x with
    | d x => cases x <;> rfl
    | l _ _ => rfl
theorem da_nil : DA X [] aNil := pa_to pa_nil fun σ H Q ⟨B, δ, r, rp, e, q⟩ => by
  cases e
  exact q [] H (Same.refl _) rfl
theorem IsRs.grow {K : PySem.W.Frag} {B H H1 H2 : Hp} (g : Same H1 H2) : ∀ {rs : List R} {vs : List V}, IsRs K B H H1 rs vs → IsRs K B H H2 rs vs
  | [], _, h => h
  | _ :: _, _, ⟨v, ws, e, h1, h2⟩ => ⟨v, ws, e, h1.grow g, IsRs.grow g h2⟩
theorem IsRs.early {K : PySem.W.Frag} {B H H1 H2 : Hp} (g : Same H H1) : ∀ {rs : List R} {vs : List V}, IsRs K B H1 H2 rs vs → IsRs K B H H2 rs vs
  | [], _, h => h
  | _ :: _, _, ⟨v, ws, e, h1, h2⟩ => ⟨v, ws, e, h1.early g, IsRs.early g h2⟩
theorem IsRs.len {K : PySem.W.Frag} {B H H1 : Hp} : ∀ {rs : List R} {vs : List V}, IsRs K B H H1 rs vs → rs.length = vs.length
  | [], _, h => by
    have h : _ = [] := h
    subst h; rfl
  | _ :: _, _, ⟨v, ws, e, h1, h2⟩ => by subst e; simp [IsRs.len h2]
theorem da_cons (ha : DE X a f) (hr : DA X es t) (hs : starEach (a :: es) X.env = (false, eval a X.env) :: starEach es X.env := by rfl) : DA X (a :: es) (aCons f t) :=
  pa_to (pa_cons ha hr hs) fun σ H Q ⟨B, δ, r, rp, e, q⟩ => by
    obtain ⟨x, ex, e⟩ := bs e
    obtain ⟨y, ey, e⟩ := bs e
    cases e
    exact ⟨B, δ, x, rp, ex, fun v H1 g1 i1 => ⟨B, δ, y, rp.grow g1, ey, fun vs H2 g2 i2 => q (v :: vs) H2 (g1.trans g2) ⟨v, vs, rfl, i1.grow g2, i2.early g1⟩⟩⟩
theorem plain_has {K : PySem.W.Frag} {B H H' : Hp} : ∀ {rs : List R} {vs : List V} {ds : List D}, IsRs K B H H' rs vs → plainD rs = some ds → HasL K H' ds vs
  | [], vs, ds, h, e => by
    have h : vs = [] := h
    subst h
    cases e
    exact HasL.nil
  | .d x :: rs, vs, ds, ⟨v, ws, e1, h1, h2⟩, e => by
    subst e1
    obtain ⟨es, e2, e3⟩ := ms (show (plainD rs).map (x :: ·) = some ds from e)
    subst e3
    exact HasL.cons h1 (plain_has h2 e2)
  | .l f xs :: rs, vs, ds, h, e => by cases e
theorem de_tup {x1} (hh : DA X es t) : DE X (.Tuple es x1 pos) (dTup t) :=
  pe_to (pe_tup hh) fun σ H Q ⟨B, δ, r, rp, e, q⟩ => by
    obtain ⟨rs, e1, e⟩ := bs e
    split at e
    · rename_i hz
      obtain ⟨ds, e2, e3⟩ := ms e
      subst e3
      refine ⟨B, δ, rs, rp, e1, fun vs H1 g1 i1 => ⟨line10000 (by rw [← i1.len]; omega), fun p hp => ?_⟩⟩
      have g := same_new hp (.tup vs)
      refine q _ _ (g1.trans g) ?_
      show Has X.K _ (.tup ds) _
      simp only [Has]
      exact ⟨p, vs, rfl, SqT.of upd_same, (plain_has i1 e2).grow g⟩
    · cases e
theorem de_lst (hh : DA X es t) : DE X (.List es pos) (dLst t) :=
  pe_to (pe_lst hh) fun σ H Q ⟨B, δ, r, rp, e, q⟩ => by
    obtain ⟨rs, e1, e⟩ := bs e
    split at e
    · rename_i hz
      obtain ⟨ds, e2, e3⟩ := ms e
      subst e3
      refine ⟨B, δ, rs, rp, e1, fun vs H1 g1 i1 => ⟨line10000 (by rw [← i1.len]; omega), fun p hp => ?_⟩⟩
      have g := same_new hp (.lst vs)
      exact q _ _ (g1.trans g) ⟨p, vs, rfl, g1.free hp, upd_same, (plain_has i1 e2).grow g⟩
    · cases e
end

/-! calls of the text's defs -/
def ArgsOk (K : PySem.W.Frag) (H : Hp) : List R → List V → Prop
  | [], vs => vs = []
  | r :: rs, vs => ∃ v ws, vs = v :: ws ∧ IsS K H H r v ∧ (∀ ds, r ≠ .l .own ds) ∧ ArgsOk K H rs ws
def spD (K : PySem.W.Frag) (F : Fn) : Sp := fun vs H Q _ => ∃ rs r, ArgsOk K H rs vs ∧ F rs = some r ∧ ∀ v H', Same H H' → Out K H H' r v → Q v H'
theorem ArgsOk.len {K : PySem.W.Frag} {H : Hp} : ∀ {rs : List R} {vs : List V}, ArgsOk K H rs vs → rs.length = vs.length
  | [], _, h => by
    have h : _ = [] := h
    subst h; rfl
  | _ :: _, _, ⟨v, ws, e, h1, _, h2⟩ => by subst e; simp [ArgsOk.len h2]
theorem args_of {K : PySem.W.Frag} {B H H' : Hp} (g : Same B H') : ∀ {rs : List R} {vs : List V}, IsRs K B H H' rs vs → ArgsOk K H' (rs.map R.arg) vs
  | [], _, h => h
  | r :: rs, _, ⟨v, ws, e, h1, h2⟩ => ⟨v, ws, e, (by
      have q := h1.vw g
      cases r with
      | d x => exact q
      | l f ds => exact q.sq), (by intro ds z; cases r <;> cases z), args_of g h2⟩
/-- a def of the text, as it may be called -/
structure Cal (P : Program) (w : World) (K : PySem.W.Frag) (mg : Str → Option Value) (base : Heap) (n : Nat) (x : Str) (ps : List Str) (F : Fn) : Prop where
  ex : ∃ (f : Addr) (fd : FuncData), FnOk P w K mg base CX0 n f fd ps (spD K F) ∧ Binds K fd ps [] ∧ PySem.W.keepIn K (.ref f) = true ∧ mg x = some (.ref f) ∧ PySem.W.nsIn K mainGlobals x = some (some (.ref f))
section
variable {X : Cx} {pos p : Pos} {a b c : Expr} {f h k : DEn} {es : List Expr} {t : DAn}
theorem Cal.mono {P : Program} {w : World} {K : PySem.W.Frag} {mg : Str → Option Value} {base : Heap} {n m : Nat} {x : Str} {ps : List Str} {F : Fn} (C : Cal P w K mg base n x ps F) (h : n ≤ m) : Cal P w K mg base m x ps F :=
  let ⟨f, fd, F, r⟩ := C.ex
  ⟨f, fd, F.mono h, r⟩
theorem de_call {n m : Nat} {x : Str} {ps : List Str} {F : Fn} (C : Cal X.prog X.w X.K X.mg X.base n x ps F) (hr : Room m X.A) (hn : n ≤ m) (hg : Gl X x) (ha : DA X (a :: es) t) (hdb : (x == ("__debug__" : Str)) = false := by decide)
    (he : starEach (a :: es) X.env = (false, eval a X.env) :: starEach es X.env := by rfl) (hpl : (backTo pos (starEach es X.env)).any (·.1) = false := by rfl) : DE X (.Call (.Name x p) (a :: es) [] pos) (dCall F t) := by
  obtain ⟨fa, fd, F1, F2, F3, F4, _⟩ := C.ex
  refine pe_to (pe_call F1 (hr.mono hn) hg F4 F3 F2 .nil pass0 ha hdb he hpl) fun σ H Q ⟨B, δ, r, rp, e, q⟩ => ?_
  obtain ⟨rs, e1, e⟩ := bs e
  refine ⟨B, δ, rs, rp, e1, fun vs H1 g1 i1 => ?_⟩
  show spD X.K F (vs ++ []) H1 Q E0
  rw [List.append_nil]
  have ao := args_of (rp.same.trans g1) i1
  exact ⟨rs.map R.arg, r, ao, e, fun v H2 g2 o => q v H2 (g1.trans g2) (o.is g1)⟩
end
end DL

namespace DL
open PySem PySem.Spec PyProof.Rows L2

/-! built-in functions -/
section
variable {X : Cx} {pos p : Pos} {a b c : Expr} {f h k : DEn} {es : List Expr} {t : DAn} {x : Str} {id T : String}
def rB (K : PySem.W.Frag) (g : List R → Option R) : List V → Hp → VK → Prop := fun vs H Q => ∃ B H0 rs r, Same B H ∧ IsRs K B H0 H rs vs ∧ g rs = some r ∧ ∀ v H', Same H H' → Out K H H' r v → Q v H'
theorem rdB (K : PySem.W.Frag) {t : DAn} {g : List R → Option R} (σ : St) (H : Hp) (Q : VK) (q : rd K (dB g t) σ H Q) : tCB (rB K g) (ra K t) σ H Q := by
  obtain ⟨B, δ, r, rp, e, q⟩ := q
  obtain ⟨rs, e1, e⟩ := bs e
  exact ⟨B, δ, rs, rp, e1, fun vs H1 g1 i1 => ⟨B, H, rs, r, rp.same.trans g1, i1, e, fun v H2 g2 o => q v H2 (g1.trans g2) (o.is g1)⟩⟩
theorem de_bi {g : List R → Option R} (hc : CallR X (.builtin id) (rB X.K g)) (hg : Gl X x) (hm : X.mg x = none) (hv : bootBuiltins x = some (.builtin id)) (ha : DA X (a :: es) t) (hn : x ≠ "__name__" := by decide) (hdb : (x == ("__debug__" : Str)) = false := by decide)
    (he : starEach (a :: es) X.env = (false, eval a X.env) :: starEach es X.env := by rfl) (hpl : (backTo pos (starEach es X.env)).any (·.1) = false := by rfl) : DE X (.Call (.Name x p) (a :: es) [] pos) (dB g t) :=
  pe_to (pe_callB hc hg hm hv ha hn hdb he hpl) (rdB X.K)
theorem de_ty {g : List R → Option R} (hc : CallR X (.type T) (rB X.K g)) (hg : Gl X x) (hm : X.mg x = none) (hv : bootBuiltins x = some (.type T)) (ha : DA X (a :: es) t) (hn : x ≠ "__name__" := by decide) (hdb : (x == ("__debug__" : Str)) = false := by decide)
    (he : starEach (a :: es) X.env = (false, eval a X.env) :: starEach es X.env := by rfl) (hpl : (backTo pos (starEach es X.env)).any (·.1) = false := by rfl) : DE X (.Call (.Name x p) (a :: es) [] pos) (dB g t) :=
  pe_to (pe_callTy hc hg hm hv ha hn hdb he hpl) (rdB X.K)
theorem isrs1 {K : PySem.W.Frag} {B H H' : Hp} {r : R} {vs : List V} (h : IsRs K B H H' [r] vs) : ∃ v, vs = [v] ∧ IsR K B H H' r v := by
  obtain ⟨v, ws, e, h1, h2⟩ := h
  have h2 : ws = [] := h2
  subst h2
  exact ⟨v, e, h1⟩
theorem isrs2 {K : PySem.W.Frag} {B H H' : Hp} {r r' : R} {vs : List V} (h : IsRs K B H H' [r, r'] vs) : ∃ v v', vs = [v, v'] ∧ IsR K B H H' r v ∧ IsR K B H H' r' v' := by
  obtain ⟨v, ws, e, h1, h2⟩ := h
  obtain ⟨v', e', h3⟩ := isrs1 h2
  subst e'
  exact ⟨v, v', e, h1, h3⟩
theorem c_len : CallR X (.builtin "len") (rB X.K gLen) := by
  intro pins s σ H xs us Q I rv h
  obtain ⟨B, H0, rs, r, sB, i1, e, q⟩ := h
  unfold gLen at e
  split at e
  · rename_i ds
    cases e
    obtain ⟨v, e1, i2⟩ := isrs1 i1
    subst e1
    have i2 : Has X.K H (.tup ds) v := i2
    simp only [Has] at i2
    obtain ⟨a, ys, e2, s2, l2⟩ := i2
    subst e2
    exact call_len_seq pins s σ H _ us Q I rv ⟨a, ys, rfl, .inr s2, q _ H (Same.refl _) (by simp only [Out, Has, l2.len])⟩
  · rename_i fl ds
    cases e
    obtain ⟨v, e1, i2⟩ := isrs1 i1
    subst e1
    obtain ⟨a, ys, e2, s2, l2⟩ := (i2.vw sB).sq
    subst e2
    exact call_len_seq pins s σ H _ us Q I rv ⟨a, ys, rfl, .inl s2, q _ H (Same.refl _) (by simp only [Out, Has, l2.len])⟩
  · cases e
theorem c_tuple : CallR X (.type "tuple") (rB X.K gTuple) := by
  intro pins s σ H xs us Q I rv h
  obtain ⟨B, H0, rs, r, sB, i1, e, q⟩ := h
  unfold gTuple at e
  split at e
  · rename_i ds
    cases e
    obtain ⟨v, e1, i2⟩ := isrs1 i1
    subst e1
    have i2 : Has X.K H (.tup ds) v := i2
    have i3 := i2
    simp only [Has] at i2
    obtain ⟨a, ys, e2, s2, l2⟩ := i2
    subst e2
    exact call_tuple_of pins s σ H _ us Q I rv ⟨a, ys, rfl, .inr ⟨s2, q _ H (Same.refl _) i3⟩⟩
  · rename_i fl ds
    cases e
    obtain ⟨v, e1, i2⟩ := isrs1 i1
    subst e1
    obtain ⟨a, ys, e2, s2, l2⟩ := (i2.vw sB).sq
    subst e2
    refine call_tuple_of pins s σ H _ us Q I rv ⟨a, ys, rfl, .inl ⟨s2, fun l hl => ?_⟩⟩
    have g := same_new hl (.tup ys)
    refine q _ _ g ?_
    show Has X.K _ (.tup ds) _
    simp only [Has]
    exact ⟨l, ys, rfl, SqT.of upd_same, l2.grow g⟩
  · cases e
theorem c_list : CallR X (.type "list") (rB X.K gList) := by
  intro pins s σ H xs us Q I rv h
  obtain ⟨B, H0, rs, r, sB, i1, e, q⟩ := h
  unfold gList at e
  split at e
  · rename_i ds
    cases e
    obtain ⟨v, e1, i2⟩ := isrs1 i1
    subst e1
    have i2 : Has X.K H (.tup ds) v := i2
    simp only [Has] at i2
    obtain ⟨a, ys, e2, s2, l2⟩ := i2
    subst e2
    refine call_list_of pins s σ H _ us Q I rv ⟨a, ys, rfl, .inr s2, fun l hl => ?_⟩
    have g := same_new hl (.lst ys)
    exact q _ _ g ⟨l, ys, rfl, hl, upd_same, l2.grow g⟩
  · rename_i fl ds
    cases e
    obtain ⟨v, e1, i2⟩ := isrs1 i1
    subst e1
    obtain ⟨a, ys, e2, s2, l2⟩ := (i2.vw sB).sq
    subst e2
    refine call_list_of pins s σ H _ us Q I rv ⟨a, ys, rfl, .inl s2, fun l hl => ?_⟩
    have g := same_new hl (.lst ys)
    exact q _ _ g ⟨l, ys, rfl, hl, upd_same, l2.grow g⟩
  · cases e
theorem c_max (hc : X.calm = true) : CallR X (.builtin "max") (rB X.K gMax) := by
  intro pins s σ H xs us Q I rv h
  obtain ⟨B, H0, rs, r, sB, i1, e, q⟩ := h
  unfold gMax at e
  split at e
  · rename_i i j
    cases e
    obtain ⟨v, v', e1, i2, i3⟩ := isrs2 i1
    subst e1
    have i2 : Has X.K H (.int i) v := i2
    have i3 : Has X.K H (.int j) v' := i3
    simp only [Has] at i2 i3
    subst i2
    subst i3
    exact call_max2 hc pins s σ H _ us Q I rv ⟨i, j, rfl, q _ H (Same.refl _) (by simp only [Out, Has])⟩
  · cases e
theorem c_min (hc : X.calm = true) : CallR X (.builtin "min") (rB X.K gMin) := by
  intro pins s σ H xs us Q I rv h
  obtain ⟨B, H0, rs, r, sB, i1, e, q⟩ := h
  unfold gMin at e
  split at e
  · rename_i i j
    cases e
    obtain ⟨v, v', e1, i2, i3⟩ := isrs2 i1
    subst e1
    have i2 : Has X.K H (.int i) v := i2
    have i3 : Has X.K H (.int j) v' := i3
    simp only [Has] at i2 i3
    subst i2
    subst i3
    exact call_min2 hc pins s σ H _ us Q I rv ⟨i, j, rfl, q _ H (Same.refl _) (by simp only [Out, Has])⟩
  · cases e
end

/-! isinstance(x, T), T a built-in type -/
def Ty.name : Ty → String
  | .int => "int" | .bool => "bool" | .tuple => "tuple" | .str => "str"
section
variable {X : Cx} {pos p p2 : Pos} {a : Expr} {f : DEn}
theorem kit_int (K : PySem.W.Frag) (T : Ty) : PySem.W.kitOne K (.type "int") (.type T.name) = some (isT T (.int 0)) := by cases T <;> rfl
theorem kit_bool (K : PySem.W.Frag) (T : Ty) : PySem.W.kitOne K (.type "bool") (.type T.name) = some (isT T (.bl true)) := by cases T <;> rfl
theorem kit_none (K : PySem.W.Frag) (T : Ty) : PySem.W.kitOne K (.type "NoneType") (.type T.name) = some (isT T .non) := by cases T <;> rfl
theorem kit_str (K : PySem.W.Frag) (T : Ty) : PySem.W.kitOne K (.type "str") (.type T.name) = some (isT T (.str (Str.ofString ""))) := by cases T <;> rfl
theorem kit_tuple (K : PySem.W.Frag) (T : Ty) : PySem.W.kitOne K (.type "tuple") (.type T.name) = some (isT T (.tup [])) := by cases T <;> rfl
theorem c_isi (T : Ty) : CallR X (.builtin "isinstance") (fun xs H Q => ∃ v x, xs = [v, .ty T.name] ∧ Has X.K H x v ∧ (∀ y, x ≠ .fu y) ∧ Q (.bl (isT T x)) H) := by
  intro pins s σ H xs us Q I rv h
  obtain ⟨v, x, e, hx, nf, q⟩ := h
  subst e
  obtain ⟨u, u', e, ru, ru'⟩ := vals2 rv
  subst e
  have ru' : u' = Value.type T.name := ru'
  subst ru'
  cases x with
  | fu y => exact (nf y rfl).elim
  | non =>
    simp only [Has] at hx
    subst hx
    exact isinst_ok I ru .non (kit_none _ T) fun tk => ⟨V.bl _, H, I.tok tk, rfl, q⟩
  | bl b =>
    simp only [Has] at hx
    subst hx
    refine isinst_ok I ru (.bl b) (kit_bool _ T) fun tk => ⟨V.bl _, H, I.tok tk, rfl, ?_⟩
    have e : isT T (.bl true) = isT T (.bl b) := by cases T <;> rfl
    rw [e]
    exact q
  | int i =>
    simp only [Has] at hx
    subst hx
    refine isinst_ok I ru (.int i) (kit_int _ T) fun tk => ⟨V.bl _, H, I.tok tk, rfl, ?_⟩
    have e : isT T (.int 0) = isT T (.int i) := by cases T <;> rfl
    rw [e]
    exact q
  | str y =>
    simp only [Has] at hx
    subst hx
    refine isinst_ok I ru (.str y) (kit_str _ T) fun tk => ⟨V.bl _, H, I.tok tk, rfl, ?_⟩
    have e : isT T (.str (Str.ofString "")) = isT T (.str y) := by cases T <;> rfl
    rw [e]
    exact q
  | tup ds =>
    simp only [Has] at hx
    obtain ⟨a, ys, e2, s2, l2⟩ := hx
    subst e2
    cases (show u = Value.ref a from ru)
    obtain ⟨its, rr, ht, hz⟩ := I.tuple s2
    obtain ⟨o, h1, h2, _⟩ := ht
    refine PySem.W.kia_one PySem.W.kitx_tuple I.kIn ⟨o, h1, h2⟩ (kit_tuple _ T) (fun z => nomatch z) fun tk => ⟨V.bl _, H, I.tok tk, rfl, ?_⟩
    have e : isT T (.tup []) = isT T (.tup ds) := by cases T <;> rfl
    rw [e]
    exact q
theorem de_isi (T : Ty) {x : Str} (hT : bootBuiltins x = some (.type T.name)) (ha : DE X a f) (hg : Gl X "isinstance") (hm : X.mg "isinstance" = none) (hg2 : Gl X x) (hm2 : X.mg x = none)
    (hn : x ≠ "__name__" := by decide) (hd : (x == ("__debug__" : Str)) = false := by decide)
    (he : starEach [a, .Name x p2] X.env = (false, eval a X.env) :: starEach [.Name x p2] X.env := by rfl) (he2 : starEach [.Name x p2] X.env = (false, eval (.Name x p2) X.env) :: starEach [] X.env := by rfl) (hpl : (backTo pos (starEach [.Name x p2] X.env)).any (·.1) = false := by rfl) :
    DE X (.Call (.Name "isinstance" p) [a, .Name x p2] [] pos) (d1 (gIs T) f) :=
  pe_to (pe_callB (c_isi T) hg hm boot_isinstance (pa_cons ha (pa_cons (pe_bltn hg2 hm2 hT (v := .ty T.name) rfl hn hd) pa_nil he2) he) (by decide) (by decide) he hpl) fun σ H Q ⟨B, δ, r, rp, e, q⟩ => by
    obtain ⟨x, ex, e⟩ := bs e
    refine ⟨B, δ, x, rp, ex, fun v H1 g1 i1 => ?_⟩
    cases x with
    | d x =>
      have nf : ∀ y, x ≠ .fu y := fun y z => by subst z; cases e
      have e' : gIs T (.d x) = some (.d (.bl (isT T x))) := by cases x <;> first | rfl | exact (nf _ rfl).elim
      rw [e'] at e
      cases e
      exact ⟨v, x, rfl, i1, nf, q _ H1 g1 (by simp only [IsR, Has])⟩
    | l _ _ => cases e
end
end DL

namespace DL
open PySem PySem.Spec PyProof.Rows L2

/-! statements -/
theorem TK.refl {K : PySem.W.Frag} (H : Hp) : TK K H H := fun _ _ h => h
theorem TK.trans {K : PySem.W.Frag} {H H1 H2 : Hp} (a : TK K H H1) (b : TK K H1 H2) : TK K H H2 := fun c o h => b c o (a c o h)
def en (X : Cx) (W : Hp → Prop) (D : Ends) (B H : Hp) : O → Prop
  | .ex => ∀ H', Same X.H₀ H' → W H'
  | .nx δ => ∀ B' σ' H', Same B B' → TK X.K H H' → Rep X.K B' δ σ' H' → D.nx σ' H'
  | .bk δ => ∀ B' σ' H', Same B B' → TK X.K H H' → Rep X.K B' δ σ' H' → D.bk σ' H'
  | .ct δ => ∀ B' σ' H', Same B B' → TK X.K H H' → Rep X.K B' δ σ' H' → D.ct σ' H'
  | .rt r => ∀ v H', Same X.H₀ H' → Out X.K X.H₀ H' r v → D.rt v H'
def sd (X : Cx) (W : Hp → Prop) (t : DSn) : TS := fun D σ H => ∃ B δ o, Same X.H₀ B ∧ Rep X.K B δ σ H ∧ t δ = some o ∧ en X W D B H o
theorem en.later {X : Cx} {W : Hp → Prop} {D : Ends} {B B' H H' : Hp} {o : O} (q : en X W D B H o) (sB : Same B B') (tk : TK X.K H H') : en X W D B' H' o := by
  cases o with
  | ex => exact q
  | nx δ => exact fun B2 σ2 H2 s2 t2 r2 => q B2 σ2 H2 (sB.trans s2) (tk.trans t2) r2
  | bk δ => exact fun B2 σ2 H2 s2 t2 r2 => q B2 σ2 H2 (sB.trans s2) (tk.trans t2) r2
  | ct δ => exact fun B2 σ2 H2 s2 t2 r2 => q B2 σ2 H2 (sB.trans s2) (tk.trans t2) r2
  | rt r => exact q
abbrev DS (X : Cx) (W : Hp → Prop) (st : Stmt) (t : DSn) : Prop := PS X st (sd X W t)
abbrev DSs (X : Cx) (W : Hp → Prop) (st : List Stmt) (t : DSn) : Prop := PSs X st (sd X W t)
abbrev no : Hp → Prop := fun _ => False
section
variable {X : Cx} {pos p p2 : Pos} {a b c : Expr} {f h k : DEn} {es : List Expr} {t : DTn} {st : Stmt} {rest body : List Stmt} {u v : DSn} {W : Hp → Prop}
theorem ds_nil : DSs X W [] sNx := pss_to pss_nil fun D σ H ⟨B, δ, o, sB, rp, e, q⟩ => by
  cases e
  exact q B σ H (Same.refl _) (TK.refl _) rp
theorem ds_cons (h1 : DS X W st u) (h2 : DSs X W rest v) : DSs X W (st :: rest) (sSeq u v) := pss_to (pss_cons h1 h2) fun D σ H ⟨B, δ, o, sB, rp, e, q⟩ => by
  obtain ⟨o1, e1, e⟩ := bs e
  refine ⟨B, δ, o1, sB, rp, e1, ?_⟩
  cases o1 with
  | nx δ' => exact fun B' σ' H' sB' tk' rp' => ⟨B', δ', o, sB.trans sB', rp', e, q.later sB' tk'⟩
  | bk δ' => cases e; exact q
  | ct δ' => cases e; exact q
  | rt r => cases e; exact q
  | ex => cases e; exact q
theorem ds_one (h1 : DS X W st u) : DSs X W [st] u := pss_one h1
theorem ds_pass : DS X W (.Pass pos) sNx := ps_to ps_pass fun D σ H ⟨B, δ, o, sB, rp, e, q⟩ => by
  cases e
  exact q B σ H (Same.refl _) (TK.refl _) rp
theorem ds_brk : DS X W (.Break pos) sBrk := ps_to ps_break fun D σ H ⟨B, δ, o, sB, rp, e, q⟩ => by
  cases e
  exact q B σ H (Same.refl _) (TK.refl _) rp
theorem ds_cont : DS X W (.Continue pos) sCont := ps_to ps_continue fun D σ H ⟨B, δ, o, sB, rp, e, q⟩ => by
  cases e
  exact q B σ H (Same.refl _) (TK.refl _) rp
theorem ds_ex (he : DE X a f) (hs : swapsWith a none pos.line X.env = pure false := by rfl) : DS X W (.Expr a pos) (sEx f) := ps_to (ps_expr he hs) fun D σ H ⟨B, δ, o, sB, rp, e, q⟩ => by
  obtain ⟨r, e1, e⟩ := ms e
  subst e
  exact ⟨B, δ, r, rp, e1, fun v H1 g1 i1 => q B σ H1 (Same.refl _) (Same.tk g1) (rp.grow g1)⟩
theorem out_ret {K : PySem.W.Frag} {B H H' H₀ : Hp} {r r' : R} {v : V} (g : Same H₀ H) (e : retR r = some r') (h : IsR K B H H' r v) : Out K H₀ H' r' v := by
  cases r with
  | d x => cases e; exact h
  | l fl ds =>
    cases fl with
    | own =>
      cases e
      obtain ⟨a, xs, e1, n, q⟩ := h
      exact ⟨a, xs, e1, g.free n, q⟩
    | bor => cases e
    | view => cases e
theorem ds_ret (he : DE X a f) : DS X W (.Return (some a) pos) (sRet f) := ps_to (ps_ret he) fun D σ H ⟨B, δ, o, sB, rp, e, q⟩ => by
  obtain ⟨r, e1, e⟩ := bs e
  obtain ⟨r', e2, e⟩ := ms e
  subst e
  have s1 := sB.trans rp.same
  exact ⟨B, δ, r, rp, e1, fun v H1 g1 i1 => q v H1 (s1.trans g1) (out_ret s1 e2 i1)⟩
theorem ds_retN : DS X W (.Return none pos) sRetN := ps_to ps_retN fun D σ H ⟨B, δ, o, sB, rp, e, q⟩ => by
  cases e
  exact q _ H (sB.trans rp.same) (by simp only [Out, Has])
theorem ds_retV (i : Nat) {x : Str} (hN : X.N[i]? = some x := by rfl) (hv : Vis X.env.scope x := by first | exact Or.inl rfl | exact Or.inr (Or.inl rfl) | exact Or.inr (Or.inr rfl)) (hd : (x == ("__debug__" : Str)) = false := by decide)
    (hcd : (x == ("__classdict__" : Str)) = false := by decide) : DS X W (.Return (some (.Name x p)) pos) (sRetV i) := ps_to (ps_ret (pe_var hN hv hd hcd)) fun D σ H ⟨B, δ, o, sB, rp, e, q⟩ => by
  unfold sRetV at e
  split at e
  · rename_i r e0
    obtain ⟨r', e2, e⟩ := ms e
    subst e
    obtain ⟨v, e1, hs⟩ := rp.at_ i r e0
    refine ⟨v, e1, q v H (sB.trans rp.same) ?_⟩
    cases r with
    | d x => cases e2; exact hs
    | l fl ds =>
      cases fl with
      | own =>
        cases e2
        obtain ⟨a, xs, e1, n, z, l⟩ := hs
        exact ⟨a, xs, e1, sB.free z, n, l⟩
      | bor => cases e2
      | view => cases e2
  · cases e
theorem ds_set (i : Nat) {x : Str} (hN : X.N.Nodup) (he : DE X a f) (hi : X.N[i]? = some x := by rfl) (hx : Loc X.env.scope x := by first | exact Or.inl rfl | exact Or.inr rfl) (hs : swapsWith a (some (.Name x p)) pos.line X.env = pure false := by rfl)
    (hf : X.fn x = true ∨ X.env.scope.names.lookup x = some .local := by first | exact .inl rfl | exact .inr rfl) : DS X W (.Assign [.Name x p] a pos) (sSet i f) := ps_to (ps_set hN hi hx he hs hf) fun D σ H ⟨B, δ, o, sB, rp, e, q⟩ => by
  obtain ⟨r, e1, e⟩ := bs e
  obtain ⟨r', e2, e⟩ := ms e
  subst e
  exact ⟨B, δ, r, rp, e1, fun v H1 g1 i1 => q B _ H1 (Same.refl _) (Same.tk g1) (rp.set g1 e2 i1)⟩
theorem ds_if (hc : DT X c t) (ha : DSs X W body u) (hb : DSs X W rest v) : DS X W (.If c body rest pos) (sIf t u v) := ps_to (ps_if hc ha hb) fun D σ H ⟨B, δ, o, sB, rp, e, q⟩ => by
  obtain ⟨x, e1, e⟩ := bs e
  refine ⟨B, δ, x, rp, e1, fun H1 g1 => ?_⟩
  cases x with
  | true => exact iteT ⟨B, δ, o, sB, rp.grow g1, e, q.later (Same.refl _) (Same.tk g1)⟩
  | false => exact iteF ⟨B, δ, o, sB, rp.grow g1, e, q.later (Same.refl _) (Same.tk g1)⟩
/-- x.append(e), x in the i-th slot a list made here -/
theorem ds_app (i : Nat) {x : Str} {ap cp : Pos} (he : DE X a f) (hN : X.N[i]? = some x := by rfl) (hv : Vis X.env.scope x := by first | exact Or.inl rfl | exact Or.inr (Or.inl rfl) | exact Or.inr (Or.inr rfl)) (hd : (x == ("__debug__" : Str)) = false := by decide)
    (hcd : (x == ("__classdict__" : Str)) = false := by decide) (hs : starEach [a] X.env = (false, eval a X.env) :: starEach [] X.env := by rfl) (hl : (ap.endLine == cp.line) = true := by rfl)
    (hfew : ((backTo cp (starEach [a] X.env)).all (fun x => !x.1) && (backToKw cp (keywordEach [] X.env)).all (fun x => x.1.isSome)
      && decide (([a] : List Expr).length + ([] : List Keyword).length + (if ([] : List Keyword).isEmpty then 0 else 1) < 30)) = true := by rfl)
    (hbase : attributeBase (.Name x p) "append" X.env (eval (.Name x p) X.env) = eval (.Name x p) X.env := by rfl)
    (hsw : swapsWith (.Call (.Attribute (.Name x p) "append" ap) [a] [] cp) none pos.line X.env = pure false := by rfl) : DS X W (.Expr (.Call (.Attribute (.Name x p) "append" ap) [a] [] cp) pos) (sApp i f) :=
  ps_to (ps_expr (pe_bm (T := "list") (id := "list.append") PySem.F.plainAttrs_list PySem.F.slot_list_append PySem.F.type_list_append mt_append (pe_var hN hv hd hcd) (pa_cons he pa_nil hs) hbase hfew hl hs rfl) hsw) fun D σ H ⟨B, δ, o, sB, rp, e, q⟩ => by
    obtain ⟨r, e1, e⟩ := bs e
    split at e
    · rename_i r0 y ds e2
      split at e
      · rename_i hz
        cases e
        obtain ⟨v, e3, w, xs, e4, hw, hB, hl⟩ := rp.at_ i _ e2
        subst e4
        refine ⟨_, e3, .inl ⟨rfl, xs, SqL.of hw⟩, B, δ, _, rp, e1, fun v H1 g1 i1 => ?_⟩
        have n := hl.len
        refine ⟨w, xs, v, rfl, rfl, g1 _ _ hw, Nat.lt_of_lt_of_le (by omega : xs.length < 10000) (by decide), q B σ _ (Same.refl _) ((Same.tk g1).trans (tk_upd (g1 _ _ hw))) ?_⟩
        exact (rp.grow g1).write e2 e3 (g1 _ _ hw) ((hl.grow g1).app (HasL.cons i1 HasL.nil))
      · cases e
    · cases e
theorem put_inv {r q : R} {o : Option (Option R)} {δ : Ev} {i : Nat} {o' : O} (e : (match r, q, o with
    | .d x, .d (.int n), some (some (.l .own ds)) => (ixP ds.length n).map fun j => O.nx (δ.set i (some (.l .own (ds.set j x))))
    | _, _, _ => none) = some o') : ∃ x n ds j, r = .d x ∧ q = .d (.int n) ∧ o = some (some (.l .own ds)) ∧ ixP ds.length n = some j ∧ o' = .nx (δ.set i (some (.l .own (ds.set j x)))) := by
  split at e
  · obtain ⟨j, e1, e2⟩ := ms e
    exact ⟨_, _, _, j, rfl, rfl, rfl, e1, e2.symm⟩
  · cases e
/-- x[k] = e -/
theorem ds_put (i : Nat) {x : Str} (he : DE X a f) (hk : DE X b k) (hN : X.N[i]? = some x := by rfl) (hv : Vis X.env.scope x := by first | exact Or.inl rfl | exact Or.inr (Or.inl rfl) | exact Or.inr (Or.inr rfl)) (hd : (x == ("__debug__" : Str)) = false := by decide)
    (hcd : (x == ("__classdict__" : Str)) = false := by decide)
    (ha : ∀ v, assign (.Subscript (.Name x p) b p2) X.env v = (do
      let ov ← holding [v] (eval (.Name x p) X.env)
      let iv ← holding [v, ov] (eval b X.env)
      standAt p2
      holding [v, ov, iv] (setItem ov iv v)
      release [v, ov, iv] []) := by intro _; rfl)
    (hs : swapsWithSole [.Subscript (.Name x p) b p2] a pos.line X.env = pure false := by rfl) (hw : swappedStores [.Subscript (.Name x p) b p2] a X.env = pure none := by rfl)
    (h1 : (assignEach [.Subscript (.Name x p) b p2] X.env).map (·.2) = [assign (.Subscript (.Name x p) b p2) X.env] := by rfl) : DS X W (.Assign [.Subscript (.Name x p) b p2] a pos) (sPut i k f) :=
  ps_to (ps_asg he (pg_sub (pe_var hN hv hd hcd) hk set_list ha) hs hw h1) fun D σ H ⟨B, δ, o, sB, rp, e, q⟩ => by
    obtain ⟨r, e1, e⟩ := bs e
    obtain ⟨z, e2, e⟩ := bs e
    obtain ⟨y, n, ds, j, rfl, rfl, e3, ej, rfl⟩ := put_inv e
    · obtain ⟨v, e4, w, xs, e5, hw, hB, hl⟩ := rp.at_ i _ e3
      subst e5
      refine ⟨B, δ, _, rp, e1, fun v H1 g1 i1 => ⟨_, e4, B, δ, _, rp.grow g1, e2, fun v2 H2 g2 i2 => ?_⟩⟩
      have i2 : Has X.K H2 (.int n) v2 := i2
      simp only [Has] at i2
      have g := g1.trans g2
      refine ⟨w, xs, n, j, rfl, i2, g _ _ hw, ?_, q B σ _ (Same.refl _) ((Same.tk g).trans (tk_upd (g _ _ hw))) ?_⟩
      · rw [← hl.len]; exact ej
      · exact (rp.grow g).write e3 e4 (g _ _ hw) (HasL.set (Has.grow g2 i1) j (hl.grow g))
/-! while -/
theorem ds_wh (hp : PassesOwn (model X.prog X.w) X.A X.env X.xe) (hc : DT X c t) (hb : DSs X W body u) : DS X W (.While c body [] pos) (sWh t u) := ps_to (ps_while hp hc hb) fun D σ H ⟨B, δ, o, sB, rp, e, q⟩ => by
  obtain ⟨n, e⟩ := of_sWh e
  refine ⟨fun m σ' H' => ∃ B' δ', Same X.H₀ B' ∧ Rep X.K B' δ' σ' H' ∧ whGo t u m δ' = some o ∧ en X W D B' H' o, ⟨n, B, δ, sB, rp, e, q⟩, ?_⟩
  rintro m σ1 H1 ⟨B1, δ1, sB1, rp1, e1, q1⟩
  cases m with
  | zero => cases e1
  | succ m =>
    unfold whGo at e1
    obtain ⟨cc, ec, e1⟩ := bs e1
    refine ⟨B1, δ1, cc, rp1, ec, fun H2 g2 => ?_⟩
    have q2 := q1.later (Same.refl _) (Same.tk g2)
    cases cc with
    | false =>
      cases e1
      exact iteF (q2 B1 σ1 H2 (Same.refl _) (TK.refl _) (rp1.grow g2))
    | true =>
      refine iteT ?_
      obtain ⟨o2, e2, e1⟩ := bs (show (u δ1).bind _ = some o from e1)
      refine ⟨fun σ' H' => ∃ B' δ', Same X.H₀ B' ∧ Rep X.K B' δ' σ' H' ∧ whGo t u m δ' = some o ∧ en X W D B' H' o, fun σ' H' z => ⟨m, Nat.lt_succ_self m, z⟩, B1, δ1, o2, sB1, rp1.grow g2, e2, ?_⟩
      cases o2 with
      | nx δ' => exact fun B3 σ3 H3 s3 t3 r3 => ⟨B3, δ', sB1.trans s3, r3, e1, q2.later s3 t3⟩
      | ct δ' => exact fun B3 σ3 H3 s3 t3 r3 => ⟨B3, δ', sB1.trans s3, r3, e1, q2.later s3 t3⟩
      | bk δ' => cases e1; exact q2
      | rt r => cases e1; exact q2
      | ex => cases e1; exact q2
end

/-! what is walked -/
def Yl (K : PySem.W.Frag) (B Hs : Hp) (J : It) (ds : List D) : Prop := ∀ H, Same B H → TK K Hs H → ∀ i : Nat,
  (∀ d, ds[i]? = some d → J.go i H) ∧ (∀ x H' d, J.yld i H x H' → ds[i]? = some d → H' = H ∧ Has K H d x) ∧ (ds.length ≤ i → J.stop i H)
def ri (K : PySem.W.Frag) (t : DIn) : TI := fun σ H R => ∃ B δ ds, Rep K B δ σ H ∧ t δ = some ds ∧ ∀ J H', Same H H' → Yl K B H' J ds → R J H'
/-- .. where nothing that stands is written (a comprehension) -/
def Yc (K : PySem.W.Frag) (Hs : Hp) (J : It) (ds : List D) : Prop := ∀ H, Same Hs H → ∀ i : Nat,
  (∀ d, ds[i]? = some d → J.go i H) ∧ (∀ x H' d, J.yld i H x H' → ds[i]? = some d → H' = H ∧ Has K H d x) ∧ (ds.length ≤ i → J.stop i H)
def rc (K : PySem.W.Frag) (t : DIn) : TI := fun σ H R => ∃ B δ ds, Rep K B δ σ H ∧ t δ = some ds ∧ ∀ J H', Same H H' → Yc K H' J ds → R J H'
abbrev DI (X : Cx) (tg e : Expr) (t : DIn) : Prop := PI X tg e (ri X.K t)
abbrev DC (X : Cx) (tg e : Expr) (t : DIn) : Prop := PI X tg e (rc X.K t)
theorem pi_to {X : Cx} {tg e : Expr} {t t' : TI} (h : PI X tg e t) (w : ∀ σ H R, t' σ H R → t σ H R) : PI X tg e t' := fun pins s σ H R I q => h pins s σ H R I (w σ H R q)
theorem pi_or {X : Cx} {tg e : Expr} {t t' : TI} (h : PI X tg e t) (h' : PI X tg e t') : PI X tg e (fun σ H R => t σ H R ∨ t' σ H R) := fun pins s σ H R I q => q.elim (h pins s σ H R I) (h' pins s σ H R I)
section
variable {X : Cx} {pos p p2 : Pos} {a b c tg : Expr} {f h k : DEn} {it : DIn}
theorem dc_of (hi : DI X tg a it) : DC X tg a it := pi_to hi fun σ H R ⟨B, δ, ds, rp, e, q⟩ =>
  ⟨B, δ, ds, rp, e, fun J H1 g1 y => q J H1 g1 fun H2 g2 i => y H2 ((rp.same.trans g1).trans g2) (Same.tk g2) i⟩
theorem yl_range {K : PySem.W.Frag} {B Hs : Hp} (m : Int) (n : Nat) : Yl K B Hs (Itr m n) ((List.range n).map fun (k : Nat) => D.int (m + (k : Int))) := by
  intro H sB tk i
  refine ⟨fun d e => ?_, fun x H' d y e => ?_, fun hl => ?_⟩
  · have := (List.getElem?_eq_some_iff.mp e).1
    show i < n
    simpa using this
  · obtain ⟨e1, e2⟩ := y
    subst e2
    refine ⟨e1, ?_⟩
    have hi : i < n := by
      have := (List.getElem?_eq_some_iff.mp e).1
      simpa using this
    rw [List.getElem?_map, List.getElem?_range hi] at e
    cases e
    simp only [Has]
  · show n ≤ i
    simpa using hl
theorem yl_tup {K : PySem.W.Frag} {B Hs : Hp} {a : Addr} {xs : List V} {ds : List D} (hs : SqT K Hs a xs) (hl : HasL K Hs ds xs) : Yl K B Hs (Itt K a) ds := by
  intro H sB tk i
  have s1 := tk a xs hs
  have l1 := HasL.mono tk _ _ hl
  refine ⟨fun d e => ?_, fun x H' d y e => ?_, fun hl => ?_⟩
  · obtain ⟨x, ex, _⟩ := l1.get e
    exact ⟨xs, x, s1, ex⟩
  · obtain ⟨e1, e2⟩ := y
    obtain ⟨w, ew, hw⟩ := l1.get e
    have := e2 xs s1
    rw [ew] at this
    cases this
    exact ⟨e1, hw⟩
  · exact ⟨xs, s1, by rw [← l1.len]; exact hl⟩
theorem yl_bor {K : PySem.W.Frag} {B Hs : Hp} {a : Addr} {xs : List V} {ds : List D} (hs : SqL K B a xs) (hl : HasL K B ds xs) : Yl K B Hs (Itl K a) ds := by
  intro H sB tk i
  have s1 := sB.seq hs
  have l1 := hl.grow sB
  refine ⟨fun d e => ?_, fun x H' d y e => ?_, fun hl => ?_⟩
  · obtain ⟨x, ex, _⟩ := l1.get e
    exact ⟨xs, x, s1, ex⟩
  · obtain ⟨e1, e2⟩ := y
    obtain ⟨w, ew, hw⟩ := l1.get e
    have := e2 xs s1
    rw [ew] at this
    cases this
    exact ⟨e1, hw⟩
  · exact ⟨xs, s1, by rw [← l1.len]; exact hl⟩
theorem yc_lst {K : PySem.W.Frag} {Hs : Hp} {a : Addr} {xs : List V} {ds : List D} (hs : SqL K Hs a xs) (hl : HasL K Hs ds xs) : Yc K Hs (Itl K a) ds := by
  intro H sB i
  have s1 := sB.seq hs
  have l1 := hl.grow sB
  refine ⟨fun d e => ?_, fun x H' d y e => ?_, fun hl => ?_⟩
  · obtain ⟨x, ex, _⟩ := l1.get e
    exact ⟨xs, x, s1, ex⟩
  · obtain ⟨e1, e2⟩ := y
    obtain ⟨w, ew, hw⟩ := l1.get e
    have := e2 xs s1
    rw [ew] at this
    cases this
    exact ⟨e1, hw⟩
  · exact ⟨xs, s1, by rw [← l1.len]; exact hl⟩
theorem di_to (ha : DE X a f) (hg : Gl X "range") (hm : X.mg "range" = none) (hs : starEach [a] X.env = [(false, eval a X.env)] := by rfl) : DI X tg (.Call (.Name "range" p) [a] [] pos) (iTo f) :=
  pi_to (pi_range1 hg hm (pa_cons ha pa_nil hs) hs) fun σ H R ⟨B, δ, ds, rp, e, q⟩ => by
    unfold iTo at e
    split at e
    · rename_i n e0
      split at e
      · rename_i hz
        cases e
        refine ⟨B, δ, _, rp, e0, fun v H1 g1 i1 => ⟨n, ?_, by omega, by omega, q _ H1 g1 ?_⟩⟩
        · have i1 : Has X.K H1 (.int n) v := i1
          simp only [Has] at i1
          rw [i1]
        · have := yl_range (K := X.K) (B := B) (Hs := H1) 0 n.toNat
          simpa using this
      · cases e
    · cases e
theorem di_from (ha : DE X a f) (hb : DE X b h) (hg : Gl X "range") (hm : X.mg "range" = none) (hs : starEach [a, b] X.env = [(false, eval a X.env), (false, eval b X.env)] := by rfl) (hs2 : starEach [b] X.env = [(false, eval b X.env)] := by rfl) :
    DI X tg (.Call (.Name "range" p) [a, b] [] pos) (iFrom f h) :=
  pi_to (pi_range2 hg hm (pa_cons ha (pa_cons hb pa_nil hs2) (by rw [hs, hs2])) hs hs2) fun σ H R ⟨B, δ, ds, rp, e, q⟩ => by
    unfold iFrom at e
    split at e
    · rename_i m n e0 e1
      split at e
      · rename_i hz
        cases e
        refine ⟨B, δ, _, rp, e0, fun v H1 g1 i1 => ⟨B, δ, _, rp.grow g1, e1, fun v2 H2 g2 i2 => ⟨m, n, ?_, by omega, q _ H2 (g1.trans g2) (yl_range _ _)⟩⟩⟩
        have i1 : Has X.K H1 (.int m) v := i1
        have i2 : Has X.K H2 (.int n) v2 := i2
        simp only [Has] at i1 i2
        rw [i1, i2]
      · cases e
    · cases e
end
end DL

namespace DL
open PySem PySem.Spec PyProof.Rows L2
section
variable {X : Cx} {pos p p2 : Pos} {a b c tg : Expr} {f h k : DEn} {it : DIn} {body : List Stmt} {u : DSn} {W : Hp → Prop}
theorem di_seq (ha : DE X a f) : DI X tg a (iSeq f) := pi_to (pi_or (pi_tup ha) (pi_list ha)) fun σ H R ⟨B, δ, ds, rp, e, q⟩ => by
  unfold iSeq at e
  split at e
  · rename_i ds' e0
    cases e
    refine .inl ⟨B, δ, _, rp, e0, fun v H1 g1 i1 => ?_⟩
    have i1 : Has X.K H1 (.tup ds) v := i1
    simp only [Has] at i1
    obtain ⟨w, xs, e1, s1, l1⟩ := i1
    exact ⟨w, e1, ⟨xs, s1⟩, q _ H1 g1 (yl_tup s1 l1)⟩
  · rename_i ds' e0
    cases e
    refine .inr ⟨B, δ, _, rp, e0, fun v H1 g1 i1 => ?_⟩
    obtain ⟨w, xs, e1, s1, l1⟩ := i1
    exact ⟨w, e1, ⟨xs, (rp.same.trans g1).seq s1⟩, q _ H1 g1 (yl_bor s1 l1)⟩
  · cases e
theorem dc_any (ha : DE X a f) : DC X tg a (iAny f) := pi_to (pi_or (pi_tup ha) (pi_list ha)) fun σ H R ⟨B, δ, ds, rp, e, q⟩ => by
  unfold iAny at e
  split at e
  · rename_i ds' e0
    cases e
    refine .inl ⟨B, δ, _, rp, e0, fun v H1 g1 i1 => ?_⟩
    have i1 : Has X.K H1 (.tup ds) v := i1
    simp only [Has] at i1
    obtain ⟨w, xs, e1, s1, l1⟩ := i1
    exact ⟨w, e1, ⟨xs, s1⟩, q _ H1 g1 fun H2 g2 i => yl_tup (B := H1) s1 l1 H2 g2 (Same.tk g2) i⟩
  · rename_i fl ds' e0
    cases e
    refine .inr ⟨B, δ, _, rp, e0, fun v H1 g1 i1 => ?_⟩
    obtain ⟨w, xs, e1, s1, l1⟩ := (i1.vw (rp.same.trans g1)).sq
    exact ⟨w, e1, ⟨xs, s1⟩, q _ H1 g1 (yc_lst s1 l1)⟩
  · cases e
/-- the loop, once the walk is known -/
theorem for_go {i : Nat} {J : It} {ds : List D} {B0 Hs : Hp} {o : O} {σ : St} {H : Hp} {δ : Ev} {E : Ends} (hN : X.N.Nodup) (y : Yl X.K B0 Hs J ds) (sB : Same X.H₀ B0) (rp : Rep X.K B0 δ σ H) (tk : TK X.K Hs H) (e : foGo i u ds δ = some o) (q : en X W E B0 H o) :
    ∃ Z : Nat → Nat → St → Hp → Prop, (∃ m, Z 0 m σ H) ∧ ∀ j m σ H, Z j m σ H →
      (J.stop j H ∧ E.nx σ H) ∨ (J.go j H ∧ ∃ N : St → Hp → Prop, (∀ σ' H', N σ' H' → ∃ m', m' < m ∧ Z (j + 1) m' σ' H') ∧ ∀ x H', J.yld j H x H' → gName i x σ H' fun σ2 H2 => sd X W u { E with nx := N, ct := N, bk := E.nx } σ2 H2) := by
  refine ⟨fun j m σ' H' => j ≤ ds.length ∧ m = ds.length - j ∧ ∃ B' δ', Same B0 B' ∧ TK X.K Hs H' ∧ Rep X.K B' δ' σ' H' ∧ foGo i u (ds.drop j) δ' = some o ∧ en X W E B' H' o, ⟨ds.length, Nat.zero_le _, rfl, B0, δ, Same.refl _, tk, rp, by simpa using e, q⟩, ?_⟩
  rintro j m σ1 H1 ⟨hj, hm, B1, δ1, s1, t1, rp1, e1, q1⟩
  obtain ⟨y1, y2, y3⟩ := y H1 (s1.trans rp1.same) t1 j
  by_cases hl : j < ds.length
  · have hd : ds.drop j = ds[j] :: ds.drop (j + 1) := List.drop_eq_getElem_cons hl
    have hg : ds[j]? = some ds[j] := List.getElem?_eq_getElem hl
    rw [hd] at e1
    unfold foGo at e1
    obtain ⟨o1, eo, e1⟩ := bs e1
    refine .inr ⟨y1 _ hg, fun σ' H' => ∃ B' δ', Same B0 B' ∧ TK X.K Hs H' ∧ Rep X.K B' δ' σ' H' ∧ foGo i u (ds.drop (j + 1)) δ' = some o ∧ en X W E B' H' o, fun σ' H' z => ⟨ds.length - (j + 1), by omega, by omega, rfl, z⟩, fun x H' yy => ?_⟩
    obtain ⟨z1, z2⟩ := y2 x H' _ yy hg
    subst z1
    have rp2 : Rep X.K B1 (δ1.set i (some (.d ds[j]))) (σ1.set i (some x)) H' := rp1.set (r := .d ds[j]) (Same.refl _) rfl z2
    refine ⟨B1, _, o1, sB.trans s1, rp2, eo, ?_⟩
    cases o1 with
    | nx δ' => exact fun B3 σ3 H3 s3 t3 r3 => ⟨B3, δ', s1.trans s3, t1.trans t3, r3, e1, q1.later s3 t3⟩
    | ct δ' => exact fun B3 σ3 H3 s3 t3 r3 => ⟨B3, δ', s1.trans s3, t1.trans t3, r3, e1, q1.later s3 t3⟩
    | bk δ' => cases e1; exact q1
    | rt r => cases e1; exact q1
    | ex => cases e1; exact q1
  · have hz : ds.drop j = [] := List.drop_eq_nil_of_le (by omega)
    rw [hz] at e1
    cases e1
    exact .inl ⟨y3 (by omega), q1 B1 σ1 H1 (Same.refl _) (TK.refl _) rp1⟩
theorem ds_for (i : Nat) {x : Str} (hp : PassesOwn (model X.prog X.w) X.A X.env X.xe) (hc : X.calm = true) (hN : X.N.Nodup) (hi : DI X (.Name x p) a it) (hb : DSs X W body u) (hx : X.N[i]? = some x := by rfl) (hl : Loc X.env.scope x := by first | exact Or.inl rfl | exact Or.inr rfl)
    (hf : X.fn x = true ∨ X.env.scope.names.lookup x = some .local := by first | exact .inl rfl | exact .inr rfl) (hs : ∀ x, foldedSetIterable a X.env x = pure x := by intro _; rfl) : DS X W (.For (.Name x p) a body [] pos) (sFor i it u) :=
  ps_to (ps_for hp hc hi (pg_name hN hx hl hf) hb hs) fun D σ H ⟨B, δ, o, sB, rp, e, q⟩ => by
    obtain ⟨ds, e1, e⟩ := bs e
    exact ⟨B, δ, ds, rp, e1, fun J H1 g1 y => for_go hN y sB (rp.grow g1) (TK.refl _) e (q.later (Same.refl _) (Same.tk g1))⟩
/-- for x in y, y a name -/
theorem ds_forV (i j : Nat) {x y : Str} (hp : PassesOwn (model X.prog X.w) X.A X.env X.xe) (hc : X.calm = true) (hN : X.N.Nodup) (hb : DSs X W body u) (hx : X.N[i]? = some x := by rfl) (hl : Loc X.env.scope x := by first | exact Or.inl rfl | exact Or.inr rfl)
    (hf : X.fn x = true ∨ X.env.scope.names.lookup x = some .local := by first | exact .inl rfl | exact .inr rfl) (hs : ∀ x, foldedSetIterable (.Name y p2) X.env x = pure x := by intro _; rfl)
    (hy : X.N[j]? = some y := by rfl) (hv : Vis X.env.scope y := by first | exact Or.inl rfl | exact Or.inr (Or.inl rfl) | exact Or.inr (Or.inr rfl)) (hd : (y == ("__debug__" : Str)) = false := by decide) (hcd : (y == ("__classdict__" : Str)) = false := by decide) :
    DS X W (.For (.Name x p) (.Name y p2) body [] pos) (sForV i j u) :=
  ps_to (ps_for hp hc (pi_or (pi_tup (pe_var hy hv hd hcd)) (pi_list (pe_var hy hv hd hcd))) (pg_name hN hx hl hf) hb hs) fun D σ H ⟨B, δ, o, sB, rp, e, q⟩ => by
    unfold sForV at e
    split at e
    · rename_i ds e0
      obtain ⟨v, e1, hh⟩ := rp.at_ j _ e0
      have hh : Has X.K H (.tup ds) v := hh
      simp only [Has] at hh
      obtain ⟨w, xs, e2, s1, l1⟩ := hh
      subst e2
      exact .inl ⟨_, e1, w, rfl, ⟨xs, s1⟩, for_go hN (yl_tup s1 l1) sB rp (TK.refl _) e q⟩
    · rename_i ds e0
      obtain ⟨v, e1, w, xs, e2, s1, l1⟩ := rp.at_ j _ e0
      subst e2
      exact .inr ⟨_, e1, w, rfl, ⟨xs, rp.same.seq s1⟩, for_go hN (yl_bor s1 l1) sB rp (TK.refl _) e q⟩
    · rename_i ds e0
      obtain ⟨B', w, xs, sB', rp', e1, s1, l1⟩ := rp.lend e0
      exact .inr ⟨_, e1, w, rfl, ⟨xs, rp'.same.seq s1⟩, for_go hN (yl_bor s1 l1) (sB.trans sB') rp' (TK.refl _) e (q.later sB' (TK.refl _))⟩
    · cases e
end

/-! a def -/
theorem rep_start {K : PySem.W.Frag} {H : Hp} {N : List Str} {rs : List R} {vs : List V} (h : ArgsOk K H rs vs) (hl : rs.length ≤ N.length) : Rep K H (rs.map some ++ List.replicate (N.length - rs.length) none) (L2.start N vs) H := by
  have all : ∀ {rs : List R} {vs : List V}, ArgsOk K H rs vs → ∀ (i : Nat) r, rs[i]? = some r → ∃ v, vs[i]? = some v ∧ IsS K H H r v ∧ ∀ ds, r ≠ .l .own ds := by
    intro rs
    induction rs with
    | nil => intro vs _ i r e; simp at e
    | cons r0 rs ih =>
      intro vs h i r e
      obtain ⟨v, ws, e1, h1, h2, h3⟩ := h
      subst e1
      cases i with
      | zero => simp at e; subst e; exact ⟨v, rfl, h1, h2⟩
      | succ i => simp at e; simpa using ih h3 i r e
  have ln := h.len
  have pick : ∀ (i : Nat) r, (rs.map some ++ List.replicate (N.length - rs.length) none)[i]? = some (some r) → rs[i]? = some r := by
    intro i r e
    by_cases hi : i < rs.length
    · rw [List.getElem?_append_left (by simpa using hi), List.getElem?_map] at e
      cases hr : rs[i]? with
      | none => rw [hr] at e; cases e
      | some r' => rw [hr] at e; cases e; rfl
    · rw [List.getElem?_append_right (by simpa using hi), List.getElem?_replicate] at e
      split at e <;> cases e
  refine ⟨Same.refl _, ?_, fun i r e => ?_, fun i j ds es a e1 _ _ _ => ?_⟩
  · unfold L2.start
    simp [ln]
  · obtain ⟨v, e1, h1, _⟩ := all h i r (pick i r e)
    refine ⟨v, ?_, h1⟩
    have hi : i < vs.length := (List.getElem?_eq_some_iff.mp e1).1
    unfold L2.start
    rw [List.getElem?_append_left (by simpa using hi), List.getElem?_map, e1]
    rfl
  · obtain ⟨_, _, _, h2⟩ := all h i _ (pick i _ e1)
    exact (h2 ds rfl).elim
section
variable {P : Program} {w : World} {K : PySem.W.Frag} {mg : Str → Option Value} {base : Heap}
theorem fn_len {n N : Nat} {body : DSn} {rs : List R} {r : R} (e : fn n N body rs = some r) : rs.length = n := by
  unfold fn at e
  split at e
  · assumption
  · cases e
theorem fnok_of {x : Str} {st : Stmt} {f : Addr} {fd : FuncData} {N ps : List Str} {k : Nat} {body : DSn} (F : Fun K x x st f fd) (S : FnScope N ps (defScope st))
    (hbody : ∀ (cdv : Value) (A : Around) (outer : List Env) (s : Shared) (H : Hp) (E : XK), Room k (A.deeper (envOfC x (defScope st) s.heap.objs.size f cdv)) →
      DSs (cxOf CX0 P w K mg base N x (defScope st) f cdv A outer s H E).nox no (defBody st) body) :
    FnOk P w K mg base CX0 (k + 1) f fd ps (spD K (fn ps.length N.length body)) := by
  refine F.ok S (fun vs H Q E h => ?_) (fun cdv A outer s H vs Q E hr h => ?_)
  · obtain ⟨rs, r, h1, h2, _⟩ := h
    rw [← h1.len]
    exact fn_len h2
  · obtain ⟨rs, r, h1, h2, q⟩ := h
    refine ⟨_, hbody cdv A outer s H E hr, ?_⟩
    have hn := fn_len h2
    unfold fn at h2
    rw [if_pos hn] at h2
    obtain ⟨o, e1, e2⟩ := bs h2
    have hN : ps.length ≤ N.length := by have := congrArg List.length S.pre; rw [List.length_take] at this; omega
    refine ⟨H, _, o, Same.refl _, rep_start h1 (by omega), by rw [hn]; exact e1, ?_⟩
    cases o with
    | nx δ =>
      cases e2
      exact fun B' σ' H' s1 _ rp => q _ H' (s1.trans rp.same) (by simp only [Out, Has])
    | rt r' => cases e2; exact fun v H' s1 o => q v H' s1 o
    | bk δ => cases e2
    | ct δ => cases e2
    | ex => cases e2
theorem cal_of {x : Str} {st : Stmt} {f : Addr} {fd : FuncData} {N ps : List Str} {k : Nat} {body : DSn} (F : Fun K x x st f fd) (hm : mg x = some (.ref f)) (hn : PySem.W.nsIn K mainGlobals x = some (some (.ref f))) (S : FnScope N ps (defScope st))
    (hb : ∀ (kV doc pm : Value) (an : Option Addr) (cdv ct : Value) (us : List Value), us.length = ps.length → bindArgs (PySem.W.fnOf x x (defArgs st) (defBody st) (defScope st) .none kV doc pm an cdv ct) ⟨us, []⟩ = pure (ps.zip us))
    (hbody : ∀ (cdv : Value) (A : Around) (outer : List Env) (s : Shared) (H : Hp) (E : XK), Room k (A.deeper (envOfC x (defScope st) s.heap.objs.size f cdv)) →
      DSs (cxOf CX0 P w K mg base N x (defScope st) f cdv A outer s H E).nox no (defBody st) body) :
    Cal P w K mg base (k + 1) x ps (fn ps.length N.length body) := ⟨f, fd, fnok_of F S hbody, F.binds hb, F.kp, hm, hn⟩
theorem cal_zero {n : Nat} {x : Str} {st : Stmt} {f : Addr} {fd : FuncData} {ps : List Str} (F : Fun K x x st f fd) (hm : mg x = some (.ref f)) (hn : PySem.W.nsIn K mainGlobals x = some (some (.ref f)))
    (hb : ∀ (kV doc pm : Value) (an : Option Addr) (cdv ct : Value) (us : List Value), us.length = ps.length → bindArgs (PySem.W.fnOf x x (defArgs st) (defBody st) (defScope st) .none kV doc pm an cdv ct) ⟨us, []⟩ = pure (ps.zip us)) :
    Cal P w K mg base n x ps (fun _ => none) := by
  have no : ∀ vs H Q E, ¬ spD K (fun _ => none) vs H Q E := fun vs H Q E h => by
    obtain ⟨rs, r, _, e, _⟩ := h
    cases e
  exact ⟨f, fd, ⟨fun vs H Q E h => absurd h (no vs H Q E), fun A outer s H args us vs Q E _ _ _ _ h => absurd h (no vs H Q E)⟩, F.binds hb, F.kp, hm, hn⟩
end
end DL

namespace DL
open PySem PySem.Spec PyProof.Rows L2

/-! comprehensions: [e for x in it if t] -/
/-- the cells that the block sees -/
def capC (names : List (Str × NameKind)) (cells : List (Str × Addr)) : List (Str × Addr) := names.foldl (fun cs nk => if nk.2 == NameKind.free then (match cells.lookup nk.1 with | some c => (nk.1, c) :: cs | none => cs) else cs) []
/-- the block's context -/
def cxC (X : Cx) (x : Str) (cs : List Str) (scope : Scope) (C : Addr) (s : Shared) (H : Hp) (ex : List Addr) (cl : List (Str × Addr)) : Cx :=
  { X with N := x :: cs, s₀ := s, H₀ := H, env := compEnvC scope cl C X.env, outer := X.stack, stack := X.stack, ex := ex, fn := fun _ => false, pn := [], xe := fun _ _ => False }
/-- what must be seen of the text -/
structure CpOk (X : Cx) (x : Str) (cs : List Nat) (ns : List Str) (scope : Scope) (cl : List (Str × Addr)) : Prop where
  kind : scope.kind = .function
  clos : closureFor scope X.env = pure cl
  cell : ∀ y ∈ scope.names, y.2 ≠ .cell
  names : ∀ y ∈ scope.names, y.2 = .local → scope.names.lookup y.1 = some .local
  loc : scope.names.lookup x = some .local
  sub : ∀ y c, cl.lookup y = some c → X.env.cells.lookup y = some c
  has : ∀ y, (relabel scope X.env).names.lookup y = some .cell ∨ (relabel scope X.env).names.lookup y = some .free → ∃ c, cl.lookup y = some c
  nd : (x :: ns).Nodup
  at_ : ns = cs.map fun i => X.N.getD i ""
  lt : ∀ i ∈ cs, i < X.N.length
  cap : ∀ y ∈ ns, X.env.kindOf y = some .cell ∧ (relabel scope X.env).names.lookup y = some .cell
section
variable {X : Cx} {x : Str} {cs : List Nat} {ns : List Str} {scope : Scope} {cl : List (Str × Addr)} {pins : List (Addr × Obj)} {σ : St} {H : Hp} {s s4 : Shared} {ex : List Addr} {C : Addr}
/-- the block's state at its entry: I stands ahead of the block's own frame -/
theorem comp_inv (O : CpOk X x cs ns scope cl) (I : Inv X pins σ H s) (hf : ∀ b ∈ ex, FpOk X pins H b) (hex : ∀ b ∈ ex, b < s.heap.objs.size) (hC : C = s.heap.objs.size) {h4 : Heap} {tk : Nat} {m : Str → Option Value} (hn : h4.Ns C m)
    (hk : ∀ b o, s.heap.get? b = some o → h4.get? b = some o) :
    Inv (cxC X x ns scope C s H ex cl) [] (none :: cs.map fun i => (σ[i]?).join) H { s with heap := h4, toks := tk } := by
  subst hC
  have stk : ∀ b ∈ frs X.stack, b ∉ ex := fun b hb hx => by
    rcases List.mem_cons.mp (I.stkSub b hb) with e | hb
    · exact (hf b hx).2.1 e
    · exact (hf b hx).2.2.1 hb
  refine ⟨⟨I.ok.mod, ?_, I.ok.glob, I.ok.blt, Nat.le_refl _, ?_, ?_, ?_, I.ok.hd, I.ok.frames, .inl rfl, ?_, I.bs, ?_, ?_, ?_, I.stack, I.stkFree⟩, rfl, I.bare, Un.kept hk, ⟨m, hn, ?_⟩, ?_, ?_, ?_, ?_, I.hok.kept hk, ?_⟩
  · show (relabel scope X.env).kind = .function
    exact O.kind
  · intro y z c h1 h2
    exact I.ok.inj y z c (O.sub y c h1) (O.sub z c h2)
  · intro y hy
    exact O.has y hy
  · intro y c h _
    cases h
  · intro b hb
    exact ⟨Nat.ne_of_lt (hex b hb), fun y c h => (hf b hb).2.2.2.2.1 y c (O.sub y c h)⟩
  · exact Nat.le_trans I.ok.bsz I.sz
  · intro b o e hb
    rcases (hf b hb).2.2.2.1 with z | z
    · exact I.ok.noex b o e z
    · have := (I.ok.bs b o e).1
      exact absurd (Nat.lt_of_lt_of_le (Heap.lt_size this) z) (Nat.lt_irrefl _)
  · intro b hb hb2
    exact stk b hb2 hb
  · intro i y v e1 e2 e3
    cases i with
    | zero => simp at e2
    | succ i =>
      have e1 : ns[i]? = some y := by simpa [cxC] using e1
      have e2 : (cs.map fun i => (σ[i]?).join)[i]? = some (some v) := by simpa using e2
      rw [List.getElem?_map] at e2
      cases hc : cs[i]? with
      | none => rw [hc] at e2; cases e2
      | some j =>
        rw [hc] at e2
        have e2 : (σ[j]?).join = some v := by simpa using e2
        have e4 : σ[j]? = some (some v) := by
          cases hj : σ[j]? with
          | none => rw [hj] at e2; cases e2
          | some z => rw [hj] at e2; simpa using e2
        have hjm : j ∈ cs := List.mem_of_getElem? hc
        have hyN : X.N[j]? = some y := by
          have hl := O.lt j hjm
          have : ns[i]? = some (X.N.getD j "") := by rw [O.at_, List.getElem?_map, hc]; rfl
          rw [e1] at this
          rw [List.getElem?_eq_getElem hl]
          have q := Option.some.inj this
          rw [List.getD_eq_getElem?_getD, List.getElem?_eq_getElem hl] at q
          simpa using q.symm
        obtain ⟨hk1, hk2⟩ := O.cap y (List.mem_of_getElem? e1)
        obtain ⟨m0, hn0, hl0⟩ := I.loc
        obtain ⟨u, r, l⟩ := hl0 j y v hyN e4 (.inr (.inl hk1))
        refine ⟨u, r, .inr ⟨.inl hk2, ?_⟩⟩
        rcases l with ⟨z, _⟩ | ⟨_, c, hc1, hc2⟩
        · rw [hk1] at z; cases z
        · obtain ⟨c', hc'⟩ := O.has y (.inl hk2)
          have := O.sub y c' hc'
          rw [hc1] at this
          cases this
          obtain ⟨o, ho, hd⟩ := hc2
          exact ⟨c, hc', o, hk _ _ ho, hd⟩
  · intro y c h
    obtain ⟨v, o, ho, hd⟩ := I.cell y c (O.sub y c h)
    exact ⟨v, o, hk _ _ ho, hd⟩
  · exact I.hok.fresh (Nat.le_refl _)
  · intro y c h
    exact I.freeC y c (O.sub y c h)
  · intro p hp
    exact absurd (show p ∈ ([] : List (Addr × Obj)) from hp) (by simp)
  · show (none :: cs.map fun i => (σ[i]?).join).length = (x :: ns).length
    rw [O.at_]
    simp
/-- behind the block -/
theorem comp_back {H' : Hp} {σ' : St} {s5 : Shared} {h6 : Heap} (I : Inv X pins σ H s) (hf : ∀ b ∈ ex, FpOk X pins H b) (hC : C = s.heap.objs.size) (J : Inv (cxC X x ns scope C s H ex cl) [] σ' H' s5) (hs : Heap.SameBut C s5.heap h6) : Inv X pins σ H' { s5 with heap := h6 } := by
  subst hC
  have U : Un (frs X.stack) ex H H' s.heap s5.heap := J.base
  have ne : ∀ b o, s.heap.get? b = some o → b ≠ s.heap.objs.size := fun b o e => Nat.ne_of_lt (Heap.lt_size e)
  have fr : H' s.heap.objs.size = none := J.free
  have U6 : Un (frs X.stack) ex H H' s.heap h6 := by
    refine ⟨fun b o e n hb hx => ?_, fun b o e n hb hx => ?_, U.free, fun b o e hx => ?_, U.tups, U.frzs, U.tbls⟩
    · exact (hs.2 b (ne b o e)).trans (U.keep b o e n hb hx)
    · obtain ⟨sl, q⟩ := U.slot b o e n hb hx
      exact ⟨sl, (hs.2 b (ne b o e)).trans q⟩
    · obtain ⟨o', q⟩ := U.there b o e hx
      exact ⟨o', (hs.2 b (ne b o e)).trans q⟩
  have hok : HOk X.prog X.w H' h6 := fun b o e => by
    refine (J.hok b o e).stay (fun c v hc q => (hs.2 c ?_).trans q) (fun _ q => q) fun _ _ q => q
    rintro rfl
    rcases hc with rfl | hc
    · rw [fr] at e; cases e
    · rw [fr] at hc; cases hc
  refine I.call' (s' := { s5 with heap := h6 }) J.os U6 hok J.bare fun b hb => ?_
  obtain ⟨_, f1, _, f3, f4, f5⟩ := hf b hb
  exact ⟨f3, f1, f4, f5⟩
end
end DL

namespace DL
open PySem PySem.Spec PyProof.Rows L2
section
variable {X : Cx} {x : Str} {cs : List Nat} {ns : List Str} {scope : Scope} {cl : List (Str × Addr)} {pins : List (Addr × Obj)} {σ : St} {H : Hp} {s s4 : Shared} {ex : List Addr} {C : Addr}
theorem arg_slot {K : PySem.W.Frag} {B H : Hp} {r : R} {v : V} (g : Same B H) (h : IsS K B H r v) : IsS K H H r.arg v ∧ ∀ ds, r.arg ≠ .l .own ds := by
  cases r with
  | d y => exact ⟨h, fun ds z => by cases z⟩
  | l fl ds =>
    refine ⟨?_, fun ds z => by cases z⟩
    cases fl with
    | own => obtain ⟨a, xs, e, q, n, t⟩ := h; exact ⟨a, xs, e, SqL.of q, t⟩
    | bor => obtain ⟨a, xs, e, q, t⟩ := h; exact ⟨a, xs, e, g.seq q, t.grow g⟩
    | view => exact False.elim h
/-- the names of the block -/
theorem rep_comp {K : PySem.W.Frag} {B H H' : Hp} {δ : Ev} {σ : St} (rp : Rep K B δ σ H) (g : Same H H') {d : D} {v : V} (h : Has K H' d v) : Rep K H (some (.d d) :: capsOf cs δ) (some v :: cs.map fun i => (σ[i]?).join) H' := by
  have pick : ∀ (i : Nat) r, (capsOf cs δ)[i]? = some (some r) → ∃ v, (cs.map fun i => (σ[i]?).join)[i]? = some (some v) ∧ IsS K H H r v ∧ ∀ ds, r ≠ .l .own ds := by
    intro i r e
    unfold capsOf at e
    rw [List.getElem?_map] at e
    rw [List.getElem?_map]
    cases hc : cs[i]? with
    | none => rw [hc] at e; cases e
    | some j =>
      rw [hc] at e
      have e : (δ[j]?.join).map R.arg = some r := by simpa using e
      obtain ⟨r0, e0, e1⟩ := ms e
      have e2 : δ[j]? = some (some r0) := by
        cases hj : δ[j]? with
        | none => rw [hj] at e0; cases e0
        | some z => rw [hj] at e0; simpa using e0
      obtain ⟨w, q1, q2⟩ := rp.at_ j r0 e2
      subst e1
      obtain ⟨a1, a2⟩ := arg_slot rp.same q2
      exact ⟨w, by simp [q1], a1, a2⟩
  refine ⟨g, by simp [capsOf], fun i r e => ?_, fun i j ds es a e1 _ _ _ => ?_⟩
  · cases i with
    | zero => simp at e; subst e; exact ⟨v, rfl, h⟩
    | succ i =>
      obtain ⟨w, q1, q2, _⟩ := pick i r (by simpa using e)
      exact ⟨w, by simpa using q1, q2.grow g⟩
  · cases i with
    | zero => simp at e1
    | succ i =>
      obtain ⟨_, _, _, q⟩ := pick i _ (by simpa using e1)
      exact (q ds rfl).elim
def TstOk (Y : Cx) (ifs : List Expr) (t : DTn) : Prop := ∀ (pins : List (Addr × Obj)) (s : Shared) (σ : St) (H : Hp) (Q : Bool → Hp → Prop), Inv Y pins σ H s → rt Y.K t σ H Q →
  wpAny (model Y.prog Y.w) Y.A (forIn ifs true fun c r => if r = true then do let ok ← isTrue c Y.env (eval c Y.env); pure (ForInStep.yield ok) else pure (ForInStep.yield r)) (TP Y pins σ Q) Y.xe s
theorem tst_nil {Y : Cx} : TstOk Y [] qYes := fun pins s σ H Q I ⟨B, δ, b, rp, e, q⟩ => by
  cases e
  exact wpAny_tests_nil ⟨H, I, q H (Same.refl _)⟩
theorem tst_one {Y : Cx} {c : Expr} {t : DTn} (hc : DT Y c t) : TstOk Y [c] t := fun pins s σ H Q I h => wpAny_tests_one (hc pins s σ H Q I h)
/-- what the block must be shown to be worth -/
def BlkOk (X : Cx) (x : Str) (ns : List Str) (scope : Scope) (cl : List (Str × Addr)) (ifs : List Expr) (t : DTn) (elt : Expr) (e : DEn) : Prop :=
  ∀ (C : Addr) (s : Shared) (H : Hp) (ex : List Addr), TstOk (cxC X x ns scope C s H ex cl) ifs t ∧ DE (cxC X x ns scope C s H ex cl) elt e
set_option maxHeartbeats 4000000 in
theorem comp_block {elt iter : Expr} {px : Pos} {ifs : List Expr} {pos : Pos} {t : DTn} {e : DEn} {E : Value → Shared → Prop} {RR : Value → Addr → Result → Shared → Prop} {H2 : Hp} {s2 : Shared} {it : Addr} {fp : List Addr} {tn : Nat → Heap → Prop} {J : It} {B : Hp} {δ : Ev} {ds rs : List DL.D}
    (O : CpOk X x cs ns scope cl) (hc : X.calm = true) (bk : BlkOk X x ns scope cl ifs t elt e) (I2 : Inv X pins σ H2 s2) (T : Turn X.prog X.w X.K (.Name x px) J fp it tn) (st2 : tn 0 s2.heap) (f2 : ∀ b ∈ fp, FpOk X pins H2 b) (yc : Yc X.K H2 J ds)
    (rp : Rep X.K B δ σ H2) (hz : ds.length ≤ 10000) (ec : cpGo t e (capsOf cs δ) ds = some rs)
    (hRR : ∀ (D C : Addr) (s' : Shared) (H' : Hp) (xs : List V) (m : Str → Option Value), H2 D = none → Inv X pins σ H' s' → Same H2 H' → H' D = some (.lst xs) → HasL X.K H' rs xs → s'.heap.Ns C m → FpOk X pins H' C → RR (.ref D) C (.ok .next) s') :
    wpAny (model X.prog X.w) X.A (newList []) (fun acc s₃ => wpAny (model X.prog X.w) X.A (newFunctionEnv scope X.env.globals cl [] X.env.qual none .none (some X.env)) (fun cenv s₄ =>
      codeAny (model X.prog X.w) X.A (.compStart (.ListComp elt [⟨.Name x px, iter, ifs, 0⟩] scope pos) 0 (.ref it) acc { cenv with scope := relabel scope X.env }) (RR acc cenv.locals) s₄) E s₃) E s2 := by
  refine wpAny_newObj_type (wpAny_newFunctionEnv O.cell (by intro y hy; simp at hy) (fun h₁ hns₁ hsb₁ => ?_) O.kind)
  dsimp only at hns₁ hsb₁ ⊢
  have I3 : Inv X pins σ (upd H2 s2.heap.objs.size (.lst [])) { s2 with heap := s2.heap.push { cls := .type "list", dict := none, data := .seq ([] : List Value).toArray } } := I2.lnew (its := []) (t' := s2.toks) .nil (Nat.zero_le _)
  generalize hD : s2.heap.objs.size = D at I3 hns₁ hsb₁ ⊢
  have hDn : H2 D = none := by rw [← hD]; exact I2.fresh
  have fpl : ∀ b ∈ fp, b < D := fun b hb => by
    obtain ⟨o, e, _⟩ := T.obj 0 _ st2 b hb
    rw [← hD]; exact Heap.lt_size e
  generalize hs3 : ({ s2 with heap := s2.heap.push { cls := .type "list", dict := none, data := .seq ([] : List Value).toArray } } : Shared) = s3 at I3
  have hh3 : s2.heap.push { cls := .type "list", dict := none, data := .seq ([] : List Value).toArray } = s3.heap := by rw [← hs3]
  rw [hh3] at hns₁ hsb₁ ⊢
  generalize hC : s3.heap.objs.size = C at hns₁ hsb₁ ⊢
  have hDC : D + 1 = C := by rw [← hC, ← hh3, Heap.size_push, hD]
  have f3 : ∀ b ∈ fp, FpOk X pins (upd H2 D (.lst [])) b := fun b hb => by
    refine ⟨?_, (f2 b hb).2⟩
    rw [upd_ne (Nat.ne_of_lt (fpl b hb))]
    exact (f2 b hb).1
  have keep : ∀ b o, s3.heap.get? b = some o → h₁.get? b = some o := fun b o e => hsb₁.extBut b o (by rw [← hC]; exact Nat.ne_of_lt (Heap.lt_size e)) (Heap.get?_push_of_some _ e)
  have J0 : Inv (cxC X x ns scope C s3 (upd H2 D (.lst [])) fp cl) [] (none :: cs.map fun i => (σ[i]?).join) (upd H2 D (.lst [])) { s3 with heap := h₁, toks := s3.toks + ([] : List (Str × Value)).length } :=
    comp_inv O I3 f3 (fun b hb => by rw [hC, ← hDC]; exact Nat.lt_succ_of_lt (fpl b hb)) hC.symm hns₁ keep
  have st0 : tn 0 h₁ := T.keep 0 _ _ st2 fun b hb o e => keep b o (by rw [← hh3]; exact Heap.get?_push_of_some _ e)
  have stk : ∀ b ∈ frs X.stack, b ∉ fp := fun b hb hx => by
    rcases List.mem_cons.mp (I2.stkSub b hb) with e | hb
    · exact (f2 b hx).2.1 e
    · exact (f2 b hx).2.2.1 hb
  have stat : ∀ {H' : Hp}, (∀ b ∈ fp, H' b = none) → ∀ b ∈ fp, FpOk (cxC X x ns scope C s3 (upd H2 D (.lst [])) fp cl) [] H' b := fun hn b hb =>
    ⟨hn b hb, (by show b ≠ C; rw [← hDC]; exact Nat.ne_of_lt (Nat.lt_succ_of_lt (fpl b hb))), (fun z => stk b z hb), .inl hb, (fun y c h => (f2 b hb).2.2.2.2.1 y c (O.sub y c h)), fun p hp => absurd (show p ∈ ([] : List (Addr × Obj)) from hp) (by simp)⟩
  have sD : ∀ {H' : Hp}, Same (upd H2 D (.lst [])) H' → Same H2 H' := fun g => (same_new hDn _).trans g
  obtain ⟨bt, be⟩ := bk C s3 (upd H2 D (.lst [])) fp
  have ndN : (cxC X x ns scope C s3 (upd H2 D (.lst [])) fp cl).N.Nodup := O.nd
  have fpC : ∀ {H' : Hp}, H' C = none → FpOk X pins H' C := fun hn => by
    rw [← hC] at hn ⊢
    exact I3.fpOk (Nat.le_refl _) hn
  have loop : codeAny (model X.prog X.w) X.A (.compLoop (.ListComp elt [⟨.Name x px, iter, ifs, 0⟩] scope pos) 0 (.ref it) (.ref D) (compEnvC scope cl C X.env)) (RR (.ref D) C) { s3 with heap := h₁, toks := s3.toks + ([] : List (Str × Value)).length } := by
    refine codeAny_loop rfl (fun n s' => ∃ (i : Nat) (σ' : St) (H' : Hp) (xs : List V) (ys zs : List DL.D), i ≤ ds.length ∧ n = ds.length - i ∧ σ'.length = 1 + cs.length ∧ σ'.drop 1 = (cs.map fun i => (σ[i]?).join) ∧ Inv (cxC X x ns scope C s3 (upd H2 D (.lst [])) fp cl) [] σ' H' s' ∧ tn i s'.heap ∧ (∀ b ∈ fp, H' b = none) ∧
      Same H2 H' ∧ H' D = some (.lst xs) ∧ HasL X.K H' ys xs ∧ cpGo t e (capsOf cs δ) (ds.drop i) = some zs ∧ ys ++ zs = rs ∧ ys.length ≤ i) ?_ ds.length ?_
    · rintro n s5 ⟨i, σ5, H5, xs, ys, zs, hi, hn, hσl, hσ, J5, st5, fr5, g5, hD5, l5, e5, er, hy⟩
      show wpAny _ _ ((compTurn (.ListComp elt [⟨.Name x px, iter, ifs, 0⟩] scope pos) 0 (.ref it) (.ref D) (compEnvC scope cl C X.env)).onRaise (fun x => do noteFrame x (compEnvC scope cl C X.env); theTreesLotGoes x)) _ _ s5
      refine wpAny_noted ?_
      rw [compTurn_list]
      refine wpAny_bind (wpAny_standAt (wpAny_bind ?_))
      obtain ⟨y1, y2, y3⟩ := yc H5 g5 i
      by_cases hlt : i < ds.length
      · have hg : ds[i]? = some ds[i] := List.getElem?_eq_getElem hlt
        refine wpAny_mono (T.item (cxC X x ns scope C s3 (upd H2 D (.lst [])) fp cl) rfl rfl rfl hc i [] s5 σ5 H5 (fun _ _ => False) J5 (stat fr5) st5 (y1 _ hg)) (fun r s6 h6 => ?_) fun _ _ z => z.elim
        obtain ⟨u, hr, h6⟩ := h6
        subst hr
        refine wpAny_bind (wpAny_mono h6 (fun _ s7 h7 => ?_) fun _ _ z => z.elim)
        obtain ⟨v, H7, I7, r7, yl7, st7, fr7⟩ := h7
        obtain ⟨z1, z2⟩ := y2 v H7 _ yl7 hg
        subst z1
        have I7' := I7.pinned (stat fr7) (T.obj _ _ st7)
        refine wpAny_bind (wpAny_mono (pg_name (X := cxC X x ns scope C s3 (upd H2 D (.lst [])) fp cl) (pos := px) (i := 0) (x := x) ndN rfl (Or.inl (lookup_relabel_local O.loc)) (Or.inr (lookup_relabel_local O.loc)) _ s7 σ5 H7 v u (fun σ' H' => σ' = σ5.set 0 (some v) ∧ H' = H7) I7' r7 ⟨rfl, rfl⟩) (fun _ s8 h8 => ?_) fun _ _ z => z.elim)
        obtain ⟨σ8, H8, I8, e8, e8'⟩ := h8
        subst e8
        subst e8'
        have eσ : σ5.set 0 (some v) = some v :: cs.map fun i => (σ[i]?).join := by
          cases σ5 with
          | nil => simp at hσl; omega
          | cons a b => simp at hσ; simp [hσ]
        have hdr : ds.drop i = ds[i] :: ds.drop (i + 1) := List.drop_eq_getElem_cons hlt
        rw [hdr] at e5
        unfold cpGo at e5
        obtain ⟨b, eb, e5⟩ := bs e5
        have rp8 : Rep X.K H2 (some (.d ds[i]) :: capsOf cs δ) (σ5.set 0 (some v)) H8 := by rw [eσ]; exact rep_comp rp g5 z2
        have again : ∀ {s9 : Shared} {H9 : Hp} {xs' : List V} {ys' zs' : List DL.D}, Inv (cxC X x ns scope C s3 (upd H2 D (.lst [])) fp cl) ([] ++ pinsAt fp s7.heap) (σ5.set 0 (some v)) H9 s9 → Same H2 H9 → H9 D = some (.lst xs') → HasL X.K H9 ys' xs' → cpGo t e (capsOf cs δ) (ds.drop (i + 1)) = some zs' → ys' ++ zs' = rs → ys'.length ≤ i + 1 →
            ∃ m, m < n ∧ ∃ (i : Nat) (σ' : St) (H' : Hp) (xs : List V) (ys zs : List DL.D), i ≤ ds.length ∧ m = ds.length - i ∧ σ'.length = 1 + cs.length ∧ σ'.drop 1 = (cs.map fun i => (σ[i]?).join) ∧ Inv (cxC X x ns scope C s3 (upd H2 D (.lst [])) fp cl) [] σ' H' s9 ∧ tn i s9.heap ∧ (∀ b ∈ fp, H' b = none) ∧
              Same H2 H' ∧ H' D = some (.lst xs) ∧ HasL X.K H' ys xs ∧ cpGo t e (capsOf cs δ) (ds.drop i) = some zs ∧ ys ++ zs = rs ∧ ys.length ≤ i := by
          intro s9 H9 xs' ys' zs' I9 g9 d9 l9 c9 a9 n9
          refine ⟨ds.length - (i + 1), by omega, i + 1, _, H9, xs', ys', zs', by omega, rfl, by simpa using hσl, by rw [eσ]; rfl, I9.unpinned, T.keep _ _ _ st7 fun b hb o e => (I9.pin (b, o) (List.mem_append_right _ (List.mem_append_right _ (mem_pinsAt hb e)))).1, fun b hb => ?_, g9, d9, l9, c9, a9, n9⟩
          obtain ⟨o, e, d⟩ := T.obj _ _ st7 b hb
          exact (I9.pin (b, o) (List.mem_append_right _ (List.mem_append_right _ (mem_pinsAt hb e)))).2.1
        refine wpAny_bind (wpAny_mono (bt _ s8 (σ5.set 0 (some v)) H8 (fun b' H' => b' = b ∧ Same H8 H') I8 ⟨H2, _, b, rp8, eb, fun H' g => ⟨rfl, g⟩⟩) (fun ok s9 h9 => ?_) fun _ _ z => z.elim)
        obtain ⟨H9, I9, eok, g9⟩ := h9
        subst eok
        cases ok with
        | false =>
          exact wpAny_pure ⟨rfl, again I9 (g5.trans g9) (g9 _ _ hD5) (l5.grow g9) (by simpa using e5) er (by omega)⟩
        | true =>
          simp only [if_true] at e5
          split at e5
          · rename_i y ey
            obtain ⟨zs', ez, e6⟩ := ms e5
            subst e6
            refine wpAny_bind (wpAny_bind (wpAny_mono (be _ s9 (σ5.set 0 (some v)) H9 (fun v' H' => Same H9 H' ∧ Has X.K H' y v') I9 ⟨H2, _, _, rp8.grow g9, ey, fun v' H' g h => ⟨g, h⟩⟩) (fun w s10 h10 => ?_) fun _ _ z => z.elim))
            obtain ⟨v10, H10, I10, r10, g10, l10⟩ := h10
            have d10 : H10 D = some (.lst xs) := g10 _ _ (g9 _ _ hD5)
            have l10' : HasL X.K H10 ys xs := (l5.grow g9).grow g10
            have n10 := l10'.len
            refine wpAny_bind (wpAny_mono (mt_append (X := cxC X x ns scope C s3 (upd H2 D (.lst [])) fp cl) _ s10 (σ5.set 0 (some v)) H10 (.ref D) [v10] (.ref D) [w] (fun _ H' => H' = upd H10 D (.lst (xs ++ [v10]))) I10 rfl (.cons r10 .nil) ⟨D, xs, v10, rfl, rfl, d10, Nat.lt_of_lt_of_le (by omega : xs.length < 10001) (by decide), rfl⟩) (fun _ s11 h11 => ?_) fun _ _ z => z.elim)
            obtain ⟨_, H11, I11, _, e11⟩ := h11
            subst e11
            refine wpAny_pure (wpAny_pure ⟨rfl, again I11 (fun b o q => ?_) upd_same (HasL.mono (tk_upd d10) _ _ (l10'.app (HasL.cons l10 HasL.nil))) ez (by rw [List.append_assoc]; exact er) (by rw [List.length_append, List.length_singleton]; omega)⟩)
            rw [upd_ne (fun z => by subst z; rw [hDn] at q; cases q)]
            exact g10 _ _ (g9 _ _ (g5 _ _ q))
          · cases e5
      · have hil : ds.length ≤ i := by omega
        refine wpAny_mono (T.done (cxC X x ns scope C s3 (upd H2 D (.lst [])) fp cl) rfl rfl rfl hc i [] s5 σ5 H5 (fun _ _ => False) J5 (stat fr5) st5 (y3 hil)) (fun r s6 h6 => ?_) fun _ _ z => z.elim
        obtain ⟨hr, I6⟩ := h6
        subst hr
        have hz0 : ds.drop i = [] := List.drop_eq_nil_of_le hil
        rw [hz0] at e5
        cases e5
        rw [List.append_nil] at er
        subst er
        obtain ⟨m6, hn6, _⟩ := I6.loc
        refine wpAny_pure (hRR D C s6 H5 xs m6 hDn ?_ g5 hD5 l5 hn6 (fpC I6.free))
        have := comp_back (h6 := s6.heap) I3 f3 hC.symm I6 (Heap.SameBut.refl ..)
        exact this
    · exact ⟨0, _, upd H2 D (.lst []), [], [], rs, Nat.zero_le _, rfl, by simp [Nat.add_comm], rfl, J0, st0, (fun b hb => (f3 b hb).1), same_new hDn _, upd_same, HasL.nil, by simpa using ec, rfl, Nat.le_refl _⟩
  have fin := codeAny_compStart_list (ifs := ifs) (rest := []) (elt := elt) (target := .Name x px) (iter := iter) (scope := scope) (pos := pos) loop (T.self _ 0 { s3 with heap := h₁, toks := s3.toks + ([] : List (Str × Value)).length } _ _ st0 loop)
  rw [← hs3] at fin
  exact fin
end
end DL

namespace DL
open PySem PySem.Spec PyProof.Rows L2
/-! comprehensions, seen from outside -/
theorem capC_sub (cells : List (Str × Addr)) : ∀ (names : List (Str × NameKind)) (cs : List (Str × Addr)), (∀ p ∈ cs, cells.lookup p.1 = some p.2) →
    ∀ p ∈ names.foldl (fun cs nk => if nk.2 == NameKind.free then (match cells.lookup nk.1 with | some c => (nk.1, c) :: cs | none => cs) else cs) cs, cells.lookup p.1 = some p.2
  | [], _, h => h
  | nk :: r, cs, h => by
    refine capC_sub cells r _ ?_
    intro p hp
    dsimp only at hp
    split at hp
    · split at hp
      · rename_i c e
        rcases List.mem_cons.mp hp with rfl | hp
        · exact e
        · exact h p hp
      · exact h p hp
    · exact h p hp
theorem cp_ok {X : Cx} {x : Str} {cs : List Nat} {ns : List Str} {scope : Scope} (kind : scope.kind = .function) (clos : closureFor scope X.env = pure (capC scope.names X.env.cells)) (cell : ∀ y ∈ scope.names, y.2 ≠ .cell)
    (names : ∀ y ∈ scope.names, y.2 = .local → scope.names.lookup y.1 = some .local) (loc : scope.names.lookup x = some .local)
    (has : ((relabel scope X.env).names.all fun p => !(p.2 == NameKind.cell || p.2 == NameKind.free) || ((capC scope.names X.env.cells).lookup p.1).isSome) = true)
    (nd : (x :: ns).Nodup) (at_ : ns = cs.map fun i => X.N.getD i "") (lt : ∀ i ∈ cs, i < X.N.length) (cap : ∀ y ∈ ns, X.env.kindOf y = some .cell ∧ (relabel scope X.env).names.lookup y = some .cell) :
    CpOk X x cs ns scope (capC scope.names X.env.cells) where
  kind := kind
  clos := clos
  cell := cell
  names := names
  loc := loc
  sub := fun y c h => capC_sub X.env.cells scope.names [] (fun p hp => by cases hp) (y, c) (PySem.mem_of_lookup h)
  has := fun y hy => by
    have all := List.all_eq_true.mp has
    rcases hy with hy | hy
    · have := all (y, .cell) (PySem.mem_of_lookup hy)
      exact Option.isSome_iff_exists.mp (by simpa using this)
    · have := all (y, .free) (PySem.mem_of_lookup hy)
      exact Option.isSome_iff_exists.mp (by simpa using this)
  nd := nd
  at_ := at_
  lt := lt
  cap := cap
section
variable {X : Cx} {x : Str} {cs : List Nat} {ns : List Str} {scope : Scope} {cl : List (Str × Addr)} {elt iter : Expr} {px pos spos py : Pos} {ifs : List Expr} {t : DTn} {e : DEn} {it : DIn} {W : Hp → Prop}
theorem de_comp (O : CpOk X x cs ns scope cl) (hc : X.calm = true) (bk : BlkOk X x ns scope cl ifs t elt e) (hi : DC X (.Name x px) iter it) (hs : ∀ x, foldedSetIterable iter X.env x = pure x := by intro _; rfl) :
    DE X (.ListComp elt [⟨.Name x px, iter, ifs, 0⟩] scope pos) (dComp cs it t e) := by
  rintro pins s σ H Q I ⟨B, δ, r, rp, eq, q⟩
  obtain ⟨ds, e1, eq⟩ := bs eq
  split at eq
  · rename_i hz
    obtain ⟨rs, e2, e3⟩ := ms eq
    subst e3
    rw [eval_ListComp]
    refine wpAny_comprehension_free (use := none) rfl hs O.clos O.kind O.names (wpAny_mono (hi pins s σ H (fun J H1 => Same H H1 ∧ Yc X.K H1 J ds) I ⟨B, δ, ds, rp, e1, fun J H1 g y => ⟨g, y⟩⟩) (fun v s1 h1 => wpAny_mono h1 (fun itv s2 h2 => ?_) fun _ _ z => z) fun _ _ z => z)
    obtain ⟨itA, fp, tn, J, H2, rfl, I2, T, st2, f2, g2, yc⟩ := h2
    refine comp_block (RR := fun acc C => compPost (model X.prog X.w) X.A X.xe none (EP X pins σ Q) acc C) O hc bk I2 T st2 f2 yc (rp.grow g2) hz e2 ?_
    intro D C s' H' xs m hD I' g' d' l' hn fc
    refine ⟨m, hn, fun h' hs' => ⟨.ref D, H', ?_, rfl, q _ H' (g2.trans g') ⟨D, xs, rfl, g2.free hD, d', l'⟩⟩⟩
    exact I'.turned (t' := s'.toks) (it := C) (fun b o hb eb => hs'.extBut b o hb eb) fc.1 fc.2.1 fc.2.2.2.1 fc.2.2.2.2.1 fc.2.2.2.2.2
  · cases eq
/-- y = [.. for x in ..] -/
theorem ds_setC (i : Nat) {y : Str} (hN : X.N.Nodup) (O : CpOk X x cs ns scope cl) (hc : X.calm = true) (bk : BlkOk X x ns scope cl ifs t elt e) (hi : DC X (.Name x px) iter it)
    (hy : X.N[i]? = some y := by rfl) (hl : Loc X.env.scope y := by first | exact Or.inl rfl | exact Or.inr rfl)
    (hsw : swapsWith (.ListComp elt [⟨.Name x px, iter, ifs, 0⟩] scope pos) (some (.Name y py)) spos.line X.env = pure true := by rfl)
    (hf : X.fn y = true ∨ X.env.scope.names.lookup y = some .local := by first | exact .inl rfl | exact .inr rfl)
    (hs : ∀ x, foldedSetIterable iter X.env x = pure x := by intro _; rfl) :
    DS X W (.Assign [.Name y py] (.ListComp elt [⟨.Name x px, iter, ifs, 0⟩] scope pos) spos) (sSet i (dComp cs it t e)) := by
  rintro pins s σ H D I ⟨B, δ, o, sB, rp, eq, q⟩
  obtain ⟨r, e0, eq⟩ := bs eq
  obtain ⟨r', e4, eq⟩ := ms eq
  subst eq
  obtain ⟨ds, e1, e0⟩ := bs e0
  split at e0
  · rename_i hz
    obtain ⟨rs, e2, e3⟩ := ms e0
    subst e3
    rw [exec_Assign_Name_used _ _ _ _ hsw]
    refine wpAny_bind (wpAny_standAt (wpAny_bind ?_))
    show wpAny _ X.A (do let _ ← comprehension (.ListComp elt [⟨.Name x px, iter, ifs, 0⟩] scope pos) scope X.env _ (newList []) false (eval iter X.env) (some (assign (.Name y py) X.env))) _ _ s
    refine wpAny_bind (wpAny_mono (wpAny_comprehension_free (use := some (assign (.Name y py) X.env)) (Q := fun _ s' => SP X pins D .next s') rfl hs O.clos O.kind O.names
      (wpAny_mono (hi pins s σ H (fun J H1 => Same H H1 ∧ Yc X.K H1 J ds) I ⟨B, δ, ds, rp, e1, fun J H1 g y => ⟨g, y⟩⟩) (fun v s1 h1 => wpAny_mono h1 (fun itv s2 h2 => ?_) fun _ _ z => z) fun _ _ z => z)) (fun _ s' hq => wpAny_pure (wpAny_pure hq)) fun _ _ z => z)
    obtain ⟨itA, fp, tn, J, H2, rfl, I2, T, st2, f2, g2, yc⟩ := h2
    refine comp_block (RR := fun acc C => compPost (model X.prog X.w) X.A X.xe (some (assign (.Name y py) X.env)) (fun _ s' => SP X pins D .next s') acc C) O hc bk I2 T st2 f2 yc (rp.grow g2) hz e2 ?_
    intro D' C s' H' xs m hD I' g' d' l' hn fc
    show wpAny _ X.A (assign (.Name y py) X.env (.ref D')) _ _ s'
    refine wpAny_assign_Name (store_ok2 I' hN hy hl (v := .ref D') rfl (fun s'' I'' hsb => ?_) hf)
    obtain ⟨b, hb, hb2⟩ := hsb
    have hbC : C ≠ b := by
      rcases hb2 with z | z
      · rw [z]; exact fc.2.1
      · exact fun w => fc.2.2.2.2.1 y b z w.symm
    refine ⟨m, hn.sameBut hb hbC, fun h' hs' => ⟨_, H', I''.turned (t' := s''.toks) (it := C) (fun b o hb eb => hs'.extBut b o hb eb) fc.1 fc.2.1 fc.2.2.2.1 fc.2.2.2.2.1 fc.2.2.2.2.2, q B _ H' (Same.refl _) (Same.tk (g2.trans g')) ?_⟩⟩
    exact rp.set (g2.trans g') e4 ⟨D', xs, rfl, g2.free hD, d', l'⟩
  · cases e0
end
/-! all(..) of bools -/
theorem bools_has {K : PySem.W.Frag} {H : Hp} : ∀ {ds : List D} {ys : List V} {bs' : List Bool}, bools ds = some bs' → HasL K H ds ys → ys = bs'.map V.bl
  | [], ys, bs', e, h => by
    cases e
    simp only [HasL] at h
    rw [h]; rfl
  | .bl b :: r, ys, bs', e, h => by
    obtain ⟨q, e1, e2⟩ := ms (show (bools r).map (b :: ·) = some bs' from e)
    subst e2
    simp only [HasL, Has] at h
    obtain ⟨x, z, e3, e4, h2⟩ := h
    rw [e3, e4, bools_has e1 h2]
    rfl
  | .non :: r, ys, bs', e, h => by cases e
  | .int _ :: r, ys, bs', e, h => by cases e
  | .str _ :: r, ys, bs', e, h => by cases e
  | .tup _ :: r, ys, bs', e, h => by cases e
theorem vals_bools : ∀ {bs' : List Bool} {its : List Value}, Vals (bs'.map V.bl) its → its = bs'.map Value.bool
  | [], _, .nil => rfl
  | b :: r, _, .cons h t => by
    have h : _ = Value.bool b := h
    rw [h, vals_bools t]; rfl
theorem all_range (bs' : List Bool) : (List.range bs'.length).all (fun i => bs'.getD i false) = bs'.all id := by
  rw [Bool.eq_iff_iff]
  simp only [List.all_eq_true, List.mem_range, id]
  constructor
  · intro h b hb
    obtain ⟨i, hi, rfl⟩ := List.mem_iff_getElem.mp hb
    have := h i hi
    rwa [List.getD_eq_getElem?_getD, List.getElem?_eq_getElem hi] at this
  · intro h i hi
    rw [List.getD_eq_getElem?_getD, List.getElem?_eq_getElem hi]
    exact h _ (List.getElem_mem hi)
theorem c_all {X : Cx} (hc : X.calm = true) : CallR X (.builtin "all") (rB X.K gAllL) := by
  intro pins s σ H xs us Q I rv h
  obtain ⟨B, H0, rs, r, sB, i1, e, q⟩ := h
  unfold gAllL at e
  split at e
  · rename_i r0
    unfold gAll at e
    split at e
    · rename_i fl ds
      obtain ⟨bs', eb, er⟩ := ms e
      subst er
      obtain ⟨v, e1, i2⟩ := isrs1 i1
      subst e1
      obtain ⟨a, ys, e2, s2, l2⟩ := (i2.vw sB).sq
      subst e2
      obtain ⟨u, e3, ru⟩ := vals1 rv
      subst e3
      cases (show u = Value.ref a from ru)
      obtain ⟨its, rv2, p, hz⟩ := I.list s2
      rw [bools_has eb l2] at rv2
      have hb := vals_bools rv2
      have hsz : its.toArray.size = bs'.length := by rw [hb]; simp
      have hne : a ≠ s.heap.objs.size := by
        obtain ⟨o, ho, _⟩ := p.isList
        exact Nat.ne_of_lt (Heap.lt_size ho)
      refine call_all_walk (wpAny_pyIter_list p.isList ?_)
      refine ⟨s.heap.objs.size, _, _, _, _, _, fun i => bs'.getD i false, rfl, Walks.list (show X.A.in1.handled = none from I.ok.hd hc) s.heap.objs.size a hne its.toArray, ⟨⟨_, Heap.get?_push_size _ rfl, rfl, rfl⟩, p.isList.at fun o e => Heap.get?_push_of_some _ e⟩, ?_, fun h' tk hk => ?_⟩
      · intro i v s0 Q0 E0 hP hQ
        have hP : its.toArray[i]? = some v := hP
        rw [hb] at hP
        have hP : (bs'.map Value.bool)[i]? = some v := by simpa using hP
        rw [List.getElem?_map] at hP
        cases hbi : bs'[i]? with
        | none => rw [hbi] at hP; cases hP
        | some b =>
          rw [hbi] at hP
          cases hP
          have hQ : Q0 (bs'.getD i false) s0 := hQ
          rw [List.getD_eq_getElem?_getD, hbi] at hQ
          exact wpAny_truthy_bool hQ
      · rw [hsz, all_range]
        refine ⟨.bl _, H, I.kept (t' := tk) fun b o eb => hk b o ?_ (Heap.get?_push_of_some _ eb), rfl, q _ H (Same.refl _) (by simp only [Out, Has])⟩
        intro z
        have z : b = s.heap.objs.size := by simpa using z
        exact absurd (Heap.lt_size eb) (by rw [z]; exact Nat.lt_irrefl _)
    · cases e
  · cases e
/-! the names of the built-ins -/
theorem bt_len : bootBuiltins "len" = some (.builtin "len") := by decide +kernel
theorem bt_max : bootBuiltins "max" = some (.builtin "max") := by decide +kernel
theorem bt_min : bootBuiltins "min" = some (.builtin "min") := by decide +kernel
theorem bt_all : bootBuiltins "all" = some (.builtin "all") := by decide +kernel
theorem bt_tuple : bootBuiltins "tuple" = some (.type "tuple") := by decide +kernel
theorem bt_list : bootBuiltins "list" = some (.type "list") := by decide +kernel
theorem bt_int : bootBuiltins "int" = some (.type "int") := by decide +kernel
theorem bt_bool : bootBuiltins "bool" = some (.type "bool") := by decide +kernel
theorem bt_str : bootBuiltins "str" = some (.type "str") := by decide +kernel
end DL

namespace RevT
open PySem PyProof.Rows PySem.Spec
theorem look_tuple_reversed : typeLookup (.type "tuple") "__reversed__" = pure none := by rw [typeLookup_type, builtinLookup_eq_fast]; kernel_rfl
theorem sub_tuple_dict : isSubtype (.type "tuple") (.type "dict") = pure false := by rw [isSubtype_type]; kernel_rfl
theorem sub_rev : isSubtype (.type "reversed") (.type "reversed") = pure true := by rw [isSubtype_type]; kernel_rfl
theorem owner_rev : Manifest.owners.lookup (String.ofList ['d', 'e', 's', 'r', 'e', 'v', 'e', 'r'].reverse) = some Manifest.sig_reversed := by kernel_rfl
theorem slot_next : Slot "reversed" "__next__" "reversed.__next__" :=
  .of (owner := "reversed") (n := "__next__") (by rw [typeLookup_type, builtinLookup_eq_fast]; kernel_rfl) (by decide +kernel) (by decide +kernel) (by decide +kernel)
    (by first | exact .inl (by decide +kernel) | exact .inr (by decide +kernel)) (by rw [isSubtype_type]; kernel_rfl)
theorem entry_next : entryFor table "reversed.__next__" = some Builtin.«reversed.__next__» := entryFor_of_tree (by kernel_rfl)
theorem args_next (a : Value) : argsOk "reversed.__next__" ⟨[a], []⟩ := by
  unfold argsOk; rw [signature?_of (id := "reversed.__next__") (n := ['_', '_', 't', 'x', 'e', 'n', '_', '_']) (o := ['d', 'e', 's', 'r', 'e', 'v', 'e', 'r']) (by kernel_rfl) owner_rev]; kernel_rfl
theorem slot_iter : Slot "reversed" "__iter__" "reversed.__iter__" :=
  .of (owner := "reversed") (n := "__iter__") (by rw [typeLookup_type, builtinLookup_eq_fast]; kernel_rfl) (by decide +kernel) (by decide +kernel) (by decide +kernel)
    (by first | exact .inl (by decide +kernel) | exact .inr (by decide +kernel)) (by rw [isSubtype_type]; kernel_rfl)
theorem args_iter (a : Value) : argsOk "reversed.__iter__" ⟨[a], []⟩ := by
  unfold argsOk; rw [signature?_of (id := "reversed.__iter__") (n := ['_', '_', 'r', 'e', 't', 'i', '_', '_']) (o := ['d', 'e', 's', 'r', 'e', 'v', 'e', 'r']) (by kernel_rfl) owner_rev]; kernel_rfl
theorem entry_iter : entryFor table "reversed.__iter__" = some Builtin.«dict_keyiterator.__iter__» :=
  entryFor_alias (id' := "dict_keyiterator.__iter__") (by kernel_rfl) (by first | rfl | decide +kernel | (unfold String.splitOn; simp +decide [String.splitOnAux])) (by decide +kernel) (by kernel_rfl)
def revObj (l : Addr) (i : Int) : Obj := { cls := .type "reversed", data := .fields #[.ref l, rawInt i] }
def IsRev (h : Heap) (a l : Addr) (i : Int) : Prop := ∃ o, h.get? a = some o ∧ o.cls = .type "reversed" ∧ o.data = .fields #[.ref l, rawInt i]
section
variable {prog : Program} {w : World} {A : Around} {E : Value → Shared → Prop} {s : Shared}
theorem IsRev.typeIs {a l : Addr} {i : Int} (x : IsRev s.heap a l i) : s.TypeIs (.ref a) "reversed" := let ⟨o, ho, hc, _⟩ := x; ⟨o, ho, hc⟩
theorem IsRev.at {h h' : Heap} {a l : Addr} {i : Int} (x : IsRev h a l i) (e : ∀ o, h.get? a = some o → h'.get? a = some o) : IsRev h' a l i := let ⟨o, ho, r⟩ := x; ⟨o, e _ ho, r⟩
theorem line63' : (sizeLine : Int) < 2 ^ 63 := by decide
theorem slot_init : Slot "reversed" "__init__" "object.__init__" :=
  .of (owner := "object") (n := "__init__") (by rw [typeLookup_type, builtinLookup_eq_fast]; kernel_rfl) (by decide +kernel) (by decide +kernel) (by decide +kernel)
    (by first | exact .inl (by decide +kernel) | exact .inr (by decide +kernel)) (by rw [isSubtype_type]; kernel_rfl)
theorem called : TypeCalled "reversed" "reversed.__new__" "object.__init__" :=
  ⟨by decide +kernel, by decide +kernel, ⟨_, _, F.mro_reversed⟩, F.made_reversed, by decide +kernel, sub_rev, slot_init⟩
theorem meets_new (t : Addr) (items : Array Value) : Meets (Builtin.«reversed.__new__» ⟨[.type "reversed", .ref t], []⟩)
    (fun _ R s => (IsTup s.heap t items ∧ items.size ≤ sizeLine) ∧ ∀ tk, R (.ok (.ret (.ref s.heap.objs.size))) { s with heap := s.heap.push (revObj t ((items.size : Int) - 1)), toks := tk }) := by
  refine Meets.of_wp fun prog w A R s hs => ?_
  obtain ⟨⟨ht, hz⟩, h⟩ := hs
  unfold Builtin.«reversed.__new__»
  refine wpAny_bind (wpAny_of_eq (newClass_reversed _) ?_)
  try dsimp only
  refine wpAny_bind (wpAny_of_eq (a := ()) (by first | rfl | kernel_rfl) ?_)
  refine wpAny_bind (wpAny_of_eq (a := ()) (by first | rfl | kernel_rfl) ?_)
  try dsimp only
  refine wpAny_bind (wpAny_specialOf ht.typeIs look_tuple_reversed ?_)
  try dsimp only
  refine wpAny_bind ?_
  show wpAny _ _ (isInstance (.ref t) (.type "dict") >>= _) _ _ _
  refine wpAny_bind (wpAny_isInstance (T := "tuple") (b := false) ht.typeIs sub_tuple_dict ?_)
  rw [if_neg Bool.false_ne_true]
  refine wpAny_bind (wpAny_specialOf ht.typeIs PyProof.Rows.slot_tuple_getitem.lookup ?_)
  dsimp only
  rw [if_pos (by decide)]
  refine wpAny_pure ?_
  rw [if_neg (by decide)]
  refine wpAny_bind (len_tuple ht (by have := line63'; omega) ?_)
  refine wpAny_bind (wpAny_of_eq (a := some (items.size : Int)) rfl ?_)
  dsimp only
  refine wpAny_bind ?_
  unfold Builtin.SmallTypes.newRecord
  dsimp only
  exact wpAny_newObj_type (wpAny_pure ⟨_, rfl, h _⟩) (by size_fits)
theorem call_rev {t : Addr} {items : Array Value} {Q : Value → Shared → Prop} (ht : IsTup s.heap t items) (hz : items.size ≤ sizeLine)
    (h : ∀ tk, Q (.ref s.heap.objs.size) { s with heap := s.heap.push (revObj t ((items.size : Int) - 1)), toks := tk }) : wpAny (model prog w) A (call (.type "reversed") [.ref t]) Q E s :=
  callType_new called (by decide +kernel) (F.typeCall_reversed_1 _) (F.newCall_reversed_1 _) (fun obj => F.args_object_init_2 obj _) F.entry_reversed_new (meets_new t items) ⟨⟨ht, hz⟩, fun tk => ⟨⟨_, Heap.get?_push_size _ rfl, rfl⟩, h tk⟩⟩
theorem iter_rev {it l : Addr} {i : Int} {Q : Value → Shared → Prop} (hit : IsRev s.heap it l i) (h : Q (.ref it) s) : wpAny (model prog w) A (pyIter (.ref it)) Q E s := by
  refine wpAny_pyIter_slot hit.typeIs slot_iter (wpAny_call_entry slot_iter hit.typeIs entry_iter ?_ (args_iter _))
  show wpAny _ _ (ret (.ref it)) _ _ s
  exact wpAny_pure ⟨_, rfl, "reversed", _, hit.typeIs, slot_next.lookup, h⟩
theorem next_item {it l : Addr} {i : Nat} {items : Array Value} {x : Value} {Q : Option Value → Shared → Prop} (hit : IsRev s.heap it l (i : Int)) (hl : IsTup s.heap l items) (hx : items[i]? = some x) (hz : items.size ≤ sizeLine)
    (hQ : ∀ h' tk, IsRev h' it l ((i : Int) - 1) → Heap.SameBut it s.heap h' → Q (some x) { s with heap := h', toks := tk }) : wpAny (model prog w) A (pyNext (.ref it)) Q E s := by
  obtain ⟨o, ho, hc, hd⟩ := id hit
  unfold pyNext
  refine wpAny_bind (wpAny_attempt (wpAny_callSpecial?_slot (name := Str.ofString "__next__") hit.typeIs slot_next
    (wpAny_call_entry slot_next hit.typeIs entry_next ?_ (args_next _))))
  unfold Builtin.«reversed.__next__»
  refine wpAny_bind (wpAny_of_eq (a := (Value.ref it, [])) rfl ?_)
  try dsimp only
  refine wpAny_bind (wpAny_field ho hd (x := .ref l) rfl ?_)
  refine wpAny_bind (wpAny_field ho hd (x := rawInt (i : Int)) rfl ?_)
  show wpAny _ _ (if (i : Int) < 0 then _ else _) _ _ s
  rw [if_neg (by omega)]
  refine wpAny_bind (wpAny_specialOf hl.typeIs PyProof.Rows.slot_tuple_getitem.lookup ?_)
  rw [if_neg (by decide)]
  refine wpAny_bind (wpAny_mkInt ?_)
  have hi : i < items.size := by
    have := Array.getElem?_eq_some_iff.mp hx
    exact this.1
  refine wpAny_bind (wpAny_attempt (PyProof.Rows.getItem_tuple (s := { s with toks := s.toks + 1 }) hl (j := i) (x := x) ?_ ?_ ?_ hx ?_))
  · omega
  · have := line63'; omega
  · unfold seqIndex?; simp; omega
  dsimp only
  refine wpAny_bind (wpAny_field (s := { s with toks := s.toks + 1 }) ho hd (x := rawInt (i : Int)) rfl ?_)
  show wpAny _ _ (setField (.ref it) 1 (rawInt ((i : Int) - 1)) >>= _) _ _ _
  refine wpAny_bind (wpAny_setField (s := { s with toks := s.toks + 1 }) ho hd (by simp) ?_)
  refine wpAny_pure ⟨x, rfl, wpAny_pure (hQ _ _ ?_ (Heap.SameBut.update ..))⟩
  exact ⟨_, Heap.get?_update_self _ ho (Obj.isFreed_of_fields (Obj.data_mapFields hd _)), (Obj.cls_mapFields ..).trans hc, by
    rw [Obj.data_mapFields hd]; simp⟩
theorem next_end {it l : Addr} {Q : Option Value → Shared → Prop} (hh : A.handled = none) (hit : IsRev s.heap it l (-1))
    (hQ : ∀ h' tk, Heap.ExtBut it s.heap h' → Q none { s with heap := h', toks := tk }) : wpAny (model prog w) A (pyNext (.ref it)) Q E s := by
  obtain ⟨o, ho, hc, hd⟩ := id hit
  unfold pyNext
  refine wpAny_bind (wpAny_attempt (wpAny_callSpecial?_slot (name := Str.ofString "__next__") hit.typeIs slot_next
    (wpAny_call_entry slot_next hit.typeIs entry_next ?_ (args_next _))))
  unfold Builtin.«reversed.__next__»
  refine wpAny_bind (wpAny_of_eq (a := (Value.ref it, [])) rfl ?_)
  try dsimp only
  refine wpAny_bind (wpAny_field ho hd (x := .ref l) rfl ?_)
  refine wpAny_bind (wpAny_field ho hd (x := rawInt (-1)) rfl ?_)
  show wpAny _ _ (if (-1 : Int) < 0 then _ else _) _ _ s
  rw [if_pos (by decide)]
  refine wpAny_bind (wpAny_rule ?_)
  refine wpAny_bind ?_
  show wpAny _ _ (setField (.ref it) 1 (rawInt (-1)) >>= fun _ => setField (.ref it) 0 .none) _ _ _
  refine wpAny_bind (wpAny_setField ho hd (by simp) ?_)
  have ho1 := Heap.get?_update_self (h := s.heap) (Obj.mapFields (·.setIfInBounds 1 (rawInt (-1)))) ho (Obj.isFreed_of_fields (Obj.data_mapFields hd _))
  refine wpAny_setField ho1 (Obj.data_mapFields hd _) (by simp) ?_
  refine wpAny_bind ?_
  unfold Builtin.SmallTypes.stopIteration
  refine wpAny_bind ?_
  simp only [newExc, newTuple]
  refine wpAny_bind (wpAny_newObj_type ?_ (by size_fits))
  refine wpAny_bind (m := firstArgMember _ _) (wpAny_of_eq (a := Value.none) (by first | rfl | (simp only [firstArgMember]; rfl)) ?_)
  refine wpAny_newObj_type ?_ (by size_fits)
  simp only [raiseNew]
  refine wpAny_bind (wpAny_handled ?_)
  first | rw [show A.in1.handled = none from hh] | rw [hh]
  refine wpAny_bind (wpAny_pure (wpAny_throw ?_))
  refine wpAny_bind (wpAny_isInstance (T := "StopIteration") (b := true) ⟨_, Heap.get?_push_size _ rfl, rfl⟩ isSubtype_stop ?_)
  exact wpAny_pure (hQ _ _ fun b ob hb e => Heap.get?_push_of_some _ (Heap.get?_push_of_some _ ((Heap.SameBut.update ..).extBut b ob hb ((Heap.SameBut.update ..).extBut b ob hb e))))
end
end RevT

namespace DL
open PySem PySem.Spec PyProof.Rows L2
/-- the tuple at a from behind -/
def Itv (K : PySem.W.Frag) (a : Addr) (n : Nat) : It :=
  ⟨fun i H => ∃ xs x, SqT K H a xs ∧ xs.length = n ∧ xs.reverse[i]? = some x, fun i H x H' => H' = H ∧ ∀ xs, SqT K H a xs → xs.reverse[i]? = some x, fun i H => ∃ xs, SqT K H a xs ∧ xs.length = n ∧ xs.length ≤ i⟩
theorem turn_rev {P : Program} {w : World} {K : PySem.W.Frag} {tg : Expr} (a it : Addr) (n : Nat) :
    Turn P w K tg (Itv K a n) [it] it (fun i h => i ≤ n ∧ RevT.IsRev h it a ((n : Int) - 1 - (i : Int))) where
  mem := by simp
  obj := fun i h st b hb => by
    have e : b = it := by simpa using hb
    subst e
    obtain ⟨_, o, e, c, d⟩ := st
    exact ⟨o, e, fun v z => by rw [d] at z; cases z⟩
  keep := fun i h h' st k => ⟨st.1, st.2.at fun o e => k it (by simp) o e⟩
  item := by
    intro X hP hw hK hc i pins s σ H E I hf st hg
    subst hP hw hK
    obtain ⟨xs, x, hq, hl, hx⟩ := hg
    obtain ⟨its, rv, p, hz⟩ := I.tuple hq
    have hi : i < xs.length := by
      have := (List.getElem?_eq_some_iff.mp hx).1
      simpa using this
    rw [List.getElem?_reverse hi] at hx
    obtain ⟨u, hu, ru⟩ := rv.get hx
    obtain ⟨f0, f1, f2, f3, f4, f5⟩ := hf it (by simp)
    have e : (n : Int) - 1 - (i : Int) = ((xs.length - 1 - i : Nat) : Int) := by omega
    have hit := st.2
    rw [e] at hit
    have hil := rv.length
    refine RevT.next_item hit p (x := u) (by simpa using hu) (by rw [List.size_toArray, ← hil]; exact hz) fun h' tk st' sb => ?_
    have I1 : Inv X pins σ H { s with heap := h', toks := tk } := I.turned (fun b o hb e => (sb.2 b hb).trans e) f0 f1 f3 f4 f5
    have e2 : ((xs.length - 1 - i : Nat) : Int) - 1 = (n : Int) - 1 - ((i + 1 : Nat) : Int) := by omega
    rw [e2] at st'
    obtain ⟨o, e, c, d⟩ := id st'
    refine ⟨u, rfl, go_of (s := { s with heap := h', toks := tk }) e c d (by decide) ⟨x, H, I1, ru, ⟨rfl, fun ys hy => ?_⟩, ⟨by omega, st'⟩, fun b hb => (hf b hb).1⟩⟩
    rw [I.tuple_inj hy hq, List.getElem?_reverse hi]
    exact hx
  done := by
    intro X hP hw hK hc i pins s σ H E I hf st hg
    subst hP hw hK
    obtain ⟨xs, hq, hl, hx⟩ := hg
    obtain ⟨f0, f1, f2, f3, f4, f5⟩ := hf it (by simp)
    have e : (n : Int) - 1 - (i : Int) = -1 := by have := st.1; omega
    have hit := st.2
    rw [e] at hit
    exact RevT.next_end (I.ok.hd hc) hit fun h' tk eb => ⟨rfl, I.turned (fun b o hb e => eb b o hb e) f0 f1 f3 f4 f5⟩
  self := fun _ _ _ _ _ st h => RevT.iter_rev st.2 h
theorem bt_reversed : bootBuiltins "reversed" = some (.type "reversed") := by decide +kernel
section
variable {X : Cx} {pos p : Pos} {a tg : Expr} {f : DEn}
theorem pi_rev {tl : TE} (hg : Gl X "reversed") (hm : X.mg "reversed" = none) (ha : PE X a tl) (hs : starEach [a] X.env = [(false, eval a X.env)] := by rfl) :
    PI X tg (.Call (.Name "reversed" p) [a] [] pos) (fun σ H R => tl σ H fun x H1 => ∃ b xs, [x] = [V.ref b] ∧ SqT X.K H1 b xs ∧ R (Itv X.K b xs.length) H1) := by
  intro pins s σ H R I h
  refine Call_ (ld_blt I hg hm bt_reversed (PyProof.Rows.callWith_type1 (thn (pa_cons ha pa_nil hs pos pins s σ H (fun vs H1 => ∃ b xs, vs = [V.ref b] ∧ SqT X.K H1 b xs ∧ R (Itv X.K b xs.length) H1) I h) fun us s1 ⟨vs, H1, I1, r1, q1⟩ => ?_) hs rfl))
  obtain ⟨b, xs, e, hq, q⟩ := q1
  subst e
  obtain ⟨u, e3, ru⟩ := vals1 r1
  subst e3
  cases (show u = Value.ref b from ru)
  obtain ⟨its, rv, pt, hz⟩ := I1.tuple hq
  have hl := rv.length
  refine RevT.call_rev pt (by rw [List.size_toArray, ← hl]; exact hz) fun tk => ?_
  have I2 : Inv X pins σ H1 { s1 with heap := s1.heap.push (RevT.revObj b ((its.toArray.size : Int) - 1)), toks := tk } := I1.kept fun b o e => Heap.get?_push_of_some _ e
  have st : RevT.IsRev (s1.heap.push (RevT.revObj b ((its.toArray.size : Int) - 1))) s1.heap.objs.size b ((xs.length : Int) - 1 - ((0 : Nat) : Int)) := by
    refine ⟨_, Heap.get?_push_size _ rfl, rfl, ?_⟩
    show Data.fields #[.ref b, rawInt ((its.toArray.size : Int) - 1)] = _
    rw [List.size_toArray, ← hl]
    simp
  refine RevT.iter_rev (s := { s1 with heap := s1.heap.push (RevT.revObj b ((its.toArray.size : Int) - 1)), toks := tk }) st ?_
  refine ⟨s1.heap.objs.size, [s1.heap.objs.size], _, _, H1, rfl, I2, turn_rev b _ xs.length, ⟨Nat.zero_le _, st⟩, fun c hc => ?_, q⟩
  have e : c = s1.heap.objs.size := by simpa using hc
  subst e
  exact I1.fpOk (Nat.le_refl _) (I1.hok.fresh (Nat.le_refl _))
theorem yl_rev {K : PySem.W.Frag} {B Hs : Hp} {a : Addr} {xs : List V} {ds : List D} (hs : SqT K Hs a xs) (hl : HasL K Hs ds xs) : Yl K B Hs (Itv K a xs.length) ds.reverse := by
  intro H sB tk i
  have s1 := tk a xs hs
  have l1 := (HasL.mono tk _ _ hl).rev
  refine ⟨fun d e => ?_, fun x H' d y e => ?_, fun hl => ?_⟩
  · obtain ⟨x, ex, _⟩ := l1.get e
    exact ⟨xs, x, s1, rfl, ex⟩
  · obtain ⟨e1, e2⟩ := y
    obtain ⟨w, ew, hw⟩ := l1.get e
    have := e2 xs s1
    rw [ew] at this
    cases this
    exact ⟨e1, hw⟩
  · exact ⟨xs, s1, rfl, by have := l1.len; rw [List.length_reverse] at this hl; rw [List.length_reverse] at this; omega⟩
theorem di_rev (ha : DE X a f) (hg : Gl X "reversed") (hm : X.mg "reversed" = none) (hs : starEach [a] X.env = [(false, eval a X.env)] := by rfl) : DI X tg (.Call (.Name "reversed" p) [a] [] pos) (iRev f) :=
  pi_to (pi_rev hg hm ha hs) fun σ H R ⟨B, δ, ds, rp, e, q⟩ => by
    unfold iRev at e
    split at e
    · rename_i ds' e0
      cases e
      refine ⟨B, δ, _, rp, e0, fun v H1 g1 i1 => ?_⟩
      have i1 : Has X.K H1 (.tup ds') v := i1
      simp only [Has] at i1
      obtain ⟨w, xs, e1, s1, l1⟩ := i1
      exact ⟨w, xs, by rw [e1], s1, q _ H1 g1 (yl_rev s1 l1)⟩
    · cases e
end
end DL

namespace DL
open PySem PySem.Spec PyProof.Rows L2
theorem getElem_of {α : Type} {xs : List α} {j : Nat} {x : α} (h : xs[j]? = some x) (hj : j < xs.toArray.size) : xs.toArray[j] = x := by
  have hj' : j < xs.length := by simpa using hj
  rw [List.getElem?_eq_getElem hj'] at h
  simpa using Option.some.inj h
theorem all_true_range (n : Nat) : ((List.range n).all fun _ => true) = true := List.all_eq_true.mpr fun _ _ => rfl
section
variable {X : Cx} {pins : List (Addr × Obj)} {σ : St} {H : Hp} {s : Shared}
theorem eqAt_D (I : Inv X pins σ H s) : ∀ (n : Nat) (d : D) (v v' : V) (u u' : Value) (A : Around), shal n d = true → A.units + n < cLine → Has X.K H d v → Has X.K H d v' → RelV v u → RelV v' u' → SeqAt.EqAt A s u u' true := by
  intro n
  induction n with
  | zero =>
    intro d v v' u u' A hs hu h1 h2 r1 r2
    cases d with
    | tup ds => cases hs
    | fu x => cases hs
    | non => simp only [Has] at h1 h2; subst h1; subst h2; have := eqAt_V (A := A) (s := s) r1 r2 rfl rfl; simpa [eqV] using this
    | bl b => simp only [Has] at h1 h2; subst h1; subst h2; have := eqAt_V (A := A) (s := s) r1 r2 rfl rfl; simpa [eqV] using this
    | int b => simp only [Has] at h1 h2; subst h1; subst h2; have := eqAt_V (A := A) (s := s) r1 r2 rfl rfl; simpa [eqV] using this
    | str b => simp only [Has] at h1 h2; subst h1; subst h2; have := eqAt_V (A := A) (s := s) r1 r2 rfl rfl; simpa [eqV] using this
  | succ n ih =>
    intro d v v' u u' A hs hu h1 h2 r1 r2
    cases d with
    | fu x => cases hs
    | non => simp only [Has] at h1 h2; subst h1; subst h2; have := eqAt_V (A := A) (s := s) r1 r2 rfl rfl; simpa [eqV] using this
    | bl b => simp only [Has] at h1 h2; subst h1; subst h2; have := eqAt_V (A := A) (s := s) r1 r2 rfl rfl; simpa [eqV] using this
    | int b => simp only [Has] at h1 h2; subst h1; subst h2; have := eqAt_V (A := A) (s := s) r1 r2 rfl rfl; simpa [eqV] using this
    | str b => simp only [Has] at h1 h2; subst h1; subst h2; have := eqAt_V (A := A) (s := s) r1 r2 rfl rfl; simpa [eqV] using this
    | tup ds =>
      simp only [Has] at h1 h2
      obtain ⟨a, xs, rfl, s1, l1⟩ := h1
      obtain ⟨b, ys, rfl, s2, l2⟩ := h2
      cases (show u = Value.ref a from r1)
      cases (show u' = Value.ref b from r2)
      by_cases hab : a = b
      · subst hab; exact SeqAt.EqAt.same _
      · obtain ⟨its, rv, p, _⟩ := I.tuple s1
        obtain ⟨its2, rv2, p2, _⟩ := I.tuple s2
        have n1 := l1.len
        have n2 := l2.len
        have m1 := rv.length
        have m2 := rv2.length
        have q := SeqAt.RcAt.tuples (A := A) (s := s) (e := fun _ => true) (show s.heap.IsTuple a its.toArray from p) (show s.heap.IsTuple b its2.toArray from p2) (by omega) ?_
        · have e : (((List.range (min its.toArray.size its2.toArray.size)).all fun _ => true) && (its.toArray.size == its2.toArray.size)) = true := by
            rw [List.size_toArray, List.size_toArray, ← m1, ← m2, ← n1, ← n2]
            simp
          rw [e] at q
          exact SeqAt.EqAt.of_refs hab q
        · intro j hj1 hj2
          have hj : j < ds.length := by rw [List.size_toArray] at hj1; omega
          obtain ⟨x, ex, hx⟩ := l1.get (List.getElem?_eq_getElem hj)
          obtain ⟨y, ey, hy⟩ := l2.get (List.getElem?_eq_getElem hj)
          obtain ⟨w, ew, rw'⟩ := rv.get ex
          obtain ⟨w2, ew2, rw2⟩ := rv2.get ey
          rw [getElem_of ew hj1, getElem_of ew2 hj2]
          exact ih ds[j] x y w w2 A.in1 (List.all_eq_true.mp hs _ (List.getElem_mem hj)) (by show A.units + 1 + n < cLine; omega) hx hy rw' rw2
theorem eq_D (hu : X.A.units + 64 < cLine) : ∀ {d : D} {v v' : V} {u u' : Value} {Q : Value → Shared → Prop} {E : Value → Shared → Prop}, Inv X pins σ H s → shal 6 d = true → eqK d d = none → Has X.K H d v → Has X.K H d v' → RelV v u → RelV v' u' → Q (.bool true) s →
    wpAny (model X.prog X.w) X.A (compareOp .Eq u u') Q E s := by
  intro d v v' u u' Q E I hs hk h1 h2 r1 r2 hq
  cases d with
  | tup ds =>
    simp only [Has] at h1 h2
    obtain ⟨a, xs, rfl, s1, l1⟩ := h1
    obtain ⟨b, ys, rfl, s2, l2⟩ := h2
    cases (show u = Value.ref a from r1)
    cases (show u' = Value.ref b from r2)
    obtain ⟨its, rv, p, _⟩ := I.tuple s1
    obtain ⟨its2, rv2, p2, _⟩ := I.tuple s2
    have n1 := l1.len
    have n2 := l2.len
    have m1 := rv.length
    have m2 := rv2.length
    refine SeqAt.eq_tupleAt (e := fun _ => true) (show s.heap.IsTuple a its.toArray from p) (show s.heap.IsTuple b its2.toArray from p2) (by omega) ?_ ?_
    · intro j hj1 hj2
      have hj : j < ds.length := by rw [List.size_toArray] at hj1; omega
      obtain ⟨x, ex, hx⟩ := l1.get (List.getElem?_eq_getElem hj)
      obtain ⟨y, ey, hy⟩ := l2.get (List.getElem?_eq_getElem hj)
      obtain ⟨w, ew, rw'⟩ := rv.get ex
      obtain ⟨w2, ew2, rw2⟩ := rv2.get ey
      rw [getElem_of ew hj1, getElem_of ew2 hj2]
      exact eqAt_D I 5 ds[j] x y w w2 X.A.in1 (List.all_eq_true.mp hs _ (List.getElem_mem hj)) (by show X.A.units + 1 + 5 < cLine; omega) hx hy rw' rw2
    · have e : (((List.range (min its.toArray.size its2.toArray.size)).all fun _ => true) && (its.toArray.size == its2.toArray.size)) = true := by
        rw [List.size_toArray, List.size_toArray, ← m1, ← m2, ← n1, ← n2]
        simp
      rw [e]
      exact hq
  | fu x => cases hs
  | non => cases hk
  | bl b => cases hk
  | int i => cases hk
  | str x => cases hk
theorem eq_L (hu : X.A.units + 64 < cLine) {ds : List D} {a b : Addr} {xs ys : List V} {Q : Value → Shared → Prop} {E : Value → Shared → Prop} (I : Inv X pins σ H s) (hs : ds.all (shal 6) = true) (s1 : SqL X.K H a xs) (l1 : HasL X.K H ds xs) (s2 : SqL X.K H b ys) (l2 : HasL X.K H ds ys) (hq : Q (.bool true) s) :
    wpAny (model X.prog X.w) X.A (compareOp .Eq (.ref a) (.ref b)) Q E s := by
  obtain ⟨its, rv, p, _⟩ := I.list s1
  obtain ⟨its2, rv2, p2, _⟩ := I.list s2
  have n1 := l1.len
  have n2 := l2.len
  have m1 := rv.length
  have m2 := rv2.length
  refine SeqAt.eq_listAt (e := fun _ => true) p.isList p2.isList (by rw [List.size_toArray, List.size_toArray]; omega) (by omega) ?_ (by rw [all_true_range]; exact hq)
  intro j hj1 hj2
  have hj : j < ds.length := by rw [List.size_toArray] at hj1; omega
  obtain ⟨x, ex, hx⟩ := l1.get (List.getElem?_eq_getElem hj)
  obtain ⟨y, ey, hy⟩ := l2.get (List.getElem?_eq_getElem hj)
  obtain ⟨w, ew, rw'⟩ := rv.get ex
  obtain ⟨w2, ew2, rw2⟩ := rv2.get ey
  rw [getElem_of ew hj1, getElem_of ew2 hj2]
  exact eqAt_D I 6 ds[j] x y w w2 X.A.in1 (List.all_eq_true.mp hs _ (List.getElem_mem hj)) (by show X.A.units + 1 + 6 < cLine; omega) hx hy rw' rw2
end
section
variable {X : Cx}
theorem ne_of_eq {u u' : Value} {Q : Value → Shared → Prop} {E : Value → Shared → Prop} {s : Shared} {a b : Addr} {T : String} : True := trivial
theorem o_eqD (hu : X.A.units + 64 < cLine) : OpR X (compareOp .Eq) (r2R X.K gEqD) := by
  intro pins s σ H x y v u Q I rx ry h
  obtain ⟨r1, r2, r, h1, h2, e, q⟩ := h
  unfold gEqD at e
  split at e
  · rename_i d1 d2
    obtain ⟨b, eb, er⟩ := ms e
    subst er
    unfold eqD at eb
    split at eb
    · rename_i b' e0
      cases eb
      obtain ⟨c1, c2⟩ := eqK_scal h1 h2 e0
      exact op_eq pins s σ H x y v u Q I rx ry ⟨c1, q _ H (Same.refl _) (by simp only [Out, Has, c2])⟩
    · rename_i e0
      split at eb
      · rename_i hh
        cases eb
        obtain ⟨rfl, hs⟩ := hh
        exact eq_D hu I hs e0 h1 h2 rx ry ⟨.bl true, H, I, rfl, q _ H (Same.refl _) (by simp only [Out, Has])⟩
      · cases eb
  · rename_i f xs g ys
    split at e
    · rename_i hh
      cases e
      obtain ⟨rfl, hs⟩ := hh
      obtain ⟨a1, zs, e1, s1, l1⟩ := h1.sq
      obtain ⟨a2, ws, e2, s2, l2⟩ := h2.sq
      subst e1
      subst e2
      cases (show v = Value.ref a1 from rx)
      cases (show u = Value.ref a2 from ry)
      exact eq_L hu I hs s1 l1 s2 l2 ⟨.bl true, H, I, rfl, q _ H (Same.refl _) (by simp only [Out, Has])⟩
    · cases e
  · cases e
theorem ints_has {K : PySem.W.Frag} {H : Hp} : ∀ {ds : List D} {ys : List V} {ns : List Int}, intsD ds = some ns → HasL K H ds ys → ys = ns.map V.int
  | [], ys, ns, e, h => by
    cases e
    simp only [HasL] at h
    rw [h]; rfl
  | .int b :: r, ys, ns, e, h => by
    obtain ⟨q, e1, e2⟩ := ms (show (intsD r).map (b :: ·) = some ns from e)
    subst e2
    simp only [HasL, Has] at h
    obtain ⟨x, z, e3, e4, h2⟩ := h
    rw [e3, e4, ints_has e1 h2]
    rfl
  | .non :: r, ys, ns, e, h => by cases e
  | .bl _ :: r, ys, ns, e, h => by cases e
  | .str _ :: r, ys, ns, e, h => by cases e
  | .tup _ :: r, ys, ns, e, h => by cases e
  | .fu _ :: r, ys, ns, e, h => by cases e
theorem flat_ints : ∀ ns : List Int, (ns.map V.int).all flatV = true
  | [] => rfl
  | _ :: r => by rw [List.map_cons, List.all_cons, flat_ints r]; rfl
theorem in_ints (i : Int) : ∀ ns : List Int, inV (.int i) (ns.map V.int) = ns.contains i
  | [] => rfl
  | n :: r => by
    have ih := in_ints i r
    unfold inV at ih ⊢
    rw [List.map_cons, List.any_cons, ih, List.contains_cons]
    congr 1
    show (n == i) = (i == n)
    by_cases h : n = i
    · subst h; rfl
    · rw [beq_eq_false_iff_ne.mpr h, beq_eq_false_iff_ne.mpr (Ne.symm h)]
theorem o_in : OpR X (compareOp .In) (r2R X.K gIn) := by
  intro pins s σ H x y v u Q I rx ry h
  obtain ⟨r1, r2, r, h1, h2, e, q⟩ := h
  unfold gIn at e
  split at e
  · rename_i i f ds
    obtain ⟨ns, en, er⟩ := ms e
    subst er
    have h1 : Has X.K H (.int i) x := h1
    simp only [Has] at h1
    obtain ⟨a2, ws, e2, s2, l2⟩ := h2.sq
    have e3 := ints_has en l2
    exact op_in_seq pins s σ H x y v u Q I rx ry ⟨a2, ws, e2, .inl s2, by rw [h1]; rfl, by rw [e3]; exact flat_ints ns, q _ H (Same.refl _) (by rw [h1, e3, in_ints]; simp only [Out, Has]; rfl)⟩
  · rename_i i ds
    obtain ⟨ns, en, er⟩ := ms e
    subst er
    have h1 : Has X.K H (.int i) x := h1
    have h2 : Has X.K H (.tup ds) y := h2
    simp only [Has] at h1 h2
    obtain ⟨a2, ws, e2, s2, l2⟩ := h2
    have e3 := ints_has en l2
    exact op_in_seq pins s σ H x y v u Q I rx ry ⟨a2, ws, e2, .inr s2, by rw [h1]; rfl, by rw [e3]; exact flat_ints ns, q _ H (Same.refl _) (by rw [h1, e3, in_ints]; simp only [Out, Has]; rfl)⟩
  · cases e
theorem o_notIn : OpR X (compareOp .NotIn) (r2R X.K gNotIn) := by
  intro pins s σ H x y v u Q I rx ry h
  obtain ⟨r1, r2, r, h1, h2, e, q⟩ := h
  unfold gNotIn at e
  split at e
  · rename_i i f ds
    obtain ⟨ns, en, er⟩ := ms e
    subst er
    have h1 : Has X.K H (.int i) x := h1
    simp only [Has] at h1
    obtain ⟨a2, ws, e2, s2, l2⟩ := h2.sq
    have e3 := ints_has en l2
    exact op_notIn_seq pins s σ H x y v u Q I rx ry ⟨a2, ws, e2, .inl s2, by rw [h1]; rfl, by rw [e3]; exact flat_ints ns, q _ H (Same.refl _) (by rw [h1, e3, in_ints]; simp only [Out, Has]; rfl)⟩
  · rename_i i ds
    obtain ⟨ns, en, er⟩ := ms e
    subst er
    have h1 : Has X.K H (.int i) x := h1
    have h2 : Has X.K H (.tup ds) y := h2
    simp only [Has] at h1 h2
    obtain ⟨a2, ws, e2, s2, l2⟩ := h2
    have e3 := ints_has en l2
    exact op_notIn_seq pins s σ H x y v u Q I rx ry ⟨a2, ws, e2, .inr s2, by rw [h1]; rfl, by rw [e3]; exact flat_ints ns, q _ H (Same.refl _) (by rw [h1, e3, in_ints]; simp only [Out, Has]; rfl)⟩
  · cases e
theorem c_int : CallR X (.type "int") (rB X.K gInt) := by
  intro pins s σ H xs us Q I rv h
  obtain ⟨B, H0, rs, r, sB, i1, e, q⟩ := h
  unfold gInt at e
  split at e
  · rename_i i
    cases e
    obtain ⟨v, e1, i2⟩ := isrs1 i1
    subst e1
    have i2 : Has X.K H (.int i) v := i2
    simp only [Has] at i2
    subst i2
    exact call_int1 pins s σ H _ us Q I rv (.inl ⟨i, rfl, q _ H (Same.refl _) (by simp only [Out, Has])⟩)
  · rename_i b
    cases e
    obtain ⟨v, e1, i2⟩ := isrs1 i1
    subst e1
    have i2 : Has X.K H (.bl b) v := i2
    simp only [Has] at i2
    subst i2
    exact call_int1 pins s σ H _ us Q I rv (.inr ⟨b, rfl, q _ H (Same.refl _) (by simp only [Out, Has])⟩)
  · cases e
end
end DL

namespace DL
open PySem PySem.Spec PyProof.Rows L2
section
variable {X : Cx} {pos p p2 : Pos} {a b c : Expr} {f h k : DEn} {es : List Expr} {t : DAn}
/-! constants of the module's top; defs as values -/
theorem de_globS {x : Str} {i : Str} {t : Tok} (hg : Gl X x) (hm : X.mg x = some (.str i t)) (hd : (x == ("__debug__" : Str)) = false := by decide) : DE X (.Name x pos) (dC (.str i)) := de_c (v := V.str i) (pe_glob (v := V.str i) hg hm ⟨t, rfl⟩ hd) fun _ _ => by simp only [Has]
theorem de_globT {x : Str} {r : Addr} {d : D} (hg : Gl X x) (hm : X.mg x = some (.ref r)) (hT : ∀ H, Has X.K H d (.ref r)) (hd : (x == ("__debug__" : Str)) = false := by decide) : DE X (.Name x pos) (dC d) :=
  pe_to (pe_glob (v := V.ref r) hg hm rfl hd) fun σ H Q ⟨B, δ, r', rp, e, q⟩ => by
    cases e
    exact q _ H (Same.refl _) (hT H)
theorem glob_tup {K : PySem.W.Frag} {r : Addr} {od : Option Addr} {i j : Int} {t u : Tok} {n : Nat} {sl : Array (Option Value)} (h : K.lookup r = some ⟨.type "tuple", od, .seq #[.int i t, .int j u] n, sl⟩) (H : Hp) : Has K H (.tup [.int i, .int j]) (.ref r) := by
  simp only [Has]
  exact ⟨r, [V.int i, V.int j], rfl, .inr ⟨_, _, _, h, rfl, rfl, by size_fits, .cons ⟨t, rfl⟩ (.cons ⟨u, rfl⟩ .nil)⟩, HasL.ints [i, j]⟩
theorem de_fu {n : Nat} {x : Str} {ps : List Str} {F : Fn} (C : Cal X.prog X.w X.K X.mg X.base n x ps F) (hg : Gl X x) (hd : (x == ("__debug__" : Str)) = false := by decide) : DE X (.Name x pos) (dFu x) := by
  obtain ⟨fa, fd, F1, F2, F3, F4, F5⟩ := C.ex
  refine pe_to (pe_glob (v := V.ref fa) hg F4 rfl hd) fun σ H Q ⟨B, δ, r', rp, e, q⟩ => ?_
  cases e
  refine q _ H (Same.refl _) ?_
  show Has X.K H (.fu x) _
  simp only [Has]
  exact ⟨fa, rfl, F5⟩
theorem pe_callV {CX : CXT} {k : Nat} {f : Addr} {fd : FuncData} {ps : List Str} {sp : Sp} {dvs : List V} {ds : List Value} {E : XK} {x : Str} {e : Expr} {t : TA} {i : Nat} (F : FnOk X.prog X.w X.K X.mg X.base CX k f fd ps sp) (hr : Room k X.A) (hk : PySem.W.keepIn X.K (.ref f) = true) (hb : Binds X.K fd ps ds) (hd : Vals dvs ds) (hx : Passes CX X E)
    (hN : X.N[i]? = some x) (hv : Vis X.env.scope x) (ha : PA X (e :: es) t) (hdb : (x == ("__debug__" : Str)) = false) (hcd : (x == ("__classdict__" : Str)) = false) (he : starEach (e :: es) X.env = (false, eval e X.env) :: starEach es X.env) (hpl : (backTo pos (starEach es X.env)).any (·.1) = false) :
    PE X (.Call (.Name x p) (e :: es) [] pos) (fun σ H Q => σ[i]? = some (some (.ref f)) ∧ tCall sp dvs E t σ H Q) := by
  intro pins s σ H Q I hh
  obtain ⟨hi, h⟩ := hh
  refine wpAny_Call_Name_kw (thn (pe_var hN hv hdb hcd pins s σ H (fun v H' => v = .ref f ∧ H' = H) I ⟨_, hi, rfl, rfl⟩) fun u s1 ⟨v, H1, I1, r, e1, e2⟩ => ?_)
  subst e1
  subst e2
  cases (show u = Value.ref f from r)
  refine PySem.W.callWith_K (h₀ := X.base) I1.ok.mod.kin hk (thn (ha pos pins s1 σ H1 _ I1 h) fun us s2 ⟨vs, H2, I2, r, q⟩ => ⟨I2.kIn, ?_⟩) he hpl
  exact run_fn F hr hb hd hx I2 r q
theorem de_callV (i : Nat) {n m : Nat} {x y : Str} {ps : List Str} {F : Fn} (C : Cal X.prog X.w X.K X.mg X.base n y ps F) (hr : Room m X.A) (hn : n ≤ m) (ha : DA X (a :: es) t) (hN : X.N[i]? = some x := by rfl) (hv : Vis X.env.scope x := by first | exact Or.inl rfl | exact Or.inr (Or.inl rfl) | exact Or.inr (Or.inr rfl)) (hdb : (x == ("__debug__" : Str)) = false := by decide)
    (hcd : (x == ("__classdict__" : Str)) = false := by decide) (he : starEach (a :: es) X.env = (false, eval a X.env) :: starEach es X.env := by rfl) (hpl : (backTo pos (starEach es X.env)).any (·.1) = false := by rfl) : DE X (.Call (.Name x p) (a :: es) [] pos) (dCallV i y F t) := by
  obtain ⟨fa, fd, F1, F2, F3, F4, F5⟩ := C.ex
  refine pe_to (pe_callV F1 (hr.mono hn) F3 F2 .nil pass0 hN hv ha hdb hcd he hpl) fun σ H Q ⟨B, δ, r, rp, e, q⟩ => ?_
  unfold dCallV at e
  split at e
  · rename_i z e0
    split at e
    · rename_i hz
      subst hz
      obtain ⟨v, e1, hs⟩ := rp.at_ i _ e0
      have hs : Has X.K H (.fu z) v := hs
      simp only [Has] at hs
      obtain ⟨a', ev, hn'⟩ := hs
      rw [F5] at hn'
      cases hn'
      subst ev
      obtain ⟨rs, e2, e⟩ := bs e
      refine ⟨e1, B, δ, rs, rp, e2, fun vs H1 g1 i1 => ?_⟩
      show spD X.K F (vs ++ []) H1 Q E0
      rw [List.append_nil]
      exact ⟨rs.map R.arg, r, args_of (rp.same.trans g1) i1, e, fun v H2 g2 o => q v H2 (g1.trans g2) (o.is g1)⟩
    · cases e
  · cases e
theorem de_else (h1 : DE X a f) (h2 : DE X a h) : DE X a (dElse f h) := fun pins s σ H Q I ⟨B, δ, r, rp, e, q⟩ => by
  unfold dElse at e
  split at e
  · rename_i r' e0
    cases e
    exact h1 pins s σ H Q I ⟨B, δ, _, rp, e0, q⟩
  · exact h2 pins s σ H Q I ⟨B, δ, r, rp, e, q⟩
/-! x.extend(e) -/
theorem ds_ext {W : Hp → Prop} (i : Nat) {x : Str} {ap cp : Pos} (he : DE X a f) (hN : X.N[i]? = some x := by rfl) (hv : Vis X.env.scope x := by first | exact Or.inl rfl | exact Or.inr (Or.inl rfl) | exact Or.inr (Or.inr rfl)) (hd : (x == ("__debug__" : Str)) = false := by decide)
    (hcd : (x == ("__classdict__" : Str)) = false := by decide) (hs : starEach [a] X.env = (false, eval a X.env) :: starEach [] X.env := by rfl) (hl : (ap.endLine == cp.line) = true := by rfl)
    (hfew : ((backTo cp (starEach [a] X.env)).all (fun x => !x.1) && (backToKw cp (keywordEach [] X.env)).all (fun x => x.1.isSome)
      && decide (([a] : List Expr).length + ([] : List Keyword).length + (if ([] : List Keyword).isEmpty then 0 else 1) < 30)) = true := by rfl)
    (hbase : attributeBase (.Name x p) "extend" X.env (eval (.Name x p) X.env) = eval (.Name x p) X.env := by rfl)
    (hsw : swapsWith (.Call (.Attribute (.Name x p) "extend" ap) [a] [] cp) none pos.line X.env = pure false := by rfl) : DS X W (.Expr (.Call (.Attribute (.Name x p) "extend" ap) [a] [] cp) pos) (sExt i f) :=
  ps_to (ps_expr (pe_bm (T := "list") (id := "list.extend") PySem.F.plainAttrs_list PySem.F.slot_list_extend PySem.F.type_list_extend mt_extend (pe_var hN hv hd hcd) (pa_cons he pa_nil hs) hbase hfew hl hs rfl) hsw) fun D σ H ⟨B, δ, o, sB, rp, e, q⟩ => by
    obtain ⟨r, e1, e⟩ := bs e
    split at e
    · rename_i r0 fl es' ds e2
      split at e
      · rename_i hz
        cases e
        obtain ⟨v, e3, w, xs, e4, hw, hB, hl⟩ := rp.at_ i _ e2
        subst e4
        refine ⟨_, e3, .inl ⟨rfl, xs, SqL.of hw⟩, B, δ, _, rp, e1, fun v H1 g1 i1 => ?_⟩
        obtain ⟨b', zs, e5, hb, hl2⟩ := (i1.vw (rp.same.trans g1)).trk hz.1
        subst e5
        have n1 := hl.len
        have n2 := hl2.len
        refine ⟨w, b', xs, zs, rfl, rfl, g1 _ _ hw, hb, line10000 (by omega), q B σ _ (Same.refl _) ((Same.tk g1).trans (tk_upd (g1 _ _ hw))) ?_⟩
        exact (rp.grow g1).write e2 e3 (g1 _ _ hw) ((hl.grow g1).app hl2)
      · cases e
    · cases e
/-! xs.index(i) -/
def rIndex (K : PySem.W.Frag) : V → List V → Hp → VK → Prop := fun x vs H Q => ∃ (l : Addr) (ns : List Int) (i : Int), x = .ref l ∧ vs = [.int i] ∧ SqL K H l (ns.map V.int) ∧ i ∈ ns ∧ Q (.int (ns.idxOf i : Nat)) H
theorem mt_index : MtM X "list.index" (rIndex X.K) := by
  intro pins s σ H x vs v us Q I rx rv h
  obtain ⟨l, ns, i, rfl, rfl, hS, hi, q⟩ := h
  cases rx
  obtain ⟨u, rfl, ru⟩ := rv.one
  obtain ⟨tk, rfl⟩ := ru
  obtain ⟨its, r, p, hz⟩ := I.list hS
  have hI : IntsAre its ns := intsAre_of r
  have hlen := hI.length
  obtain ⟨⟨cls, dd, data, sl⟩, ho, hc, n, hd⟩ := id p.isList
  simp only at hc hd
  subst hc hd
  have hj : ns.idxOf i < ns.length := List.idxOf_lt_length_iff.mpr hi
  have hb : ns.length ≤ sizeLine := by rw [List.length_map] at hz; exact hz
  have hl63 := line63
  refine call_meets PySem.F.slot_list_index ⟨_, ho, rfl⟩ PySem.F.entry_list_index (PySem.F.args_list_index_2 _ _)
    (SeqAt.list_indexAt l its.toArray n dd sl (.int i tk) (isInt i) (ns.idxOf i) (by simpa [hlen] using hj) (by omega) ?_ ?_) ⟨ho, fun y hy => (eq_isInt i tk hI y (by simpa using hy)).at _ _, ?_⟩
  · show isInt i its[ns.idxOf i] = true
    rw [isInt_at i hI _ (by omega) hj]
    simpa using List.getElem_idxOf hj
  · intro j hjs hlt
    show isInt i its[j] = false
    rw [isInt_at i hI j (by simpa using hjs) (by omega)]
    exact ne_of_lt_idxOf hlt _
  · exact ⟨.int (ns.idxOf i : Nat), H, I.tok _, ⟨_, rfl⟩, q⟩
theorem gIdx_inv {x y r : R} (e : gIdx x y = some r) : ∃ fl ds i ns, x = .l fl ds ∧ y = .d (.int i) ∧ intsD ds = some ns ∧ i ∈ ns ∧ r = .d (.int (ns.idxOf i : Nat)) := by
  unfold gIdx at e
  split at e
  · obtain ⟨ns, en, e⟩ := bs e
    split at e
    · rename_i hm
      cases e
      exact ⟨_, _, _, ns, rfl, rfl, en, hm, rfl⟩
    · cases e
  · cases e
theorem de_idx {ap cp : Pos} (ha : DE X a f) (hb : DE X b h) (hs : starEach [b] X.env = (false, eval b X.env) :: starEach [] X.env := by rfl) (hl : (ap.endLine == cp.line) = true := by rfl)
    (hfew : ((backTo cp (starEach [b] X.env)).all (fun x => !x.1) && (backToKw cp (keywordEach [] X.env)).all (fun x => x.1.isSome)
      && decide (([b] : List Expr).length + ([] : List Keyword).length + (if ([] : List Keyword).isEmpty then 0 else 1) < 30)) = true := by rfl)
    (hbase : attributeBase a "index" X.env (eval a X.env) = eval a X.env := by rfl) : DE X (.Call (.Attribute a "index" ap) [b] [] cp) (d2 gIdx f h) :=
  pe_to (pe_bm (T := "list") (id := "list.index") PySem.F.plainAttrs_list PySem.F.slot_list_index PySem.F.type_list_index mt_index ha (pa_cons hb pa_nil hs) hbase hfew hl hs rfl) fun σ H Q ⟨B, δ, r, rp, e, q⟩ => by
    obtain ⟨x, ex, e⟩ := bs e
    obtain ⟨y, ey, e⟩ := bs e
    refine ⟨B, δ, x, rp, ex, fun v H1 g1 i1 => ?_⟩
    obtain ⟨fl, ds, i, ns, rfl, rfl, en, hm, rfl⟩ := gIdx_inv e
    have s1 := rp.same.trans g1
    obtain ⟨w, xs, e1, sq, l1⟩ := (i1.vw s1).sq
    subst e1
    refine ⟨.inl ⟨rfl, xs, sq⟩, B, δ, _, rp.grow g1, ey, fun v2 H2 g2 i2 => ?_⟩
    have i2 : Has X.K H2 (.int i) v2 := i2
    simp only [Has] at i2
    subst i2
    have l2 := l1.grow g2
    rw [ints_has en l2] at sq
    exact ⟨w, ns, i, rfl, rfl, g2.seq sq, hm, q _ H2 (g1.trans g2) (by simp only [IsR, Has])⟩
/-! sum of a list of ints -/
theorem c_sum (hh : X.A.handled = none) : CallR X (.builtin "sum") (rB X.K gSum) := by
  intro pins s σ H xs us Q I rv h
  obtain ⟨B, H0, rs, r, sB, i1, e, q⟩ := h
  unfold gSum at e
  split at e
  · rename_i fl ds
    obtain ⟨ns, en, er⟩ := ms e
    subst er
    obtain ⟨v, e1, i2⟩ := isrs1 i1
    subst e1
    obtain ⟨w, ys, e2, s2, l2⟩ := (i2.vw sB).sq
    subst e2
    rw [ints_has en l2] at s2
    obtain ⟨u, e3, ru⟩ := vals1 rv
    subst e3
    cases (show u = Value.ref w from ru)
    obtain ⟨its, r, p, hz⟩ := I.list s2
    have hI : IntsAre its ns := intsAre_of r
    have hall : AllInts its.toArray := hI.allInts
    obtain ⟨zs, hzs⟩ := hall.items
    have pl : s.heap.IsList w its.toArray := p.isList
    have hn := hI.numsOf
    rw [hzs] at pl
    refine sum_intListG hh pl fun h' tk t' hk => ?_
    refine ⟨.int ns.sum, H, I.kept hk, ⟨t', ?_⟩, q _ H (Same.refl _) (by simp only [Out, Has])⟩
    rw [preSum_eq, List.take_of_length_le (by simp)]
    rw [← hn]
    have : its = (intItems zs).toList := by rw [← hzs]
    rw [this, nums_intItems]
  · cases e
/-! isinstance(x, list) -/
theorem c_isiL : CallR X (.builtin "isinstance") (fun xs H Q => ∃ w ys, xs = [.ref w, .ty "list"] ∧ SqL X.K H w ys ∧ Q (.bl true) H) := by
  intro pins s σ H xs us Q I rv h
  obtain ⟨w, ys, e, hx, q⟩ := h
  subst e
  obtain ⟨u, u', e, ru, ru'⟩ := vals2 rv
  subst e
  have ru' : u' = Value.type "list" := ru'
  subst ru'
  cases (show u = Value.ref w from ru)
  obtain ⟨its, rr, hp, hz⟩ := I.list hx
  obtain ⟨o, h1, h2, _⟩ := id hp.isList
  exact PySem.W.kia_one PySem.W.kitx_list I.kIn ⟨o, h1, h2⟩ (show PySem.W.kitOne X.K (.type "list") (.type "list") = some true from rfl) (fun z => nomatch z) fun tk => ⟨V.bl _, H, I.tok tk, rfl, q⟩
theorem bt_sum : bootBuiltins "sum" = some (.builtin "sum") := by decide +kernel
theorem bt_listT : bootBuiltins "list" = some (.type "list") := by decide +kernel
theorem de_isiL (ha : DE X a f) (hg : Gl X "isinstance") (hm : X.mg "isinstance" = none) (hg2 : Gl X "list") (hm2 : X.mg "list" = none)
    (he : starEach [a, .Name "list" p2] X.env = (false, eval a X.env) :: starEach [.Name "list" p2] X.env := by rfl) (he2 : starEach [.Name "list" p2] X.env = (false, eval (.Name "list" p2) X.env) :: starEach [] X.env := by rfl) (hpl : (backTo pos (starEach [.Name "list" p2] X.env)).any (·.1) = false := by rfl) :
    DE X (.Call (.Name "isinstance" p) [a, .Name "list" p2] [] pos) (d1 gIsL f) :=
  pe_to (pe_callB c_isiL hg hm boot_isinstance (pa_cons ha (pa_cons (pe_bltn hg2 hm2 bt_listT (v := .ty "list") rfl (by decide) (by decide)) pa_nil he2) he) (by decide) (by decide) he hpl) fun σ H Q ⟨B, δ, r, rp, e, q⟩ => by
    obtain ⟨x, ex, e⟩ := bs e
    refine ⟨B, δ, x, rp, ex, fun v H1 g1 i1 => ?_⟩
    cases x with
    | d x => cases e
    | l fl ds =>
      cases e
      obtain ⟨w, ys, e2, s2, l2⟩ := (i1.vw (rp.same.trans g1)).sq
      subst e2
      exact ⟨w, ys, rfl, s2, q _ H1 g1 (by simp only [IsR, Has])⟩
/-! greater ints -/
theorem line27 : (bitsLine : Nat) = 134217728 := by decide
theorem bits_le {i : Int} (h : i.natAbs.log2 < 4000) : Builtin.Int.intBits i ≤ 4000 := by
  unfold Builtin.Int.intBits
  split <;> omega
theorem o_mulB : OpR X (binaryOp .Mult) (r2R X.K (gI kMulB)) := by
  refine o_int (C := fun i j => i.natAbs.log2 < 4000 ∧ j.natAbs.log2 < 4000) (gv := fun i j => .int (i * j)) (opI fun i j t u s Q E hc q => mul_int q ?_) fun i j d e => ?_
  · have h1 := bits_le hc.1
    have h2 := bits_le hc.2
    unfold IntMulOk
    have : Builtin.Int.intTooBig ((Builtin.Int.intBits i : Int) + (Builtin.Int.intBits j : Int)) = false := by
      unfold Builtin.Int.intTooBig
      have := line27
      exact decide_eq_false (by omega)
    rw [this]
    simp
  · unfold kMulB at e
    split at e
    · rename_i c
      cases e
      exact ⟨c, fun K H => by simp only [Has]⟩
    · cases e
theorem o_divB : OpR X (binaryOp .FloorDiv) (r2R X.K (gI kDivB)) := by
  refine o_int (C := fun i j => 0 < j ∧ j.natAbs.log2 < 9000) (gv := fun i j => .int (i / j)) (opI fun i j t u s Q E hc q => ?_) fun i j d e => ?_
  · refine floordiv_int (by omega) ?_ (.inl (PyProof.noPylong_of_log2 hc.2))
    rw [Int.fdiv_eq_ediv_of_nonneg _ (by omega)]
    exact q
  · unfold kDivB at e
    split at e
    · rename_i c
      cases e
      exact ⟨c, fun K H => by simp only [Has]⟩
    · cases e
/-! != of equal lists -/
theorem ne_L {pins : List (Addr × Obj)} {σ : St} {H : Hp} {s : Shared} (hu : X.A.units + 64 < cLine) {ds : List D} {a b : Addr} {xs ys : List V} {Q : Value → Shared → Prop} {E : Value → Shared → Prop} (I : Inv X pins σ H s) (hs : ds.all (shal 6) = true) (s1 : SqL X.K H a xs) (l1 : HasL X.K H ds xs) (s2 : SqL X.K H b ys) (l2 : HasL X.K H ds ys) (hq : Q (.bool false) s) :
    wpAny (model X.prog X.w) X.A (compareOp .NotEq (.ref a) (.ref b)) Q E s := by
  obtain ⟨its, rv, p, _⟩ := I.list s1
  obtain ⟨its2, rv2, p2, _⟩ := I.list s2
  have n1 := l1.len
  have n2 := l2.len
  have m1 := rv.length
  have m2 := rv2.length
  refine SeqAt.RcNeAt.lists (e := fun _ => true) p.isList p2.isList (by rw [List.size_toArray, List.size_toArray]; omega) (by omega) ?_ X.prog X.w E Q (by rw [all_true_range]; exact hq)
  intro j hj1 hj2
  have hj : j < ds.length := by rw [List.size_toArray] at hj1; omega
  obtain ⟨x, ex, hx⟩ := l1.get (List.getElem?_eq_getElem hj)
  obtain ⟨y, ey, hy⟩ := l2.get (List.getElem?_eq_getElem hj)
  obtain ⟨w, ew, rw'⟩ := rv.get ex
  obtain ⟨w2, ew2, rw2⟩ := rv2.get ey
  rw [getElem_of ew hj1, getElem_of ew2 hj2]
  exact eqAt_D I 6 ds[j] x y w w2 X.A.in1 (List.all_eq_true.mp hs _ (List.getElem_mem hj)) (by show X.A.units + 1 + 6 < cLine; omega) hx hy rw' rw2
theorem o_neD (hu : X.A.units + 64 < cLine) : OpR X (compareOp .NotEq) (r2R X.K gNeD) := by
  intro pins s σ H x y v u Q I rx ry h
  obtain ⟨r1, r2, r, h1, h2, e, q⟩ := h
  unfold gNeD at e
  split at e
  · rename_i f' xs g' ys
    split at e
    · rename_i hh
      cases e
      obtain ⟨rfl, hs⟩ := hh
      obtain ⟨a1, zs, e1, s1, l1⟩ := h1.sq
      obtain ⟨a2, ws, e2, s2, l2⟩ := h2.sq
      subst e1
      subst e2
      cases (show v = Value.ref a1 from rx)
      cases (show u = Value.ref a2 from ry)
      exact ne_L hu I hs s1 l1 s2 l2 ⟨.bl false, H, I, rfl, q _ H (Same.refl _) (by simp only [Out, Has])⟩
    · cases e
  · cases e
end
end DL

namespace DL
open PySem PySem.Spec PyProof.Rows L2
/-- the list at a from behind -/
def Itw (K : PySem.W.Frag) (a : Addr) (n : Nat) : It :=
  ⟨fun i H => ∃ xs x, SqL K H a xs ∧ xs.length = n ∧ xs.reverse[i]? = some x, fun i H x H' => H' = H ∧ ∀ xs, SqL K H a xs → xs.reverse[i]? = some x, fun i H => ∃ xs, SqL K H a xs ∧ xs.length = n ∧ xs.length ≤ i⟩
theorem turn_revL {P : Program} {w : World} {K : PySem.W.Frag} {tg : Expr} (a it : Addr) (n : Nat) :
    Turn P w K tg (Itw K a n) [it] it (fun i h => i ≤ n ∧ h.IsRevIter it a ((n : Int) - 1 - (i : Int))) where
  mem := by simp
  obj := fun i h st b hb => by
    have e : b = it := by simpa using hb
    subst e
    obtain ⟨_, o, e, c, d⟩ := st
    exact ⟨o, e, fun v z => by rw [d] at z; cases z⟩
  keep := fun i h h' st k => ⟨st.1, st.2.at fun o e => k it (by simp) o e⟩
  item := by
    intro X hP hw hK hc i pins s σ H E I hf st hg
    subst hP hw hK
    obtain ⟨xs, x, hq, hl, hx⟩ := hg
    obtain ⟨its, rv, p, hz⟩ := I.list hq
    have hi : i < xs.length := by
      have := (List.getElem?_eq_some_iff.mp hx).1
      simpa using this
    rw [List.getElem?_reverse hi] at hx
    obtain ⟨u, hu, ru⟩ := rv.get hx
    obtain ⟨f0, f1, f2, f3, f4, f5⟩ := hf it (by simp)
    have e : (n : Int) - 1 - (i : Int) = ((xs.length - 1 - i : Nat) : Int) := by omega
    have hit := st.2
    rw [e] at hit
    refine wpAny_pyNext_rev_item hit p.isList (x := u) (by simpa using hu) fun h' st' sb => ?_
    have I1 : Inv X pins σ H { s with heap := h', toks := s.toks } := I.turned (fun b o hb e => (sb.2 b hb).trans e) f0 f1 f3 f4 f5
    have e2 : ((xs.length - 1 - i : Nat) : Int) - 1 = (n : Int) - 1 - ((i + 1 : Nat) : Int) := by omega
    rw [e2] at st'
    obtain ⟨o, e, c, d⟩ := id st'
    refine ⟨u, rfl, go_of (s := { s with heap := h', toks := s.toks }) e c d (by decide) ⟨x, H, I1, ru, ⟨rfl, fun ys hy => ?_⟩, ⟨by omega, st'⟩, fun b hb => (hf b hb).1⟩⟩
    rw [I.list_inj hy hq, List.getElem?_reverse hi]
    exact hx
  done := by
    intro X hP hw hK hc i pins s σ H E I hf st hg
    subst hP hw hK
    obtain ⟨xs, hq, hl, hx⟩ := hg
    obtain ⟨f0, f1, f2, f3, f4, f5⟩ := hf it (by simp)
    have e : (n : Int) - 1 - (i : Int) = -1 := by have := st.1; omega
    have hit := st.2
    rw [e] at hit
    exact wpAny_pyNext_rev_end (I.ok.hd hc) hit fun h' eb => ⟨rfl, I.turned (t' := s.toks) (fun b o hb e => eb b o hb e) f0 f1 f3 f4 f5⟩
  self := fun _ _ _ _ _ st h => wpAny_pyIter_revIter st.2 h
section
variable {X : Cx} {pos p p2 p3 : Pos} {a tg : Expr} {f : DEn} {body : List Stmt} {u : DSn} {W : Hp → Prop}
theorem pi_revL {tl : TE} (hg : Gl X "reversed") (hm : X.mg "reversed" = none) (ha : PE X a tl) (hs : starEach [a] X.env = [(false, eval a X.env)] := by rfl) :
    PI X tg (.Call (.Name "reversed" p) [a] [] pos) (fun σ H R => tl σ H fun x H1 => ∃ b xs, [x] = [V.ref b] ∧ SqL X.K H1 b xs ∧ R (Itw X.K b xs.length) H1) := by
  intro pins s σ H R I h
  refine Call_ (ld_blt I hg hm bt_reversed (PyProof.Rows.callWith_type1 (thn (pa_cons ha pa_nil hs pos pins s σ H (fun vs H1 => ∃ b xs, vs = [V.ref b] ∧ SqL X.K H1 b xs ∧ R (Itw X.K b xs.length) H1) I h) fun us s1 ⟨vs, H1, I1, r1, q1⟩ => ?_) hs rfl))
  obtain ⟨b, xs, e, hq, q⟩ := q1
  subst e
  obtain ⟨u, e3, ru⟩ := vals1 r1
  subst e3
  cases (show u = Value.ref b from ru)
  obtain ⟨its, rv, pt, hz⟩ := I1.list hq
  have hl := rv.length
  refine call_reversed_list pt.isList ?_
  have I2 : Inv X pins σ H1 { s1 with heap := s1.heap.push (revObj b ((its.toArray.size : Int) - 1)), toks := s1.toks } := I1.kept fun b o e => Heap.get?_push_of_some _ e
  have st : (s1.heap.push (revObj b ((its.toArray.size : Int) - 1))).IsRevIter s1.heap.objs.size b ((xs.length : Int) - 1 - ((0 : Nat) : Int)) := by
    refine ⟨_, Heap.get?_push_size _ rfl, rfl, ?_⟩
    show Data.fields #[.ref b, rawInt ((its.toArray.size : Int) - 1)] = _
    rw [List.size_toArray, ← hl]
    simp
  refine wpAny_pyIter_revIter (s := { s1 with heap := s1.heap.push (revObj b ((its.toArray.size : Int) - 1)), toks := s1.toks }) st ?_
  refine ⟨s1.heap.objs.size, [s1.heap.objs.size], _, _, H1, rfl, I2, turn_revL b _ xs.length, ⟨Nat.zero_le _, st⟩, fun c hc => ?_, q⟩
  have e : c = s1.heap.objs.size := by simpa using hc
  subst e
  exact I1.fpOk (Nat.le_refl _) (I1.hok.fresh (Nat.le_refl _))
theorem yl_revB {K : PySem.W.Frag} {B Hs : Hp} {a : Addr} {xs : List V} {ds : List D} (hs : SqL K B a xs) (hl : HasL K B ds xs) : Yl K B Hs (Itw K a xs.length) ds.reverse := by
  intro H sB tk i
  have s1 := sB.seq hs
  have l1 := (hl.grow sB).rev
  refine ⟨fun d e => ?_, fun x H' d y e => ?_, fun hl => ?_⟩
  · obtain ⟨x, ex, _⟩ := l1.get e
    exact ⟨xs, x, s1, rfl, ex⟩
  · obtain ⟨e1, e2⟩ := y
    obtain ⟨w, ew, hw⟩ := l1.get e
    have := e2 xs s1
    rw [ew] at this
    cases this
    exact ⟨e1, hw⟩
  · exact ⟨xs, s1, rfl, by have := l1.len; rw [List.length_reverse] at this hl; rw [List.length_reverse] at this; omega⟩
/-- for x in reversed(y), y a name of a list -/
theorem ds_forRV (i j : Nat) {x y : Str} {pos4 : Pos} (hp : PassesOwn (model X.prog X.w) X.A X.env X.xe) (hc : X.calm = true) (hN : X.N.Nodup) (hb : DSs X W body u) (hg : Gl X "reversed") (hm : X.mg "reversed" = none) (hx : X.N[i]? = some x := by rfl) (hl : Loc X.env.scope x := by first | exact Or.inl rfl | exact Or.inr rfl)
    (hf : X.fn x = true ∨ X.env.scope.names.lookup x = some .local := by first | exact .inl rfl | exact .inr rfl) (hs : ∀ x, foldedSetIterable (.Call (.Name "reversed" p3) [.Name y p2] [] pos) X.env x = pure x := by intro _; rfl)
    (hy : X.N[j]? = some y := by rfl) (hv : Vis X.env.scope y := by first | exact Or.inl rfl | exact Or.inr (Or.inl rfl) | exact Or.inr (Or.inr rfl)) (hd : (y == ("__debug__" : Str)) = false := by decide) (hcd : (y == ("__classdict__" : Str)) = false := by decide)
    (hst : starEach [.Name y p2] X.env = [(false, eval (.Name y p2) X.env)] := by rfl) :
    DS X W (.For (.Name x p) (.Call (.Name "reversed" p3) [.Name y p2] [] pos) body [] pos4) (sForRV i j u) :=
  ps_to (ps_for hp hc (pi_revL hg hm (pe_var hy hv hd hcd) hst) (pg_name hN hx hl hf) hb hs) fun D σ H ⟨B, δ, o, sB, rp, e, q⟩ => by
    unfold sForRV at e
    split at e
    · rename_i ds e0
      obtain ⟨v, e1, w, xs, e2, s1, l1⟩ := rp.at_ j _ e0
      subst e2
      exact ⟨_, e1, w, xs, rfl, rp.same.seq s1, for_go hN (yl_revB s1 l1) sB rp (TK.refl _) e q⟩
    · rename_i ds e0
      obtain ⟨B', w, xs, sB', rp', e1, s1, l1⟩ := rp.lend e0
      exact ⟨_, e1, w, xs, rfl, rp'.same.seq s1, for_go hN (yl_revB s1 l1) (sB.trans sB') rp' (TK.refl _) e (q.later sB' (TK.refl _))⟩
    · cases e
/-- a new list is only read -/
theorem Rep.lendNew {K : PySem.W.Frag} {B H : Hp} {δ : Ev} {σ : St} (W : Rep K B δ σ H) {a : Addr} {xs : List V} {ds : List D} (ha : H a = some (.lst xs)) (hB : B a = none) (hh : HasL K H ds xs)
    (nw : ∀ (j : Nat) (es : List D), δ[j]? = some (some (.l .own es)) → σ[j]? ≠ some (some (.ref a))) :
    ∃ (B' : Hp), Same B B' ∧ Rep K B' δ σ H ∧ SqL K B' a xs ∧ HasL K B' ds xs := by
  classical
  let B' : Hp := fun b => if (∃ (j : Nat) (es : List D), δ[j]? = some (some (R.l .own es)) ∧ σ[j]? = some (some (V.ref b))) then none else H b
  have sB : Same B B' := fun b o q => by
    show (if _ then none else H b) = some o
    rw [if_neg]
    · exact W.same b o q
    · rintro ⟨j, es, z1, z2⟩
      obtain ⟨w, y1, y2⟩ := W.at_ j _ z1
      rw [z2] at y1
      cases y1
      obtain ⟨c, zs, x1, _, x3, _⟩ := y2
      cases x1
      rw [x3] at q
      cases q
  have sH : Same B' H := fun b o q => by
    have q' : (if (∃ (j : Nat) (es : List D), δ[j]? = some (some (R.l .own es)) ∧ σ[j]? = some (some (V.ref b))) then none else H b) = some o := q
    split at q'
    · cases q'
    · exact q'
  have keepT : TK K H B' := fun b zs q => by
    have ne : ∀ u, H b = some u → (∀ ws, u ≠ .lst ws) → B' b = H b := fun u eu n => by
      show (if _ then none else H b) = H b
      rw [if_neg]
      rintro ⟨j, es, z1, z2⟩
      obtain ⟨w, y1, y2⟩ := W.at_ j _ z1
      rw [z2] at y1
      cases y1
      obtain ⟨c, zs', x1, x2, _⟩ := y2
      cases x1
      rw [eu] at x2
      cases x2
      exact n _ rfl
    rcases q with (q | ⟨o, q⟩) | q
    · exact .inl (.inl (by rw [ne _ q (by intro ws z; cases z)]; exact q))
    · exact .inl (.inr ⟨o, by rw [ne _ q (by intro ws z; cases z)]; exact q⟩)
    · exact .inr q
  have aB : B' a = some (.lst xs) := by
    show (if _ then none else H a) = _
    rw [if_neg]
    · exact ha
    · rintro ⟨j, es, z1, z2⟩
      exact nw j es z1 z2
  refine ⟨B', sB, ⟨sH, W.len, fun j q ej => ?_, W.dis⟩, SqL.of aB, HasL.mono keepT _ _ hh⟩
  obtain ⟨w, y1, y2⟩ := W.at_ j q ej
  refine ⟨w, y1, ?_⟩
  cases q with
  | d x => exact y2
  | l fl ds' =>
    cases fl with
    | own =>
      obtain ⟨b, zs, z1, z2, z3, z4⟩ := y2
      subst z1
      refine ⟨b, zs, rfl, z2, ?_, z4⟩
      show (if _ then none else H b) = none
      rw [if_pos ⟨j, ds', ej, y1⟩]
    | bor =>
      obtain ⟨b, zs, z1, z2, z3⟩ := y2
      exact ⟨b, zs, z1, sB.seq z2, z3.grow sB⟩
    | view => exact y2
/-- for x in e, e a new list -/
theorem ds_forF (i : Nat) {x : Str} (hp : PassesOwn (model X.prog X.w) X.A X.env X.xe) (hc : X.calm = true) (hN : X.N.Nodup) (ha : DE X a f) (hb : DSs X W body u) (hx : X.N[i]? = some x := by rfl) (hl : Loc X.env.scope x := by first | exact Or.inl rfl | exact Or.inr rfl)
    (hf : X.fn x = true ∨ X.env.scope.names.lookup x = some .local := by first | exact .inl rfl | exact .inr rfl) (hs : ∀ x, foldedSetIterable a X.env x = pure x := by intro _; rfl) : DS X W (.For (.Name x p) a body [] pos) (sForF i f u) :=
  ps_to (ps_for hp hc (pi_list ha) (pg_name hN hx hl hf) hb hs) fun D σ H ⟨B, δ, o, sB, rp, e, q⟩ => by
    unfold sForF at e
    split at e
    · rename_i ds e0
      refine ⟨B, δ, _, rp, e0, fun v H1 g1 i1 => ?_⟩
      obtain ⟨w, xs, e1, n1, h1, l1⟩ := i1
      subst e1
      have rp1 := rp.grow g1
      obtain ⟨B', sB', rp', s1, l2⟩ := rp1.lendNew h1 (rp.same.free n1) l1 (fun j es z1 z2 => by
        obtain ⟨w', y1, y2⟩ := rp.at_ j _ z1
        rw [z2] at y1
        cases y1
        obtain ⟨c, zs, x1, x2, _⟩ := y2
        cases x1
        rw [n1] at x2
        cases x2)
      exact ⟨w, rfl, ⟨xs, SqL.of h1⟩, for_go hN (yl_bor s1 l2) (sB.trans sB') rp' (TK.refl _) e (q.later sB' (Same.tk g1))⟩
    · cases e
end
end DL

namespace DL
open PySem PySem.Spec PyProof.Rows L2
/-! texts: what operations on them are worth -/
def gAddS : R → R → Option R
  | .d (.str i), .d (.str j) => if i.length + j.length ≤ 10000 then some (.d (.str (i ++ j))) else none
  | _, _ => none
def gStr : List R → Option R
  | [.d (.int i)] => if i.natAbs.log2 < 1920 then some (.d (.str (Str.ofString (toString i)))) else none
  | _ => none
def gIxS : R → R → Option R
  | .d (.str z), .d (.int i) => if z.length ≤ 10000 then (atP z.cps.toList i).map fun c => .d (.str ⟨#[c]⟩) else none
  | x, y => gIx x y
def gLenS : List R → Option R
  | [.d (.str z)] => if z.length ≤ 10000 then some (.d (.int z.length)) else none
  | rs => gLen rs
def sInS (i j : Str) : Bool := !(Builtin.Str.occurrences j i 0 j.length 1).isEmpty
def gInS : R → R → Option R
  | .d (.str i), .d (.str j) => some (.d (.bl (sInS i j)))
  | _, _ => none
def gNotInS : R → R → Option R
  | .d (.str i), .d (.str j) => some (.d (.bl (!sInS i j)))
  | _, _ => none
def gIdxS : R → R → Option R
  | .d (.str x), .d (.str y) => (Builtin.Str.occurrences x y 0 x.length 1).head?.map fun i => .d (.int (i : Nat))
  | _, _ => none
def gFindS : R → R → Option R
  | .d (.str x), .d (.str y) => some (.d (.int (Txt.find x y)))
  | _, _ => none
def gEndS : R → R → Option R
  | .d (.str x), .d (.str y) => some (.d (.bl (Txt.endswith x y)))
  | _, _ => none
def gSplitS : R → R → Option R
  | .d (.str x), .d (.str y) => if (y.length == 0) = false ∧ x.length ≤ 10000 then some (.l .own ((Txt.split x y).map D.str)) else none
  | _, _ => none
def strsD : List D → Option (List Str)
  | [] => some []
  | .str x :: r => (strsD r).map (x :: ·)
  | _ :: _ => none
def gJoinS : R → R → Option R
  | .d (.str x), .l _ ds => (strsD ds).bind fun ss => if (ss.map (·.length)).sum + ss.length * x.length ≤ 10000 then some (.d (.str (Str.join x ss))) else none
  | _, _ => none
def gSlS (x : R) (l h : Option Int) : Option R := match x with
  | .d (.str z) => if z.length ≤ 10000 then some (.d (.str (Txt.slice z l h))) else none
  | x => gSl x l h
def dSlS (a : DEn) (lo hi : Option DEn) : DEn := fun δ => (a δ).bind fun x => (oI lo δ).bind fun l => (oI hi δ).bind fun h => gSlS x l h
/-- the parts of an f-string -/
def fmtR : R → Option Str
  | .d (.str x) => if x.length ≤ 10000 then some x else none
  | .d (.int i) => if i.natAbs.log2 < 1920 then some (Str.ofString (toString i)) else none
  | _ => none
def jsGo (out : Str) : List DEn → Ev → Option Str
  | [], _ => some out
  | e :: r, δ => (e δ).bind fun x => (fmtR x).bind fun y => if (out ++ y).length ≤ 10000 then jsGo (out ++ y) r δ else none
def dJS (es : List DEn) : DEn := fun δ => (jsGo Str.empty es δ).map fun x => .d (.str x)
/-- what is never come to -/
def sNo : DSn := fun _ => none
section
variable {X : Cx} {pos p p2 : Pos} {a b c : Expr} {f h k : DEn} {es : List Expr} {t : DAn}
theorem o_addS : OpR X (binaryOp .Add) (r2R X.K gAddS) := by
  intro pins s σ H x y v u Q I rx ry hh
  obtain ⟨r1, r2, r, h1, h2, e, q⟩ := hh
  unfold gAddS at e
  split at e
  · rename_i i j
    split at e
    · rename_i hz
      cases e
      have h1 : Has X.K H (.str i) x := h1
      have h2 : Has X.K H (.str j) y := h2
      simp only [Has] at h1 h2
      exact op_add_str pins s σ H x y v u Q I rx ry ⟨i, j, h1, h2, line10000 (by omega), q _ H (Same.refl _) (by simp only [Out, Has])⟩
    · cases e
  · cases e
theorem c_str : CallR X (.type "str") (rB X.K gStr) := by
  intro pins s σ H xs us Q I rv hh
  obtain ⟨B, H0, rs, r, sB, i1, e, q⟩ := hh
  unfold gStr at e
  split at e
  · rename_i i
    split at e
    · rename_i hz
      cases e
      obtain ⟨v, e1, i2⟩ := isrs1 i1
      subst e1
      have i2 : Has X.K H (.int i) v := i2
      simp only [Has] at i2
      subst i2
      exact call_str_int pins s σ H _ us Q I rv ⟨i, rfl, hz, q _ H (Same.refl _) (by simp only [Out, Has])⟩
    · cases e
  · cases e
theorem ix_anyS : IxR X (r2R X.K gIxS) := by
  intro value slice pins s σ H x y v u Q I rx ry hh hs
  obtain ⟨r1, r2, r, h1, h2, e, q⟩ := hh
  unfold gIxS at e
  split at e
  · rename_i z i
    split at e
    · rename_i hz
      obtain ⟨d, e1, e2⟩ := ms e
      subst e2
      have h1 : Has X.K H (.str z) x := h1
      have h2 : Has X.K H (.int i) y := h2
      simp only [Has] at h1 h2
      exact ix_str value slice pins s σ H x y v u Q I rx ry ⟨z, i, d, h1, h2, line10000 (by omega), e1, q _ H (Same.refl _) (by simp only [Out, Has])⟩ hs
    · cases e
  · exact ix_any value slice pins s σ H x y v u Q I rx ry ⟨r1, r2, r, h1, h2, e, q⟩ hs
theorem de_ixS (ha : DE X a f) (hb : DE X b h) (hs : PlainIx b := by intro _ _; rfl) : DE X (.Subscript a b pos) (d2 gIxS f h) := pe_to (pe_ix ix_anyS ha hb hs) (rd2 X.K)
theorem c_lenS : CallR X (.builtin "len") (rB X.K gLenS) := by
  intro pins s σ H xs us Q I rv hh
  obtain ⟨B, H0, rs, r, sB, i1, e, q⟩ := hh
  unfold gLenS at e
  split at e
  · rename_i z
    split at e
    · rename_i hz
      cases e
      obtain ⟨v, e1, i2⟩ := isrs1 i1
      subst e1
      have i2 : Has X.K H (.str z) v := i2
      simp only [Has] at i2
      subst i2
      exact call_len_str pins s σ H _ us Q I rv ⟨z, rfl, line10000 (by omega), q _ H (Same.refl _) (by simp only [Out, Has])⟩
    · cases e
  · exact c_len pins s σ H xs us Q I rv ⟨B, H0, rs, r, sB, i1, e, q⟩
theorem o_inS : OpR X (compareOp .In) (r2R X.K gInS) := by
  intro pins s σ H x y v u Q I rx ry hh
  obtain ⟨r1, r2, r, h1, h2, e, q⟩ := hh
  unfold gInS at e
  split at e
  · rename_i i j
    cases e
    have h1 : Has X.K H (.str i) x := h1
    have h2 : Has X.K H (.str j) y := h2
    simp only [Has] at h1 h2
    exact op_in_str pins s σ H x y v u Q I rx ry ⟨i, j, h1, h2, q _ H (Same.refl _) (by simp only [Out, Has, sInS])⟩
  · cases e
theorem o_notInS : OpR X (compareOp .NotIn) (r2R X.K gNotInS) := by
  intro pins s σ H x y v u Q I rx ry hh
  obtain ⟨r1, r2, r, h1, h2, e, q⟩ := hh
  unfold gNotInS at e
  split at e
  · rename_i i j
    cases e
    have h1 : Has X.K H (.str i) x := h1
    have h2 : Has X.K H (.str j) y := h2
    simp only [Has] at h1 h2
    exact op_notIn_str pins s σ H x y v u Q I rx ry ⟨i, j, h1, h2, q _ H (Same.refl _) (by simp only [Out, Has, sInS])⟩
  · cases e
/-! methods of texts with one argument -/
def rM1 (K : PySem.W.Frag) (g : R → R → Option R) : V → List V → Hp → VK → Prop := fun x vs H Q => ∃ y, vs = [y] ∧ r2R K g x y H Q
theorem de_bm1 {g : R → R → Option R} {name : Str} {id : String} {ap cp : Pos} (slot : Slot "str" name id) (hty : typeOf (.builtin id) = pure (.type "method_descriptor")) (hm : MtR X id (rM1 X.K g)) (hx : ∀ r1 r2 r, g r1 r2 = some r → ∃ z, r1 = .d (.str z)) (ha : DE X a f) (hb : DE X b h)
    (hs : starEach [b] X.env = (false, eval b X.env) :: starEach [] X.env := by rfl) (hl : (ap.endLine == cp.line) = true := by rfl)
    (hfew : ((backTo cp (starEach [b] X.env)).all (fun x => !x.1) && (backToKw cp (keywordEach [] X.env)).all (fun x => x.1.isSome)
      && decide (([b] : List Expr).length + ([] : List Keyword).length + (if ([] : List Keyword).isEmpty then 0 else 1) < 30)) = true := by rfl)
    (hbase : attributeBase a name X.env (eval a X.env) = eval a X.env := by rfl) : DE X (.Call (.Attribute a name ap) [b] [] cp) (d2 g f h) :=
  pe_to (pe_bm (T := "str") (id := id) PySem.F.plainAttrs_str slot hty hm ha (pa_cons hb pa_nil hs) hbase hfew hl hs rfl) fun σ H Q ⟨B, δ, r, rp, e, q⟩ => by
    obtain ⟨x, ex, e⟩ := bs e
    obtain ⟨y, ey, e⟩ := bs e
    refine ⟨B, δ, x, rp, ex, fun v H1 g1 i1 => ?_⟩
    obtain ⟨z, hz⟩ := hx _ _ _ e
    have i0 : Has X.K H1 (.str z) v := by rw [hz] at i1; exact i1
    simp only [Has] at i0
    refine ⟨by rw [i0]; rfl, B, δ, y, rp.grow g1, ey, fun u H2 g2 i2 => ⟨u, rfl, x, y, r, ?_, ?_, e, fun w H3 g3 o => q w H3 (g1.trans (g2.trans g3)) (o.is (g1.trans g2))⟩⟩
    · exact (i1.vw (rp.same.trans g1)).grow g2
    · exact i2.vw ((rp.same.trans g1).trans g2)
theorem mt_endS : MtR X "str.endswith" (rM1 X.K gEndS) := by
  intro pins s σ H x vs v us Q I rx rv hh
  obtain ⟨y, rfl, r1, r2, r, h1, h2, e, q⟩ := hh
  unfold gEndS at e
  split at e
  · rename_i i j
    cases e
    have h1 : Has X.K H (.str i) x := h1
    have h2 : Has X.K H (.str j) y := h2
    simp only [Has] at h1 h2
    subst h1
    subst h2
    obtain ⟨tx, rfl⟩ := rx
    obtain ⟨u, rfl, tu, rfl⟩ := vals1 rv
    exact SC.endswith ⟨.bl _, H, I, rfl, q _ H (Same.refl _) (by simp only [Out, Has])⟩
  · cases e
theorem mt_findS : MtR X "str.find" (rM1 X.K gFindS) := by
  intro pins s σ H x vs v us Q I rx rv hh
  obtain ⟨y, rfl, r1, r2, r, h1, h2, e, q⟩ := hh
  unfold gFindS at e
  split at e
  · rename_i i j
    cases e
    have h1 : Has X.K H (.str i) x := h1
    have h2 : Has X.K H (.str j) y := h2
    simp only [Has] at h1 h2
    subst h1
    subst h2
    obtain ⟨tx, rfl⟩ := rx
    obtain ⟨u, rfl, tu, rfl⟩ := vals1 rv
    exact SC.find ⟨.int _, H, I.tok _, ⟨_, rfl⟩, q _ H (Same.refl _) (by simp only [Out, Has])⟩
  · cases e
theorem mt_idxS : MtR X "str.index" (rM1 X.K gIdxS) := by
  intro pins s σ H x vs v us Q I rx rv hh
  obtain ⟨y, rfl, r1, r2, r, h1, h2, e, q⟩ := hh
  unfold gIdxS at e
  split at e
  · rename_i i j
    obtain ⟨n, en, er⟩ := ms e
    subst er
    have h1 : Has X.K H (.str i) x := h1
    have h2 : Has X.K H (.str j) y := h2
    simp only [Has] at h1 h2
    subst h1
    subst h2
    obtain ⟨tx, rfl⟩ := rx
    obtain ⟨u, rfl, tu, rfl⟩ := vals1 rv
    obtain ⟨rest, ho⟩ : ∃ rest, Builtin.Str.occurrences i j 0 i.length 1 = n :: rest := by
      cases hq : Builtin.Str.occurrences i j 0 i.length 1 with
      | nil => rw [hq] at en; cases en
      | cons m rest => rw [hq] at en; cases en; exact ⟨rest, rfl⟩
    exact SC.index ho ⟨.int _, H, I.tok _, ⟨_, rfl⟩, q _ H (Same.refl _) (by simp only [Out, Has])⟩
  · cases e
theorem strs_has {K : PySem.W.Frag} {H : Hp} : ∀ {ds : List D} {ss : List Str} {xs : List V}, strsD ds = some ss → HasL K H ds xs → xs = ss.map V.str
  | [], ss, xs, e, hh => by
    cases e
    simp only [HasL] at hh
    exact hh
  | .str x :: r, ss, xs, e, hh => by
    obtain ⟨ts, e1, e2⟩ := ms (show (strsD r).map (x :: ·) = some ss from e)
    subst e2
    simp only [HasL] at hh
    obtain ⟨y, q, ey, h1, h2⟩ := hh
    simp only [Has] at h1
    subst ey
    subst h1
    rw [strs_has e1 h2]
    rfl
  | .non :: r, ss, xs, e, hh => by cases e
  | .bl _ :: r, ss, xs, e, hh => by cases e
  | .int _ :: r, ss, xs, e, hh => by cases e
  | .tup _ :: r, ss, xs, e, hh => by cases e
  | .fu _ :: r, ss, xs, e, hh => by cases e
theorem strs_vals : ∀ {ss : List Str} {us : List Value}, Vals (ss.map V.str) us → ∃ l : List (Str × Tok), us = strValues l ∧ l.map (·.1) = ss
  | [], us, hh => by
    cases us with
    | nil => exact ⟨[], rfl, rfl⟩
    | cons u r => cases hh
  | x :: r, us, hh => by
    cases us with
    | nil => cases hh
    | cons u us' =>
      cases hh with
      | cons h1 h2 =>
        obtain ⟨t, rfl⟩ := h1
        obtain ⟨l, e1, e2⟩ := strs_vals h2
        exact ⟨(x, t) :: l, by rw [e1]; rfl, by rw [← e2]; rfl⟩
theorem vals_strs : ∀ (l : List (Str × Tok)), Vals ((l.map (·.1)).map V.str) (strValues l)
  | [] => .nil
  | (x, t) :: r => .cons ⟨t, rfl⟩ (vals_strs r)
theorem HasL.strs {K : PySem.W.Frag} {H : Hp} : ∀ (ss : List Str), HasL K H (ss.map D.str) (ss.map V.str)
  | [] => HasL.nil
  | x :: r => HasL.cons (by simp only [Has]) (HasL.strs r)
theorem mt_joinS : MtR X "str.join" (rM1 X.K gJoinS) := by
  intro pins s σ H x vs v us Q I rx rv hh
  obtain ⟨y, rfl, r1, r2, r, h1, h2, e, q⟩ := hh
  unfold gJoinS at e
  split at e
  · rename_i i fl ds
    obtain ⟨ss, es, e⟩ := bs e
    split at e
    · rename_i hz
      cases e
      have h1 : Has X.K H (.str i) x := h1
      simp only [Has] at h1
      subst h1
      obtain ⟨tx, rfl⟩ := rx
      obtain ⟨w, ys, ew, sq, l1⟩ := h2.sq
      subst ew
      obtain ⟨u, rfl, ru⟩ := vals1 rv
      cases (show u = Value.ref w from ru)
      rw [strs_has es l1] at sq
      obtain ⟨its, r3, p3, _⟩ := I.list sq
      obtain ⟨l, e1, e2⟩ := strs_vals r3
      subst e1
      have ok : JoinOk i ss = true := by
        unfold JoinOk
        rw [StrLaws.joinTotal]
        have : Builtin.Str.tooLong ((ss.map (·.length)).sum + ss.length * i.length) = false := by
          unfold Builtin.Str.tooLong
          exact decide_eq_false (Nat.not_lt.mpr (line10000 (by omega)))
        rw [this]
        rfl
      refine SC.join p3.isList e2 ok fun t' k => ⟨.str _, H, I.tok _, ⟨_, rfl⟩, q _ H (Same.refl _) ?_⟩
      have : Txt.join i ss = Str.join i ss := StrLaws.glued_eq_join i ss
      rw [this]
      simp only [Out, Has]
    · cases e
  · cases e
theorem mt_splitS : MtR X "str.split" (rM1 X.K gSplitS) := by
  intro pins s σ H x vs v us Q I rx rv hh
  obtain ⟨y, rfl, r1, r2, r, h1, h2, e, q⟩ := hh
  unfold gSplitS at e
  split at e
  · rename_i i j
    split at e
    · rename_i hz
      cases e
      have h1 : Has X.K H (.str i) x := h1
      have h2 : Has X.K H (.str j) y := h2
      simp only [Has] at h1 h2
      subst h1
      subst h2
      obtain ⟨tx, rfl⟩ := rx
      obtain ⟨u, rfl, tu, rfl⟩ := vals1 rv
      have hn : (Txt.split i j).length ≤ sizeLine := Nat.le_trans (split_le i j) (Nat.le_trans (show i.length + 2 ≤ 10002 by omega) (by decide))
      have fin : ∀ (l : List (Str × Tok)) (k : Nat), l.map (·.1) = Txt.split i j → EP X pins σ Q (.ref s.heap.objs.size) { s with heap := s.heap.push { cls := .type "list", data := .seq (strValues l).toArray }, toks := k } := by
        intro l k el
        have vv := vals_strs l
        rw [el] at vv
        refine ⟨.ref s.heap.objs.size, _, I.lnew (t' := k) vv (by rw [List.length_map]; exact hn), rfl, ?_⟩
        have g := same_new I.fresh (.lst ((Txt.split i j).map V.str))
        exact q _ _ g ⟨_, _, rfl, I.fresh, upd_same, HasL.strs _⟩
      cases hc : (decide (i.length < j.length) || decide (Builtin.Str.strKind i < Builtin.Str.strKind j))
      · cases hf : (Builtin.Str.occurrences i j 0 i.length (i.length + 1)).isEmpty
        · have ep : Txt.split i j = Builtin.Str.partsBetween i (Builtin.Str.occurrences i j 0 i.length (i.length + 1)) j.length := (if_neg (ne_true_of_eq_false hc)).trans (if_neg (ne_true_of_eq_false hf))
          refine call_meets PySem.F.slot_str_split (typeIs_str _ _ _) PySem.F.entry_str_split (PySem.F.args_str_split_2 _ _) (meets_str_split_sep i j tx tu hc hz.1 hf (line10000 (by omega)) (by rw [← ep]; exact hn)) ?_
          have := fin (numbered s.toks (Builtin.Str.partsBetween i (Builtin.Str.occurrences i j 0 i.length (i.length + 1)) j.length))
          rw [numbered_texts] at this
          rw [strsFrom_eq]
          exact this _ ep.symm
        · exact call_meets PySem.F.slot_str_split (typeIs_str _ _ _) PySem.F.entry_str_split (PySem.F.args_str_split_2 _ _) (meets_str_split_not_found i j tx tu hc hz.1 hf) (fin [(i, tx)] _ ((if_neg (ne_true_of_eq_false hc)).trans (if_pos hf)).symm)
      · exact call_meets PySem.F.slot_str_split (typeIs_str _ _ _) PySem.F.entry_str_split (PySem.F.args_str_split_2 _ _) (meets_str_split_cannot_occur i j tx tu hc) (fin [(i, tx)] _ (if_pos hc).symm)
    · cases e
  · cases e
theorem de_endS {ap cp : Pos} (ha : DE X a f) (hb : DE X b h) (hs : starEach [b] X.env = (false, eval b X.env) :: starEach [] X.env := by rfl) (hl : (ap.endLine == cp.line) = true := by rfl)
    (hfew : ((backTo cp (starEach [b] X.env)).all (fun x => !x.1) && (backToKw cp (keywordEach [] X.env)).all (fun x => x.1.isSome)
      && decide (([b] : List Expr).length + ([] : List Keyword).length + (if ([] : List Keyword).isEmpty then 0 else 1) < 30)) = true := by rfl)
    (hbase : attributeBase a "endswith" X.env (eval a X.env) = eval a X.env := by rfl) : DE X (.Call (.Attribute a "endswith" ap) [b] [] cp) (d2 gEndS f h) :=
  de_bm1 PySem.F.slot_str_endswith PySem.F.type_str_endswith mt_endS (fun r1 r2 r e => by unfold gEndS at e; split at e; exact ⟨_, rfl⟩; cases e) ha hb hs hl hfew hbase
theorem de_idxS {ap cp : Pos} (ha : DE X a f) (hb : DE X b h) (hs : starEach [b] X.env = (false, eval b X.env) :: starEach [] X.env := by rfl) (hl : (ap.endLine == cp.line) = true := by rfl)
    (hfew : ((backTo cp (starEach [b] X.env)).all (fun x => !x.1) && (backToKw cp (keywordEach [] X.env)).all (fun x => x.1.isSome)
      && decide (([b] : List Expr).length + ([] : List Keyword).length + (if ([] : List Keyword).isEmpty then 0 else 1) < 30)) = true := by rfl)
    (hbase : attributeBase a "index" X.env (eval a X.env) = eval a X.env := by rfl) : DE X (.Call (.Attribute a "index" ap) [b] [] cp) (d2 gIdxS f h) :=
  de_bm1 PySem.F.slot_str_index PySem.F.type_str_index mt_idxS (fun r1 r2 r e => by unfold gIdxS at e; split at e; exact ⟨_, rfl⟩; cases e) ha hb hs hl hfew hbase
theorem de_findS {ap cp : Pos} (ha : DE X a f) (hb : DE X b h) (hs : starEach [b] X.env = (false, eval b X.env) :: starEach [] X.env := by rfl) (hl : (ap.endLine == cp.line) = true := by rfl)
    (hfew : ((backTo cp (starEach [b] X.env)).all (fun x => !x.1) && (backToKw cp (keywordEach [] X.env)).all (fun x => x.1.isSome)
      && decide (([b] : List Expr).length + ([] : List Keyword).length + (if ([] : List Keyword).isEmpty then 0 else 1) < 30)) = true := by rfl)
    (hbase : attributeBase a "find" X.env (eval a X.env) = eval a X.env := by rfl) : DE X (.Call (.Attribute a "find" ap) [b] [] cp) (d2 gFindS f h) :=
  de_bm1 PySem.F.slot_str_find PySem.F.type_str_find mt_findS (fun r1 r2 r e => by unfold gFindS at e; split at e; exact ⟨_, rfl⟩; cases e) ha hb hs hl hfew hbase
theorem de_joinS {ap cp : Pos} (ha : DE X a f) (hb : DE X b h) (hs : starEach [b] X.env = (false, eval b X.env) :: starEach [] X.env := by rfl) (hl : (ap.endLine == cp.line) = true := by rfl)
    (hfew : ((backTo cp (starEach [b] X.env)).all (fun x => !x.1) && (backToKw cp (keywordEach [] X.env)).all (fun x => x.1.isSome)
      && decide (([b] : List Expr).length + ([] : List Keyword).length + (if ([] : List Keyword).isEmpty then 0 else 1) < 30)) = true := by rfl)
    (hbase : attributeBase a "join" X.env (eval a X.env) = eval a X.env := by rfl) : DE X (.Call (.Attribute a "join" ap) [b] [] cp) (d2 gJoinS f h) :=
  de_bm1 PySem.F.slot_str_join PySem.F.type_str_join mt_joinS (fun r1 r2 r e => by unfold gJoinS at e; split at e; exact ⟨_, rfl⟩; cases e) ha hb hs hl hfew hbase
theorem de_splitS {ap cp : Pos} (ha : DE X a f) (hb : DE X b h) (hs : starEach [b] X.env = (false, eval b X.env) :: starEach [] X.env := by rfl) (hl : (ap.endLine == cp.line) = true := by rfl)
    (hfew : ((backTo cp (starEach [b] X.env)).all (fun x => !x.1) && (backToKw cp (keywordEach [] X.env)).all (fun x => x.1.isSome)
      && decide (([b] : List Expr).length + ([] : List Keyword).length + (if ([] : List Keyword).isEmpty then 0 else 1) < 30)) = true := by rfl)
    (hbase : attributeBase a "split" X.env (eval a X.env) = eval a X.env := by rfl) : DE X (.Call (.Attribute a "split" ap) [b] [] cp) (d2 gSplitS f h) :=
  de_bm1 PySem.F.slot_str_split PySem.F.type_str_split mt_splitS (fun r1 r2 r e => by unfold gSplitS at e; split at e; exact ⟨_, rfl⟩; cases e) ha hb hs hl hfew hbase
/-! slices of texts -/
theorem part_of {v : Value} {o : Option Int} (h : IsPart v o) : ∃ l : Option (Int × Tok), v = partValue l ∧ l.map (·.1) = o := by
  cases h with
  | none => exact ⟨none, rfl, rfl⟩
  | int => exact ⟨some (_, _), rfl, rfl⟩
theorem sl_anyS : SlR X (fun x lo hi H Q => ∃ r1 r, VwR X.K H r1 x ∧ gSlS r1 lo hi = some r ∧ ∀ v H', Same H H' → Out X.K H H' r v → Q v H') := by
  intro pins s σ H x v vl vu lo hi sl Q I rx hs pl pu hh
  obtain ⟨r1, r, h1, e, q⟩ := hh
  unfold gSlS at e
  split at e
  · rename_i z
    split at e
    · rename_i hz
      cases e
      have h1 : Has X.K H (.str z) x := h1
      simp only [Has] at h1
      subst h1
      obtain ⟨tx, rfl⟩ := rx
      obtain ⟨l, rfl, el⟩ := part_of pl
      obtain ⟨u, rfl, eu⟩ := part_of pu
      refine ⟨"str", _, PySem.F.slot_str_getitem.lookup, typeIs_str _ _ _, ?_⟩
      refine wpAny_getItem_str_slice (l := l) (u := u) (st := none) hs rfl ?_
      have key : ∀ t' k, EP X pins σ Q (.str (Txt.slice z lo hi) t') { s with toks := k } := fun t' k => ⟨.str _, H, I.tok _, ⟨_, rfl⟩, q _ H (Same.refl _) (by simp only [Out, Has])⟩
      unfold Txt.slice at key
      subst el
      subst eu
      exact post_val_or_str ⟨Nat.le_trans (Txt.slice_le z _ _) (line10000 (by omega)), key⟩
    · cases e
  · rename_i hne
    exact sl_any pins s σ H x v vl vu lo hi sl Q I rx hs pl pu ⟨r1, r, h1, e, q⟩
theorem de_slS {lo hi : Option Expr} {l u : Option DEn} (ha : DE X a f) (hl : PO X lo (ro X.K l)) (hu : PO X hi (ro X.K u)) : DE X (.Subscript a (.Slice lo hi none p2) pos) (dSlS f l u) :=
  pe_to (pe_slice sl_anyS ha hl hu) fun σ H Q ⟨B, δ, r, rp, e, q⟩ => by
    obtain ⟨x, ex, e⟩ := bs e
    obtain ⟨y, ey, e⟩ := bs e
    obtain ⟨z, ez, e⟩ := bs e
    refine ⟨B, δ, x, rp, ex, fun v H1 g1 i1 => ⟨B, δ, y, rp.grow g1, ey, fun H2 g2 => ⟨B, δ, z, (rp.grow g1).grow g2, ez, fun H3 g3 => ?_⟩⟩⟩
    exact ⟨x, r, ((i1.vw (rp.same.trans g1)).grow g2).grow g3, e, fun w H4 g4 o => q w H4 (g1.trans (g2.trans (g3.trans g4))) (o.is (g1.trans (g2.trans g3)))⟩
/-! f-strings -/
/-- a part of an f-string: gives the text that its result is shown as -/
def FP (X : Cx) (e : Expr) (t : DEn) : Prop := ∀ (pins : List (Addr × Obj)) (s : Shared) (σ : St) (H : Hp) (Q : VK), Inv X pins σ H s → (∃ B δ r y, Rep X.K B δ σ H ∧ t δ = some r ∧ fmtR r = some y ∧ ∀ H', Same H H' → Q (.str y) H') → wpAny (model X.prog X.w) X.A (eval e X.env) (EP X pins σ Q) X.xe s
theorem fp_str {i j} : FP X (.Constant (.str i) j pos) (dC (.str i)) := fun pins s σ H Q I ⟨B, δ, r, y, rp, e, ey, q⟩ => by
  cases e
  unfold fmtR at ey
  dsimp only at ey
  split at ey
  · cases ey
    exact pe_str pins s σ H Q I (q H (Same.refl _))
  · cases ey
theorem fp_val (ha : DE X a f) : FP X (.FormattedValue a (-1) none pos) f := fun pins s σ H Q I ⟨B, δ, r, y, rp, e, ey, q⟩ => by
  refine FormattedValue_plain (thn (ha pins s σ H (fun v H' => Same H H' ∧ IsR X.K B H H' r v) I ⟨B, δ, r, rp, e, fun v H' g i => ⟨g, i⟩⟩) fun u s1 hh => ?_)
  obtain ⟨v, H1, I1, r1, g1, i1⟩ := hh
  unfold fmtR at ey
  split at ey
  · rename_i x
    split at ey
    · rename_i hz
      cases ey
      have i1 : Has X.K H1 (.str y) v := i1
      simp only [Has] at i1
      subst i1
      obtain ⟨tx, rfl⟩ := r1
      exact formatField_str (fun t' tk => ⟨.str _, H1, I1.tok _, ⟨_, rfl⟩, q H1 g1⟩) (line10000 (by omega))
    · cases ey
  · rename_i n
    split at ey
    · rename_i hz
      cases ey
      have i1 : Has X.K H1 (.int n) v := i1
      simp only [Has] at i1
      subst i1
      obtain ⟨tx, rfl⟩ := r1
      exact formatField_int_small hz ⟨.str _, H1, I1.tok _, ⟨_, rfl⟩, q H1 g1⟩
    · cases ey
  · cases ey
inductive FPs (X : Cx) : List Expr → List DEn → Prop where
  | nil : FPs X [] []
  | cons {e : Expr} {es : List Expr} {t : DEn} {ts : List DEn} : FP X e t → FPs X es ts → FPs X (e :: es) (t :: ts)
theorem js_go {es : List Expr} {ts : List DEn} (hp : FPs X es ts) : ∀ (out : Str) (pins : List (Addr × Obj)) (s : Shared) (σ : St) (H : Hp) (Q : VK), Inv X pins σ H s → out.length ≤ 10000 → (∃ B δ x, Rep X.K B δ σ H ∧ jsGo out ts δ = some x ∧ ∀ H', Same H H' → Q (.str x) H') →
    wpAny (model X.prog X.w) X.A (joinParts out (evalEach es X.env)) (EP X pins σ Q) X.xe s := by
  induction hp with
  | nil =>
    intro out pins s σ H Q I hz ⟨B, δ, x, rp, e, q⟩
    cases e
    exact joinParts_nil ⟨.str _, H, I.tok _, ⟨_, rfl⟩, q H (Same.refl _)⟩ (line10000 (by omega))
  | @cons e0 es t0 ts h1 _ ih =>
    intro out pins s σ H Q I hz ⟨B, δ, x, rp, e, q⟩
    unfold jsGo at e
    obtain ⟨r, er, e⟩ := bs e
    obtain ⟨y, ey, e⟩ := bs e
    split at e
    · rename_i hl
      refine joinParts_cons (thn (h1 pins s σ H (fun v H' => v = .str y ∧ Same H H') I ⟨B, δ, r, y, rp, er, ey, fun H' g => ⟨rfl, g⟩⟩) fun u s1 hh => ?_)
      obtain ⟨v, H1, I1, r1, ev, g1⟩ := hh
      subst ev
      obtain ⟨tx, rfl⟩ := r1
      exact ⟨line10000 (by omega), ih (out ++ y) pins s1 σ H1 Q I1 hl ⟨B, δ, x, rp.grow g1, e, fun H' g => q H' (g1.trans g)⟩⟩
    · cases e
theorem de_js {e1 e2 : Expr} {es : List Expr} {ts : List DEn} (hp : FPs X (e1 :: e2 :: es) ts) : DE X (.JoinedStr (e1 :: e2 :: es) pos) (dJS ts) := fun pins s σ H Q I ⟨B, δ, r, rp, e, q⟩ => by
  obtain ⟨x, ex, er⟩ := ms e
  subst er
  refine JoinedStr_many (js_go hp Str.empty pins s σ H Q I (by decide) ⟨B, δ, x, rp, ex, fun H' g => q _ H' g ?_⟩)
  show Has X.K H' (.str x) _
  simp only [Has]
variable {W : Hp → Prop} {u : DSn} {body : List Stmt}
/-! what is never come to; try, where nothing is raised -/
theorem ds_no {st : Stmt} : DS X W st sNo := fun _ _ _ _ _ _ ⟨_, _, _, _, _, e, _⟩ => by cases e
theorem ds_tryN {h₀ : ExceptHandler} {hs : List ExceptHandler} (hx : ∀ e s, ¬ X.xe e s) (hb : DSs X W body u) : DS X W (.Try body (h₀ :: hs) [] [] pos) u := fun pins s σ H D I hh => by
  refine wpAny_Try_except (wpAny_mono (hb pins s σ H D I hh) (fun f s1 h1 => ?_) fun e s1 h1 => (hx e s1 h1).elim)
  cases f with
  | next =>
    obtain ⟨σ', H', I', q⟩ := h1
    exact wpAny_execs_nil ⟨σ', H', I', q⟩
  | _ => exact h1
end
end DL

namespace Law
section
open PySem DL
/-! what each def is worth -/
noncomputable def B_look_at_rule : DSn := (sSeq (sIf (qNot (qB (dCh (gI kLe) (gI kLt) (dC (.int 0)) (d2 gIx (dVar 2) (dC (.int 0))) (dVar 1)))) sNo sNx) (sSeq (sIf (qNot (qB (dCh (gI kLe) (gI kLe) (dC (.int 0)) (d2 gIx (dVar 2) (dC (.int 1))) (dC (.int 1))))) sNo sNx) (sIf (qNot (qB (dCh (gI kLe) (gI kLt) (dC (.int 0)) (d2 gIx (dVar 2) (dC (.int 2))) (dVar 0)))) sNo sNx)))
noncomputable def F_look_at_rule : Fn := fn 3 3 B_look_at_rule
noncomputable def L1_looked : DSn := (sForV 5 4 (sEx (dCall F_look_at_rule (aCons (dVar 1) (aCons (dVar 2) (aCons (dVar 5) aNil))))))
noncomputable def B_looked : DSn := (sSeq (sSet 1 (d2 gIx (dVar 0) (dC (.int 0)))) (sSeq (sSet 2 (d2 gIx (dVar 0) (dC (.int 1)))) (sSeq (sSet 3 (d2 gIx (dVar 0) (dC (.int 2)))) (sSeq (sIf (qNot (qB (dCh (gI kLe) (gI kLe) (dC (.int 1)) (dVar 1) (dC (.int 6))))) sNo sNx) (sSeq (sIf (qNot (qB (dCh (gI kLe) (gI kLe) (dC (.int 2)) (dVar 2) (dC (.int 4))))) sNo sNx) (sSeq (sIf (qB (d2 gNe (dB gLen (aCons (dVar 3) aNil)) (d2 (gI kMul) (dVar 1) (dVar 2)))) sNo sNx) (sSeq (sSet 4 (dComp [] (iAny (dVar 3)) (qB (d2 (g2N gNotN) (dVar 0) (dC .non))) (dVar 0))) (sSeq L1_looked (sRet (dB gLen (aCons (dVar 4) aNil)))))))))))
noncomputable def F_looked : Fn := fn 1 6 B_looked
noncomputable def B_shown_rule : DSn := (sSeq (sIf (qB (d2 (g2N gIsN) (dVar 0) (dC .non))) (sRet (dC (.str "-"))) sNx) (sSeq (sSet 1 (d2 gIxS (dVar 0) (dC (.int 0)))) (sSeq (sSet 2 (d2 gIxS (dC (.str "<>")) (d2 gIxS (dVar 0) (dC (.int 1))))) (sSeq (sSet 3 (d2 gIxS (dVar 0) (dC (.int 2)))) (sRet (dJS [(dVar 1), (dVar 2), (dVar 3)]))))))
noncomputable def F_shown_rule : Fn := fn 1 4 B_shown_rule
noncomputable def B_shown : DSn := (sSeq (sSet 1 (d2 gIxS (dVar 0) (dC (.int 0)))) (sSeq (sSet 2 (d2 gIxS (dVar 0) (dC (.int 1)))) (sSeq (sSet 3 (dLst (aCons (dJS [(dVar 1), (dC (.str " ")), (dVar 2), (dC (.str ":"))]) aNil))) (sSeq (sExt 3 (dComp [] (iAny (d2 gIxS (dVar 0) (dC (.int 2)))) qYes (dCall F_shown_rule (aCons (dVar 0) aNil)))) (sRet (d2 gJoinS (dC (.str " ")) (dVar 3)))))))
noncomputable def F_shown : Fn := fn 1 4 B_shown
noncomputable def B_figure : DSn := (sSeq (sIf (qOr (qB (d2 gNe (dB gLenS (aCons (dVar 0) aNil)) (dC (.int 1)))) (qB (d2 gNotInS (dVar 0) (dC (.str "0123456789"))))) sNo sNx) (sRet (d2 gIdxS (dC (.str "0123456789")) (dVar 0))))
noncomputable def F_figure : Fn := fn 1 1 B_figure
noncomputable def B_rule_of : DSn := (sSeq (sIf (qB (d2 gEq (dVar 0) (dC (.str "-")))) (sRet (dC .non)) sNx) (sSeq (sIf (qOr (qB (d2 gNe (dB gLenS (aCons (dVar 0) aNil)) (dC (.int 3)))) (qB (d2 gNotInS (d2 gIxS (dVar 0) (dC (.int 1))) (dC (.str "<>"))))) sNo sNx) (sRet (dTup (aCons (dCall F_figure (aCons (d2 gIxS (dVar 0) (dC (.int 0))) aNil)) (aCons (d2 gIdxS (dC (.str "<>")) (d2 gIxS (dVar 0) (dC (.int 1)))) (aCons (dCall F_figure (aCons (d2 gIxS (dVar 0) (dC (.int 2))) aNil)) aNil)))))))
noncomputable def F_rule_of : Fn := fn 1 1 B_rule_of
noncomputable def B_read : DSn := (sSeq (sSet 1 (d2 gSplitS (dVar 0) (dC (.str " ")))) (sSeq (sIf (qOr (qB (d2 (gI kLt) (dB gLenS (aCons (dVar 1) aNil)) (dC (.int 2)))) (qNot (qB (d2 gEndS (d2 gIxS (dVar 1) (dC (.int 1))) (dC (.str ":")))))) sNo sNx) (sSeq (sSet 2 (dCall F_figure (aCons (d2 gIxS (dVar 1) (dC (.int 0))) aNil))) (sSeq (sSet 3 (dCall F_figure (aCons (dSlS (d2 gIxS (dVar 1) (dC (.int 1))) none (some (d1 gNeg (dC (.int 1))))) aNil))) (sSeq (sSet 4 (dTup (aCons (dVar 2) (aCons (dVar 3) (aCons (dB gTuple (aCons (dComp [] (iAny (dSlS (dVar 1) (some (dC (.int 2))) none)) qYes (dCall F_rule_of (aCons (dVar 0) aNil))) aNil)) aNil))))) (sSeq (sEx (dCall F_looked (aCons (dVar 4) aNil))) (sRetV 4)))))))
noncomputable def F_read : Fn := fn 1 6 B_read
noncomputable def B_law_cell_at : DSn := (sSeq (sIf (qB (d2 (gI kLt) (dVar 1) (dB gLen (aCons (dVar 0) aNil)))) (sRet (d2 gIx (dVar 0) (dVar 1))) sNx) (sRet (dC (.int 0))))
noncomputable def F_law_cell_at : Fn := fn 2 2 B_law_cell_at
noncomputable def B_law_pick : DSn := (sSeq (sIf (qB (d2 (gI kLt) (dVar 1) (dB gLen (aCons (dVar 0) aNil)))) (sRet (d2 gIx (dVar 0) (dVar 1))) sNx) (sRet (d2 (gI kDiv) (d2 (gI kMod) (d2 (gI kMul) (d2 gAdd (d2 gAdd (dCall F_law_cell_at (aCons (dVar 0) (aCons (dC (.int 0)) aNil))) (d2 (gI kMul) (dC (.int 7)) (dVar 1))) (dC (.int 3))) (dC (.int 48271))) (dC (.int 2147483647))) (dC (.int 13)))))
noncomputable def F_law_pick : Fn := fn 2 2 B_law_pick
noncomputable def B_law_whole : DSn := (sRet (dAnd (d1 (gIs .int) (dVar 0)) (dNot (d1 (gIs .bool) (dVar 0)))))
noncomputable def F_law_whole : Fn := fn 1 1 B_law_whole
noncomputable def B_law_mix : DSn := (sRet (d2 (gI kMod) (d2 gAdd (d2 (gI kMul) (dVar 0) (dC (.int 48271))) (d2 (gI kMul) (dVar 1) (dC (.int 40692)))) (dC (.int 2147483647))))
noncomputable def F_law_mix : Fn := fn 2 2 B_law_mix
noncomputable def L1_law_machine : DSn := (sSeq (sSet 6 (dCall F_law_mix (aCons (dCall F_law_pick (aCons (dVar 0) (aCons (d2 gAdd (dVar 1) (dVar 5)) aNil))) (aCons (dVar 5) aNil)))) (sIf (qB (d2 gEq (d2 (gI kMod) (dVar 6) (dC (.int 5))) (dC (.int 0)))) (sApp 4 (dC .non)) (sApp 4 (dTup (aCons (d2 (gI kMod) (d2 (gI kDiv) (dVar 6) (dC (.int 5))) (dVar 3)) (aCons (d2 (gI kMod) (d2 (gI kDiv) (dVar 6) (dC (.int 64))) (dC (.int 2))) (aCons (d2 (gI kMod) (d2 (gI kDiv) (dVar 6) (dC (.int 512))) (dVar 2)) aNil)))))))
noncomputable def L2_law_machine : DSn := (sFor 5 (iTo (d2 (gI kMul) (dVar 2) (dVar 3))) L1_law_machine)
noncomputable def B_law_machine : DSn := (sSeq (sSet 4 (dLst aNil)) (sSeq L2_law_machine (sRet (dTup (aCons (dVar 2) (aCons (dVar 3) (aCons (dB gTuple (aCons (dVar 4) aNil)) aNil)))))))
noncomputable def F_law_machine : Fn := fn 4 7 B_law_machine
noncomputable def B_law_same (F : Fn) : DSn := (sSeq (sIf (qB (d1 (gIs .tuple) (dVar 1))) (sSeq (sIf (qOr (qNot (qB (d1 (gIs .tuple) (dVar 0)))) (qB (d2 gNe (dB gLen (aCons (dVar 0) aNil)) (dB gLen (aCons (dVar 1) aNil))))) (sRet (dC (.bl false))) sNx) (sRet (dB gAllL (aCons (dComp [0, 1] (iTo (dB gLen (aCons (dVar 1) aNil))) qYes (dCall F (aCons (d2 gIx (dVar 1) (dVar 0)) (aCons (d2 gIx (dVar 2) (dVar 0)) aNil)))) aNil)))) sNx) (sSeq (sIf (qOr (qB (d2 (g2N gIsN) (dVar 1) (dC .non))) (qB (d1 (gIs .str) (dVar 1)))) (sRet (d2 gEq (dVar 0) (dVar 1))) sNx) (sRet (dAnd (dCall F_law_whole (aCons (dVar 0) aNil)) (d2 gEq (dVar 0) (dVar 1))))))
noncomputable def F_law_same : Nat → Fn
  | 0 => fun _ => none
  | n + 1 => fn 2 2 (B_law_same (F_law_same n))
noncomputable def L1_law : DSn := (sSeq (sSet 4 (dC (.str "-"))) (sSeq (sIf (qB (d2 (g2N gNotN) (dVar 3) (dC .non))) (sSet 4 (d2 gAddS (d2 gAddS (dB gStr (aCons (d2 gIxS (dVar 3) (dC (.int 0))) aNil)) (d2 gIxS (dLst (aCons (dC (.str "<")) (aCons (dC (.str ">")) aNil))) (d2 gIxS (dVar 3) (dC (.int 1))))) (dB gStr (aCons (d2 gIxS (dVar 3) (dC (.int 2))) aNil)))) sNx) (sSet 2 (d2 gAddS (d2 gAddS (dVar 2) (dC (.str " "))) (dVar 4)))))
noncomputable def L2_law : DSn := (sFor 3 (iSeq (d2 gIxS (dVar 1) (dC (.int 2)))) L1_law)
noncomputable def B_law : DSn := (sSeq (sSet 1 (dCall F_law_machine (aCons (dVar 0) (aCons (dC (.int 1)) (aCons (d2 gAdd (dC (.int 1)) (d2 (gI kMod) (dCall F_law_cell_at (aCons (dVar 0) (aCons (dC (.int 0)) aNil))) (dC (.int 6)))) (aCons (d2 gAdd (dC (.int 2)) (d2 (gI kMod) (d2 (gI kDiv) (dCall F_law_cell_at (aCons (dVar 0) (aCons (dC (.int 0)) aNil))) (dC (.int 6))) (dC (.int 3)))) aNil)))))) (sSeq (sSet 2 (d2 gAddS (d2 gAddS (d2 gAddS (dB gStr (aCons (d2 gIxS (dVar 1) (dC (.int 0))) aNil)) (dC (.str " "))) (dB gStr (aCons (d2 gIxS (dVar 1) (dC (.int 1))) aNil))) (dC (.str ":")))) (sSeq L2_law (sSeq (sSet 5 (dCall F_shown (aCons (dVar 1) aNil))) (sRet (dAnd (d1 (gIs .str) (dVar 5)) (dAnd (d2 gEq (dVar 5) (dVar 2)) (dCall (F_law_same 4) (aCons (dCall F_read (aCons (dVar 2) aNil)) (aCons (dVar 1) aNil))))))))))
noncomputable def F_law : Fn := fn 1 6 B_law
/-! facts about the law's helpers -/
def cellZ (ns : List Int) (k : Int) : Int := ns.getD k.toNat 0
theorem e_cell (ns : List Int) (k : Int) (hk : 0 ≤ k) : F_law_cell_at [.l .bor (ns.map .int), .d (.int k)] = some (.d (.int (cellZ ns k))) := by
  unfold F_law_cell_at B_law_cell_at cellZ
  by_cases h : k < ns.length
  · have h2 : k.toNat < ns.length := by omega
    simp [dVar, dC, d1, d2, gI, kSub, kMul, kDiv, kMod, kPow, kLt, kLe, kGt, kGe, eqK, gEq, gNe, isN, gIsN, gNotN, gNeg, dCh, qB, qAnd, qOr, qNot, qYes, dAnd, dOr, dNot, dIf, gIx, oI, dSl, aNil, aCons, plainD, dTup, dLst, gAdd, R.arg, dCall, gLen, gTuple, gList, gMax, gMin, isT, gIs, dB, see, keepR, sSet, retR, sRet, sRetV, sRetN, sNx, sBrk, sCont, sSeq, sIf, sEx, sApp, sPut, g2N, gAllL, fn, Fl.mine, at0, at1, at2, at3, sExt, gIsL, gInt, dFu, dCallV, gIn, gNotIn, gIdx, gSum, h, h2, atP_int _ _ hk]
  · have h2 : ns.length ≤ k.toNat := by omega
    simp [dVar, dC, d1, d2, gI, kSub, kMul, kDiv, kMod, kPow, kLt, kLe, kGt, kGe, eqK, gEq, gNe, isN, gIsN, gNotN, gNeg, dCh, qB, qAnd, qOr, qNot, qYes, dAnd, dOr, dNot, dIf, gIx, oI, dSl, aNil, aCons, plainD, dTup, dLst, gAdd, R.arg, dCall, gLen, gTuple, gList, gMax, gMin, isT, gIs, dB, see, keepR, sSet, retR, sRet, sRetV, sRetN, sNx, sBrk, sCont, sSeq, sIf, sEx, sApp, sPut, g2N, gAllL, fn, Fl.mine, at0, at1, at2, at3, sExt, gIsL, gInt, dFu, dCallV, gIn, gNotIn, gIdx, gSum, h, h2]
def pickZ (ns : List Int) (k : Int) : Int := if k < ns.length then ns.getD k.toNat 0 else (cellZ ns 0 + 7 * k + 3) * 48271 % 2147483647 / 13
theorem e_pick (ns : List Int) (k : Int) (hk : 0 ≤ k) : F_law_pick [.l .bor (ns.map .int), .d (.int k)] = some (.d (.int (pickZ ns k))) := by
  have e0 := e_cell ns 0 (by omega)
  unfold F_law_pick B_law_pick pickZ
  by_cases h : k < ns.length
  · have h2 : k.toNat < ns.length := by omega
    simp [dVar, dC, d1, d2, gI, kSub, kMul, kDiv, kMod, kPow, kLt, kLe, kGt, kGe, eqK, gEq, gNe, isN, gIsN, gNotN, gNeg, dCh, qB, qAnd, qOr, qNot, qYes, dAnd, dOr, dNot, dIf, gIx, oI, dSl, aNil, aCons, plainD, dTup, dLst, gAdd, R.arg, dCall, gLen, gTuple, gList, gMax, gMin, isT, gIs, dB, see, keepR, sSet, retR, sRet, sRetV, sRetN, sNx, sBrk, sCont, sSeq, sIf, sEx, sApp, sPut, g2N, gAllL, fn, Fl.mine, at0, at1, at2, at3, sExt, gIsL, gInt, dFu, dCallV, gIn, gNotIn, gIdx, gSum, h, h2, atP_int _ _ hk]
  · simp [dVar, dC, d1, d2, gI, kSub, kMul, kDiv, kMod, kPow, kLt, kLe, kGt, kGe, eqK, gEq, gNe, isN, gIsN, gNotN, gNeg, dCh, qB, qAnd, qOr, qNot, qYes, dAnd, dOr, dNot, dIf, gIx, oI, dSl, aNil, aCons, plainD, dTup, dLst, gAdd, R.arg, dCall, gLen, gTuple, gList, gMax, gMin, isT, gIs, dB, see, keepR, sSet, retR, sRet, sRetV, sRetN, sNx, sBrk, sCont, sSeq, sIf, sEx, sApp, sPut, g2N, gAllL, fn, Fl.mine, at0, at1, at2, at3, sExt, gIsL, gInt, dFu, dCallV, gIn, gNotIn, gIdx, gSum, h, e0]
def mixZ (c k : Int) : Int := (c * 48271 + k * 40692) % 2147483647
theorem e_mix (c k : Int) : F_law_mix [.d (.int c), .d (.int k)] = some (.d (.int (mixZ c k))) := by
  unfold F_law_mix B_law_mix mixZ
  simp [dVar, dC, d1, d2, gI, kSub, kMul, kDiv, kMod, kPow, kLt, kLe, kGt, kGe, eqK, gEq, gNe, isN, gIsN, gNotN, gNeg, dCh, qB, qAnd, qOr, qNot, qYes, dAnd, dOr, dNot, dIf, gIx, oI, dSl, aNil, aCons, plainD, dTup, dLst, gAdd, R.arg, dCall, gLen, gTuple, gList, gMax, gMin, isT, gIs, dB, see, keepR, sSet, retR, sRet, sRetV, sRetN, sNx, sBrk, sCont, sSeq, sIf, sEx, sApp, sPut, g2N, gAllL, fn, Fl.mine, at0, at1, at2, at3, sExt, gIsL, gInt, dFu, dCallV, gIn, gNotIn, gIdx, gSum]
theorem mixZ_nn (c k : Int) : 0 ≤ mixZ c k := Int.emod_nonneg _ (by decide)
theorem e_whole (i : Int) : F_law_whole [.d (.int i)] = some (.d (.bl true)) := by
  unfold F_law_whole B_law_whole
  simp [dVar, dC, d1, d2, gI, kSub, kMul, kDiv, kMod, kPow, kLt, kLe, kGt, kGe, eqK, gEq, gNe, isN, gIsN, gNotN, gNeg, dCh, qB, qAnd, qOr, qNot, qYes, dAnd, dOr, dNot, dIf, gIx, oI, dSl, aNil, aCons, plainD, dTup, dLst, gAdd, R.arg, dCall, gLen, gTuple, gList, gMax, gMin, isT, gIs, dB, see, keepR, sSet, retR, sRet, sRetV, sRetN, sNx, sBrk, sCont, sSeq, sIf, sEx, sApp, sPut, g2N, gAllL, fn, Fl.mine, at0, at1, at2, at3, sExt, gIsL, gInt, dFu, dCallV, gIn, gNotIn, gIdx, gSum]
/-- data of that depth, without bools -/
def dep : Nat → D → Prop
  | _, .int _ => True
  | _, .non => True
  | _, .str _ => True
  | _, .bl _ => False
  | _, .fu _ => False
  | 0, .tup _ => False
  | n + 1, .tup ds => ds.length ≤ 10000 ∧ ∀ d ∈ ds, dep n d
theorem cp_true {e : DEn} {caps : Ev} : ∀ {ds : List D}, (∀ d ∈ ds, e (some (.d d) :: caps) = some (.d (.bl true))) → cpGo qYes e caps ds = some (List.replicate ds.length (.bl true))
  | [], _ => rfl
  | d :: r, h => by
    unfold cpGo
    have ih := cp_true (e := e) (caps := caps) (ds := r) fun x hx => h x (List.mem_cons_of_mem _ hx)
    simp [qYes, h d List.mem_cons_self, ih, List.replicate_succ]
theorem bools_true (n : Nat) : bools (List.replicate n (.bl true)) = some (List.replicate n true) := by
  induction n with
  | zero => rfl
  | succ n ih => simp [List.replicate_succ, bools, ih]
theorem e_same : ∀ (n : Nat) (d : D), dep n d → F_law_same (n + 1) [.d d, .d d] = some (.d (.bl true)) := by
  intro n
  induction n with
  | zero =>
    intro d h
    unfold F_law_same B_law_same
    cases d with
    | int i => have e := e_whole i; simp [dVar, dC, d1, d2, gI, kSub, kMul, kDiv, kMod, kPow, kLt, kLe, kGt, kGe, eqK, gEq, gNe, isN, gIsN, gNotN, gNeg, dCh, qB, qAnd, qOr, qNot, qYes, dAnd, dOr, dNot, dIf, gIx, oI, dSl, aNil, aCons, plainD, dTup, dLst, gAdd, R.arg, dCall, gLen, gTuple, gList, gMax, gMin, isT, gIs, dB, see, keepR, sSet, retR, sRet, sRetV, sRetN, sNx, sBrk, sCont, sSeq, sIf, sEx, sApp, sPut, g2N, gAllL, fn, Fl.mine, at0, at1, at2, at3, sExt, gIsL, gInt, dFu, dCallV, gIn, gNotIn, gIdx, gSum, e]
    | non => simp [dVar, dC, d1, d2, gI, kSub, kMul, kDiv, kMod, kPow, kLt, kLe, kGt, kGe, eqK, gEq, gNe, isN, gIsN, gNotN, gNeg, dCh, qB, qAnd, qOr, qNot, qYes, dAnd, dOr, dNot, dIf, gIx, oI, dSl, aNil, aCons, plainD, dTup, dLst, gAdd, R.arg, dCall, gLen, gTuple, gList, gMax, gMin, isT, gIs, dB, see, keepR, sSet, retR, sRet, sRetV, sRetN, sNx, sBrk, sCont, sSeq, sIf, sEx, sApp, sPut, g2N, gAllL, fn, Fl.mine, at0, at1, at2, at3, sExt, gIsL, gInt, dFu, dCallV, gIn, gNotIn, gIdx, gSum]
    | str x => simp [dVar, dC, d1, d2, gI, kSub, kMul, kDiv, kMod, kPow, kLt, kLe, kGt, kGe, eqK, gEq, gNe, isN, gIsN, gNotN, gNeg, dCh, qB, qAnd, qOr, qNot, qYes, dAnd, dOr, dNot, dIf, gIx, oI, dSl, aNil, aCons, plainD, dTup, dLst, gAdd, R.arg, dCall, gLen, gTuple, gList, gMax, gMin, isT, gIs, dB, see, keepR, sSet, retR, sRet, sRetV, sRetN, sNx, sBrk, sCont, sSeq, sIf, sEx, sApp, sPut, g2N, gAllL, fn, Fl.mine, at0, at1, at2, at3, sExt, gIsL, gInt, dFu, dCallV, gIn, gNotIn, gIdx, gSum]
    | bl b => exact h.elim
    | fu b => exact h.elim
    | tup ds => exact h.elim
  | succ n ih =>
    intro d h
    unfold F_law_same B_law_same
    cases d with
    | int i => have e := e_whole i; simp [dVar, dC, d1, d2, gI, kSub, kMul, kDiv, kMod, kPow, kLt, kLe, kGt, kGe, eqK, gEq, gNe, isN, gIsN, gNotN, gNeg, dCh, qB, qAnd, qOr, qNot, qYes, dAnd, dOr, dNot, dIf, gIx, oI, dSl, aNil, aCons, plainD, dTup, dLst, gAdd, R.arg, dCall, gLen, gTuple, gList, gMax, gMin, isT, gIs, dB, see, keepR, sSet, retR, sRet, sRetV, sRetN, sNx, sBrk, sCont, sSeq, sIf, sEx, sApp, sPut, g2N, gAllL, fn, Fl.mine, at0, at1, at2, at3, sExt, gIsL, gInt, dFu, dCallV, gIn, gNotIn, gIdx, gSum, e]
    | non => simp [dVar, dC, d1, d2, gI, kSub, kMul, kDiv, kMod, kPow, kLt, kLe, kGt, kGe, eqK, gEq, gNe, isN, gIsN, gNotN, gNeg, dCh, qB, qAnd, qOr, qNot, qYes, dAnd, dOr, dNot, dIf, gIx, oI, dSl, aNil, aCons, plainD, dTup, dLst, gAdd, R.arg, dCall, gLen, gTuple, gList, gMax, gMin, isT, gIs, dB, see, keepR, sSet, retR, sRet, sRetV, sRetN, sNx, sBrk, sCont, sSeq, sIf, sEx, sApp, sPut, g2N, gAllL, fn, Fl.mine, at0, at1, at2, at3, sExt, gIsL, gInt, dFu, dCallV, gIn, gNotIn, gIdx, gSum]
    | str x => simp [dVar, dC, d1, d2, gI, kSub, kMul, kDiv, kMod, kPow, kLt, kLe, kGt, kGe, eqK, gEq, gNe, isN, gIsN, gNotN, gNeg, dCh, qB, qAnd, qOr, qNot, qYes, dAnd, dOr, dNot, dIf, gIx, oI, dSl, aNil, aCons, plainD, dTup, dLst, gAdd, R.arg, dCall, gLen, gTuple, gList, gMax, gMin, isT, gIs, dB, see, keepR, sSet, retR, sRet, sRetV, sRetN, sNx, sBrk, sCont, sSeq, sIf, sEx, sApp, sPut, g2N, gAllL, fn, Fl.mine, at0, at1, at2, at3, sExt, gIsL, gInt, dFu, dCallV, gIn, gNotIn, gIdx, gSum]
    | bl b => exact h.elim
    | fu b => exact h.elim
    | tup ds =>
      obtain ⟨h1, h2⟩ := h
      have c : cpGo qYes (dCall (F_law_same (n + 1)) (aCons (d2 gIx (dVar 1) (dVar 0)) (aCons (d2 gIx (dVar 2) (dVar 0)) aNil))) [some (.d (.tup ds)), some (.d (.tup ds))] ((List.range ds.length).map fun (k : Nat) => D.int (k : Int)) = some (List.replicate ds.length (.bl true)) := by
        have := cp_true (e := dCall (F_law_same (n + 1)) (aCons (d2 gIx (dVar 1) (dVar 0)) (aCons (d2 gIx (dVar 2) (dVar 0)) aNil))) (caps := [some (.d (.tup ds)), some (.d (.tup ds))]) (ds := (List.range ds.length).map fun (k : Nat) => D.int (k : Int)) ?_
        · rwa [List.length_map, List.length_range] at this
        · intro x hx
          obtain ⟨k, hk, rfl⟩ := List.mem_map.mp hx
          have hk : k < ds.length := List.mem_range.mp hk
          have e1 : ds[k]? = some ds[k] := List.getElem?_eq_getElem hk
          have e2 := ih ds[k] (h2 _ (List.getElem_mem hk))
          simp [dVar, dC, d1, d2, gI, kSub, kMul, kDiv, kMod, kPow, kLt, kLe, kGt, kGe, eqK, gEq, gNe, isN, gIsN, gNotN, gNeg, dCh, qB, qAnd, qOr, qNot, qYes, dAnd, dOr, dNot, dIf, gIx, oI, dSl, aNil, aCons, plainD, dTup, dLst, gAdd, R.arg, dCall, gLen, gTuple, gList, gMax, gMin, isT, gIs, dB, see, keepR, sSet, retR, sRet, sRetV, sRetN, sNx, sBrk, sCont, sSeq, sIf, sEx, sApp, sPut, g2N, gAllL, fn, Fl.mine, at0, at1, at2, at3, sExt, gIsL, gInt, dFu, dCallV, gIn, gNotIn, gIdx, gSum, atP_nat, e1, e2]
      have z : ((ds.length : Nat) : Int) ≤ 1000000 := by omega
      have z2 : (-1000000 : Int) ≤ ((ds.length : Nat) : Int) := by omega
      simp [dVar, dC, d1, d2, gI, kSub, kMul, kDiv, kMod, kPow, kLt, kLe, kGt, kGe, eqK, gEq, gNe, isN, gIsN, gNotN, gNeg, dCh, qB, qAnd, qOr, qNot, qYes, dAnd, dOr, dNot, dIf, gIx, oI, dSl, aNil, aCons, plainD, dTup, dLst, gAdd, R.arg, dCall, gLen, gTuple, gList, gMax, gMin, isT, gIs, dB, see, keepR, sSet, retR, sRet, sRetV, sRetN, sNx, sBrk, sCont, sSeq, sIf, sEx, sApp, sPut, g2N, gAllL, fn, Fl.mine, at0, at1, at2, at3, sExt, gIsL, gInt, dFu, dCallV, gIn, gNotIn, gIdx, gSum, dComp, iTo, capsOf, c, z, z2, h1, gAll, bools_true]
/-- a loop by what holds of it -/
theorem fo_inv {i : Nat} {b : DSn} {ds : List D} (P : Nat → Ev → Prop) {δ : Ev} (h0 : P 0 δ) (hs : ∀ (k : Nat) δ d, ds[k]? = some d → P k δ → ∃ δ', b (δ.set i (some (.d d))) = some (.nx δ') ∧ P (k + 1) δ') :
    ∃ δ', foGo i b ds δ = some (.nx δ') ∧ P ds.length δ' := by
  have all : ∀ (n : Nat) (k : Nat) (δ : Ev), n + k = ds.length → P k δ → ∃ δ', foGo i b (ds.drop k) δ = some (.nx δ') ∧ P ds.length δ' := by
    intro n
    induction n with
    | zero =>
      intro k δ hk hp
      have : ds.drop k = [] := List.drop_eq_nil_of_le (by omega)
      rw [this]
      exact ⟨δ, rfl, by have : k = ds.length := by omega
                        rwa [this] at hp⟩
    | succ n ih =>
      intro k δ hk hp
      have hl : k < ds.length := by omega
      obtain ⟨δ1, e1, p1⟩ := hs k δ ds[k] (List.getElem?_eq_getElem hl) hp
      obtain ⟨δ2, e2, p2⟩ := ih (k + 1) δ1 (by omega) p1
      refine ⟨δ2, ?_, p2⟩
      rw [List.drop_eq_getElem_cons hl]
      unfold foGo
      rw [e1]
      exact e2
  have := all ds.length 0 δ (by omega) h0
  simpa using this
theorem range_at {n k : Nat} {d : D} (h : ((List.range n).map fun (k : Nat) => D.int (k : Int))[k]? = some d) : k < n ∧ d = .int (k : Int) := by
  have hk : k < n := by
    have := (List.getElem?_eq_some_iff.mp h).1
    simpa using this
  rw [List.getElem?_map, List.getElem?_range hk] at h
  cases h
  exact ⟨hk, rfl⟩
theorem frange_at {n k : Nat} {m : Int} {d : D} (h : ((List.range n).map fun (k : Nat) => D.int (m + (k : Int)))[k]? = some d) : k < n ∧ d = .int (m + (k : Int)) := by
  have hk : k < n := by
    have := (List.getElem?_eq_some_iff.mp h).1
    simpa using this
  rw [List.getElem?_map, List.getElem?_range hk] at h
  cases h
  exact ⟨hk, rfl⟩
theorem ints_map : ∀ l : List Int, intsD (l.map .int) = some l
  | [] => rfl
  | x :: r => by rw [List.map_cons]; unfold intsD; rw [ints_map r]; rfl
/-- a loop that returns -/
theorem fo_ret {i : Nat} {b : DSn} {ds : List D} (P : Nat → Ev → Prop) {δ : Ev} {k : Nat} {r : R} (h0 : P 0 δ) (hk : k < ds.length) (hs : ∀ (j : Nat) δ d, j < k → ds[j]? = some d → P j δ → ∃ δ', b (δ.set i (some (.d d))) = some (.nx δ') ∧ P (j + 1) δ')
    (hr : ∀ δ d, ds[k]? = some d → P k δ → b (δ.set i (some (.d d))) = some (.rt r)) : foGo i b ds δ = some (.rt r) := by
  have all : ∀ (n : Nat) (j : Nat) (δ : Ev), n + j = k → P j δ → foGo i b (ds.drop j) δ = some (.rt r) := by
    intro n
    induction n with
    | zero =>
      intro j δ hj hp
      have : j = k := by omega
      subst this
      have e := hr δ ds[j] (List.getElem?_eq_getElem hk) hp
      rw [List.drop_eq_getElem_cons hk]
      unfold foGo
      rw [e]
      rfl
    | succ n ih =>
      intro j δ hj hp
      have hl : j < ds.length := by omega
      obtain ⟨δ1, e1, p1⟩ := hs j δ ds[j] (by omega) (List.getElem?_eq_getElem hl) hp
      have e2 := ih (j + 1) δ1 (by omega) p1
      rw [List.drop_eq_getElem_cons hl]
      unfold foGo
      rw [e1]
      exact e2
  have := all k 0 δ (by omega) h0
  simpa using this
theorem cp_mapL {α : Type} {e : DEn} {caps : Ev} {g h : α → D} : ∀ (l : List α), (∀ x ∈ l, e (some (.d (g x)) :: caps) = some (.d (h x))) → cpGo qYes e caps (l.map g) = some (l.map h)
  | [], _ => rfl
  | x :: r, H => by
    have e1 := H x List.mem_cons_self
    have e2 := cp_mapL r fun y hy => H y (List.mem_cons_of_mem _ hy)
    rw [List.map_cons, List.map_cons]
    unfold cpGo
    simp [qYes, e1, e2]
def sc (ns : List Int) : Option R := some (.l .bor (ns.map .int))
theorem emod_lt (a b : Int) (h : 0 < b) : 0 ≤ a % b ∧ a % b < b := ⟨Int.emod_nonneg _ (by omega), Int.emod_lt_of_pos _ h⟩
/-- how many are left without the noughts at the end -/
def trimN (ws : List Int) : Nat → Nat
  | 0 => 0
  | n + 1 => if ws.getD n 0 = 0 then trimN ws n else n + 1
theorem trimN_le (ws : List Int) : ∀ n, trimN ws n ≤ n
  | 0 => Nat.le_refl _
  | n + 1 => by
    unfold trimN
    split
    · exact Nat.le_succ_of_le (trimN_le ws n)
    · exact Nat.le_refl _
theorem div_lt {n s : Int} (h : 0 < n) (hs : 2 ≤ s) : n / s < n ∧ 0 ≤ n / s := by
  constructor
  · apply Int.ediv_lt_of_lt_mul (by omega)
    have : n * 2 ≤ n * s := Int.mul_le_mul_of_nonneg_left hs (by omega)
    omega
  · exact Int.ediv_nonneg (by omega) (by omega)
def digs (s n : Int) : List Int := if h : 0 < n ∧ 2 ≤ s then (n % s) :: digs s (n / s) else []
termination_by n.toNat
decreasing_by
  have := div_lt h.1 h.2
  omega
theorem digs_pos {s n : Int} (h : 0 < n) (hs : 2 ≤ s) : digs s n = (n % s) :: digs s (n / s) := by
  rw [digs, dif_pos ⟨h, hs⟩]
theorem digs_zero {s n : Int} (h : n ≤ 0) : digs s n = [] := by
  rw [digs, dif_neg (by omega)]
def numb (s : Int) : List Int → Int
  | [] => 0
  | x :: r => x + s * numb s r
def Dig (s : Int) (l : List Int) : Prop := ∀ x ∈ l, 0 ≤ x ∧ x < s
theorem numb_nn {s : Int} (hs : 2 ≤ s) : ∀ {l : List Int}, Dig s l → 0 ≤ numb s l
  | [], _ => Int.le_refl _
  | x :: r, h => by
    have h1 := h x List.mem_cons_self
    have h2 := numb_nn hs (l := r) fun y hy => h y (List.mem_cons_of_mem _ hy)
    have h3 : 0 ≤ s * numb s r := Int.mul_nonneg (by omega) h2
    show 0 ≤ x + s * numb s r
    omega
theorem digs_ind {s : Int} (hs : 2 ≤ s) (P : Int → Prop) (h0 : P 0) (h1 : ∀ n, 0 < n → P (n / s) → P n) : ∀ n, 0 ≤ n → P n := by
  have all : ∀ (k : Nat) (n : Int), n.toNat ≤ k → 0 ≤ n → P n := by
    intro k
    induction k with
    | zero => intro n hn h; have : n = 0 := by omega
              rw [this]; exact h0
    | succ k ih =>
      intro n hn h
      by_cases hz : n = 0
      · rw [hz]; exact h0
      · have hp : 0 < n := by omega
        have := div_lt hp hs
        exact h1 n hp (ih _ (by omega) this.2)
  intro n h
  exact all n.toNat n (Nat.le_refl _) h
theorem numb_digs {s : Int} (hs : 2 ≤ s) : ∀ n, 0 ≤ n → numb s (digs s n) = n := by
  apply digs_ind hs
  · rw [digs_zero (Int.le_refl _)]; rfl
  · intro n hn ih
    rw [digs_pos hn hs]
    show n % s + s * numb s (digs s (n / s)) = n
    rw [ih]
    exact Int.emod_add_mul_ediv n s
theorem digs_dig {s : Int} (hs : 2 ≤ s) : ∀ n, 0 ≤ n → Dig s (digs s n) := by
  apply digs_ind hs
  · rw [digs_zero (Int.le_refl _)]; intro x hx; cases hx
  · intro n hn ih
    rw [digs_pos hn hs]
    intro x hx
    rcases List.mem_cons.mp hx with rfl | hx
    · exact ⟨Int.emod_nonneg _ (by omega), Int.emod_lt_of_pos _ (by omega)⟩
    · exact ih x hx
theorem digs_len {s : Int} (hs : 2 ≤ s) : ∀ (k : Nat) (n : Int), n < 2 ^ k → (digs s n).length ≤ k := by
  intro k
  induction k with
  | zero => intro n hn; rw [digs_zero (by have : (2 : Int) ^ 0 = 1 := rfl
                                          omega)]; exact Nat.le_refl _
  | succ k ih =>
    intro n hn
    by_cases hp : 0 < n
    · rw [digs_pos hp hs]
      have : n / s < 2 ^ k := by
        apply Int.ediv_lt_of_lt_mul (by omega)
        have e : (2 : Int) ^ (k + 1) = 2 ^ k * 2 := Int.pow_succ 2 k
        have p : (0 : Int) < 2 ^ k := Int.pow_pos (by decide)
        have : (2 : Int) ^ k * 2 ≤ 2 ^ k * s := Int.mul_le_mul_of_nonneg_left hs (by omega)
        omega
      have := ih _ this
      simpa using this
    · rw [digs_zero (by omega)]; exact Nat.zero_le _
theorem digs_tail {s n : Int} (hs : 2 ≤ s) (h : 0 ≤ n) : (digs s n).drop 1 = digs s (n / s) := by
  by_cases hp : 0 < n
  · rw [digs_pos hp hs]; rfl
  · have : n = 0 := by omega
    subst this
    rw [digs_zero (Int.le_refl _), Int.zero_ediv, digs_zero (Int.le_refl _)]; rfl
theorem digs_head {s n : Int} (hs : 2 ≤ s) (h : 0 ≤ n) : (digs s n).getD 0 0 = n % s := by
  by_cases hp : 0 < n
  · rw [digs_pos hp hs]; rfl
  · have : n = 0 := by omega
    subst this
    rw [digs_zero (Int.le_refl _), Int.zero_emod]; rfl
/-- a row that does not end with a nought -/
theorem digs_of {s : Int} (hs : 2 ≤ s) : ∀ (l : List Int), Dig s l → l ≠ [] → l.getLast? ≠ some 0 → 0 < numb s l ∧ digs s (numb s l) = l
  | [], _, h, _ => absurd rfl h
  | [x], hd, _, hl => by
    have h1 := hd x List.mem_cons_self
    have hx : x ≠ 0 := fun z => hl (by rw [z]; rfl)
    have e : numb s [x] = x := by show x + s * 0 = x; omega
    rw [e]
    refine ⟨by omega, ?_⟩
    rw [digs_pos (by omega) hs, Int.emod_eq_of_lt h1.1 h1.2, Int.ediv_eq_zero_of_lt h1.1 h1.2, digs_zero (Int.le_refl _)]
  | x :: y :: r, hd, _, hl => by
    have h1 := hd x List.mem_cons_self
    obtain ⟨p, ih⟩ := digs_of hs (y :: r) (fun z hz => hd z (List.mem_cons_of_mem _ hz)) (by simp) (by rw [List.getLast?_cons_cons] at hl; exact hl)
    have e : numb s (x :: y :: r) = x + s * numb s (y :: r) := rfl
    generalize numb s (y :: r) = m at *
    have pm : 0 < s * m := Int.mul_pos (by omega) p
    rw [e]
    refine ⟨by omega, ?_⟩
    rw [digs_pos (by omega) hs, Int.add_mul_emod_self_left, Int.emod_eq_of_lt h1.1 h1.2, Int.add_mul_ediv_left _ _ (by omega), Int.ediv_eq_zero_of_lt h1.1 h1.2, Int.zero_add, ih]
theorem numb_zero (s : Int) : ∀ (l : List Int), numb s (l ++ [0]) = numb s l
  | [] => by show 0 + s * 0 = 0; omega
  | x :: r => by show x + s * numb s (r ++ [0]) = x + s * numb s r; rw [numb_zero s r]
theorem digs_trim {s : Int} (hs : 2 ≤ s) (l : List Int) (hd : Dig s l) : ∀ n, n ≤ l.length → digs s (numb s (l.take n)) = l.take (trimN l n)
  | 0, _ => by
    show digs s (numb s []) = []
    exact digs_zero (Int.le_refl _)
  | n + 1, h => by
    have ih := digs_trim hs l hd n (by omega)
    have e1 : l[n]? = some l[n] := List.getElem?_eq_getElem (by omega)
    have gd : l.getD n 0 = l[n] := by simp [List.getD, e1]
    have et : l.take (n + 1) = l.take n ++ [l[n]] := by rw [List.take_add_one, e1]; rfl
    unfold trimN
    rw [gd]
    by_cases hz : l[n] = 0
    · rw [if_pos hz, et, hz, numb_zero]
      exact ih
    · rw [if_neg hz]
      refine (digs_of hs _ (fun x hx => hd x (List.mem_of_mem_take hx)) ?_ ?_).2
      · rw [et]; intro z; exact absurd (congrArg List.length z) (by rw [List.length_append]; simp)
      · rw [et, List.getLast?_concat]; intro z; exact hz (Option.some.inj z)
theorem digs_trim' {s : Int} (hs : 2 ≤ s) (l : List Int) (hd : Dig s l) : digs s (numb s l) = l.take (trimN l l.length) := by
  have := digs_trim hs l hd l.length (Nat.le_refl _)
  rwa [List.take_length] at this
/-! machines -/
abbrev Rl := Option (Int × Int × Int)
def rlD : Rl → D
  | none => .non
  | some (w, y, q) => .tup [.int w, .int y, .int q]
def GoodR (r s : Int) : Rl → Prop
  | none => True
  | some (w, y, q) => (0 ≤ w ∧ w < s) ∧ (y = 0 ∨ y = 1) ∧ 0 ≤ q ∧ q < r
def mD (r s : Int) (rs : List Rl) : D := .tup [.int r, .int s, .tup (rs.map rlD)]
structure GoodM (r s : Int) (rs : List Rl) : Prop where
  r1 : 1 ≤ r
  r2 : r ≤ 6
  s1 : 2 ≤ s
  s2 : s ≤ 4
  len : rs.length = (r * s).toNat
  all : ∀ x ∈ rs, GoodR r s x
theorem rs_bound {r s : Int} (h1 : 1 ≤ r) (h2 : r ≤ 6) (h3 : 2 ≤ s) (h4 : s ≤ 4) : 0 ≤ r * s ∧ r * s ≤ 24 := by
  have e : r = 1 ∨ r = 2 ∨ r = 3 ∨ r = 4 ∨ r = 5 ∨ r = 6 := by omega
  rcases e with rfl | rfl | rfl | rfl | rfl | rfl <;> omega
theorem e_machine (ns : List Int) (start r s : Int) (h0 : 0 ≤ start) (h1 : 1 ≤ r) (h2 : r ≤ 6) (h3 : 2 ≤ s) (h4 : s ≤ 4) :
    ∃ rs, GoodM r s rs ∧ F_law_machine [.l .bor (ns.map .int), .d (.int start), .d (.int r), .d (.int s)] = some (.d (mD r s rs)) := by
  have rb := rs_bound h1 h2 h3 h4
  have q := fo_inv (i := 5) (b := L1_law_machine) (ds := (List.range (r * s).toNat).map fun (k : Nat) => D.int (k : Int)) (δ := [sc ns, some (.d (.int start)), some (.d (.int r)), some (.d (.int s)), some (.l .own []), none, none])
    (fun k δ => ∃ (rs : List Rl) (l1 l2 : Option R), rs.length = k ∧ (∀ x ∈ rs, GoodR r s x) ∧ δ = [sc ns, some (.d (.int start)), some (.d (.int r)), some (.d (.int s)), some (.l .own (rs.map rlD)), l1, l2]) ⟨[], none, none, rfl, (fun x hx => by cases hx), rfl⟩ ?_
  · obtain ⟨δ', e1, rs, l1, l2, hl, ha, rfl⟩ := q
    refine ⟨rs, ⟨h1, h2, h3, h4, by simpa using hl, ha⟩, ?_⟩
    have z1 : (-1000000 : Int) ≤ r * s := by omega
    have z2 : r * s ≤ 1000000 := by omega
    have m : (-(2 ^ 64) < r ∧ r < 2 ^ 64) ∨ (-(2 ^ 64) < s ∧ s < 2 ^ 64) := .inl (by omega)
    unfold sc at e1
    unfold F_law_machine B_law_machine L2_law_machine mD
    have m' : (-18446744073709551616 < r ∧ r < 18446744073709551616) ∨ (-18446744073709551616 < s ∧ s < 18446744073709551616) := .inl (by omega)
    simp [dVar, dC, d1, d2, gI, kSub, kMul, kDiv, kMod, kPow, kLt, kLe, kGt, kGe, eqK, gEq, gNe, isN, gIsN, gNotN, gNeg, dCh, qB, qAnd, qOr, qNot, qYes, dAnd, dOr, dNot, dIf, gIx, oI, dSl, aNil, aCons, plainD, dTup, dLst, gAdd, R.arg, dCall, gLen, gTuple, gList, gMax, gMin, isT, gIs, dB, see, keepR, sSet, retR, sRet, sRetV, sRetN, sNx, sBrk, sCont, sSeq, sIf, sEx, sApp, sPut, g2N, gAllL, fn, Fl.mine, at0, at1, at2, at3, sExt, gIsL, gInt, dFu, dCallV, gIn, gNotIn, gIdx, gSum, sFor, iTo, z1, z2, m', e1]
  · rintro k δ d hd ⟨rs, l1, l2, hl, ha, rfl⟩
    obtain ⟨hk, rfl⟩ := range_at hd
    have e1 := e_pick ns (start + k) (by omega)
    have e2 := e_mix (pickZ ns (start + k)) k
    have hz : rs.length < 10000 := by omega
    have s0 : 0 < s := by omega
    have r0 : 0 < r := by omega
    generalize mixZ (pickZ ns (start + k)) k = m at *
    by_cases hm : m % 5 = 0
    · refine ⟨_, ?_, rs ++ [none], some (.d (.int k)), some (.d (.int m)), by simp [hl], ?_, rfl⟩
      · unfold L1_law_machine
        simp [dVar, dC, d1, d2, gI, kSub, kMul, kDiv, kMod, kPow, kLt, kLe, kGt, kGe, eqK, gEq, gNe, isN, gIsN, gNotN, gNeg, dCh, qB, qAnd, qOr, qNot, qYes, dAnd, dOr, dNot, dIf, gIx, oI, dSl, aNil, aCons, plainD, dTup, dLst, gAdd, R.arg, dCall, gLen, gTuple, gList, gMax, gMin, isT, gIs, dB, see, keepR, sSet, retR, sRet, sRetV, sRetN, sNx, sBrk, sCont, sSeq, sIf, sEx, sApp, sPut, g2N, gAllL, fn, Fl.mine, at0, at1, at2, at3, sExt, gIsL, gInt, dFu, dCallV, gIn, gNotIn, gIdx, gSum, sc, e1, e2, hm, hz, rlD]
      · intro x hx
        rcases List.mem_append.mp hx with hx | hx
        · exact ha x hx
        · simp at hx; subst hx; trivial
    · refine ⟨_, ?_, rs ++ [some (m / 5 % s, m / 64 % 2, m / 512 % r)], some (.d (.int k)), some (.d (.int m)), by simp [hl], ?_, rfl⟩
      · unfold L1_law_machine
        simp [dVar, dC, d1, d2, gI, kSub, kMul, kDiv, kMod, kPow, kLt, kLe, kGt, kGe, eqK, gEq, gNe, isN, gIsN, gNotN, gNeg, dCh, qB, qAnd, qOr, qNot, qYes, dAnd, dOr, dNot, dIf, gIx, oI, dSl, aNil, aCons, plainD, dTup, dLst, gAdd, R.arg, dCall, gLen, gTuple, gList, gMax, gMin, isT, gIs, dB, see, keepR, sSet, retR, sRet, sRetV, sRetN, sNx, sBrk, sCont, sSeq, sIf, sEx, sApp, sPut, g2N, gAllL, fn, Fl.mine, at0, at1, at2, at3, sExt, gIsL, gInt, dFu, dCallV, gIn, gNotIn, gIdx, gSum, sc, e1, e2, hm, hz, rlD, s0, r0]
      · intro x hx
        rcases List.mem_append.mp hx with hx | hx
        · exact ha x hx
        · simp at hx; subst hx
          have b1 := emod_lt (m / 5) s s0
          have b2 := emod_lt (m / 64) 2 (by omega)
          have b3 := emod_lt (m / 512) r r0
          exact ⟨b1, by omega, b3⟩
theorem sSeq_nx {a b : DSn} {δ δ' : Ev} {o : Option O} (h1 : a δ = some (.nx δ')) (h2 : b δ' = o) : sSeq a b δ = o := by
  unfold sSeq
  rw [h1]
  exact h2
theorem fn_rt {n N : Nat} {body : DSn} {rs : List R} {r : R} (hl : rs.length = n) (h : body (rs.map some ++ List.replicate (N - n) none) = some (.rt r)) : fn n N body rs = some r := by
  unfold fn
  rw [if_pos hl, h]
  rfl
theorem dep_up : ∀ (n : Nat) (d : D), dep n d → dep (n + 1) d
  | 0, d, h => by
    cases d with
    | tup ds => exact h.elim
    | non => exact True.intro
    | int _ => exact True.intro
    | str _ => exact True.intro
    | bl _ => exact h.elim
    | fu _ => exact h.elim
  | n + 1, d, h => by
    cases d with
    | tup ds => exact ⟨h.1, fun x hx => dep_up n x (h.2 x hx)⟩
    | non => exact True.intro
    | int _ => exact True.intro
    | str _ => exact True.intro
    | bl _ => exact h.elim
    | fu _ => exact h.elim
theorem sIf_f {t : DTn} {a b : DSn} {δ : Ev} {o : Option O} (h : t δ = some false) (h2 : b δ = o) : sIf t a b δ = o := by
  unfold sIf
  rw [h]
  exact h2
theorem sIf_t {t : DTn} {a b : DSn} {δ : Ev} {o : Option O} (h : t δ = some true) (h2 : a δ = o) : sIf t a b δ = o := by
  unfold sIf
  rw [h]
  exact h2
theorem sSeq_rt {a b : DSn} {δ : Ev} {r : R} (h1 : a δ = some (.rt r)) : sSeq a b δ = some (.rt r) := by
  unfold sSeq
  rw [h1]
  rfl
/-! texts: words and figures -/
def dg (n : Int) : Str := Str.ofString (toString n)
def wd : Rl → Str
  | none => Str.ofString "-"
  | some (w, y, q) => dg w ++ (if y = 0 then Str.ofString "<" else Str.ofString ">") ++ dg q
def chkS (x : Option R) (y : Str) : Bool := match x with
  | some (.d (.str z)) => z == y
  | _ => false
theorem chkS_eq {x : Option R} {y : Str} (h : chkS x y = true) : x = some (.d (.str y)) := by
  unfold chkS at h
  split at h
  · rw [beq_iff_eq] at h; rw [h]
  · cases h
def chkI (x : Option R) (y : Int) : Bool := match x with
  | some (.d (.int z)) => z == y
  | _ => false
theorem chkI_eq {x : Option R} {y : Int} (h : chkI x y = true) : x = some (.d (.int y)) := by
  unfold chkI at h
  split at h
  · rw [beq_iff_eq] at h; rw [h]
  · cases h
def chkR (x : Option R) (a b c : Int) : Bool := match x with
  | some (.d (.tup [.int i, .int j, .int k])) => i == a && j == b && k == c
  | _ => false
theorem chkR_eq {x : Option R} {a b c : Int} (h : chkR x a b c = true) : x = some (.d (.tup [.int a, .int b, .int c])) := by
  unfold chkR at h
  split at h
  · simp only [Bool.and_eq_true, beq_iff_eq] at h
    obtain ⟨⟨rfl, rfl⟩, rfl⟩ := h
    rfl
  · cases h
/-- blank-free and short -/
def neat (x : Str) : Bool := decide (x.length ≤ 3) && !x.cps.toList.contains 32
theorem neat_len {x : Str} (h : neat x = true) : x.length ≤ 3 := by
  unfold neat at h
  rw [Bool.and_eq_true] at h
  exact of_decide_eq_true h.1
theorem neat_free {x : Str} (h : neat x = true) : 32 ∉ x.cps.toList := by
  unfold neat at h
  rw [Bool.and_eq_true] at h
  intro hc
  have : x.cps.toList.contains 32 = true := List.contains_iff_mem.mpr hc
  rw [this] at h
  cases h.2
theorem str_ext {a b : Str} (h : a.cps.toList = b.cps.toList) : a = b := by
  cases a; cases b
  congr 1
  exact Array.toList_inj.mp h
theorem app_cps (a b : Str) : (a ++ b).cps.toList = a.cps.toList ++ b.cps.toList := by
  show (a.cps ++ b.cps).toList = _
  simp
theorem str_len (a : Str) : a.length = a.cps.toList.length := by
  show a.cps.size = _
  simp
theorem len_app (a b : Str) : (a ++ b).length = a.length + b.length := by
  rw [str_len, app_cps, List.length_append, ← str_len, ← str_len]
theorem app_assoc (a b c : Str) : a ++ b ++ c = a ++ (b ++ c) := by
  apply str_ext
  simp only [app_cps, List.append_assoc]
theorem empty_add (a : Str) : Str.empty ++ a = a := by
  apply str_ext
  rw [app_cps]
  rfl
/-- the texts one behind the other, parted by a blank -/
theorem join_cons (sep a : Str) : ∀ (l : List Str), l ≠ [] → Str.join sep (a :: l) = a ++ sep ++ Str.join sep l
  | [], h => absurd rfl h
  | b :: r, _ => rfl
theorem join_snoc (sep : Str) : ∀ (l : List Str) (b : Str), l ≠ [] → Str.join sep (l ++ [b]) = Str.join sep l ++ sep ++ b
  | [], b, h => absurd rfl h
  | [a], b, _ => rfl
  | a :: c :: r, b, _ => by
    have ih := join_snoc sep (c :: r) b (by simp)
    rw [List.cons_append, join_cons sep a _ (by simp), ih, join_cons sep a _ (by simp)]
    simp only [app_assoc]
theorem join_merge (sep a b : Str) (l : List Str) : Str.join sep ((a ++ sep ++ b) :: l) = Str.join sep (a :: b :: l) := by
  cases l with
  | nil => rfl
  | cons c r =>
    rw [join_cons sep _ _ (by simp), join_cons sep a _ (by simp), join_cons sep b _ (by simp)]
    simp only [app_assoc]
theorem free_cut {c : Nat} : ∀ {a b : List Nat} {x y : List Nat}, c ∉ a → c ∉ b → a ++ c :: x = b ++ c :: y → a = b ∧ x = y
  | [], [], x, y, _, _, h => by
    cases h
    exact ⟨rfl, rfl⟩
  | [], d :: b, x, y, _, hb, h => by
    rw [List.nil_append, List.cons_append] at h
    injection h with h1 h2
    exact absurd (h1 ▸ List.mem_cons_self) hb
  | d :: a, [], x, y, ha, _, h => by
    rw [List.nil_append, List.cons_append] at h
    injection h with h1 h2
    exact absurd (h1 ▸ List.mem_cons_self) ha
  | d :: a, e :: b, x, y, ha, hb, h => by
    rw [List.cons_append, List.cons_append] at h
    injection h with h1 h2
    obtain ⟨h3, h4⟩ := free_cut (fun z => ha (List.mem_cons_of_mem _ z)) (fun z => hb (List.mem_cons_of_mem _ z)) h2
    exact ⟨by rw [h1, h3], h4⟩
theorem join_inj : ∀ {l m : List Str}, l ≠ [] → m ≠ [] → (∀ x ∈ l, 32 ∉ x.cps.toList) → (∀ x ∈ m, 32 ∉ x.cps.toList) → Str.join ⟨#[32]⟩ l = Str.join ⟨#[32]⟩ m → l = m
  | [], _, h, _, _, _, _ => absurd rfl h
  | _, [], _, h, _, _, _ => absurd rfl h
  | [a], [b], _, _, _, _, h => by rw [show a = b from h]
  | [a], b :: c :: r, _, _, ha, _, h => by
    rw [join_cons _ b _ (by simp)] at h
    have h2 : a.cps.toList = b.cps.toList ++ [32] ++ (Str.join ⟨#[32]⟩ (c :: r)).cps.toList := by
      have := congrArg (fun x : Str => x.cps.toList) h
      simp only [app_cps] at this
      exact this
    exact absurd (by rw [h2]; simp) (ha a List.mem_cons_self)
  | a :: c :: r, [b], _, _, _, hb, h => by
    rw [join_cons _ a _ (by simp)] at h
    have h2 : b.cps.toList = a.cps.toList ++ [32] ++ (Str.join ⟨#[32]⟩ (c :: r)).cps.toList := by
      have := congrArg (fun x : Str => x.cps.toList) h.symm
      simp only [app_cps] at this
      exact this
    exact absurd (by rw [h2]; simp) (hb b List.mem_cons_self)
  | a :: c :: r, b :: d :: q, _, _, ha, hb, h => by
    rw [join_cons _ a _ (by simp), join_cons _ b _ (by simp)] at h
    have h2 : a.cps.toList ++ 32 :: (Str.join ⟨#[32]⟩ (c :: r)).cps.toList = b.cps.toList ++ 32 :: (Str.join ⟨#[32]⟩ (d :: q)).cps.toList := by
      have := congrArg (fun x : Str => x.cps.toList) h
      simp only [app_cps, List.append_assoc] at this
      exact this
    obtain ⟨h3, h4⟩ := free_cut (ha a List.mem_cons_self) (hb b List.mem_cons_self) h2
    have h5 := join_inj (l := c :: r) (m := d :: q) (by simp) (by simp) (fun x hx => ha x (List.mem_cons_of_mem _ hx)) (fun x hx => hb x (List.mem_cons_of_mem _ hx)) (str_ext h4)
    rw [str_ext h3, h5]
theorem blank_eq : (Str.ofString " " : Str) = ⟨#[32]⟩ := by decide +kernel
theorem split_join {l : List Str} (h : l ≠ []) (hf : ∀ x ∈ l, 32 ∉ x.cps.toList) : Txt.split (Str.join (Str.ofString " ") l) (Str.ofString " ") = l := by
  rw [blank_eq]
  refine join_inj ?_ h (StrLaws.split_free _ 32) hf (StrLaws.join_split _ _)
  have := PyProof.Rows.split_pos (Str.join ⟨#[32]⟩ l) ⟨#[32]⟩
  intro z
  rw [z] at this
  simp at this
/-! looked, at a good machine -/
theorem e_lookAt {r s : Int} {w y q : Int} (h : GoodR r s (some (w, y, q))) : F_look_at_rule [.d (.int r), .d (.int s), .d (rlD (some (w, y, q)))] = some (.d .non) := by
  obtain ⟨⟨h1, h2⟩, h3, h4, h5⟩ := h
  have h6 : 0 ≤ y := by omega
  have h7 : y ≤ 1 := by omega
  unfold F_look_at_rule B_look_at_rule rlD
  simp [dVar, dC, d1, d2, gI, kSub, kMul, kDiv, kMod, kPow, kLt, kLe, kGt, kGe, eqK, gEq, gNe, isN, gIsN, gNotN, gNeg, dCh, qB, qAnd, qOr, qNot, qYes, dAnd, dOr, dNot, dIf, gIx, oI, dSl, aNil, aCons, plainD, dTup, dLst, gAdd, R.arg, dCall, gLen, gTuple, gList, gMax, gMin, isT, gIs, dB, see, keepR, sSet, retR, sRet, sRetV, sRetN, sNx, sBrk, sCont, sSeq, sIf, sEx, sApp, sPut, g2N, gAllL, fn, Fl.mine, at0, at1, at2, at3, sExt, gIsL, gInt, dFu, dCallV, gIn, gNotIn, gIdx, gSum, h1, h2, h4, h5, h6, h7]
theorem cp_told : ∀ (rs : List Rl), cpGo (qB (d2 (g2N gNotN) (dVar 0) (dC .non))) (dVar 0) [] (rs.map rlD) = some ((rs.filter Option.isSome).map rlD)
  | [] => rfl
  | none :: r => by
    have ih := cp_told r
    rw [List.map_cons]
    unfold cpGo
    simp [dVar, dC, d1, d2, gI, kSub, kMul, kDiv, kMod, kPow, kLt, kLe, kGt, kGe, eqK, gEq, gNe, isN, gIsN, gNotN, gNeg, dCh, qB, qAnd, qOr, qNot, qYes, dAnd, dOr, dNot, dIf, gIx, oI, dSl, aNil, aCons, plainD, dTup, dLst, gAdd, R.arg, dCall, gLen, gTuple, gList, gMax, gMin, isT, gIs, dB, see, keepR, sSet, retR, sRet, sRetV, sRetN, sNx, sBrk, sCont, sSeq, sIf, sEx, sApp, sPut, g2N, gAllL, fn, Fl.mine, at0, at1, at2, at3, sExt, gIsL, gInt, dFu, dCallV, gIn, gNotIn, gIdx, gSum, rlD, ih]
  | some (w, y, q) :: r => by
    have ih := cp_told r
    rw [List.map_cons]
    unfold cpGo
    simp [dVar, dC, d1, d2, gI, kSub, kMul, kDiv, kMod, kPow, kLt, kLe, kGt, kGe, eqK, gEq, gNe, isN, gIsN, gNotN, gNeg, dCh, qB, qAnd, qOr, qNot, qYes, dAnd, dOr, dNot, dIf, gIx, oI, dSl, aNil, aCons, plainD, dTup, dLst, gAdd, R.arg, dCall, gLen, gTuple, gList, gMax, gMin, isT, gIs, dB, see, keepR, sSet, retR, sRet, sRetV, sRetN, sNx, sBrk, sCont, sSeq, sIf, sEx, sApp, sPut, g2N, gAllL, fn, Fl.mine, at0, at1, at2, at3, sExt, gIsL, gInt, dFu, dCallV, gIn, gNotIn, gIdx, gSum, rlD, ih]
theorem e_looked {r s : Int} {rs : List Rl} (g : GoodM r s rs) : F_looked [.d (mD r s rs)] = some (.d (.int ((rs.filter Option.isSome).length : Int))) := by
  have r1 := g.r1
  have r2 := g.r2
  have s1 := g.s1
  have s2 := g.s2
  have rb := rs_bound r1 r2 s1 s2
  have hl : (rs.length : Int) = r * s := by rw [g.len]; omega
  have q := fo_inv (i := 5) (b := sEx (dCall F_look_at_rule (aCons (dVar 1) (aCons (dVar 2) (aCons (dVar 5) aNil))))) (ds := (rs.filter Option.isSome).map rlD) (δ := [some (.d (mD r s rs)), some (.d (.int r)), some (.d (.int s)), some (.d (.tup (rs.map rlD))), some (.l .bor ((rs.filter Option.isSome).map rlD)), none])
    (fun k δ => ∃ l5, δ = [some (.d (mD r s rs)), some (.d (.int r)), some (.d (.int s)), some (.d (.tup (rs.map rlD))), some (.l .bor ((rs.filter Option.isSome).map rlD)), l5]) ⟨none, rfl⟩ ?_
  · obtain ⟨δ', e1, l5, rfl⟩ := q
    have cp := cp_told rs
    have hz : rs.length ≤ 10000 := by omega
    have m' : (-18446744073709551616 < r ∧ r < 18446744073709551616) ∨ (-18446744073709551616 < s ∧ s < 18446744073709551616) := .inl (by omega)
    refine fn_rt rfl ?_
    show B_looked [some (.d (mD r s rs)), none, none, none, none, none] = _
    unfold mD at e1 ⊢
    have hLl : ((rs.map rlD).length : Int) = r * s := by rw [List.length_map]; exact hl
    generalize rs.map rlD = L at *
    generalize hM : (rs.filter Option.isSome).map rlD = M at *
    have hML : M.length = (rs.filter Option.isSome).length := by rw [← hM, List.length_map]
    unfold B_looked L1_looked
    refine sSeq_nx (δ' := [some (.d (.tup [.int r, .int s, .tup L])), some (.d (.int r)), none, none, none, none]) (by simp [dVar, dC, d1, d2, gI, kSub, kMul, kDiv, kMod, kPow, kLt, kLe, kGt, kGe, eqK, gEq, gNe, isN, gIsN, gNotN, gNeg, dCh, qB, qAnd, qOr, qNot, qYes, dAnd, dOr, dNot, dIf, gIx, oI, dSl, aNil, aCons, plainD, dTup, dLst, gAdd, R.arg, dCall, gLen, gTuple, gList, gMax, gMin, isT, gIs, dB, see, keepR, sSet, retR, sRet, sRetV, sRetN, sNx, sBrk, sCont, sSeq, sIf, sEx, sApp, sPut, g2N, gAllL, fn, Fl.mine, at0, at1, at2, at3, sExt, gIsL, gInt, dFu, dCallV, gIn, gNotIn, gIdx, gSum]) ?_
    refine sSeq_nx (δ' := [some (.d (.tup [.int r, .int s, .tup L])), some (.d (.int r)), some (.d (.int s)), none, none, none]) (by simp [dVar, dC, d1, d2, gI, kSub, kMul, kDiv, kMod, kPow, kLt, kLe, kGt, kGe, eqK, gEq, gNe, isN, gIsN, gNotN, gNeg, dCh, qB, qAnd, qOr, qNot, qYes, dAnd, dOr, dNot, dIf, gIx, oI, dSl, aNil, aCons, plainD, dTup, dLst, gAdd, R.arg, dCall, gLen, gTuple, gList, gMax, gMin, isT, gIs, dB, see, keepR, sSet, retR, sRet, sRetV, sRetN, sNx, sBrk, sCont, sSeq, sIf, sEx, sApp, sPut, g2N, gAllL, fn, Fl.mine, at0, at1, at2, at3, sExt, gIsL, gInt, dFu, dCallV, gIn, gNotIn, gIdx, gSum]) ?_
    refine sSeq_nx (δ' := [some (.d (.tup [.int r, .int s, .tup L])), some (.d (.int r)), some (.d (.int s)), some (.d (.tup L)), none, none]) (by simp [dVar, dC, d1, d2, gI, kSub, kMul, kDiv, kMod, kPow, kLt, kLe, kGt, kGe, eqK, gEq, gNe, isN, gIsN, gNotN, gNeg, dCh, qB, qAnd, qOr, qNot, qYes, dAnd, dOr, dNot, dIf, gIx, oI, dSl, aNil, aCons, plainD, dTup, dLst, gAdd, R.arg, dCall, gLen, gTuple, gList, gMax, gMin, isT, gIs, dB, see, keepR, sSet, retR, sRet, sRetV, sRetN, sNx, sBrk, sCont, sSeq, sIf, sEx, sApp, sPut, g2N, gAllL, fn, Fl.mine, at0, at1, at2, at3, sExt, gIsL, gInt, dFu, dCallV, gIn, gNotIn, gIdx, gSum]) ?_
    refine sSeq_nx (δ' := [some (.d (.tup [.int r, .int s, .tup L])), some (.d (.int r)), some (.d (.int s)), some (.d (.tup L)), none, none]) (by simp [dVar, dC, d1, d2, gI, kSub, kMul, kDiv, kMod, kPow, kLt, kLe, kGt, kGe, eqK, gEq, gNe, isN, gIsN, gNotN, gNeg, dCh, qB, qAnd, qOr, qNot, qYes, dAnd, dOr, dNot, dIf, gIx, oI, dSl, aNil, aCons, plainD, dTup, dLst, gAdd, R.arg, dCall, gLen, gTuple, gList, gMax, gMin, isT, gIs, dB, see, keepR, sSet, retR, sRet, sRetV, sRetN, sNx, sBrk, sCont, sSeq, sIf, sEx, sApp, sPut, g2N, gAllL, fn, Fl.mine, at0, at1, at2, at3, sExt, gIsL, gInt, dFu, dCallV, gIn, gNotIn, gIdx, gSum, r1, r2]) ?_
    refine sSeq_nx (δ' := [some (.d (.tup [.int r, .int s, .tup L])), some (.d (.int r)), some (.d (.int s)), some (.d (.tup L)), none, none]) (by simp [dVar, dC, d1, d2, gI, kSub, kMul, kDiv, kMod, kPow, kLt, kLe, kGt, kGe, eqK, gEq, gNe, isN, gIsN, gNotN, gNeg, dCh, qB, qAnd, qOr, qNot, qYes, dAnd, dOr, dNot, dIf, gIx, oI, dSl, aNil, aCons, plainD, dTup, dLst, gAdd, R.arg, dCall, gLen, gTuple, gList, gMax, gMin, isT, gIs, dB, see, keepR, sSet, retR, sRet, sRetV, sRetN, sNx, sBrk, sCont, sSeq, sIf, sEx, sApp, sPut, g2N, gAllL, fn, Fl.mine, at0, at1, at2, at3, sExt, gIsL, gInt, dFu, dCallV, gIn, gNotIn, gIdx, gSum, s1, s2]) ?_
    refine sSeq_nx (δ' := [some (.d (.tup [.int r, .int s, .tup L])), some (.d (.int r)), some (.d (.int s)), some (.d (.tup L)), none, none]) (by simp [dVar, dC, d1, d2, gI, kSub, kMul, kDiv, kMod, kPow, kLt, kLe, kGt, kGe, eqK, gEq, gNe, isN, gIsN, gNotN, gNeg, dCh, qB, qAnd, qOr, qNot, qYes, dAnd, dOr, dNot, dIf, gIx, oI, dSl, aNil, aCons, plainD, dTup, dLst, gAdd, R.arg, dCall, gLen, gTuple, gList, gMax, gMin, isT, gIs, dB, see, keepR, sSet, retR, sRet, sRetV, sRetN, sNx, sBrk, sCont, sSeq, sIf, sEx, sApp, sPut, g2N, gAllL, fn, Fl.mine, at0, at1, at2, at3, sExt, gIsL, gInt, dFu, dCallV, gIn, gNotIn, gIdx, gSum, m', hLl]) ?_
    refine sSeq_nx (δ' := [some (.d (.tup [.int r, .int s, .tup L])), some (.d (.int r)), some (.d (.int s)), some (.d (.tup L)), some (.l .own M), none]) (by
      have hz : L.length ≤ 10000 := by omega
      simp [dVar, dC, d1, d2, gI, kSub, kMul, kDiv, kMod, kPow, kLt, kLe, kGt, kGe, eqK, gEq, gNe, isN, gIsN, gNotN, gNeg, dCh, qB, qAnd, qOr, qNot, qYes, dAnd, dOr, dNot, dIf, gIx, oI, dSl, aNil, aCons, plainD, dTup, dLst, gAdd, R.arg, dCall, gLen, gTuple, gList, gMax, gMin, isT, gIs, dB, see, keepR, sSet, retR, sRet, sRetV, sRetN, sNx, sBrk, sCont, sSeq, sIf, sEx, sApp, sPut, g2N, gAllL, fn, Fl.mine, at0, at1, at2, at3, sExt, gIsL, gInt, dFu, dCallV, gIn, gNotIn, gIdx, gSum, dComp, iAny, capsOf, hz] at cp ⊢
      simp [cp]) ?_
    refine sSeq_nx (δ' := [some (.d (.tup [.int r, .int s, .tup L])), some (.d (.int r)), some (.d (.int s)), some (.d (.tup L)), some (.l .bor M), l5]) ?_ ?_
    · unfold sForV
      simpa using e1
    · simp [dVar, dC, d1, d2, gI, kSub, kMul, kDiv, kMod, kPow, kLt, kLe, kGt, kGe, eqK, gEq, gNe, isN, gIsN, gNotN, gNeg, dCh, qB, qAnd, qOr, qNot, qYes, dAnd, dOr, dNot, dIf, gIx, oI, dSl, aNil, aCons, plainD, dTup, dLst, gAdd, R.arg, dCall, gLen, gTuple, gList, gMax, gMin, isT, gIs, dB, see, keepR, sSet, retR, sRet, sRetV, sRetN, sNx, sBrk, sCont, sSeq, sIf, sEx, sApp, sPut, g2N, gAllL, fn, Fl.mine, at0, at1, at2, at3, sExt, gIsL, gInt, dFu, dCallV, gIn, gNotIn, gIdx, gSum, hML]
  · rintro k δ d hd ⟨l5, rfl⟩
    rw [List.getElem?_map] at hd
    obtain ⟨x, hx, rfl⟩ := Option.map_eq_some_iff.mp hd
    have hm := List.mem_filter.mp (List.mem_of_getElem? hx)
    cases x with
    | none => exact absurd hm.2 (by simp)
    | some t =>
      obtain ⟨w, y, q⟩ := t
      have e := e_lookAt (g.all _ hm.1)
      refine ⟨_, ?_, some (.d (rlD (some (w, y, q)))), rfl⟩
      have aux : ∀ (m L d : D) (M : List D) (l5 : Option R), F_look_at_rule [.d (.int r), .d (.int s), .d d] = some (.d .non) → sEx (dCall F_look_at_rule (aCons (dVar 1) (aCons (dVar 2) (aCons (dVar 5) aNil)))) ([some (.d m), some (.d (.int r)), some (.d (.int s)), some (.d L), some (.l .bor M), l5].set 5 (some (.d d))) = some (.nx [some (.d m), some (.d (.int r)), some (.d (.int s)), some (.d L), some (.l .bor M), some (.d d)]) := by
        intro m L d M l5 h
        simp [dVar, dC, d1, d2, gI, kSub, kMul, kDiv, kMod, kPow, kLt, kLe, kGt, kGe, eqK, gEq, gNe, isN, gIsN, gNotN, gNeg, dCh, qB, qAnd, qOr, qNot, qYes, dAnd, dOr, dNot, dIf, gIx, oI, dSl, aNil, aCons, plainD, dTup, dLst, gAdd, R.arg, dCall, gLen, gTuple, gList, gMax, gMin, isT, gIs, dB, see, keepR, sSet, retR, sRet, sRetV, sRetN, sNx, sBrk, sCont, sSeq, sIf, sEx, sApp, sPut, g2N, gAllL, fn, Fl.mine, at0, at1, at2, at3, sExt, gIsL, gInt, dFu, dCallV, gIn, gNotIn, gIdx, gSum, h]
      exact aux _ _ _ _ _ e
theorem sh_none : chkS (F_shown_rule [.d .non]) (wd none) = true := by decide +kernel
theorem sh_some : ∀ w : Fin 4, ∀ y : Fin 2, ∀ q : Fin 6, chkS (F_shown_rule [.d (.tup [.int (w.val : Int), .int (y.val : Int), .int (q.val : Int)])]) (wd (some ((w.val : Int), (y.val : Int), (q.val : Int)))) = true := by decide +kernel
theorem ro_none : (match F_rule_of [.d (.str (wd none))] with | some (.d .non) => true | _ => false) = true := by decide +kernel
theorem ro_some : ∀ w : Fin 4, ∀ y : Fin 2, ∀ q : Fin 6, chkR (F_rule_of [.d (.str (wd (some ((w.val : Int), (y.val : Int), (q.val : Int)))))]) (w.val : Int) (y.val : Int) (q.val : Int) = true := by decide +kernel
theorem nt_none : neat (wd none) = true := by decide +kernel
theorem nt_some : ∀ w : Fin 4, ∀ y : Fin 2, ∀ q : Fin 6, neat (wd (some ((w.val : Int), (y.val : Int), (q.val : Int)))) = true := by decide +kernel
theorem fg : ∀ n : Fin 10, chkI (F_figure [.d (.str (dg (n.val : Int)))]) (n.val : Int) = true := by decide +kernel
theorem dg_neat : ∀ n : Fin 10, neat (dg (n.val : Int)) = true := by decide +kernel
theorem dg_len : ∀ n : Fin 10, (dg (n.val : Int)).length = 1 := by decide +kernel
def hd2 (s : Int) : Str := dg s ++ Str.ofString ":"
theorem hd_neat : ∀ n : Fin 10, neat (hd2 (n.val : Int)) = true := by decide +kernel
theorem hd_end : ∀ n : Fin 10, Txt.endswith (hd2 (n.val : Int)) (Str.ofString ":") = true := by decide +kernel
theorem hd_cut : ∀ n : Fin 10, Txt.slice (hd2 (n.val : Int)) none (some (-1)) = dg (n.val : Int) := by decide +kernel
theorem fin_of {n : Int} {m : Nat} (h0 : 0 ≤ n) (h1 : n < m) : ∃ k : Fin m, n = (k.val : Int) := ⟨⟨n.toNat, by omega⟩, by show n = ((n.toNat : Nat) : Int); omega⟩
theorem rule_cases {r s : Int} {x : Rl} (r6 : r ≤ 6) (s4 : s ≤ 4) (g : GoodR r s x) : x = none ∨ ∃ (w : Fin 4) (y : Fin 2) (q : Fin 6), x = some ((w.val : Int), (y.val : Int), (q.val : Int)) := by
  cases x with
  | none => exact .inl rfl
  | some t =>
    obtain ⟨w, y, q⟩ := t
    obtain ⟨h1, h2, h3⟩ := g
    obtain ⟨w', e1⟩ := fin_of (m := 4) h1.1 (by omega)
    obtain ⟨y', e2⟩ := fin_of (n := y) (m := 2) (by omega) (by omega)
    obtain ⟨q', e3⟩ := fin_of (m := 6) h3.1 (by omega)
    exact .inr ⟨w', y', q', by rw [e1, e2, e3]⟩
theorem e_shownR {r s : Int} {x : Rl} (r6 : r ≤ 6) (s4 : s ≤ 4) (g : GoodR r s x) : F_shown_rule [.d (rlD x)] = some (.d (.str (wd x))) := by
  rcases rule_cases r6 s4 g with rfl | ⟨w, y, q, rfl⟩
  · exact chkS_eq sh_none
  · exact chkS_eq (sh_some w y q)
theorem e_ruleOf {r s : Int} {x : Rl} (r6 : r ≤ 6) (s4 : s ≤ 4) (g : GoodR r s x) : F_rule_of [.d (.str (wd x))] = some (.d (rlD x)) := by
  rcases rule_cases r6 s4 g with rfl | ⟨w, y, q, rfl⟩
  · have := ro_none
    split at this
    · assumption
    · cases this
  · exact chkR_eq (ro_some w y q)
theorem wd_neat {r s : Int} {x : Rl} (r6 : r ≤ 6) (s4 : s ≤ 4) (g : GoodR r s x) : neat (wd x) = true := by
  rcases rule_cases r6 s4 g with rfl | ⟨w, y, q, rfl⟩
  · exact nt_none
  · exact nt_some w y q
def due0 (r s : Int) : Str := dg r ++ Str.ofString " " ++ dg s ++ Str.ofString ":"
/-- the text behind so many rules -/
def dueN (r s : Int) (ws : List Str) : Str := Str.join (Str.ofString " ") (due0 r s :: ws)
theorem due_snoc (r s : Int) (ws : List Str) (w : Str) : dueN r s (ws ++ [w]) = dueN r s ws ++ Str.ofString " " ++ w := by
  unfold dueN
  rw [← List.cons_append]
  exact join_snoc _ _ _ (by simp)
theorem due_cut (r s : Int) (ws : List Str) : dueN r s ws = Str.join (Str.ofString " ") (dg r :: hd2 s :: ws) := by
  unfold dueN due0 hd2
  rw [app_assoc, app_assoc, ← app_assoc (dg r)]
  exact join_merge _ _ _ _
theorem strs_map : ∀ l : List Str, strsD (l.map D.str) = some l
  | [] => rfl
  | x :: r => by
    show (strsD (r.map D.str)).map (x :: ·) = _
    rw [strs_map r]
    rfl
theorem gStr_dg {w : Int} (h : w.natAbs.log2 < 1920) : gStr [.d (.int w)] = some (.d (.str (dg w))) := by
  unfold gStr
  dsimp only
  rw [if_pos h]
  rfl
theorem fmt_dg {w : Int} (h : w.natAbs.log2 < 1920) : fmtR (.d (.int w)) = some (dg w) := by
  unfold fmtR
  dsimp only
  rw [if_pos h]
  rfl
theorem fmt_str {x : Str} (h : x.length ≤ 10000) : fmtR (.d (.str x)) = some x := by
  unfold fmtR
  dsimp only
  rw [if_pos h]
theorem log_small {n : Int} (h0 : 0 ≤ n) (h1 : n < 1000) : n.natAbs.log2 < 1920 := Nat.lt_of_le_of_lt (Nat.log2_le_self _) (by omega)
theorem step_aux (y0 y1 l4 l5 : Option R) (t c : Str) (w y q : Int) (hy : atP [D.str (Str.ofString "<"), D.str (Str.ofString ">")] y = some (.str c)) (e1 : w.natAbs.log2 < 1920) (e2 : q.natAbs.log2 < 1920) (k1 : (dg w).length + c.length ≤ 10000) (k2 : (dg w ++ c).length + (dg q).length ≤ 10000)
    (k3 : t.length + (Str.ofString " ").length ≤ 10000) (k4 : (t ++ Str.ofString " ").length + (dg w ++ c ++ dg q).length ≤ 10000) :
    L1_law [y0, y1, some (.d (.str t)), some (.d (.tup [.int w, .int y, .int q])), l4, l5] = some (.nx [y0, y1, some (.d (.str (t ++ Str.ofString " " ++ (dg w ++ c ++ dg q)))), some (.d (.tup [.int w, .int y, .int q])), some (.d (.str (dg w ++ c ++ dg q))), l5]) := by
  have g1 := gStr_dg e1
  have g2 := gStr_dg e2
  unfold L1_law
  refine sSeq_nx (δ' := [y0, y1, some (.d (.str t)), some (.d (.tup [.int w, .int y, .int q])), some (.d (.str (Str.ofString "-"))), l5]) (by simp [dVar, dC, d1, d2, gI, kSub, kMul, kDiv, kMod, kPow, kLt, kLe, kGt, kGe, eqK, gEq, gNe, isN, gIsN, gNotN, gNeg, dCh, qB, qAnd, qOr, qNot, qYes, dAnd, dOr, dNot, dIf, gIx, oI, dSl, aNil, aCons, plainD, dTup, dLst, gAdd, R.arg, dCall, gLen, gTuple, gList, gMax, gMin, isT, gIs, dB, see, keepR, sSet, retR, sRet, sRetV, sRetN, sNx, sBrk, sCont, sSeq, sIf, sEx, sApp, sPut, g2N, gAllL, fn, Fl.mine, at0, at1, at2, at3, sExt, gIsL, gInt, dFu, dCallV, gIn, gNotIn, gIdx, gSum]) ?_
  refine sSeq_nx (δ' := [y0, y1, some (.d (.str t)), some (.d (.tup [.int w, .int y, .int q])), some (.d (.str (dg w ++ c ++ dg q))), l5]) (by simp [dVar, dC, d1, d2, gI, kSub, kMul, kDiv, kMod, kPow, kLt, kLe, kGt, kGe, eqK, gEq, gNe, isN, gIsN, gNotN, gNeg, dCh, qB, qAnd, qOr, qNot, qYes, dAnd, dOr, dNot, dIf, gIx, oI, dSl, aNil, aCons, plainD, dTup, dLst, gAdd, R.arg, dCall, gLen, gTuple, gList, gMax, gMin, isT, gIs, dB, see, keepR, sSet, retR, sRet, sRetV, sRetN, sNx, sBrk, sCont, sSeq, sIf, sEx, sApp, sPut, g2N, gAllL, fn, Fl.mine, at0, at1, at2, at3, sExt, gIsL, gInt, dFu, dCallV, gIn, gNotIn, gIdx, gSum, gIxS, gAddS, g1, g2, hy, k1, k2]) ?_
  generalize dg w ++ c ++ dg q = x at *
  simp [dVar, dC, d1, d2, gI, kSub, kMul, kDiv, kMod, kPow, kLt, kLe, kGt, kGe, eqK, gEq, gNe, isN, gIsN, gNotN, gNeg, dCh, qB, qAnd, qOr, qNot, qYes, dAnd, dOr, dNot, dIf, gIx, oI, dSl, aNil, aCons, plainD, dTup, dLst, gAdd, R.arg, dCall, gLen, gTuple, gList, gMax, gMin, isT, gIs, dB, see, keepR, sSet, retR, sRet, sRetV, sRetN, sNx, sBrk, sCont, sSeq, sIf, sEx, sApp, sPut, g2N, gAllL, fn, Fl.mine, at0, at1, at2, at3, sExt, gIsL, gInt, dFu, dCallV, gIn, gNotIn, gIdx, gSum, gAddS, k3, k4]
theorem wd_step {r s : Int} {x : Rl} (r6 : r ≤ 6) (s4 : s ≤ 4) (g : GoodR r s x) (y0 y1 l3 l4 l5 : Option R) (t : Str) (ht : t.length ≤ 900) :
    L1_law ([y0, y1, some (.d (.str t)), l3, l4, l5].set 3 (some (.d (rlD x)))) = some (.nx [y0, y1, some (.d (.str (t ++ Str.ofString " " ++ wd x))), some (.d (rlD x)), some (.d (.str (wd x))), l5]) := by
  have b1 : (Str.ofString " ").length = 1 := by decide +kernel
  have nz := neat_len (wd_neat r6 s4 g)
  have h1 : t.length + (Str.ofString " ").length ≤ 10000 := by omega
  have h2 : (t ++ Str.ofString " ").length + (wd x).length ≤ 10000 := by rw [len_app]; omega
  rcases rule_cases r6 s4 g with rfl | ⟨w, y, q, rfl⟩
  · unfold L1_law
    simp [dVar, dC, d1, d2, gI, kSub, kMul, kDiv, kMod, kPow, kLt, kLe, kGt, kGe, eqK, gEq, gNe, isN, gIsN, gNotN, gNeg, dCh, qB, qAnd, qOr, qNot, qYes, dAnd, dOr, dNot, dIf, gIx, oI, dSl, aNil, aCons, plainD, dTup, dLst, gAdd, R.arg, dCall, gLen, gTuple, gList, gMax, gMin, isT, gIs, dB, see, keepR, sSet, retR, sRet, sRetV, sRetN, sNx, sBrk, sCont, sSeq, sIf, sEx, sApp, sPut, g2N, gAllL, fn, Fl.mine, at0, at1, at2, at3, sExt, gIsL, gInt, dFu, dCallV, gIn, gNotIn, gIdx, gSum, gIxS, gAddS, gStr, rlD, wd] at h1 h2 ⊢
    simp [h1, h2]
  · have d1 := dg_len ⟨w.val, by omega⟩
    have d2 := dg_len ⟨q.val, by omega⟩
    have e1 : (w.val : Int).natAbs.log2 < 1920 := by have := w.isLt; exact Nat.lt_of_le_of_lt (Nat.log2_le_self _) (by omega)
    have e2 : (q.val : Int).natAbs.log2 < 1920 := by have := q.isLt; exact Nat.lt_of_le_of_lt (Nat.log2_le_self _) (by omega)
    dsimp only at d1 d2
    have c1 : (Str.ofString "<").length = 1 := by decide +kernel
    have c2 : (Str.ofString ">").length = 1 := by decide +kernel
    have hy : y.val = 0 ∨ y.val = 1 := by omega
    rcases hy with hy | hy
    · have key := step_aux y0 y1 l4 l5 t (Str.ofString "<") (w.val : Int) (y.val : Int) (q.val : Int) (by rw [hy]; rfl) e1 e2 (by omega) (by rw [len_app]; omega) h1 (by rw [len_app, len_app, len_app]; omega)
      have hw : wd (some ((w.val : Int), (y.val : Int), (q.val : Int))) = dg (w.val : Int) ++ Str.ofString "<" ++ dg (q.val : Int) := by
        unfold wd
        rw [hy]
        rfl
      rw [hw]
      exact key
    · have key := step_aux y0 y1 l4 l5 t (Str.ofString ">") (w.val : Int) (y.val : Int) (q.val : Int) (by rw [hy]; rfl) e1 e2 (by omega) (by rw [len_app]; omega) h1 (by rw [len_app, len_app, len_app]; omega)
      have hw : wd (some ((w.val : Int), (y.val : Int), (q.val : Int))) = dg (w.val : Int) ++ Str.ofString ">" ++ dg (q.val : Int) := by
        unfold wd
        rw [hy]
        rfl
      rw [hw]
      exact key
theorem join_len : ∀ (l : List Str) (a : Str), (∀ x ∈ l, x.length ≤ 3) → (Str.join (Str.ofString " ") (a :: l)).length ≤ a.length + 4 * l.length
  | [], a, _ => by show a.length ≤ _; omega
  | b :: r, a, h => by
    have b1 : (Str.ofString " ").length = 1 := by decide +kernel
    have ih := join_len r b (fun x hx => h x (List.mem_cons_of_mem _ hx))
    have hb := h b List.mem_cons_self
    rw [join_cons _ a _ (by simp), len_app, len_app, List.length_cons]
    omega
theorem due0_len : ∀ r s : Fin 10, (due0 (r.val : Int) (s.val : Int)).length = 4 := by decide +kernel
section
variable {r s : Int} {rs : List Rl}
theorem GoodM.words (g : GoodM r s rs) : ∀ x ∈ rs.map wd, neat x = true := by
  intro x hx
  obtain ⟨y, hy, rfl⟩ := List.mem_map.mp hx
  exact wd_neat g.r2 g.s2 (g.all y hy)
theorem GoodM.len24 (g : GoodM r s rs) : rs.length ≤ 24 := by
  have := rs_bound g.r1 g.r2 g.s1 g.s2
  have := g.len
  omega
theorem GoodM.due4 (g : GoodM r s rs) : (due0 r s).length = 4 := by
  have r1 := g.r1
  have r2 := g.r2
  have s1 := g.s1
  have s2 := g.s2
  obtain ⟨r', e1⟩ := fin_of (n := r) (m := 10) (by omega) (by omega)
  obtain ⟨s', e2⟩ := fin_of (n := s) (m := 10) (by omega) (by omega)
  rw [e1, e2]
  exact due0_len r' s'
theorem GoodM.dueLen (g : GoodM r s rs) (k : Nat) : (dueN r s ((rs.map wd).take k)).length ≤ 100 := by
  have h := join_len ((rs.map wd).take k) (due0 r s) (fun x hx => neat_len (g.words x (List.mem_of_mem_take hx)))
  rw [g.due4] at h
  have h2 : ((rs.map wd).take k).length ≤ 24 := by
    rw [List.length_take, List.length_map]
    have := g.len24
    omega
  unfold dueN
  omega
/-- the text that the law puts together -/
theorem e_loop (g : GoodM r s rs) (y0 : Option R) : ∃ l3 l4, L2_law [y0, some (.d (mD r s rs)), some (.d (.str (due0 r s))), none, none, none] = some (.nx [y0, some (.d (mD r s rs)), some (.d (.str (dueN r s (rs.map wd)))), l3, l4, none]) := by
  have q := fo_inv (i := 3) (b := L1_law) (ds := rs.map rlD) (δ := [y0, some (.d (mD r s rs)), some (.d (.str (due0 r s))), none, none, none])
    (fun k δ => ∃ l3 l4, δ = [y0, some (.d (mD r s rs)), some (.d (.str (dueN r s ((rs.map wd).take k)))), l3, l4, none]) ⟨none, none, by rfl⟩ ?_
  · obtain ⟨δ', e1, l3, l4, rfl⟩ := q
    refine ⟨l3, l4, ?_⟩
    rw [List.length_map, List.take_of_length_le (by simp)] at e1
    unfold L2_law sFor iSeq
    unfold mD at e1 ⊢
    generalize rs.map rlD = L at *
    generalize dueN r s (rs.map wd) = t at *
    have e0 : d2 gIxS (dVar 1) (dC (.int 2)) [y0, some (.d (.tup [.int r, .int s, .tup L])), some (.d (.str (due0 r s))), none, none, none] = some (.d (.tup L)) := by simp [dVar, dC, d1, d2, gI, kSub, kMul, kDiv, kMod, kPow, kLt, kLe, kGt, kGe, eqK, gEq, gNe, isN, gIsN, gNotN, gNeg, dCh, qB, qAnd, qOr, qNot, qYes, dAnd, dOr, dNot, dIf, gIx, oI, dSl, aNil, aCons, plainD, dTup, dLst, gAdd, R.arg, dCall, gLen, gTuple, gList, gMax, gMin, isT, gIs, dB, see, keepR, sSet, retR, sRet, sRetV, sRetN, sNx, sBrk, sCont, sSeq, sIf, sEx, sApp, sPut, g2N, gAllL, fn, Fl.mine, at0, at1, at2, at3, sExt, gIsL, gInt, dFu, dCallV, gIn, gNotIn, gIdx, gSum, gIxS]
    rw [e0]
    exact e1
  · rintro k δ d hd ⟨l3, l4, rfl⟩
    rw [List.getElem?_map] at hd
    obtain ⟨x, hx, rfl⟩ := Option.map_eq_some_iff.mp hd
    have gx := g.all x (List.mem_of_getElem? hx)
    have hl := g.dueLen k
    refine ⟨_, wd_step g.r2 g.s2 gx _ _ _ _ _ _ (by omega), some (.d (rlD x)), some (.d (.str (wd x))), ?_⟩
    have ht : (rs.map wd).take (k + 1) = (rs.map wd).take k ++ [wd x] := by
      rw [List.take_add_one, List.getElem?_map, hx]
      rfl
    rw [ht, due_snoc]
theorem cp_shown (g : GoodM r s rs) : ∀ l : List Rl, (∀ x ∈ l, x ∈ rs) → cpGo qYes (dCall F_shown_rule (aCons (dVar 0) aNil)) [] (l.map rlD) = some ((l.map wd).map D.str)
  | [], _ => rfl
  | x :: l, h => by
    have ih := cp_shown g l (fun y hy => h y (List.mem_cons_of_mem _ hy))
    have e := e_shownR g.r2 g.s2 (g.all x (h x List.mem_cons_self))
    rw [List.map_cons]
    unfold cpGo
    generalize rlD x = d at *
    simp [dVar, dC, d1, d2, gI, kSub, kMul, kDiv, kMod, kPow, kLt, kLe, kGt, kGe, eqK, gEq, gNe, isN, gIsN, gNotN, gNeg, dCh, qB, qAnd, qOr, qNot, qYes, dAnd, dOr, dNot, dIf, gIx, oI, dSl, aNil, aCons, plainD, dTup, dLst, gAdd, R.arg, dCall, gLen, gTuple, gList, gMax, gMin, isT, gIs, dB, see, keepR, sSet, retR, sRet, sRetV, sRetN, sNx, sBrk, sCont, sSeq, sIf, sEx, sApp, sPut, g2N, gAllL, fn, Fl.mine, at0, at1, at2, at3, sExt, gIsL, gInt, dFu, dCallV, gIn, gNotIn, gIdx, gSum, e] at ih ⊢
    simp [ih]
theorem cp_ruleOf (g : GoodM r s rs) : ∀ l : List Rl, (∀ x ∈ l, x ∈ rs) → cpGo qYes (dCall F_rule_of (aCons (dVar 0) aNil)) [] ((l.map wd).map D.str) = some (l.map rlD)
  | [], _ => rfl
  | x :: l, h => by
    have ih := cp_ruleOf g l (fun y hy => h y (List.mem_cons_of_mem _ hy))
    have e := e_ruleOf g.r2 g.s2 (g.all x (h x List.mem_cons_self))
    rw [List.map_cons, List.map_cons]
    unfold cpGo
    generalize wd x = d at *
    simp [dVar, dC, d1, d2, gI, kSub, kMul, kDiv, kMod, kPow, kLt, kLe, kGt, kGe, eqK, gEq, gNe, isN, gIsN, gNotN, gNeg, dCh, qB, qAnd, qOr, qNot, qYes, dAnd, dOr, dNot, dIf, gIx, oI, dSl, aNil, aCons, plainD, dTup, dLst, gAdd, R.arg, dCall, gLen, gTuple, gList, gMax, gMin, isT, gIs, dB, see, keepR, sSet, retR, sRet, sRetV, sRetN, sNx, sBrk, sCont, sSeq, sIf, sEx, sApp, sPut, g2N, gAllL, fn, Fl.mine, at0, at1, at2, at3, sExt, gIsL, gInt, dFu, dCallV, gIn, gNotIn, gIdx, gSum, e] at ih ⊢
    simp [ih]
theorem js_cons {out : Str} {e : DEn} {es : List DEn} {δ : Ev} {x : R} {y z : Str} (h1 : e δ = some x) (h2 : fmtR x = some y) (h3 : (out ++ y).length ≤ 10000) (h4 : jsGo (out ++ y) es δ = some z) : jsGo out (e :: es) δ = some z := by
  show (e δ).bind _ = _
  rw [h1]
  show (fmtR x).bind _ = _
  rw [h2]
  show (if (out ++ y).length ≤ 10000 then _ else _) = _
  rw [if_pos h3]
  exact h4
theorem first_word (r s : Int) (y0 y3 : Option R) (hr : 0 ≤ r ∧ r < 10) (hs : 0 ≤ s ∧ s < 10) : dJS [dVar 1, dC (.str (Str.ofString " ")), dVar 2, dC (.str (Str.ofString ":"))] [y0, some (.d (.int r)), some (.d (.int s)), y3] = some (.d (.str (due0 r s))) := by
  obtain ⟨r', e1⟩ := fin_of (n := r) (m := 10) (by omega) (by omega)
  obtain ⟨s', e2⟩ := fin_of (n := s) (m := 10) (by omega) (by omega)
  have d1 := dg_len r'
  have d2 := dg_len s'
  rw [← e1] at d1
  rw [← e2] at d2
  have b1 : (Str.ofString " ").length = 1 := by decide +kernel
  have b2 : (Str.ofString ":").length = 1 := by decide +kernel
  have b0 : Str.empty.length = 0 := rfl
  unfold dJS
  have : jsGo Str.empty [dVar 1, dC (.str (Str.ofString " ")), dVar 2, dC (.str (Str.ofString ":"))] [y0, some (.d (.int r)), some (.d (.int s)), y3] = some (Str.empty ++ dg r ++ Str.ofString " " ++ dg s ++ Str.ofString ":") := by
    refine js_cons (x := .d (.int r)) rfl (fmt_dg (log_small hr.1 (by omega))) (by rw [len_app]; omega) ?_
    refine js_cons (x := .d (.str (Str.ofString " "))) rfl (fmt_str (by omega)) (by rw [len_app, len_app]; omega) ?_
    refine js_cons (x := .d (.int s)) rfl (fmt_dg (log_small hs.1 (by omega))) (by rw [len_app, len_app, len_app]; omega) ?_
    refine js_cons (x := .d (.str (Str.ofString ":"))) rfl (fmt_str (by omega)) (by rw [len_app, len_app, len_app, len_app]; omega) ?_
    rfl
  rw [this, empty_add]
  rfl
theorem sum_le3 : ∀ l : List Str, (∀ x ∈ l, x.length ≤ 3) → (l.map (·.length)).sum ≤ 3 * l.length
  | [], _ => by simp
  | x :: r, h => by
    have h1 := h x List.mem_cons_self
    have h2 := sum_le3 r (fun y hy => h y (List.mem_cons_of_mem _ hy))
    rw [List.map_cons, List.sum_cons, List.length_cons]
    omega
theorem shown_aux (L : List D) (ws : List Str) (r s : Int) (hL : L.length ≤ 24) (hw : ws.length ≤ 24) (hs : ∀ x ∈ ws, x.length ≤ 3) (cp : cpGo qYes (dCall F_shown_rule (aCons (dVar 0) aNil)) [] L = some (ws.map D.str)) (d4 : (due0 r s).length = 4)
    (h1 : ∀ y0 y3 : Option R, dJS [dVar 1, dC (.str (Str.ofString " ")), dVar 2, dC (.str (Str.ofString ":"))] [y0, some (.d (.int r)), some (.d (.int s)), y3] = some (.d (.str (due0 r s)))) :
    F_shown [.d (.tup [.int r, .int s, .tup L])] = some (.d (.str (dueN r s ws))) := by
  have b1 : (Str.ofString " ").length = 1 := by decide +kernel
  refine fn_rt rfl ?_
  show B_shown [some (.d (.tup [.int r, .int s, .tup L])), none, none, none] = _
  unfold B_shown
  refine sSeq_nx (δ' := [some (.d (.tup [.int r, .int s, .tup L])), some (.d (.int r)), none, none]) (by simp [dVar, dC, d1, d2, gI, kSub, kMul, kDiv, kMod, kPow, kLt, kLe, kGt, kGe, eqK, gEq, gNe, isN, gIsN, gNotN, gNeg, dCh, qB, qAnd, qOr, qNot, qYes, dAnd, dOr, dNot, dIf, gIx, oI, dSl, aNil, aCons, plainD, dTup, dLst, gAdd, R.arg, dCall, gLen, gTuple, gList, gMax, gMin, isT, gIs, dB, see, keepR, sSet, retR, sRet, sRetV, sRetN, sNx, sBrk, sCont, sSeq, sIf, sEx, sApp, sPut, g2N, gAllL, fn, Fl.mine, at0, at1, at2, at3, sExt, gIsL, gInt, dFu, dCallV, gIn, gNotIn, gIdx, gSum, gIxS]) ?_
  refine sSeq_nx (δ' := [some (.d (.tup [.int r, .int s, .tup L])), some (.d (.int r)), some (.d (.int s)), none]) (by simp [dVar, dC, d1, d2, gI, kSub, kMul, kDiv, kMod, kPow, kLt, kLe, kGt, kGe, eqK, gEq, gNe, isN, gIsN, gNotN, gNeg, dCh, qB, qAnd, qOr, qNot, qYes, dAnd, dOr, dNot, dIf, gIx, oI, dSl, aNil, aCons, plainD, dTup, dLst, gAdd, R.arg, dCall, gLen, gTuple, gList, gMax, gMin, isT, gIs, dB, see, keepR, sSet, retR, sRet, sRetV, sRetN, sNx, sBrk, sCont, sSeq, sIf, sEx, sApp, sPut, g2N, gAllL, fn, Fl.mine, at0, at1, at2, at3, sExt, gIsL, gInt, dFu, dCallV, gIn, gNotIn, gIdx, gSum, gIxS]) ?_
  refine sSeq_nx (δ' := [some (.d (.tup [.int r, .int s, .tup L])), some (.d (.int r)), some (.d (.int s)), some (.l .own [.str (due0 r s)])]) (by
    have e := h1 (some (.d (.tup [.int r, .int s, .tup L]))) none
    generalize dJS [dVar 1, dC (.str (Str.ofString " ")), dVar 2, dC (.str (Str.ofString ":"))] = js at *
    simp [dVar, dC, d1, d2, gI, kSub, kMul, kDiv, kMod, kPow, kLt, kLe, kGt, kGe, eqK, gEq, gNe, isN, gIsN, gNotN, gNeg, dCh, qB, qAnd, qOr, qNot, qYes, dAnd, dOr, dNot, dIf, gIx, oI, dSl, aNil, aCons, plainD, dTup, dLst, gAdd, R.arg, dCall, gLen, gTuple, gList, gMax, gMin, isT, gIs, dB, see, keepR, sSet, retR, sRet, sRetV, sRetN, sNx, sBrk, sCont, sSeq, sIf, sEx, sApp, sPut, g2N, gAllL, fn, Fl.mine, at0, at1, at2, at3, sExt, gIsL, gInt, dFu, dCallV, gIn, gNotIn, gIdx, gSum, e]) ?_
  refine sSeq_nx (δ' := [some (.d (.tup [.int r, .int s, .tup L])), some (.d (.int r)), some (.d (.int s)), some (.l .own (.str (due0 r s) :: ws.map D.str))]) (by
    have hz : L.length ≤ 10000 := by omega
    have hz2 : 1 + ws.length ≤ 10000 := by omega
    have e : dComp [] (iAny (d2 gIxS (dVar 0) (dC (.int 2)))) qYes (dCall F_shown_rule (aCons (dVar 0) aNil)) [some (.d (.tup [.int r, .int s, .tup L])), some (.d (.int r)), some (.d (.int s)), some (.l .own [.str (due0 r s)])] = some (.l .own (ws.map D.str)) := by
      unfold dComp iAny capsOf
      have e0 : d2 gIxS (dVar 0) (dC (.int 2)) [some (.d (.tup [.int r, .int s, .tup L])), some (.d (.int r)), some (.d (.int s)), some (.l .own [.str (due0 r s)])] = some (.d (.tup L)) := by simp [dVar, dC, d1, d2, gI, kSub, kMul, kDiv, kMod, kPow, kLt, kLe, kGt, kGe, eqK, gEq, gNe, isN, gIsN, gNotN, gNeg, dCh, qB, qAnd, qOr, qNot, qYes, dAnd, dOr, dNot, dIf, gIx, oI, dSl, aNil, aCons, plainD, dTup, dLst, gAdd, R.arg, dCall, gLen, gTuple, gList, gMax, gMin, isT, gIs, dB, see, keepR, sSet, retR, sRet, sRetV, sRetN, sNx, sBrk, sCont, sSeq, sIf, sEx, sApp, sPut, g2N, gAllL, fn, Fl.mine, at0, at1, at2, at3, sExt, gIsL, gInt, dFu, dCallV, gIn, gNotIn, gIdx, gSum, gIxS]
      rw [e0]
      show (if L.length ≤ 10000 then (cpGo qYes (dCall F_shown_rule (aCons (dVar 0) aNil)) [] L).map _ else none) = _
      rw [if_pos hz, cp]
      rfl
    unfold sExt
    rw [e]
    simp [dVar, dC, d1, d2, gI, kSub, kMul, kDiv, kMod, kPow, kLt, kLe, kGt, kGe, eqK, gEq, gNe, isN, gIsN, gNotN, gNeg, dCh, qB, qAnd, qOr, qNot, qYes, dAnd, dOr, dNot, dIf, gIx, oI, dSl, aNil, aCons, plainD, dTup, dLst, gAdd, R.arg, dCall, gLen, gTuple, gList, gMax, gMin, isT, gIs, dB, see, keepR, sSet, retR, sRet, sRetV, sRetN, sNx, sBrk, sCont, sSeq, sIf, sEx, sApp, sPut, g2N, gAllL, fn, Fl.mine, at0, at1, at2, at3, sExt, gIsL, gInt, dFu, dCallV, gIn, gNotIn, gIdx, gSum, hz2]) ?_
  have e3 : strsD (.str (due0 r s) :: ws.map D.str) = some (due0 r s :: ws) := strs_map (due0 r s :: ws)
  have hz : ((due0 r s :: ws).map (·.length)).sum + (due0 r s :: ws).length * (Str.ofString " ").length ≤ 10000 := by
    have := sum_le3 ws hs
    rw [List.map_cons, List.sum_cons, List.length_cons, b1, d4]
    omega
  unfold sRet d2 dC dVar gJoinS
  simp only [Option.bind_some, see, List.getElem?_cons_succ, List.getElem?_cons_zero, e3]
  rw [if_pos hz]
  rfl
theorem e_shown (g : GoodM r s rs) : F_shown [.d (mD r s rs)] = some (.d (.str (dueN r s (rs.map wd)))) := by
  have r1 := g.r1
  have r2 := g.r2
  have s1 := g.s1
  have s2 := g.s2
  have h24 := g.len24
  exact shown_aux (rs.map rlD) (rs.map wd) r s (by simpa using h24) (by simpa using h24) (fun x hx => neat_len (g.words x hx)) (cp_shown g rs fun x hx => hx) g.due4 (fun y0 y3 => first_word r s y0 y3 (by omega) (by omega))
theorem read_aux (L : List D) (ws : List Str) (t : Str) (r s : Int) (hw : ws.length ≤ 24) (ht : t.length ≤ 10000) (hsp : Txt.split t (Str.ofString " ") = dg r :: hd2 s :: ws) (cp : cpGo qYes (dCall F_rule_of (aCons (dVar 0) aNil)) [] (ws.map D.str) = some L) (f1 : F_figure [.d (.str (dg r))] = some (.d (.int r))) (f2 : F_figure [.d (.str (dg s))] = some (.d (.int s)))
    (he : Txt.endswith (hd2 s) (Str.ofString ":") = true) (hc : Txt.slice (hd2 s) none (some (-1)) = dg s) (hh : (hd2 s).length ≤ 10000) (n : Int) (el : F_looked [.d (.tup [.int r, .int s, .tup L])] = some (.d (.int n))) : F_read [.d (.str t)] = some (.d (.tup [.int r, .int s, .tup L])) := by
  have b1 : ((Str.ofString " ").length == 0) = false := by decide +kernel
  refine fn_rt rfl ?_
  show B_read [some (.d (.str t)), none, none, none, none, none] = _
  unfold B_read
  refine sSeq_nx (δ' := [some (.d (.str t)), some (.l .own ((dg r :: hd2 s :: ws).map D.str)), none, none, none, none]) (by
    unfold sSet d2 dC dVar gSplitS
    simp only [Option.bind_some, see, List.getElem?_cons_zero]
    rw [if_pos ⟨b1, ht⟩, hsp]
    rfl) ?_
  rw [List.map_cons, List.map_cons]
  have hz : ¬ ((((D.str (dg r) :: D.str (hd2 s) :: ws.map D.str).length : Nat) : Int) < 2) := by simp only [List.length_cons]; omega
  have hz2 : ws.length ≤ 10000 := by omega
  have hneg : ∀ k : Nat, ¬ ((k : Int) + 1 + 1 < 2) := fun k => by omega
  refine sSeq_nx (δ' := [some (.d (.str t)), some (.l .own (.str (dg r) :: .str (hd2 s) :: ws.map D.str)), none, none, none, none]) (by simp [dVar, dC, d1, d2, gI, kSub, kMul, kDiv, kMod, kPow, kLt, kLe, kGt, kGe, eqK, gEq, gNe, isN, gIsN, gNotN, gNeg, dCh, qB, qAnd, qOr, qNot, qYes, dAnd, dOr, dNot, dIf, gIx, oI, dSl, aNil, aCons, plainD, dTup, dLst, gAdd, R.arg, dCall, gLen, gTuple, gList, gMax, gMin, isT, gIs, dB, see, keepR, sSet, retR, sRet, sRetV, sRetN, sNx, sBrk, sCont, sSeq, sIf, sEx, sApp, sPut, g2N, gAllL, fn, Fl.mine, at0, at1, at2, at3, sExt, gIsL, gInt, dFu, dCallV, gIn, gNotIn, gIdx, gSum, gLenS, gIxS, gEndS, he, hneg]) ?_
  refine sSeq_nx (δ' := [some (.d (.str t)), some (.l .own (.str (dg r) :: .str (hd2 s) :: ws.map D.str)), some (.d (.int r)), none, none, none]) (by simp [dVar, dC, d1, d2, gI, kSub, kMul, kDiv, kMod, kPow, kLt, kLe, kGt, kGe, eqK, gEq, gNe, isN, gIsN, gNotN, gNeg, dCh, qB, qAnd, qOr, qNot, qYes, dAnd, dOr, dNot, dIf, gIx, oI, dSl, aNil, aCons, plainD, dTup, dLst, gAdd, R.arg, dCall, gLen, gTuple, gList, gMax, gMin, isT, gIs, dB, see, keepR, sSet, retR, sRet, sRetV, sRetN, sNx, sBrk, sCont, sSeq, sIf, sEx, sApp, sPut, g2N, gAllL, fn, Fl.mine, at0, at1, at2, at3, sExt, gIsL, gInt, dFu, dCallV, gIn, gNotIn, gIdx, gSum, gIxS, f1]) ?_
  refine sSeq_nx (δ' := [some (.d (.str t)), some (.l .own (.str (dg r) :: .str (hd2 s) :: ws.map D.str)), some (.d (.int r)), some (.d (.int s)), none, none]) (by simp [dVar, dC, d1, d2, gI, kSub, kMul, kDiv, kMod, kPow, kLt, kLe, kGt, kGe, eqK, gEq, gNe, isN, gIsN, gNotN, gNeg, dCh, qB, qAnd, qOr, qNot, qYes, dAnd, dOr, dNot, dIf, gIx, oI, dSl, aNil, aCons, plainD, dTup, dLst, gAdd, R.arg, dCall, gLen, gTuple, gList, gMax, gMin, isT, gIs, dB, see, keepR, sSet, retR, sRet, sRetV, sRetN, sNx, sBrk, sCont, sSeq, sIf, sEx, sApp, sPut, g2N, gAllL, fn, Fl.mine, at0, at1, at2, at3, sExt, gIsL, gInt, dFu, dCallV, gIn, gNotIn, gIdx, gSum, gIxS, dSlS, gSlS, hc, hh, f2]) ?_
  refine sSeq_nx (δ' := [some (.d (.str t)), some (.l .own (.str (dg r) :: .str (hd2 s) :: ws.map D.str)), some (.d (.int r)), some (.d (.int s)), some (.d (.tup [.int r, .int s, .tup L])), none]) (by
    have e : dComp [] (iAny (dSlS (dVar 1) (some (dC (.int 2))) none)) qYes (dCall F_rule_of (aCons (dVar 0) aNil)) [some (.d (.str t)), some (.l .own (.str (dg r) :: .str (hd2 s) :: ws.map D.str)), some (.d (.int r)), some (.d (.int s)), none, none] = some (.l .own L) := by
      unfold dComp iAny capsOf
      have e0 : dSlS (dVar 1) (some (dC (.int 2))) none [some (.d (.str t)), some (.l .own (.str (dg r) :: .str (hd2 s) :: ws.map D.str)), some (.d (.int r)), some (.d (.int s)), none, none] = some (.l .own (ws.map D.str)) := by
        have := cutP_from (.str (dg r) :: .str (hd2 s) :: ws.map D.str) 2
        simp only [List.drop_succ_cons, List.drop_zero] at this
        unfold dSlS gSlS gSl oI dC dVar
        simp only [Option.bind_some, see, List.getElem?_cons_succ, List.getElem?_cons_zero]
        exact congrArg (fun l => some (R.l .own l)) this
      rw [e0]
      show (if (ws.map D.str).length ≤ 10000 then (cpGo qYes (dCall F_rule_of (aCons (dVar 0) aNil)) [] (ws.map D.str)).map _ else none) = _
      rw [if_pos (by simpa using hz2), cp]
      rfl
    generalize dComp [] (iAny (dSlS (dVar 1) (some (dC (.int 2))) none)) qYes (dCall F_rule_of (aCons (dVar 0) aNil)) = cc at *
    simp [dVar, dC, d1, d2, gI, kSub, kMul, kDiv, kMod, kPow, kLt, kLe, kGt, kGe, eqK, gEq, gNe, isN, gIsN, gNotN, gNeg, dCh, qB, qAnd, qOr, qNot, qYes, dAnd, dOr, dNot, dIf, gIx, oI, dSl, aNil, aCons, plainD, dTup, dLst, gAdd, R.arg, dCall, gLen, gTuple, gList, gMax, gMin, isT, gIs, dB, see, keepR, sSet, retR, sRet, sRetV, sRetN, sNx, sBrk, sCont, sSeq, sIf, sEx, sApp, sPut, g2N, gAllL, fn, Fl.mine, at0, at1, at2, at3, sExt, gIsL, gInt, dFu, dCallV, gIn, gNotIn, gIdx, gSum, e]) ?_
  refine sSeq_nx (δ' := [some (.d (.str t)), some (.l .own (.str (dg r) :: .str (hd2 s) :: ws.map D.str)), some (.d (.int r)), some (.d (.int s)), some (.d (.tup [.int r, .int s, .tup L])), none]) (by simp [dVar, dC, d1, d2, gI, kSub, kMul, kDiv, kMod, kPow, kLt, kLe, kGt, kGe, eqK, gEq, gNe, isN, gIsN, gNotN, gNeg, dCh, qB, qAnd, qOr, qNot, qYes, dAnd, dOr, dNot, dIf, gIx, oI, dSl, aNil, aCons, plainD, dTup, dLst, gAdd, R.arg, dCall, gLen, gTuple, gList, gMax, gMin, isT, gIs, dB, see, keepR, sSet, retR, sRet, sRetV, sRetN, sNx, sBrk, sCont, sSeq, sIf, sEx, sApp, sPut, g2N, gAllL, fn, Fl.mine, at0, at1, at2, at3, sExt, gIsL, gInt, dFu, dCallV, gIn, gNotIn, gIdx, gSum, el]) ?_
  simp [dVar, dC, d1, d2, gI, kSub, kMul, kDiv, kMod, kPow, kLt, kLe, kGt, kGe, eqK, gEq, gNe, isN, gIsN, gNotN, gNeg, dCh, qB, qAnd, qOr, qNot, qYes, dAnd, dOr, dNot, dIf, gIx, oI, dSl, aNil, aCons, plainD, dTup, dLst, gAdd, R.arg, dCall, gLen, gTuple, gList, gMax, gMin, isT, gIs, dB, see, keepR, sSet, retR, sRet, sRetV, sRetN, sNx, sBrk, sCont, sSeq, sIf, sEx, sApp, sPut, g2N, gAllL, fn, Fl.mine, at0, at1, at2, at3, sExt, gIsL, gInt, dFu, dCallV, gIn, gNotIn, gIdx, gSum]
theorem e_read (g : GoodM r s rs) : F_read [.d (.str (dueN r s (rs.map wd)))] = some (.d (mD r s rs)) := by
  have r1 := g.r1
  have r2 := g.r2
  have s1 := g.s1
  have s2 := g.s2
  have h24 := g.len24
  have hl := g.dueLen (rs.map wd).length
  rw [List.take_length] at hl
  obtain ⟨r', e1⟩ := fin_of (n := r) (m := 10) (by omega) (by omega)
  obtain ⟨s', e2⟩ := fin_of (n := s) (m := 10) (by omega) (by omega)
  have f1 := chkI_eq (fg r')
  have f2 := chkI_eq (fg s')
  have he := hd_end s'
  have hc := hd_cut s'
  have n1 := dg_neat r'
  have n2 := hd_neat s'
  rw [← e1] at f1 n1
  rw [← e2] at f2 he hc n2
  refine read_aux (rs.map rlD) (rs.map wd) _ r s (by simpa using h24) (by omega) ?_ (cp_ruleOf g rs fun x hx => hx) f1 f2 he hc (by have := neat_len n2; omega) _ (e_looked g)
  rw [due_cut]
  refine split_join (by simp) fun x hx => ?_
  rcases List.mem_cons.mp hx with rfl | hx
  · exact neat_free n1
  · rcases List.mem_cons.mp hx with rfl | hx
    · exact neat_free n2
    · exact neat_free (g.words x hx)
end
theorem law_aux (S : List D) (c0 r s : Int) (L : List D) (d0 dN : Str) (l3 l4 : Option R) (e0 : F_law_cell_at [.l .bor S, .d (.int 0)] = some (.d (.int c0))) (hr : 1 + c0 % 6 = r) (hs : 2 + c0 / 6 % 3 = s) (em : F_law_machine [.l .bor S, .d (.int 1), .d (.int r), .d (.int s)] = some (.d (.tup [.int r, .int s, .tup L])))
    (g1 : gStr [.d (.int r)] = some (.d (.str (dg r)))) (g2 : gStr [.d (.int s)] = some (.d (.str (dg s)))) (z1 : (dg r).length = 1) (z2 : (dg s).length = 1) (hd0 : dg r ++ Str.ofString " " ++ dg s ++ Str.ofString ":" = d0)
    (el : L2_law [some (.l .bor S), some (.d (.tup [.int r, .int s, .tup L])), some (.d (.str d0)), none, none, none] = some (.nx [some (.l .bor S), some (.d (.tup [.int r, .int s, .tup L])), some (.d (.str dN)), l3, l4, none]))
    (es : F_shown [.d (.tup [.int r, .int s, .tup L])] = some (.d (.str dN))) (er : F_read [.d (.str dN)] = some (.d (.tup [.int r, .int s, .tup L]))) (ek : F_law_same 4 [.d (.tup [.int r, .int s, .tup L]), .d (.tup [.int r, .int s, .tup L])] = some (.d (.bl true))) : F_law [.l .bor S] = some (.d (.bl true)) := by
  have b1 : (Str.ofString " ").length = 1 := by decide +kernel
  have b2 : (Str.ofString ":").length = 1 := by decide +kernel
  have k1 : (dg r).length + (Str.ofString " ").length ≤ 10000 := by omega
  have k2 : (dg r ++ Str.ofString " ").length + (dg s).length ≤ 10000 := by rw [len_app]; omega
  have k3 : (dg r ++ Str.ofString " " ++ dg s).length + (Str.ofString ":").length ≤ 10000 := by rw [len_app, len_app]; omega
  refine fn_rt rfl ?_
  show B_law [some (.l .bor S), none, none, none, none, none] = _
  unfold B_law
  refine sSeq_nx (δ' := [some (.l .bor S), some (.d (.tup [.int r, .int s, .tup L])), none, none, none, none]) (by simp [dVar, dC, d1, d2, gI, kSub, kMul, kDiv, kMod, kPow, kLt, kLe, kGt, kGe, eqK, gEq, gNe, isN, gIsN, gNotN, gNeg, dCh, qB, qAnd, qOr, qNot, qYes, dAnd, dOr, dNot, dIf, gIx, oI, dSl, aNil, aCons, plainD, dTup, dLst, gAdd, R.arg, dCall, gLen, gTuple, gList, gMax, gMin, isT, gIs, dB, see, keepR, sSet, retR, sRet, sRetV, sRetN, sNx, sBrk, sCont, sSeq, sIf, sEx, sApp, sPut, g2N, gAllL, fn, Fl.mine, at0, at1, at2, at3, sExt, gIsL, gInt, dFu, dCallV, gIn, gNotIn, gIdx, gSum, e0, hr, hs, em]) ?_
  refine sSeq_nx (δ' := [some (.l .bor S), some (.d (.tup [.int r, .int s, .tup L])), some (.d (.str d0)), none, none, none]) (by
    rw [← hd0]
    simp [dVar, dC, d1, d2, gI, kSub, kMul, kDiv, kMod, kPow, kLt, kLe, kGt, kGe, eqK, gEq, gNe, isN, gIsN, gNotN, gNeg, dCh, qB, qAnd, qOr, qNot, qYes, dAnd, dOr, dNot, dIf, gIx, oI, dSl, aNil, aCons, plainD, dTup, dLst, gAdd, R.arg, dCall, gLen, gTuple, gList, gMax, gMin, isT, gIs, dB, see, keepR, sSet, retR, sRet, sRetV, sRetN, sNx, sBrk, sCont, sSeq, sIf, sEx, sApp, sPut, g2N, gAllL, fn, Fl.mine, at0, at1, at2, at3, sExt, gIsL, gInt, dFu, dCallV, gIn, gNotIn, gIdx, gSum, gIxS, gAddS, g1, g2, k1, k2, k3]) ?_
  refine sSeq_nx el ?_
  refine sSeq_nx (δ' := [some (.l .bor S), some (.d (.tup [.int r, .int s, .tup L])), some (.d (.str dN)), l3, l4, some (.d (.str dN))]) (by simp [dVar, dC, d1, d2, gI, kSub, kMul, kDiv, kMod, kPow, kLt, kLe, kGt, kGe, eqK, gEq, gNe, isN, gIsN, gNotN, gNeg, dCh, qB, qAnd, qOr, qNot, qYes, dAnd, dOr, dNot, dIf, gIx, oI, dSl, aNil, aCons, plainD, dTup, dLst, gAdd, R.arg, dCall, gLen, gTuple, gList, gMax, gMin, isT, gIs, dB, see, keepR, sSet, retR, sRet, sRetV, sRetN, sNx, sBrk, sCont, sSeq, sIf, sEx, sApp, sPut, g2N, gAllL, fn, Fl.mine, at0, at1, at2, at3, sExt, gIsL, gInt, dFu, dCallV, gIn, gNotIn, gIdx, gSum, es]) ?_
  simp [dVar, dC, d1, d2, gI, kSub, kMul, kDiv, kMod, kPow, kLt, kLe, kGt, kGe, eqK, gEq, gNe, isN, gIsN, gNotN, gNeg, dCh, qB, qAnd, qOr, qNot, qYes, dAnd, dOr, dNot, dIf, gIx, oI, dSl, aNil, aCons, plainD, dTup, dLst, gAdd, R.arg, dCall, gLen, gTuple, gList, gMax, gMin, isT, gIs, dB, see, keepR, sSet, retR, sRet, sRetV, sRetN, sNx, sBrk, sCont, sSeq, sIf, sEx, sApp, sPut, g2N, gAllL, fn, Fl.mine, at0, at1, at2, at3, sExt, gIsL, gInt, dFu, dCallV, gIn, gNotIn, gIdx, gSum, er, ek]
theorem law_true (ns : List Int) (hl : ns.length ≤ 63) : F_law [.l .bor (ns.map .int)] = some (.d (.bl true)) := by
  have b1 := emod_lt (cellZ ns 0) 6 (by omega)
  have b2 := emod_lt (cellZ ns 0 / 6) 3 (by omega)
  obtain ⟨rs, g, em⟩ := e_machine ns 1 (1 + cellZ ns 0 % 6) (2 + cellZ ns 0 / 6 % 3) (by omega) (by omega) (by omega) (by omega) (by omega)
  generalize hr : 1 + cellZ ns 0 % 6 = r at *
  generalize hs : 2 + cellZ ns 0 / 6 % 3 = s at *
  obtain ⟨l3, l4, el⟩ := e_loop g (some (.l .bor (ns.map .int)))
  obtain ⟨r', e1⟩ := fin_of (n := r) (m := 10) (by omega) (by omega)
  obtain ⟨s', e2⟩ := fin_of (n := s) (m := 10) (by omega) (by omega)
  have d1 := dg_len r'
  have d2 := dg_len s'
  rw [← e1] at d1
  rw [← e2] at d2
  refine law_aux _ _ r s (rs.map rlD) _ _ l3 l4 (e_cell ns 0 (by omega)) hr hs em (gStr_dg (log_small (by omega) (by omega))) (gStr_dg (log_small (by omega) (by omega))) d1 d2 rfl el (e_shown g) (e_read g) ?_
  refine e_same 3 _ ⟨by show 3 ≤ 10000; decide, fun d hd => ?_⟩
  simp only [List.mem_cons, List.not_mem_nil, or_false] at hd
  rcases hd with rfl | rfl | rfl
  · trivial
  · trivial
  · refine ⟨by have := g.len24; simp only [List.length_map]; omega, fun d hd => ?_⟩
    obtain ⟨x, hx, rfl⟩ := List.mem_map.mp hd
    cases x with
    | none => trivial
    | some t =>
      obtain ⟨w, y, q⟩ := t
      refine ⟨by show 3 ≤ 10000; decide, fun d hd => ?_⟩
      simp only [List.mem_cons, List.not_mem_nil, or_false] at hd
      rcases hd with rfl | rfl | rfl <;> trivial

end
open PySem L2 DL
def top (i : Nat) : Stmt := PySem.Challenge.pw_downstair_k18_shown.main.body.getD i (.Pass ⟨0, 0, 0, 0⟩)
abbrev st_look_at_rule : Stmt := top 12
abbrev st_looked : Stmt := top 11
abbrev st_shown_rule : Stmt := top 18
abbrev st_shown : Stmt := top 17
abbrev st_figure : Stmt := top 21
abbrev st_rule_of : Stmt := top 20
abbrev st_read : Stmt := top 19
abbrev st_law_cell_at : Stmt := top 23
abbrev st_law_pick : Stmt := top 24
abbrev st_law_whole : Stmt := top 25
abbrev st_law_mix : Stmt := top 26
abbrev st_law_machine : Stmt := top 27
abbrev st_law_same : Stmt := top 28
abbrev st_law : Stmt := top 29
/-! the text keeps to it -/
section
variable {P : Program} {w : World} {K : PySem.W.Frag} {mg : Str → Option Value} {base : Heap} {f : Addr} {fd : FuncData}
theorem sc_look_at_rule : FnScope ["rooms", "signs", "rule"] ["rooms", "signs", "rule"] (defScope st_look_at_rule) := ⟨rfl, rfl, rfl, by decide +kernel, rfl, by decide +kernel, by decide +kernel⟩
set_option maxHeartbeats 4000000 in
theorem ok_look_at_rule (G : Fun K "look_at_rule" "look_at_rule" st_look_at_rule f fd) (hm : mg "look_at_rule" = some (.ref f)) (hn : PySem.W.nsIn K mainGlobals "look_at_rule" = some (some (.ref f))) {t_LEFT : Tok} (m_LEFT : mg "LEFT" = some (.int 0 t_LEFT)) {t_RIGHT : Tok} (m_RIGHT : mg "RIGHT" = some (.int 1 t_RIGHT)) : Cal P w K mg base 1 "look_at_rule" ["rooms", "signs", "rule"] F_look_at_rule :=
  cal_of (k := 0) G hm hn sc_look_at_rule (fun _ _ _ _ _ _ us hl => match us, hl with | [_, _, _], _ => rfl) fun cdv A outer s H E hr =>
    have nd := sc_look_at_rule.nd
    (ds_cons (ds_if (dt_not (dt_ch o_le o_lt de_int (de_ix (de_var 2) de_int) (de_var 1))) (ds_one ds_no) ds_nil) (ds_cons (ds_if (dt_not (dt_ch o_le o_le (de_globI rfl m_LEFT) (de_ix (de_var 2) de_int) (de_globI rfl m_RIGHT))) (ds_one ds_no) ds_nil) (ds_one (ds_if (dt_not (dt_ch o_le o_lt de_int (de_ix (de_var 2) de_int) (de_var 0))) (ds_one ds_no) ds_nil))))
theorem sc_looked : FnScope ["machine", "rooms", "signs", "rules", "told", "rule"] ["machine"] (defScope st_looked) := ⟨rfl, rfl, rfl, by decide +kernel, rfl, by decide +kernel, by decide +kernel⟩
set_option maxHeartbeats 4000000 in
theorem ok_looked (G : Fun K "looked" "looked" st_looked f fd) (hm : mg "looked" = some (.ref f)) (hn : PySem.W.nsIn K mainGlobals "looked" = some (some (.ref f))) (c_look_at_rule : Cal P w K mg base 1 "look_at_rule" ["rooms", "signs", "rule"] (F_look_at_rule)) (m_len : mg "len" = none) {t_FEWEST_ROOMS : Tok} (m_FEWEST_ROOMS : mg "FEWEST_ROOMS" = some (.int 1 t_FEWEST_ROOMS)) {t_FEWEST_SIGNS : Tok} (m_FEWEST_SIGNS : mg "FEWEST_SIGNS" = some (.int 2 t_FEWEST_SIGNS)) {t_MOST_ROOMS : Tok} (m_MOST_ROOMS : mg "MOST_ROOMS" = some (.int 6 t_MOST_ROOMS)) {t_MOST_SIGNS : Tok} (m_MOST_SIGNS : mg "MOST_SIGNS" = some (.int 4 t_MOST_SIGNS)) : Cal P w K mg base 2 "looked" ["machine"] F_looked :=
  cal_of (k := 1) G hm hn sc_looked (fun _ _ _ _ _ _ us hl => match us, hl with | [_], _ => rfl) fun cdv A outer s H E hr =>
    have nd := sc_looked.nd
    (ds_cons (ds_set 1 nd (de_ix (de_var 0) de_int)) (ds_cons (ds_set 2 nd (de_ix (de_var 0) de_int)) (ds_cons (ds_set 3 nd (de_ix (de_var 0) de_int)) (ds_cons (ds_if (dt_not (dt_ch o_le o_le (de_globI rfl m_FEWEST_ROOMS) (de_var 1) (de_globI rfl m_MOST_ROOMS))) (ds_one ds_no) ds_nil) (ds_cons (ds_if (dt_not (dt_ch o_le o_le (de_globI rfl m_FEWEST_SIGNS) (de_var 2) (de_globI rfl m_MOST_SIGNS))) (ds_one ds_no) ds_nil) (ds_cons (ds_if (dt_cmp o_ne (de_bi c_len rfl m_len bt_len (da_cons (de_var 3) da_nil)) (de_op o_mul (de_var 1) (de_var 2)) (nomark _)) (ds_one ds_no) ds_nil) (ds_cons (ds_setC 4 nd (cp_ok (cs := []) (ns := []) rfl (by with_unfolding_all rfl) (by decide +kernel) (by decide +kernel) rfl rfl (by decide +kernel) rfl (List.forall_mem_nil _) (List.forall_mem_nil _)) rfl (fun _ _ _ _ => ⟨(tst_one (dt_cmp o_isnot (de_var 0) de_non (nomark _))), (de_var 0)⟩) (dc_any (de_var 3))) (ds_cons (ds_forV 5 4 PassesOwn.never rfl nd (ds_one (ds_ex (de_call c_look_at_rule hr (by omega) rfl (da_cons (de_var 1) (da_cons (de_var 2) (da_cons (de_var 5) da_nil))))))) (ds_one (ds_ret (de_bi c_len rfl m_len bt_len (da_cons (de_var 4) da_nil))))))))))))
theorem sc_shown_rule : FnScope ["rule", "write", "way", "room"] ["rule"] (defScope st_shown_rule) := ⟨rfl, rfl, rfl, by decide +kernel, rfl, by decide +kernel, by decide +kernel⟩
set_option maxHeartbeats 4000000 in
theorem ok_shown_rule (G : Fun K "shown_rule" "shown_rule" st_shown_rule f fd) (hm : mg "shown_rule" = some (.ref f)) (hn : PySem.W.nsIn K mainGlobals "shown_rule" = some (some (.ref f))) {t_NO_RULE : Tok} (m_NO_RULE : mg "NO_RULE" = some (.str "-" t_NO_RULE)) {t_WAYS : Tok} (m_WAYS : mg "WAYS" = some (.str "<>" t_WAYS)) : Cal P w K mg base 1 "shown_rule" ["rule"] F_shown_rule :=
  cal_of (k := 0) G hm hn sc_shown_rule (fun _ _ _ _ _ _ us hl => match us, hl with | [_], _ => rfl) fun cdv A outer s H E hr =>
    have nd := sc_shown_rule.nd
    (ds_cons (ds_if (dt_cmp o_is (de_var 0) de_non (nomark _)) (ds_one (ds_ret (de_globS rfl m_NO_RULE))) ds_nil) (ds_cons (ds_set 1 nd (de_ixS (de_var 0) de_int)) (ds_cons (ds_set 2 nd (de_ixS (de_globS rfl m_WAYS) (de_ixS (de_var 0) de_int))) (ds_cons (ds_set 3 nd (de_ixS (de_var 0) de_int)) (ds_one (ds_ret (de_js (.cons (fp_val (de_var 1)) (.cons (fp_val (de_var 2)) (.cons (fp_val (de_var 3)) .nil))))))))))
theorem sc_shown : FnScope ["machine", "rooms", "signs", "words"] ["machine"] (defScope st_shown) := ⟨rfl, rfl, rfl, by decide +kernel, rfl, by decide +kernel, by decide +kernel⟩
set_option maxHeartbeats 4000000 in
theorem ok_shown (G : Fun K "shown" "shown" st_shown f fd) (hm : mg "shown" = some (.ref f)) (hn : PySem.W.nsIn K mainGlobals "shown" = some (some (.ref f))) (c_shown_rule : Cal P w K mg base 1 "shown_rule" ["rule"] (F_shown_rule)) : Cal P w K mg base 2 "shown" ["machine"] F_shown :=
  cal_of (k := 1) G hm hn sc_shown (fun _ _ _ _ _ _ us hl => match us, hl with | [_], _ => rfl) fun cdv A outer s H E hr =>
    have nd := sc_shown.nd
    (ds_cons (ds_set 1 nd (de_ixS (de_var 0) de_int)) (ds_cons (ds_set 2 nd (de_ixS (de_var 0) de_int)) (ds_cons (ds_set 3 nd (de_lst (da_cons (de_js (.cons (fp_val (de_var 1)) (.cons fp_str (.cons (fp_val (de_var 2)) (.cons fp_str .nil))))) da_nil))) (ds_cons (ds_ext 3 (de_comp (cp_ok (cs := []) (ns := []) rfl (by with_unfolding_all rfl) (by decide +kernel) (by decide +kernel) rfl rfl (by decide +kernel) rfl (List.forall_mem_nil _) (List.forall_mem_nil _)) rfl (fun _ _ _ _ => ⟨tst_nil, (de_call c_shown_rule hr (by omega) rfl (da_cons (de_var 0) da_nil))⟩) (dc_any (de_ixS (de_var 0) de_int)))) (ds_one (ds_ret (de_joinS de_str (de_var 3))))))))
theorem sc_figure : FnScope ["word"] ["word"] (defScope st_figure) := ⟨rfl, rfl, rfl, by decide +kernel, rfl, by decide +kernel, by decide +kernel⟩
set_option maxHeartbeats 4000000 in
theorem ok_figure (G : Fun K "figure" "figure" st_figure f fd) (hm : mg "figure" = some (.ref f)) (hn : PySem.W.nsIn K mainGlobals "figure" = some (some (.ref f))) (m_len : mg "len" = none) {t_FIGURES : Tok} (m_FIGURES : mg "FIGURES" = some (.str "0123456789" t_FIGURES)) : Cal P w K mg base 1 "figure" ["word"] F_figure :=
  cal_of (k := 0) G hm hn sc_figure (fun _ _ _ _ _ _ us hl => match us, hl with | [_], _ => rfl) fun cdv A outer s H E hr =>
    have nd := sc_figure.nd
    (ds_cons (ds_if (dw_dt (dw_or (dt_cmp o_ne (de_bi c_lenS rfl m_len bt_len (da_cons (de_var 0) da_nil)) de_int (nomark _)) (dw_or1 (dt_cmp o_notInS (de_var 0) (de_globS rfl m_FIGURES) (by rfl))))) (ds_one ds_no) ds_nil) (ds_one (ds_ret (de_idxS (de_globS rfl m_FIGURES) (de_var 0)))))
theorem sc_rule_of : FnScope ["word"] ["word"] (defScope st_rule_of) := ⟨rfl, rfl, rfl, by decide +kernel, rfl, by decide +kernel, by decide +kernel⟩
set_option maxHeartbeats 4000000 in
theorem ok_rule_of (G : Fun K "rule_of" "rule_of" st_rule_of f fd) (hm : mg "rule_of" = some (.ref f)) (hn : PySem.W.nsIn K mainGlobals "rule_of" = some (some (.ref f))) (c_figure : Cal P w K mg base 1 "figure" ["word"] (F_figure)) (m_len : mg "len" = none) {t_NO_RULE : Tok} (m_NO_RULE : mg "NO_RULE" = some (.str "-" t_NO_RULE)) {t_WAYS : Tok} (m_WAYS : mg "WAYS" = some (.str "<>" t_WAYS)) : Cal P w K mg base 2 "rule_of" ["word"] F_rule_of :=
  cal_of (k := 1) G hm hn sc_rule_of (fun _ _ _ _ _ _ us hl => match us, hl with | [_], _ => rfl) fun cdv A outer s H E hr =>
    have nd := sc_rule_of.nd
    (ds_cons (ds_if (dt_cmp o_eq (de_var 0) (de_globS rfl m_NO_RULE) (nomark _)) (ds_one (ds_ret de_non)) ds_nil) (ds_cons (ds_if (dw_dt (dw_or (dt_cmp o_ne (de_bi c_lenS rfl m_len bt_len (da_cons (de_var 0) da_nil)) de_int (nomark _)) (dw_or1 (dt_cmp o_notInS (de_ixS (de_var 0) de_int) (de_globS rfl m_WAYS) (by rfl))))) (ds_one ds_no) ds_nil) (ds_one (ds_ret (de_tup (da_cons (de_call c_figure hr (by omega) rfl (da_cons (de_ixS (de_var 0) de_int) da_nil)) (da_cons (de_idxS (de_globS rfl m_WAYS) (de_ixS (de_var 0) de_int)) (da_cons (de_call c_figure hr (by omega) rfl (da_cons (de_ixS (de_var 0) de_int) da_nil)) da_nil))))))))
theorem sc_read : FnScope ["text", "words", "rooms", "signs", "machine", "error"] ["text"] (defScope st_read) := ⟨rfl, rfl, rfl, by decide +kernel, rfl, by decide +kernel, by decide +kernel⟩
set_option maxHeartbeats 4000000 in
theorem ok_read (G : Fun K "read" "read" st_read f fd) (hm : mg "read" = some (.ref f)) (hn : PySem.W.nsIn K mainGlobals "read" = some (some (.ref f))) (c_figure : Cal P w K mg base 1 "figure" ["word"] (F_figure)) (c_looked : Cal P w K mg base 2 "looked" ["machine"] (F_looked)) (c_rule_of : Cal P w K mg base 2 "rule_of" ["word"] (F_rule_of)) (m_len : mg "len" = none) (m_tuple : mg "tuple" = none) : Cal P w K mg base 3 "read" ["text"] F_read :=
  cal_of (k := 2) G hm hn sc_read (fun _ _ _ _ _ _ us hl => match us, hl with | [_], _ => rfl) fun cdv A outer s H E hr =>
    have nd := sc_read.nd
    (ds_cons (ds_set 1 nd (de_splitS (de_var 0) de_str)) (ds_cons (ds_if (dw_dt (dw_or (dt_cmp o_lt (de_bi c_lenS rfl m_len bt_len (da_cons (de_var 1) da_nil)) de_int (nomark _)) (dw_or1 (dt_not (dt_val (de_endS (de_ixS (de_var 1) de_int) de_str)))))) (ds_one ds_no) ds_nil) (ds_cons (ds_set 2 nd (de_call c_figure hr (by omega) rfl (da_cons (de_ixS (de_var 1) de_int) da_nil))) (ds_cons (ds_set 3 nd (de_call c_figure hr (by omega) rfl (da_cons (de_slS (de_ixS (de_var 1) de_int) do_none (do_some (de_un u_neg de_int))) da_nil))) (ds_cons (ds_set 4 nd (de_tup (da_cons (de_var 2) (da_cons (de_var 3) (da_cons (de_ty c_tuple rfl m_tuple bt_tuple (da_cons (de_comp (cp_ok (cs := []) (ns := []) rfl (by with_unfolding_all rfl) (by decide +kernel) (by decide +kernel) rfl rfl (by decide +kernel) rfl (List.forall_mem_nil _) (List.forall_mem_nil _)) rfl (fun _ _ _ _ => ⟨tst_nil, (de_call c_rule_of hr (by omega) rfl (da_cons (de_var 0) da_nil))⟩) (dc_any (de_slS (de_var 1) (do_some de_int) do_none))) da_nil)) da_nil))))) (ds_cons (ds_tryN (fun _ _ z => z) (ds_one (ds_ex (de_call c_looked hr (by omega) rfl (da_cons (de_var 4) da_nil))))) (ds_one (ds_retV 4))))))))
theorem sc_law_cell_at : FnScope ["script", "k"] ["script", "k"] (defScope st_law_cell_at) := ⟨rfl, rfl, rfl, by decide +kernel, rfl, by decide +kernel, by decide +kernel⟩
set_option maxHeartbeats 4000000 in
theorem ok_law_cell_at (G : Fun K "_law_cell_at" "_law_cell_at" st_law_cell_at f fd) (hm : mg "_law_cell_at" = some (.ref f)) (hn : PySem.W.nsIn K mainGlobals "_law_cell_at" = some (some (.ref f))) (m_len : mg "len" = none) : Cal P w K mg base 1 "_law_cell_at" ["script", "k"] F_law_cell_at :=
  cal_of (k := 0) G hm hn sc_law_cell_at (fun _ _ _ _ _ _ us hl => match us, hl with | [_, _], _ => rfl) fun cdv A outer s H E hr =>
    have nd := sc_law_cell_at.nd
    (ds_cons (ds_if (dt_cmp o_lt (de_var 1) (de_bi c_len rfl m_len bt_len (da_cons (de_var 0) da_nil)) (nomark _)) (ds_one (ds_ret (de_ix (de_var 0) (de_var 1)))) ds_nil) (ds_one (ds_ret de_int)))
theorem sc_law_pick : FnScope ["script", "k"] ["script", "k"] (defScope st_law_pick) := ⟨rfl, rfl, rfl, by decide +kernel, rfl, by decide +kernel, by decide +kernel⟩
set_option maxHeartbeats 4000000 in
theorem ok_law_pick (G : Fun K "_law_pick" "_law_pick" st_law_pick f fd) (hm : mg "_law_pick" = some (.ref f)) (hn : PySem.W.nsIn K mainGlobals "_law_pick" = some (some (.ref f))) (c_law_cell_at : Cal P w K mg base 1 "_law_cell_at" ["script", "k"] (F_law_cell_at)) (m_len : mg "len" = none) : Cal P w K mg base 2 "_law_pick" ["script", "k"] F_law_pick :=
  cal_of (k := 1) G hm hn sc_law_pick (fun _ _ _ _ _ _ us hl => match us, hl with | [_, _], _ => rfl) fun cdv A outer s H E hr =>
    have nd := sc_law_pick.nd
    (ds_cons (ds_if (dt_cmp o_lt (de_var 1) (de_bi c_len rfl m_len bt_len (da_cons (de_var 0) da_nil)) (nomark _)) (ds_one (ds_ret (de_ix (de_var 0) (de_var 1)))) ds_nil) (ds_one (ds_ret (de_op o_div (de_op o_mod (de_op o_mul (de_op o_add (de_op o_add (de_call c_law_cell_at hr (by omega) rfl (da_cons (de_var 0) (da_cons de_int da_nil))) (de_op o_mul de_int (de_var 1))) de_int) de_int) de_int) de_int))))
theorem sc_law_whole : FnScope ["x"] ["x"] (defScope st_law_whole) := ⟨rfl, rfl, rfl, by decide +kernel, rfl, by decide +kernel, by decide +kernel⟩
set_option maxHeartbeats 4000000 in
theorem ok_law_whole (G : Fun K "_law_whole" "_law_whole" st_law_whole f fd) (hm : mg "_law_whole" = some (.ref f)) (hn : PySem.W.nsIn K mainGlobals "_law_whole" = some (some (.ref f))) (m_bool : mg "bool" = none) (m_int : mg "int" = none) (m_isinstance : mg "isinstance" = none) : Cal P w K mg base 1 "_law_whole" ["x"] F_law_whole :=
  cal_of (k := 0) G hm hn sc_law_whole (fun _ _ _ _ _ _ us hl => match us, hl with | [_], _ => rfl) fun cdv A outer s H E hr =>
    have nd := sc_law_whole.nd
    (ds_one (ds_ret (de_and (de_isi .int bt_int (de_var 0) rfl m_isinstance rfl m_int) (de_one (de_not (de_isi .bool bt_bool (de_var 0) rfl m_isinstance rfl m_bool))))))
theorem sc_law_mix : FnScope ["cell", "k"] ["cell", "k"] (defScope st_law_mix) := ⟨rfl, rfl, rfl, by decide +kernel, rfl, by decide +kernel, by decide +kernel⟩
set_option maxHeartbeats 4000000 in
theorem ok_law_mix (G : Fun K "_law_mix" "_law_mix" st_law_mix f fd) (hm : mg "_law_mix" = some (.ref f)) (hn : PySem.W.nsIn K mainGlobals "_law_mix" = some (some (.ref f)))  : Cal P w K mg base 1 "_law_mix" ["cell", "k"] F_law_mix :=
  cal_of (k := 0) G hm hn sc_law_mix (fun _ _ _ _ _ _ us hl => match us, hl with | [_, _], _ => rfl) fun cdv A outer s H E hr =>
    have nd := sc_law_mix.nd
    (ds_one (ds_ret (de_op o_mod (de_op o_add (de_op o_mul (de_var 0) de_int) (de_op o_mul (de_var 1) de_int)) de_int)))
theorem sc_law_machine : FnScope ["script", "start", "rooms", "signs", "rules", "k", "number"] ["script", "start", "rooms", "signs"] (defScope st_law_machine) := ⟨rfl, rfl, rfl, by decide +kernel, rfl, by decide +kernel, by decide +kernel⟩
set_option maxHeartbeats 4000000 in
theorem ok_law_machine (G : Fun K "_law_machine" "_law_machine" st_law_machine f fd) (hm : mg "_law_machine" = some (.ref f)) (hn : PySem.W.nsIn K mainGlobals "_law_machine" = some (some (.ref f))) (c_law_mix : Cal P w K mg base 1 "_law_mix" ["cell", "k"] (F_law_mix)) (c_law_pick : Cal P w K mg base 2 "_law_pick" ["script", "k"] (F_law_pick)) (m_range : mg "range" = none) (m_tuple : mg "tuple" = none) : Cal P w K mg base 3 "_law_machine" ["script", "start", "rooms", "signs"] F_law_machine :=
  cal_of (k := 2) G hm hn sc_law_machine (fun _ _ _ _ _ _ us hl => match us, hl with | [_, _, _, _], _ => rfl) fun cdv A outer s H E hr =>
    have nd := sc_law_machine.nd
    (ds_cons (ds_set 4 nd (de_lst da_nil)) (ds_cons (ds_for 5 PassesOwn.never rfl nd (di_to (de_op o_mul (de_var 2) (de_var 3)) rfl m_range) (ds_cons (ds_set 6 nd (de_call c_law_mix hr (by omega) rfl (da_cons (de_call c_law_pick hr (by omega) rfl (da_cons (de_var 0) (da_cons (de_op o_add (de_var 1) (de_var 5)) da_nil))) (da_cons (de_var 5) da_nil)))) (ds_one (ds_if (dt_cmp o_eq (de_op o_mod (de_var 6) de_int) de_int (nomark _)) (ds_one (ds_app 4 de_non)) (ds_one (ds_app 4 (de_tup (da_cons (de_op o_mod (de_op o_div (de_var 6) de_int) (de_var 3)) (da_cons (de_op o_mod (de_op o_div (de_var 6) de_int) de_int) (da_cons (de_op o_mod (de_op o_div (de_var 6) de_int) (de_var 2)) da_nil)))))))))) (ds_one (ds_ret (de_tup (da_cons (de_var 2) (da_cons (de_var 3) (da_cons (de_ty c_tuple rfl m_tuple bt_tuple (da_cons (de_var 4) da_nil)) da_nil))))))))
theorem sc_law_same : FnScope ["found", "due"] ["found", "due"] (defScope st_law_same) := ⟨rfl, rfl, rfl, by decide +kernel, rfl, by decide +kernel, by decide +kernel⟩
set_option maxHeartbeats 4000000 in
theorem ok1_law_same {F : Fn} {k : Nat} (hk : 1 ≤ k) (G : Fun K "_law_same" "_law_same" st_law_same f fd) (hm : mg "_law_same" = some (.ref f)) (hn : PySem.W.nsIn K mainGlobals "_law_same" = some (some (.ref f))) (c_law_same : Cal P w K mg base k "_law_same" ["found", "due"] F) (c_law_whole : Cal P w K mg base 1 "_law_whole" ["x"] (F_law_whole)) (m_all : mg "all" = none) (m_isinstance : mg "isinstance" = none) (m_len : mg "len" = none) (m_range : mg "range" = none) (m_str : mg "str" = none) (m_tuple : mg "tuple" = none) : Cal P w K mg base (k + 1) "_law_same" ["found", "due"] (fn 2 2 (B_law_same F)) :=
  cal_of G hm hn sc_law_same (fun _ _ _ _ _ _ us hl => match us, hl with | [_, _], _ => rfl) fun cdv A outer s H E hr =>
    have nd := sc_law_same.nd
    (ds_cons (ds_if (dt_val (de_isi .tuple bt_tuple (de_var 1) rfl m_isinstance rfl m_tuple)) (ds_cons (ds_if (dw_dt (dw_or (dt_not (dt_val (de_isi .tuple bt_tuple (de_var 0) rfl m_isinstance rfl m_tuple))) (dw_or1 (dt_cmp o_ne (de_bi c_len rfl m_len bt_len (da_cons (de_var 0) da_nil)) (de_bi c_len rfl m_len bt_len (da_cons (de_var 1) da_nil)) (nomark _))))) (ds_one (ds_ret de_bl)) ds_nil) (ds_one (ds_ret (de_bi (c_all rfl) rfl m_all bt_all (da_cons (de_comp (cp_ok (cs := [0, 1]) (ns := ["found", "due"]) rfl (by with_unfolding_all rfl) (by decide +kernel) (by decide +kernel) rfl rfl (by decide +kernel) rfl (List.forall_mem_cons.mpr ⟨(by decide : 0 < 2), List.forall_mem_cons.mpr ⟨(by decide : 1 < 2), List.forall_mem_nil _⟩⟩) (List.forall_mem_cons.mpr ⟨⟨rfl, rfl⟩, List.forall_mem_cons.mpr ⟨⟨rfl, rfl⟩, List.forall_mem_nil _⟩⟩)) rfl (fun _ _ _ _ => ⟨tst_nil, (de_call c_law_same hr (by omega) rfl (da_cons (de_ix (de_var 1) (de_var 0)) (da_cons (de_ix (de_var 2) (de_var 0)) da_nil)))⟩) (dc_of (di_to (de_bi c_len rfl m_len bt_len (da_cons (de_var 1) da_nil)) rfl m_range))) da_nil))))) ds_nil) (ds_cons (ds_if (dw_dt (dw_or (dt_cmp o_is (de_var 1) de_non (nomark _)) (dw_or1 (dt_val (de_isi .str bt_str (de_var 1) rfl m_isinstance rfl m_str))))) (ds_one (ds_ret (de_cmp o_eq (de_var 0) (de_var 1) (nomark _)))) ds_nil) (ds_one (ds_ret (de_and (de_call c_law_whole hr (by omega) rfl (da_cons (de_var 0) da_nil)) (de_one (de_cmp o_eq (de_var 0) (de_var 1) (nomark _))))))))
theorem ok_law_same (G : Fun K "_law_same" "_law_same" st_law_same f fd) (hm : mg "_law_same" = some (.ref f)) (hn : PySem.W.nsIn K mainGlobals "_law_same" = some (some (.ref f))) (c_law_whole : Cal P w K mg base 1 "_law_whole" ["x"] (F_law_whole)) (m_all : mg "all" = none) (m_isinstance : mg "isinstance" = none) (m_len : mg "len" = none) (m_range : mg "range" = none) (m_str : mg "str" = none) (m_tuple : mg "tuple" = none) : ∀ n, Cal P w K mg base (2 + n) "_law_same" ["found", "due"] (F_law_same n)
  | 0 => cal_zero G hm hn (fun _ _ _ _ _ _ us hl => match us, hl with | [_, _], _ => rfl)
  | n + 1 => ok1_law_same (k := 2 + n) (by omega) G hm hn (ok_law_same G hm hn c_law_whole m_all m_isinstance m_len m_range m_str m_tuple n) c_law_whole m_all m_isinstance m_len m_range m_str m_tuple
theorem sc_law : FnScope ["script", "machine", "due", "rule", "word", "found"] ["script"] (defScope st_law) := ⟨rfl, rfl, rfl, by decide +kernel, rfl, by decide +kernel, by decide +kernel⟩
set_option maxHeartbeats 4000000 in
theorem ok_law (G : Fun K "law" "law" st_law f fd) (c_law_machine : Cal P w K mg base 3 "_law_machine" ["script", "start", "rooms", "signs"] (F_law_machine)) (c_shown : Cal P w K mg base 2 "shown" ["machine"] (F_shown)) (c_law_same : Cal P w K mg base 6 "_law_same" ["found", "due"] (F_law_same 4)) (c_read : Cal P w K mg base 3 "read" ["text"] (F_read)) (c_law_cell_at : Cal P w K mg base 1 "_law_cell_at" ["script", "k"] (F_law_cell_at)) (m_isinstance : mg "isinstance" = none) (m_str : mg "str" = none) : FnOk P w K mg base CX0 7 f fd ["script"] (spD K F_law) :=
  fnok_of (k := 6) G sc_law fun cdv A outer s H E hr =>
    have nd := sc_law.nd
    (ds_cons (ds_set 1 nd (de_call c_law_machine hr (by omega) rfl (da_cons (de_var 0) (da_cons de_int (da_cons (de_op o_add de_int (de_op o_mod (de_call c_law_cell_at hr (by omega) rfl (da_cons (de_var 0) (da_cons de_int da_nil))) de_int)) (da_cons (de_op o_add de_int (de_op o_mod (de_op o_div (de_call c_law_cell_at hr (by omega) rfl (da_cons (de_var 0) (da_cons de_int da_nil))) de_int) de_int)) da_nil)))))) (ds_cons (ds_set 2 nd (de_op o_addS (de_op o_addS (de_op o_addS (de_ty c_str rfl m_str bt_str (da_cons (de_ixS (de_var 1) de_int) da_nil)) de_str) (de_ty c_str rfl m_str bt_str (da_cons (de_ixS (de_var 1) de_int) da_nil))) de_str)) (ds_cons (ds_for 3 PassesOwn.never rfl nd (di_seq (de_ixS (de_var 1) de_int)) (ds_cons (ds_set 4 nd de_str) (ds_cons (ds_if (dt_cmp o_isnot (de_var 3) de_non (nomark _)) (ds_one (ds_set 4 nd (de_op o_addS (de_op o_addS (de_ty c_str rfl m_str bt_str (da_cons (de_ixS (de_var 3) de_int) da_nil)) (de_ixS (de_lst (da_cons de_str (da_cons de_str da_nil))) (de_ixS (de_var 3) de_int))) (de_ty c_str rfl m_str bt_str (da_cons (de_ixS (de_var 3) de_int) da_nil))))) ds_nil) (ds_one (ds_set 2 nd (de_op o_addS (de_op o_addS (de_var 2) de_str) (de_var 4))))))) (ds_cons (ds_set 5 nd (de_call c_shown hr (by omega) rfl (da_cons (de_var 1) da_nil))) (ds_one (ds_ret (de_and (de_isi .str bt_str (de_var 5) rfl m_isinstance rfl m_str) (de_and (de_cmp o_eq (de_var 5) (de_var 2) (nomark _)) (de_one (de_call c_law_same hr (by omega) rfl (da_cons (de_call c_read hr (by omega) rfl (da_cons (de_var 2) da_nil)) (da_cons (de_var 1) da_nil))))))))))))
end
/-! the top -/
def spLaw (K : PySem.W.Frag) : Sp := spD K F_law
theorem all_mk {l : PySem.W.OpenLaw} {w : World} {K : PySem.W.Frag} {h : Heap} {mg : Str → Option Value} {fa : Addr} (X : K.In h) (G : h.Ns mainGlobals mg) (hfa : mg "law" = some (.ref fa))
    {f1 : Addr} {od1 an1 : Option Addr} {sl1 : Array (Option Value)} {oc1 kV1 dc1 pm1 cd1 ct1 : Value} {f2 : Addr} {od2 an2 : Option Addr} {sl2 : Array (Option Value)} {oc2 kV2 dc2 pm2 cd2 ct2 : Value} {f3 : Addr} {od3 an3 : Option Addr} {sl3 : Array (Option Value)} {oc3 kV3 dc3 pm3 cd3 ct3 : Value} {f4 : Addr} {od4 an4 : Option Addr} {sl4 : Array (Option Value)} {oc4 kV4 dc4 pm4 cd4 ct4 : Value} {f5 : Addr} {od5 an5 : Option Addr} {sl5 : Array (Option Value)} {oc5 kV5 dc5 pm5 cd5 ct5 : Value} {f6 : Addr} {od6 an6 : Option Addr} {sl6 : Array (Option Value)} {oc6 kV6 dc6 pm6 cd6 ct6 : Value} {f7 : Addr} {od7 an7 : Option Addr} {sl7 : Array (Option Value)} {oc7 kV7 dc7 pm7 cd7 ct7 : Value} {f8 : Addr} {od8 an8 : Option Addr} {sl8 : Array (Option Value)} {oc8 kV8 dc8 pm8 cd8 ct8 : Value} {f9 : Addr} {od9 an9 : Option Addr} {sl9 : Array (Option Value)} {oc9 kV9 dc9 pm9 cd9 ct9 : Value} {f10 : Addr} {od10 an10 : Option Addr} {sl10 : Array (Option Value)} {oc10 kV10 dc10 pm10 cd10 ct10 : Value} {f11 : Addr} {od11 an11 : Option Addr} {sl11 : Array (Option Value)} {oc11 kV11 dc11 pm11 cd11 ct11 : Value} {f12 : Addr} {od12 an12 : Option Addr} {sl12 : Array (Option Value)} {oc12 kV12 dc12 pm12 cd12 ct12 : Value} {f13 : Addr} {od13 an13 : Option Addr} {sl13 : Array (Option Value)} {oc13 kV13 dc13 pm13 cd13 ct13 : Value} {f14 : Addr} {od14 an14 : Option Addr} {sl14 : Array (Option Value)} {oc14 kV14 dc14 pm14 cd14 ct14 : Value} {t_FEWEST_ROOMS : Tok} {t_FEWEST_SIGNS : Tok} {t_FIGURES : Tok} {t_LEFT : Tok} {t_MOST_ROOMS : Tok} {t_MOST_SIGNS : Tok} {t_NO_RULE : Tok} {t_RIGHT : Tok} {t_WAYS : Tok}
    (a1 : PySem.W.nsIn K mainGlobals "look_at_rule" = some (some (.ref f1))) (l1 : K.lookup f1 = some ⟨oc1, od1, .func (PySem.W.fnOf "look_at_rule" "look_at_rule" (defArgs st_look_at_rule) (defBody st_look_at_rule) (defScope st_look_at_rule) .none kV1 dc1 pm1 an1 cd1 ct1), sl1⟩) (c1 : PySem.W.codeIn K cd1 "look_at_rule" = true) (k1 : PySem.W.keepIn K (.ref f1) = true)
    (a2 : PySem.W.nsIn K mainGlobals "looked" = some (some (.ref f2))) (l2 : K.lookup f2 = some ⟨oc2, od2, .func (PySem.W.fnOf "looked" "looked" (defArgs st_looked) (defBody st_looked) (defScope st_looked) .none kV2 dc2 pm2 an2 cd2 ct2), sl2⟩) (c2 : PySem.W.codeIn K cd2 "looked" = true) (k2 : PySem.W.keepIn K (.ref f2) = true)
    (a3 : PySem.W.nsIn K mainGlobals "shown_rule" = some (some (.ref f3))) (l3 : K.lookup f3 = some ⟨oc3, od3, .func (PySem.W.fnOf "shown_rule" "shown_rule" (defArgs st_shown_rule) (defBody st_shown_rule) (defScope st_shown_rule) .none kV3 dc3 pm3 an3 cd3 ct3), sl3⟩) (c3 : PySem.W.codeIn K cd3 "shown_rule" = true) (k3 : PySem.W.keepIn K (.ref f3) = true)
    (a4 : PySem.W.nsIn K mainGlobals "shown" = some (some (.ref f4))) (l4 : K.lookup f4 = some ⟨oc4, od4, .func (PySem.W.fnOf "shown" "shown" (defArgs st_shown) (defBody st_shown) (defScope st_shown) .none kV4 dc4 pm4 an4 cd4 ct4), sl4⟩) (c4 : PySem.W.codeIn K cd4 "shown" = true) (k4 : PySem.W.keepIn K (.ref f4) = true)
    (a5 : PySem.W.nsIn K mainGlobals "figure" = some (some (.ref f5))) (l5 : K.lookup f5 = some ⟨oc5, od5, .func (PySem.W.fnOf "figure" "figure" (defArgs st_figure) (defBody st_figure) (defScope st_figure) .none kV5 dc5 pm5 an5 cd5 ct5), sl5⟩) (c5 : PySem.W.codeIn K cd5 "figure" = true) (k5 : PySem.W.keepIn K (.ref f5) = true)
    (a6 : PySem.W.nsIn K mainGlobals "rule_of" = some (some (.ref f6))) (l6 : K.lookup f6 = some ⟨oc6, od6, .func (PySem.W.fnOf "rule_of" "rule_of" (defArgs st_rule_of) (defBody st_rule_of) (defScope st_rule_of) .none kV6 dc6 pm6 an6 cd6 ct6), sl6⟩) (c6 : PySem.W.codeIn K cd6 "rule_of" = true) (k6 : PySem.W.keepIn K (.ref f6) = true)
    (a7 : PySem.W.nsIn K mainGlobals "read" = some (some (.ref f7))) (l7 : K.lookup f7 = some ⟨oc7, od7, .func (PySem.W.fnOf "read" "read" (defArgs st_read) (defBody st_read) (defScope st_read) .none kV7 dc7 pm7 an7 cd7 ct7), sl7⟩) (c7 : PySem.W.codeIn K cd7 "read" = true) (k7 : PySem.W.keepIn K (.ref f7) = true)
    (a8 : PySem.W.nsIn K mainGlobals "_law_cell_at" = some (some (.ref f8))) (l8 : K.lookup f8 = some ⟨oc8, od8, .func (PySem.W.fnOf "_law_cell_at" "_law_cell_at" (defArgs st_law_cell_at) (defBody st_law_cell_at) (defScope st_law_cell_at) .none kV8 dc8 pm8 an8 cd8 ct8), sl8⟩) (c8 : PySem.W.codeIn K cd8 "_law_cell_at" = true) (k8 : PySem.W.keepIn K (.ref f8) = true)
    (a9 : PySem.W.nsIn K mainGlobals "_law_pick" = some (some (.ref f9))) (l9 : K.lookup f9 = some ⟨oc9, od9, .func (PySem.W.fnOf "_law_pick" "_law_pick" (defArgs st_law_pick) (defBody st_law_pick) (defScope st_law_pick) .none kV9 dc9 pm9 an9 cd9 ct9), sl9⟩) (c9 : PySem.W.codeIn K cd9 "_law_pick" = true) (k9 : PySem.W.keepIn K (.ref f9) = true)
    (a10 : PySem.W.nsIn K mainGlobals "_law_whole" = some (some (.ref f10))) (l10 : K.lookup f10 = some ⟨oc10, od10, .func (PySem.W.fnOf "_law_whole" "_law_whole" (defArgs st_law_whole) (defBody st_law_whole) (defScope st_law_whole) .none kV10 dc10 pm10 an10 cd10 ct10), sl10⟩) (c10 : PySem.W.codeIn K cd10 "_law_whole" = true) (k10 : PySem.W.keepIn K (.ref f10) = true)
    (a11 : PySem.W.nsIn K mainGlobals "_law_mix" = some (some (.ref f11))) (l11 : K.lookup f11 = some ⟨oc11, od11, .func (PySem.W.fnOf "_law_mix" "_law_mix" (defArgs st_law_mix) (defBody st_law_mix) (defScope st_law_mix) .none kV11 dc11 pm11 an11 cd11 ct11), sl11⟩) (c11 : PySem.W.codeIn K cd11 "_law_mix" = true) (k11 : PySem.W.keepIn K (.ref f11) = true)
    (a12 : PySem.W.nsIn K mainGlobals "_law_machine" = some (some (.ref f12))) (l12 : K.lookup f12 = some ⟨oc12, od12, .func (PySem.W.fnOf "_law_machine" "_law_machine" (defArgs st_law_machine) (defBody st_law_machine) (defScope st_law_machine) .none kV12 dc12 pm12 an12 cd12 ct12), sl12⟩) (c12 : PySem.W.codeIn K cd12 "_law_machine" = true) (k12 : PySem.W.keepIn K (.ref f12) = true)
    (a13 : PySem.W.nsIn K mainGlobals "_law_same" = some (some (.ref f13))) (l13 : K.lookup f13 = some ⟨oc13, od13, .func (PySem.W.fnOf "_law_same" "_law_same" (defArgs st_law_same) (defBody st_law_same) (defScope st_law_same) .none kV13 dc13 pm13 an13 cd13 ct13), sl13⟩) (c13 : PySem.W.codeIn K cd13 "_law_same" = true) (k13 : PySem.W.keepIn K (.ref f13) = true)
    (a14 : PySem.W.nsIn K mainGlobals "law" = some (some (.ref f14))) (l14 : K.lookup f14 = some ⟨oc14, od14, .func (PySem.W.fnOf "law" "law" (defArgs st_law) (defBody st_law) (defScope st_law) .none kV14 dc14 pm14 an14 cd14 ct14), sl14⟩) (c14 : PySem.W.codeIn K cd14 "law" = true) (k14 : PySem.W.keepIn K (.ref f14) = true)
    (z_FEWEST_ROOMS : PySem.W.nsIn K mainGlobals "FEWEST_ROOMS" = some (some (.int 1 t_FEWEST_ROOMS)))
    (z_FEWEST_SIGNS : PySem.W.nsIn K mainGlobals "FEWEST_SIGNS" = some (some (.int 2 t_FEWEST_SIGNS)))
    (z_FIGURES : PySem.W.nsIn K mainGlobals "FIGURES" = some (some (.str "0123456789" t_FIGURES)))
    (z_LEFT : PySem.W.nsIn K mainGlobals "LEFT" = some (some (.int 0 t_LEFT)))
    (z_MOST_ROOMS : PySem.W.nsIn K mainGlobals "MOST_ROOMS" = some (some (.int 6 t_MOST_ROOMS)))
    (z_MOST_SIGNS : PySem.W.nsIn K mainGlobals "MOST_SIGNS" = some (some (.int 4 t_MOST_SIGNS)))
    (z_NO_RULE : PySem.W.nsIn K mainGlobals "NO_RULE" = some (some (.str "-" t_NO_RULE)))
    (z_RIGHT : PySem.W.nsIn K mainGlobals "RIGHT" = some (some (.int 1 t_RIGHT)))
    (z_WAYS : PySem.W.nsIn K mainGlobals "WAYS" = some (some (.str "<>" t_WAYS)))
    (z_all : PySem.W.nsIn K mainGlobals "all" = some none)
    (z_bool : PySem.W.nsIn K mainGlobals "bool" = some none)
    (z_int : PySem.W.nsIn K mainGlobals "int" = some none)
    (z_isinstance : PySem.W.nsIn K mainGlobals "isinstance" = some none)
    (z_len : PySem.W.nsIn K mainGlobals "len" = some none)
    (z_range : PySem.W.nsIn K mainGlobals "range" = some none)
    (z_str : PySem.W.nsIn K mainGlobals "str" = some none)
    (z_tuple : PySem.W.nsIn K mainGlobals "tuple" = some none) :
    ∃ fd : FuncData, (∀ (s : Shared) (v : Value), BindsTo s fd ⟨[v], []⟩ [("script", v)]) ∧ ∀ base : Heap, K.In base → base.Ns mainGlobals mg → FnOk l.prog w K mg base CX0 7 fa fd ["script"] (spLaw K) := by
  have e := hfa.symm.trans (PySem.W.mg_of X G a14)
  cases e
  have G1 := fun_mk (st := st_look_at_rule) l1 c1 k1
  have G2 := fun_mk (st := st_looked) l2 c2 k2
  have G3 := fun_mk (st := st_shown_rule) l3 c3 k3
  have G4 := fun_mk (st := st_shown) l4 c4 k4
  have G5 := fun_mk (st := st_figure) l5 c5 k5
  have G6 := fun_mk (st := st_rule_of) l6 c6 k6
  have G7 := fun_mk (st := st_read) l7 c7 k7
  have G8 := fun_mk (st := st_law_cell_at) l8 c8 k8
  have G9 := fun_mk (st := st_law_pick) l9 c9 k9
  have G10 := fun_mk (st := st_law_whole) l10 c10 k10
  have G11 := fun_mk (st := st_law_mix) l11 c11 k11
  have G12 := fun_mk (st := st_law_machine) l12 c12 k12
  have G13 := fun_mk (st := st_law_same) l13 c13 k13
  have G14 := fun_mk (st := st_law) l14 c14 k14
  have m_FEWEST_ROOMS := PySem.W.mg_of X G z_FEWEST_ROOMS
  have m_FEWEST_SIGNS := PySem.W.mg_of X G z_FEWEST_SIGNS
  have m_FIGURES := PySem.W.mg_of X G z_FIGURES
  have m_LEFT := PySem.W.mg_of X G z_LEFT
  have m_MOST_ROOMS := PySem.W.mg_of X G z_MOST_ROOMS
  have m_MOST_SIGNS := PySem.W.mg_of X G z_MOST_SIGNS
  have m_NO_RULE := PySem.W.mg_of X G z_NO_RULE
  have m_RIGHT := PySem.W.mg_of X G z_RIGHT
  have m_WAYS := PySem.W.mg_of X G z_WAYS
  have m_all := PySem.W.mg_none_of X G z_all
  have m_bool := PySem.W.mg_none_of X G z_bool
  have m_int := PySem.W.mg_none_of X G z_int
  have m_isinstance := PySem.W.mg_none_of X G z_isinstance
  have m_len := PySem.W.mg_none_of X G z_len
  have m_range := PySem.W.mg_none_of X G z_range
  have m_str := PySem.W.mg_none_of X G z_str
  have m_tuple := PySem.W.mg_none_of X G z_tuple
  refine ⟨PySem.W.fnOf "law" "law" (defArgs st_law) (defBody st_law) (defScope st_law) .none kV14 dc14 pm14 an14 cd14 ct14, fun s v => .of_eq rfl, fun base _ _ => ?_⟩
  have c_look_at_rule := ok_look_at_rule (P := l.prog) (w := w) (base := base) G1 (PySem.W.mg_of X G a1) a1  m_LEFT m_RIGHT
  have c_looked := ok_looked (P := l.prog) (w := w) (base := base) G2 (PySem.W.mg_of X G a2) a2 c_look_at_rule m_len m_FEWEST_ROOMS m_FEWEST_SIGNS m_MOST_ROOMS m_MOST_SIGNS
  have c_shown_rule := ok_shown_rule (P := l.prog) (w := w) (base := base) G3 (PySem.W.mg_of X G a3) a3  m_NO_RULE m_WAYS
  have c_shown := ok_shown (P := l.prog) (w := w) (base := base) G4 (PySem.W.mg_of X G a4) a4 c_shown_rule 
  have c_figure := ok_figure (P := l.prog) (w := w) (base := base) G5 (PySem.W.mg_of X G a5) a5  m_len m_FIGURES
  have c_rule_of := ok_rule_of (P := l.prog) (w := w) (base := base) G6 (PySem.W.mg_of X G a6) a6 c_figure m_len m_NO_RULE m_WAYS
  have c_read := ok_read (P := l.prog) (w := w) (base := base) G7 (PySem.W.mg_of X G a7) a7 c_figure c_looked c_rule_of m_len m_tuple
  have c_law_cell_at := ok_law_cell_at (P := l.prog) (w := w) (base := base) G8 (PySem.W.mg_of X G a8) a8  m_len
  have c_law_pick := ok_law_pick (P := l.prog) (w := w) (base := base) G9 (PySem.W.mg_of X G a9) a9 c_law_cell_at m_len
  have c_law_whole := ok_law_whole (P := l.prog) (w := w) (base := base) G10 (PySem.W.mg_of X G a10) a10  m_bool m_int m_isinstance
  have c_law_mix := ok_law_mix (P := l.prog) (w := w) (base := base) G11 (PySem.W.mg_of X G a11) a11  
  have c_law_machine := ok_law_machine (P := l.prog) (w := w) (base := base) G12 (PySem.W.mg_of X G a12) a12 c_law_mix c_law_pick m_range m_tuple
  have c_law_same := ok_law_same (P := l.prog) (w := w) (base := base) G13 (PySem.W.mg_of X G a13) a13 c_law_whole m_all m_isinstance m_len m_range m_str m_tuple 4
  exact ok_law (P := l.prog) (w := w) (base := base) G14 c_law_machine c_shown c_law_same c_read c_law_cell_at m_isinstance m_str
theorem walk {l : PySem.W.OpenLaw} {q : Program} {loose : List Str} {XP : (Str → Option Value) → Heap → Prop} {YP : World → Heap → Prop} {d : DefRec} {K : Params → PySem.W.Frag} (hn : l.most = some 63) (hdf : d.params.defaults = [])
    (hY : ∀ (w : World) (h : Heap), YP w h → (K w.params).In h)
    (F : ∀ (w : World) (mg : Str → Option Value) (fa : Addr) (h : Heap), (K w.params).In h → h.Ns mainGlobals mg → mg d.name = some (.ref fa) →
      ∃ fd : FuncData, (∀ (s : Shared) (u : Value), BindsTo s fd ⟨[u], []⟩ [("script", u)]) ∧ ∀ base : Heap, (K w.params).In base → base.Ns mainGlobals mg → FnOk l.prog w (K w.params) mg base CX0 7 fa fd ["script"] (spLaw (K w.params))) :
    PySem.W.WalkO q loose XP YP l.row.toRowW d [] (fun f vs => PySem.call f vs) :=
  L2.walk_ofK (n := 63) (k := 7) (x := "script") (CX := CX0) (sp := spLaw) hn (by decide) hdf ⟨rfl, by decide, by decide⟩ hY F (fun K H a ns hl _ hS => ⟨[.l .bor (ns.map D.int)], .d (.bl true), ⟨.ref a, [], rfl, ⟨a, ns.map V.int, rfl, hS, HasL.ints ns⟩, (fun ds z => by cases z), rfl⟩, law_true ns hl, fun v H' _ o => by simpa only [Out, Has] using o⟩) fun _ _ _ _ z => z
end Law
open PySem PySem.W PyProof.Rows
set_option maxRecDepth 100000 in
set_option maxHeartbeats 0 in
theorem PySem.Challenge.cw_downstair_k18_shown_holds : PySem.Challenge.rw_downstair_k18_shown.Holds := by
  w_on; o_law; k_head; (case hw => w_witness2)
  k_fill
  refine Law.walk (l := PySem.Challenge.rw_downstair_k18_shown) rfl rfl (fun w h Y => PySem.W.kIn_of Y) ?F
  case F =>
    intro w mg fa h KX G hmg
    refine' Law.all_mk KX G hmg ?a1 ?l1 ?c1 ?k1 ?a2 ?l2 ?c2 ?k2 ?a3 ?l3 ?c3 ?k3 ?a4 ?l4 ?c4 ?k4 ?a5 ?l5 ?c5 ?k5 ?a6 ?l6 ?c6 ?k6 ?a7 ?l7 ?c7 ?k7 ?a8 ?l8 ?c8 ?k8 ?a9 ?l9 ?c9 ?k9 ?a10 ?l10 ?c10 ?k10 ?a11 ?l11 ?c11 ?k11 ?a12 ?l12 ?c12 ?k12 ?a13 ?l13 ?c13 ?k13 ?a14 ?l14 ?c14 ?k14 ?z_FEWEST_ROOMS ?z_FEWEST_SIGNS ?z_FIGURES ?z_LEFT ?z_MOST_ROOMS ?z_MOST_SIGNS ?z_NO_RULE ?z_RIGHT ?z_WAYS ?z_all ?z_bool ?z_int ?z_isinstance ?z_len ?z_range ?z_str ?z_tuple
    (case a1 => k_is)
    (case l1 => k_is)
    (case c1 => k_is)
    (case k1 => k_is)
    (case a2 => k_is)
    (case l2 => k_is)
    (case c2 => k_is)
    (case k2 => k_is)
    (case a3 => k_is)
    (case l3 => k_is)
    (case c3 => k_is)
    (case k3 => k_is)
    (case a4 => k_is)
    (case l4 => k_is)
    (case c4 => k_is)
    (case k4 => k_is)
    (case a5 => k_is)
    (case l5 => k_is)
    (case c5 => k_is)
    (case k5 => k_is)
    (case a6 => k_is)
    (case l6 => k_is)
    (case c6 => k_is)
    (case k6 => k_is)
    (case a7 => k_is)
    (case l7 => k_is)
    (case c7 => k_is)
    (case k7 => k_is)
    (case a8 => k_is)
    (case l8 => k_is)
    (case c8 => k_is)
    (case k8 => k_is)
    (case a9 => k_is)
    (case l9 => k_is)
    (case c9 => k_is)
    (case k9 => k_is)
    (case a10 => k_is)
    (case l10 => k_is)
    (case c10 => k_is)
    (case k10 => k_is)
    (case a11 => k_is)
    (case l11 => k_is)
    (case c11 => k_is)
    (case k11 => k_is)
    (case a12 => k_is)
    (case l12 => k_is)
    (case c12 => k_is)
    (case k12 => k_is)
    (case a13 => k_is)
    (case l13 => k_is)
    (case c13 => k_is)
    (case k13 => k_is)
    (case a14 => k_is)
    (case l14 => k_is)
    (case c14 => k_is)
    (case k14 => k_is)
    (case z_FEWEST_ROOMS => k_is)
    (case z_FEWEST_SIGNS => k_is)
    (case z_FIGURES => k_is)
    (case z_LEFT => k_is)
    (case z_MOST_ROOMS => k_is)
    (case z_MOST_SIGNS => k_is)
    (case z_NO_RULE => k_is)
    (case z_RIGHT => k_is)
    (case z_WAYS => k_is)
    (case z_all => k_is)
    (case z_bool => k_is)
    (case z_int => k_is)
    (case z_isinstance => k_is)
    (case z_len => k_is)
    (case z_range => k_is)
    (case z_str => k_is)
    (case z_tuple => k_is)
