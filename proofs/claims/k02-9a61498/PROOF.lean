import PyProof.Rows.All
import Wide.All
import OpenK.AllK
import Wide.FinOn
import Lean
import PyProof.EqAt
import PyProof.EqKinds
import PyProof.TupleCall
import PySem.Challenge.RW_lackword_k02_refusals
set_option Elab.async false
set_option linter.all false
set_option maxRecDepth 100000
/-! THE HAND LAYER, for ints, bools, texts, own classes, LISTS and tuples (index, slices, in, append, pop ..), calls, loops. Paste it whole ahead of your own text; what your proof does not reach may be deleted. -/
namespace L2
open PySem PySem.Spec PyProof.Rows

/-- a key: an int or a str -/
abbrev Key := Sum Int Str
def keyIs : Key → Value → Bool
  | .inl k, v => Value.isInt k v
  | .inr x, v => Value.isStrOf x v
def keyH (w : World) : Key → Int
  | .inl k => hashInt k
  | .inr x => hashStr w x
theorem keyIs_shape : ∀ {k : Key} {v : Value}, keyIs k v = true → (∃ i t, k = Sum.inl i ∧ v = Value.int i t) ∨ (∃ x t, k = Sum.inr x ∧ v = Value.str x t)
  | .inl i, v, h => by
    obtain ⟨t, e⟩ := Value.isInt_shape (k := i) (v := v) h
    exact .inl ⟨i, t, rfl, e⟩
  | .inr x, v, h => by
    obtain ⟨t, e⟩ := Value.isStrOf_shape (x := x) (v := v) h
    exact .inr ⟨x, t, rfl, e⟩
theorem keyIs_int (i : Int) (t : Tok) : keyIs (.inl i) (.int i t) = true := by simp [keyIs, Value.isInt]
theorem keyIs_str (x : Str) (t : Tok) : keyIs (.inr x) (.str x t) = true := by simp [keyIs, Value.isStrOf]
theorem key_ll (a b : Int) : decide ((Sum.inl a : Key) = Sum.inl b) = (a == b) := by
  by_cases e : a = b
  · subst e; simp
  · have h : ¬ (Sum.inl a : Key) = Sum.inl b := fun q => e (Sum.inl.inj q)
    rw [decide_eq_false h]
    exact (beq_eq_false_iff_ne.mpr e).symm
theorem key_rr (a b : Str) : decide ((Sum.inr a : Key) = Sum.inr b) = decide (a = b) := by
  by_cases e : a = b
  · subst e; simp
  · have h : ¬ (Sum.inr a : Key) = Sum.inr b := fun q => e (Sum.inr.inj q)
    rw [decide_eq_false h, decide_eq_false e]
theorem key_lr (a : Int) (b : Str) : decide ((Sum.inl a : Key) = Sum.inr b) = false := decide_eq_false (fun q => nomatch q)
theorem key_rl (a : Str) (b : Int) : decide ((Sum.inr a : Key) = Sum.inl b) = false := decide_eq_false (fun q => nomatch q)

def mixKind (prog : Program) (w : World) : PySem.KeyKind prog w Key where
  is := keyIs
  hash := keyH w
  inj := fun v a b ha hb => by
    rcases keyIs_shape ha with ⟨i, t, rfl, rfl⟩ | ⟨x, t, rfl, rfl⟩
    · rcases keyIs_shape hb with ⟨j, u, rfl, e⟩ | ⟨y, u, rfl, e⟩
      · injection e with e1 _; rw [e1]
      · exact nomatch e
    · rcases keyIs_shape hb with ⟨j, u, rfl, e⟩ | ⟨y, u, rfl, e⟩
      · exact nomatch e
      · injection e with e1 _; rw [e1]
  byValue := fun k v h => by
    rcases keyIs_shape h with ⟨i, t, rfl, rfl⟩ | ⟨x, t, rfl, rfl⟩ <;> rfl
  pyHash := fun hv h => by
    rcases keyIs_shape hv with ⟨i, t, rfl, rfl⟩ | ⟨x, t, rfl, rfl⟩
    · exact wpAny_pyHash_int h
    · exact wpAny_pyHash_str h
  eqBool := fun hu hv h => by
    rcases keyIs_shape hu with ⟨i, t, rfl, rfl⟩ | ⟨x, t, rfl, rfl⟩
    · rcases keyIs_shape hv with ⟨j, u, rfl, rfl⟩ | ⟨y, u, rfl, rfl⟩
      · rw [key_ll] at h; exact wpAny_eqBool_int h
      · rw [key_lr] at h; exact SeqAt.EqAt.int_str i t y u _ _ _ _ h
    · rcases keyIs_shape hv with ⟨j, u, rfl, rfl⟩ | ⟨y, u, rfl, rfl⟩
      · rw [key_rl] at h; exact SeqAt.EqAt.str_int x t j u _ _ _ _ h
      · rw [key_rr] at h; exact wpAny_eqBool_str h
  «strs» := fun k x t v h => by
    rcases keyIs_shape h with ⟨i, u, rfl, e⟩ | ⟨y, u, rfl, e⟩
    · exact nomatch e
    · injection e with e1 _
      subst e1
      cases v <;> rfl

theorem mixKind_is (prog : Program) (w : World) (k : Key) (v : Value) : (mixKind prog w).is k v = keyIs k v := rfl
theorem mixKind_int (prog : Program) (w : World) (i : Int) (t : Tok) : (mixKind prog w).is (.inl i) (.int i t) = true := keyIs_int i t
theorem mixKind_str (prog : Program) (w : World) (x : Str) (t : Tok) : (mixKind prog w).is (.inr x) (.str x t) = true := keyIs_str x t
end L2

namespace L2
open PySem PySem.Spec PyProof.Rows

/-- a value, without the heap -/
inductive V where
  | non | bl (b : Bool) | int (i : Int) | str (x : Str) | byt (b : Array UInt8) | flt (b : UInt64) | ref (a : Addr) | ty (n : String)
  deriving DecidableEq

def RelV : V → Value → Prop
  | .non, u => u = Value.none
  | .bl b, u => u = Value.bool b
  | .int i, u => ∃ t, u = Value.int i t
  | .str x, u => ∃ t, u = Value.str x t
  | .byt b, u => ∃ t, u = Value.bytes b t
  | .flt b, u => ∃ t, u = Value.float b t
  | .ref a, u => u = Value.ref a
  | .ty n, u => u = Value.type n

abbrev Vals : List V → List Value → Prop := Paired RelV
theorem Vals.length {xs : List V} {us : List Value} (r : Vals xs us) : xs.length = us.length := Paired.length r
theorem Vals.get : ∀ {xs : List V} {us : List Value} {i : Nat} {x : V}, Vals xs us → xs[i]? = some x → ∃ u, us[i]? = some u ∧ RelV x u
  | _, _, _, _, .nil, e => by simp at e
  | _, _, 0, _, .cons r _, e => by simp at e; subst e; exact ⟨_, rfl, r⟩
  | _, _, i + 1, x, .cons _ t, e => by
    obtain ⟨u, h1, h2⟩ := Vals.get (i := i) (x := x) t (by simpa using e)
    exact ⟨u, by simpa using h1, h2⟩
theorem Vals.set {x : V} {u : Value} (r : RelV x u) : ∀ {xs : List V} {us : List Value} (i : Nat), Vals xs us → Vals (xs.set i x) (us.set i u)
  | _, _, _, .nil => .nil
  | _, _, 0, .cons _ t => .cons r t
  | _, _, i + 1, .cons q t => .cons q (Vals.set r i t)
theorem Vals.append : ∀ {xs ys : List V} {us ws : List Value}, Vals xs us → Vals ys ws → Vals (xs ++ ys) (us ++ ws)
  | _, _, _, _, .nil, s => s
  | _, _, _, _, .cons r t, s => .cons r (Vals.append t s)
theorem Vals.take : ∀ {xs : List V} {us : List Value} (n : Nat), Vals xs us → Vals (xs.take n) (us.take n)
  | _, _, 0, _ => .nil
  | _, _, _ + 1, .nil => .nil
  | _, _, n + 1, .cons r t => .cons r (Vals.take n t)
theorem Vals.drop : ∀ {xs : List V} {us : List Value} (n : Nat), Vals xs us → Vals (xs.drop n) (us.drop n)
  | _, _, 0, r => r
  | _, _, _ + 1, .nil => .nil
  | _, _, n + 1, .cons _ t => Vals.drop n t
theorem Vals.none_of : ∀ {xs : List V} {us : List Value} {i : Nat}, Vals xs us → xs[i]? = none → us[i]? = none := fun {xs us i} r e => by
  have h1 := r.length
  have h2 : xs.length ≤ i := List.getElem?_eq_none_iff.mp e
  exact List.getElem?_eq_none_iff.mpr (by omega)

def RelO : Option V → Option Value → Prop
  | some v, some u => RelV v u
  | none, none => True
  | _, _ => False
def KV {κ : Type} : List (κ × V) → List (κ × Value) → Prop := Paired fun (p : κ × V) (q : κ × Value) => p.1 = q.1 ∧ RelV p.2 q.2

/-- a key of a dict (00_mix): an int or a text -/
def kV : Key → V
  | .inl i => .int i
  | .inr x => .str x

/-- what stands at a tracked address -/
inductive HO where
  /-- a list -/
  | lst (xs : List V)
  /-- a tuple (never changes) -/
  | tup (xs : List V)
  /-- a dict whose keys are ints and texts; one whose keys are tuples of ints and texts (the empty one is both) -/
  | dK (kvs : List (Key × V)) | dT (kvs : List (List Key × V))
  /-- a set of ints: its members, its size -/
  | set (S : Int → Bool) (n : Nat)
  /-- an instance of the class at C, its dict at dx, its attributes -/
  | ins (C dx : Addr) (fs : List (Str × V))
  /-- the dict of the instance at x -/
  | own (x : Addr)
  /-- the dict of an exception -/
  | xd (fs : List (Str × V))
  /-- a bound method, f of x -/
  | met (f x : Addr)
  /-- a range object lo, lo + 1, .. below hi -/
  | rng (lo hi : Int)
  /-- a thing that is known to the object (the script; a dict while a loop walks it): read, never written while it is so -/
  | frz (o : Obj) (u : HO)
  /-- a code object's table -/
  | tbl (ps : Array Value)
  /-- any other thing, by what is true of its one object (a def of one's own: SetO a S n := HO.ext fun h => ..) -/
  | ext (φ : Heap → Prop)

abbrev Hp := Addr → Option HO
def upd (H : Hp) (a : Addr) (o : HO) : Hp := fun b => if b = a then some o else H b
theorem upd_same {H : Hp} {a : Addr} {o : HO} : upd H a o a = some o := by unfold upd; rw [if_pos rfl]
theorem upd_ne {H : Hp} {a b : Addr} {o : HO} (h : b ≠ a) : upd H a o b = H b := by unfold upd; rw [if_neg h]
theorem upd_upd {H : Hp} {a : Addr} {o u : HO} : upd (upd H a o) a u = upd H a u := by
  funext b; unfold upd; split <;> rfl
/-- two objects of different content stand apart -/
theorem ne_of {H : Hp} {a b : Addr} {o u : HO} (h : H a = some o) (h' : H b = some u) (d : o ≠ u) : a ≠ b := by
  intro e; subst e; rw [h] at h'; exact d (Option.some.inj h')
theorem ne_of_none {H : Hp} {a b : Addr} {o : HO} (h : H a = some o) (h' : H b = none) : a ≠ b := by
  intro e; subst e; rw [h] at h'; cases h'

section
variable (P : Program) (w : World)
def ObjOk (H : Hp) (h : Heap) (a : Addr) : HO → Prop
  | .lst xs => xs.length ≤ sizeLine ∧ ∃ (its : List Value) (n : Nat), Vals xs its ∧ h.get? a = some { cls := .type "list", data := .seq its.toArray n }
  | .tup xs => xs.length ≤ sizeLine ∧ ∃ its : List Value, Vals xs its ∧ IsTup h a its.toArray
  | .dK kvs => kvs.length ≤ sizeLine ∧ (a == sysModules) = false ∧ ∃ vs, KV kvs vs ∧ h.DictOf (mixKind P w) a vs
  | .dT kvs => kvs.length ≤ sizeLine ∧ (a == sysModules) = false ∧ ∃ xs : List (List Key × Addr × Value),
      Paired (fun (p : List Key × V) (q : List Key × Addr × Value) => p.1 = q.1 ∧ H q.2.1 = some (.tup (p.1.map kV)) ∧ RelV p.2 q.2.2) kvs xs ∧
      ∃ o es ep, h.get? a = some o ∧ o.ExactDict ∧ o.data = .dict es ep ∧ es.toList = xs.map (entryOfKey (tupleKind (mixKind P w))) ∧ (xs.map (·.1)).Nodup
  | .set S n => h.SetOf (intKind P w) a S n
  | .ins C dx fs => H dx = some (.own a) ∧ fs.length ≤ 1000 ∧ dx ≠ a ∧ h.get? a = some (PySem.W.instObj C dx) ∧
      ∃ mA, h.Ns1 dx mA ∧ (∀ f, RelO (fs.lookup f) (mA f)) ∧ PySem.Within mA (fs.map (·.1))
  | .own _ => ∃ o, h.get? a = some o
  | .xd fs => ∃ mA, h.Ns1 a mA ∧ ∀ f, RelO (fs.lookup f) (mA f)
  | .rng lo hi => ∃ t u v, h.get? a = some { cls := .type "range", data := .fields #[.int lo t, .int hi u, .int 1 v] }
  | .frz o u => h.get? a = some o ∧ ObjOk H h a u
  | .tbl ps => h.get? a = some { cls := .none, data := .fields ps }
  | .met f x => h.get? a = some (PySem.W.methodObj (.ref f) (.ref x))
  | .ext φ => φ h ∧ (∃ o, h.get? a = some o) ∧ ∀ h1 h2 : Heap, φ h1 → (∀ o, h1.get? a = some o → h2.get? a = some o) → φ h2
/-- the abstract heap is held -/
def HOk (H : Hp) (h : Heap) : Prop := ∀ a o, H a = some o → ObjOk P w H h a o
end

section
variable {P : Program} {w : World} {H H' : Hp} {h h' : Heap} {a : Addr} {o : HO}
theorem ObjOk.lt (x : ObjOk P w H h a o) : a < h.objs.size := by
  cases o with
  | lst xs => obtain ⟨_, _, _, _, e⟩ := x; exact Heap.lt_size e
  | tup xs => obtain ⟨_, _, _, p⟩ := x; exact p.lt
  | dK kvs => obtain ⟨_, _, _, _, o, _, _, e, _⟩ := x; exact Heap.lt_size e
  | dT kvs => obtain ⟨_, _, _, _, o, _, _, e, _⟩ := x; exact Heap.lt_size e
  | set S n => obtain ⟨o, _, _, _, e, _⟩ := x; exact Heap.lt_size e
  | ins C dx fs => obtain ⟨_, _, _, e, _⟩ := x; exact Heap.lt_size e
  | own y => obtain ⟨_, e⟩ := x; exact Heap.lt_size e
  | xd fs => obtain ⟨_, ⟨_, _, _, e, _⟩, _⟩ := x; exact Heap.lt_size e
  | rng lo hi => obtain ⟨_, _, _, e⟩ := x; exact Heap.lt_size e
  | frz ob u => obtain ⟨e, _⟩ := x; exact Heap.lt_size e
  | tbl ps => exact Heap.lt_size (show h.get? a = some _ from x)
  | met f y => exact Heap.lt_size (show h.get? a = some _ from x)
  | ext φ => obtain ⟨_, ⟨_, e⟩, _⟩ := x; exact Heap.lt_size e
theorem Paired.mapP {α β : Type} {F G : α → β → Prop} : ∀ {l₁ : List α} {l₂ : List β}, Paired F l₁ l₂ → (∀ a b, F a b → G a b) → Paired G l₁ l₂
  | _, _, .nil, _ => .nil
  | _, _, .cons r t, f => .cons (f _ _ r) (Paired.mapP t f)
theorem Paired.imp' {α β : Type} {F G : α → β → Prop} (f : ∀ a b, F a b → G a b) {l₁ : List α} {l₂ : List β} (r : Paired F l₁ l₂) : Paired G l₁ l₂ := Paired.mapP r f
/-- what an object's description leans on: its own object, its own dict, the tuples -/
theorem ObjOk.stay (x : ObjOk P w H h a o) (k : ∀ b u, (b = a ∨ H b = some (.own a)) → h.get? b = some u → h'.get? b = some u)
    (ho : ∀ b, H b = some (.own a) → H' b = some (.own a)) (ht : ∀ b xs, H b = some (.tup xs) → H' b = some (.tup xs)) : ObjOk P w H' h' a o := by
  induction o with
  | lst xs => obtain ⟨z, its, n, r, e⟩ := x; exact ⟨z, its, n, r, k _ _ (.inl rfl) e⟩
  | tup xs => obtain ⟨z, its, r, ob, e, c⟩ := x; exact ⟨z, its, r, ob, k _ _ (.inl rfl) e, c⟩
  | dK kvs => obtain ⟨z, y, vs, r, ob, es, ep, e, c⟩ := x; exact ⟨z, y, vs, r, ob, es, ep, k _ _ (.inl rfl) e, c⟩
  | dT kvs =>
    obtain ⟨z, y, xs, r, ob, es, ep, e, c⟩ := x
    exact ⟨z, y, xs, Paired.mapP r fun p q z => ⟨z.1, ht _ _ z.2.1, z.2.2⟩, ob, es, ep, k _ _ (.inl rfl) e, c⟩
  | set S n => obtain ⟨ob, es, ep, t, e, c⟩ := x; exact ⟨ob, es, ep, t, k _ _ (.inl rfl) e, c⟩
  | ins C dx fs =>
    obtain ⟨d, z, ne, e, mA, ⟨od, es, ep, e2, c⟩, r⟩ := x
    exact ⟨ho _ d, z, ne, k _ _ (.inl rfl) e, mA, ⟨od, es, ep, k _ _ (.inr d) e2, c⟩, r⟩
  | own y => obtain ⟨ob, e⟩ := x; exact ⟨ob, k _ _ (.inl rfl) e⟩
  | xd fs => obtain ⟨mA, ⟨od, es, ep, e, c⟩, r⟩ := x; exact ⟨mA, ⟨od, es, ep, k _ _ (.inl rfl) e, c⟩, r⟩
  | rng lo hi => obtain ⟨t, u, v, e⟩ := x; exact ⟨t, u, v, k _ _ (.inl rfl) e⟩
  | frz ob u ih => obtain ⟨e, q⟩ := x; exact ⟨k _ _ (.inl rfl) e, ih q⟩
  | tbl ps =>
    have e : h.get? a = some { cls := .none, data := .fields ps } := x
    show h'.get? a = some { cls := .none, data := .fields ps }
    exact k a _ (.inl rfl) e
  | met f y =>
    have e : h.get? a = some (PySem.W.methodObj (.ref f) (.ref y)) := x
    show h'.get? a = some (PySem.W.methodObj (.ref f) (.ref y))
    exact k a _ (.inl rfl) e
  | ext φ => obtain ⟨p, ⟨o, e⟩, st⟩ := x; exact ⟨st _ _ p fun o q => k _ _ (.inl rfl) q, ⟨o, k _ _ (.inl rfl) e⟩, st⟩
theorem HOk.lt (x : HOk P w H h) (e : H a = some o) : a < h.objs.size := (x a o e).lt
theorem HOk.fresh (x : HOk P w H h) (e : h.objs.size ≤ a) : H a = none := by
  cases q : H a with
  | none => rfl
  | some u => exact absurd (Nat.lt_of_lt_of_le (x.lt q) e) (Nat.lt_irrefl _)
/-- every object of the heap is kept -/
theorem HOk.kept (x : HOk P w H h) (k : ∀ b u, h.get? b = some u → h'.get? b = some u) : HOk P w H h' := fun a o e =>
  (x a o e).stay (fun b u _ q => k b u q) (fun _ q => q) fun _ _ q => q
/-- a new object is laid and tracked -/
theorem HOk.laid (x : HOk P w H h) (k : ∀ b u, h.get? b = some u → h'.get? b = some u) (hp : h.objs.size ≤ a) (new : ObjOk P w (upd H a o) h' a o) : HOk P w (upd H a o) h' := fun b u e => by
  have hn := x.fresh hp
  by_cases hb : b = a
  · subst hb; rw [upd_same] at e; cases e; exact new
  · rw [upd_ne hb] at e
    exact (x b u e).stay (fun c v _ q => k c v q) (fun c q => by rw [upd_ne (ne_of_none q hn)]; exact q) fun c xs q => by rw [upd_ne (ne_of_none q hn)]; exact q
end

/-- what may be read as u: it is u, or a known u -/
def Rd (H : Hp) (a : Addr) (u : HO) : Prop := H a = some u ∨ ∃ o, H a = some (.frz o u)
theorem Rd.of {H : Hp} {a : Addr} {u : HO} (h : H a = some u) : Rd H a u := .inl h
theorem Rd.ok {P : Program} {w : World} {H : Hp} {h : Heap} {a : Addr} {u : HO} (r : Rd H a u) (x : HOk P w H h) : ObjOk P w H h a u := by
  rcases r with r | ⟨o, r⟩
  · exact x a u r
  · obtain ⟨_, q⟩ := x a _ r
    exact q
/-- what may be written -/
def Mut : Option HO → Prop
  | some (.lst _) => True
  | some (.dK _) => True
  | some (.dT _) => True
  | some (.set _ _) => True
  | some (.ins _ _ _) => True
  | some (.ext _) => True
  | _ => False
section
variable {P : Program} {w : World} {H : Hp} {h h' : Heap} {x e : Addr} {o' : HO}
/-- the object at e is changed: x itself, or the dict of the instance x -/
theorem HOk.write (ok : HOk P w H h) (mu : Mut (H x)) (he : e = x ∨ H e = some (.own x)) (k : ∀ b u, b ≠ e → h.get? b = some u → h'.get? b = some u) (heo : ∃ u, h'.get? e = some u)
    (new : ObjOk P w (upd H x o') h' x o') : HOk P w (upd H x o') h' := fun b u q => by
  have nown : ∀ c y, H c = some (.own y) → c ≠ x := fun c y r z => by subst z; rw [r] at mu; exact mu
  have ntup : ∀ c xs, H c = some (.tup xs) → c ≠ x := fun c xs r z => by subst z; rw [r] at mu; exact mu
  by_cases hb : b = x
  · subst hb; rw [upd_same] at q; cases q; exact new
  · rw [upd_ne hb] at q
    by_cases hbe : b = e
    · have q' : H b = some (.own x) := by
        rcases he with z | z
        · exact absurd (hbe.trans z) hb
        · rw [hbe]; exact z
      rw [q] at q'; cases q'
      obtain ⟨v, hv⟩ := heo
      exact ⟨v, by rw [hbe]; exact hv⟩
    · refine (ok b u q).stay (fun c v hc r => k c v ?_ r) (fun c r => by rw [upd_ne (nown c b r)]; exact r) fun c xs r => by rw [upd_ne (ntup c xs r)]; exact r
      rcases hc with rfl | hc
      · exact hbe
      · rintro rfl
        rcases he with z | z
        · exact nown c b hc z
        · rw [hc] at z; cases z; exact hb rfl
end

/-! ### kept unless tracked; of the frames at fs (the callers') the slots may change (an exception that passes writes there); of the records at ex (iterators) nothing is said -/
structure Un (fs ex : List Addr) (H H' : Hp) (h h' : Heap) : Prop where
  keep : ∀ b o, h.get? b = some o → H b = none → b ∉ fs → b ∉ ex → h'.get? b = some o
  slot : ∀ b o, h.get? b = some o → H b = none → b ∈ fs → b ∉ ex → ∃ sl, h'.get? b = some { o with slots := sl }
  free : ∀ b o, h.get? b = some o → H b = none → b ∉ ex → H' b = none
  there : ∀ b o, h.get? b = some o → b ∉ ex → ∃ o', h'.get? b = some o'
  tups : ∀ b xs, H b = some (.tup xs) → H' b = some (.tup xs)
  frzs : ∀ b o u, H b = some (.frz o u) → H' b = some (.frz o u)
  tbls : ∀ b ps, H b = some (.tbl ps) → ∃ more, H' b = some (.tbl (ps ++ more))
section
variable {fs fs' ex ex' : List Addr} {H H1 H2 : Hp} {h h1 h2 h' : Heap} {a x e : Addr} {o : HO}
theorem Un.any (u : Un fs ex H H1 h h1) {b : Addr} {ob : Obj} (q : h.get? b = some ob) (n : H b = none) (hx : b ∉ ex) : ∃ sl, h1.get? b = some { ob with slots := sl } := by
  by_cases hb : b ∈ fs
  · exact u.slot b ob q n hb hx
  · exact ⟨ob.slots, u.keep b ob q n hb hx⟩
theorem Un.trans (a : Un fs ex H H1 h h1) (b : Un fs ex H1 H2 h1 h2) : Un fs ex H H2 h h2 where
  keep := fun c ob q n hc hx => b.keep c ob (a.keep c ob q n hc hx) (a.free c ob q n hx) hc hx
  slot := fun c ob q n hc hx => by
    obtain ⟨sl, e1⟩ := a.slot c ob q n hc hx
    obtain ⟨sl', e2⟩ := b.slot c _ e1 (a.free c ob q n hx) hc hx
    exact ⟨sl', e2⟩
  free := fun c ob q n hx => by
    obtain ⟨o', e1⟩ := a.there c ob q hx
    exact b.free c o' e1 (a.free c ob q n hx) hx
  there := fun c ob q hx => by
    obtain ⟨o', e1⟩ := a.there c ob q hx
    exact b.there c o' e1 hx
  tups := fun c xs q => b.tups c xs (a.tups c xs q)
  frzs := fun c ob xs q => b.frzs c ob xs (a.frzs c ob xs q)
  tbls := fun c ps q => by
    obtain ⟨m1, e1⟩ := a.tbls c ps q
    obtain ⟨m2, e2⟩ := b.tbls c _ e1
    exact ⟨m1 ++ m2, by rw [e2, Array.append_assoc]⟩
theorem Un.kept (k : ∀ b u, h.get? b = some u → h'.get? b = some u) : Un fs ex H H h h' :=
  ⟨fun b ob q _ _ _ => k b ob q, fun b ob q _ _ _ => ⟨ob.slots, k b ob q⟩, fun _ _ _ n _ => n, fun b ob q _ => ⟨ob, k b ob q⟩, fun _ _ q => q, fun _ _ _ q => q, fun _ ps q => ⟨#[], by rw [q]; simp⟩⟩
theorem Un.refl : Un fs ex H H h h := Un.kept fun _ _ q => q
theorem Un.laid (k : ∀ b u, h.get? b = some u → h'.get? b = some u) (hp : h.objs.size ≤ a) (hn : H a = none) : Un fs ex H (upd H a o) h h' where
  keep := fun b u q _ _ _ => k b u q
  slot := fun b u q _ _ _ => ⟨u.slots, k b u q⟩
  free := fun b u q n _ => by rw [upd_ne (Nat.ne_of_lt (Nat.lt_of_lt_of_le (Heap.lt_size q) hp))]; exact n
  there := fun b u q _ => ⟨u, k b u q⟩
  tups := fun b xs q => by rw [upd_ne (ne_of_none q hn)]; exact q
  frzs := fun b u xs q => by rw [upd_ne (ne_of_none q hn)]; exact q
  tbls := fun b ps q => ⟨#[], by rw [upd_ne (ne_of_none q hn), q]; simp⟩
theorem Un.write (mu : Mut (H x)) (he : e = x ∨ H e = some (.own x)) (k : ∀ b u, b ≠ e → h.get? b = some u → h'.get? b = some u) (heo : ∃ u, h'.get? e = some u) : Un fs ex H (upd H x o) h h' := by
  have hx : ∀ b, H b = none → b ≠ x := fun b n z => by subst z; rw [n] at mu; exact mu
  have hb : ∀ b, H b = none → b ≠ e := fun b n z => by
    subst z
    rcases he with r | r
    · exact hx b n r
    · rw [n] at r; cases r
  have hm : ∀ b u, H b = some u → ¬ Mut (some u) → b ≠ x := fun b u q nm z => by subst z; rw [q] at mu; exact nm mu
  refine ⟨fun b u q n _ _ => k b u (hb b n) q, fun b u q n _ _ => ⟨u.slots, k b u (hb b n) q⟩, fun b u q n _ => by rw [upd_ne (hx b n)]; exact n, fun b u q _ => ?_,
    fun b xs q => by rw [upd_ne (hm b _ q fun z => z)]; exact q, fun b u xs q => by rw [upd_ne (hm b _ q fun z => z)]; exact q, fun b ps q => ⟨#[], by rw [upd_ne (hm b _ q fun z => z), q]; simp⟩⟩
  by_cases hbe : b = e
  · subst hbe; exact heo
  · exact ⟨u, k b u hbe q⟩
theorem Un.mono (u : Un fs ex H H1 h h1) (hs : ∀ b ∈ fs, b ∈ fs') (hx : ∀ b ∈ ex, b ∈ ex') : Un fs' ex' H H1 h h1 :=
  ⟨fun b ob q n hb he => u.keep b ob q n (fun z => hb (hs b z)) fun z => he (hx b z), fun _ _ q n _ he => u.any q n fun z => he (hx _ z), fun b ob q n he => u.free b ob q n fun z => he (hx b z), fun b ob q he => u.there b ob q fun z => he (hx b z), u.tups, u.frzs, u.tbls⟩
end

/-! ### the heap without what is tracked -/
def trk (h : Heap) (H : Hp) : List Addr := (List.range h.objs.size).filter fun a => (H a).isSome
def hidT (h : Heap) (H : Hp) : Heap := PySem.W.hideAll h (trk h H)
theorem hidT_size (h : Heap) (H : Hp) : (hidT h H).objs.size = h.objs.size := PySem.W.hideAll_size _ _
theorem hidT_get {h : Heap} {H : Hp} {b : Addr} {o : Obj} (e : h.get? b = some o) (n : H b = none) : (hidT h H).get? b = some o :=
  PySem.W.hideAll_get _ e fun hm => by
    have q : (H b).isSome = true := (List.mem_filter.mp hm).2
    rw [n] at q; simp at q
theorem of_hidT {h : Heap} {H : Hp} {b : Addr} {o : Obj} (e : (hidT h H).get? b = some o) : h.get? b = some o ∧ H b = none := by
  have e' : h.get? b = some o := PySem.W.of_hideAll (trk h H) e
  refine ⟨e', ?_⟩
  cases q : H b with
  | none => rfl
  | some x =>
    have hm : b ∈ trk h H := List.mem_filter.mpr ⟨List.mem_range.mpr (Heap.lt_size e'), by simp [q]⟩
    have z : (hidT h H).get? b = none := PySem.W.hideAll_none (trk h H) hm
    rw [z] at e; cases e

/-! ### OpenK's ledger, filled with every new object but one -/
def allNews (g h : Heap) (L : Addr) : List (Addr × Obj) := (List.range h.objs.size).filterMap fun a => if a = L ∨ (g.get? a).isSome = true then none else (h.get? a).map fun o => (a, o)
theorem mem_allNews {g h : Heap} {L a : Addr} {o : Obj} (h1 : a ≠ L) (h2 : g.get? a = none) (h3 : h.get? a = some o) : (a, o) ∈ allNews g h L :=
  List.mem_filterMap.mpr ⟨a, List.mem_range.mpr (Heap.lt_size h3), by simp [h1, h2, h3]⟩
theorem of_mem_allNews {g h : Heap} {L : Addr} {p : Addr × Obj} (hp : p ∈ allNews g h L) : p.1 ≠ L ∧ g.get? p.1 = none ∧ h.get? p.1 = some p.2 := by
  obtain ⟨b, _, e⟩ := List.mem_filterMap.mp hp
  split at e
  · cases e
  · rename_i hn
    cases q : h.get? b with
    | none => rw [q] at e; simp at e
    | some u =>
      rw [q] at e
      simp only [Option.map_some, Option.some.injEq] at e
      subst e
      refine ⟨fun z => hn (.inl z), ?_, q⟩
      show g.get? b = none
      cases r : g.get? b with
      | none => rfl
      | some v => exact (hn (.inr (by simp [r]))).elim
def rest (g h : Heap) (L d : Addr) : List (Addr × Obj) := (allNews g h L).filter fun p => decide (p.1 ≠ d)
theorem rest_ne {g h : Heap} {L d : Addr} : ∀ p ∈ rest g h L d, p.1 ≠ d := fun p hp => of_decide_eq_true (List.mem_filter.mp hp).2
theorem mem_rest {g h : Heap} {L d a : Addr} {o : Obj} (h1 : a ≠ L) (h2 : g.get? a = none) (h3 : h.get? a = some o) (h4 : a ≠ d) : (a, o) ∈ rest g h L d :=
  List.mem_filter.mpr ⟨mem_allNews h1 h2 h3, decide_eq_true h4⟩
theorem news_all {g h : Heap} {L : Addr} : News g L h (allNews g h L) := fun p hp => let ⟨a, b, c⟩ := of_mem_allNews hp; ⟨c, a, b⟩
theorem news_at {g h : Heap} {L d : Addr} {o : Obj} (h1 : d ≠ L) (h2 : g.get? d = none) (h3 : h.get? d = some o) : News g L h ((d, o) :: rest g h L d) := fun p hp => by
  rcases List.mem_cons.mp hp with rfl | hp
  · exact ⟨h3, h1, h2⟩
  · exact news_all p (List.mem_filter.mp hp).1
/-- behind a rule that changed d alone: all else but the frame is kept -/
theorem kept_of_news {g h h' : Heap} {L d : Addr} {m : Str → Option Value} (k : ∀ b o, g.get? b = some o → h.get? b = some o) (F : Fr g L h' m) (N : News g L h' (rest g h L d)) :
    ∀ b o, b ≠ L → b ≠ d → h.get? b = some o → h'.get? b = some o := fun b o h1 h2 e => by
  cases q : g.get? b with
  | some u =>
    have := k b u q
    rw [e] at this; cases this
    exact F.keep b _ q
  | none => exact (N (b, o) (mem_rest h1 q e h2)).1
end L2

namespace L2
open PySem PySem.Spec PyProof.Rows

/-- the module's facts, over the base: the heap at the law's entry without what is tracked there -/
structure Mod (K : PySem.W.Frag) (mg : Str → Option Value) (base : Heap) : Prop where
  kin : K.In base
  glob : base.Ns mainGlobals mg
  blt : ∃ mb, base.Ns builtinsNs mb ∧ ∀ x : Str, x ≠ "__name__" → mb x = bootBuiltins x
  nolimit : base.NoLimit

/-- the context: a def's body (or a comprehension's block) running. base: fixed through the whole law; s₀, H₀: the entry; outer: the frames whose slots others may change (a def's callers); stack: all frames that run;
   ex: iterators that were made ahead of the entry and are walked here (a comprehension's); fn: the names whose cells were made at the entry (a def: all; a comprehension's block: its own); calm: not within an except suite; pn: pins that every state bears; xe: what is wanted of an exception that leaves the code -/
structure Cx where
  prog : Program
  w : World
  K : PySem.W.Frag
  mg : Str → Option Value
  base : Heap
  A : Around
  N : List Str
  s₀ : Shared
  H₀ : Hp
  env : Env
  outer : List Env
  stack : List Env
  ex : List Addr
  fn : Str → Bool
  calm : Bool
  pn : List (Addr × Obj)
  xe : Value → Shared → Prop
/-- the callers' frames -/
def frs (l : List Env) : List Addr := l.filterMap (·.frame)
abbrev Cx.fs (X : Cx) : List Addr := frs X.outer

def Vis (sc : Scope) (x : Str) : Prop := sc.names.lookup x = some .local ∨ sc.names.lookup x = some .cell ∨ sc.names.lookup x = some .free
def Loc (sc : Scope) (x : Str) : Prop := sc.names.lookup x = some .local ∨ sc.names.lookup x = some .cell
def Look (env : Env) (h : Heap) (m : Str → Option Value) (x : Str) (u : Value) : Prop :=
  (env.kindOf x = some .local ∧ m x = some u) ∨ ((env.kindOf x = some .cell ∨ env.kindOf x = some .free) ∧ ∃ c, env.cells.lookup x = some c ∧ h.IsCell c (some u))

structure Cx.Ok (X : Cx) : Prop where
  mod : Mod X.K X.mg X.base
  kind : X.env.scope.kind = .function
  glob : X.env.globals = mainGlobals
  blt : X.env.builtins = builtinsNs
  above : X.s₀.heap.objs.size ≤ X.env.locals
  inj : ∀ x y c, X.env.cells.lookup x = some c → X.env.cells.lookup y = some c → x = y
  has : ∀ x, (X.env.kindOf x = some .cell ∨ X.env.kindOf x = some .free) → ∃ c, X.env.cells.lookup x = some c
  cab : ∀ x c, X.fn x = true → X.env.cells.lookup x = some c → X.s₀.heap.objs.size ≤ c
  hd : X.calm = true → X.A.handled = none
  frames : X.A.frames = some X.stack
  stk : X.stack = X.outer ∨ (X.stack = X.env :: X.outer ∧ X.env.frame = some X.env.locals)
  exf : ∀ b ∈ X.ex, b ≠ X.env.locals ∧ ∀ x c, X.env.cells.lookup x = some c → c ≠ b
  bs : ∀ b o, X.base.get? b = some o → X.s₀.heap.get? b = some o ∧ X.H₀ b = none
  bsz : X.base.objs.size ≤ X.s₀.heap.objs.size
  noex : ∀ b o, X.base.get? b = some o → b ∉ X.ex
  exfs : ∀ b ∈ X.ex, b ∉ X.fs
  funs : X.s₀.heap.FunFrames X.base X.outer
  frf : ∀ b ∈ X.fs, X.H₀ b = none

structure Inv (X : Cx) (pins : List (Addr × Obj)) (σ : List (Option V)) (H : Hp) (s : Shared) : Prop where
  ok : X.Ok
  os : s.os = X.s₀.os
  bare : AllBare s.gens
  base : Un X.fs X.ex X.H₀ H X.s₀.heap s.heap
  loc : ∃ m, s.heap.Ns X.env.locals m ∧ ∀ (i : Nat) (x : Str) (v : V), X.N[i]? = some x → σ[i]? = some (some v) → Vis X.env.scope x → ∃ u, RelV v u ∧ Look X.env s.heap m x u
  cell : ∀ x c, X.env.cells.lookup x = some c → ∃ v, s.heap.IsCell c v
  free : H X.env.locals = none
  freeC : ∀ x c, X.env.cells.lookup x = some c → H c = none
  pin : ∀ p ∈ X.pn ++ pins, s.heap.get? p.1 = some p.2 ∧ H p.1 = none ∧ p.1 ≠ X.env.locals ∧ p.1 ∉ X.fs ∧ ∀ v, p.2.data ≠ .cell v
  hok : HOk X.prog X.w H s.heap
  len : σ.length = X.N.length

section
variable {X : Cx} {pins : List (Addr × Obj)} {σ : List (Option V)} {H H' : Hp} {s : Shared} {h' : Heap}

theorem Cx.Ok.nofr (ok : X.Ok) {b : Addr} {o : Obj} (e : X.base.get? b = some o) : b ∉ X.fs := fun hb => by
  have := (ok.funs.mem hb).1
  rw [e] at this; cases this
theorem Inv.bs (I : Inv X pins σ H s) : ∀ b o, X.base.get? b = some o → s.heap.get? b = some o ∧ H b = none := fun b o e =>
  ⟨I.base.keep b o (I.ok.bs b o e).1 (I.ok.bs b o e).2 (I.ok.nofr e) (I.ok.noex b o e), I.base.free b o (I.ok.bs b o e).1 (I.ok.bs b o e).2 (I.ok.noex b o e)⟩
theorem Inv.bk (I : Inv X pins σ H s) : ∀ b o, X.base.get? b = some o → s.heap.get? b = some o := fun b o e => (I.bs b o e).1
theorem Inv.mod (I : Inv X pins σ H s) : Mod X.K X.mg X.base := I.ok.mod
theorem Inv.kIn (I : Inv X pins σ H s) : X.K.In s.heap := I.ok.mod.kin.keeps I.bk
theorem Inv.nolimit (I : Inv X pins σ H s) : s.heap.NoLimit := I.ok.mod.nolimit.keeps I.bk
/-- the frame over the base: for OpenK's rules (K.In X.base is I.mod.kin) -/
theorem Inv.fr (I : Inv X pins σ H s) : ∃ m, Fr X.base X.env.locals s.heap m :=
  let ⟨m, hn, _⟩ := I.loc
  ⟨m, hn, I.bk, Nat.le_trans I.ok.bsz I.ok.above⟩
theorem Inv.lt (I : Inv X pins σ H s) : X.env.locals < s.heap.objs.size := let ⟨_, hn, _⟩ := I.loc; hn.lt
theorem Inv.sz (I : Inv X pins σ H s) : X.s₀.heap.objs.size ≤ s.heap.objs.size := Nat.le_trans I.ok.above (Nat.le_of_lt I.lt)
theorem Inv.nofs (I : Inv X pins σ H s) {a : Addr} (h : s.heap.objs.size ≤ a) : a ∉ X.fs := fun hb => by
  obtain ⟨_, o, ho, _⟩ := I.ok.funs.mem hb
  exact absurd (Nat.lt_of_lt_of_le (Heap.lt_size ho) (Nat.le_trans I.sz h)) (Nat.lt_irrefl _)
theorem Inv.cne (I : Inv X pins σ H s) : ∀ x c, X.env.cells.lookup x = some c → c ≠ X.env.locals := fun x c e z => by
  obtain ⟨v, o, ho, hd⟩ := I.cell x c e
  obtain ⟨m, ⟨o', es, ep, ho', hd', _⟩, _⟩ := I.loc
  rw [z, ho'] at ho; cases ho; rw [hd'] at hd; cases hd
theorem Inv.funs (I : Inv X pins σ H s) : s.heap.FunFrames X.base X.outer := by
  have all : ∀ (l : List Env), (∀ b ∈ frs l, b ∈ X.fs) → X.s₀.heap.FunFrames X.base l → s.heap.FunFrames X.base l := by
    intro l
    induction l with
    | nil => intro _ _; trivial
    | cons env r ih =>
      intro hs hl
      obtain ⟨hk, ⟨L, o, hf, hn, ho, hd⟩, hr⟩ := hl
      have hL : L ∈ X.fs := hs L (by unfold frs; rw [List.filterMap_cons, hf]; exact List.mem_cons_self)
      obtain ⟨sl, e⟩ := I.base.slot L o ho (I.ok.frf L hL) hL fun z => I.ok.exfs L z hL
      exact ⟨hk, ⟨L, _, hf, hn, e, hd⟩, ih (fun b hb => hs b (by unfold frs; rw [List.filterMap_cons, hf]; exact List.mem_cons_of_mem _ hb)) hr⟩
  exact all X.outer (fun _ hb => hb) I.ok.funs

/-- the frames that run, for a call -/
theorem Inv.stack (I : Inv X pins σ H s) : s.heap.FunFrames X.base X.stack := by
  rcases I.ok.stk with e | ⟨e, hf⟩
  · rw [e]; exact I.funs
  · rw [e]
    obtain ⟨m, hn, _⟩ := I.loc
    refine .cons (by rw [I.ok.kind]; decide) hf hn ?_ I.funs
    exact Heap.get?_none_of_le (Nat.le_trans I.ok.bsz I.ok.above)
theorem Inv.stkSub (I : Inv X pins σ H s) : ∀ b ∈ frs X.stack, b ∈ X.env.locals :: X.fs := fun b hb => by
  rcases I.ok.stk with e | ⟨e, hf⟩
  · rw [e] at hb; exact List.mem_cons_of_mem _ hb
  · rw [e] at hb
    unfold frs at hb
    rw [List.filterMap_cons, hf] at hb
    exact hb
theorem Inv.stkFree (I : Inv X pins σ H s) : ∀ b ∈ frs X.stack, H b = none := fun b hb => by
  rcases List.mem_cons.mp (I.stkSub b hb) with e | hb
  · rw [e]; exact I.free
  · obtain ⟨_, o, ho, _⟩ := I.ok.funs.mem hb
    exact I.base.free b o ho (I.ok.frf b hb) fun z => I.ok.exfs b z hb

/-- THE STEP: the untracked objects but the frame and the records at ch are kept (the callers' frames up to slots), the frame's map is kept, the new abstract heap is held -/
theorem Inv.step {g' : Array GenState} {t' : Nat} {d' : Drawn} {ch : List Addr} (I : Inv X pins σ H s)
    (hch : ∀ b ∈ ch, (b ∈ X.ex ∨ X.s₀.heap.objs.size ≤ b) ∧ b ≠ X.env.locals ∧ (∀ x c, X.env.cells.lookup x = some c → c ≠ b) ∧ ∀ p ∈ X.pn ++ pins, p.1 ≠ b)
    (keep : ∀ b o, b ≠ X.env.locals → b ∉ X.fs → b ∉ ch → s.heap.get? b = some o → H b = none → h'.get? b = some o)
    (slot : ∀ b o, b ≠ X.env.locals → b ∈ X.fs → b ∉ ch → s.heap.get? b = some o → H b = none → ∃ sl, h'.get? b = some { o with slots := sl }) (free : ∀ b o, b ∉ ch → s.heap.get? b = some o → H b = none → H' b = none)
    (there : ∀ b o, b ∉ ch → s.heap.get? b = some o → ∃ o', h'.get? b = some o')
    (tups : ∀ b xs, H b = some (.tup xs) → H' b = some (.tup xs)) (frzs : ∀ b o u, H b = some (.frz o u) → H' b = some (.frz o u)) (tbls : ∀ b ps, H b = some (.tbl ps) → ∃ more, H' b = some (.tbl (ps ++ more)))
    (ns : ∀ m, s.heap.Ns X.env.locals m → h'.Ns X.env.locals m) (hok : HOk X.prog X.w H' h') (hg : AllBare g') :
    Inv X pins σ H' { s with heap := h', gens := g', drawn := d', toks := t' } := by
  have neL : ∀ b o, X.s₀.heap.get? b = some o → b ≠ X.env.locals := fun b o e => Nat.ne_of_lt (Nat.lt_of_lt_of_le (Heap.lt_size e) I.ok.above)
  have neC : ∀ b o, X.s₀.heap.get? b = some o → b ∉ X.ex → b ∉ ch := fun b o e hx hb => by
    rcases (hch b hb).1 with z | z
    · exact hx z
    · exact absurd (Nat.lt_of_lt_of_le (Heap.lt_size e) z) (Nat.lt_irrefl _)
  have cellK : ∀ x c, X.env.cells.lookup x = some c → ∀ v, s.heap.IsCell c v → h'.IsCell c v := fun x c e v ⟨o, ho, hd⟩ => by
    have nch : c ∉ ch := fun z => (hch c z).2.2.1 x c e rfl
    by_cases hc : c ∈ X.fs
    · obtain ⟨sl, q⟩ := slot c o (I.cne x c e) hc nch ho (I.freeC x c e)
      exact ⟨_, q, hd⟩
    · exact ⟨o, keep c o (I.cne x c e) hc nch ho (I.freeC x c e), hd⟩
  refine ⟨I.ok, I.os, hg, ⟨fun b o e n hb hx => ?_, fun b o e n hb hx => ?_, fun b o e n hx => ?_, fun b o e hx => ?_, fun b xs e => tups b xs (I.base.tups b xs e), fun b o xs e => frzs b o xs (I.base.frzs b o xs e), fun b ps e => ?_⟩, ?_, fun x c e => ?_, ?_, fun x c e => ?_, fun p hp => ?_, hok, I.len⟩
  · exact keep b o (neL b o e) hb (neC b o e hx) (I.base.keep b o e n hb hx) (I.base.free b o e n hx)
  · obtain ⟨sl, e1⟩ := I.base.slot b o e n hb hx
    obtain ⟨sl', e2⟩ := slot b _ (neL b o e) hb (neC b o e hx) e1 (I.base.free b o e n hx)
    exact ⟨sl', e2⟩
  · obtain ⟨o', e1⟩ := I.base.there b o e hx
    exact free b o' (neC b o e hx) e1 (I.base.free b o e n hx)
  · obtain ⟨o', e1⟩ := I.base.there b o e hx
    exact there b o' (neC b o e hx) e1
  · obtain ⟨m1, e1⟩ := I.base.tbls b ps e
    obtain ⟨m2, e2⟩ := tbls b _ e1
    exact ⟨m1 ++ m2, by rw [e2, Array.append_assoc]⟩
  · obtain ⟨m, hn, hl⟩ := I.loc
    refine ⟨m, ns m hn, fun i x v e1 e2 e3 => ?_⟩
    obtain ⟨u, r, l⟩ := hl i x v e1 e2 e3
    refine ⟨u, r, ?_⟩
    rcases l with l | ⟨k, c, e, z⟩
    · exact .inl l
    · exact .inr ⟨k, c, e, cellK x c e _ z⟩
  · obtain ⟨v, z⟩ := I.cell x c e
    exact ⟨v, cellK x c e v z⟩
  · obtain ⟨m, ⟨o, _, _, ho, _⟩, _⟩ := I.loc
    exact free _ o (fun z => (hch _ z).2.1 rfl) ho I.free
  · obtain ⟨v, o, ho, hd⟩ := I.cell x c e
    exact free c o (fun z => (hch c z).2.2.1 x c e rfl) ho (I.freeC x c e)
  · obtain ⟨e, n, ne, nf, d⟩ := I.pin p hp
    have nch : p.1 ∉ ch := fun z => (hch p.1 z).2.2.2 p hp rfl
    exact ⟨keep p.1 p.2 ne nf nch e n, free p.1 p.2 nch e n, ne, nf, d⟩
/-- .. where the frame's own object is kept too -/
theorem Inv.un {t' : Nat} (I : Inv X pins σ H s) (u : Un X.fs [] H H' s.heap h') (hok : HOk X.prog X.w H' h') : Inv X pins σ H' { s with heap := h', toks := t' } := by
  obtain ⟨m, ⟨o, es, ep, ho, r⟩, _⟩ := id I.loc
  obtain ⟨sl, hL⟩ := u.any ho I.free (by simp)
  exact I.step (g' := s.gens) (d' := s.drawn) (ch := []) (fun _ z => nomatch z) (fun b o _ hb _ e n => u.keep b o e n hb (by simp)) (fun b o _ hb _ e n => u.slot b o e n hb (by simp)) (fun b o _ e n => u.free b o e n (by simp)) (fun b o _ e => u.there b o e (by simp)) u.tups u.frzs u.tbls (fun m' hm => by
    obtain ⟨o', es', ep', ho', r'⟩ := hm
    rw [ho] at ho'; cases ho'
    exact ⟨_, es', ep', hL, r'⟩) hok I.bare
/-- behind a call (or a comprehension's block): the slots of this frame may have changed too, the records at ch may have turned -/
theorem Inv.call {g' : Array GenState} {t' : Nat} {d' : Drawn} {ch : List Addr} (I : Inv X pins σ H s) (u : Un (frs X.stack) ch H H' s.heap h') (hok : HOk X.prog X.w H' h') (hg : AllBare g')
    (hch : ∀ b ∈ ch, (b ∈ X.ex ∨ X.s₀.heap.objs.size ≤ b) ∧ b ≠ X.env.locals ∧ (∀ x c, X.env.cells.lookup x = some c → c ≠ b) ∧ ∀ p ∈ X.pn ++ pins, p.1 ≠ b) :
    Inv X pins σ H' { s with heap := h', gens := g', drawn := d', toks := t' } := by
  obtain ⟨m, ⟨o, es, ep, ho, r⟩, _⟩ := id I.loc
  obtain ⟨sl, hL⟩ := u.any ho I.free fun z => (hch _ z).2.1 rfl
  exact I.step (ch := ch) hch (fun b o hL hb hc e n => u.keep b o e n (fun z => (List.mem_cons.mp (I.stkSub b z)).elim hL hb) hc) (fun b o _ _ hc e n => u.any e n hc) (fun b o hc e n => u.free b o e n hc) (fun b o hc e => u.there b o e hc) u.tups u.frzs u.tbls (fun m' hm => by
    obtain ⟨o', es', ep', ho', r'⟩ := hm
    rw [ho] at ho'; cases ho'
    exact ⟨_, es', ep', hL, r'⟩) hok hg
/-- an untracked record of ours (an iterator) has turned -/
theorem Inv.turned {t' : Nat} {it : Addr} (I : Inv X pins σ H s) (k : ∀ b o, b ≠ it → s.heap.get? b = some o → h'.get? b = some o) (hn : H it = none) (hL : it ≠ X.env.locals)
    (h1 : it ∈ X.ex ∨ X.s₀.heap.objs.size ≤ it) (h2 : ∀ x c, X.env.cells.lookup x = some c → c ≠ it) (h3 : ∀ p ∈ X.pn ++ pins, p.1 ≠ it) : Inv X pins σ H { s with heap := h', toks := t' } := by
  have nit : ∀ b u, H b = some u → b ≠ it := fun b u e z => by rw [z, hn] at e; cases e
  refine I.step (g' := s.gens) (d' := s.drawn) (ch := [it]) (fun b hb => ?_) (fun b o _ _ hc e _ => k b o (fun z => hc (by simp [z])) e) (fun b o _ _ hc e _ => ⟨o.slots, k b o (fun z => hc (by simp [z])) e⟩) (fun _ _ _ _ n => n)
    (fun b o hc e => ⟨o, k b o (fun z => hc (by simp [z])) e⟩) (fun _ _ e => e) (fun _ _ _ e => e) (fun b ps e => ⟨#[], by rw [e]; simp⟩) (fun m hm => ?_) (fun b u e => ?_) I.bare
  · have e : b = it := by simpa using hb
    subst e
    exact ⟨h1, hL, h2, h3⟩
  · obtain ⟨o, es, ep, ho, r⟩ := hm
    exact ⟨o, es, ep, k _ o (Ne.symm hL) ho, r⟩
  · refine (I.hok b u e).stay (fun c v hc q => k c v ?_ q) (fun _ q => q) fun _ _ q => q
    rcases hc with z | z
    · rw [z]; exact nit b u e
    · exact nit c _ z
theorem Inv.tok (I : Inv X pins σ H s) (t : Nat) : Inv X pins σ H { s with toks := t } := I.un (h' := s.heap) (t' := t) Un.refl I.hok
/-- all objects kept -/
theorem Inv.kept {t' : Nat} (I : Inv X pins σ H s) (k : ∀ b u, s.heap.get? b = some u → h'.get? b = some u) : Inv X pins σ H { s with heap := h', toks := t' } := I.un (Un.kept k) (I.hok.kept k)
/-- a new object laid and tracked -/
theorem Inv.laid {a : Addr} {o : HO} {t' : Nat} (I : Inv X pins σ H s) (k : ∀ b u, s.heap.get? b = some u → h'.get? b = some u) (hp : s.heap.objs.size ≤ a) (new : ObjOk X.prog X.w (upd H a o) h' a o) :
    Inv X pins σ (upd H a o) { s with heap := h', toks := t' } := I.un (Un.laid k hp (I.hok.fresh hp)) (I.hok.laid k hp new)
/-- an object written -/
theorem Inv.write {x e : Addr} {o : HO} {t' : Nat} (I : Inv X pins σ H s) (mu : Mut (H x)) (he : e = x ∨ H e = some (.own x)) (k : ∀ b u, b ≠ e → s.heap.get? b = some u → h'.get? b = some u) (heo : ∃ u, h'.get? e = some u)
    (new : ObjOk X.prog X.w (upd H x o) h' x o) : Inv X pins σ (upd H x o) { s with heap := h', toks := t' } := I.un (Un.write mu he k heo) (I.hok.write mu he k heo new)
/-- forgetting slots, pins -/
theorem Inv.weak {σ' : List (Option V)} (I : Inv X pins σ H s) (hl : σ'.length = σ.length) (w : ∀ (i : Nat) v, σ'[i]? = some (some v) → σ[i]? = some (some v)) : Inv X pins σ' H s :=
  ⟨I.ok, I.os, I.bare, I.base, let ⟨m, hn, hl'⟩ := I.loc; ⟨m, hn, fun i x v e1 e2 e3 => hl' i x v e1 (w i v e2) e3⟩, I.cell, I.free, I.freeC, I.pin, I.hok, hl.trans I.len⟩
theorem Inv.pins_of {pins' : List (Addr × Obj)} (I : Inv X pins σ H s) (h : ∀ p ∈ pins', s.heap.get? p.1 = some p.2 ∧ H p.1 = none ∧ p.1 ≠ X.env.locals ∧ p.1 ∉ X.fs ∧ ∀ v, p.2.data ≠ .cell v) : Inv X pins' σ H s :=
  ⟨I.ok, I.os, I.bare, I.base, I.loc, I.cell, I.free, I.freeC, fun p hp => (List.mem_append.mp hp).elim (fun z => I.pin p (List.mem_append_left _ z)) (h p), I.hok, I.len⟩

theorem nodup_ix {N : List Str} (hN : N.Nodup) {i j : Nat} {x : Str} (a : N[i]? = some x) (b : N[j]? = some x) : i = j := by
  obtain ⟨h1, e1⟩ := List.getElem?_eq_some_iff.mp a
  obtain ⟨h2, e2⟩ := List.getElem?_eq_some_iff.mp b
  exact (List.getElem_inj hN).mp (e1.trans e2.symm)

/-- a name is stored; what changed -/
theorem store_ok2 {M : Model} {A : Around} {E : Value → Shared → Prop} {i : Nat} {x : Str} {v : V} {u : Value} {Q : Unit → Shared → Prop} (I : Inv X pins σ H s) (hN : X.N.Nodup) (hi : X.N[i]? = some x) (hx : Loc X.env.scope x) (r : RelV v u)
    (h : ∀ s', Inv X pins (σ.set i (some v)) H s' → (∃ a, Heap.SameBut a s.heap s'.heap ∧ (a = X.env.locals ∨ X.env.cells.lookup x = some a)) → Q () s') (hf : X.fn x = true ∨ X.env.scope.names.lookup x = some .local := by first | exact .inl rfl | exact .inr rfl | assumption) : wpAny M A (storeName X.env x u) Q E s := by
  obtain ⟨m, hn, hl⟩ := id I.loc
  have hcls : (X.env.scope.kind == .class || (X.env.scope.kind == .module && X.env.locals != X.env.globals)) = false := by rw [I.ok.kind]; rfl
  have hiσ : i < σ.length := by rw [I.len]; exact (List.getElem?_eq_some_iff.mp hi).1
  have cne := I.cne
  have tracked : ∀ {a : Addr} {h' : Heap}, (∃ o, s.heap.get? a = some o ∧ H a = none) → Heap.SameBut a s.heap h' → HOk X.prog X.w H h' := fun {a h'} ha hs b ob e => by
    obtain ⟨_, _, hfree⟩ := ha
    refine (I.hok b ob e).stay (fun c w' hc q => (hs.2 c ?_).trans q) (fun _ q => q) fun _ _ q => q
    rintro rfl
    rcases hc with rfl | hc
    · rw [hfree] at e; cases e
    · rw [hfree] at hc; cases hc
  rcases hx with hk | hk
  · refine wpAny_storeName_local hk hn (fun h' hn' hs => ?_) hcls
    obtain ⟨oL, _, _, hoL, _⟩ := id hn
    refine h _ ⟨I.ok, I.os, I.bare, ⟨fun b o e n hb hx => ?_, fun b o e n hb hx => ?_, I.base.free, fun b o e hx => ?_, I.base.tups, I.base.frzs, I.base.tbls⟩, ⟨_, hn', fun j y v' e1 e2 e3 => ?_⟩, fun y c e => ?_, I.free, I.freeC, fun p hp => ?_, tracked ⟨oL, hoL, I.free⟩ hs, by simpa using I.len⟩ ⟨_, hs, .inl rfl⟩
    · exact (hs.2 b (Nat.ne_of_lt (Nat.lt_of_lt_of_le (Heap.lt_size e) I.ok.above))).trans (I.base.keep b o e n hb hx)
    · obtain ⟨sl, e1⟩ := I.base.slot b o e n hb hx
      exact ⟨sl, (hs.2 b (Nat.ne_of_lt (Nat.lt_of_lt_of_le (Heap.lt_size e) I.ok.above))).trans e1⟩
    · obtain ⟨o', e1⟩ := I.base.there b o e hx
      exact ⟨o', (hs.2 b (Nat.ne_of_lt (Nat.lt_of_lt_of_le (Heap.lt_size e) I.ok.above))).trans e1⟩
    · by_cases hj : j = i
      · subst hj
        rw [hi] at e1; cases e1
        rw [List.getElem?_set_self hiσ] at e2
        cases e2
        exact ⟨u, r, .inl ⟨hk, by simp⟩⟩
      · rw [List.getElem?_set_ne (Ne.symm hj)] at e2
        obtain ⟨u', r', q⟩ := hl j y v' e1 e2 e3
        refine ⟨u', r', ?_⟩
        rcases q with ⟨k, e⟩ | ⟨k, c, e, z⟩
        · refine .inl ⟨k, ?_⟩
          have : y ≠ x := fun e => hj (nodup_ix hN e1 (e ▸ hi))
          simp [this, e]
        · exact .inr ⟨k, c, e, z.sameBut hs (cne y c e)⟩
    · obtain ⟨w', z⟩ := I.cell y c e
      exact ⟨w', z.sameBut hs (cne y c e)⟩
    · obtain ⟨e, n, ne, nf, d⟩ := I.pin p hp
      exact ⟨(hs.2 p.1 ne).trans e, n, ne, nf, d⟩
  · have hfn : X.fn x = true := by
      rcases hf with z | z
      · exact z
      · rw [z] at hk; cases hk
    obtain ⟨c, hc⟩ := I.ok.has x (.inl hk)
    obtain ⟨w', z⟩ := I.cell x c hc
    refine wpAny_storeName_cell I.ok.kind hk hc z (fun h' hc' hs => ?_)
    obtain ⟨oc, hoc, hocd⟩ := id z
    refine h { s with heap := h' } ⟨I.ok, I.os, I.bare, ⟨fun b o e n hb hx => ?_, fun b o e n hb hx => ?_, I.base.free, fun b o e hx => ?_, I.base.tups, I.base.frzs, I.base.tbls⟩, ⟨m, hn.sameBut hs (Ne.symm (cne x c hc)), fun j y v' e1 e2 e3 => ?_⟩, fun y c' e => ?_, I.free, I.freeC, fun p hp => ?_, tracked ⟨oc, hoc, I.freeC x c hc⟩ hs, by simpa using I.len⟩ ⟨c, hs, .inr hc⟩
    · exact (hs.2 b (Nat.ne_of_lt (Nat.lt_of_lt_of_le (Heap.lt_size e) (I.ok.cab x c hfn hc)))).trans (I.base.keep b o e n hb hx)
    · obtain ⟨sl, e1⟩ := I.base.slot b o e n hb hx
      exact ⟨sl, (hs.2 b (Nat.ne_of_lt (Nat.lt_of_lt_of_le (Heap.lt_size e) (I.ok.cab x c hfn hc)))).trans e1⟩
    · obtain ⟨o', e1⟩ := I.base.there b o e hx
      exact ⟨o', (hs.2 b (Nat.ne_of_lt (Nat.lt_of_lt_of_le (Heap.lt_size e) (I.ok.cab x c hfn hc)))).trans e1⟩
    · by_cases hj : j = i
      · subst hj
        rw [hi] at e1; cases e1
        rw [List.getElem?_set_self hiσ] at e2
        cases e2
        exact ⟨u, r, .inr ⟨.inl hk, c, hc, hc'⟩⟩
      · rw [List.getElem?_set_ne (Ne.symm hj)] at e2
        obtain ⟨u', r', q⟩ := hl j y v' e1 e2 e3
        refine ⟨u', r', ?_⟩
        rcases q with q | ⟨k, c', e, z'⟩
        · exact .inl q
        · refine .inr ⟨k, c', e, z'.sameBut hs ?_⟩
          rintro rfl
          exact hj (nodup_ix hN e1 (I.ok.inj _ _ _ e hc ▸ hi))
    · by_cases hcc : c' = c
      · subst hcc; exact ⟨_, hc'⟩
      · obtain ⟨w2, z2⟩ := I.cell y c' e
        exact ⟨w2, z2.sameBut hs hcc⟩
    · obtain ⟨e, n, ne, nf, d⟩ := I.pin p hp
      refine ⟨(hs.2 p.1 ?_).trans e, n, ne, nf, d⟩
      intro q
      rw [q, hoc] at e
      have q' : oc = p.2 := Option.some.inj e
      exact d w' (by rw [← q']; exact hocd)
theorem store_ok {M : Model} {A : Around} {E : Value → Shared → Prop} {i : Nat} {x : Str} {v : V} {u : Value} {Q : Unit → Shared → Prop} (I : Inv X pins σ H s) (hN : X.N.Nodup) (hi : X.N[i]? = some x) (hx : Loc X.env.scope x) (r : RelV v u)
    (h : ∀ s', Inv X pins (σ.set i (some v)) H s' → Q () s') (hf : X.fn x = true ∨ X.env.scope.names.lookup x = some .local := by first | exact .inl rfl | exact .inr rfl | assumption) : wpAny M A (storeName X.env x u) Q E s :=
  store_ok2 I hN hi hx r (fun s' I' _ => h s' I') hf
/-- behind a call or a block, the state as it is -/
theorem Inv.call' {s' : Shared} {ch : List Addr} (I : Inv X pins σ H s) (ho : s'.os = s.os) (u : Un (frs X.stack) ch H H' s.heap s'.heap) (hok : HOk X.prog X.w H' s'.heap) (hg : AllBare s'.gens)
    (hch : ∀ b ∈ ch, (b ∈ X.ex ∨ X.s₀.heap.objs.size ≤ b) ∧ b ≠ X.env.locals ∧ (∀ x c, X.env.cells.lookup x = some c → c ≠ b) ∧ ∀ p ∈ X.pn ++ pins, p.1 ≠ b) : Inv X pins σ H' s' := by
  obtain ⟨h', g', d', t', o'⟩ := s'
  have e : o' = s.os := ho
  subst e
  exact I.call (g' := g') (t' := t') (d' := d') u hok hg hch
end

/-! ### the judgements -/
/-- an exception: its class, its own dict's address (where it has one), the abstract heap behind it -/
abbrev XK := Value → Option Addr → Hp → Prop
abbrev St := List (Option V)
abbrev VK := V → Hp → Prop
/-- an expression's reading; a test's; an argument list's -/
abbrev TE := St → Hp → VK → Prop
abbrev TT := St → Hp → (Bool → Hp → Prop) → Prop
abbrev TA := St → Hp → (List V → Hp → Prop) → Prop
/-- what is wanted behind a statement -/
structure Ends where
  nx : St → Hp → Prop
  rt : VK
  bk : St → Hp → Prop := fun _ _ => False
  ct : St → Hp → Prop := fun _ _ => False
abbrev TS := Ends → St → Hp → Prop

def EP (X : Cx) (pins : List (Addr × Obj)) (σ : St) (Q : VK) (u : Value) (s' : Shared) : Prop := ∃ v H', Inv X pins σ H' s' ∧ RelV v u ∧ Q v H'
def TP (X : Cx) (pins : List (Addr × Obj)) (σ : St) (Q : Bool → Hp → Prop) (b : Bool) (s' : Shared) : Prop := ∃ H', Inv X pins σ H' s' ∧ Q b H'
def AP (X : Cx) (pins : List (Addr × Obj)) (σ : St) (Q : List V → Hp → Prop) (us : List Value) (s' : Shared) : Prop := ∃ vs H', Inv X pins σ H' s' ∧ Vals vs us ∧ Q vs H'
def SP (X : Cx) (pins : List (Addr × Obj)) (D : Ends) (f : Flow) (s' : Shared) : Prop :=
  match f with
  | .next => ∃ σ' H', Inv X pins σ' H' s' ∧ D.nx σ' H'
  | .brk => ∃ σ' H', Inv X pins σ' H' s' ∧ D.bk σ' H'
  | .cont => ∃ σ' H', Inv X pins σ' H' s' ∧ D.ct σ' H'
  | .ret u => ∃ v σ' H', Inv X pins σ' H' s' ∧ RelV v u ∧ D.rt v H'

def PE (X : Cx) (e : Expr) (t : TE) : Prop :=
  ∀ (pins : List (Addr × Obj)) (s : Shared) (σ : St) (H : Hp) (Q : VK), Inv X pins σ H s → t σ H Q → wpAny (model X.prog X.w) X.A (eval e X.env) (EP X pins σ Q) X.xe s
def PT (X : Cx) (e : Expr) (t : TT) : Prop :=
  ∀ (pins : List (Addr × Obj)) (s : Shared) (σ : St) (H : Hp) (Q : Bool → Hp → Prop), Inv X pins σ H s → t σ H Q → wpAny (model X.prog X.w) X.A (isTrue e X.env (eval e X.env)) (TP X pins σ Q) X.xe s
/-- a test whatever its 'whole' is (and, or) -/
def PW (X : Cx) (e : Expr) (t : TT) : Prop :=
  ∀ (whole : Sem Value) (pins : List (Addr × Obj)) (s : Shared) (σ : St) (H : Hp) (Q : Bool → Hp → Prop), Inv X pins σ H s → t σ H Q → wpAny (model X.prog X.w) X.A (isTrue e X.env whole) (TP X pins σ Q) X.xe s
theorem PW.pt {X : Cx} {e : Expr} {t : TT} (h : PW X e t) : PT X e t := h _
/-- an argument list (no star), from the left -/
def PA (X : Cx) (es : List Expr) (t : TA) : Prop :=
  ∀ (pos : Pos) (pins : List (Addr × Obj)) (s : Shared) (σ : St) (H : Hp) (Q : List V → Hp → Prop), Inv X pins σ H s → t σ H Q → wpAny (model X.prog X.w) X.A (spliced (backTo pos (starEach es X.env))) (AP X pins σ Q) X.xe s
def PS (X : Cx) (st : Stmt) (t : TS) : Prop :=
  ∀ (pins : List (Addr × Obj)) (s : Shared) (σ : St) (H : Hp) (D : Ends), Inv X pins σ H s → t D σ H → wpAny (model X.prog X.w) X.A (exec st X.env) (SP X pins D) X.xe s
def PSs (X : Cx) (st : List Stmt) (t : TS) : Prop :=
  ∀ (pins : List (Addr × Obj)) (s : Shared) (σ : St) (H : Hp) (D : Ends), Inv X pins σ H s → t D σ H → wpAny (model X.prog X.w) X.A (execs st X.env) (SP X pins D) X.xe s
/-- weaken the end -/
theorem thn {α : Type} {t : Sem α} {Q Q' : α → Shared → Prop} {M : Model} {A : Around} {E : Value → Shared → Prop} {s : Shared} (h : wpAny M A t Q E s) (hQ : ∀ a s, Q a s → Q' a s) : wpAny M A t Q' E s := wpAny_mono h hQ fun _ _ x => x
end L2

namespace L2
open PySem PySem.Spec PyProof.Rows
section
variable {X : Cx}

/-- two expressions in a row -/
theorem bin {a b : Expr} {ta tb : TE} (ha : PE X a ta) (hb : PE X b tb) {pins : List (Addr × Obj)} {s : Shared} {σ : St} {H : Hp} {R : V → V → Hp → Prop} (I : Inv X pins σ H s) (h : ta σ H fun x H1 => tb σ H1 fun y H2 => R x y H2)
    {α : Type} {Q : α → Shared → Prop} {f : Value → Value → Sem α}
    (hf : ∀ v u s2 x y H2, Inv X pins σ H2 s2 → RelV x v → RelV y u → R x y H2 → wpAny (model X.prog X.w) X.A (f v u) Q X.xe s2) :
    wpAny (model X.prog X.w) X.A (eval a X.env) (fun v s₁ => wpAny (model X.prog X.w) X.A (eval b X.env) (fun u s₂ => wpAny (model X.prog X.w) X.A (f v u) Q X.xe s₂) X.xe s₁) X.xe s := by
  refine thn (ha pins s σ H _ I h) fun v s1 ⟨x, H1, I1, r1, q1⟩ => ?_
  refine thn (hb pins s1 σ H1 _ I1 q1) fun u s2 ⟨y, H2, I2, r2, q2⟩ => ?_
  exact hf v u s2 x y H2 I2 r1 r2 q2

/-! ### names and constants -/
def tVar (i : Nat) : TE := fun σ H Q => ∃ v, σ[i]? = some (some v) ∧ Q v H
def tC (v : V) : TE := fun _ H Q => Q v H
theorem pe_var {i : Nat} {x : Str} {pos : Pos} (hN : X.N[i]? = some x) (hv : Vis X.env.scope x) (hd : (x == ("__debug__" : Str)) = false := by decide) (hcd : (x == ("__classdict__" : Str)) = false := by decide) : PE X (.Name x pos) (tVar i) := by
  intro pins s σ H Q I h
  obtain ⟨v, e, h⟩ := h
  obtain ⟨m, hn, hl⟩ := I.loc
  obtain ⟨u, r, l⟩ := hl i x v hN e hv
  have fin : EP X pins σ Q u s := ⟨v, H, I, r, h⟩
  rcases l with ⟨hk, hm⟩ | ⟨hk, c, hc, hcell⟩
  · exact wpAny_Name (wpAny_loadName_local I.ok.kind hk hn hm fin) hd
  · rcases hk with hk | hk
    · exact wpAny_Name (wpAny_loadName_cell I.ok.kind hk hc hcell fin) hd
    · exact wpAny_Name (wpAny_loadName_free I.ok.kind hk hc hcell fin hcd) hd
theorem pe_int {i j pos} : PE X (.Constant (.int i) j pos) (tC (.int i)) := fun _ _ _ H _ I h => wpAny_Constant_int ⟨.int i, H, I.tok _, ⟨_, rfl⟩, h⟩
theorem pe_bl {b j pos} : PE X (.Constant (.bool b) j pos) (tC (.bl b)) := fun _ _ _ H _ I h => Constant_bool ⟨.bl b, H, I, rfl, h⟩
theorem pe_non {j pos} : PE X (.Constant .none j pos) (tC .non) := fun _ _ _ H _ I h => Constant_none ⟨.non, H, I, rfl, h⟩
theorem pe_str {x j pos} : PE X (.Constant (.str x) j pos) (tC (.str x)) := fun _ _ _ H _ I h => Calls.Constant_str ⟨.str x, H, I.tok _, ⟨_, rfl⟩, h⟩

/-- a global name of the def -/
def Gl (X : Cx) (x : Str) : Prop := X.env.kindOf x = some .globalImplicit
theorem ld_glob {E : Value → Shared → Prop} {pins : List (Addr × Obj)} {s : Shared} {σ : St} {H : Hp} {x : Str} {u : Value} {pos : Pos} {Q : Value → Shared → Prop} (I : Inv X pins σ H s) (hg : Gl X x) (hm : X.mg x = some u) (h : Q u s)
    (hd : (x == ("__debug__" : Str)) = false := by decide) : wpAny (model X.prog X.w) X.A (eval (.Name x pos) X.env) Q E s :=
  Calls.Name_function_global I.ok.kind hg (Calls.loadGlobal_global (by rw [I.ok.glob]; exact I.mod.glob.keeps I.bk) hm h) hd
theorem ld_blt {E : Value → Shared → Prop} {pins : List (Addr × Obj)} {s : Shared} {σ : St} {H : Hp} {x : Str} {u : Value} {pos : Pos} {Q : Value → Shared → Prop} (I : Inv X pins σ H s) (hg : Gl X x) (hm : X.mg x = none) (hv : bootBuiltins x = some u) (h : Q u s)
    (hn : x ≠ "__name__" := by decide) (hd : (x == ("__debug__" : Str)) = false := by decide) : wpAny (model X.prog X.w) X.A (eval (.Name x pos) X.env) Q E s := by
  obtain ⟨mb, h1, h2⟩ := I.mod.blt
  exact Calls.Name_function_global I.ok.kind hg (Calls.loadGlobal_builtin (by rw [I.ok.glob]; exact I.mod.glob.keeps I.bk) hm (by rw [I.ok.blt]; exact h1.keeps I.bk) ((h2 x hn).trans hv) h) hd
/-- a module's constant, a class, a function, as a value -/
theorem pe_glob {x : Str} {v : V} {u : Value} {pos : Pos} (hg : Gl X x) (hm : X.mg x = some u) (r : RelV v u) (hd : (x == ("__debug__" : Str)) = false := by decide) : PE X (.Name x pos) (tC v) :=
  fun _ _ _ H _ I h => ld_glob I hg hm ⟨v, H, I, r, h⟩ hd
theorem pe_bltn {x : Str} {v : V} {u : Value} {pos : Pos} (hg : Gl X x) (hm : X.mg x = none) (hv : bootBuiltins x = some u) (r : RelV v u) (hn : x ≠ "__name__" := by decide) (hd : (x == ("__debug__" : Str)) = false := by decide) : PE X (.Name x pos) (tC v) :=
  fun _ _ _ H _ I h => ld_blt I hg hm hv ⟨v, H, I, r, h⟩ hn hd

/-! ### arithmetic -/
/-- two ints -/
def t2I (ta tb : TE) (k : Int → Int → Hp → Prop) : St → Hp → Prop := fun σ H => ta σ H fun x H1 => tb σ H1 fun y H2 => ∃ i j, x = .int i ∧ y = .int j ∧ k i j H2
def tAdd (ta tb : TE) : TE := fun σ H Q => t2I ta tb (fun i j H2 => Q (.int (i + j)) H2) σ H
def tSub (ta tb : TE) : TE := fun σ H Q => t2I ta tb (fun i j H2 => Q (.int (i - j)) H2) σ H
/-- the left factor below 2^64 -/
def tMul (ta tb : TE) : TE := fun σ H Q => t2I ta tb (fun i j H2 => (-(2 ^ 64) < i ∧ i < 2 ^ 64) ∧ Q (.int (i * j)) H2) σ H
variable {a b : Expr} {ta tb : TE} {pos : Pos}
theorem pe_add (ha : PE X a ta) (hb : PE X b tb) : PE X (.BinOp a .Add b pos) (tAdd ta tb) := by
  intro pins s σ H Q I h
  refine wpAny_BinOp (bin ha hb I h fun v u s2 x y H2 I2 rx ry q => ?_)
  obtain ⟨i, j, rfl, rfl, q⟩ := q
  obtain ⟨t, rfl⟩ := rx
  obtain ⟨t', rfl⟩ := ry
  exact add_int ⟨.int _, H2, I2.tok _, ⟨_, rfl⟩, q⟩
theorem pe_sub (ha : PE X a ta) (hb : PE X b tb) : PE X (.BinOp a .Sub b pos) (tSub ta tb) := by
  intro pins s σ H Q I h
  refine wpAny_BinOp (bin ha hb I h fun v u s2 x y H2 I2 rx ry q => ?_)
  obtain ⟨i, j, rfl, rfl, q⟩ := q
  obtain ⟨t, rfl⟩ := rx
  obtain ⟨t', rfl⟩ := ry
  exact sub_int ⟨.int _, H2, I2.tok _, ⟨_, rfl⟩, q⟩
theorem pe_mul (ha : PE X a ta) (hb : PE X b tb) : PE X (.BinOp a .Mult b pos) (tMul ta tb) := by
  intro pins s σ H Q I h
  refine wpAny_BinOp (bin ha hb I h fun v u s2 x y H2 I2 rx ry q => ?_)
  obtain ⟨i, j, rfl, rfl, ⟨q1, q2⟩, q⟩ := q
  obtain ⟨t, rfl⟩ := rx
  obtain ⟨t', rfl⟩ := ry
  exact mul_int ⟨.int _, H2, I2.tok _, ⟨_, rfl⟩, q⟩ (.of_left (intBits_le_64 q1 q2))

/-! ### comparisons -/
def PC (X : Cx) (op : CmpOp) (a b : Expr) (t : TE) : Prop :=
  ∀ (pins : List (Addr × Obj)) (s : Shared) (σ : St) (H : Hp) (Q : VK), Inv X pins σ H s → t σ H Q →
    wpAny (model X.prog X.w) X.A (eval a X.env) (fun v s₁ => wpAny (model X.prog X.w) X.A (eval b X.env) (fun u s₂ => wpAny (model X.prog X.w) X.A (compareOp op v u) (EP X pins σ Q) X.xe s₂) X.xe s₁) X.xe s
theorem nobehind (b : Expr) {op : CmpOp} (h : op ≠ .In) (h2 : op ≠ .NotIn) : behindInMarks op b = false := by
  have e1 : (op == CmpOp.In) = false := by cases op <;> first | rfl | exact absurd rfl h
  have e2 : (op == CmpOp.NotIn) = false := by cases op <;> first | rfl | exact absurd rfl h2
  cases b <;> simp [behindInMarks, e1, e2]
def tCmp (p : Int → Int → Bool) (ta tb : TE) : TE := fun σ H Q => t2I ta tb (fun i j H2 => Q (.bl (p i j)) H2) σ H
abbrev tLt : TE → TE → TE := tCmp fun i j => decide (i < j)
abbrev tLe : TE → TE → TE := tCmp fun i j => decide (i ≤ j)
abbrev tGt : TE → TE → TE := tCmp fun i j => decide (j < i)
abbrev tGe : TE → TE → TE := tCmp fun i j => decide (j ≤ i)
abbrev tEqI : TE → TE → TE := tCmp fun i j => decide (i = j)
abbrev tNeI : TE → TE → TE := tCmp fun i j => !decide (i = j)
/-- a comparison of two ints, by its rule -/
theorem pc_int {op : CmpOp} {p : Int → Int → Bool} (ha : PE X a ta) (hb : PE X b tb)
    (rule : ∀ (i j : Int) (t u : Tok) (Q : Value → Shared → Prop) (s : Shared), Q (.bool (p i j)) s → wpAny (model X.prog X.w) X.A (compareOp op (.int i t) (.int j u)) Q X.xe s) : PC X op a b (tCmp p ta tb) := by
  intro pins s σ H Q I h
  refine bin ha hb I h fun v u s2 x y H2 I2 rx ry q => ?_
  obtain ⟨i, j, rfl, rfl, q⟩ := q
  obtain ⟨t, rfl⟩ := rx
  obtain ⟨t', rfl⟩ := ry
  exact rule i j t t' _ s2 ⟨.bl _, H2, I2, rfl, q⟩
theorem pc_lt (ha : PE X a ta) (hb : PE X b tb) : PC X .Lt a b (tLt ta tb) := pc_int ha hb fun _ _ _ _ _ _ h => lt_int h
theorem pc_le (ha : PE X a ta) (hb : PE X b tb) : PC X .LtE a b (tLe ta tb) := pc_int ha hb fun _ _ _ _ _ _ h => le_int h
theorem pc_gt (ha : PE X a ta) (hb : PE X b tb) : PC X .Gt a b (tGt ta tb) := pc_int ha hb fun _ _ _ _ _ _ h => gt_int h
theorem pc_ge (ha : PE X a ta) (hb : PE X b tb) : PC X .GtE a b (tGe ta tb) := pc_int ha hb fun _ _ _ _ _ _ h => ge_int h
theorem pc_eqI (ha : PE X a ta) (hb : PE X b tb) : PC X .Eq a b (tEqI ta tb) := pc_int ha hb fun _ _ _ _ _ _ h => eq_int (by rw [Bool.beq_eq_decide_eq]; exact h)
theorem pc_neI (ha : PE X a ta) (hb : PE X b tb) : PC X .NotEq a b (tNeI ta tb) := pc_int ha hb fun _ _ _ _ _ _ h => ne_int (by rw [bne, Bool.beq_eq_decide_eq]; exact h)
/-- is None -/
def tIsN (ta : TE) : TE := fun σ H Q => ta σ H fun x H1 => Q (.bl (decide (x = .non))) H1
def tNotN (ta : TE) : TE := fun σ H Q => ta σ H fun x H1 => Q (.bl (!decide (x = .non))) H1
theorem RelV.none_iff {x : V} {v : Value} (r : RelV x v) : (v == Value.none) = decide (x = .non) := by
  cases x with
  | non => cases r; rfl
  | bl _ => cases r; rfl
  | int _ => obtain ⟨t, rfl⟩ := r; rfl
  | str _ => obtain ⟨t, rfl⟩ := r; rfl
  | byt _ => obtain ⟨t, rfl⟩ := r; rfl
  | flt _ => obtain ⟨t, rfl⟩ := r; rfl
  | ref _ => cases r; rfl
  | ty _ => cases r; rfl
theorem pc_isN {j pos'} (ha : PE X a ta) : PC X .Is a (.Constant .none j pos') (tIsN ta) := by
  intro pins s σ H Q I h
  refine thn (ha pins s σ H _ I h) fun v s1 ⟨x, H1, I1, r1, q1⟩ => ?_
  exact Constant_none (is_none_gen ⟨.bl _, H1, I1, by rw [r1.none_iff]; rfl, q1⟩)
theorem pc_notN {j pos'} (ha : PE X a ta) : PC X .IsNot a (.Constant .none j pos') (tNotN ta) := by
  intro pins s σ H Q I h
  refine thn (ha pins s σ H _ I h) fun v s1 ⟨x, H1, I1, r1, q1⟩ => ?_
  exact Constant_none (isnot_none_gen ⟨.bl _, H1, I1, by rw [r1.none_iff]; rfl, q1⟩)
/-- a comparison as a value, as a test -/
def tB (t : TE) : TT := fun σ H Q => t σ H fun x H1 => ∃ c, x = .bl c ∧ Q c H1
theorem pe_cmp {op : CmpOp} {t : TE} (h : PC X op a b t) (h1 : behindInMarks op b = false := by first | exact nobehind _ (by decide) (by decide) | rfl) : PE X (.Compare a [op] [b] pos) t := fun pins s σ H Q I hw => wpAny_Compare1 (h pins s σ H Q I hw) h1
theorem pt_cmp {op : CmpOp} {t : TE} (h : PC X op a b t) (h1 : behindInMarks op b = false := by first | exact nobehind _ (by decide) (by decide) | rfl) : PT X (.Compare a [op] [b] pos) (tB t) := by
  intro pins s σ H Q I hw
  refine wpAny_isTrue_Compare1 (thn (h pins s σ H _ I hw) fun v s1 h1 => thn h1 fun u s2 h2 => thn h2 fun c s3 ⟨x, H1, I1, r1, q1⟩ => ?_) h1
  obtain ⟨d, rfl, q⟩ := q1
  cases r1
  exact wpAny_truthy_bool ⟨H1, I1, q⟩
/-- an expression whose value is a bool, as a test -/
theorem pt_val {e : Expr} {t : TE} (h : PE X e t) (he : ∀ whole, isTrue e X.env whole = (do let v ← whole; standAt e.pos; holding [v] (truthy v)) := by intro _; rfl) : PT X e (tB t) := by
  intro pins s σ H Q I hw
  refine isTrue_plain (thn (h pins s σ H _ I hw) fun v s1 ⟨x, H1, I1, r1, q1⟩ => ?_) (he _)
  obtain ⟨d, rfl, q⟩ := q1
  cases r1
  exact wpAny_truthy_bool ⟨H1, I1, q⟩

/-! ### and, or, not -/
variable {tA tB' : TT} {rest : List Expr}
def tAnd (t u : TT) : TT := fun σ H Q => t σ H fun c H1 => if c = true then u σ H1 Q else Q false H1
def tOr (t u : TT) : TT := fun σ H Q => t σ H fun c H1 => if c = true then Q true H1 else u σ H1 Q
def tNot (t : TT) : TT := fun σ H Q => t σ H fun c H1 => Q (!c) H1
theorem pw_and1 (ha : PT X a tA) : PW X (.BoolOp .And [a] pos) tA := by
  intro wh pins s σ H Q I h
  refine isTrue_and (thn (ha pins s σ H Q I h) fun c s1 e => ?_)
  cases c with
  | true => exact isTrue_and_nil e
  | false => exact e
theorem pw_or1 (ha : PT X a tA) : PW X (.BoolOp .Or [a] pos) tA := by
  intro wh pins s σ H Q I h
  refine isTrue_or (thn (ha pins s σ H Q I h) fun c s1 e => ?_)
  cases c with
  | false => exact isTrue_or_nil e
  | true => exact e
theorem pw_and (ha : PT X a tA) (hb : PW X (.BoolOp .And (b :: rest) pos) tB') : PW X (.BoolOp .And (a :: b :: rest) pos) (tAnd tA tB') := by
  intro wh pins s σ H Q I h
  refine isTrue_and (thn (ha pins s σ H _ I h) fun c s1 ⟨H1, I1, q1⟩ => ?_)
  cases c with
  | true => exact hb wh pins s1 σ H1 Q I1 q1
  | false => exact ⟨H1, I1, q1⟩
theorem pw_or (ha : PT X a tA) (hb : PW X (.BoolOp .Or (b :: rest) pos) tB') : PW X (.BoolOp .Or (a :: b :: rest) pos) (tOr tA tB') := by
  intro wh pins s σ H Q I h
  refine isTrue_or (thn (ha pins s σ H _ I h) fun c s1 ⟨H1, I1, q1⟩ => ?_)
  cases c with
  | true => exact ⟨H1, I1, q1⟩
  | false => exact hb wh pins s1 σ H1 Q I1 q1
theorem pt_not (ha : PT X a tA) : PT X (.UnaryOp .Not a pos) (tNot tA) := by
  intro pins s σ H Q I h
  exact isTrue_not (ha pins s σ H (fun c H1 => Q (!c) H1) I h)
/-- .. as values (bools) -/
def tAndV (ta tb : TE) : TE := fun σ H Q => ta σ H fun x H1 => ∃ c, x = .bl c ∧ if c = true then tb σ H1 Q else Q (.bl false) H1
def tOrV (ta tb : TE) : TE := fun σ H Q => ta σ H fun x H1 => ∃ c, x = .bl c ∧ if c = true then Q (.bl true) H1 else tb σ H1 Q
def tNotV (ta : TE) : TE := fun σ H Q => ta σ H fun x H1 => ∃ c, x = .bl c ∧ Q (.bl (!c)) H1
theorem pe_one {op} {t : TE} (h : PE X a t) : PE X (.BoolOp op [a] pos) t := fun pins s σ H Q I hw => BoolOp_one (h pins s σ H Q I hw)
theorem pe_and (ha : PE X a ta) (hb : PE X (.BoolOp .And (b :: rest) pos) tb) : PE X (.BoolOp .And (a :: b :: rest) pos) (tAndV ta tb) := by
  intro pins s σ H Q I h
  refine BoolOp_and (thn (ha pins s σ H _ I h) fun v s1 ⟨x, H1, I1, r1, q1⟩ => ?_)
  obtain ⟨c, rfl, q1⟩ := q1
  cases r1
  refine wpAny_truthy_bool ?_
  cases c with
  | true => exact hb pins s1 σ H1 Q I1 q1
  | false => exact ⟨.bl false, H1, I1, rfl, q1⟩
theorem pe_or (ha : PE X a ta) (hb : PE X (.BoolOp .Or (b :: rest) pos) tb) : PE X (.BoolOp .Or (a :: b :: rest) pos) (tOrV ta tb) := by
  intro pins s σ H Q I h
  refine BoolOp_or (thn (ha pins s σ H _ I h) fun v s1 ⟨x, H1, I1, r1, q1⟩ => ?_)
  obtain ⟨c, rfl, q1⟩ := q1
  cases r1
  refine wpAny_truthy_bool ?_
  cases c with
  | false => exact hb pins s1 σ H1 Q I1 q1
  | true => exact ⟨.bl true, H1, I1, rfl, q1⟩
theorem pe_not (ha : PE X a ta) : PE X (.UnaryOp .Not a pos) (tNotV ta) := by
  intro pins s σ H Q I h
  refine UnaryOp_ (thn (ha pins s σ H _ I h) fun v s1 ⟨x, H1, I1, r1, q1⟩ => ?_)
  obtain ⟨c, rfl, q1⟩ := q1
  cases r1
  exact not_of (wpAny_truthy_bool ⟨.bl (!c), H1, I1, rfl, q1⟩)
/-- a if t else b -/
def tIf (t : TT) (ta tb : TE) : TE := fun σ H Q => t σ H fun c H1 => if c = true then ta σ H1 Q else tb σ H1 Q
theorem pe_ifExp {c : Expr} (hc : PT X c tA) (ha : PE X a ta) (hb : PE X b tb) : PE X (.IfExp c a b pos) (tIf tA ta tb) := by
  intro pins s σ H Q I h
  refine wpAny_IfExp (thn (hc pins s σ H _ I h) fun d s1 ⟨H1, I1, q1⟩ => ?_)
  cases d with
  | true => exact ha pins s1 σ H1 Q I1 q1
  | false => exact hb pins s1 σ H1 Q I1 q1
end
end L2

namespace L2
open PySem PySem.Spec PyProof.Rows

/-! ### a list, a tuple that is read: tracked, frozen, or an object of the module -/
def SqL (K : PySem.W.Frag) (H : Hp) (a : Addr) (xs : List V) : Prop :=
  Rd H a (.lst xs) ∨
    ∃ (o : Obj) (its : Array Value) (n : Nat), K.lookup a = some o ∧ o.cls = .type "list" ∧ o.dict = none ∧ o.data = .seq its n ∧ its.size ≤ sizeLine ∧ Vals xs its.toList
def SqT (K : PySem.W.Frag) (H : Hp) (a : Addr) (xs : List V) : Prop :=
  Rd H a (.tup xs) ∨
    ∃ (o : Obj) (its : Array Value) (n : Nat), K.lookup a = some o ∧ o.cls = .type "tuple" ∧ o.data = .seq its n ∧ its.size ≤ sizeLine ∧ Vals xs its.toList
def absV : Value → Option V
  | .none => some .non
  | .bool b => some (.bl b)
  | .int i _ => some (.int i)
  | .str x _ => some (.str x)
  | .bytes b _ => some (.byt b)
  | .float b _ => some (.flt b)
  | .ref a => some (.ref a)
  | .type n => some (.ty n)
  | _ => none
theorem RelV.abs {x : V} {u : Value} (r : RelV x u) : absV u = some x := by
  cases x with
  | non => cases r; rfl
  | bl _ => cases r; rfl
  | int _ => obtain ⟨t, rfl⟩ := r; rfl
  | str _ => obtain ⟨t, rfl⟩ := r; rfl
  | byt _ => obtain ⟨t, rfl⟩ := r; rfl
  | flt _ => obtain ⟨t, rfl⟩ := r; rfl
  | ref _ => cases r; rfl
  | ty _ => cases r; rfl
theorem RelV.inj {x y : V} {u : Value} (r : RelV x u) (q : RelV y u) : x = y := Option.some.inj (r.abs.symm.trans q.abs)
theorem Vals.inj : ∀ {xs ys : List V} {us : List Value}, Vals xs us → Vals ys us → xs = ys
  | _, _, _, .nil, .nil => rfl
  | _, _, _, .cons r t, .cons r' t' => by rw [r.inj r', Vals.inj t t']
section
variable {X : Cx} {pins : List (Addr × Obj)} {σ : St} {H : Hp} {s : Shared} {a : Addr} {xs ys : List V}
theorem SqL.of {K : PySem.W.Frag} (h : H a = some (.lst xs)) : SqL K H a xs := .inl (.inl h)
theorem SqT.of {K : PySem.W.Frag} (h : H a = some (.tup xs)) : SqT K H a xs := .inl (.inl h)
theorem Inv.list (I : Inv X pins σ H s) (h : SqL X.K H a xs) : ∃ its : List Value, Vals xs its ∧ PlainL s.heap a its.toArray ∧ xs.length ≤ sizeLine := by
  rcases h with h | ⟨o, its, n, hk, hc, hd, hs, hz, r⟩
  · obtain ⟨z, its, n, r, e⟩ := h.ok I.hok
    exact ⟨its, r, ⟨_, n, e, rfl, rfl, rfl⟩, z⟩
  · refine ⟨its.toList, r, ⟨o, n, I.kIn a o hk, hc, hd, by simpa using hs⟩, ?_⟩
    have e := r.length
    simp only [Array.length_toList] at e
    omega
theorem Inv.tuple (I : Inv X pins σ H s) (h : SqT X.K H a xs) : ∃ its : List Value, Vals xs its ∧ IsTup s.heap a its.toArray ∧ xs.length ≤ sizeLine := by
  rcases h with h | ⟨o, its, n, hk, hc, hs, hz, r⟩
  · obtain ⟨z, its, r, p⟩ := h.ok I.hok
    exact ⟨its, r, p, z⟩
  · refine ⟨its.toList, r, ⟨o, I.kIn a o hk, hc, n, by simpa using hs⟩, ?_⟩
    have e := r.length
    simp only [Array.length_toList] at e
    omega
theorem Inv.list_inj (I : Inv X pins σ H s) (h : SqL X.K H a xs) (h' : SqL X.K H a ys) : xs = ys := by
  obtain ⟨its, r, ⟨o, n, e, _, _, d⟩, _⟩ := I.list h
  obtain ⟨its', r', ⟨o', n', e', _, _, d'⟩, _⟩ := I.list h'
  rw [e] at e'; cases e'
  rw [d] at d'
  injection d' with d1 _
  have : its = its' := by simpa using congrArg Array.toList d1
  subst this
  exact r.inj r'
theorem Inv.tuple_inj (I : Inv X pins σ H s) (h : SqT X.K H a xs) (h' : SqT X.K H a ys) : xs = ys := by
  obtain ⟨its, r, ⟨o, e, _, n, d⟩, _⟩ := I.tuple h
  obtain ⟨its', r', ⟨o', e', _, n', d'⟩, _⟩ := I.tuple h'
  rw [e] at e'; cases e'
  rw [d] at d'
  injection d' with d1 _
  have : its = its' := by simpa using congrArg Array.toList d1
  subst this
  exact r.inj r'
end

/-! ### another wish about exceptions -/
abbrev Cx.wish (X : Cx) (E : Value → Shared → Prop) : Cx := { X with xe := E }
/-- no exception leaves -/
abbrev Cx.nox (X : Cx) : Cx := X.wish fun _ _ => False
theorem Cx.Ok.wish {X : Cx} (ok : X.Ok) (E : Value → Shared → Prop) : (X.wish E).Ok :=
  ⟨ok.mod, ok.kind, ok.glob, ok.blt, ok.above, ok.inj, ok.has, ok.cab, ok.hd, ok.frames, ok.stk, ok.exf, ok.bs, ok.bsz, ok.noex, ok.exfs, ok.funs, ok.frf⟩
theorem Cx.Ok.unwish {X : Cx} {E : Value → Shared → Prop} (ok : (X.wish E).Ok) : X.Ok :=
  ⟨ok.mod, ok.kind, ok.glob, ok.blt, ok.above, ok.inj, ok.has, ok.cab, ok.hd, ok.frames, ok.stk, ok.exf, ok.bs, ok.bsz, ok.noex, ok.exfs, ok.funs, ok.frf⟩
section
variable {X : Cx} {pins : List (Addr × Obj)} {σ : St} {H : Hp} {s : Shared} {E : Value → Shared → Prop}
theorem Inv.wish (I : Inv X pins σ H s) (E : Value → Shared → Prop) : Inv (X.wish E) pins σ H s := ⟨I.ok.wish E, I.os, I.bare, I.base, I.loc, I.cell, I.free, I.freeC, I.pin, I.hok, I.len⟩
theorem Inv.unwish (I : Inv (X.wish E) pins σ H s) : Inv X pins σ H s := ⟨I.ok.unwish, I.os, I.bare, I.base, I.loc, I.cell, I.free, I.freeC, I.pin, I.hok, I.len⟩
theorem SP.unwish {D : Ends} {f : Flow} {s' : Shared} (h : SP (X.wish E) pins D f s') : SP X pins D f s' := by
  cases f with
  | next => obtain ⟨σ', H', I, q⟩ := h; exact ⟨σ', H', I.unwish, q⟩
  | brk => obtain ⟨σ', H', I, q⟩ := h; exact ⟨σ', H', I.unwish, q⟩
  | cont => obtain ⟨σ', H', I, q⟩ := h; exact ⟨σ', H', I.unwish, q⟩
  | ret u => obtain ⟨v, σ', H', I, r, q⟩ := h; exact ⟨v, σ', H', I.unwish, r, q⟩
theorem PE.nox {e : Expr} {t : TE} (h : PE X.nox e t) : PE X e t := fun pins s σ H Q I hw =>
  wpAny_mono (h pins s σ H Q (I.wish _) hw) (fun _ _ ⟨v, H', I', r, q⟩ => ⟨v, H', I'.unwish, r, q⟩) fun _ _ z => False.elim z
theorem PT.nox {e : Expr} {t : TT} (h : PT X.nox e t) : PT X e t := fun pins s σ H Q I hw =>
  wpAny_mono (h pins s σ H Q (I.wish _) hw) (fun _ _ ⟨H', I', q⟩ => ⟨H', I'.unwish, q⟩) fun _ _ z => False.elim z
theorem PSs.nox {st : List Stmt} {t : TS} (h : PSs X.nox st t) : PSs X st t := fun pins s σ H D I hw =>
  wpAny_mono (h pins s σ H D (I.wish _) hw) (fun _ _ q => q.unwish) fun _ _ z => False.elim z
end

/-! ### blocks and small statements -/
section
variable {X : Cx} {st : Stmt} {rest : List Stmt} {t u : TS} {e : Expr} {te : TE} {pos : Pos}
def tNext : TS := fun D σ H => D.nx σ H
def tSeq (t u : TS) : TS := fun D σ H => t { D with nx := u D } σ H
theorem pss_nil : PSs X [] tNext := fun _ _ σ H _ I h => wpAny_execs_nil ⟨σ, H, I, h⟩
theorem pss_cons (h1 : PS X st t) (h2 : PSs X rest u) : PSs X (st :: rest) (tSeq t u) := by
  intro pins s σ H D I h
  refine wpAny_execs_cons (thn (h1 pins s σ H { D with nx := u D } I h) fun f s1 q => ?_)
  cases f with
  | next =>
    obtain ⟨σ', H', I', q⟩ := q
    exact h2 pins s1 σ' H' D I' q
  | ret v => exact q
  | brk => exact q
  | cont => exact q
theorem pss_one (h1 : PS X st t) : PSs X [st] t := by
  intro pins s σ H D I h
  refine wpAny_execs_cons (thn (h1 pins s σ H D I h) fun f s1 q => ?_)
  cases f with
  | next => exact wpAny_execs_nil q
  | ret v => exact q
  | brk => exact q
  | cont => exact q
def tBreak : TS := fun D σ H => D.bk σ H
def tCont : TS := fun D σ H => D.ct σ H
theorem ps_pass : PS X (.Pass pos) tNext := fun _ _ σ H _ I h => wpAny_Pass ⟨σ, H, I, h⟩
theorem ps_break : PS X (.Break pos) tBreak := fun _ _ σ H _ I h => wpAny_Break ⟨σ, H, I, h⟩
theorem ps_continue : PS X (.Continue pos) tCont := fun _ _ σ H _ I h => wpAny_Continue ⟨σ, H, I, h⟩
/-- in a def's body nothing is shown -/
theorem Inv.quiet {pins : List (Addr × Obj)} {σ : St} {H : Hp} {s : Shared} (I : Inv X pins σ H s) : interactive X.env = false := by simp [interactive, I.ok.kind]
/-- a docstring -/
theorem ps_doc {x j pos pos'} : PS X (.Expr (.Constant (.str x) j pos) pos') tNext := fun _ s σ H _ I h => wpAny_Expr (Calls.Constant_str (show SP X _ _ .next { s with toks := s.toks + 1 } from ⟨σ, H, I.tok _, h⟩)) I.quiet
/-- an expression whose value is dropped -/
def tDrop (te : TE) : TS := fun D σ H => te σ H fun _ H1 => D.nx σ H1
theorem ps_expr (he : PE X e te) (hs : swapsWith e none pos.line X.env = pure false := by rfl) : PS X (.Expr e pos) (tDrop te) := by
  intro pins s σ H D I h
  exact wpAny_Expr_any (thn (he pins s σ H _ I h) fun v s1 ⟨x, H1, I1, r1, q1⟩ => ⟨σ, H1, I1, q1⟩) I.quiet hs
def tRet (te : TE) : TS := fun D σ H => te σ H D.rt
theorem ps_ret (he : PE X e te) : PS X (.Return (some e) pos) (tRet te) := by
  intro pins s σ H D I h
  exact wpAny_Return_some (thn (he pins s σ H _ I h) fun v s1 ⟨x, H1, I1, r1, q1⟩ => ⟨x, σ, H1, I1, r1, q1⟩)
def tRetN : TS := fun D _ H => D.rt .non H
theorem ps_retN : PS X (.Return none pos) tRetN := fun _ _ σ H _ I h => wpAny_Return_none ⟨.non, σ, H, I, rfl, h⟩
def tIfS (c : TT) (t u : TS) : TS := fun D σ H => c σ H fun b H1 => if b = true then t D σ H1 else u D σ H1
theorem ps_if {c : Expr} {a b : List Stmt} {tc : TT} (hc : PT X c tc) (ha : PSs X a t) (hb : PSs X b u) : PS X (.If c a b pos) (tIfS tc t u) := by
  intro pins s σ H D I h
  refine wpAny_If (thn (hc pins s σ H _ I h) fun d s1 ⟨H1, I1, q1⟩ => ?_)
  cases d with
  | true => exact ha pins s1 σ H1 D I1 q1
  | false => exact hb pins s1 σ H1 D I1 q1
/-- code that the proof never comes to -/
def tNever : TS := fun _ _ _ => False
theorem ps_never : PS X st tNever := fun _ _ _ _ _ _ h => h.elim
theorem pss_never {sts : List Stmt} : PSs X sts tNever := fun _ _ _ _ _ _ h => h.elim
end

/-! ### targets -/
abbrev TG := V → St → Hp → (St → Hp → Prop) → Prop
abbrev TGs := List V → St → Hp → (St → Hp → Prop) → Prop
def PG (X : Cx) (target : Expr) (t : TG) : Prop :=
  ∀ (pins : List (Addr × Obj)) (s : Shared) (σ : St) (H : Hp) (v : V) (u : Value) (Q : St → Hp → Prop), Inv X pins σ H s → RelV v u → t v σ H Q →
    wpAny (model X.prog X.w) X.A (assign target X.env u) (fun _ s' => ∃ σ' H', Inv X pins σ' H' s' ∧ Q σ' H') X.xe s
/-- several targets, one after another -/
def PGs (X : Cx) (ts : List Expr) (t : TGs) : Prop :=
  ∀ (pins : List (Addr × Obj)) (s : Shared) (σ : St) (H : Hp) (vs : List V) (us : List Value) (Q : St → Hp → Prop), Inv X pins σ H s → Vals vs us → t vs σ H Q →
    wpAny (model X.prog X.w) X.A (assignInOrder ((assignEach ts X.env).map (·.2)) us) (fun _ s' => ∃ σ' H', Inv X pins σ' H' s' ∧ Q σ' H') X.xe s
/-- o[i] = v, by values -/
abbrev TSet := V → V → V → Hp → (Hp → Prop) → Prop
def PSet (X : Cx) (t : TSet) : Prop :=
  ∀ (pins : List (Addr × Obj)) (s : Shared) (σ : St) (H : Hp) (o i v : V) (ov iv u : Value) (Q : Hp → Prop), Inv X pins σ H s → RelV o ov → RelV i iv → RelV v u → t o i v H Q →
    wpAny (model X.prog X.w) X.A (setItem ov iv u) (fun _ s' => ∃ H', Inv X pins σ H' s' ∧ Q H') X.xe s
/-- a op= b, by values -/
abbrev TIp := V → V → Hp → VK → Prop
def PIp (X : Cx) (op : Operator) (t : TIp) : Prop :=
  ∀ (pins : List (Addr × Obj)) (s : Shared) (σ : St) (H : Hp) (x y : V) (v u : Value) (Q : VK), Inv X pins σ H s → RelV x v → RelV y u → t x y H Q →
    wpAny (model X.prog X.w) X.A (inplaceOp op v u) (EP X pins σ Q) X.xe s
section
variable {X : Cx} {pos : Pos}
def gName (i : Nat) : TG := fun v σ H Q => Q (σ.set i (some v)) H
theorem pg_name {i : Nat} {x : Str} (hN : X.N.Nodup) (hi : X.N[i]? = some x) (hx : Loc X.env.scope x) (hf : X.fn x = true ∨ X.env.scope.names.lookup x = some .local := by first | exact .inl rfl | exact .inr rfl | assumption) : PG X (.Name x pos) (gName i) := by
  intro pins s σ H v u Q I r h
  exact wpAny_assign_Name (store_ok I hN hi hx r (fun s' I' => ⟨_, H, I', h⟩) hf)
def gNil : TGs := fun vs σ H Q => vs = [] ∧ Q σ H
def gCons (t : TG) (u : TGs) : TGs := fun vs σ H Q => ∃ v r, vs = v :: r ∧ t v σ H fun σ' H' => u r σ' H' Q
theorem pgs_nil : PGs X [] gNil := by
  intro pins s σ H vs us Q I r h
  obtain ⟨e, h⟩ := h
  subst e
  cases r
  exact assignInOrder_nil ⟨σ, H, I, h⟩
theorem pgs_cons {e : Expr} {es : List Expr} {t : TG} {u : TGs} (h1 : PG X e t) (h2 : PGs X es u)
    (hs : (assignEach (e :: es) X.env).map (·.2) = assign e X.env :: (assignEach es X.env).map (·.2) := by rfl) : PGs X (e :: es) (gCons t u) := by
  intro pins s σ H vs us Q I r h
  obtain ⟨v, vr, e1, h⟩ := h
  subst e1
  cases r with
  | cons r rr =>
    rw [hs]
    refine assignInOrder_cons (thn (h1 pins s σ H _ _ _ I r h) fun _ s1 ⟨σ1, H1, I1, q1⟩ => ?_)
    exact h2 pins s1 σ1 H1 _ _ Q I1 rr q1
/-- (a, b, ..) = a tuple of that length -/
def gTup (K : PySem.W.Frag) (n : Nat) (t : TGs) : TG := fun v σ H Q => ∃ a xs, v = .ref a ∧ SqT K H a xs ∧ xs.length = n ∧ t xs σ H Q
theorem pg_tup {es : List Expr} {k : Nat} {t : TGs} {n : Nat} (hc : X.calm = true) (h : PGs X es t)
    (hn : (assignEach es X.env).length = n := by rfl) (hst : (assignEach es X.env).findIdx? (·.1) = none := by rfl) : PG X (.Tuple es k pos) (gTup X.K n t) := by
  intro pins s σ H v u Q I r hw
  obtain ⟨a, xs, e1, hq, hl, hw⟩ := hw
  subst e1
  cases r
  obtain ⟨its, rv, ht, hz⟩ := I.tuple hq
  refine assign_Tuple_tuple (I.ok.hd hc) ht (by simp [hn, ← hl, rv.length]) hst fun h' hx => ?_
  have I1 : Inv X pins σ H { s with heap := h' } := I.kept (t' := s.toks) fun b o e => hx b o (Nat.ne_of_lt (Heap.lt_size e)) e
  exact h pins _ σ H xs _ Q I1 (by simpa using rv) hw
/-- o[i] = .. -/
def gSub (to ti : TE) (t : TSet) : TG := fun v σ H Q => to σ H fun o H1 => ti σ H1 fun i H2 => t o i v H2 fun H3 => Q σ H3
theorem pg_sub {o i : Expr} {to ti : TE} {t : TSet} (ho : PE X o to) (hi : PE X i ti) (hs : PSet X t)
    (ha : ∀ v, assign (.Subscript o i pos) X.env v = (do
      let ov ← holding [v] (eval o X.env)
      let iv ← holding [v, ov] (eval i X.env)
      standAt pos
      holding [v, ov, iv] (setItem ov iv v)
      release [v, ov, iv] []) := by intro _; rfl) : PG X (.Subscript o i pos) (gSub to ti t) := by
  intro pins s σ H v u Q I r h
  rw [ha]
  refine wpAny_bind (wpAny_holding (thn (ho pins s σ H _ I h) fun ov s1 ⟨x, H1, I1, r1, q1⟩ => ?_))
  refine wpAny_bind (wpAny_holding (thn (hi pins s1 σ H1 _ I1 q1) fun iv s2 ⟨y, H2, I2, r2, q2⟩ => ?_))
  refine wpAny_bind (wpAny_standAt (wpAny_bind (wpAny_holding (thn (hs pins s2 σ H2 x y v ov iv u _ I2 r1 r2 r q2) fun _ s3 ⟨H3, I3, q3⟩ => ?_))))
  exact wpAny_release ⟨σ, H3, I3, q3⟩
/-- target = value -/
def tAsg (te : TE) (g : TG) : TS := fun D σ H => te σ H fun x H1 => g x σ H1 D.nx
theorem ps_asg {tg e : Expr} {te : TE} {g : TG} (he : PE X e te) (hg : PG X tg g) (hs : swapsWithSole [tg] e pos.line X.env = pure false := by rfl) (hw : swappedStores [tg] e X.env = pure none := by rfl)
    (h1 : (assignEach [tg] X.env).map (·.2) = [assign tg X.env] := by rfl) : PS X (.Assign [tg] e pos) (tAsg te g) := by
  intro pins s σ H D I h
  refine wpAny_Assign_stores (thn (he pins s σ H _ I h) fun v s1 ⟨x, H1, I1, r1, q1⟩ => ?_) hs hw
  rw [h1]
  exact thn (hg pins s1 σ H1 x v _ I1 r1 q1) fun _ s2 q => q
/-- name = value -/
theorem ps_set {i : Nat} {x : Str} {e : Expr} {te : TE} {pos' : Pos} (hN : X.N.Nodup) (hi : X.N[i]? = some x) (hx : Loc X.env.scope x) (he : PE X e te) (hs : swapsWith e (some (.Name x pos')) pos.line X.env = pure false := by rfl) (hf : X.fn x = true ∨ X.env.scope.names.lookup x = some .local := by first | exact .inl rfl | exact .inr rfl | assumption) :
    PS X (.Assign [.Name x pos'] e pos) (tAsg te (gName i)) := by
  intro pins s σ H D I h
  refine wpAny_Assign_Name (thn (he pins s σ H _ I h) fun v s1 ⟨y, H1, I1, r1, q1⟩ => ?_) hs
  exact store_ok I1 hN hi hx r1 (fun s2 I2 => ⟨_, H1, I2, q1⟩) hf
/-- a, b = x, y with plain local names: stored from the right; the pair itself is not tracked (the opening rows as in PyProof/Rows/TupAssign.lean:23) -/
def tPar (i j : Nat) (ta : TA) : TS := fun D σ H => ta σ H fun vs H1 => ∃ v w, vs = [v, w] ∧ D.nx ((σ.set i (some v)).set j (some w)) H1
theorem ps_par {i j : Nat} {x y : Str} {a b : Expr} {ta : TA} {px py pt : Pos} {kt k2 pt2} (hc : X.calm = true) (hN : X.N.Nodup) (hi : X.N[i]? = some x) (hj : X.N[j]? = some y) (hij : i ≠ j)
    (hx : X.env.scope.names.lookup x = some .local) (hy : X.env.scope.names.lookup y = some .local) (ha : PA X [a, b] ta)
    (hw : swappedStores [.Tuple [.Name x px, .Name y py] kt pt] (.Tuple [a, b] k2 pt2) X.env = pure (some [x, y]))
    (hs : swapsWithSole [.Tuple [.Name x px, .Name y py] kt pt] (.Tuple [a, b] k2 pt2) pos.line X.env = pure false := by rfl) :
    PS X (.Assign [.Tuple [.Name x px, .Name y py] kt pt] (.Tuple [a, b] k2 pt2) pos) (tPar i j ta) := by
  intro pins s σ H D I h
  rw [exec_Assign_arm]
  refine wpAny_bind (wpAny_standAt ?_)
  rw [hs]
  refine wpAny_bind (wpAny_pure ?_)
  rw [if_neg (by decide)]
  refine wpAny_bind (Tuple_ (thn (ha _ pins s σ H _ I h) fun us s1 ⟨vs, H1, I1, r1, q1⟩ => ?_))
  obtain ⟨v, w, e1, q1⟩ := q1
  subst e1
  obtain ⟨u1, u2, rfl, rv, rw'⟩ : ∃ u1 u2, us = [u1, u2] ∧ RelV v u1 ∧ RelV w u2 := by
    cases r1 with
    | cons p q =>
      cases q with
      | cons p' q' =>
        cases q'
        exact ⟨_, _, rfl, p, p'⟩
  refine wpAny_newObj_type ?_ (by show 2 ≤ sizeLine; decide)
  have I2 : Inv X pins σ H1 { s1 with heap := s1.heap.push { cls := .type "tuple", data := .seq [u1, u2].toArray } } := I1.kept (t' := s1.toks) fun b o e => Heap.get?_push_of_some _ e
  rw [hw]
  refine wpAny_bind (wpAny_pure ?_)
  show wpAny (model X.prog X.w) X.A (do rule "assign.swapped-stores"; let items ← unpackItems (.ref s1.heap.objs.size) 2 none; assignInOrder [fun v => bindName X.env y v, fun v => bindName X.env x v] items.reverse; pure Flow.next) _ _ _
  refine wpAny_bind (wpAny_rule (wpAny_bind (unpackItems_tuple (items := #[u1, u2]) (I.ok.hd hc) (IsTup.new s1.heap _) fun h' hx' => ?_)))
  have I3 := I2.kept (h' := h') (t' := s1.toks) fun b o e => hx' b o (Nat.ne_of_lt (Heap.lt_size e)) e
  show wpAny _ _ (assignInOrder [fun v => bindName X.env y v, fun v => bindName X.env x v] [u2, u1] >>= fun _ => pure Flow.next) _ _ _
  refine wpAny_bind (assignInOrder_cons (wpAny_bindName (store_ok I3 hN hj (.inl hy) rw' (fun s2 I4 => ?_) (.inr hy))))
  refine assignInOrder_cons (wpAny_bindName (store_ok I4 hN hi (.inl hx) rv (fun s3 I5 => assignInOrder_nil (wpAny_pure ?_)) (.inr hx)))
  rw [List.set_comm _ _ (Ne.symm hij)] at I5
  exact ⟨_, H1, I5, q1⟩
/-- name op= e -/
def tAug (i : Nat) (te : TE) (ti : TIp) : TS := fun D σ H => ∃ x, σ[i]? = some (some x) ∧ te σ H fun y H1 => ti x y H1 fun z H2 => D.nx (σ.set i (some z)) H2
theorem ps_aug {i : Nat} {x : Str} {e : Expr} {te : TE} {op : Operator} {ti : TIp} {pos' : Pos} (hN : X.N.Nodup) (hi : X.N[i]? = some x) (hx : Loc X.env.scope x) (he : PE X e te) (ho : PIp X op ti) (hf : X.fn x = true ∨ X.env.scope.names.lookup x = some .local := by first | exact .inl rfl | exact .inr rfl | assumption) :
    PS X (.AugAssign (.Name x pos') op e pos) (tAug i te ti) := by
  intro pins s σ H D I h
  obtain ⟨v, e1, h⟩ := h
  obtain ⟨m, hn, hl⟩ := I.loc
  have vis : Vis X.env.scope x := by rcases hx with k | k; exact .inl k; exact .inr (.inl k)
  obtain ⟨u, r, l⟩ := hl i x v hi e1 vis
  refine wpAny_AugAssign_Name ?_
  have go : wpAny (model X.prog X.w) X.A (eval e X.env) (fun w s₂ => wpAny (model X.prog X.w) X.A (inplaceOp op u w) (fun r s₃ => wpAny (model X.prog X.w) X.A (storeName X.env x r) (fun _ => SP X pins D .next) X.xe s₃) X.xe s₂) X.xe s := by
    refine thn (he pins s σ H _ I h) fun w s1 ⟨y, H1, I1, r1, q1⟩ => ?_
    refine thn (ho pins s1 σ H1 v y u w _ I1 r r1 q1) fun z s2 ⟨zv, H2, I2, r2, q2⟩ => ?_
    exact store_ok I2 hN hi hx r2 (fun s3 I3 => ⟨_, H2, I3, q2⟩) hf
  rcases l with ⟨hk, hm⟩ | ⟨hk, c, hc, hcell⟩
  · exact wpAny_loadName_local I.ok.kind hk hn hm go
  · rcases hk with hk | hk
    · exact wpAny_loadName_cell I.ok.kind hk hc hcell go
    · rcases hx with k | k
      · have : X.env.scope.names.lookup x = some .free := hk
        rw [k] at this; cases this
      · have : X.env.scope.names.lookup x = some .free := hk
        rw [k] at this; cases this
/-- o[i] op= e -/
def tAugS (to ti te : TE) (tget : V → V → Hp → VK → Prop) (tip : TIp) (tset : TSet) : TS := fun D σ H => to σ H fun o H1 => ti σ H1 fun i H2 => tget o i H2 fun x H3 => te σ H3 fun y H4 => tip x y H4 fun z H5 => tset o i z H5 fun H6 => D.nx σ H6
/-- o[i], by values -/
def PGet (X : Cx) (t : V → V → Hp → VK → Prop) : Prop :=
  ∀ (pins : List (Addr × Obj)) (s : Shared) (σ : St) (H : Hp) (o i : V) (ov iv : Value) (Q : VK), Inv X pins σ H s → RelV o ov → RelV i iv → t o i H Q →
    wpAny (model X.prog X.w) X.A (getItem ov iv) (EP X pins σ Q) X.xe s
theorem ps_augS {o i e : Expr} {to ti te : TE} {tget : V → V → Hp → VK → Prop} {tip : TIp} {tset : TSet} {op : Operator} {tpos : Pos} (ho : PE X o to) (hi : PE X i ti) (hg : PGet X tget) (he : PE X e te) (hp : PIp X op tip) (hs : PSet X tset)
    (ha : ∀ ov iv new, augStore i ov iv new = (do holding [new, ov, iv] (setItem ov iv new); release [new, ov, iv] []; pure .next) := by intros; rfl) : PS X (.AugAssign (.Subscript o i tpos) op e pos) (tAugS to ti te tget tip tset) := by
  intro pins s σ H D I h
  refine wpAny_AugAssign_SubscriptAny (thn (ho pins s σ H _ I h) fun ov s1 ⟨x1, H1, I1, r1, q1⟩ => ?_) ha
  refine thn (hi pins s1 σ H1 _ I1 q1) fun iv s2 ⟨x2, H2, I2, r2, q2⟩ => ?_
  refine thn (hg pins s2 σ H2 x1 x2 ov iv _ I2 r1 r2 q2) fun old s3 ⟨x3, H3, I3, r3, q3⟩ => ?_
  refine thn (he pins s3 σ H3 _ I3 q3) fun v s4 ⟨x4, H4, I4, r4, q4⟩ => ?_
  refine thn (hp pins s4 σ H4 x3 x4 old v _ I4 r3 r4 q4) fun new s5 ⟨x5, H5, I5, r5, q5⟩ => ?_
  exact thn (hs pins s5 σ H5 x1 x2 x5 ov iv new _ I5 r1 r2 r5 q5) fun _ s6 ⟨H6, I6, q6⟩ => ⟨σ, H6, I6, q6⟩
/-- ints -/
def ipI (f : Int → Int → Int) : TIp := fun x y H Q => ∃ i j, x = .int i ∧ y = .int j ∧ Q (.int (f i j)) H
theorem ip_add : PIp X .Add (ipI fun i j => i + j) := by
  intro pins s σ H x y v u Q I r1 r2 h
  obtain ⟨i, j, e1, e2, q⟩ := h
  subst e1; subst e2
  obtain ⟨t, rfl⟩ := r1
  obtain ⟨t', rfl⟩ := r2
  exact iadd_int ⟨.int _, H, I.tok _, ⟨_, rfl⟩, q⟩
theorem ip_sub : PIp X .Sub (ipI fun i j => i - j) := by
  intro pins s σ H x y v u Q I r1 r2 h
  obtain ⟨i, j, e1, e2, q⟩ := h
  subst e1; subst e2
  obtain ⟨t, rfl⟩ := r1
  obtain ⟨t', rfl⟩ := r2
  exact isub_int ⟨.int _, H, I.tok _, ⟨_, rfl⟩, q⟩
end

/-! ### while -/
section
variable {X : Cx} {pos : Pos}
/-- the invariant W with its measure -/
def tWhile (c : TT) (tb : TS) : TS := fun D σ H => ∃ W : Nat → St → Hp → Prop, (∃ m, W m σ H) ∧ ∀ m σ H, W m σ H →
  c σ H fun b H1 => if b = true then ∃ N : St → Hp → Prop, (∀ σ' H', N σ' H' → ∃ m', m' < m ∧ W m' σ' H') ∧ tb { D with nx := N, ct := N, bk := D.nx } σ H1 else D.nx σ H1
theorem ps_while {c : Expr} {body : List Stmt} {tc : TT} {tb : TS} (hp : PassesOwn (model X.prog X.w) X.A X.env X.xe) (hc : PT X c tc) (hb : PSs X body tb) : PS X (.While c body [] pos) (tWhile tc tb) := by
  intro pins s σ H D I h
  obtain ⟨W, ⟨m0, w0⟩, turn⟩ := h
  refine wpAny_While (codeAny_whileLoop (fun n s' => ∃ σ' H', Inv X pins σ' H' s' ∧ W n σ' H') ?_ m0 ⟨σ, H, I, w0⟩)
  rintro n s1 ⟨σ1, H1, I1, w1⟩
  refine wpAny_passesOwn hp (thn (hc pins s1 σ1 H1 _ I1 (turn n σ1 H1 w1)) fun b s2 ⟨H2, I2, q2⟩ => ?_)
  cases b with
  | true =>
    obtain ⟨N, hN, q2⟩ := q2
    rw [if_pos rfl]
    refine wpAny_passesOwn hp (thn (hb pins s2 σ1 H2 _ I2 q2) fun f s3 q3 => ?_)
    cases f with
    | next =>
      obtain ⟨σ3, H3, I3, n3⟩ := q3
      obtain ⟨m', hm, w3⟩ := hN σ3 H3 n3
      exact ⟨m', hm, σ3, H3, I3, w3⟩
    | cont =>
      obtain ⟨σ3, H3, I3, n3⟩ := q3
      obtain ⟨m', hm, w3⟩ := hN σ3 H3 n3
      exact ⟨m', hm, σ3, H3, I3, w3⟩
    | brk => exact q3
    | ret v => exact q3
  | false =>
    rw [if_neg Bool.false_ne_true]
    exact wpAny_execs_nil ⟨σ1, H2, I2, q2⟩
end

/-! ### what a loop or a comprehension walks -/
/-- at turn i: it yields x (the heap may grow), or it stops -/
structure It where
  go : Nat → Hp → Prop
  yld : Nat → Hp → V → Hp → Prop
  stop : Nat → Hp → Prop
/-- the iterator's own objects may turn: they are not the frame's, not pinned, younger than the entry (or a comprehension's own) -/
def FpOk (X : Cx) (pins : List (Addr × Obj)) (H : Hp) (b : Addr) : Prop :=
  H b = none ∧ b ≠ X.env.locals ∧ b ∉ X.fs ∧ (b ∈ X.ex ∨ X.s₀.heap.objs.size ≤ b) ∧ (∀ x c, X.env.cells.lookup x = some c → c ≠ b) ∧ ∀ p ∈ X.pn ++ pins, p.1 ≠ b
theorem Inv.fpOk {X : Cx} {pins : List (Addr × Obj)} {σ : St} {H H' : Hp} {s : Shared} {b : Addr} (I : Inv X pins σ H s) (hb : s.heap.objs.size ≤ b) (hn : H' b = none) : FpOk X pins H' b := by
  refine ⟨hn, Nat.ne_of_gt (Nat.lt_of_lt_of_le I.lt hb), I.nofs hb, .inr (Nat.le_trans I.sz hb), fun x c e z => ?_, fun p hp z => ?_⟩
  · obtain ⟨v, q⟩ := I.cell x c e
    exact absurd (Nat.lt_of_lt_of_le q.lt (by rw [z]; exact hb)) (Nat.lt_irrefl _)
  · exact absurd (Nat.lt_of_lt_of_le (Heap.lt_size (I.pin p hp).1) (by rw [z]; exact hb)) (Nat.lt_irrefl _)
structure Turn (P : Program) (w : World) (K : PySem.W.Frag) (tg : Expr) (J : It) (fp : List Addr) (it : Addr) (tn : Nat → Heap → Prop) : Prop where
  mem : it ∈ fp
  obj : ∀ i h, tn i h → ∀ b ∈ fp, ∃ o, h.get? b = some o ∧ ∀ v, o.data ≠ .cell v
  keep : ∀ i h h', tn i h → (∀ b ∈ fp, ∀ o, h.get? b = some o → h'.get? b = some o) → tn i h'
  item : ∀ (X : Cx), X.prog = P → X.w = w → X.K = K → X.calm = true → ∀ (i : Nat) (pins : List (Addr × Obj)) (s : Shared) (σ : St) (H : Hp) (E : Value → Shared → Prop), Inv X pins σ H s → (∀ b ∈ fp, FpOk X pins H b) → tn i s.heap → J.go i H →
    wpAny (model P w) X.A (pyNext (.ref it)) (fun r s1 => ∃ u, r = some u ∧
      wpAny (model P w) X.A (letOwnedTupleGo tg (.ref it) u) (fun _ s2 => ∃ x H', Inv X pins σ H' s2 ∧ RelV x u ∧ J.yld i H x H' ∧ tn (i + 1) s2.heap ∧ ∀ b ∈ fp, H' b = none) E s1) E s
  done : ∀ (X : Cx), X.prog = P → X.w = w → X.K = K → X.calm = true → ∀ (i : Nat) (pins : List (Addr × Obj)) (s : Shared) (σ : St) (H : Hp) (E : Value → Shared → Prop), Inv X pins σ H s → (∀ b ∈ fp, FpOk X pins H b) → tn i s.heap → J.stop i H →
    wpAny (model P w) X.A (pyNext (.ref it)) (fun r s1 => r = none ∧ Inv X pins σ H s1) E s
  self : ∀ (A : Around) (i : Nat) (s : Shared) (Q : Value → Shared → Prop) (E : Value → Shared → Prop), tn i s.heap → Q (.ref it) s → wpAny (model P w) A (pyIter (.ref it)) Q E s
abbrev TI := St → Hp → (It → Hp → Prop) → Prop
/-- an iterator has come -/
def PIE (X : Cx) (pins : List (Addr × Obj)) (σ : St) (tg : Expr) (R : It → Hp → Prop) (itv : Value) (s2 : Shared) : Prop :=
  ∃ (it : Addr) (fp : List Addr) (tn : Nat → Heap → Prop) (J : It) (H' : Hp), itv = .ref it ∧ Inv X pins σ H' s2 ∧ Turn X.prog X.w X.K tg J fp it tn ∧ tn 0 s2.heap ∧ (∀ b ∈ fp, FpOk X pins H' b) ∧ R J H'
def PI (X : Cx) (tg iter : Expr) (wi : TI) : Prop :=
  ∀ (pins : List (Addr × Obj)) (s : Shared) (σ : St) (H : Hp) (R : It → Hp → Prop), Inv X pins σ H s → wi σ H R →
    wpAny (model X.prog X.w) X.A (eval iter X.env) (fun v s1 => wpAny (model X.prog X.w) X.A (pyIter v) (PIE X pins σ tg R) X.xe s1) X.xe s

/-- the step ahead of the store is nothing for an iterator that keeps no tuple -/
theorem go_of {M : Model} {A : Around} {E : Value → Shared → Prop} {s : Shared} {tg : Expr} {it : Addr} {u : Value} {o : Obj} {n : String} {vs : Array Value} {Q : Unit → Shared → Prop} (ho : s.heap.get? it = some o) (hc : o.cls = .type n) (hd : o.data = .fields vs)
    (hn : ["enumerate", "zip", "dict_itemiterator", "dict_reverseitemiterator", "odict_iterator", "itertools.zip_longest", "itertools.pairwise"].contains n = false) (hQ : Q () s) : wpAny M A (letOwnedTupleGo tg (.ref it) u) Q E s := by
  unfold letOwnedTupleGo
  cases tg <;> first
    | exact wpAny_pure hQ
    | (cases u <;> first
        | exact wpAny_pure hQ
        | (refine wpAny_bind (wpAny_load ho ?_)
           rw [hc, hd]
           show wpAny M A (if (["enumerate", "zip", "dict_itemiterator", "dict_reverseitemiterator", "odict_iterator", "itertools.zip_longest", "itertools.pairwise"].contains n && vs[0]? == some (rawInt _)) = true then _ else _) Q E s
           rw [if_neg (by intro h; rw [hn, Bool.false_and] at h; cases h)]
           exact wpAny_pure hQ))

/-- the list at a, as it stands at each turn (a loop may append to it) -/
def Itl (K : PySem.W.Frag) (a : Addr) : It :=
  ⟨fun i H => ∃ xs x, SqL K H a xs ∧ xs[i]? = some x, fun i H x H' => H' = H ∧ ∀ xs, SqL K H a xs → xs[i]? = some x, fun i H => ∃ xs, SqL K H a xs ∧ xs.length ≤ i⟩
def Itt (K : PySem.W.Frag) (a : Addr) : It :=
  ⟨fun i H => ∃ xs x, SqT K H a xs ∧ xs[i]? = some x, fun i H x H' => H' = H ∧ ∀ xs, SqT K H a xs → xs[i]? = some x, fun i H => ∃ xs, SqT K H a xs ∧ xs.length ≤ i⟩
/-- lo, lo + 1, .. (n of them) -/
def Itr (lo : Int) (n : Nat) : It := ⟨fun i _ => i < n, fun i H x H' => H' = H ∧ x = .int (lo + i), fun i _ => n ≤ i⟩
theorem turn_list {P : Program} {w : World} {K : PySem.W.Frag} {tg : Expr} (a it : Addr) : Turn P w K tg (Itl K a) [it] it (fun i h => h.IsListIter it a i) where
  mem := by simp
  obj := fun i h st b hb => by
    have e : b = it := by simpa using hb
    subst e
    obtain ⟨o, e, c, d⟩ := st
    exact ⟨o, e, fun v z => by rw [d] at z; cases z⟩
  keep := fun i h h' st k => st.at fun o e => k it (by simp) o e
  item := by
    intro X hP hw hK hc i pins s σ H E I hf st hg
    subst hP hw hK
    obtain ⟨xs, x, hq, hx⟩ := hg
    obtain ⟨its, rv, p, hz⟩ := I.list hq
    obtain ⟨u, hu, ru⟩ := rv.get hx
    obtain ⟨f0, f1, f2, f3, f4, f5⟩ := hf it (by simp)
    refine wpAny_pyNext_list_item st p.isList (x := u) (by simpa using hu) fun h' st' sb => ?_
    have I1 : Inv X pins σ H { s with heap := h' } := I.turned (t' := s.toks) (fun b o hb e => (sb.2 b hb).trans e) f0 f1 f3 f4 f5
    obtain ⟨o, e, c, d⟩ := id st'
    exact ⟨u, rfl, go_of (s := { s with heap := h' }) e c d (by decide) ⟨x, H, I1, ru, ⟨rfl, fun ys hy => by rw [I.list_inj hy hq]; exact hx⟩, st', fun b hb => (hf b hb).1⟩⟩
  done := by
    intro X hP hw hK hc i pins s σ H E I hf st hg
    subst hP hw hK
    obtain ⟨xs, hq, hx⟩ := hg
    obtain ⟨its, rv, p, hz⟩ := I.list hq
    obtain ⟨f0, f1, f2, f3, f4, f5⟩ := hf it (by simp)
    have hl := rv.length
    exact wpAny_pyNext_list_end (I.ok.hd hc) st p.isList (by simp; omega) fun h' eb => ⟨rfl, I.turned (t' := s.toks) (fun b o hb e => eb b o hb e) f0 f1 f3 f4 f5⟩
  self := fun _ _ _ _ _ st h => wpAny_pyIter_listiter st h
theorem turn_tuple {P : Program} {w : World} {K : PySem.W.Frag} {tg : Expr} (a it : Addr) : Turn P w K tg (Itt K a) [it] it (fun i h => h.IsTupleIter it a i) where
  mem := by simp
  obj := fun i h st b hb => by
    have e : b = it := by simpa using hb
    subst e
    obtain ⟨o, e, c, d⟩ := st
    exact ⟨o, e, fun v z => by rw [d] at z; cases z⟩
  keep := fun i h h' st k => st.at fun o e => k it (by simp) o e
  item := by
    intro X hP hw hK hc i pins s σ H E I hf st hg
    subst hP hw hK
    obtain ⟨xs, x, hq, hx⟩ := hg
    obtain ⟨its, rv, p, hz⟩ := I.tuple hq
    obtain ⟨u, hu, ru⟩ := rv.get hx
    obtain ⟨f0, f1, f2, f3, f4, f5⟩ := hf it (by simp)
    refine wpAny_pyNext_tuple_item st (show s.heap.IsTuple a its.toArray from p) (x := u) (by simpa using hu) fun h' st' sb => ?_
    have I1 : Inv X pins σ H { s with heap := h' } := I.turned (t' := s.toks) (fun b o hb e => (sb.2 b hb).trans e) f0 f1 f3 f4 f5
    obtain ⟨o, e, c, d⟩ := id st'
    exact ⟨u, rfl, go_of (s := { s with heap := h' }) e c d (by decide) ⟨x, H, I1, ru, ⟨rfl, fun ys hy => by rw [I.tuple_inj hy hq]; exact hx⟩, st', fun b hb => (hf b hb).1⟩⟩
  done := by
    intro X hP hw hK hc i pins s σ H E I hf st hg
    subst hP hw hK
    obtain ⟨xs, hq, hx⟩ := hg
    obtain ⟨its, rv, p, hz⟩ := I.tuple hq
    obtain ⟨f0, f1, f2, f3, f4, f5⟩ := hf it (by simp)
    have hl := rv.length
    exact wpAny_pyNext_tuple_end (I.ok.hd hc) st (show s.heap.IsTuple a its.toArray from p) (by simp; omega) fun h' eb => ⟨rfl, I.turned (t' := s.toks) (fun b o hb e => eb b o hb e) f0 f1 f3 f4 f5⟩
  self := fun _ _ _ _ _ st h => wpAny_pyIter_tupleiter st h
theorem turn_range {P : Program} {w : World} {K : PySem.W.Frag} {tg : Expr} (it : Addr) (lo : Int) (n : Nat) : Turn P w K tg (Itr lo n) [it] it (fun i h => IsRangeIter h it (lo + (i : Nat) * 1) ((n : Int) - (i : Nat)) 1) where
  mem := by simp
  obj := fun i h st b hb => by
    have e : b = it := by simpa using hb
    subst e
    exact ⟨_, st, fun v z => by
      have z' : Data.fields _ = Data.cell v := z
      cases z'⟩
  keep := fun i h h' st k => k it (by simp) _ st
  item := by
    intro X hP hw hK hc i pins s σ H E I hf st hg
    subst hP hw hK
    obtain ⟨f0, f1, f2, f3, f4, f5⟩ := hf it (by simp)
    have W := Walks.range (prog := X.prog) (w := X.w) (I.ok.hd hc) it lo 1 n
    refine W.item i s _ _ hg st fun v h' tk hv st' kk => ?_
    obtain ⟨t, rfl⟩ := hv
    have I1 : Inv X pins σ H { s with heap := h', toks := tk } := I.turned (fun b o hb e => kk b o (by simpa using hb) e) f0 f1 f3 f4 f5
    refine ⟨_, rfl, go_of (s := { s with heap := h', toks := tk }) (n := "range_iterator") st' rfl rfl (by decide) ⟨.int (lo + i), H, I1, ⟨t, ?_⟩, ⟨rfl, rfl⟩, st', fun b hb => (hf b hb).1⟩⟩
    rw [Int.mul_one]
  done := by
    intro X hP hw hK hc i pins s σ H E I hf st hg
    subst hP hw hK
    obtain ⟨f0, f1, f2, f3, f4, f5⟩ := hf it (by simp)
    exact wpAny_pyNext_range_end (I.ok.hd hc) st (by have : n ≤ i := hg; omega) fun h' eb => ⟨rfl, I.turned (t' := s.toks) (fun b o hb e => eb b o hb e) f0 f1 f3 f4 f5⟩
  self := fun _ _ _ _ _ st h => wpAny_pyIter_rangeiter st h
end L2

namespace L2
open PySem PySem.Spec PyProof.Rows
section
variable {X : Cx} {tg : Expr}
def iList (K : PySem.W.Frag) (tl : TE) : TI := fun σ H R => tl σ H fun x H1 => ∃ a, x = .ref a ∧ (∃ xs, SqL K H1 a xs) ∧ R (Itl K a) H1
def iTup (K : PySem.W.Frag) (tl : TE) : TI := fun σ H R => tl σ H fun x H1 => ∃ a, x = .ref a ∧ (∃ xs, SqT K H1 a xs) ∧ R (Itt K a) H1
theorem pi_list {l : Expr} {tl : TE} (hl : PE X l tl) : PI X tg l (iList X.K tl) := by
  intro pins s σ H R I h
  refine thn (hl pins s σ H _ I h) fun v s1 ⟨x, H1, I1, r1, q1⟩ => ?_
  obtain ⟨a, e, ⟨xs, hq⟩, q⟩ := q1
  subst e
  cases r1
  obtain ⟨its, rv, p, hz⟩ := I1.list hq
  refine wpAny_pyIter_list p.isList ?_
  refine ⟨s1.heap.objs.size, [s1.heap.objs.size], _, _, H1, rfl, I1.kept (t' := s1.toks) fun b o e => Heap.get?_push_of_some _ e, turn_list a _, ⟨_, Heap.get?_push_size _ rfl, rfl, rfl⟩, fun b hb => ?_, q⟩
  have e : b = s1.heap.objs.size := by simpa using hb
  subst e
  exact I1.fpOk (Nat.le_refl _) (I1.hok.fresh (Nat.le_refl _))
theorem pi_tup {l : Expr} {tl : TE} (hl : PE X l tl) : PI X tg l (iTup X.K tl) := by
  intro pins s σ H R I h
  refine thn (hl pins s σ H _ I h) fun v s1 ⟨x, H1, I1, r1, q1⟩ => ?_
  obtain ⟨a, e, ⟨xs, hq⟩, q⟩ := q1
  subst e
  cases r1
  obtain ⟨its, rv, p, hz⟩ := I1.tuple hq
  refine wpAny_pyIter_tuple (show s1.heap.IsTuple a its.toArray from p) ?_
  refine ⟨s1.heap.objs.size, [s1.heap.objs.size], _, _, H1, rfl, I1.kept (t' := s1.toks) fun b o e => Heap.get?_push_of_some _ e, turn_tuple a _, ⟨_, Heap.get?_push_size _ rfl, rfl, rfl⟩, fun b hb => ?_, q⟩
  have e : b = s1.heap.objs.size := by simpa using hb
  subst e
  exact I1.fpOk (Nat.le_refl _) (I1.hok.fresh (Nat.le_refl _))
/-- a range object just made, walked -/
theorem range_it {pins : List (Addr × Obj)} {σ : St} {H : Hp} {s : Shared} {R : It → Hp → Prop} {E : Value → Shared → Prop} {lo hi : Int} {t u v : Tok} {tk : Nat} (I : Inv X pins σ H s) (h1 : -(2 ^ 62) ≤ lo) (h2 : lo < 2 ^ 62) (h3 : -(2 ^ 62) ≤ hi) (h4 : hi < 2 ^ 62)
    (q : R (Itr lo (hi - lo).toNat) H) : wpAny (model X.prog X.w) X.A (pyIter (.ref s.heap.objs.size)) (PIE X pins σ tg R) E { s with heap := s.heap.push { cls := .type "range", data := .fields #[.int lo t, .int hi u, .int 1 v] }, toks := tk } := by
  refine wpAny_pyIter_range (IsRange.new ..) (small_one h1 h2 h3 h4) ?_
  have I1 : Inv X pins σ H { s with heap := s.heap.push { cls := .type "range", data := .fields #[.int lo t, .int hi u, .int 1 v] }, toks := tk } := I.kept fun b o e => Heap.get?_push_of_some _ e
  refine ⟨(s.heap.push { cls := .type "range", data := .fields #[.int lo t, .int hi u, .int 1 v] }).objs.size, [(s.heap.push { cls := .type "range", data := .fields #[.int lo t, .int hi u, .int 1 v] }).objs.size], _, _, H, rfl,
    I1.kept (t' := tk) fun b o e => Heap.get?_push_of_some _ e, turn_range _ lo (hi - lo).toNat, ?_, fun b hb => ?_, q⟩
  · have e1 : lo + ((0 : Nat) : Int) * 1 = lo := by simp
    have e2 : (((hi - lo).toNat : Nat) : Int) - ((0 : Nat) : Int) = Builtin.Range.rangeSize lo hi 1 := by rw [rangeSize_one]; split <;> omega
    show IsRangeIter _ _ (lo + ((0 : Nat) : Int) * 1) ((((hi - lo).toNat : Nat) : Int) - ((0 : Nat) : Int)) 1
    rw [e1, e2]
    exact Heap.get?_push_size _ rfl
  · have e : b = (s.heap.push { cls := .type "range", data := .fields #[.int lo t, .int hi u, .int 1 v] }).objs.size := by simpa using hb
    subst e
    exact I1.fpOk (Nat.le_refl _) (I1.hok.fresh (Nat.le_refl _))
def iRng1 (ta : TA) : TI := fun σ H R => ta σ H fun vs H1 => ∃ j : Int, vs = [.int j] ∧ -(2 ^ 62) ≤ j ∧ j < 2 ^ 62 ∧ R (Itr 0 j.toNat) H1
def iRng2 (ta : TA) : TI := fun σ H R => ta σ H fun vs H1 => ∃ i j : Int, vs = [.int i, .int j] ∧ (-(2 ^ 62) ≤ i ∧ i < 2 ^ 62 ∧ -(2 ^ 62) ≤ j ∧ j < 2 ^ 62) ∧ R (Itr i (j - i).toNat) H1
theorem pi_range1 {a : Expr} {ta : TA} {p pos : Pos} (hg : Gl X "range") (hm : X.mg "range" = none) (ha : PA X [a] ta) (hs : starEach [a] X.env = [(false, eval a X.env)] := by rfl) : PI X tg (.Call (.Name "range" p) [a] [] pos) (iRng1 ta) := by
  intro pins s σ H R I h
  refine Call_ (ld_blt I hg hm boot_range (PyProof.Rows.callWith_type1 (thn (ha pos pins s σ H _ I h) fun us s1 ⟨vs, H1, I1, r1, q1⟩ => ?_) hs rfl))
  obtain ⟨j, e, q1, q2, q⟩ := q1
  subst e
  cases r1 with
  | cons r rr =>
    cases rr
    obtain ⟨t, rfl⟩ := r
    exact call_range_1 (range_it I1 (by omega) (by omega) q1 q2 (by simpa using q))
theorem pi_range2 {a b : Expr} {ta : TA} {p pos : Pos} (hg : Gl X "range") (hm : X.mg "range" = none) (ha : PA X [a, b] ta) (hs : starEach [a, b] X.env = [(false, eval a X.env), (false, eval b X.env)] := by rfl) (hs2 : starEach [b] X.env = [(false, eval b X.env)] := by rfl) :
    PI X tg (.Call (.Name "range" p) [a, b] [] pos) (iRng2 ta) := by
  intro pins s σ H R I h
  refine Call_ (ld_blt I hg hm boot_range (PyProof.Rows.callWith_type1 (thn (ha pos pins s σ H _ I h) fun us s1 ⟨vs, H1, I1, r1, q1⟩ => ?_) (by rw [hs, hs2]) (by rw [hs2]; rfl)))
  obtain ⟨i, j, e, ⟨q1, q2, q3, q4⟩, q⟩ := q1
  subst e
  cases r1 with
  | cons r rr =>
    cases rr with
    | cons r' rr =>
      cases rr
      obtain ⟨t, rfl⟩ := r
      obtain ⟨t', rfl⟩ := r'
      exact call_range_2 (range_it I1 q1 q2 q3 q4 q)

/-! ### for -/
/-- W: the invariant by the turn and a measure; N: what the body is to reach -/
def tFor (wi : TI) (g : TG) (tb : TS) : TS := fun D σ H => wi σ H fun J H1 => ∃ W : Nat → Nat → St → Hp → Prop, (∃ m, W 0 m σ H1) ∧ ∀ i m σ H, W i m σ H →
  (J.stop i H ∧ D.nx σ H) ∨ (J.go i H ∧ ∃ N : St → Hp → Prop, (∀ σ' H', N σ' H' → ∃ m', m' < m ∧ W (i + 1) m' σ' H') ∧ ∀ x H', J.yld i H x H' → g x σ H' fun σ2 H2 => tb { D with nx := N, ct := N, bk := D.nx } σ2 H2)
/-- the records at fp as they stand -/
def pinsAt (fp : List Addr) (h : Heap) : List (Addr × Obj) := fp.filterMap fun b => (h.get? b).map fun o => (b, o)
theorem mem_pinsAt {fp : List Addr} {h : Heap} {b : Addr} {o : Obj} (hb : b ∈ fp) (e : h.get? b = some o) : (b, o) ∈ pinsAt fp h := List.mem_filterMap.mpr ⟨b, hb, by rw [e]; rfl⟩
theorem of_pinsAt {fp : List Addr} {h : Heap} {p : Addr × Obj} (hp : p ∈ pinsAt fp h) : p.1 ∈ fp ∧ h.get? p.1 = some p.2 := by
  obtain ⟨b, hb, e⟩ := List.mem_filterMap.mp hp
  cases q : h.get? b with
  | none => rw [q] at e; cases e
  | some o =>
    rw [q] at e
    have e' : (b, o) = p := Option.some.inj e
    subst e'
    exact ⟨hb, q⟩
theorem Inv.pinned {pins : List (Addr × Obj)} {σ : St} {H : Hp} {s : Shared} {fp : List Addr} (I : Inv X pins σ H s) (hf : ∀ b ∈ fp, FpOk X pins H b) (ho : ∀ b ∈ fp, ∃ o, s.heap.get? b = some o ∧ ∀ v, o.data ≠ .cell v) : Inv X (pins ++ pinsAt fp s.heap) σ H s :=
  I.pins_of fun p hp => (List.mem_append.mp hp).elim (fun z => I.pin p (List.mem_append_right _ z)) fun z => by
    obtain ⟨hb, e⟩ := of_pinsAt z
    obtain ⟨f0, f1, f2, _⟩ := hf p.1 hb
    obtain ⟨o, e', d⟩ := ho p.1 hb
    rw [e] at e'; cases e'
    exact ⟨e, f0, f1, f2, d⟩
theorem Inv.unpinned {pins pl : List (Addr × Obj)} {σ : St} {H : Hp} {s : Shared} (I : Inv X (pins ++ pl) σ H s) : Inv X pins σ H s := I.pins_of fun p hp => I.pin p (List.mem_append_right _ (List.mem_append_left _ hp))
theorem ps_for {iter : Expr} {body : List Stmt} {wi : TI} {g : TG} {tb : TS} {pos : Pos} (hp : PassesOwn (model X.prog X.w) X.A X.env X.xe) (hc : X.calm = true) (hi : PI X tg iter wi) (hg : PG X tg g) (hb : PSs X body tb)
    (hs : ∀ x, foldedSetIterable iter X.env x = pure x := by intro _; rfl) : PS X (.For tg iter body [] pos) (tFor wi g tb) := by
  intro pins s σ H D I h
  refine wpAny_For (thn (hi pins s σ H _ I h) fun v s1 h1 => thn h1 fun itv s2 h2 => ?_) hs
  obtain ⟨it, fp, tn, J, H2, e, I2, T, st2, f2, W, ⟨m0, w0⟩, turn⟩ := h2
  subst e
  -- what stays true of the iterator's objects through the loop
  have stat : ∀ {H' : Hp}, (∀ b ∈ fp, H' b = none) → ∀ b ∈ fp, FpOk X pins H' b := fun hn b hb => ⟨hn b hb, (f2 b hb).2⟩
  refine codeAny_forLoop_any (fun n s' => ∃ i σ' H', Inv X pins σ' H' s' ∧ tn i s'.heap ∧ (∀ b ∈ fp, H' b = none) ∧ W i n σ' H') ?_ m0 ⟨0, σ, H2, I2, st2, fun b hb => (f2 b hb).1, w0⟩
  rintro n s3 ⟨i, σ3, H3, I3, st3, fr3, w3⟩
  rcases turn i n σ3 H3 w3 with ⟨stop, qn⟩ | ⟨go, N, hN, step⟩
  · refine wpAny_passesOwn hp (thn (T.done X rfl rfl rfl hc i pins s3 σ3 H3 X.xe I3 (stat fr3) st3 stop) fun r s4 ⟨hr, I4⟩ => ?_)
    subst hr
    exact wpAny_execs_nil ⟨σ3, H3, I4, qn⟩
  · refine wpAny_passesOwn hp (thn (T.item X rfl rfl rfl hc i pins s3 σ3 H3 X.xe I3 (stat fr3) st3 go) fun r s4 ⟨u, hr, h4⟩ => ?_)
    subst hr
    refine wpAny_passesOwn hp (thn h4 fun _ s5 ⟨x, H5, I5, r5, y5, st5, fr5⟩ => ?_)
    have I5' := I5.pinned (stat fr5) (T.obj _ _ st5)
    refine wpAny_passesOwn hp (thn (hg _ s5 σ3 H5 x u _ I5' r5 (step x H5 y5)) fun _ s6 ⟨σ6, H6, I6, q6⟩ => ?_)
    refine wpAny_passesOwn hp (thn (hb _ s6 σ6 H6 _ I6 q6) fun f s7 q7 => ?_)
    have again : ∀ {σ7 : St} {H7 : Hp}, Inv X (pins ++ pinsAt fp s5.heap) σ7 H7 s7 → N σ7 H7 → ∃ m, m < n ∧ ∃ i σ' H', Inv X pins σ' H' s7 ∧ tn i s7.heap ∧ (∀ b ∈ fp, H' b = none) ∧ W i m σ' H' := fun {σ7 H7} I7 n7 => by
      obtain ⟨m', hm, w7⟩ := hN σ7 H7 n7
      refine ⟨m', hm, i + 1, σ7, H7, I7.unpinned, T.keep _ _ _ st5 fun b hb o e => (I7.pin (b, o) (List.mem_append_right _ (List.mem_append_right _ (mem_pinsAt hb e)))).1, fun b hb => ?_, w7⟩
      obtain ⟨o, e, d⟩ := T.obj _ _ st5 b hb
      exact (I7.pin (b, o) (List.mem_append_right _ (List.mem_append_right _ (mem_pinsAt hb e)))).2.1
    cases f with
    | next => obtain ⟨σ7, H7, I7, n7⟩ := q7; exact again I7 n7
    | cont => obtain ⟨σ7, H7, I7, n7⟩ := q7; exact again I7 n7
    | brk => obtain ⟨σ7, H7, I7, q7⟩ := q7; exact ⟨σ7, H7, I7.unpinned, q7⟩
    | ret v => obtain ⟨x7, σ7, H7, I7, r7, q7⟩ := q7; exact ⟨x7, σ7, H7, I7.unpinned, r7, q7⟩
end

/-! ### the forms one uses -/
/-- over a list that the body leaves as it is -/
theorem for_list {K : PySem.W.Frag} {a : Addr} {xs : List V} {g : TG} {tb : TS} {D : Ends} {σ : St} {H : Hp} (Pv : Nat → St → Hp → Prop) (h0 : Pv 0 σ H) (hl : ∀ i σ H, i ≤ xs.length → Pv i σ H → SqL K H a xs)
    (hs : ∀ i x σ H, xs[i]? = some x → Pv i σ H → g x σ H fun σ2 H2 => tb { D with nx := Pv (i + 1), ct := Pv (i + 1), bk := D.nx } σ2 H2) (hd : ∀ σ H, Pv xs.length σ H → D.nx σ H) :
    ∃ W : Nat → Nat → St → Hp → Prop, (∃ m, W 0 m σ H) ∧ ∀ i m σ H, W i m σ H →
      ((Itl K a).stop i H ∧ D.nx σ H) ∨ ((Itl K a).go i H ∧ ∃ N : St → Hp → Prop, (∀ σ' H', N σ' H' → ∃ m', m' < m ∧ W (i + 1) m' σ' H') ∧ ∀ x H', (Itl K a).yld i H x H' → g x σ H' fun σ2 H2 => tb { D with nx := N, ct := N, bk := D.nx } σ2 H2) := by
  refine ⟨fun i m σ H => m = xs.length - i ∧ i ≤ xs.length ∧ Pv i σ H, ⟨xs.length, by simp, Nat.zero_le _, h0⟩, ?_⟩
  rintro i m σ H ⟨rfl, hi, p⟩
  have q := hl i σ H hi p
  by_cases hlt : i < xs.length
  · refine .inr ⟨⟨xs, xs[i], q, by simp [hlt]⟩, Pv (i + 1), fun σ' H' p' => ⟨xs.length - (i + 1), by omega, rfl, hlt, p'⟩, fun x H' y => ?_⟩
    obtain ⟨e, y⟩ := y
    subst e
    exact hs i x σ _ (y xs q) p
  · have e : i = xs.length := by omega
    subst e
    exact .inl ⟨⟨xs, q, Nat.le_refl _⟩, hd σ H p⟩
theorem for_tup {K : PySem.W.Frag} {a : Addr} {xs : List V} {g : TG} {tb : TS} {D : Ends} {σ : St} {H : Hp} (Pv : Nat → St → Hp → Prop) (h0 : Pv 0 σ H) (hl : ∀ i σ H, i ≤ xs.length → Pv i σ H → SqT K H a xs)
    (hs : ∀ i x σ H, xs[i]? = some x → Pv i σ H → g x σ H fun σ2 H2 => tb { D with nx := Pv (i + 1), ct := Pv (i + 1), bk := D.nx } σ2 H2) (hd : ∀ σ H, Pv xs.length σ H → D.nx σ H) :
    ∃ W : Nat → Nat → St → Hp → Prop, (∃ m, W 0 m σ H) ∧ ∀ i m σ H, W i m σ H →
      ((Itt K a).stop i H ∧ D.nx σ H) ∨ ((Itt K a).go i H ∧ ∃ N : St → Hp → Prop, (∀ σ' H', N σ' H' → ∃ m', m' < m ∧ W (i + 1) m' σ' H') ∧ ∀ x H', (Itt K a).yld i H x H' → g x σ H' fun σ2 H2 => tb { D with nx := N, ct := N, bk := D.nx } σ2 H2) := by
  refine ⟨fun i m σ H => m = xs.length - i ∧ i ≤ xs.length ∧ Pv i σ H, ⟨xs.length, by simp, Nat.zero_le _, h0⟩, ?_⟩
  rintro i m σ H ⟨rfl, hi, p⟩
  have q := hl i σ H hi p
  by_cases hlt : i < xs.length
  · refine .inr ⟨⟨xs, xs[i], q, by simp [hlt]⟩, Pv (i + 1), fun σ' H' p' => ⟨xs.length - (i + 1), by omega, rfl, hlt, p'⟩, fun x H' y => ?_⟩
    obtain ⟨e, y⟩ := y
    subst e
    exact hs i x σ _ (y xs q) p
  · have e : i = xs.length := by omega
    subst e
    exact .inl ⟨⟨xs, q, Nat.le_refl _⟩, hd σ H p⟩
theorem for_range {lo : Int} {n : Nat} {g : TG} {tb : TS} {D : Ends} {σ : St} {H : Hp} (Pv : Nat → St → Hp → Prop) (h0 : Pv 0 σ H)
    (hs : ∀ i σ H, i < n → Pv i σ H → g (.int (lo + i)) σ H fun σ2 H2 => tb { D with nx := Pv (i + 1), ct := Pv (i + 1), bk := D.nx } σ2 H2) (hd : ∀ σ H, Pv n σ H → D.nx σ H) :
    ∃ W : Nat → Nat → St → Hp → Prop, (∃ m, W 0 m σ H) ∧ ∀ i m σ H, W i m σ H →
      ((Itr lo n).stop i H ∧ D.nx σ H) ∨ ((Itr lo n).go i H ∧ ∃ N : St → Hp → Prop, (∀ σ' H', N σ' H' → ∃ m', m' < m ∧ W (i + 1) m' σ' H') ∧ ∀ x H', (Itr lo n).yld i H x H' → g x σ H' fun σ2 H2 => tb { D with nx := N, ct := N, bk := D.nx } σ2 H2) := by
  refine ⟨fun i m σ H => m = n - i ∧ i ≤ n ∧ Pv i σ H, ⟨n, by simp, Nat.zero_le _, h0⟩, ?_⟩
  rintro i m σ H ⟨rfl, hi, p⟩
  by_cases hlt : i < n
  · refine .inr ⟨hlt, Pv (i + 1), fun σ' H' p' => ⟨n - (i + 1), by omega, rfl, hlt, p'⟩, fun x H' y => ?_⟩
    obtain ⟨e, y⟩ := y
    subst e y
    exact hs i σ _ hlt p
  · have e : i = n := by omega
    subst e
    exact .inl ⟨Nat.le_refl _, hd σ H p⟩
/-- while, by a word and a measure of the state -/
theorem while_by {c : TT} {tb : TS} {D : Ends} {σ : St} {H : Hp} (Pv : St → Hp → Prop) (μ : St → Hp → Nat) (h0 : Pv σ H)
    (hs : ∀ σ H, Pv σ H → c σ H fun b H1 => if b = true then tb { D with nx := fun σ' H' => Pv σ' H' ∧ μ σ' H' < μ σ H, ct := fun σ' H' => Pv σ' H' ∧ μ σ' H' < μ σ H, bk := D.nx } σ H1 else D.nx σ H1)
    (mono : ∀ σ H Q Q', (∀ b H1, Q b H1 → Q' b H1) → c σ H Q → c σ H Q') : tWhile c tb D σ H := by
  refine ⟨fun m σ H => m = μ σ H ∧ Pv σ H, ⟨_, rfl, h0⟩, ?_⟩
  rintro m σ H ⟨rfl, p⟩
  refine mono σ H _ _ (fun b H1 q => ?_) (hs σ H p)
  cases b with
  | true => exact ⟨_, fun σ' H' ⟨p', l⟩ => ⟨_, l, rfl, p'⟩, q⟩
  | false => exact q
end L2

namespace L2
open PySem PySem.Spec PyProof.Rows

abbrev R2 := V → V → Hp → VK → Prop
/-- a two-place operation on values: f is binaryOp op, inplaceOp op or compareOp op -/
def OpR (X : Cx) (f : Value → Value → Sem Value) (r : R2) : Prop :=
  ∀ (pins : List (Addr × Obj)) (s : Shared) (σ : St) (H : Hp) (x y : V) (v u : Value) (Q : VK), Inv X pins σ H s → RelV x v → RelV y u → r x y H Q →
    wpAny (model X.prog X.w) X.A (f v u) (EP X pins σ Q) X.xe s
/-- a one-place operation -/
def UnR (X : Cx) (f : Value → Sem Value) (r : V → Hp → VK → Prop) : Prop :=
  ∀ (pins : List (Addr × Obj)) (s : Shared) (σ : St) (H : Hp) (x : V) (v : Value) (Q : VK), Inv X pins σ H s → RelV x v → r x H Q →
    wpAny (model X.prog X.w) X.A (f v) (EP X pins σ Q) X.xe s
/-- a call of a value that is known (a builtin, a type) with values -/
def CallR (X : Cx) (f : Value) (r : List V → Hp → VK → Prop) : Prop :=
  ∀ (pins : List (Addr × Obj)) (s : Shared) (σ : St) (H : Hp) (xs : List V) (us : List Value) (Q : VK), Inv X pins σ H s → Vals xs us → r xs H Q →
    wpAny (model X.prog X.w) X.A (call f us) (EP X pins σ Q) X.xe s
/-- a value's truth -/
def TruR (X : Cx) (r : V → Hp → (Bool → Hp → Prop) → Prop) : Prop :=
  ∀ (pins : List (Addr × Obj)) (s : Shared) (σ : St) (H : Hp) (x : V) (v : Value) (Q : Bool → Hp → Prop), Inv X pins σ H s → RelV x v → r x H Q →
    wpAny (model X.prog X.w) X.A (truthy v) (TP X pins σ Q) X.xe s

def tOp (r : R2) (ta tb : TE) : TE := fun σ H Q => ta σ H fun x H1 => tb σ H1 fun y H2 => r x y H2 Q
def tUn (r : V → Hp → VK → Prop) (ta : TE) : TE := fun σ H Q => ta σ H fun x H1 => r x H1 Q
/-- ints in, under C, and a value out -/
def rI (C : Int → Int → Prop) (g : Int → Int → V) : R2 := fun x y H Q => ∃ i j, x = .int i ∧ y = .int j ∧ C i j ∧ Q (g i j) H
def rI0 (g : Int → Int → V) : R2 := fun x y H Q => ∃ i j, x = .int i ∧ y = .int j ∧ Q (g i j) H
def rU (g : Int → V) : V → Hp → VK → Prop := fun x H Q => ∃ i, x = .int i ∧ Q (g i) H

section
variable {X : Cx} {a b c : Expr} {ta tb tc : TE} {pos : Pos}

theorem binT (ha : PE X a ta) (hb : PE X b tb) {pins : List (Addr × Obj)} {s : Shared} {σ : St} {H : Hp} {R : V → V → Hp → Prop} (I : Inv X pins σ H s)
    (h : ta σ H fun x H1 => tb σ H1 fun y H2 => R x y H2) {Q : Value → Shared → Prop} {f : Value → Value → Sem Value}
    (hf : ∀ v u s2 x y H2, Inv X pins σ H2 s2 → RelV x v → RelV y u → R x y H2 → wpAny (model X.prog X.w) X.A (f v u) Q X.xe s2) :
    wpAny (model X.prog X.w) X.A (eval a X.env) (fun v s₁ => wpAny (model X.prog X.w) X.A (eval b X.env) (fun u s₂ => wpAny (model X.prog X.w) X.A (f v u) Q X.xe s₂) X.xe s₁) X.xe s := by
  refine thn (ha pins s σ H _ I h) fun v s1 ⟨x, H1, I1, r1, q1⟩ => ?_
  refine thn (hb pins s1 σ H1 _ I1 q1) fun u s2 ⟨y, H2, I2, r2, q2⟩ => ?_
  exact hf v u s2 x y H2 I2 r1 r2 q2

theorem pe_op {op : Operator} {r : R2} (ho : OpR X (binaryOp op) r) (ha : PE X a ta) (hb : PE X b tb) : PE X (.BinOp a op b pos) (tOp r ta tb) := by
  intro pins s σ H Q I h
  exact wpAny_BinOp (binT ha hb I h fun v u s2 x y H2 I2 rx ry q => ho pins s2 σ H2 x y v u Q I2 rx ry q)
theorem pe_un {op : UnaryOp} {r : V → Hp → VK → Prop} (ho : UnR X (unaryOp op) r) (ha : PE X a ta) : PE X (.UnaryOp op a pos) (tUn r ta) := by
  intro pins s σ H Q I h
  exact UnaryOp_ (thn (ha pins s σ H _ I h) fun v s1 ⟨x, H1, I1, r1, q1⟩ => ho pins s1 σ H1 x v Q I1 r1 q1)
/-- a op= e at a name: the name's slot i -/
theorem augR {op : Operator} {r : R2} (ho : OpR X (inplaceOp op) r) {pins : List (Addr × Obj)} {s : Shared} {σ : St} {H : Hp} {x y : V} {v u : Value} {Q : VK} (I : Inv X pins σ H s)
    (rx : RelV x v) (ry : RelV y u) (q : r x y H Q) : wpAny (model X.prog X.w) X.A (inplaceOp op v u) (EP X pins σ Q) X.xe s := ho pins s σ H x y v u Q I rx ry q

/-! ### ints -/
theorem opI {f : Value → Value → Sem Value} {C : Int → Int → Prop} {g : Int → Int → Int}
    (rule : ∀ (i j : Int) (t u : Tok) (s : Shared) (Q : Value → Shared → Prop) (E : Value → Shared → Prop), C i j → Q (.int (g i j) s.toks) { s with toks := s.toks + 1 } → wpAny (model X.prog X.w) X.A (f (.int i t) (.int j u)) Q E s) :
    OpR X f (rI C fun i j => .int (g i j)) := by
  intro pins s σ H x y v u Q I rx ry h
  obtain ⟨i, j, rfl, rfl, hc, q⟩ := h
  obtain ⟨t, rfl⟩ := rx
  obtain ⟨t', rfl⟩ := ry
  exact rule i j t t' s _ _ hc ⟨.int (g i j), H, I.tok _, ⟨_, rfl⟩, q⟩
theorem opI0 {f : Value → Value → Sem Value} {g : Int → Int → Int}
    (rule : ∀ (i j : Int) (t u : Tok) (s : Shared) (Q : Value → Shared → Prop) (E : Value → Shared → Prop), Q (.int (g i j) s.toks) { s with toks := s.toks + 1 } → wpAny (model X.prog X.w) X.A (f (.int i t) (.int j u)) Q E s) :
    OpR X f (rI0 fun i j => .int (g i j)) := by
  intro pins s σ H x y v u Q I rx ry h
  obtain ⟨i, j, rfl, rfl, q⟩ := h
  obtain ⟨t, rfl⟩ := rx
  obtain ⟨t', rfl⟩ := ry
  exact rule i j t t' s _ _ ⟨.int (g i j), H, I.tok _, ⟨_, rfl⟩, q⟩
theorem opB0 {f : Value → Value → Sem Value} {g : Int → Int → Bool}
    (rule : ∀ (i j : Int) (t u : Tok) (s : Shared) (Q : Value → Shared → Prop) (E : Value → Shared → Prop), Q (.bool (g i j)) s → wpAny (model X.prog X.w) X.A (f (.int i t) (.int j u)) Q E s) :
    OpR X f (rI0 fun i j => .bl (g i j)) := by
  intro pins s σ H x y v u Q I rx ry h
  obtain ⟨i, j, rfl, rfl, q⟩ := h
  obtain ⟨t, rfl⟩ := rx
  obtain ⟨t', rfl⟩ := ry
  exact rule i j t t' s _ _ ⟨.bl (g i j), H, I, rfl, q⟩

def CDiv (i j : Int) : Prop := 0 < j ∧ j < 1073741824
def CDivN (i j : Int) : Prop := j ≠ 0 ∧ j.natAbs < 1073741824
def CPow (i j : Int) : Prop := 0 ≤ j ∧ j ≤ 1000000 ∧ i.natAbs < 2 ^ 64
def CMul (i j : Int) : Prop := (-(2 ^ 64) < i ∧ i < 2 ^ 64) ∨ (-(2 ^ 64) < j ∧ j < 2 ^ 64)
theorem CMul.ok {i j : Int} (h : CMul i j) : IntMulOk i j := by
  rcases h with ⟨h1, h2⟩ | ⟨h1, h2⟩
  · exact .of_left (intBits_le_64 h1 h2)
  · exact .of_right (intBits_le_64 h1 h2)
theorem two_pow_nn (k : Nat) : (0 : Int) ≤ 2 ^ k := by
  rw [two_pow_cast]
  exact Int.natCast_nonneg _

theorem op_add : OpR X (binaryOp .Add) (rI0 fun i j => .int (i + j)) := opI0 fun _ _ _ _ _ _ _ q => add_int q
theorem op_sub : OpR X (binaryOp .Sub) (rI0 fun i j => .int (i - j)) := opI0 fun _ _ _ _ _ _ _ q => sub_int q
theorem op_mul : OpR X (binaryOp .Mult) (rI CMul fun i j => .int (i * j)) := opI fun _ _ _ _ _ _ _ hc q => mul_int q hc.ok
/-- // by a positive divisor -/
theorem op_fdiv : OpR X (binaryOp .FloorDiv) (rI CDiv fun i j => .int (i / j)) := opI fun i j _ _ _ _ _ hc q => by
  have h1 : (0 : Int) < j := hc.1
  have h2 : j < 1073741824 := hc.2
  exact floordiv_int (by omega) (by rw [Int.fdiv_eq_ediv_of_nonneg i (by omega)]; exact q) (.inl (PyProof.noPylong_small (by omega)))
theorem op_fdivN : OpR X (binaryOp .FloorDiv) (rI CDivN fun i j => .int (i.fdiv j)) := opI fun _ _ _ _ _ _ _ hc q => floordiv_int hc.1 q (.inl (PyProof.noPylong_small hc.2))
/-- % by a positive divisor of any size -/
theorem op_mod : OpR X (binaryOp .Mod) (rI (fun _ j => 0 < j) fun i j => .int (i % j)) := opI fun i j _ _ _ _ _ hc q => by
  have h1 : (0 : Int) < j := hc
  exact mod_int' (by omega) (by rw [Int.fmod_eq_emod_of_nonneg i (by omega)]; exact q)
theorem op_modN : OpR X (binaryOp .Mod) (rI (fun _ j => j ≠ 0) fun i j => .int (i.fmod j)) := opI fun _ _ _ _ _ _ _ hc q => mod_int' hc q
theorem op_pow : OpR X (binaryOp .Pow) (rI CPow fun i j => .int (i ^ j.toNat)) := opI fun _ _ _ _ _ _ _ hc q => pow_int_small hc.1 hc.2.1 hc.2.2 q
theorem op_shl : OpR X (binaryOp .LShift) (rI CPow fun i j => .int (i * 2 ^ j.toNat)) := opI fun _ _ _ _ _ _ _ hc q => lshift_int_small hc.1 hc.2.1 hc.2.2 q
theorem op_shr : OpR X (binaryOp .RShift) (rI (fun _ j => 0 ≤ j) fun i j => .int (i / 2 ^ j.toNat)) := opI fun i j _ _ _ _ _ hc q =>
  rshift_int hc (by rw [Int.fdiv_eq_ediv_of_nonneg i (two_pow_nn _)]; exact q)
theorem op_and : OpR X (binaryOp .BitAnd) (rI0 fun i j => .int (Builtin.bitAnd i j)) := opI0 fun _ _ _ _ _ _ _ q => and_int q
theorem op_or : OpR X (binaryOp .BitOr) (rI0 fun i j => .int (Builtin.bitOr i j)) := opI0 fun _ _ _ _ _ _ _ q => or_int q
theorem op_xor : OpR X (binaryOp .BitXor) (rI0 fun i j => .int (Builtin.bitXor i j)) := opI0 fun _ _ _ _ _ _ _ q => xor_int q

theorem iop_add : OpR X (inplaceOp .Add) (rI0 fun i j => .int (i + j)) := opI0 fun _ _ _ _ _ _ _ q => iadd_int q
theorem iop_sub : OpR X (inplaceOp .Sub) (rI0 fun i j => .int (i - j)) := opI0 fun _ _ _ _ _ _ _ q => isub_int q
theorem iop_mul : OpR X (inplaceOp .Mult) (rI CMul fun i j => .int (i * j)) := opI fun _ _ _ _ _ _ _ hc q => imul_int q hc.ok
theorem iop_fdiv : OpR X (inplaceOp .FloorDiv) (rI CDiv fun i j => .int (i / j)) := opI fun i j _ _ _ _ _ hc q => by
  have h1 : (0 : Int) < j := hc.1
  have h2 : j < 1073741824 := hc.2
  exact ifloordiv_int (by omega) (by rw [Int.fdiv_eq_ediv_of_nonneg i (by omega)]; exact q) (.inl (PyProof.noPylong_small (by omega)))
theorem iop_mod : OpR X (inplaceOp .Mod) (rI (fun _ j => 0 < j) fun i j => .int (i % j)) := opI fun i j _ _ _ _ _ hc q => by
  have h1 : (0 : Int) < j := hc
  exact imod_int (by omega) (by rw [Int.fmod_eq_emod_of_nonneg i (by omega)]; exact q)
theorem iop_shl : OpR X (inplaceOp .LShift) (rI CPow fun i j => .int (i * 2 ^ j.toNat)) := opI fun _ _ _ _ _ _ _ hc q => ilshift_int_small hc.1 hc.2.1 hc.2.2 q
theorem iop_shr : OpR X (inplaceOp .RShift) (rI (fun _ j => 0 ≤ j) fun i j => .int (i / 2 ^ j.toNat)) := opI fun i j _ _ _ _ _ hc q =>
  irshift_int hc (by rw [Int.fdiv_eq_ediv_of_nonneg i (two_pow_nn _)]; exact q)
theorem iop_and : OpR X (inplaceOp .BitAnd) (rI0 fun i j => .int (Builtin.bitAnd i j)) := opI0 fun _ _ _ _ _ _ _ q => iand_int q
theorem iop_or : OpR X (inplaceOp .BitOr) (rI0 fun i j => .int (Builtin.bitOr i j)) := opI0 fun _ _ _ _ _ _ _ q => ior_int q
theorem iop_xor : OpR X (inplaceOp .BitXor) (rI0 fun i j => .int (Builtin.bitXor i j)) := opI0 fun _ _ _ _ _ _ _ q => ixor_int q

theorem unI {f : Value → Sem Value} {g : Int → Int}
    (rule : ∀ (i : Int) (t : Tok) (s : Shared) (Q : Value → Shared → Prop) (E : Value → Shared → Prop), Q (.int (g i) s.toks) { s with toks := s.toks + 1 } → wpAny (model X.prog X.w) X.A (f (.int i t)) Q E s) :
    UnR X f (rU fun i => .int (g i)) := by
  intro pins s σ H x v Q I rx h
  obtain ⟨i, rfl, q⟩ := h
  obtain ⟨t, rfl⟩ := rx
  exact rule i t s _ _ ⟨.int (g i), H, I.tok _, ⟨_, rfl⟩, q⟩
theorem un_neg : UnR X (unaryOp .USub) (rU fun i => .int (-i)) := unI fun _ _ _ _ _ q => neg_int q
theorem un_inv : UnR X (unaryOp .Invert) (rU fun i => .int (Builtin.bitNot i)) := unI fun _ _ _ _ _ q => invert_int q

/-! ### bools among ints: n += (a < b) -/
theorem op_add_ib : OpR X (binaryOp .Add) (fun x y H Q => ∃ i k, x = .int i ∧ y = .bl k ∧ Q (.int (i + b2i k)) H) := by
  intro pins s σ H x y v u Q I rx ry h
  obtain ⟨i, k, rfl, rfl, q⟩ := h
  obtain ⟨t, rfl⟩ := rx
  cases ry
  exact add_int_bool ⟨.int (i + b2i k), H, I.tok _, ⟨_, rfl⟩, q⟩
end

/-! ### comparisons -/
/-- the scalars that == tells apart as data does -/
def scal : V → V → Bool
  | .non, .non => true | .non, .int _ => true | .int _, .non => true | .non, .bl _ => true | .bl _, .non => true | .non, .str _ => true | .str _, .non => true
  | .int _, .int _ => true | .bl _, .bl _ => true | .str _, .str _ => true | .byt _, .byt _ => true
  | .int _, .str _ => true | .str _, .int _ => true | .bl _, .str _ => true | .str _, .bl _ => true
  | _, _ => false
def rEq : R2 := fun x y H Q => scal x y = true ∧ Q (.bl (decide (x = y))) H
def rNe : R2 := fun x y H Q => scal x y = true ∧ Q (.bl (!decide (x = y))) H

theorem dec_int {i j : Int} : decide (V.int i = V.int j) = (i == j) := by
  rw [Bool.eq_iff_iff]
  simp
theorem dec_bl {i j : Bool} : decide (V.bl i = V.bl j) = (i == j) := by
  rw [Bool.eq_iff_iff]
  simp
theorem dec_str {i j : Str} : decide (V.str i = V.str j) = (i == j) := by
  rw [Bool.eq_iff_iff]
  simp
theorem dec_byt {i j : Array UInt8} : decide (V.byt i = V.byt j) = (i.toList == j.toList) := by
  rw [Bool.eq_iff_iff]
  cases i
  cases j
  simp

section
variable {X : Cx} {a b c : Expr} {ta tb tc : TE} {pos : Pos}
theorem fin_bl {pins : List (Addr × Obj)} {σ : St} {H : Hp} {s : Shared} {Q : VK} {k k' : Bool} (I : Inv X pins σ H s) (q : Q (.bl k) H) (e : k = k') : EP X pins σ Q (.bool k') s := by
  subst e
  exact ⟨.bl k, H, I, rfl, q⟩
theorem op_eq : OpR X (compareOp .Eq) rEq := by
  intro pins s σ H x y v u Q I rx ry h
  obtain ⟨hs, q⟩ := h
  cases x with
  | non =>
    cases rx
    cases y with
    | non => cases ry; exact PySem.EqNone.eq_none_none (fin_bl I q (by simp))
    | bl j => cases ry; exact PySem.EqNone.eq_none_bool (fin_bl I q (by simp))
    | int j => obtain ⟨t', rfl⟩ := ry; exact PySem.EqNone.eq_none_int (fin_bl I q (by simp))
    | str j => obtain ⟨t', rfl⟩ := ry; exact PySem.EqNone.eq_none_str (fin_bl I q (by simp))
    | _ => exact absurd (show false = true from hs) Bool.false_ne_true
  | bl i =>
    cases rx
    cases y with
    | non => cases ry; exact PySem.EqNone.eq_bool_none (fin_bl I q (by simp))
    | bl j => cases ry; exact eq_bool (fin_bl I q dec_bl)
    | str j => obtain ⟨t', rfl⟩ := ry; exact PySem.EqMixed.eq_bool_str (fin_bl I q (by simp))
    | _ => exact absurd (show false = true from hs) Bool.false_ne_true
  | int i =>
    obtain ⟨t, rfl⟩ := rx
    cases y with
    | non => cases ry; exact PySem.EqNone.eq_int_none (fin_bl I q (by simp))
    | int j => obtain ⟨t', rfl⟩ := ry; exact eq_int (fin_bl I q dec_int)
    | str j => obtain ⟨t', rfl⟩ := ry; exact PySem.EqMixed.eq_int_str (fin_bl I q (by simp))
    | _ => exact absurd (show false = true from hs) Bool.false_ne_true
  | str i =>
    obtain ⟨t, rfl⟩ := rx
    cases y with
    | non => cases ry; exact PySem.EqNone.eq_str_none (fin_bl I q (by simp))
    | bl j => cases ry; exact PySem.EqMixed.eq_str_bool (fin_bl I q (by simp))
    | int j => obtain ⟨t', rfl⟩ := ry; exact PySem.EqMixed.eq_str_int (fin_bl I q (by simp))
    | str j => obtain ⟨t', rfl⟩ := ry; exact eq_str (fin_bl I q dec_str)
    | _ => exact absurd (show false = true from hs) Bool.false_ne_true
  | byt i =>
    obtain ⟨t, rfl⟩ := rx
    cases y with
    | byt j => obtain ⟨t', rfl⟩ := ry; exact PySem.W.eq_bytes (fin_bl I q dec_byt)
    | _ => exact absurd (show false = true from hs) Bool.false_ne_true
  | _ => cases y <;> exact absurd (show false = true from hs) Bool.false_ne_true
theorem op_ne : OpR X (compareOp .NotEq) rNe := by
  intro pins s σ H x y v u Q I rx ry h
  obtain ⟨hs, q⟩ := h
  cases x with
  | non =>
    cases rx
    cases y with
    | non => cases ry; exact PySem.EqNone.ne_none_none (fin_bl I q (by simp))
    | bl j => cases ry; exact PySem.EqNone.ne_none_bool (fin_bl I q (by simp))
    | int j => obtain ⟨t', rfl⟩ := ry; exact PySem.EqNone.ne_none_int (fin_bl I q (by simp))
    | str j => obtain ⟨t', rfl⟩ := ry; exact PySem.EqNone.ne_none_str (fin_bl I q (by simp))
    | _ => exact absurd (show false = true from hs) Bool.false_ne_true
  | bl i =>
    cases rx
    cases y with
    | non => cases ry; exact PySem.EqNone.ne_bool_none (fin_bl I q (by simp))
    | bl j => cases ry; exact ne_bool (fin_bl I q (congrArg not dec_bl))
    | str j => obtain ⟨t', rfl⟩ := ry; exact PySem.EqMixed.ne_bool_str (fin_bl I q (by simp))
    | _ => exact absurd (show false = true from hs) Bool.false_ne_true
  | int i =>
    obtain ⟨t, rfl⟩ := rx
    cases y with
    | non => cases ry; exact PySem.EqNone.ne_int_none (fin_bl I q (by simp))
    | int j => obtain ⟨t', rfl⟩ := ry; exact ne_int (fin_bl I q (congrArg not dec_int))
    | str j => obtain ⟨t', rfl⟩ := ry; exact PySem.EqMixed.ne_int_str (fin_bl I q (by simp))
    | _ => exact absurd (show false = true from hs) Bool.false_ne_true
  | str i =>
    obtain ⟨t, rfl⟩ := rx
    cases y with
    | non => cases ry; exact PySem.EqNone.ne_str_none (fin_bl I q (by simp))
    | bl j => cases ry; exact PySem.EqMixed.ne_str_bool (fin_bl I q (by simp))
    | int j => obtain ⟨t', rfl⟩ := ry; exact PySem.EqMixed.ne_str_int (fin_bl I q (by simp))
    | str j => obtain ⟨t', rfl⟩ := ry; exact ne_str (fin_bl I q (congrArg not dec_str))
    | _ => exact absurd (show false = true from hs) Bool.false_ne_true
  | byt i =>
    obtain ⟨t, rfl⟩ := rx
    cases y with
    | byt j => obtain ⟨t', rfl⟩ := ry; exact PySem.W.ne_bytes (fin_bl I q (congrArg not dec_byt))
    | _ => exact absurd (show false = true from hs) Bool.false_ne_true
  | _ => cases y <;> exact absurd (show false = true from hs) Bool.false_ne_true

theorem op_lt : OpR X (compareOp .Lt) (rI0 fun i j => .bl (decide (i < j))) := opB0 fun _ _ _ _ _ _ _ q => lt_int q
theorem op_le : OpR X (compareOp .LtE) (rI0 fun i j => .bl (decide (i ≤ j))) := opB0 fun _ _ _ _ _ _ _ q => le_int q
theorem op_gt : OpR X (compareOp .Gt) (rI0 fun i j => .bl (decide (j < i))) := opB0 fun _ _ _ _ _ _ _ q => gt_int q
theorem op_ge : OpR X (compareOp .GtE) (rI0 fun i j => .bl (decide (j ≤ i))) := opB0 fun _ _ _ _ _ _ _ q => ge_int q
theorem op_lt_str : OpR X (compareOp .Lt) (fun x y H Q => ∃ i j, x = .str i ∧ y = .str j ∧ Q (.bl (decide (i.cps.toList < j.cps.toList))) H) := by
  intro pins s σ H x y v u Q I rx ry h
  obtain ⟨i, j, rfl, rfl, q⟩ := h
  obtain ⟨t, rfl⟩ := rx
  obtain ⟨t', rfl⟩ := ry
  exact lt_str (fin_bl I q rfl)
/-- the one string within the other -/
theorem op_in_str : OpR X (compareOp .In) (fun x y H Q => ∃ i j, x = .str i ∧ y = .str j ∧ Q (.bl (!(Builtin.Str.occurrences j i 0 j.length 1).isEmpty)) H) := by
  intro pins s σ H x y v u Q I rx ry h
  obtain ⟨i, j, rfl, rfl, q⟩ := h
  obtain ⟨t, rfl⟩ := rx
  obtain ⟨t', rfl⟩ := ry
  exact in_str (fin_bl I q rfl)

/-- is None, is not None: the right side a value none -/
theorem op_isN : OpR X (compareOp .Is) (fun x y H Q => y = .non ∧ Q (.bl (decide (x = .non))) H) := by
  intro pins s σ H x y v u Q I rx ry h
  obtain ⟨rfl, q⟩ := h
  cases ry
  refine is_none_gen (fin_bl I q ?_)
  cases x <;> first
    | (cases rx; rfl)
    | (obtain ⟨t, rfl⟩ := rx; rfl)
theorem op_notN : OpR X (compareOp .IsNot) (fun x y H Q => y = .non ∧ Q (.bl (!decide (x = .non))) H) := by
  intro pins s σ H x y v u Q I rx ry h
  obtain ⟨rfl, q⟩ := h
  cases ry
  refine isnot_none_gen (fin_bl I q ?_)
  cases x <;> first
    | (cases rx; rfl)
    | (obtain ⟨t, rfl⟩ := rx; rfl)

theorem op_notin_str : OpR X (compareOp .NotIn) (fun x y H Q => ∃ i j, x = .str i ∧ y = .str j ∧ Q (.bl (!(!(Builtin.Str.occurrences j i 0 j.length 1).isEmpty))) H) := by
  intro pins s σ H x y v u Q I rx ry h
  obtain ⟨i, j, rfl, rfl, q⟩ := h
  obtain ⟨t, rfl⟩ := rx
  obtain ⟨t', rfl⟩ := ry
  exact notIn_str (fin_bl I q rfl)
/-- is, is not of two objects that are tracked lists or instances -/
def isObj : HO → Bool
  | .lst _ => true
  | .ins _ _ _ => true
  | _ => false
theorem obj_there {pins : List (Addr × Obj)} {s : Shared} {σ : St} {H : Hp} {a : Addr} {o : HO} (I : Inv X pins σ H s) (h : H a = some o) (p : isObj o = true) : ∃ ob, s.heap.get? a = some ob ∧ ob.cls ≠ .type "tuple" := by
  cases o with
  | lst xs =>
    obtain ⟨_, its, n, _, e⟩ : xs.length ≤ sizeLine ∧ ∃ (its : List Value) (n : Nat), Vals xs its ∧ s.heap.get? a = some { cls := .type "list", data := .seq its.toArray n } := I.hok a _ h
    exact ⟨_, e, (by show Value.type "list" ≠ .type "tuple"; decide +kernel)⟩
  | ins C dx fs =>
    have x := I.hok a _ h
    obtain ⟨_, _, _, e, _⟩ := x
    exact ⟨_, e, (by show Value.ref C ≠ .type "tuple"; exact fun z => by cases z)⟩
  | _ => exact absurd (show false = true from p) Bool.false_ne_true
theorem op_is_ref : OpR X (compareOp .Is) (fun x y H Q => ∃ a b oa ob, x = .ref a ∧ y = .ref b ∧ H a = some oa ∧ isObj oa = true ∧ H b = some ob ∧ isObj ob = true ∧ Q (.bl (decide (a = b))) H) := by
  intro pins s σ H x y v u Q I rx ry h
  obtain ⟨a, b, oa, ob, rfl, rfl, ha, pa, hb, pb, q⟩ := h
  cases rx
  cases ry
  obtain ⟨o1, e1, n1⟩ := obj_there I ha pa
  obtain ⟨o2, e2, _⟩ := obj_there I hb pb
  by_cases z : a = b
  · subst z
    exact wpAny_is_ref_self (fin_bl I q (by simp))
  · exact wpAny_is_ref_other z e1 e2 n1 (fin_bl I q (by simp [z]))
theorem op_isnot_ref : OpR X (compareOp .IsNot) (fun x y H Q => ∃ a b oa ob, x = .ref a ∧ y = .ref b ∧ H a = some oa ∧ isObj oa = true ∧ H b = some ob ∧ isObj ob = true ∧ Q (.bl (!decide (a = b))) H) := by
  intro pins s σ H x y v u Q I rx ry h
  obtain ⟨a, b, oa, ob, rfl, rfl, ha, pa, hb, pb, q⟩ := h
  cases rx
  cases ry
  obtain ⟨o1, e1, n1⟩ := obj_there I ha pa
  obtain ⟨o2, e2, _⟩ := obj_there I hb pb
  by_cases z : a = b
  · subst z
    exact wpAny_isNot_ref_self (fin_bl I q (by simp))
  · exact wpAny_isNot_ref_other z e1 e2 n1 (fin_bl I q (by simp [z]))

/-- two rules for one operation: by cases -/
theorem OpR.or {f : Value → Value → Sem Value} {r r' : R2} (h : OpR X f r) (h' : OpR X f r') : OpR X f (fun x y H Q => r x y H Q ∨ r' x y H Q) := by
  intro pins s σ H x y v u Q I rx ry q
  rcases q with q | q
  · exact h pins s σ H x y v u Q I rx ry q
  · exact h' pins s σ H x y v u Q I rx ry q

theorem nomark (b : Expr) {op : CmpOp} (h : op ≠ .In := by decide) (h2 : op ≠ .NotIn := by decide) : behindInMarks op b = false := by
  have e1 : (op == CmpOp.In) = false := by cases op <;> first | rfl | exact absurd rfl h
  have e2 : (op == CmpOp.NotIn) = false := by cases op <;> first | rfl | exact absurd rfl h2
  cases b <;> simp [behindInMarks, e1, e2]
/-- a comparison as a value; hm: nomark b, or (for in, not in) by with_unfolding_all rfl -/
theorem pe_cmpR {op : CmpOp} {r : R2} (ho : OpR X (compareOp op) r) (ha : PE X a ta) (hb : PE X b tb) (hm : behindInMarks op b = false) : PE X (.Compare a [op] [b] pos) (tOp r ta tb) := by
  intro pins s σ H Q I h
  exact wpAny_Compare1 (binT ha hb I h fun v u s2 x y H2 I2 rx ry q => ho pins s2 σ H2 x y v u Q I2 rx ry q) hm
/-- a reading of a value as a test -/
def tTest (t : TE) : TT := fun σ H Q => t σ H fun x H' => ∃ k, x = .bl k ∧ Q k H'
theorem pt_cmpR {op : CmpOp} {r : R2} (ho : OpR X (compareOp op) r) (ha : PE X a ta) (hb : PE X b tb) (hm : behindInMarks op b = false) : PT X (.Compare a [op] [b] pos) (tTest (tOp r ta tb)) := by
  intro pins s σ H Q I h
  refine wpAny_isTrue_Compare1 (thn (ha pins s σ H _ I h) fun v s1 ⟨x, H1, I1, r1, q1⟩ => thn (hb pins s1 σ H1 _ I1 q1) fun u s2 ⟨y, H2, I2, r2, q2⟩ =>
    thn (ho pins s2 σ H2 x y v u _ I2 r1 r2 q2) fun c s3 ⟨z, H3, I3, r3, k, e, q3⟩ => ?_) hm
  subst e
  cases r3
  exact wpAny_truthy_bool ⟨H3, I3, q3⟩
/-- a op1 b op2 c -/
def tChain (r r' : R2) (ta tb tc : TE) : TE := fun σ H Q => ta σ H fun x H1 => tb σ H1 fun y H2 => r x y H2 fun z H3 => ∃ k, z = .bl k ∧
  (if k = true then tc σ H3 fun w' H4 => r' y w' H4 Q else Q (.bl false) H3)
theorem pe_chain {op op' : CmpOp} {r r' : R2} (ho : OpR X (compareOp op) r) (ho' : OpR X (compareOp op') r') (ha : PE X a ta) (hb : PE X b tb) (hc : PE X c tc)
    (hm : lastMarks [op, op'] [b, c] = false := by with_unfolding_all rfl) : PE X (.Compare a [op, op'] [b, c] pos) (tChain r r' ta tb tc) := by
  intro pins s σ H Q I h
  refine Compare_chain (thn (ha pins s σ H _ I h) fun v s1 ⟨x, H1, I1, r1, q1⟩ => chain_link (thn (hb pins s1 σ H1 _ I1 q1) fun u s2 ⟨y, H2, I2, r2, q2⟩ =>
    thn (ho pins s2 σ H2 x y v u _ I2 r1 r2 q2) fun d s3 ⟨z, H3, I3, r3, k, e, q3⟩ => ?_)) hm
  subst e
  cases r3
  refine wpAny_truthy_bool ?_
  cases k with
  | false => exact ite_ff ⟨.bl false, H3, I3, rfl, q3⟩
  | true => exact ite_tt (chain_last (thn (hc pins s3 σ H3 _ I3 q3) fun w' s4 ⟨z', H4, I4, r4, q4⟩ => ho' pins s4 σ H4 y z' u w' Q I4 r2 r4 q4))
theorem pt_chain {op op' : CmpOp} {r r' : R2} (ho : OpR X (compareOp op) r) (ho' : OpR X (compareOp op') r') (ha : PE X a ta) (hb : PE X b tb) (hc : PE X c tc)
    (hm : lastMarks [op, op'] [b, c] = false := by with_unfolding_all rfl) : PT X (.Compare a [op, op'] [b, c] pos) (tTest (tChain r r' ta tb tc)) := by
  intro pins s σ H Q I h
  refine isTrue_chain (thn (ha pins s σ H _ I h) fun v s1 ⟨x, H1, I1, r1, q1⟩ => test_link (thn (hb pins s1 σ H1 _ I1 q1) fun u s2 ⟨y, H2, I2, r2, q2⟩ =>
    thn (ho pins s2 σ H2 x y v u _ I2 r1 r2 q2) fun d s3 ⟨z, H3, I3, r3, k, e, q3⟩ => ?_)) hm
  subst e
  cases r3
  refine wpAny_truthy_bool ?_
  cases k with
  | false =>
    obtain ⟨k', e', q'⟩ := q3
    cases e'
    exact ite_ff ⟨H3, I3, q'⟩
  | true =>
    refine ite_tt (test_last (thn (hc pins s3 σ H3 _ I3 q3) fun w' s4 ⟨z', H4, I4, r4, q4⟩ => thn (ho' pins s4 σ H4 y z' u w' _ I4 r2 r4 q4) fun d' s5 ⟨z2, H5, I5, r5, k2, e2, q5⟩ => ?_))
    subst e2
    cases r5
    exact wpAny_truthy_bool ⟨H5, I5, q5⟩

/-! ### truth -/
/-- a value's truth by the abstract heap -/
def TruV (K : PySem.W.Frag) (x : V) (H : Hp) (k : Bool) : Prop :=
  match x with
  | .non => k = false
  | .bl b => k = b
  | .int i => k = (i != 0)
  | .str y => y.length ≤ sizeLine ∧ k = ((y.length : Int) != 0)
  | .byt y => y.size ≤ sizeLine ∧ k = ((y.size : Int) != 0)
  | .ref p => (∃ xs, SqL K H p xs ∧ k = !xs.isEmpty) ∨ (∃ xs, SqT K H p xs ∧ k = !xs.isEmpty) ∨ ∃ kvs, H p = some (.dK kvs) ∧ k = !kvs.isEmpty
  | _ => False
theorem isEmpty_kv {κ : Type} {kvs : List (κ × V)} {vs : List (κ × Value)} (r : KV kvs vs) : (!vs.isEmpty) = !kvs.isEmpty := by
  cases r <;> rfl
theorem isEmpty_of {xs : List V} {its : List Value} (r : Vals xs its) : (!its.toArray.isEmpty) = !xs.isEmpty := by
  cases r <;> simp
theorem line63 : (sizeLine : Nat) < 2 ^ 63 := by rw [sizeLine_eq]; decide
theorem tru_ok : TruR X (fun x H Q => ∃ k, TruV X.K x H k ∧ Q k H) := by
  intro pins s σ H x v Q I rx h
  obtain ⟨k, e, q⟩ := h
  have hl := line63
  have hs : sizeLine = 16777216 := sizeLine_eq
  cases x with
  | non =>
    cases rx
    have e' : k = false := e
    subst e'
    exact truthy_none ⟨H, I, q⟩
  | bl b =>
    cases rx
    have e' : k = b := e
    subst e'
    exact wpAny_truthy_bool ⟨H, I, q⟩
  | int i =>
    obtain ⟨t, rfl⟩ := rx
    have e' : k = (i != 0) := e
    subst e'
    exact PySem.P.truthy_int ⟨H, I, q⟩
  | str y =>
    obtain ⟨t, rfl⟩ := rx
    obtain ⟨hy, e'⟩ : y.length ≤ sizeLine ∧ k = ((y.length : Int) != 0) := e
    subst e'
    exact PySem.P.truthy_str (by omega) ⟨H, I.tok _, q⟩
  | byt y =>
    obtain ⟨t, rfl⟩ := rx
    obtain ⟨hy, e'⟩ : y.size ≤ sizeLine ∧ k = ((y.size : Int) != 0) := e
    subst e'
    exact PySem.W.truthy_bytes (by omega) ⟨H, I.tok _, q⟩
  | ref p =>
    cases rx
    have e' : (∃ xs, SqL X.K H p xs ∧ k = !xs.isEmpty) ∨ (∃ xs, SqT X.K H p xs ∧ k = !xs.isEmpty) ∨ ∃ kvs, H p = some (.dK kvs) ∧ k = !kvs.isEmpty := e
    rcases e' with ⟨xs, hx, e'⟩ | ⟨xs, hx, e'⟩ | ⟨kvs, hx, e'⟩
    · subst e'
      obtain ⟨its, r, pl, hz⟩ := I.list hx
      have hlen := r.length
      exact wpAny_truthy_list pl.isList (by simp only [List.size_toArray]; omega) ⟨H, I.tok _, by rw [isEmpty_of r]; exact q⟩
    · subst e'
      obtain ⟨its, r, pl, hz⟩ := I.tuple hx
      have hlen := r.length
      exact truthy_tuple pl (by simp only [List.size_toArray]; omega) ⟨H, I.tok _, by rw [isEmpty_of r]; exact q⟩
    · subst e'
      obtain ⟨hz, hS, vs, r, m⟩ : kvs.length ≤ sizeLine ∧ (p == sysModules) = false ∧ ∃ vs, KV kvs vs ∧ s.heap.DictOf (mixKind X.prog X.w) p vs := I.hok p _ hx
      have hlen : kvs.length = vs.length := Paired.length r
      exact wpAny_truthy_dict hS m (by omega) ⟨H, I.tok _, by rw [isEmpty_kv r]; exact q⟩
  | _ => exact (show False from e).elim
/-- any expression whose test is its value's truth (a name, a call, a subscript, a field ..: he by fun _ => rfl) -/
theorem pt_truth (ha : PE X a ta) (he : ∀ whole, isTrue a X.env whole = (do let v ← whole; standAt a.pos; holding [v] (truthy v))) :
    PT X a (fun σ H Q => ta σ H fun x H' => ∃ k, TruV X.K x H' k ∧ Q k H') := by
  intro pins s σ H Q I h
  exact isTrue_plain (thn (ha pins s σ H _ I h) fun v s1 ⟨x, H1, I1, r1, q1⟩ => tru_ok pins s1 σ H1 x v Q I1 r1 q1) (he _)

/-! ### strs and bytes -/
theorem pe_byt {x : List UInt8} {k : Nat} : PE X (.Constant (.bytes x) k pos) (fun _ H Q => Q (.byt x.toArray) H) := fun _ _ _ H _ I h => PySem.W.Constant_bytes ⟨.byt x.toArray, H, I.tok _, ⟨_, rfl⟩, h⟩
theorem op_add_str : OpR X (binaryOp .Add) (fun x y H Q => ∃ i j, x = .str i ∧ y = .str j ∧ i.length + j.length ≤ sizeLine ∧ Q (.str (i ++ j)) H) := by
  intro pins s σ H x y v u Q I rx ry h
  obtain ⟨i, j, rfl, rfl, hz, q⟩ := h
  obtain ⟨t, rfl⟩ := rx
  obtain ⟨t', rfl⟩ := ry
  exact add_str (fun t' tk => ⟨.str (i ++ j), H, I.tok _, ⟨_, rfl⟩, q⟩) hz
theorem iop_add_str : OpR X (inplaceOp .Add) (fun x y H Q => ∃ i j, x = .str i ∧ y = .str j ∧ i.length + j.length ≤ sizeLine ∧ Q (.str (i ++ j)) H) := by
  intro pins s σ H x y v u Q I rx ry h
  obtain ⟨i, j, rfl, rfl, hz, q⟩ := h
  obtain ⟨t, rfl⟩ := rx
  obtain ⟨t', rfl⟩ := ry
  exact iadd_str (fun t' tk => ⟨.str (i ++ j), H, I.tok _, ⟨_, rfl⟩, q⟩) hz
theorem op_add_byt : OpR X (binaryOp .Add) (fun x y H Q => ∃ i j, x = .byt i ∧ y = .byt j ∧ i.size + j.size ≤ 16777216 ∧ Q (.byt (i ++ j)) H) := by
  intro pins s σ H x y v u Q I rx ry h
  obtain ⟨i, j, rfl, rfl, hz, q⟩ := h
  obtain ⟨t, rfl⟩ := rx
  obtain ⟨t', rfl⟩ := ry
  exact PySem.W.KBy.add_bytes hz (fun t' tk => ⟨.byt (i ++ j), H, I.tok _, ⟨_, rfl⟩, q⟩)

def PlainIxT (b : Expr) : Prop := ∀ o i, subscripted b false o i = operate [o, i] (getItem o i)
/-- s[i], 0 ≤ i < len -/
theorem pe_item_str (ha : PE X a ta) (hb : PE X b tb) (hs : PlainIxT b) :
    PE X (.Subscript a b pos) (tOp (fun x y H Q => ∃ z i c, x = .str z ∧ y = .int i ∧ 0 ≤ i ∧ i < 2 ^ 63 ∧ i < z.length ∧ z.cps[i.toNat]? = some c ∧ Q (.str ⟨#[c]⟩) H) ta tb) := by
  intro pins s σ H Q I h
  refine Subscript_ (binT ha hb I h fun v u s2 x y H2 I2 rx ry q => ?_)
  obtain ⟨z, i, c, rfl, rfl, h0, h63, h1, hc, q⟩ := q
  obtain ⟨t, rfl⟩ := rx
  obtain ⟨t', rfl⟩ := ry
  have e : seqIndex? i z.length = some i.toNat := PySem.StrLaws.seqIndex_nonneg h0 h1
  exact tail_any (typeIs_str s2 z t) slot_str_getitem.lookup (getItem_str (c := c) (by
    have e1 : decide (i < -(2 ^ 63 : Int)) = false := decide_eq_false (by omega)
    have e2 : decide (i ≥ 2 ^ 63) = false := decide_eq_false (by omega)
    rw [e1, e2] <;> rfl) (by rw [e]; exact hc) ⟨.str ⟨#[c]⟩, H2, I2.tok _, ⟨_, rfl⟩, q⟩) (hs _ _)
/-- b[i], 0 ≤ i < len -/
theorem pe_item_byt (ha : PE X a ta) (hb : PE X b tb) (hs : PlainIxT b) :
    PE X (.Subscript a b pos) (tOp (fun x y H Q => ∃ (z : List UInt8) (i : Int), x = .byt z.toArray ∧ y = .int i ∧ z.length ≤ sizeLine ∧ 0 ≤ i ∧ i < z.length ∧ Q (.int ((z.getD i.toNat 0).toNat : Nat)) H) ta tb) := by
  intro pins s σ H Q I h
  refine Subscript_ (binT ha hb I h fun v u s2 x y H2 I2 rx ry q => ?_)
  obtain ⟨z, i, rfl, rfl, hz, h0, h1, q⟩ := q
  obtain ⟨t, rfl⟩ := rx
  obtain ⟨t', rfl⟩ := ry
  have hl : sizeLine = 16777216 := sizeLine_eq
  exact tail_any (PySem.W.typeIs_bytes s2 z.toArray t) PySem.W.FB.slot_bytes_getitem.lookup (PySem.W.getItem_bytes (by omega) h0 h1 ⟨.int ((z.getD i.toNat 0).toNat : Nat), H2, I2.tok _, ⟨_, rfl⟩, q⟩) (hs _ _)

/-! ### scalar builtins, by CallR -/
theorem vals1 {x : V} {us : List Value} (r : Vals [x] us) : ∃ u, us = [u] ∧ RelV x u := by
  cases r with
  | cons r1 r2 => cases r2; exact ⟨_, rfl, r1⟩
theorem vals2 {x y : V} {us : List Value} (r : Vals [x, y] us) : ∃ u w', us = [u, w'] ∧ RelV x u ∧ RelV y w' := by
  cases r with
  | cons r1 r2 =>
    cases r2 with
    | cons r3 r4 => cases r4; exact ⟨_, _, rfl, r1, r3⟩
theorem call_abs : CallR X (.builtin "abs") (fun xs H Q => ∃ i, xs = [.int i] ∧ Q (.int (if i < 0 then -i else i)) H) := by
  intro pins s σ H xs us Q I r h
  obtain ⟨i, rfl, q⟩ := h
  obtain ⟨u, rfl, t, rfl⟩ := vals1 r
  exact call_abs_int fun u tk => ⟨.int (if i < 0 then -i else i), H, I.tok _, ⟨_, rfl⟩, q⟩
theorem call_max2 (hc : X.calm = true) : CallR X (.builtin "max") (fun xs H Q => ∃ i j, xs = [.int i, .int j] ∧ Q (.int (if j > i then j else i)) H) := by
  intro pins s σ H xs us Q I r h
  obtain ⟨i, j, rfl, q⟩ := h
  obtain ⟨u, w', rfl, ⟨t, rfl⟩, ⟨t', rfl⟩⟩ := vals2 r
  refine max_two_ints (I.ok.hd hc) fun h' tk k => ⟨_, H, I.kept k, ?_, q⟩
  by_cases hj : j > i
  · rw [if_pos hj, if_pos hj]; exact ⟨_, rfl⟩
  · rw [if_neg hj, if_neg hj]; exact ⟨_, rfl⟩
theorem call_min2 (hc : X.calm = true) : CallR X (.builtin "min") (fun xs H Q => ∃ i j, xs = [.int i, .int j] ∧ Q (.int (if j < i then j else i)) H) := by
  intro pins s σ H xs us Q I r h
  obtain ⟨i, j, rfl, q⟩ := h
  obtain ⟨u, w', rfl, ⟨t, rfl⟩, ⟨t', rfl⟩⟩ := vals2 r
  refine min_two_ints (I.ok.hd hc) fun h' tk k => ⟨_, H, I.kept k, ?_, q⟩
  by_cases hj : j < i
  · rw [if_pos hj, if_pos hj]; exact ⟨_, rfl⟩
  · rw [if_neg hj, if_neg hj]; exact ⟨_, rfl⟩
theorem call_int1 : CallR X (.type "int") (fun xs H Q => (∃ i, xs = [.int i] ∧ Q (.int i) H) ∨ ∃ k, xs = [.bl k] ∧ Q (.int (if k then 1 else 0)) H) := by
  intro pins s σ H xs us Q I r h
  rcases h with ⟨i, rfl, q⟩ | ⟨k, rfl, q⟩
  · obtain ⟨u, rfl, t, rfl⟩ := vals1 r
    exact call_int_int ⟨.int i, H, I, ⟨_, rfl⟩, q⟩
  · obtain ⟨u, rfl, r1⟩ := vals1 r
    cases r1
    exact call_int_bool ⟨.int (if k then 1 else 0), H, I.tok _, ⟨_, rfl⟩, q⟩
theorem call_bool1 : CallR X (.type "bool") (fun xs H Q => (∃ i, xs = [.int i] ∧ Q (.bl (i != 0)) H) ∨ ∃ k, xs = [.bl k] ∧ Q (.bl k) H) := by
  intro pins s σ H xs us Q I r h
  rcases h with ⟨i, rfl, q⟩ | ⟨k, rfl, q⟩
  · obtain ⟨u, rfl, t, rfl⟩ := vals1 r
    exact call_bool_int ⟨.bl (i != 0), H, I, rfl, q⟩
  · obtain ⟨u, rfl, r1⟩ := vals1 r
    cases r1
    exact call_bool_bool ⟨.bl k, H, I, rfl, q⟩
theorem call_str_int : CallR X (.type "str") (fun xs H Q => ∃ i, xs = [.int i] ∧ i.natAbs.log2 < 1920 ∧ Q (.str (toString i)) H) := by
  intro pins s σ H xs us Q I r h
  obtain ⟨i, rfl, hz, q⟩ := h
  obtain ⟨u, rfl, t, rfl⟩ := vals1 r
  exact PySem.P.str_of_int hz ⟨.str _, H, I.tok _, ⟨_, rfl⟩, q⟩
theorem call_ord : CallR X (.builtin "ord") (fun xs H Q => ∃ x, xs = [.str x] ∧ x.length = 1 ∧ Q (.int (x.cps.getD 0 0 : Nat)) H) := by
  intro pins s σ H xs us Q I r h
  obtain ⟨x, rfl, hz, q⟩ := h
  obtain ⟨u, rfl, t, rfl⟩ := vals1 r
  exact ord_of_one hz ⟨.int _, H, I.tok _, ⟨_, rfl⟩, q⟩
theorem call_chr : CallR X (.builtin "chr") (fun xs H Q => ∃ i, xs = [.int i] ∧ 0 ≤ i ∧ i ≤ 1114111 ∧ Q (.str ⟨#[i.toNat]⟩) H) := by
  intro pins s σ H xs us Q I r h
  obtain ⟨i, rfl, h0, h1, q⟩ := h
  obtain ⟨u, rfl, t, rfl⟩ := vals1 r
  exact chr_of_range h0 h1 ⟨.str _, H, I.tok _, ⟨_, rfl⟩, q⟩
/-- len of a str, a bytes, a list, a tuple -/
def LenV (K : PySem.W.Frag) (x : V) (H : Hp) (n : Nat) : Prop :=
  match x with
  | .str y => y.length ≤ sizeLine ∧ n = y.length
  | .byt y => y.size ≤ sizeLine ∧ n = y.size
  | .ref p => (∃ xs, SqL K H p xs ∧ n = xs.length) ∨ ∃ xs, SqT K H p xs ∧ n = xs.length
  | _ => False
theorem call_len : CallR X (.builtin "len") (fun xs H Q => ∃ x n, xs = [x] ∧ LenV X.K x H n ∧ Q (.int n) H) := by
  intro pins s σ H xs us Q I r h
  obtain ⟨x, n, rfl, e, q⟩ := h
  obtain ⟨u, rfl, rx⟩ := vals1 r
  have hl := line63
  have hs : sizeLine = 16777216 := sizeLine_eq
  cases x with
  | str y =>
    obtain ⟨t, rfl⟩ := rx
    obtain ⟨hy, e'⟩ : y.length ≤ sizeLine ∧ n = y.length := e
    subst e'
    exact len_str (by omega) ⟨.int _, H, I.tok _, ⟨_, rfl⟩, q⟩
  | byt y =>
    obtain ⟨t, rfl⟩ := rx
    obtain ⟨hy, e'⟩ : y.size ≤ sizeLine ∧ n = y.size := e
    subst e'
    exact PySem.W.len_bytes (by omega) ⟨.int _, H, I.tok _, ⟨_, rfl⟩, q⟩
  | ref p =>
    cases rx
    have e' : (∃ xs, SqL X.K H p xs ∧ n = xs.length) ∨ ∃ xs, SqT X.K H p xs ∧ n = xs.length := e
    rcases e' with ⟨xs, hx, e'⟩ | ⟨xs, hx, e'⟩
    · subst e'
      obtain ⟨its, r', pl, hz⟩ := I.list hx
      have hlen := r'.length
      exact Calls.call_len_list pl.isList (by simp only [List.size_toArray]; omega) ⟨.int xs.length, H, I.tok _, ⟨_, by simp only [List.size_toArray]; rw [hlen]⟩, q⟩
    · subst e'
      obtain ⟨its, r', pl, hz⟩ := I.tuple hx
      have hlen := r'.length
      exact len_tuple pl (by simp only [List.size_toArray]; omega) ⟨.int xs.length, H, I.tok _, ⟨_, by simp only [List.size_toArray]; rw [hlen]⟩, q⟩
  | _ => exact (show False from e).elim
/-- divmod: a new tuple -/
theorem call_divmod : CallR X (.builtin "divmod") (fun xs H Q => ∃ i j, xs = [.int i, .int j] ∧ CDiv i j ∧ ∀ p, H p = none → Q (.ref p) (upd H p (.tup [.int (i / j), .int (i % j)]))) := by
  intro pins s σ H xs us Q I r h
  obtain ⟨i, j, rfl, ⟨h1, h2⟩, q⟩ := h
  obtain ⟨u, w', rfl, ⟨t, rfl⟩, ⟨t', rfl⟩⟩ := vals2 r
  refine divmod_int (by omega) ?_ (.inl (PyProof.noPylong_small (by omega)))
  rw [Int.fdiv_eq_ediv_of_nonneg i (by omega), Int.fmod_eq_emod_of_nonneg i (by omega)]
  have hn : H s.heap.objs.size = none := I.hok.fresh (Nat.le_refl _)
  refine ⟨.ref s.heap.objs.size, _, ?_, rfl, q _ hn⟩
  refine I.laid (fun b o e => Heap.get?_push_of_some _ e) (Nat.le_refl _) ⟨by simp only [List.length_cons, List.length_nil]; rw [sizeLine_eq]; decide, [.int (i / j) s.toks, .int (i % j) (s.toks + 1)], .cons ⟨_, rfl⟩ (.cons ⟨_, rfl⟩ .nil), ?_⟩
  exact ⟨_, Heap.get?_push_size s.heap rfl, rfl, 0, rfl⟩
end
end L2

namespace L2
open PySem PySem.Spec PyProof.Rows

/-! ### an instance, its attributes a map -/
structure ObjM (h : Heap) (x dx C : Addr) (mA : Str → Option Value) : Prop where
  obj : h.get? x = some (PySem.W.instObj C dx)
  ns : h.Ns1 dx mA
  ne : dx ≠ x

theorem lookIn_ns {h : Heap} {dx : Addr} {mA : Str → Option Value} (n : h.Ns1 dx mA) : ∃ od, h.get? dx = some od ∧ ∀ name, PySem.W.lookIn name od = some (mA name) := by
  obtain ⟨o, es, ep, ho, hd, hk, _, hm⟩ := n
  refine ⟨o, ho, fun name => ?_⟩
  have e := hm name
  unfold nsFind findBy at e
  rw [← Array.find?_toList] at e
  unfold PySem.W.lookIn
  rw [hd]
  dsimp only
  split
  · rename_i y q
    rw [q] at e
    exact congrArg some e
  · rename_i q
    rw [q] at e
    have a : es.toList.any (·.refKey) = false := by
      rw [List.any_eq_false]
      intro y hy
      obtain ⟨z, t, hkey⟩ := hk y (Array.mem_toList_iff.mp hy)
      simp [DictEntry.refKey, hkey]
    have a' : ¬ es.toList.any (·.refKey) = true := by rw [a]; exact Bool.false_ne_true
    rw [if_neg a']
    exact congrArg some e

theorem ObjM.look {h : Heap} {x dx C : Addr} {mA : Str → Option Value} (I : ObjM h x dx C mA) : ∃ od, PySem.W.InstAt h x (PySem.W.instObj C dx) C (some od) ∧ ∀ name, PySem.W.lookIn name od = some (mA name) :=
  let ⟨od, ho, hl⟩ := lookIn_ns I.ns
  ⟨od, ⟨I.obj, rfl, rfl, ho⟩, hl⟩

section
variable {prog : Program} {w : World} {A : Around} {E : Value → Shared → Prop} {s : Shared} {K : PySem.W.Frag} {x dx C f : Addr} {mA : Str → Option Value} {name : Str} {v : Value}

theorem get_map {expr : Bool} {Q : Value → Shared → Prop} (X : K.In s.heap) (I : ObjM s.heap x dx C mA) (hg : PySem.W.plainGet K C name = true) (hh : PySem.W.hasDictIn K C = true)
    (ha : PySem.W.findIn K (.ref C) name = some none) (hv : mA name = some v) (hv' : PySem.W.handedIn v = true) (h : Q v { s with toks := s.toks + 1 }) :
    wpAny (model prog w) A (getAttr (.ref x) name expr) Q E s := by
  obtain ⟨od, J, hl⟩ := I.look
  exact PySem.W.get_value X J (PySem.W.plainGet_of hg).1 (PySem.W.findObj_own hh ha rfl (by rw [hl, hv])) hv' h

theorem get_const {expr : Bool} {a : Value} {Q : Value → Shared → Prop} (X : K.In s.heap) (I : ObjM s.heap x dx C mA) (hg : PySem.W.plainGet K C name = true) (hh : PySem.W.hasDictIn K C = true)
    (ha : PySem.W.findIn K (.ref C) name = some (some a)) (hn : PySem.W.specialIn K a "__get__" = some none) (hc : PySem.W.copiedNames.contains name = false) (hv : mA name = none) (hv' : PySem.W.handedIn a = true)
    (h : Q a { s with toks := s.toks + 1 }) : wpAny (model prog w) A (getAttr (.ref x) name expr) Q E s := by
  obtain ⟨od, J, hl⟩ := I.look
  exact PySem.W.get_value X J (PySem.W.plainGet_of hg).1 (PySem.W.findObj_cls hh ha hn hv' hc (by rw [hl, hv])) hv' h

theorem get_meth {pl : Sem Bool} {Q : Value × List Value → Shared → Prop} (X : K.In s.heap) (I : ObjM s.heap x dx C mA) (hg : PySem.W.plainGet K C name = true)
    (hf : PySem.W.findIn K (.ref C) name = some (some (.ref f))) (ht : PySem.W.isFn K (.ref f) = true) (hv : mA name = none) (h : Q (.ref f, [.ref x]) s) :
    wpAny (model prog w) A (getMethod (.ref x) name pl) Q E s := by
  obtain ⟨od, J, hl⟩ := I.look
  exact PySem.W.method_fn X J (PySem.W.plainGet_of hg).1 (PySem.W.plainGet_of hg).2 hf (beq_iff_eq.mp ht) (by show (PySem.W.lookIn name od).map (·.isSome) = some false; rw [hl, hv]; rfl) h

theorem set_map {ns : List Str} {Q : Unit → Shared → Prop} (X : K.In s.heap) (I : ObjM s.heap x dx C mA)
    (hs : PySem.W.findIn K (.ref C) "__setattr__" = some (some (.builtin "object.__setattr__"))) (hp : PySem.W.plainOver K C = true) (ht : PySem.W.takerIn K C name = some none) (hh : PySem.W.hasDictIn K C = true)
    (hw : PySem.Within mA ns) (hsz : ns.length ≤ sizeLine)
    (h : ∀ h', ObjM h' x dx C (fun y => if y = name then some v else mA y) → Heap.SameBut dx s.heap h' → Q () { s with heap := h', toks := s.toks + 2 }) :
    wpAny (model prog w) A (setAttr (.ref x) name v) Q E s := by
  obtain ⟨od, J, hl⟩ := I.look
  refine PySem.W.set_plain X J hs (PySem.W.osa_open (s := { s with toks := s.toks + 1 }) (r := none) X J hp ht fun b => ?_)
  obtain ⟨cd, hc, hd'⟩ := PySem.W.any_some hh
  have hx : s.heap.get? x = some ⟨.ref C, some dx, .plain, #[]⟩ := I.obj
  refine wpAny_bind (wpAny_pure (wpAny_bind (wpAny_bind (wpAny_loadPart hx (wpAny_bind (PySem.W.Looks.here (s := { s with toks := s.toks + 1 }) (PySem.W.looks_clsIn X hc) ?_))))))
  rw [hd']
  refine wpAny_pure (a := some dx) (wpAny_bind (wpAny_pure (wpAny_bind ?_)))
  refine wpAny_nsSet1 (s := { s with toks := s.toks + 1 }) I.ns fun h' hn2 hs2 => ?_
  obtain ⟨oD, esD, epD, hoD, hdD, hcD⟩ := hn2.count (PySem.Within.cons name v hw)
  refine wpAny_bind (wpAny_lookBehind hoD (by rw [hdD]; exact pastItsLine_dict (Nat.le_trans hcD (by rw [List.length_cons]; omega))) ?_)
  exact wpAny_pure (h _ ⟨(hs2.2 _ (Ne.symm I.ne)).trans I.obj, hn2, I.ne⟩ hs2)

/-- C(..): the dict at the heap's end, the instance behind it; then its __init__ -/
theorem make_map {R : Result → Shared → Prop} {vs : List Value} {kw : List (Str × Value)} (X : K.In s.heap) (hm : PySem.W.makesIn K C = true)
    (hi : PySem.W.findIn K (.ref C) "__init__" = some (some (.ref f))) (hf : PySem.W.typeIn K (.ref f) = some (.type "function"))
    (h : codeAny (model prog w) (A.under (.builtin "type.__call__" ⟨.ref C :: vs, kw⟩)) (.call (.ref f) ⟨.ref (s.heap.objs.size + 1) :: vs, kw⟩) (PySem.W.InitBack (s.heap.objs.size + 1) R)
      { s with heap := (s.heap.push PySem.W.emptyDict).push (PySem.W.instObj C s.heap.objs.size) }) :
    codeAny (model prog w) A (.call (.ref C) ⟨vs, kw⟩) R s := by
  obtain ⟨hh, g, d, t, os⟩ := s
  exact PySem.W.make_core (PySem.W.makes_of X hm) (PySem.W.looks_findIn X hi) (fun self => PySem.W.bind_fn X self hf) (.inl rfl) h
/-- C() where there is no __init__ but object's -/
theorem make_map0 {R : Result → Shared → Prop} (X : K.In s.heap) (hm : PySem.W.makesIn K C = true)
    (hi : PySem.W.findIn K (.ref C) "__init__" = some (some (.builtin "object.__init__")))
    (hb : ∀ self, PySem.W.Looks (model prog w) s.heap (bindSpecial (.builtin "object.__init__") self) (.builtin "object.__init__", [self]))
    (h : codeAny (model prog w) (A.under (.builtin "type.__call__" ⟨[.ref C], []⟩)) (.call (.builtin "object.__init__") ⟨[.ref (s.heap.objs.size + 1)], []⟩) (PySem.W.InitBack (s.heap.objs.size + 1) R)
      { s with heap := (s.heap.push PySem.W.emptyDict).push (PySem.W.instObj C s.heap.objs.size) }) :
    codeAny (model prog w) A (.call (.ref C) ⟨[], []⟩) R s := by
  obtain ⟨hh, g, d, t, os⟩ := s
  exact PySem.W.make_core (PySem.W.makes_of X hm) (PySem.W.looks_findIn X hi) hb (.inr ⟨rfl, rfl⟩) h
end

/-! ### the attributes as a list of pairs -/
def putF (f : Str) (v : V) : List (Str × V) → List (Str × V)
  | [] => [(f, v)]
  | (g, x) :: r => if g = f then (g, v) :: r else (g, x) :: putF f v r
theorem lookup_putF (f g : Str) (v : V) : ∀ fs : List (Str × V), (putF f v fs).lookup g = if g = f then some v else fs.lookup g
  | [] => by
    show List.lookup g [(f, v)] = _
    by_cases h : g = f
    · have hb : (g == f) = true := beq_iff_eq.mpr h
      simp only [List.lookup, hb, if_pos h]
    · have hb : (g == f) = false := beq_eq_false_iff_ne.mpr h
      simp only [List.lookup, hb, if_neg h]
  | (k, x) :: r => by
    have ih := lookup_putF f g v r
    rw [show putF f v ((k, x) :: r) = (if k = f then (k, v) :: r else (k, x) :: putF f v r) from rfl]
    by_cases hk : k = f
    · rw [if_pos hk]
      by_cases h : g = k
      · have hb : (g == k) = true := beq_iff_eq.mpr h
        simp only [List.lookup, hb, if_pos (h.trans hk)]
      · have hb : (g == k) = false := beq_eq_false_iff_ne.mpr h
        simp only [List.lookup, hb, if_neg (fun e : g = f => h (e.trans hk.symm))]
    · rw [if_neg hk]
      by_cases h : g = k
      · have hb : (g == k) = true := beq_iff_eq.mpr h
        simp only [List.lookup, hb, if_neg (fun e : g = f => hk (h.symm.trans e))]
      · have hb : (g == k) = false := beq_eq_false_iff_ne.mpr h
        simp only [List.lookup, hb]
        exact ih
theorem keys_putF (f : Str) (v : V) : ∀ fs : List (Str × V), f ∈ (putF f v fs).map (·.1) ∧ ∀ g, g ∈ fs.map (·.1) → g ∈ (putF f v fs).map (·.1)
  | [] => ⟨by simp [putF], fun g h => by simp at h⟩
  | (k, x) :: r => by
    obtain ⟨i1, i2⟩ := keys_putF f v r
    rw [show putF f v ((k, x) :: r) = (if k = f then (k, v) :: r else (k, x) :: putF f v r) from rfl]
    by_cases hk : k = f
    · rw [if_pos hk]
      subst hk
      exact ⟨by simp, fun g h => by simpa using h⟩
    · rw [if_neg hk]
      refine ⟨?_, fun g h => ?_⟩
      · rw [List.map_cons]
        exact List.mem_cons_of_mem _ i1
      · rw [List.map_cons] at h ⊢
        rcases List.mem_cons.mp h with e | e
        · exact List.mem_cons.mpr (.inl e)
        · exact List.mem_cons_of_mem _ (i2 g e)
theorem length_putF (f : Str) (v : V) : ∀ fs : List (Str × V), (putF f v fs).length ≤ fs.length + 1
  | [] => by simp [putF]
  | (k, x) :: r => by
    have ih := length_putF f v r
    rw [show putF f v ((k, x) :: r) = (if k = f then (k, v) :: r else (k, x) :: putF f v r) from rfl]
    by_cases hk : k = f
    · rw [if_pos hk, List.length_cons, List.length_cons]; omega
    · rw [if_neg hk, List.length_cons, List.length_cons]; omega

theorem RelO.some_of {v : V} {o : Option Value} (r : RelO (some v) o) : ∃ u, o = some u ∧ RelV v u := by
  cases o with
  | none => exact (show False from r).elim
  | some u => exact ⟨u, rfl, r⟩
theorem RelO.none_of {o : Option Value} (r : RelO none o) : o = none := by
  cases o with
  | none => rfl
  | some u => exact (show False from r).elim
theorem handed_of {v : V} {u : Value} (r : RelV v u) : PySem.W.handedIn u = true := by
  cases v with
  | non => cases (show u = Value.none from r); rfl
  | bl b => cases (show u = Value.bool b from r); rfl
  | int i => obtain ⟨t, e⟩ := (show ∃ t, u = Value.int i t from r); cases e; rfl
  | str x => obtain ⟨t, e⟩ := (show ∃ t, u = Value.str x t from r); cases e; rfl
  | byt b => obtain ⟨t, e⟩ := (show ∃ t, u = Value.bytes b t from r); cases e; rfl
  | flt b => obtain ⟨t, e⟩ := (show ∃ t, u = Value.float b t from r); cases e; rfl
  | ref a => cases (show u = Value.ref a from r); rfl
  | ty n => cases (show u = Value.type n from r); rfl

section
variable {P : Program} {w : World} {H H' : Hp} {h h' : Heap} {a C dx : Addr} {fs fs' : List (Str × V)}
theorem ins_get (hok : HOk P w H h) (e : H a = some (.ins C dx fs)) : ∃ mA, ObjM h a dx C mA ∧ (∀ f, RelO (fs.lookup f) (mA f)) ∧ PySem.Within mA (fs.map (·.1)) ∧ fs.length ≤ 1000 ∧ H dx = some (.own a) := by
  obtain ⟨d, z, ne, ob, mA, n, r, q⟩ := (show ObjOk P w H h a (.ins C dx fs) from hok a _ e)
  exact ⟨mA, ⟨ob, n, ne⟩, r, q, z, d⟩
end

/-! ### what of the text a class must have -/
structure Cls (K : PySem.W.Frag) (C : Addr) : Prop where
  pg : PySem.W.plainGet K C Str.empty = true
  hd : PySem.W.hasDictIn K C = true
  po : PySem.W.plainOver K C = true
  sa : PySem.W.findIn K (.ref C) "__setattr__" = some (some (.builtin "object.__setattr__"))
theorem Cls.get {K : PySem.W.Frag} {C : Addr} (c : Cls K C) (f : Str) : PySem.W.plainGet K C f = true := c.pg
/-- no class of it has the name -/
def NoAttr (K : PySem.W.Frag) (C : Addr) (f : Str) : Prop := PySem.W.findIn K (.ref C) f = some none
theorem NoAttr.taker {K : PySem.W.Frag} {C : Addr} {f : Str} (n : NoAttr K C f) : PySem.W.takerIn K C f = some none := by
  unfold PySem.W.takerIn
  rw [show PySem.W.findIn K (.ref C) f = some none from n]
  rfl
/-- a constant of the class -/
structure Con (K : PySem.W.Frag) (C : Addr) (f : Str) (v : V) (u : Value) : Prop where
  at_ : PySem.W.findIn K (.ref C) f = some (some u)
  rel : RelV v u
  get : PySem.W.specialIn K u "__get__" = some none
  cp : PySem.W.copiedNames.contains f = false
/-- a method: a plain def of the class or of one above it -/
structure Meth (K : PySem.W.Frag) (C : Addr) (m : Str) (f : Addr) : Prop where
  at_ : PySem.W.findIn K (.ref C) m = some (some (.ref f))
  fn : PySem.W.isFn K (.ref f) = true
  kp : PySem.W.keepIn K (.ref f) = true

section
variable {X : Cx} {pins : List (Addr × Obj)} {σ : St} {H : Hp} {s : Shared} {a C dx : Addr} {fs : List (Str × V)} {f : Str} {v : V} {A : Around} {E : Value → Shared → Prop}

theorem getattr_ok {b : Bool} {Q : Value → Shared → Prop} (I : Inv X pins σ H s) (e : H a = some (.ins C dx fs)) (c : Cls X.K C) (n : NoAttr X.K C f) (l : fs.lookup f = some v)
    (h : ∀ u s', Inv X pins σ H s' → RelV v u → Q u s') : wpAny (model X.prog X.w) A (getAttr (.ref a) f b) Q E s := by
  obtain ⟨mA, O, r, _, _, _⟩ := ins_get I.hok e
  obtain ⟨u, hu, ru⟩ := RelO.some_of (v := v) (o := mA f) (by rw [← l]; exact r f)
  exact get_map I.kIn O (c.get f) c.hd n hu (handed_of ru) (h u _ (I.tok _) ru)

theorem getcon_ok {b : Bool} {u : Value} {Q : Value → Shared → Prop} (I : Inv X pins σ H s) (e : H a = some (.ins C dx fs)) (c : Cls X.K C) (k : Con X.K C f v u) (l : fs.lookup f = none)
    (h : ∀ s', Inv X pins σ H s' → Q u s') : wpAny (model X.prog X.w) A (getAttr (.ref a) f b) Q E s := by
  obtain ⟨mA, O, r, _, _, _⟩ := ins_get I.hok e
  have hn : mA f = none := RelO.none_of (by rw [← l]; exact r f)
  exact get_const I.kIn O (c.get f) c.hd k.at_ k.get k.cp hn (handed_of k.rel) (h _ (I.tok _))

theorem getmeth_ok {m : Str} {g : Addr} {pl : Sem Bool} {Q : Value × List Value → Shared → Prop} (I : Inv X pins σ H s) (e : H a = some (.ins C dx fs)) (c : Cls X.K C) (k : Meth X.K C m g) (l : fs.lookup m = none)
    (h : Q (.ref g, [.ref a]) s) : wpAny (model X.prog X.w) A (getMethod (.ref a) m pl) Q E s := by
  obtain ⟨mA, O, r, _, _, _⟩ := ins_get I.hok e
  have hn : mA m = none := RelO.none_of (by rw [← l]; exact r m)
  exact get_meth I.kIn O (c.get m) k.at_ k.fn hn h

theorem setattr_ok {y : V} {u : Value} {Q : Unit → Shared → Prop} (I : Inv X pins σ H s) (e : H a = some (.ins C dx fs)) (c : Cls X.K C) (n : NoAttr X.K C f) (hl : fs.length < 1000) (ry : RelV y u)
    (h : ∀ s', Inv X pins σ (upd H a (.ins C dx (putF f y fs))) s' → Q () s') : wpAny (model X.prog X.w) A (setAttr (.ref a) f u) Q E s := by
  obtain ⟨mA, O, r, wi, _, ho⟩ := ins_get I.hok e
  have hz : (fs.map (·.1)).length ≤ sizeLine := by rw [List.length_map, sizeLine_eq]; omega
  refine set_map I.kIn O c.sa c.po n.taker c.hd wi hz fun h' O' sb => h _ ?_
  have hd : ∃ o, h'.get? dx = some o := let ⟨o, _, _, e', _⟩ := O'.ns; ⟨o, e'⟩
  refine I.write (x := a) (e := dx) (by rw [e]; exact True.intro) (.inr ho) (fun b q hb z => (sb.2 b hb).trans z) hd ?_
  refine ⟨by rw [upd_ne O.ne]; exact ho, ?_, O.ne, O'.obj, _, O'.ns, fun g => ?_, fun g hg => ?_⟩
  · have := length_putF f y fs; omega
  · show RelO ((putF f y fs).lookup g) (if g = f then some u else mA g)
    rw [lookup_putF]
    by_cases q : g = f
    · rw [if_pos q, if_pos q]; exact ry
    · rw [if_neg q, if_neg q]; exact r g
  · by_cases q : g = f
    · rw [q]; exact (keys_putF f y fs).1
    · refine (keys_putF f y fs).2 g (wi g fun z => hg ?_)
      show (if g = f then some u else mA g) = none
      rw [if_neg q]; exact z

/-- a new instance, tracked, without attributes -/
theorem Inv.made (I : Inv X pins σ H s) : Inv X pins σ (upd (upd H s.heap.objs.size (.own (s.heap.objs.size + 1))) (s.heap.objs.size + 1) (.ins C s.heap.objs.size []))
    { s with heap := (s.heap.push PySem.W.emptyDict).push (PySem.W.instObj C s.heap.objs.size) } := by
  have e1 : (s.heap.push PySem.W.emptyDict).get? s.heap.objs.size = some PySem.W.emptyDict := Heap.get?_push_size s.heap rfl
  have e2 : ((s.heap.push PySem.W.emptyDict).push (PySem.W.instObj C s.heap.objs.size)).get? (s.heap.objs.size + 1) = some (PySem.W.instObj C s.heap.objs.size) := by
    have := Heap.get?_push_size (s.heap.push PySem.W.emptyDict) (o := PySem.W.instObj C s.heap.objs.size) rfl
    rwa [Heap.size_push] at this
  have e3 : (s.heap.push PySem.W.emptyDict).Ns s.heap.objs.size (fun _ => none) := ⟨PySem.W.emptyDict, #[], _, e1, rfl, (fun e he => absurd he (by simp)), fun _ => rfl⟩
  have I1 := I.laid (a := s.heap.objs.size) (o := .own (s.heap.objs.size + 1)) (h' := s.heap.push PySem.W.emptyDict) (t' := s.toks) (fun b u q => Heap.get?_push_of_some _ q) (Nat.le_refl _) ⟨_, e1⟩
  refine I1.laid (a := s.heap.objs.size + 1) (o := .ins C s.heap.objs.size []) (t' := s.toks) (fun b u q => Heap.get?_push_of_some _ q) (Nat.le_of_eq (Heap.size_push _ _)) ?_
  have ne : s.heap.objs.size ≠ s.heap.objs.size + 1 := Nat.ne_of_lt (Nat.lt_succ_self _)
  refine ⟨by rw [upd_ne ne, upd_same], Nat.zero_le _, ne, e2, fun _ => none, (Heap.Ns1.of_empty e3).at fun o q => Heap.get?_push_of_some _ q, fun _ => True.intro, fun y hy => absurd rfl hy⟩

/-- e.f where nothing but the object is asked: through attributeBase (super) and the last hold -/
theorem attr_of {prog : Program} {w : World} {env : Env} {e : Expr} {f : Str} {pos : Pos} {s : Shared} {Q : Value → Shared → Prop} (hb : attributeBase e f env (eval e env) = eval e env)
    (h : wpAny (model prog w) A (eval e env) (fun o s₁ => wpAny (model prog w) A (getAttr o f true) Q E s₁) E s) : wpAny (model prog w) A (eval (.Attribute e f pos) env) Q E s :=
  Attribute_any_ h (by rw [arm_eval_Attribute, hb])
end

/-! ### readings and rules -/
/-- e.f, an attribute of the instance -/
def tFld (K : PySem.W.Frag) (ta : TE) (f : Str) : TE := fun σ H Q => ta σ H fun x H1 => ∃ a C dx fs v, x = .ref a ∧ H1 a = some (.ins C dx fs) ∧ Cls K C ∧ NoAttr K C f ∧ fs.lookup f = some v ∧ Q v H1
/-- e.f, a constant of the class -/
def tCon (K : PySem.W.Frag) (ta : TE) (f : Str) : TE := fun σ H Q => ta σ H fun x H1 => ∃ a C dx fs v u, x = .ref a ∧ H1 a = some (.ins C dx fs) ∧ Cls K C ∧ Con K C f v u ∧ fs.lookup f = none ∧ Q v H1
/-- e.f = value -/
def sFld (K : PySem.W.Frag) (ta tv : TE) (f : Str) : TS := fun D σ H => tv σ H fun y H1 => ta σ H1 fun x H2 => ∃ a C dx fs, x = .ref a ∧ H2 a = some (.ins C dx fs) ∧ Cls K C ∧ NoAttr K C f ∧ fs.length < 1000 ∧
  D.nx σ (upd H2 a (.ins C dx (putF f y fs)))
/-- an augmented operator on two values -/
def InOp (X : Cx) (op : Operator) (rd : V → V → Hp → VK → Prop) : Prop :=
  ∀ (pins : List (Addr × Obj)) (s : Shared) (σ : St) (H : Hp) (x y : V) (u v : Value) (Q : VK), Inv X pins σ H s → RelV x u → RelV y v → rd x y H Q → wpAny (model X.prog X.w) X.A (inplaceOp op u v) (EP X pins σ Q) X.xe s
/-- e.f op= value -/
def sFldAug (K : PySem.W.Frag) (ta tv : TE) (rd : V → V → Hp → VK → Prop) (f : Str) : TS := fun D σ H => ta σ H fun x H1 => ∃ a C dx fs v, x = .ref a ∧ H1 a = some (.ins C dx fs) ∧ Cls K C ∧ NoAttr K C f ∧ fs.lookup f = some v ∧
  tv σ H1 fun y H2 => rd v y H2 fun z H3 => ∃ dx' fs', H3 a = some (.ins C dx' fs') ∧ fs'.length < 1000 ∧ D.nx σ (upd H3 a (.ins C dx' (putF f z fs')))

section
variable {X : Cx} {o e value : Expr} {f : Str} {pos pos' tpos : Pos} {ta tv : TE}
theorem pe_fld (he : PE X e ta) (hb : attributeBase e f X.env (eval e X.env) = eval e X.env) : PE X (.Attribute e f pos) (tFld X.K ta f) := by
  intro pins s σ H Q I h
  refine attr_of hb (thn (he pins s σ H _ I h) fun u s1 ⟨x, H1, I1, rx, a, C, dx, fs, v, ex, ea, c, n, l, q⟩ => ?_)
  subst ex
  obtain rfl : u = Value.ref a := rx
  exact getattr_ok I1 ea c n l fun u' s2 I2 ru => ⟨v, H1, I2, ru, q⟩
theorem pe_con (he : PE X e ta) (hb : attributeBase e f X.env (eval e X.env) = eval e X.env) : PE X (.Attribute e f pos) (tCon X.K ta f) := by
  intro pins s σ H Q I h
  refine attr_of hb (thn (he pins s σ H _ I h) fun u s1 ⟨x, H1, I1, rx, a, C, dx, fs, v, u0, ex, ea, c, k, l, q⟩ => ?_)
  subst ex
  obtain rfl : u = Value.ref a := rx
  exact getcon_ok I1 ea c k l fun s2 I2 => ⟨v, H1, I2, k.rel, q⟩
theorem ps_fld (ha : PE X o ta) (hv : PE X value tv) (hs : swapsWith value (some (.Attribute o f pos')) pos.line X.env = pure false) : PS X (.Assign [.Attribute o f pos'] value pos) (sFld X.K ta tv f) := by
  intro pins s σ H D I h
  refine plainObj_wpAny_Assign_Attribute (thn (hv pins s σ H _ I h) fun u s1 ⟨y, H1, I1, ry, q⟩ => thn (ha pins s1 σ H1 _ I1 q) fun ov s2 ⟨x, H2, I2, rx, a, C, dx, fs, ex, ea, c, n, l, q2⟩ => ?_) hs
  subst ex
  obtain rfl : ov = Value.ref a := rx
  exact setattr_ok I2 ea c n l ry fun s3 I3 => ⟨σ, _, I3, q2⟩
theorem ps_fldaug {op : Operator} {rd : V → V → Hp → VK → Prop} (ha : PE X o ta) (hv : PE X value tv) (hop : InOp X op rd) : PS X (.AugAssign (.Attribute o f tpos) op value pos) (sFldAug X.K ta tv rd f) := by
  intro pins s σ H D I h
  refine wpAny_AugAssign_AttributeAny (thn (ha pins s σ H _ I h) fun ov s1 ⟨x, H1, I1, rx, a, C, dx, fs, v, ex, ea, c, n, l, q⟩ => ?_)
  subst ex
  obtain rfl : ov = Value.ref a := rx
  refine getattr_ok I1 ea c n l fun u s2 I2 ru => thn (hv pins s2 σ H1 _ I2 q) fun w3 s3 ⟨y, H2, I3, ry, q3⟩ => thn (hop pins s3 σ H2 v y u w3 _ I3 ru ry q3) fun w4 s4 ⟨z, H3, I4, rz, dx', fs', ea', l', q4⟩ => ?_
  exact setattr_ok I4 ea' c n l' rz fun s5 I5 => ⟨σ, _, I5, q4⟩
def rAdd : V → V → Hp → VK → Prop := fun x y H Q => ∃ i j, x = .int i ∧ y = .int j ∧ Q (.int (i + j)) H
def rSub : V → V → Hp → VK → Prop := fun x y H Q => ∃ i j, x = .int i ∧ y = .int j ∧ Q (.int (i - j)) H
theorem in_add : InOp X .Add rAdd := by
  rintro pins s σ H x y u v Q I rx ry ⟨i, j, rfl, rfl, q⟩
  obtain ⟨t, rfl⟩ := (show ∃ t, u = Value.int i t from rx)
  obtain ⟨t', rfl⟩ := (show ∃ t', v = Value.int j t' from ry)
  exact PyProof.Rows.iadd_int ⟨.int (i + j), H, I.tok _, ⟨_, rfl⟩, q⟩
theorem in_sub : InOp X .Sub rSub := by
  rintro pins s σ H x y u v Q I rx ry ⟨i, j, rfl, rfl, q⟩
  obtain ⟨t, rfl⟩ := (show ∃ t, u = Value.int i t from rx)
  obtain ⟨t', rfl⟩ := (show ∃ t', v = Value.int j t' from ry)
  exact PyProof.Rows.isub_int ⟨.int (i - j), H, I.tok _, ⟨_, rfl⟩, q⟩

/-- what is between an instance and its method: the tree of a method call -/
theorem methcall_of {pl : Sem Bool} {m : Str} {apos : Pos} {args : List Expr} {pins : List (Addr × Obj)} {s : Shared} {σ : St} {H : Hp} {Q : Value → Shared → Prop} {te : TE} (he : PE X e te) (I : Inv X pins σ H s)
    (h : te σ H fun x H1 => ∃ a C dx fs g, x = .ref a ∧ H1 a = some (.ins C dx fs) ∧ Cls X.K C ∧ Meth X.K C m g ∧ fs.lookup m = none ∧
      ∀ s1, Inv X pins σ H1 s1 → wpAny (model X.prog X.w) X.A (callWith pos (.ref g) [.ref a] (backTo pos (starEach args X.env)) (backToKw pos (keywordEach [] X.env))) Q X.xe s1)
    (ht : eval (.Call (.Attribute e m apos) args [] pos) X.env = (do
      let ov ← eval e X.env
      standAt apos.atName
      let (f, first) ← holding [ov] (getMethod ov m pl)
      callWith pos f first (backTo pos (starEach args X.env)) (backToKw pos (keywordEach [] X.env)))) :
    wpAny (model X.prog X.w) X.A (eval (.Call (.Attribute e m apos) args [] pos) X.env) Q X.xe s := by
  refine PySem.W.methodCall_KW (pl := pl) (thn (he pins s σ H _ I h) fun u s1 ⟨x, H1, I1, rx, a, C, dx, fs, g, ex, ea, c, k, l, q⟩ => ?_) ht
  subst ex
  obtain rfl : u = Value.ref a := rx
  exact getmeth_ok I1 ea c k l (q s1 I1)
end

/-! ### isinstance -/
section
variable {X : Cx} {pins : List (Addr × Obj)} {σ : St} {H : Hp} {s : Shared} {A : Around} {E : Value → Shared → Prop} {Q : Value → Shared → Prop} {c : Value} {b : Bool}
/-- the type of a value, as the fragment's deciders take it; for an instance its class -/
inductive TyOf (K : PySem.W.Frag) (H : Hp) : V → Value → Prop where
  | non : TyOf K H .non (.type "NoneType")
  | bl (x : Bool) : TyOf K H (.bl x) (.type "bool")
  | int (i : Int) : TyOf K H (.int i) (.type "int")
  | str (x : Str) : TyOf K H (.str x) (.type "str")
  | flt (x : UInt64) : TyOf K H (.flt x) (.type "float")
  | lst {a : Addr} {xs : List V} (e : H a = some (.lst xs)) : TyOf K H (.ref a) (.type "list")
  | frz {a : Addr} {o : Obj} {xs : List V} (e : H a = some (.frz o (.lst xs))) : TyOf K H (.ref a) (.type "list")
  | tup {a : Addr} {xs : List V} (e : H a = some (.tup xs)) : TyOf K H (.ref a) (.type "tuple")
  | dK {a : Addr} {kvs : List (Key × V)} (e : H a = some (.dK kvs)) : TyOf K H (.ref a) (.type "dict")
  | dT {a : Addr} {kvs : List (List Key × V)} (e : H a = some (.dT kvs)) : TyOf K H (.ref a) (.type "dict")
  | ins {a C dx : Addr} {fs : List (Str × V)} (e : H a = some (.ins C dx fs)) (cl : Cls K C) (ha : PySem.W.findIn K (.ref C) "__class__" = some (some (.builtin "object.__class__")))
      (hn : PySem.W.specialIn K (.builtin "object.__class__") "__get__" = some (some (.builtin "getset_descriptor.__get__"))) (htk : PySem.W.takesIn K (.builtin "object.__class__") = some true)
      (hm : PySem.W.mroIn K C (.type "object") = some true) : TyOf K H (.ref a) (.ref C)
/-- isinstance(x, c) for one class c, a built-in or an own one: kitOne's answer -/
theorem isinst_ok {x : V} {u t : Value} (I : Inv X pins σ H s) (rx : RelV x u) (ty : TyOf X.K H x t) (e : PySem.W.kitOne X.K t c = some b) (h : ∀ tk, Q (.bool b) { s with toks := tk }) :
    wpAny (model X.prog X.w) A (call (.builtin "isinstance") [u, c]) Q E s := by
  cases ty with
  | non => cases (show u = Value.none from rx); exact PySem.W.kia_one PySem.W.kitx_none I.kIn True.intro e (fun z => nomatch z) h
  | bl y => cases (show u = Value.bool y from rx); exact PySem.W.kia_one PySem.W.kitx_bool I.kIn True.intro e (fun z => nomatch z) h
  | int i => obtain ⟨t, q⟩ := (show ∃ t, u = Value.int i t from rx); cases q; exact PySem.W.kia_one PySem.W.kitx_int I.kIn True.intro e (fun z => nomatch z) h
  | str y => obtain ⟨t, q⟩ := (show ∃ t, u = Value.str y t from rx); cases q; exact PySem.W.kia_one PySem.W.kitx_str I.kIn True.intro e (fun z => nomatch z) h
  | flt y => obtain ⟨t, q⟩ := (show ∃ t, u = Value.float y t from rx); cases q; exact PySem.W.kia_one PySem.W.kitx_float I.kIn True.intro e (fun z => nomatch z) h
  | @lst a xs ea =>
    cases (show u = Value.ref a from rx)
    obtain ⟨_, _, n, _, h1⟩ := (show ObjOk X.prog X.w H s.heap a (.lst xs) from I.hok a _ ea)
    exact PySem.W.kia_one PySem.W.kitx_list I.kIn ⟨_, h1, rfl⟩ e (fun z => nomatch z) h
  | @frz a ob xs ea =>
    cases (show u = Value.ref a from rx)
    obtain ⟨_, _, _, n, _, h1⟩ := (show ObjOk X.prog X.w H s.heap a (.frz ob (.lst xs)) from I.hok a _ ea)
    exact PySem.W.kia_one PySem.W.kitx_list I.kIn ⟨_, h1, rfl⟩ e (fun z => nomatch z) h
  | @tup a xs ea =>
    cases (show u = Value.ref a from rx)
    obtain ⟨_, _, _, p⟩ := (show ObjOk X.prog X.w H s.heap a (.tup xs) from I.hok a _ ea)
    obtain ⟨o, h1, h2, _⟩ := p
    exact PySem.W.kia_one PySem.W.kitx_tuple I.kIn ⟨o, h1, h2⟩ e (fun z => nomatch z) h
  | @dK a kvs ea =>
    cases (show u = Value.ref a from rx)
    obtain ⟨_, _, vs, _, p⟩ := (show ObjOk X.prog X.w H s.heap a (.dK kvs) from I.hok a _ ea)
    obtain ⟨o, es, ep, h1, h2, _⟩ := p
    exact PySem.W.kia_one PySem.W.kitx_dict I.kIn ⟨o, h1, h2.1⟩ e (fun z => nomatch z) h
  | @dT a kvs ea =>
    cases (show u = Value.ref a from rx)
    obtain ⟨_, _, xs, _, o, es, ep, h1, h2, _⟩ := (show ObjOk X.prog X.w H s.heap a (.dT kvs) from I.hok a _ ea)
    exact PySem.W.kia_one PySem.W.kitx_dict I.kIn ⟨o, h1, h2.1⟩ e (fun z => nomatch z) h
  | @ins a C dx fs ea cl ha hn htk hm =>
    cases (show u = Value.ref a from rx)
    obtain ⟨mA, O, _⟩ := ins_get I.hok ea
    obtain ⟨od, J, _⟩ := O.look
    exact PySem.W.kia_one (PySem.W.kitx_own (cl.get _) cl.hd ha hn htk hm) I.kIn J e (fun z => nomatch z) h
end
end L2

namespace L2
open PySem PySem.Spec PyProof.Rows

/-! ### room -/
structure Room (k : Nat) (A : Around) : Prop where
  hd : A.handled = none
  dp : A.depth + 3 * k + 5 < recursionLimit
  un : A.units + 16 * k + 200 < cLine
theorem Room.mono {j k : Nat} {A : Around} (r : Room k A) (h : j ≤ k) : Room j A := ⟨r.hd, by have := r.dp; omega, by have := r.un; omega⟩
theorem Room.deeper {k : Nat} {A : Around} (r : Room (k + 1) A) (env : Env) : Room k (A.deeper env) :=
  ⟨r.hd, by have := r.dp; show A.depth + 1 + 3 * k + 5 < _; omega, by have := r.un; show A.units + 3 + 16 * k + 200 < _; omega⟩
theorem Room.in1 {k : Nat} {A : Around} (r : Room (k + 1) A) : Room k A.in1 :=
  ⟨r.hd, by have := r.dp; show A.depth + 3 * k + 5 < _; omega, by have := r.un; show A.units + 1 + 16 * k + 200 < _; omega⟩
theorem make_depth {A : Around} {C : Addr} {us : List Value} {kw : List (Str × Value)} : (A.under (.builtin "type.__call__" ⟨.ref C :: us, kw⟩)).depth = A.depth + 1 := by
  first | rfl | simp [Around.under, Code.weight, Code.isCreation, Code.isGuard, Code.isCaller, Code.frames, Code.isFrame, guardIds]
theorem make_units {A : Around} {C : Addr} {us : List Value} {kw : List (Str × Value)} : (A.under (.builtin "type.__call__" ⟨.ref C :: us, kw⟩)).units = A.units + 1 := by
  first | rfl | simp [Around.under, Code.cUnits, Code.frames, Code.isFrame]
theorem Room.make {k : Nat} {A : Around} (r : Room (k + 1) A) (C : Addr) (us : List Value) (kw : List (Str × Value)) : Room k (A.under (.builtin "type.__call__" ⟨.ref C :: us, kw⟩)) :=
  ⟨r.hd, by have := r.dp; rw [make_depth]; omega, by have := r.un; rw [make_units]; omega⟩
theorem Room.depth {k : Nat} {A : Around} (r : Room k A) : A.depth < recursionLimit := by have := r.dp; omega
theorem Room.units {k : Nat} {A : Around} (r : Room k A) : A.units + 64 < cLine := by have := r.un; omega
theorem Room.units0 {k : Nat} {A : Around} (r : Room k A) : A.units < cLine := by have := r.un; omega

/-! ### argument lists and displays -/
def tNil : TA := fun _ H Q => Q [] H
def tCons (ta : TE) (tr : TA) : TA := fun σ H Q => ta σ H fun x H1 => tr σ H1 fun xs H2 => Q (x :: xs) H2
section
variable {X : Cx} {e : Expr} {es : List Expr} {te : TE} {t : TA} {pos : Pos}
theorem pa_nil : PA X [] tNil := fun _ _ _ _ H Q I h => Calls.spliced_nil ⟨[], H, I, .nil, h⟩
theorem pa_cons (ha : PE X e te) (hr : PA X es t) (hs : starEach (e :: es) X.env = (false, eval e X.env) :: starEach es X.env := by rfl) : PA X (e :: es) (tCons te t) := by
  intro pos pins s σ H Q I h
  rw [hs]
  show wpAny _ _ (spliced ((false, eval e X.env) :: backTo pos (starEach es X.env))) _ _ s
  refine Calls.spliced_cons (thn (ha pins s σ H _ I h) fun u s1 ⟨x, H1, I1, r1, q1⟩ => ?_)
  exact thn (hr pos pins s1 σ H1 _ I1 q1) fun us s2 ⟨xs, H2, I2, r2, q2⟩ => ⟨x :: xs, H2, I2, .cons r1 r2, q2⟩

/-- a tuple, a list of written items -/
def tTup (t : TA) : TE := fun σ H Q => t σ H fun xs H1 => xs.length ≤ sizeLine ∧ ∀ p, H1 p = none → Q (.ref p) (upd H1 p (.tup xs))
def tLst (t : TA) : TE := fun σ H Q => t σ H fun xs H1 => xs.length ≤ sizeLine ∧ ∀ p, H1 p = none → Q (.ref p) (upd H1 p (.lst xs))
theorem pe_tup {x1} (h : PA X es t) : PE X (.Tuple es x1 pos) (tTup t) := by
  intro pins s σ H Q I hq
  refine wpAny_Tuple_spliced (thn (h pos pins s σ H _ I hq) fun us s1 ⟨xs, H1, I1, r, z, q⟩ => ⟨by rw [← r.length]; exact z, ?_⟩)
  have hf : H1 s1.heap.objs.size = none := I1.hok.fresh (Nat.le_refl _)
  refine ⟨.ref s1.heap.objs.size, upd H1 s1.heap.objs.size (.tup xs), I1.laid (t' := s1.toks) (fun b u e => Heap.get?_push_of_some _ e) (Nat.le_refl _) ?_, rfl, q _ hf⟩
  exact ⟨z, us, r, ⟨_, Heap.get?_push_size _ rfl, rfl, _, rfl⟩⟩
theorem pe_lst (h : PA X es t) : PE X (.List es pos) (tLst t) := by
  intro pins s σ H Q I hq
  refine wpAny_List_spliced (thn (h pos pins s σ H _ I hq) fun us s1 ⟨xs, H1, I1, r, z, q⟩ => ⟨by rw [← r.length]; exact z, ?_⟩)
  have hf : H1 s1.heap.objs.size = none := I1.hok.fresh (Nat.le_refl _)
  refine ⟨.ref s1.heap.objs.size, upd H1 s1.heap.objs.size (.lst xs), I1.laid (t' := s1.toks) (fun b u e => Heap.get?_push_of_some _ e) (Nat.le_refl _) ?_, rfl, q _ hf⟩
  exact ⟨z, us, 0, r, Heap.get?_push_size _ rfl⟩
end

/-! ### what a def promises -/
/-- a def's promise: the bound arguments in the parameters' order, the heap, the wanted end, the wanted exception -/
abbrev Sp := List V → Hp → VK → XK → Prop
/-- how an exception lies behind a call (file 08 gives it): the callers' frames, abstract heap and state ahead of the call, the wish, the exception, the state -/
abbrev CXT := List Env → Hp → Shared → XK → Value → Shared → Prop

/-- the state at a call -/
structure Env0 (P : Program) (w : World) (K : PySem.W.Frag) (mg : Str → Option Value) (base : Heap) (A : Around) (outer : List Env) (s : Shared) (H : Hp) : Prop where
  frames : A.frames = some outer
  mod : Mod K mg base
  bs : ∀ b o, base.get? b = some o → s.heap.get? b = some o ∧ H b = none
  bsz : base.objs.size ≤ s.heap.objs.size
  funs : s.heap.FunFrames base outer
  frf : ∀ b ∈ frs outer, H b = none
  hok : HOk P w H s.heap
  bare : AllBare s.gens
/-- a call's end -/
def CE (outer : List Env) (P : Program) (w : World) (H : Hp) (s : Shared) (Q : VK) (u : Value) (s' : Shared) : Prop :=
  ∃ v H', s'.os = s.os ∧ AllBare s'.gens ∧ Un (frs outer) [] H H' s.heap s'.heap ∧ HOk P w H' s'.heap ∧ RelV v u ∧ Q v H'
def CR (CX : CXT) (outer : List Env) (P : Program) (w : World) (H : Hp) (s : Shared) (Q : VK) (E : XK) (r : Result) (s' : Shared) : Prop :=
  match r with
  | .ok (.ret u) => CE outer P w H s Q u s'
  | .ok _ => False
  | .error e => CX outer H s E e s'
structure FnOk (P : Program) (w : World) (K : PySem.W.Frag) (mg : Str → Option Value) (base : Heap) (CX : CXT) (k : Nat) (f : Addr) (fd : FuncData) (ps : List Str) (sp : Sp) : Prop where
  len : ∀ vs H Q E, sp vs H Q E → vs.length = ps.length
  run : ∀ (A : Around) (outer : List Env) (s : Shared) (H : Hp) (args : Args) (us : List Value) (vs : List V) (Q : VK) (E : XK), Room k A → Env0 P w K mg base A outer s H → BindsTo s fd args (ps.zip us) → Vals vs us → sp vs H Q E →
    codeAny (model P w) A (.call (.ref f) args) (CR CX outer P w H s Q E) s
theorem FnOk.mono {P : Program} {w : World} {K : PySem.W.Frag} {mg : Str → Option Value} {base : Heap} {CX : CXT} {j k : Nat} {f : Addr} {fd : FuncData} {ps : List Str} {sp : Sp} (F : FnOk P w K mg base CX j f fd ps sp) (h : j ≤ k) :
    FnOk P w K mg base CX k f fd ps sp := ⟨F.len, fun A outer s H args us vs Q E hr => F.run A outer s H args us vs Q E (hr.mono h)⟩
/-- a weaker promise -/
theorem FnOk.imp {P : Program} {w : World} {K : PySem.W.Frag} {mg : Str → Option Value} {base : Heap} {CX : CXT} {k : Nat} {f : Addr} {fd : FuncData} {ps : List Str} {sp sp' : Sp} (F : FnOk P w K mg base CX k f fd ps sp)
    (h : ∀ vs H Q E, sp' vs H Q E → sp vs H Q E) : FnOk P w K mg base CX k f fd ps sp' :=
  ⟨fun vs H Q E q => F.len vs H Q E (h _ _ _ _ q), fun A outer s H args us vs Q E hr he hb hv hs => F.run A outer s H args us vs Q E hr he hb hv (h _ _ _ _ hs)⟩

theorem Env0.make {P : Program} {w : World} {K : PySem.W.Frag} {mg : Str → Option Value} {base : Heap} {A : Around} {outer : List Env} {s : Shared} {H : Hp} (e : Env0 P w K mg base A outer s H) (C : Addr) (us : List Value) (kw : List (Str × Value)) :
    Env0 P w K mg base (A.under (.builtin "type.__call__" ⟨.ref C :: us, kw⟩)) outer s H := ⟨by first | exact e.frames | (simpa [Around.under, Code.envs, Code.isFrame, pushEnvs] using e.frames), e.mod, e.bs, e.bsz, e.funs, e.frf, e.hok, e.bare⟩
theorem Env0.in1 {P : Program} {w : World} {K : PySem.W.Frag} {mg : Str → Option Value} {base : Heap} {A : Around} {outer : List Env} {s : Shared} {H : Hp} (e : Env0 P w K mg base A outer s H) :
    Env0 P w K mg base A.in1 outer s H := ⟨e.frames, e.mod, e.bs, e.bsz, e.funs, e.frf, e.hok, e.bare⟩

section
variable {X : Cx} {pins : List (Addr × Obj)} {σ : St} {H : Hp} {s s' : Shared}
/-- from a body: what a callee wants -/
theorem Inv.env0 (I : Inv X pins σ H s) : Env0 X.prog X.w X.K X.mg X.base X.A X.stack s H :=
  ⟨I.ok.frames, I.ok.mod, I.bs, Nat.le_trans I.ok.bsz I.sz, I.stack, I.stkFree, I.hok, I.bare⟩
/-- behind a call -/
theorem Inv.after {Q : VK} {u : Value} (I : Inv X pins σ H s) (h : CE X.stack X.prog X.w H s Q u s') : EP X pins σ Q u s' := by
  obtain ⟨v, H', os, bare, un, hok, r, q⟩ := h
  obtain ⟨hh, g, d, t, os'⟩ := s'
  obtain rfl : os' = s.os := os
  exact ⟨v, H', I.call (h' := hh) (g' := g) (d' := d) (t' := t) (ch := []) un hok bare (fun b z => absurd z (by simp)), r, q⟩
end

/-! ### calls -/
/-- f(..): the written arguments, then the defaults dvs; E: what is wanted of an exception -/
def tCall (sp : Sp) (dvs : List V) (E : XK) (t : TA) : TE := fun σ H Q => t σ H fun vs H1 => sp (vs ++ dvs) H1 Q E
/-- o.m(..) of an instance of the class at C -/
def tMeth (C : Addr) (m : Str) (sp : Sp) (dvs : List V) (E : XK) (ta : TE) (t : TA) : TE := fun σ H Q => ta σ H fun x H1 => ∃ a dx fs, x = .ref a ∧ H1 a = some (.ins C dx fs) ∧ fs.lookup m = none ∧
  t σ H1 fun vs H2 => sp (x :: (vs ++ dvs)) H2 Q E
/-- C(..): a new instance and its dict, then __init__ -/
def tMake (C : Addr) (sp : Sp) (dvs : List V) (E : XK) (t : TA) : TE := fun σ H Q => t σ H fun vs H1 => ∀ x dx, H1 x = none → H1 dx = none → dx ≠ x →
  sp (.ref x :: (vs ++ dvs)) (upd (upd H1 dx (.own x)) x (.ins C dx [])) (fun v H2 => v = .non ∧ Q (.ref x) H2) E

/-- how the parameters are bound: us the positional arguments, kw the keywords' values by name, ds the defaults that fill up -/
def Binds (K : PySem.W.Frag) (fd : FuncData) (ps : List Str) (ds : List Value) : Prop :=
  ∀ (s : Shared) (us : List Value), K.In s.heap → (us ++ ds).length = ps.length → BindsTo s fd ⟨us, []⟩ (ps.zip (us ++ ds))
/-- every parameter is given -/
theorem Binds.all {K : PySem.W.Frag} {fd : FuncData} {ps : List Str} (h : ∀ us : List Value, us.length = ps.length → bindArgs fd ⟨us, []⟩ = pure (ps.zip us)) : Binds K fd ps [] := fun s us _ hl => by
  rw [List.append_nil] at hl ⊢
  exact .of_eq (h us hl)

/-- an exception of a callee reaches what this body wants of exceptions -/
def Passes (CX : CXT) (X : Cx) (E : XK) : Prop := ∀ (pins : List (Addr × Obj)) (σ : St) (H : Hp) (s : Shared) (e : Value) (s' : Shared), Inv X pins σ H s → CX X.stack H s E e s' → X.xe e s'

section
variable {X : Cx} {CX : CXT} {k : Nat} {f C : Addr} {fd : FuncData} {ps : List Str} {sp : Sp} {dvs : List V} {ds : List Value} {E : XK} {x m : Str} {p pos apos : Pos} {e o : Expr} {es : List Expr} {ta : TE} {t : TA}

/-- the callee runs -/
theorem run_fn {pins : List (Addr × Obj)} {σ : St} {H : Hp} {s : Shared} {Q : VK} {us : List Value} {vs : List V} (F : FnOk X.prog X.w X.K X.mg X.base CX k f fd ps sp) (hr : Room k X.A) (hb : Binds X.K fd ps ds) (hd : Vals dvs ds) (hx : Passes CX X E)
    (I : Inv X pins σ H s) (r : Vals vs us) (h : sp (vs ++ dvs) H Q E) : wpAny (model X.prog X.w) X.A (call (.ref f) us) (EP X pins σ Q) X.xe s := by
  have r2 : Vals (vs ++ dvs) (us ++ ds) := r.append hd
  have hl : (us ++ ds).length = ps.length := by rw [← r2.length]; exact F.len _ _ _ _ h
  refine wpAny_call (codeAny_mono (F.run X.A X.stack s H ⟨us, []⟩ (us ++ ds) (vs ++ dvs) Q E hr I.env0 (hb s us I.kIn hl) r2 h) fun r s' hq => ?_)
  cases r with
  | error e => exact hx pins σ H s e s' I hq
  | ok fl =>
    cases fl with
    | ret u => exact I.after hq
    | next => exact False.elim hq
    | brk => exact False.elim hq
    | cont => exact False.elim hq

theorem pe_call (F : FnOk X.prog X.w X.K X.mg X.base CX k f fd ps sp) (hr : Room k X.A) (hg : Gl X x) (hm : X.mg x = some (.ref f)) (hk : PySem.W.keepIn X.K (.ref f) = true) (hb : Binds X.K fd ps ds) (hd : Vals dvs ds) (hx : Passes CX X E)
    (ha : PA X (e :: es) t) (hdb : (x == ("__debug__" : Str)) = false := by decide) (he : starEach (e :: es) X.env = (false, eval e X.env) :: starEach es X.env := by rfl) (hpl : (backTo pos (starEach es X.env)).any (·.1) = false := by rfl) :
    PE X (.Call (.Name x p) (e :: es) [] pos) (tCall sp dvs E t) := by
  intro pins s σ H Q I h
  refine wpAny_Call_Name_kw (ld_glob I hg hm ?_ hdb)
  refine PySem.W.callWith_K (h₀ := X.base) I.ok.mod.kin hk (thn (ha pos pins s σ H _ I h) fun us s1 ⟨vs, H1, I1, r, q⟩ => ⟨I1.kIn, ?_⟩) he hpl
  exact run_fn F hr hb hd hx I1 r q
theorem pe_call0 (F : FnOk X.prog X.w X.K X.mg X.base CX k f fd ps sp) (hr : Room k X.A) (hg : Gl X x) (hm : X.mg x = some (.ref f)) (hk : PySem.W.keepIn X.K (.ref f) = true) (hb : Binds X.K fd ps ds) (hd : Vals dvs ds) (hx : Passes CX X E)
    (hdb : (x == ("__debug__" : Str)) = false := by decide) : PE X (.Call (.Name x p) [] [] pos) (tCall sp dvs E tNil) := by
  intro pins s σ H Q I h
  refine wpAny_Call_Name_kw (ld_glob I hg hm ?_ hdb)
  exact PySem.W.callWith_K0 I.kIn hk (run_fn (us := []) F hr hb hd hx I .nil h)

/-- o.m(e, ..) -/
theorem pe_meth {pl : Sem Bool} (he : PE X o ta) (c : Cls X.K C) (hm : Meth X.K C m f) (F : FnOk X.prog X.w X.K X.mg X.base CX k f fd ps sp) (hr : Room k X.A) (hb : Binds X.K fd ps ds) (hd : Vals dvs ds) (hx : Passes CX X E) (ha : PA X (e :: es) t)
    (hst : starEach (e :: es) X.env = (false, eval e X.env) :: starEach es X.env := by rfl) (hpl : (backTo pos (starEach es X.env)).any (·.1) = false := by rfl)
    (ht : eval (.Call (.Attribute o m apos) (e :: es) [] pos) X.env = (do
      let ov ← eval o X.env
      standAt apos.atName
      let (f, first) ← holding [ov] (getMethod ov m pl)
      callWith pos f first (backTo pos (starEach (e :: es) X.env)) (backToKw pos (keywordEach [] X.env))) := by rfl) :
    PE X (.Call (.Attribute o m apos) (e :: es) [] pos) (tMeth C m sp dvs E ta t) := by
  intro pins s σ H Q I h
  refine PySem.W.methodCall_KW (pl := pl) (thn (he pins s σ H _ I h) fun u s1 ⟨x, H1, I1, rx, a, dx, fs, ex, ea, l, q⟩ => ?_) ht
  subst ex
  obtain rfl : u = Value.ref a := rx
  refine getmeth_ok I1 ea c hm l ?_
  refine PySem.W.callWith_K (first := [.ref a]) (h₀ := X.base) I.ok.mod.kin hm.kp (thn (ha pos pins s1 σ H1 _ I1 q) fun us s2 ⟨vs, H2, I2, r, q2⟩ => ⟨I2.kIn, ?_⟩) hst hpl
  exact run_fn (us := .ref a :: us) (vs := .ref a :: vs) F hr hb hd hx I2 (.cons rfl r) q2
/-- o.m() -/
theorem pe_meth0 {pl : Sem Bool} (he : PE X o ta) (c : Cls X.K C) (hm : Meth X.K C m f) (F : FnOk X.prog X.w X.K X.mg X.base CX k f fd ps sp) (hr : Room k X.A) (hb : Binds X.K fd ps ds) (hd : Vals dvs ds) (hx : Passes CX X E)
    (ht : eval (.Call (.Attribute o m apos) [] [] pos) X.env = (do
      let ov ← eval o X.env
      standAt apos.atName
      let (f, first) ← holding [ov] (getMethod ov m pl)
      callWith pos f first (backTo pos (starEach [] X.env)) (backToKw pos (keywordEach [] X.env))) := by rfl) :
    PE X (.Call (.Attribute o m apos) [] [] pos) (tMeth C m sp dvs E ta tNil) := by
  intro pins s σ H Q I h
  refine PySem.W.methodCall_KW (pl := pl) (thn (he pins s σ H _ I h) fun u s1 ⟨x, H1, I1, rx, a, dx, fs, ex, ea, l, q⟩ => ?_) ht
  subst ex
  obtain rfl : u = Value.ref a := rx
  refine getmeth_ok I1 ea c hm l ?_
  exact PySem.W.callWith_K0 (first := [.ref a]) I1.kIn hm.kp (run_fn (us := [.ref a]) (vs := [.ref a]) F hr hb hd hx I1 (.cons rfl .nil) q)

/-- what a class must have to be made -/
structure Mk (K : PySem.W.Frag) (C f : Addr) : Prop where
  makes : PySem.W.makesIn K C = true
  init : PySem.W.findIn K (.ref C) "__init__" = some (some (.ref f))
  fn : PySem.W.isFn K (.ref f) = true
  kp : PySem.W.keepIn K (.ref C) = true

theorem run_make {pins : List (Addr × Obj)} {σ : St} {H : Hp} {s : Shared} {Q : VK} {us : List Value} {vs : List V} (M : Mk X.K C f) (F : FnOk X.prog X.w X.K X.mg X.base CX k f fd ps sp) (hr : Room (k + 1) X.A) (hb : Binds X.K fd ps ds) (hd : Vals dvs ds)
    (hx : Passes CX X E) (I : Inv X pins σ H s) (r : Vals vs us)
    (h : ∀ x dx, H x = none → H dx = none → dx ≠ x → sp (.ref x :: (vs ++ dvs)) (upd (upd H dx (.own x)) x (.ins C dx [])) (fun v H2 => v = .non ∧ Q (.ref x) H2) E) :
    wpAny (model X.prog X.w) X.A (call (.ref C) us) (EP X pins σ Q) X.xe s := by
  have hq := h (s.heap.objs.size + 1) s.heap.objs.size (I.hok.fresh (Nat.le_succ _)) (I.hok.fresh (Nat.le_refl _)) (Nat.ne_of_lt (Nat.lt_succ_self _))
  have I2 := Inv.made (C := C) I
  have r2 : Vals (V.ref (s.heap.objs.size + 1) :: (vs ++ dvs)) (Value.ref (s.heap.objs.size + 1) :: (us ++ ds)) := .cons rfl (r.append hd)
  have hl : (Value.ref (s.heap.objs.size + 1) :: us ++ ds).length = ps.length := by
    have e := r2.length
    rw [F.len _ _ _ _ hq] at e
    exact e.symm
  refine wpAny_call (make_map (f := f) I.kIn M.makes M.init (beq_iff_eq.mp M.fn) (codeAny_mono (F.run _ X.stack _ _ ⟨Value.ref (s.heap.objs.size + 1) :: us, []⟩ (Value.ref (s.heap.objs.size + 1) :: (us ++ ds)) _ _ E (hr.make C us [])
    (I2.env0.make C us []) (hb _ (Value.ref (s.heap.objs.size + 1) :: us) I2.kIn hl) r2 hq) fun r s' hq' => ?_))
  cases r with
  | error e => exact hx pins σ _ _ e s' I2 hq'
  | ok fl =>
    cases fl with
    | ret u =>
      obtain ⟨v, H', I3, rv, ev, q3⟩ := I2.after hq'
      subst ev
      exact ⟨rv, ⟨V.ref (s.heap.objs.size + 1), H', I3, rfl, q3⟩⟩
    | next => exact False.elim hq'
    | brk => exact False.elim hq'
    | cont => exact False.elim hq'
theorem pe_make (M : Mk X.K C f) (F : FnOk X.prog X.w X.K X.mg X.base CX k f fd ps sp) (hr : Room (k + 1) X.A) (hg : Gl X x) (hm : X.mg x = some (.ref C)) (hb : Binds X.K fd ps ds) (hd : Vals dvs ds) (hx : Passes CX X E)
    (ha : PA X (e :: es) t) (hdb : (x == ("__debug__" : Str)) = false := by decide) (he : starEach (e :: es) X.env = (false, eval e X.env) :: starEach es X.env := by rfl) (hpl : (backTo pos (starEach es X.env)).any (·.1) = false := by rfl) :
    PE X (.Call (.Name x p) (e :: es) [] pos) (tMake C sp dvs E t) := by
  intro pins s σ H Q I h
  refine wpAny_Call_Name_kw (ld_glob I hg hm ?_ hdb)
  refine PySem.W.callWith_K (h₀ := X.base) I.ok.mod.kin M.kp (thn (ha pos pins s σ H _ I h) fun us s1 ⟨vs, H1, I1, r, q⟩ => ⟨I1.kIn, ?_⟩) he hpl
  exact run_make M F hr hb hd hx I1 r q
theorem pe_make0 (M : Mk X.K C f) (F : FnOk X.prog X.w X.K X.mg X.base CX k f fd ps sp) (hr : Room (k + 1) X.A) (hg : Gl X x) (hm : X.mg x = some (.ref C)) (hb : Binds X.K fd ps ds) (hd : Vals dvs ds) (hx : Passes CX X E)
    (hdb : (x == ("__debug__" : Str)) = false := by decide) : PE X (.Call (.Name x p) [] [] pos) (tMake C sp dvs E tNil) := by
  intro pins s σ H Q I h
  refine wpAny_Call_Name_kw (ld_glob I hg hm ?_ hdb)
  exact PySem.W.callWith_K0 I.kIn M.kp (run_make (us := []) M F hr hb hd hx I .nil h)
end

/-! ### keywords -/
/-- the values of the keywords, from the left -/
def PK (X : Cx) (kws : List Keyword) (t : TA) : Prop :=
  ∀ (pos : Pos) (pins : List (Addr × Obj)) (s : Shared) (σ : St) (H : Hp) (Q : List V → Hp → Prop), Inv X pins σ H s → t σ H Q → wpAny (model X.prog X.w) X.A (evalAll ((backToKw pos (keywordEach kws X.env)).map (·.2))) (AP X pins σ Q) X.xe s
section
variable {X : Cx} {CX : CXT} {k : Nat} {f C : Addr} {fd : FuncData} {ps ks : List Str} {sp : Sp} {E : XK} {x m : Str} {p pos apos kpos : Pos} {e o : Expr} {es : List Expr} {kws : List Keyword} {te ta : TE} {t tk : TA} {nm : Option Str}
theorem pk_nil : PK X [] tNil := fun _ _ _ _ H Q I h => wpAny_evalAll_nil ⟨[], H, I, .nil, h⟩
theorem pk_cons (ha : PE X e te) (hr : PK X kws t) : PK X (⟨nm, e, kpos⟩ :: kws) (tCons te t) := by
  intro pos pins s σ H Q I h
  show wpAny _ _ (evalAll ((do let v ← eval e X.env; standAt pos; pure v) :: (backToKw pos (keywordEach kws X.env)).map (·.2))) _ _ s
  refine wpAny_evalAll_cons (wpAny_bind (thn (ha pins s σ H _ I h) fun u s1 ⟨x, H1, I1, r1, q1⟩ => wpAny_bind (wpAny_standAt (wpAny_pure ?_))))
  exact thn (hr pos pins s1 σ H1 _ I1 q1) fun us s2 ⟨xs, H2, I2, r2, q2⟩ => ⟨x :: xs, H2, I2, .cons r1 r2, q2⟩

/-- how a call with keywords binds: g puts the positional values us and the keywords' values ws (names ks) in the parameters' order, defaults among them -/
structure KBinds (K : PySem.W.Frag) (fd : FuncData) (ps ks : List Str) (g : List Value → List Value → List Value) (gV : List V → List V → List V) : Prop where
  to : ∀ (s : Shared) (us ws : List Value), K.In s.heap → (g us ws).length = ps.length → BindsTo s fd ⟨us, ks.zip ws⟩ (ps.zip (g us ws))
  rel : ∀ {vs : List V} {us : List Value} {zs : List V} {ws : List Value}, Vals vs us → Vals zs ws → Vals (gV vs zs) (g us ws)
def tCallK (sp : Sp) (gV : List V → List V → List V) (E : XK) (t tk : TA) : TE := fun σ H Q => t σ H fun vs H1 => tk σ H1 fun zs H2 => sp (gV vs zs) H2 Q E
variable {g : List Value → List Value → List Value} {gV : List V → List V → List V}
theorem run_fnk {pins : List (Addr × Obj)} {σ : St} {H : Hp} {s : Shared} {Q : VK} {us ws : List Value} {vs zs : List V} (F : FnOk X.prog X.w X.K X.mg X.base CX k f fd ps sp) (hr : Room k X.A) (hb : KBinds X.K fd ps ks g gV) (hx : Passes CX X E)
    (I : Inv X pins σ H s) (r : Vals vs us) (rz : Vals zs ws) (h : sp (gV vs zs) H Q E) : wpAny (model X.prog X.w) X.A (call (.ref f) us (ks.zip ws)) (EP X pins σ Q) X.xe s := by
  have r2 := hb.rel r rz
  have hl : (g us ws).length = ps.length := by rw [← r2.length]; exact F.len _ _ _ _ h
  refine wpAny_call (codeAny_mono (F.run X.A X.stack s H ⟨us, ks.zip ws⟩ (g us ws) (gV vs zs) Q E hr I.env0 (hb.to s us ws I.kIn hl) r2 h) fun r s' hq => ?_)
  cases r with
  | error e => exact hx pins σ H s e s' I hq
  | ok fl =>
    cases fl with
    | ret u => exact I.after hq
    | next => exact False.elim hq
    | brk => exact False.elim hq
    | cont => exact False.elim hq
/-- f(e, .., k = v, ..) -/
theorem pe_callK (F : FnOk X.prog X.w X.K X.mg X.base CX k f fd ps sp) (hr : Room k X.A) (hg : Gl X x) (hm : X.mg x = some (.ref f)) (hk : PySem.W.keepIn X.K (.ref f) = true) (hb : KBinds X.K fd ps ks g gV) (hx : Passes CX X E)
    (ha : PA X (e :: es) t) (hkw : PK X kws tk) (hall : (backToKw pos (keywordEach kws X.env)).all (·.1.isSome) = true := by rfl) (hks : (backToKw pos (keywordEach kws X.env)).filterMap (·.1) = ks := by rfl)
    (hdb : (x == ("__debug__" : Str)) = false := by decide) (he : starEach (e :: es) X.env = (false, eval e X.env) :: starEach es X.env := by rfl)
    (hpl : ((backTo pos (starEach (e :: es) X.env)).any (·.1) || (backToKw pos (keywordEach kws X.env)).any (·.1.isNone)) = false := by rfl) :
    PE X (.Call (.Name x p) (e :: es) kws pos) (tCallK sp gV E t tk) := by
  intro pins s σ H Q I h
  refine wpAny_Call_Name_kw (ld_glob I hg hm ?_ hdb)
  refine PySem.W.callWith_KW (h₀ := X.base) I.ok.mod.kin hk hall (thn (ha pos pins s σ H _ I h) fun us s1 ⟨vs, H1, I1, r, q⟩ => ?_) hpl he
  refine thn (hkw pos pins s1 σ H1 _ I1 q) fun ws s2 ⟨zs, H2, I2, rz, q2⟩ => ⟨I2.kIn, ?_⟩
  rw [hks]
  exact run_fnk F hr hb hx I2 r rz q2
end

/-! ### a def's body keeps its promise -/
/-- names: the parameters first -/
structure FnScope (N P : List Str) (sc : Scope) : Prop where
  kind : sc.kind = .function
  co : sc.isCoroutine = false
  gen : sc.isGenerator = false
  nd : N.Nodup
  pre : N.take P.length = P
  par : ∀ x ∈ P, sc.names.lookup x = some .local ∨ sc.names.lookup x = some .cell
  nofree : ∀ y ∈ sc.names, y.2 ≠ .free

theorem bindL_out {kindOf : Str → Option NameKind} {x : Str} : ∀ {binds : List (Str × Value)} {m : Str → Option Value}, (∀ v, (x, v) ∉ binds) → bindL kindOf binds m x = m x
  | [], _, _ => rfl
  | (n, v) :: r, m, h => by
    unfold bindL
    rw [bindL_out fun w hw => h w (List.mem_cons_of_mem _ hw)]
    split
    · have : x ≠ n := by rintro rfl; exact h v List.mem_cons_self
      simp [this]
    · rfl
theorem bindC_out {kindOf : Str → Option NameKind} {x : Str} : ∀ {binds : List (Str × Value)} {m : Str → Option Value}, (∀ v, (x, v) ∉ binds) → bindC kindOf binds m x = m x
  | [], _, _ => rfl
  | (n, v) :: r, m, h => by
    unfold bindC
    rw [bindC_out fun w hw => h w (List.mem_cons_of_mem _ hw)]
    split
    · rfl
    · have : x ≠ n := by rintro rfl; exact h v List.mem_cons_self
      simp [this]
theorem bindL_get {kindOf : Str → Option NameKind} {x : Str} {v : Value} : ∀ {P : List Str} {vs : List Value} {i : Nat} {m : Str → Option Value}, P.Nodup → P[i]? = some x → vs[i]? = some v → kindOf x = some .local →
    bindL kindOf (P.zip vs) m x = some v
  | [], _, _, _, _, h, _, _ => by simp at h
  | _ :: _, [], _, _, _, _, h, _ => by simp at h
  | p :: P, w :: vs, 0, m, nd, h1, h2, hk => by
    simp at h1 h2; subst h1; subst h2
    show bindL kindOf ((p, w) :: P.zip vs) m p = _
    unfold bindL
    rw [bindL_out fun v hv => (List.nodup_cons.mp nd).1 (List.of_mem_zip hv).1, if_pos hk]
    simp
  | p :: P, w :: vs, i + 1, m, nd, h1, h2, hk => by
    show bindL kindOf ((p, w) :: P.zip vs) m x = _
    unfold bindL
    exact bindL_get (i := i) (List.nodup_cons.mp nd).2 (by simpa using h1) (by simpa using h2) hk
theorem bindC_get {kindOf : Str → Option NameKind} {x : Str} {v : Value} : ∀ {P : List Str} {vs : List Value} {i : Nat} {m : Str → Option Value}, P.Nodup → P[i]? = some x → vs[i]? = some v → kindOf x ≠ some .local →
    bindC kindOf (P.zip vs) m x = some v
  | [], _, _, _, _, h, _, _ => by simp at h
  | _ :: _, [], _, _, _, _, h, _ => by simp at h
  | p :: P, w :: vs, 0, m, nd, h1, h2, hk => by
    simp at h1 h2; subst h1; subst h2
    show bindC kindOf ((p, w) :: P.zip vs) m p = _
    unfold bindC
    rw [bindC_out fun v hv => (List.nodup_cons.mp nd).1 (List.of_mem_zip hv).1, if_neg hk]
    simp
  | p :: P, w :: vs, i + 1, m, nd, h1, h2, hk => by
    show bindC kindOf ((p, w) :: P.zip vs) m x = _
    unfold bindC
    exact bindC_get (i := i) (List.nodup_cons.mp nd).2 (by simpa using h1) (by simpa using h2) hk

/-- the names' values at the entry -/
def start (N : List Str) (vs : List V) : St := vs.map some ++ List.replicate (N.length - vs.length) none

/-- the context of a def's body, at its entry; an exception leaves the frame, then lies as CX says -/
def cxOf (CX : CXT) (P : Program) (w : World) (K : PySem.W.Frag) (mg : Str → Option Value) (base : Heap) (N : List Str) (qual : Str) (scope : Scope) (f : Addr) (cd : Value) (A : Around) (outer : List Env) (s : Shared) (H : Hp) (E : XK) : Cx where
  prog := P
  w := w
  K := K
  mg := mg
  base := base
  A := A.deeper (envOfC qual scope s.heap.objs.size f cd)
  N := N
  s₀ := s
  H₀ := H
  env := envOfC qual scope s.heap.objs.size f cd
  outer := outer
  stack := envOfC qual scope s.heap.objs.size f cd :: outer
  ex := []
  calm := true
  fn := fun _ => true
  pn := []
  xe := fun e s' => wpAny (model P w) (A.deeper (envOfC qual scope s.heap.objs.size f cd)) (leaving (envOfC qual scope s.heap.objs.size f cd) e) (fun _ s'' => CX outer H s E e s'') (fun e' s'' => CX outer H s E e' s'') s'

theorem cell_has {sc : Scope} {n : Nat} {x : Str} (h : sc.names.lookup x = some .cell) : ∃ c, (cellsFrom n sc.names []).lookup x = some c := by
  have q := PySem.W.cellsFrom_some sc.names n [] (.inl h)
  exact Option.isSome_iff_exists.mp q

theorem inv_start {CX : CXT} {P : Program} {w : World} {K : PySem.W.Frag} {mg : Str → Option Value} {base : Heap} {N ps : List Str} {qual : Str} {scope : Scope} {f : Addr} {cd : Value} {A : Around} {outer : List Env} {s s1 : Shared} {H : Hp} {E : XK} {us : List Value} {vs : List V}
    (S : FnScope N ps scope) (hd : A.handled = none) (e0 : Env0 P w K mg base A outer s H) (hl : vs.length = ps.length) (r : Vals vs us)
    (x : InCallC s s.heap.objs.size (bindL (envOfC qual scope s.heap.objs.size f cd).kindOf (ps.zip us) fun _ => none) (cellsFrom (s.heap.objs.size + 1) scope.names []) (bindC (envOfC qual scope s.heap.objs.size f cd).kindOf (ps.zip us) fun _ => none) s1) :
    Inv (cxOf CX P w K mg base N qual scope f cd A outer s H E) [] (start N vs) H s1 := by
  have hpl : ps.length ≤ N.length := by have := congrArg List.length S.pre; rw [List.length_take] at this; omega
  obtain ⟨h1, tk, rfl, hk⟩ := x.done
  have noA : ∀ b : Addr, b ∉ (cxOf CX P w K mg base N qual scope f cd A outer s H E).ex := fun b z => absurd (show b ∈ ([] : List Addr) from z) (by simp)
  refine ⟨⟨e0.mod, S.kind, rfl, rfl, Nat.le_refl _, fun y z c h1 h2 => ?_, fun y hy => ?_, fun y c _ h => ?_, fun _ => hd, Around.frames_deeper e0.frames, .inr ⟨rfl, rfl⟩, fun b z => absurd z (noA b), e0.bs, e0.bsz, fun b _ _ => noA b, fun b z => absurd z (noA b), e0.funs, e0.frf⟩,
    rfl, e0.bare, Un.kept hk, ⟨_, x.toInCall.ns, fun i y v h1 h2 h3 => ?_⟩, fun y c h => ⟨_, x.cell y c h⟩, e0.hok.fresh (Nat.le_refl _), fun y c h => ?_, fun p hp => absurd (show p ∈ ([] : List (Addr × Obj)) from hp) (by simp), e0.hok.kept hk, ?_⟩
  · exact name_of_addr x.apart (PySem.mem_of_lookup h1) (PySem.mem_of_lookup h2)
  · have hy : scope.names.lookup y = some .cell ∨ scope.names.lookup y = some .free := hy
    rcases hy with hy | hy
    · exact cell_has hy
    · exact absurd rfl (S.nofree _ (PySem.mem_of_lookup hy))
  · exact Nat.le_of_lt (x.above y c (PySem.mem_of_lookup h))
  · have hi : i < vs.length := by
      unfold start at h2
      by_cases hi : i < vs.length
      · exact hi
      · rw [List.getElem?_append_right (by simpa using hi)] at h2
        rw [List.getElem?_replicate] at h2
        split at h2 <;> cases h2
    have ha : vs[i]? = some v := by
      unfold start at h2
      rw [List.getElem?_append_left (by simpa using hi), List.getElem?_map] at h2
      cases e : vs[i]? with
      | none => rw [e] at h2; cases h2
      | some a => rw [e] at h2; cases h2; rfl
    obtain ⟨u, hu, rv⟩ := r.get ha
    have hp : ps[i]? = some y := by
      rw [← S.pre, List.getElem?_take_of_lt (by omega)]; exact h1
    have ndP : ps.Nodup := by rw [← S.pre]; exact S.nd.sublist (List.take_sublist _ _)
    refine ⟨u, rv, ?_⟩
    rcases S.par y (List.mem_of_getElem? hp) with k | k
    · exact .inl ⟨k, bindL_get ndP hp hu k⟩
    · obtain ⟨c, e⟩ := cell_has (n := s.heap.objs.size + 1) k
      refine .inr ⟨.inl k, c, e, ?_⟩
      have q := x.cell y c e
      rw [bindC_get ndP hp hu (by show scope.names.lookup y ≠ _; rw [k]; decide)] at q
      exact q
  · exact e0.hok.fresh (Nat.le_of_lt (x.above y c (PySem.mem_of_lookup h)))
  · unfold start
    show _ = N.length
    rw [List.length_append, List.length_map, List.length_replicate]
    omega

/-- THE RULE: a def (or a method) of the text, by its body. The body's reading t is chosen for each entry; it is run at the parameters' values -/
theorem fn_of {CX : CXT} {P : Program} {w : World} {K : PySem.W.Frag} {mg : Str → Option Value} {base : Heap} {k : Nat} {f : Addr} {name qual : Str} {params : Arguments} {body : List Stmt} {scope : Scope} {dV kV doc pm cdv ct oc : Value} {an od : Option Addr}
    {osl : Array (Option Value)} {N ps : List Str} {sp : Sp} (lk : K.lookup f = some ⟨oc, od, .func (PySem.W.fnOf name qual params body scope dV kV doc pm an cdv ct), osl⟩) (hcd : PySem.W.codeIn K cdv qual = true) (S : FnScope N ps scope)
    (len : ∀ vs H Q E, sp vs H Q E → vs.length = ps.length)
    (hbody : ∀ (A : Around) (outer : List Env) (s : Shared) (H : Hp) (vs : List V) (Q : VK) (E : XK), Room k (A.deeper (envOfC qual scope s.heap.objs.size f cdv)) → sp vs H Q E →
      ∃ t, PSs (cxOf CX P w K mg base N qual scope f cdv A outer s H E) body t ∧ t { nx := fun _ H' => Q .non H', rt := Q } (start N vs) H) :
    FnOk P w K mg base CX (k + 1) f (PySem.W.fnOf name qual params body scope dV kV doc pm an cdv ct) ps sp := by
  refine ⟨len, fun A outer s H args us vs Q E hr e0 hb r hsp => ?_⟩
  have hl := len _ _ _ _ hsp
  have KX : K.In s.heap := e0.mod.kin.keeps fun b o e => (e0.bs b o e).1
  have lim : s.heap.NoLimit := e0.mod.nolimit.keeps fun b o e => (e0.bs b o e).1
  have hkind : ∀ y ∈ ps.zip us, scope.names.lookup y.1 = some .local ∨ (scope.names.lookup y.1 = some .cell ∧ ((cellsFrom (s.heap.objs.size + 1) scope.names []).lookup y.1).isSome = true) := fun ⟨n, v⟩ hy => by
    rcases S.par n (List.of_mem_zip hy).1 with q | q
    · exact .inl q
    · exact .inr ⟨q, PySem.W.cellsFrom_some _ _ _ (.inl q)⟩
  refine codeAny_call_function hr.depth (KX _ _ lk) rfl S.co S.gen rfl (PySem.W.codeRec_of KX hcd) (hb _ _ _ _ ?_)
  refine wpAny_newFunctionEnv_cells S.kind hkind fun env he s1 x => ?_
  subst he
  refine ⟨lim.keeps x.toInCall.keep, codeAny_func ?_⟩
  obtain ⟨t, ht, hq⟩ := hbody A outer s H vs Q E (hr.deeper _) hsp
  have I : Inv (cxOf CX P w K mg base N qual scope f cdv A outer s H E) [] (start N vs) H s1 := inv_start S hr.hd e0 hl r x
  refine wpAny_mono (ht [] s1 (start N vs) H _ I hq) (fun fl s' hs => ?_) fun e s' hs => hs
  have fin : ∀ {σ' : St} {H' : Hp} {v : V} {u : Value}, Inv (cxOf CX P w K mg base N qual scope f cdv A outer s H E) [] σ' H' s' → RelV v u → Q v H' → CE outer P w H s Q u s' :=
    fun {σ' H' v u} J rv q => ⟨v, H', J.os, J.bare, J.base, J.hok, rv, q⟩
  cases fl with
  | ret u =>
    obtain ⟨v, σ', H', J, rv, q⟩ := hs
    exact fin J rv q
  | next =>
    obtain ⟨σ', H', J, q⟩ := hs
    exact fin (v := V.non) (u := Value.none) J rfl q
  | brk =>
    obtain ⟨_, _, _, q⟩ := hs
    exact False.elim q
  | cont =>
    obtain ⟨_, _, _, q⟩ := hs
    exact False.elim q
end L2

namespace L2
open PySem PySem.Spec PyProof.Rows
section
variable {X : Cx} {x : Str} {p pos : Pos} {e : Expr} {es : List Expr} {t : TA} {id T : String} {r : List V → Hp → VK → Prop}

def tCB (r : List V → Hp → VK → Prop) (t : TA) : TE := fun σ H Q => t σ H fun vs H1 => r vs H1 Q
/-- f(e, ..), f a built-in function -/
theorem pe_callB (hc : CallR X (.builtin id) r) (hg : Gl X x) (hm : X.mg x = none) (hv : bootBuiltins x = some (.builtin id)) (ha : PA X (e :: es) t) (hn : x ≠ "__name__" := by decide) (hdb : (x == ("__debug__" : Str)) = false := by decide)
    (he : starEach (e :: es) X.env = (false, eval e X.env) :: starEach es X.env := by rfl) (hpl : (backTo pos (starEach es X.env)).any (·.1) = false := by rfl) : PE X (.Call (.Name x p) (e :: es) [] pos) (tCB r t) := by
  intro pins s σ H Q I h
  refine wpAny_Call_Name_kw (ld_blt I hg hm hv ?_ hn hdb)
  exact PyProof.Rows.callWith_builtin1 (thn (ha pos pins s σ H _ I h) fun us s1 ⟨vs, H1, I1, r1, q1⟩ => hc pins s1 σ H1 vs us Q I1 r1 q1) he hpl
/-- T(e, ..), T a built-in type -/
theorem pe_callTy (hc : CallR X (.type T) r) (hg : Gl X x) (hm : X.mg x = none) (hv : bootBuiltins x = some (.type T)) (ha : PA X (e :: es) t) (hn : x ≠ "__name__" := by decide) (hdb : (x == ("__debug__" : Str)) = false := by decide)
    (he : starEach (e :: es) X.env = (false, eval e X.env) :: starEach es X.env := by rfl) (hpl : (backTo pos (starEach es X.env)).any (·.1) = false := by rfl) : PE X (.Call (.Name x p) (e :: es) [] pos) (tCB r t) := by
  intro pins s σ H Q I h
  refine wpAny_Call_Name_kw (ld_blt I hg hm hv ?_ hn hdb)
  exact PyProof.Rows.callWith_type1 (thn (ha pos pins s σ H _ I h) fun us s1 ⟨vs, H1, I1, r1, q1⟩ => hc pins s1 σ H1 vs us Q I1 r1 q1) he hpl
/-- T() -/
theorem pe_callTy0 (hc : CallR X (.type T) r) (hg : Gl X x) (hm : X.mg x = none) (hv : bootBuiltins x = some (.type T)) (hn : x ≠ "__name__" := by decide) (hdb : (x == ("__debug__" : Str)) = false := by decide) :
    PE X (.Call (.Name x p) [] [] pos) (tCB r tNil) := by
  intro pins s σ H Q I h
  refine wpAny_Call_Name_kw (ld_blt I hg hm hv ?_ hn hdb)
  exact PyProof.Rows.callWith_type0 (hc pins s σ H [] [] Q I .nil h)
end
end L2

namespace HT
open PySem PyProof.Rows

/-- t < u of tuples of ints -/
def lexLt : List Int → List Int → Bool
  | [], [] => false
  | [], _ :: _ => true
  | _ :: _, [] => false
  | x :: xs, y :: ys => if x = y then lexLt xs ys else decide (x < y)
theorem lexLt_cons (x y : Int) (xs ys : List Int) : lexLt (x :: xs) (y :: ys) = if x = y then lexLt xs ys else decide (x < y) := rfl
theorem lexLt_nil_nil : lexLt [] [] = false := rfl
theorem lexLt_nil_cons (y : Int) (ys : List Int) : lexLt [] (y :: ys) = true := rfl
theorem lexLt_cons_nil (x : Int) (xs : List Int) : lexLt (x :: xs) [] = false := rfl

theorem eqAt_int (A : Around) (s : Shared) (a : Int) (t : Tok) (c : Int) (u : Tok) : ∃ e, SeqAt.EqAt A s (.int a t) (.int c u) e ∧ (e = true ↔ a = c) :=
  ⟨(a == c), SeqAt.EqAt.int_int a t c u, by simp⟩
theorem rcLt_int (A : Around) (s : Shared) (a : Int) (t : Tok) (c : Int) (u : Tok) (prog : Program) (w : World) (E : Value → Shared → Prop) (Q : Value → Shared → Prop) (h : Q (.bool (decide (a < c))) s) :
    wpAny (model prog w) A (richCompare .Lt (.int a t) (.int c u)) Q E s :=
  (PyProof.Rows.lt_int h : wpAny (model prog w) A (compareOp .Lt (.int a t) (.int c u)) Q E s)

section
open PySem.SeqAt
open PySem.AutoSeq1 (wpAny_loadPart')
open PySem.MeetsSeq PySem.MeetsSeq2 PySem.MeetsSeq3

theorem tuple_lt_ints (l b : Addr) (items items2 : Array Value) (n n2 : Nat) (dd dd2 : Option Addr) (sl sl2 : Array (Option Value)) (ns ms : List Int) (hi : IntsAre items.toList ns) (hj : IntsAre items2.toList ms) :
    Meets (Builtin.«tuple.__lt__» ⟨[.ref l, .ref b], []⟩)
      (fun _ R s => s.heap.get? l = some { cls := .type "tuple", dict := dd, data := .seq items n, slots := sl } ∧ s.heap.get? b = some { cls := .type "tuple", dict := dd2, data := .seq items2 n2, slots := sl2 } ∧
        R (.ok (.ret (.bool (lexLt ns ms)))) s) :=
  .of_wp fun prog w A R s h => by
    obtain ⟨hp, g, d, tk, os⟩ := s; obtain ⟨hl, hb, h⟩ := h
    have f2 := AutoSeq1.sub_tuple_tuple
    have z1 : items.size = ns.length := by rw [← hi.length]; simp
    have z2 : items2.size = ms.length := by rw [← hj.length]; simp
    wp_walk using wpAny_loadPart' hl, wpAny_loadPart' hb, wpAny_forIn_list _ (fun rest b s' => b.1 = none ∧ s' = ⟨hp, g, d, tk, os⟩ ∧ ∃ (vs ws : List Value) (ns' ms' : List Int), rest = vs.zip ws ∧
      IntsAre vs ns' ∧ IntsAre ws ms' ∧ ns'.length + items2.size = ms'.length + items.size ∧ R (.ok (.ret (.bool (lexLt ns' ms')))) ⟨hp, g, d, tk, os⟩) _
    case turn =>
      rintro ⟨y, x⟩ rest b s' ⟨hb', rfl, vs, ws, ns', ms', hz, hvi, hwi, hlen, hR⟩
      cases hvi with
      | nil => rw [List.zip_nil_left] at hz; cases hz
      | cons a t hvi' =>
        cases hwi with
        | nil => rw [List.zip_nil_right] at hz; cases hz
        | cons c u hwi' =>
          rw [List.zip_cons_cons] at hz
          injection hz with hyx hrest
          injection hyx with hy hx
          subst hy hx
          rw [lexLt_cons] at hR
          simp only [List.length_cons] at hlen
          obtain ⟨e, he, hiff⟩ := eqAt_int A.in1 ⟨hp, g, d, tk, os⟩ a t c u
          refine wpAny_bind (he prog w _ _ ?_)
          cases e with
          | true =>
            rw [if_pos (hiff.mp rfl)] at hR
            wp_walk
            exact ⟨rfl, rfl, _, _, _, _, hrest, hvi', hwi', by omega, hR⟩
          | false =>
            rw [if_neg (fun q => absurd (hiff.mpr q) Bool.false_ne_true)] at hR
            have hri := rcLt_int A.in1 ⟨hp, g, d, tk, os⟩ a t c u prog w
            wp_walk using hri
            exact ⟨_, rfl, by simpa using hR⟩
    case fin =>
      rintro ⟨b1, b2⟩ s' ⟨hb', rfl, vs, ws, ns', ms', hz, hvi, hwi, hlen, hR⟩
      simp only at hb'
      subst hb'
      have hv : lexLt ns' ms' = decide (items.size < items2.size) := by
        cases hvi with
        | nil =>
          cases hwi with
          | nil =>
            simp only [List.length_nil] at hlen
            rw [lexLt_nil_nil]
            exact (decide_eq_false (by omega)).symm
          | cons c u hw =>
            simp only [List.length_nil, List.length_cons] at hlen
            rw [lexLt_nil_cons]
            exact (decide_eq_true (by omega)).symm
        | cons a t hv =>
          cases hwi with
          | nil =>
            simp only [List.length_nil, List.length_cons] at hlen
            rw [lexLt_cons_nil]
            exact (decide_eq_false (by omega)).symm
          | cons c u hw =>
            rw [List.zip_cons_cons] at hz
            cases hz
      rw [hv] at hR
      wp_walk
      exact ⟨_, rfl, by simpa [Builtin.Tuple.tupleCompareSizes] using hR⟩
    case h =>
      exact ⟨rfl, rfl, items.toList, items2.toList, ns, ms, rfl, hi, hj, by omega, h⟩
end

section
variable {prog : Program} {w : World} {A : Around} {E : Value → Shared → Prop} {s : Shared}

theorem lt_tupInts {l b : Addr} {items items2 : Array Value} {ns ms : List Int} {Q : Value → Shared → Prop} (hl : IsTup s.heap l items) (hb : IsTup s.heap b items2) (hi : IntsAre items.toList ns) (hj : IntsAre items2.toList ms)
    (hu : A.units < cLine) (h : Q (.bool (lexLt ns ms)) s) : wpAny (model prog w) A (compareOp .Lt (.ref l) (.ref b)) Q E s := by
  obtain ⟨⟨cls, dd, data, sl⟩, ho, hc, n, hd⟩ := id hl
  obtain ⟨⟨cls2, dd2, data2, sl2⟩, ho2, hc2, n2, hd2⟩ := id hb
  simp only at hc hd hc2 hd2
  subst hc hd hc2 hd2
  exact richCompare_meets_room (op := .Lt) ⟨_, ho, rfl⟩ ⟨_, ho2, rfl⟩ PySem.F.slot_tuple_lt PySem.F.entry_tuple_lt (PySem.F.args_tuple_lt_2 _ _) (tuple_lt_ints l b items items2 n n2 dd dd2 sl sl2 ns ms hi hj)
    ⟨ho, ho2, show Value.bool (lexLt ns ms) ≠ Value.notImplemented ∧ Q (.bool (lexLt ns ms)) s from ⟨(fun x => nomatch x), h⟩⟩ hu

/-- t + u, t not empty -/
theorem cat_tup {t b : Addr} {vs ws : List Value} {Q : Value → Shared → Prop} (ht : IsTup s.heap t vs.toArray) (hb : IsTup s.heap b ws.toArray) (hv : vs ≠ [])
    (h1 : ws = [] → Q (.ref t) s) (h2 : ws ≠ [] → Q (.ref s.heap.objs.size) { s with heap := s.heap.push { cls := .type "tuple", data := .seq (vs ++ ws).toArray } })
    (hsz : vs.length + ws.length ≤ sizeLine) : wpAny (model prog w) A (binaryOp .Add (.ref t) (.ref b)) Q E s := by
  obtain ⟨⟨cls, dd, data, sl⟩, ho, hc, n, hd⟩ := id ht
  obtain ⟨⟨cls2, dd2, data2, sl2⟩, ho2, hc2, n2, hd2⟩ := id hb
  simp only at hc hd hc2 hd2
  subst hc hd hc2 hd2
  have e : vs.toArray ++ ws.toArray = (vs ++ ws).toArray := by simp
  by_cases hw : ws = []
  · exact concat_meets ⟨_, ho, rfl⟩ ⟨_, ho2, rfl⟩ noFill_tuple_add seq_tuple_add PySem.F.slot_tuple_add PySem.F.entry_tuple_add (PySem.F.args_tuple_add_2 _ _)
      (tuple_addW1 t b vs.toArray ws.toArray n n2 dd dd2 sl sl2 (by simpa using hv) (by simp [hw])) ⟨ho, ho2, h1 hw⟩
  · refine concat_meets ⟨_, ho, rfl⟩ ⟨_, ho2, rfl⟩ noFill_tuple_add seq_tuple_add PySem.F.slot_tuple_add PySem.F.entry_tuple_add (PySem.F.args_tuple_add_2 _ _)
      (tuple_addW2 t b vs.toArray ws.toArray n n2 dd dd2 sl sl2 (by simpa using hv) (by simpa using hw) (by rw [List.size_toArray, List.size_toArray]; exact hsz)) ⟨ho, ho2, ?_⟩
    rw [e]
    exact h2 hw

/-! ### t[a:b], not the whole -/
/-- a slice's bound as a place among n (d where it is left out) -/
def sIx (n d : Nat) : Option Int → Nat
  | none => d
  | some v => if v < 0 then (v + (n : Int)).toNat else min v.toNat n
theorem sIx_none (n d : Nat) : sIx n d none = d := rfl
theorem sIx_nat (n d k : Nat) : sIx n d (some (k : Int)) = min k n := by
  show (if (k : Int) < 0 then ((k : Int) + (n : Int)).toNat else min (k : Int).toNat n) = min k n
  rw [if_neg (by omega), Int.toNat_natCast]
theorem sIx_le (n d : Nat) (hd : d ≤ n) (o : Option Int) : sIx n d o ≤ n := by
  cases o with
  | none => exact hd
  | some v =>
    show (if v < 0 then (v + (n : Int)).toNat else min v.toNat n) ≤ n
    by_cases hv : v < 0
    · rw [if_pos hv]; omega
    · rw [if_neg hv]; exact Nat.min_le_right _ _
theorem clip_eq (v : Int) (n d : Nat) : (if v < 0 then max (v + (n : Int)) 0 else min v (n : Int)) = ((sIx n d (some v) : Nat) : Int) := by
  show (if v < 0 then max (v + (n : Int)) 0 else min v (n : Int)) = (((if v < 0 then (v + (n : Int)).toNat else min v.toNat n) : Nat) : Int)
  by_cases hv : v < 0
  · simp only [if_pos hv]; omega
  · simp only [if_neg hv]; omega
theorem adjust_gen (lo hi : Option Int) (n : Nat) : Builtin.Slice.sliceAdjust lo hi 1 (n : Int) = (((sIx n 0 lo : Nat) : Int), ((sIx n n hi : Nat) : Int)) := by
  have h1 : ¬ ((1 : Int) < 0) := by omega
  unfold Builtin.Slice.sliceAdjust
  simp only [h1, if_false]
  refine Prod.ext ?_ ?_
  · cases lo with
    | none => rfl
    | some v => exact clip_eq v n 0
  · cases hi with
    | none => rfl
    | some v => exact clip_eq v n n
theorem places_gen (i j : Nat) : Builtin.Slice.slicePlaces (i : Int) (j : Int) 1 = j - i := by
  unfold Builtin.Slice.slicePlaces
  have h1 : (1 : Int) > 0 := by omega
  simp only [h1, if_true, Int.ediv_one]
  split <;> omega
theorem slicePart_ {v : Value} {o : Option Int} {Q : Option Int → Shared → Prop} (p : IsPart v o) (h : Q o s) : wpAny (model prog w) A (Builtin.Slice.slicePartIndex v) Q E s := by
  cases p with
  | none => exact slicePart_none h
  | int i t => exact slicePart_int h
theorem sliceApplied_gen {sl : Addr} {vl vu : Value} {lo hi : Option Int} {n : Nat} {Q : Int × Int × Nat → Shared → Prop} (hs : s.heap.IsSliceOf sl vl vu .none) (pl : IsPart vl lo) (pu : IsPart vu hi)
    (h : Q (((sIx n 0 lo : Nat) : Int), 1, sIx n n hi - sIx n 0 lo) s) : wpAny (model prog w) A (Builtin.Slice.sliceApplied (.ref sl) (pure (n : Int))) Q E s := by
  obtain ⟨os, hos, hcs, hds⟩ := id hs
  unfold Builtin.Slice.sliceApplied Builtin.Slice.sliceFields
  refine wpAny_bind (wpAny_bind (wpAny_field hos hds (x := vl) rfl (wpAny_bind (wpAny_field hos hds (x := vu) rfl (wpAny_bind (wpAny_field hos hds (x := .none) rfl (wpAny_pure ?_)))))))
  refine wpAny_bind (slicePart_none ?_)
  show wpAny _ _ (if ((1 : Int) == 0) = true then _ else _) _ _ s
  rw [if_neg (by decide)]
  refine wpAny_bind (slicePart_ pl (wpAny_bind (slicePart_ pu (wpAny_bind (wpAny_pure ?_)))))
  show wpAny _ _ (match Builtin.Slice.sliceAdjust lo hi 1 (n : Int) with | (lo, hi) => pure (lo, (1 : Int), Builtin.Slice.slicePlaces lo hi 1)) _ _ s
  rw [adjust_gen lo hi n]
  show wpAny _ _ (pure (((sIx n 0 lo : Nat) : Int), (1 : Int), Builtin.Slice.slicePlaces ((sIx n 0 lo : Nat) : Int) ((sIx n n hi : Nat) : Int) 1)) _ _ s
  rw [places_gen]
  exact wpAny_pure h
theorem pick_gen (xs : Array Value) (i k : Nat) : ((List.range k).filterMap fun (m : Nat) => xs[((i : Int) + (m : Int) * 1).toNat]?).toArray = ((xs.toList.drop i).take k).toArray := by
  have e : (fun (m : Nat) => xs[((i : Int) + (m : Int) * 1).toNat]?) = fun m => xs[i + m]? := by
    funext m
    have : ((i : Int) + (m : Int) * 1).toNat = i + m := by omega
    rw [this]
  rw [e]
  have := pick_run xs i k
  rw [List.filterMap_map] at this
  have e2 : ((fun x => xs[x]?) ∘ fun x => i + x) = fun m => xs[i + m]? := rfl
  rw [e2] at this
  rw [this]

theorem getItem_tuple_cut {t sl : Addr} {items : Array Value} {vl vu : Value} {lo hi : Option Int} {Q : Value → Shared → Prop} (ht : IsTup s.heap t items) (hs : s.heap.IsSliceOf sl vl vu .none) (pl : IsPart vl lo) (pu : IsPart vu hi)
    (hw : ¬ (sIx items.size 0 lo = 0 ∧ sIx items.size items.size hi = items.size))
    (h : Q (.ref s.heap.objs.size) { s with heap := s.heap.push { cls := .type "tuple", data := .seq ((items.toList.drop (sIx items.size 0 lo)).take (sIx items.size items.size hi - sIx items.size 0 lo)).toArray } })
    (hsz : items.size ≤ sizeLine) : wpAny (model prog w) A (getItem (.ref t) (.ref sl)) Q E s := by
  have htake : sizeOk (.seq ((items.toList.drop (sIx items.size 0 lo)).take (sIx items.size items.size hi - sIx items.size 0 lo)).toArray) := by
    show ((items.toList.drop (sIx items.size 0 lo)).take (sIx items.size items.size hi - sIx items.size 0 lo)).toArray.size ≤ sizeLine
    rw [List.size_toArray, List.length_take, List.length_drop, Array.length_toList]
    omega
  have hj : sIx items.size items.size hi ≤ items.size := sIx_le _ _ (Nat.le_refl _) hi
  obtain ⟨os, hos, hcs, hds⟩ := id hs
  have hTs : s.TypeIs (.ref sl) "slice" := ⟨os, hos, hcs⟩
  unfold getItem
  try with_reducible refine wpAny_holding ?_
  first | refine wpAny_bind (wpAny_pure ?_) | skip
  refine wpAny_bind (wpAny_sequenceKey ht.typeIs (by decide) ?_)
  refine wpAny_bind (wpAny_callSpecial?_slot (name := Str.ofString "__getitem__") ht.typeIs PyProof.Rows.slot_tuple_getitem
    (wpAny_call_entry PyProof.Rows.slot_tuple_getitem ht.typeIs entry_tuple_getitem ?_ (args_tuple_getitem _ _)))
  show wpAny _ _ (Builtin.Tuple.tupleItemsOf (.ref t) >>= _) _ _ s
  refine wpAny_bind (tupleItemsOf_ ht ?_)
  refine wpAny_bind (wpAny_typeOf hTs ?_)
  rw [if_pos (by decide)]
  refine wpAny_bind (sliceApplied_gen hs pl pu ?_)
  have hno : ¬ ((((sIx items.size 0 lo : Nat) : Int) == 0 && (1 : Int) == 1 && (sIx items.size items.size hi - sIx items.size 0 lo) == items.size) = true) := by
    intro q
    rw [Bool.and_eq_true, Bool.and_eq_true] at q
    have q1 : ((sIx items.size 0 lo : Nat) : Int) = 0 := eq_of_beq q.1.1
    have q2 : sIx items.size items.size hi - sIx items.size 0 lo = items.size := eq_of_beq q.2
    exact hw ⟨by omega, by omega⟩
  show wpAny _ _ (if (((sIx items.size 0 lo : Nat) : Int) == 0 && (1 : Int) == 1 && (sIx items.size items.size hi - sIx items.size 0 lo) == items.size) = true then _ else _) _ _ s
  rw [if_neg hno, pick_gen]
  first
    | exact wpAny_bind (m := Builtin.Tuple.tupleExact _) (wpAny_newObj_type (wpAny_pure ⟨_, rfl, wpAny_pure h⟩) htake)
    | exact wpAny_bind (m := Builtin.Tuple.tupleExact _) (wpAny_newObj_type (wpAny_bind (wpAny_pure (wpAny_pure ⟨_, rfl, wpAny_pure h⟩))) htake)
    | exact wpAny_bind (wpAny_bind (m := Builtin.Tuple.tupleExact _) (wpAny_newObj_type (wpAny_pure (wpAny_pure ⟨_, rfl, wpAny_pure h⟩)) htake))
    | exact wpAny_bind (wpAny_bind (m := Builtin.Tuple.tupleExact _) (wpAny_newObj_type (wpAny_pure ⟨_, rfl, wpAny_pure h⟩) htake))
end
end HT

namespace L2
open PySem PySem.Spec PyProof.Rows

/-! ### the parts of a slice -/
abbrev TO := St → Hp → (Option Int → Hp → Prop) → Prop
/-- a slice's part (left out, or an int) -/
def PO (X : Cx) (e : Option Expr) (t : TO) : Prop :=
  ∀ (pins : List (Addr × Obj)) (s : Shared) (σ : St) (H : Hp) (Q : Option Int → Hp → Prop), Inv X pins σ H s → t σ H Q →
    wpAny (model X.prog X.w) X.A (evalPart e X.env) (fun u s' => ∃ o H', Inv X pins σ H' s' ∧ IsPart u o ∧ Q o H') X.xe s
def tNoPart : TO := fun _ H Q => Q none H
def tPart (t : TE) : TO := fun σ H Q => t σ H fun x H1 => ∃ i, x = .int i ∧ Q (some i) H1

theorem intsAre_of {ns : List Int} : ∀ {us : List Value}, Vals (ns.map V.int) us → IntsAre us ns := by
  induction ns with
  | nil => intro us r; rw [List.map_nil] at r; cases r; exact .nil
  | cons n ns ih =>
    intro us r
    rw [List.map_cons] at r
    cases r with
    | cons r1 r2 =>
      obtain ⟨t, e⟩ := r1
      subst e
      exact .cons n t (ih r2)

section
variable {X : Cx} {e : Expr} {te : TE} {lo hi : Option Expr} {tl th : TO} {pos p2 : Pos}

theorem po_none : PO X none tNoPart := by
  intro pins s σ H Q I h
  rw [evalPart_none]
  exact wpAny_pure ⟨none, H, I, .none, h⟩
theorem po_some (h : PE X e te) : PO X (some e) (tPart te) := by
  intro pins s σ H Q I hw
  rw [evalPart_some]
  refine thn (h pins s σ H _ I hw) fun u s1 ⟨x, H1, I1, r1, q1⟩ => ?_
  obtain ⟨i, rfl, q⟩ := q1
  obtain ⟨t, rfl⟩ := r1
  exact ⟨some i, H1, I1, .int i t, q⟩

/-- what a slice of a value is, by values: the slice object stands at sl -/
def SlR (X : Cx) (r : V → Option Int → Option Int → Hp → VK → Prop) : Prop :=
  ∀ (pins : List (Addr × Obj)) (s : Shared) (σ : St) (H : Hp) (x : V) (v vl vu : Value) (lo hi : Option Int) (sl : Addr) (Q : VK), Inv X pins σ H s → RelV x v → s.heap.IsSliceOf sl vl vu .none → IsPart vl lo → IsPart vu hi → r x lo hi H Q →
    ∃ T id, typeLookup (.type T) "__getitem__" = pure (some (.builtin id)) ∧ s.TypeIs v T ∧ wpAny (model X.prog X.w) X.A (getItem v (.ref sl)) (EP X pins σ Q) X.xe s
theorem SlR.or {r r' : V → Option Int → Option Int → Hp → VK → Prop} (h : SlR X r) (h' : SlR X r') : SlR X (fun x lo hi H Q => r x lo hi H Q ∨ r' x lo hi H Q) := by
  intro pins s σ H x v vl vu lo hi sl Q I rx hs pl pu q
  rcases q with q | q
  · exact h pins s σ H x v vl vu lo hi sl Q I rx hs pl pu q
  · exact h' pins s σ H x v vl vu lo hi sl Q I rx hs pl pu q
def tSl (r : V → Option Int → Option Int → Hp → VK → Prop) (te : TE) (tl th : TO) : TE := fun σ H Q => te σ H fun x H1 => tl σ H1 fun l H2 => th σ H2 fun u H3 => r x l u H3 Q
/-- a[lo:hi], any a -/
theorem pe_slice {r : V → Option Int → Option Int → Hp → VK → Prop} (hr : SlR X r) (he : PE X e te) (hl : PO X lo tl) (hu : PO X hi th) : PE X (.Subscript e (.Slice lo hi none p2) pos) (tSl r te tl th) := by
  intro pins s σ H Q I h
  refine Subscript_ (thn (he pins s σ H _ I h) fun v s1 ⟨x, H1, I1, r1, q1⟩ => ?_)
  refine wpAny_Slice (thn (hl pins s1 σ H1 _ I1 q1) fun vl s2 ⟨l, H2, I2, pl, q2⟩ => thn (hu pins s2 σ H2 _ I2 q2) fun vu s3 ⟨u, H3, I3, pu, q3⟩ => ?_)
  rw [evalPart_none]
  refine wpAny_pure ?_
  have I4 : Inv X pins σ H3 { s3 with heap := s3.heap.push { cls := .type "slice", data := .fields #[vl, vu, .none] } } := I3.kept (t' := s3.toks) fun b ob q => Heap.get?_push_of_some _ q
  obtain ⟨T, id, hT, ht, hg⟩ := hr pins { s3 with heap := s3.heap.push { cls := .type "slice", data := .fields #[vl, vu, .none] } } σ H3 x v vl vu l u s3.heap.objs.size Q I4 r1 (Heap.IsSliceOf.new ..) pl pu q3
  show wpAny (model X.prog X.w) X.A (subscriptTail e (.Slice lo hi none p2) v (.ref s3.heap.objs.size)) (EP X pins σ Q) X.xe { s3 with heap := s3.heap.push { cls := .type "slice", data := .fields #[vl, vu, .none] } }
  exact tail_any (ops := [.ref s3.heap.objs.size, v]) ht hT hg (by with_unfolding_all rfl)

/-- the items of xs[lo:hi] -/
def cutV (xs : List V) (lo hi : Option Int) : List V := (xs.drop (HT.sIx xs.length 0 lo)).take (HT.sIx xs.length xs.length hi - HT.sIx xs.length 0 lo)
theorem cutV_length (xs : List V) (lo hi : Option Int) : (cutV xs lo hi).length ≤ xs.length := by
  unfold cutV
  rw [List.length_take, List.length_drop]
  omega
/-- t[lo:hi], not the whole of it (the whole would be t itself) -/
def rSlT (K : PySem.W.Frag) : V → Option Int → Option Int → Hp → VK → Prop := fun x lo hi H Q => ∃ a xs, x = .ref a ∧ SqT K H a xs ∧
  ¬ (HT.sIx xs.length 0 lo = 0 ∧ HT.sIx xs.length xs.length hi = xs.length) ∧ ∀ p, H p = none → Q (.ref p) (upd H p (.tup (cutV xs lo hi)))
theorem sl_tup : SlR X (rSlT X.K) := by
  intro pins s σ H x v vl vu lo hi sl Q I rx hs pl pu h
  obtain ⟨a, xs, rfl, hx, hw, q⟩ := h
  cases rx
  obtain ⟨its, r, ht, hz⟩ := I.tuple hx
  have hlen : its.toArray.size = xs.length := by rw [List.size_toArray]; exact r.length.symm
  refine ⟨"tuple", _, PyProof.Rows.slot_tuple_getitem.lookup, ht.typeIs, ?_⟩
  refine HT.getItem_tuple_cut ht hs pl pu (by rw [hlen]; exact hw) ?_ (by rw [hlen]; exact hz)
  rw [hlen]
  refine ⟨.ref s.heap.objs.size, _, I.laid (t' := s.toks) (o := .tup (cutV xs lo hi)) (fun b ob q => Heap.get?_push_of_some _ q) (Nat.le_refl _) ?_, rfl, q _ (I.hok.fresh (Nat.le_refl _))⟩
  exact ⟨Nat.le_trans (cutV_length xs lo hi) hz, _, (r.drop (HT.sIx xs.length 0 lo)).take (HT.sIx xs.length xs.length hi - HT.sIx xs.length 0 lo), IsTup.new _ _⟩

/-! ### t < u, t + u -/
def rLtT (K : PySem.W.Frag) : R2 := fun x y H Q => ∃ a b ns ms, x = .ref a ∧ y = .ref b ∧ SqT K H a (ns.map V.int) ∧ SqT K H b (ms.map V.int) ∧ Q (.bl (HT.lexLt ns ms)) H
theorem op_ltT (hu : X.A.units < cLine) : OpR X (compareOp .Lt) (rLtT X.K) := by
  intro pins s σ H x y v u Q I rx ry h
  obtain ⟨a, b, ns, ms, rfl, rfl, ha, hb, q⟩ := h
  cases rx
  cases ry
  obtain ⟨its, r1, p1, _⟩ := I.tuple ha
  obtain ⟨its2, r2, p2, _⟩ := I.tuple hb
  have i1 : IntsAre its.toArray.toList ns := intsAre_of r1
  have i2 : IntsAre its2.toArray.toList ms := intsAre_of r2
  exact HT.lt_tupInts p1 p2 i1 i2 hu ⟨.bl (HT.lexLt ns ms), H, I, rfl, q⟩
/-- t + u, t not empty: u empty gives t itself -/
def rCatT (K : PySem.W.Frag) : R2 := fun x y H Q => ∃ a b xs ys, x = .ref a ∧ y = .ref b ∧ SqT K H a xs ∧ SqT K H b ys ∧ xs ≠ [] ∧ xs.length + ys.length ≤ sizeLine ∧
  (ys = [] → Q (.ref a) H) ∧ (ys ≠ [] → ∀ p, H p = none → Q (.ref p) (upd H p (.tup (xs ++ ys))))
theorem Vals.nil_iff {xs : List V} {us : List Value} (r : Vals xs us) : us = [] ↔ xs = [] := by
  cases r with
  | nil => simp
  | cons _ _ => simp
theorem op_catT : OpR X (binaryOp .Add) (rCatT X.K) := by
  intro pins s σ H x y v u Q I rx ry h
  obtain ⟨a, b, xs, ys, rfl, rfl, ha, hb, hx, hz, q1, q2⟩ := h
  cases rx
  cases ry
  obtain ⟨its, r1, p1, _⟩ := I.tuple ha
  obtain ⟨its2, r2, p2, _⟩ := I.tuple hb
  refine HT.cat_tup p1 p2 (fun z => hx (r1.nil_iff.mp z)) (fun z => ⟨.ref a, H, I, rfl, q1 (r2.nil_iff.mp z)⟩) (fun z => ?_) (by rw [← r1.length, ← r2.length]; exact hz)
  refine ⟨.ref s.heap.objs.size, _, I.laid (t' := s.toks) (o := .tup (xs ++ ys)) (fun b ob q => Heap.get?_push_of_some _ q) (Nat.le_refl _) ?_, rfl, q2 (fun w => z (r2.nil_iff.mpr w)) _ (I.hok.fresh (Nat.le_refl _))⟩
  exact ⟨by rw [List.length_append]; exact hz, _, r1.append r2, IsTup.new _ _⟩
/-- tuple(t) -/
theorem call_tupleT : CallR X (.type "tuple") (fun xs H Q => ∃ a ys, xs = [.ref a] ∧ SqT X.K H a ys ∧ Q (.ref a) H) := by
  intro pins s σ H xs us Q I r h
  obtain ⟨a, ys, rfl, ha, q⟩ := h
  obtain ⟨u, rfl, ru⟩ := vals1 r
  cases ru
  obtain ⟨its, _, p1, _⟩ := I.tuple ha
  exact call_tuple_same (items := its.toArray) p1 ⟨.ref a, H, I, rfl, q⟩
end
end L2

namespace L2
open PySem PySem.Spec PyProof.Rows

/-! ### places -/
/-- the place that an index of any sign means -/
def ixN (n : Nat) (i : Int) : Option Nat := if 0 ≤ i then (if i < n then some i.toNat else none) else if -(n : Int) ≤ i then some (i + n).toNat else none
def atI {α : Type} (xs : List α) (i : Int) : Option α := (ixN xs.length i).bind fun j => xs[j]?
theorem ixN_seq {n : Nat} {i : Int} {j : Nat} (h : ixN n i = some j) : seqIndex? i n = some j ∧ j < n ∧ -(n : Int) ≤ i ∧ i < n := by
  unfold ixN at h
  by_cases h0 : 0 ≤ i
  · rw [if_pos h0] at h
    by_cases h1 : i < n
    · rw [if_pos h1] at h
      have e : i.toNat = j := Option.some.inj h
      exact ⟨by rw [seqIndex_of h0 h1, e], by omega, by omega, h1⟩
    · rw [if_neg h1] at h; cases h
  · rw [if_neg h0] at h
    by_cases h1 : -(n : Int) ≤ i
    · rw [if_pos h1] at h
      have e : (i + n).toNat = j := Option.some.inj h
      exact ⟨by rw [seqIndex_neg (by omega) h1, e], by omega, h1, by omega⟩
    · rw [if_neg h1] at h; cases h
theorem atI_get {α : Type} {xs : List α} {i : Int} {v : α} (h : atI xs i = some v) : ∃ j, seqIndex? i xs.length = some j ∧ xs[j]? = some v ∧ j < xs.length ∧ -(xs.length : Int) ≤ i ∧ i < xs.length := by
  unfold atI at h
  cases e : ixN xs.length i with
  | none => rw [e] at h; cases h
  | some j =>
    rw [e] at h
    obtain ⟨h1, h2, h3, h4⟩ := ixN_seq e
    exact ⟨j, h1, h, h2, h3, h4⟩
theorem atI_nat {α : Type} {xs : List α} {j : Nat} {v : α} (h : xs[j]? = some v) : atI xs (j : Int) = some v := by
  have hj : j < xs.length := (List.getElem?_eq_some_iff.mp h).1
  have e : ixN xs.length (j : Int) = some j := by
    unfold ixN
    rw [if_pos (by omega), if_pos (by omega)]; simp
  unfold atI; rw [e]; exact h
theorem atI_last {α : Type} (xs : List α) (v : α) : atI (xs ++ [v]) (-1) = some v := by
  have hl : (xs ++ [v]).length = xs.length + 1 := by simp
  have e : ixN (xs ++ [v]).length (-1) = some xs.length := by
    unfold ixN
    rw [hl, if_neg (by decide), if_pos (by omega)]
    congr 1
    omega
  unfold atI
  rw [e]
  show (xs ++ [v])[xs.length]? = some v
  simp

/-! ### what may be subscripted -/
/-- what stands as an index of a plain subscript -/
def PlainIx (b : Expr) : Prop := ∀ o i, subscripted b false o i = operate [o, i] (getItem o i)
/-- a subscript by values -/
def IxR (X : Cx) (r : R2) : Prop :=
  ∀ (value slice : Expr) (pins : List (Addr × Obj)) (s : Shared) (σ : St) (H : Hp) (x y : V) (v u : Value) (Q : VK), Inv X pins σ H s → RelV x v → RelV y u → r x y H Q →
    subscripted slice false v u = operate [v, u] (getItem v u) → wpAny (model X.prog X.w) X.A (subscriptTail value slice v u) (EP X pins σ Q) X.xe s
/-- a call of a builtin's method by values: the receiver, the arguments -/
def MtR (X : Cx) (id : String) (r : V → List V → Hp → VK → Prop) : Prop :=
  ∀ (pins : List (Addr × Obj)) (s : Shared) (σ : St) (H : Hp) (x : V) (xs : List V) (v : Value) (us : List Value) (Q : VK), Inv X pins σ H s → RelV x v → Vals xs us → r x xs H Q →
    wpAny (model X.prog X.w) X.A (call (.builtin id) (v :: us)) (EP X pins σ Q) X.xe s
section
variable {X : Cx} {a b : Expr} {ta tb : TE} {pos : Pos}
theorem IxR.or {r r' : R2} (h : IxR X r) (h' : IxR X r') : IxR X (fun x y H Q => r x y H Q ∨ r' x y H Q) := by
  intro value slice pins s σ H x y v u Q I rx ry q hs
  rcases q with q | q
  · exact h value slice pins s σ H x y v u Q I rx ry q hs
  · exact h' value slice pins s σ H x y v u Q I rx ry q hs
theorem MtR.or {id : String} {r r' : V → List V → Hp → VK → Prop} (h : MtR X id r) (h' : MtR X id r') : MtR X id (fun x xs H Q => r x xs H Q ∨ r' x xs H Q) := by
  intro pins s σ H x xs v us Q I rx rs q
  rcases q with q | q
  · exact h pins s σ H x xs v us Q I rx rs q
  · exact h' pins s σ H x xs v us Q I rx rs q
/-- a[b] -/
theorem pe_ix {r : R2} (hr : IxR X r) (ha : PE X a ta) (hb : PE X b tb) (hs : PlainIx b) : PE X (.Subscript a b pos) (tOp r ta tb) := by
  intro pins s σ H Q I h
  exact Subscript_ (binT ha hb I h fun v u s2 x y H2 I2 rx ry q => hr a b pins s2 σ H2 x y v u Q I2 rx ry q (hs _ _))

def rIxL (K : PySem.W.Frag) : R2 := fun x y H Q => ∃ p xs i v, x = .ref p ∧ y = .int i ∧ SqL K H p xs ∧ atI xs i = some v ∧ Q v H
def rIxT (K : PySem.W.Frag) : R2 := fun x y H Q => ∃ p xs i v, x = .ref p ∧ y = .int i ∧ SqT K H p xs ∧ atI xs i = some v ∧ Q v H
def rIxS : R2 := fun x y H Q => ∃ z i c, x = .str z ∧ y = .int i ∧ z.length ≤ sizeLine ∧ atI z.cps.toList i = some c ∧ Q (.str ⟨#[c]⟩) H
theorem ix_list : IxR X (rIxL X.K) := by
  intro value slice pins s σ H x y v u Q I rx ry h hs
  obtain ⟨p, xs, i, z, rfl, rfl, hq, he, q⟩ := h
  cases rx
  obtain ⟨t, rfl⟩ := ry
  obtain ⟨its, r, pl, hz⟩ := I.list hq
  obtain ⟨j, h1, h2, h3, h4, h5⟩ := atI_get he
  obtain ⟨w, ew, rw'⟩ := r.get h2
  have hl := r.length
  have hn := line63
  have fin : EP X pins σ Q w s := ⟨z, H, I, rw', q⟩
  by_cases h0 : 0 ≤ i
  · have hj : i.toNat = j := by
      rw [seqIndex_of h0 h5] at h1
      exact Option.some.inj h1
    exact item_listR pl.isList h0 (by omega) (by rw [hj]; simpa using ew) fin hs
  · have hj : (i + (its.toArray.size : Int)).toNat = j := by
      rw [seqIndex_neg (by omega) h4] at h1
      rw [List.size_toArray, ← hl]
      exact Option.some.inj h1
    exact subscriptTail_builtinR (x := w) pl.isList.typeIs slot_list_getitem.lookup
      (wpAny_getItem_list_neg (Q := fun r s' => r = w ∧ EP X pins σ Q r s') pl.isList (by omega) (by rw [List.size_toArray] <;> omega) (by omega) (by rw [hj]; simpa using ew) ⟨rfl, fin⟩) hs
theorem ix_tup : IxR X (rIxT X.K) := by
  intro value slice pins s σ H x y v u Q I rx ry h hs
  obtain ⟨p, xs, i, z, rfl, rfl, hq, he, q⟩ := h
  cases rx
  obtain ⟨t, rfl⟩ := ry
  obtain ⟨its, r, pl, hz⟩ := I.tuple hq
  obtain ⟨j, h1, h2, h3, h4, h5⟩ := atI_get he
  obtain ⟨w, ew, rw'⟩ := r.get h2
  have hl := r.length
  have hn := line63
  have fin : EP X pins σ Q w s := ⟨z, H, I, rw', q⟩
  exact subscriptTail_builtinR (x := w) pl.typeIs slot_tuple_getitem.lookup
    (getItem_tuple (j := j) (Q := fun r s' => r = w ∧ EP X pins σ Q r s') pl (by omega) (by omega) (by rw [List.size_toArray, ← hl]; exact h1) (by simpa using ew) ⟨rfl, fin⟩) hs
theorem ix_str : IxR X rIxS := by
  intro value slice pins s σ H x y v u Q I rx ry h hs
  obtain ⟨z, i, c, rfl, rfl, hz, he, q⟩ := h
  obtain ⟨t, rfl⟩ := rx
  obtain ⟨t', rfl⟩ := ry
  obtain ⟨j, h1, h2, h3, h4, h5⟩ := atI_get he
  have hl : z.cps.toList.length = z.length := by simp [Str.length]
  rw [hl] at h1 h4 h5
  have hn := line63
  exact tail_any (typeIs_str s z t) slot_str_getitem.lookup (getItem_str (c := c) (by
    have e1 : decide (i < -(2 ^ 63 : Int)) = false := decide_eq_false (by omega)
    have e2 : decide (i ≥ 2 ^ 63) = false := decide_eq_false (by omega)
    rw [e1, e2, Bool.or_false]) (by rw [h1]; simpa using h2) ⟨.str ⟨#[c]⟩, H, I.tok _, ⟨_, rfl⟩, q⟩) hs
/-- list, tuple or str -/
def rIx (K : PySem.W.Frag) : R2 := fun x y H Q => rIxL K x y H Q ∨ rIxT K x y H Q ∨ rIxS x y H Q
theorem ix_seq : IxR X (rIx X.K) := ix_list.or (ix_tup.or ix_str)

/-! ### xs[i] = v, any sign -/
/-- the list's object behind a store -/
theorem mapSeq_set (its : List Value) (n j : Nat) (u : Value) : Obj.mapSeq (·.setIfInBounds j u) { cls := .type "list", data := .seq its.toArray n } = { cls := .type "list", data := .seq (its.set j u).toArray n } := by
  simp [Obj.mapSeq]
theorem Inv.lst {pins : List (Addr × Obj)} {σ : St} {H : Hp} {s : Shared} {p : Addr} {xs : List V} (I : Inv X pins σ H s) (h : H p = some (.lst xs)) :
    ∃ (its : List Value) (n : Nat), Vals xs its ∧ s.heap.get? p = some { cls := .type "list", data := .seq its.toArray n } ∧ xs.length ≤ sizeLine := by
  obtain ⟨z, its, n, r, e⟩ := I.hok p _ h
  exact ⟨its, n, r, e, z⟩
/-- the list at p is written by an update of its object -/
theorem Inv.lstUpd {pins : List (Addr × Obj)} {σ : St} {H : Hp} {s : Shared} {p : Addr} {xs ys : List V} {its its' : List Value} {n n' : Nat} {f : Obj → Obj} (I : Inv X pins σ H s) (h : H p = some (.lst xs))
    (ho : s.heap.get? p = some { cls := .type "list", data := .seq its.toArray n }) (hf : f { cls := .type "list", data := .seq its.toArray n } = { cls := .type "list", data := .seq its'.toArray n' }) (r : Vals ys its') (hz : ys.length ≤ sizeLine) (t : Nat) :
    Inv X pins σ (upd H p (.lst ys)) { s with heap := s.heap.update p f, toks := t } := by
  have e : (s.heap.update p f).get? p = some { cls := .type "list", data := .seq its'.toArray n' } := by
    rw [Heap.get?_update_self f ho (by rw [hf] <;> rfl), hf]
  refine I.write (x := p) (e := p) (by rw [h]; trivial) (.inl rfl) (fun b u hb q => (Heap.get?_update_other _ _ (Ne.symm hb)).trans q) ⟨_, e⟩ ?_
  exact ⟨hz, its', n', r, e⟩
def rSetL : V → V → V → Hp → (Hp → Prop) → Prop := fun o i v H Q => ∃ p xs k j, o = .ref p ∧ i = .int k ∧ H p = some (.lst xs) ∧ ixN xs.length k = some j ∧ Q (upd H p (.lst (xs.set j v)))
theorem set_list : PSet X rSetL := by
  intro pins s σ H o i v ov iv u Q I ro ri rv h
  obtain ⟨p, xs, k, j, rfl, rfl, hp, hj, q⟩ := h
  cases ro
  obtain ⟨t, rfl⟩ := ri
  obtain ⟨its, n, r, ho, hz⟩ := I.lst hp
  obtain ⟨h1, h2, h3, h4⟩ := ixN_seq hj
  have hl := r.length
  have hn := line63
  have I' : Inv X pins σ (upd H p (.lst (xs.set j v))) { s with heap := s.heap.update p (Obj.mapSeq (·.setIfInBounds j u)) } :=
    I.lstUpd hp ho (mapSeq_set its n j u) (r.set rv j) (by rw [List.length_set]; exact hz) s.toks
  by_cases h0 : 0 ≤ k
  · have hk : k.toNat = j := by
      rw [seqIndex_of h0 h4] at h1
      exact Option.some.inj h1
    exact PySem.W.ki_setAt ho h0 (by omega) (by rw [List.size_toArray, ← hl]; exact h4) (by rw [hk]; exact ⟨_, I', q⟩)
  · have hk : (k + (its.toArray.size : Int)).toNat = j := by
      rw [seqIndex_neg (by omega) h3] at h1
      rw [List.size_toArray, ← hl]
      exact Option.some.inj h1
    exact PySem.W.ki_setBack ho (by omega) (by rw [List.size_toArray, ← hl]; exact h3) (by omega) (by rw [hk]; exact ⟨_, I', q⟩)

/-! ### slices -/
theorem slice_bounds (lo hi : Option Int) (n : Nat) : (sliceBounds lo hi none n).1 = ((HT.sIx n 0 lo : Nat) : Int) ∧ (sliceBounds lo hi none n).2.1 = ((HT.sIx n n hi : Nat) : Int) ∧ (sliceBounds lo hi none n).2.2 = 1 := by
  refine ⟨?_, ?_, rfl⟩
  · cases lo with
    | none => simp [sliceBounds, HT.sIx]
    | some i =>
      simp only [sliceBounds, HT.sIx, Option.getD_none, show (1 : Int) > 0 by decide, if_true]
      by_cases h : i < 0
      · simp only [h, if_true] <;> omega
      · simp only [h, if_false] <;> omega
  · cases hi with
    | none => simp [sliceBounds, HT.sIx]
    | some i =>
      simp only [sliceBounds, HT.sIx, Option.getD_none, show (1 : Int) > 0 by decide, if_true]
      by_cases h : i < 0
      · simp only [h, if_true] <;> omega
      · simp only [h, if_false] <;> omega
theorem slicePick_cut (its : List Value) (lo hi : Option Int) : slicePick its.toArray lo hi none = ((its.drop (HT.sIx its.length 0 lo)).take (HT.sIx its.length its.length hi - HT.sIx its.length 0 lo)).toArray := by
  obtain ⟨h1, h2, h3⟩ := slice_bounds lo hi its.toArray.size
  unfold slicePick
  rw [h1, h2, h3]
  simp only [sliceRange_one, pick_run, List.size_toArray] <;> rfl
/-- xs[lo:hi] of a list: a new list -/
def rSlL (K : PySem.W.Frag) : V → Option Int → Option Int → Hp → VK → Prop := fun x lo hi H Q => ∃ a xs, x = .ref a ∧ SqL K H a xs ∧ ∀ p, H p = none → Q (.ref p) (upd H p (.lst (cutV xs lo hi)))
theorem sl_list : SlR X (rSlL X.K) := by
  intro pins s σ H x v vl vu lo hi sl Q I rx hs pl pu h
  obtain ⟨a, xs, rfl, hx, q⟩ := h
  cases rx
  obtain ⟨its, r, ht, hz⟩ := I.list hx
  have hlen := r.length
  refine ⟨"list", _, slot_list_getitem.lookup, ht.isList.typeIs, ?_⟩
  refine wpAny_getItem_list_slice ht.isList hs pl pu .none (by simp) ?_ (by rw [List.size_toArray] <;> omega)
  rw [slicePick_cut, ← hlen]
  refine ⟨.ref s.heap.objs.size, _, I.laid (t' := s.toks) (o := .lst (cutV xs lo hi)) (fun b ob q => Heap.get?_push_of_some _ q) (Nat.le_refl _) ?_, rfl, q _ (I.hok.fresh (Nat.le_refl _))⟩
  exact ⟨Nat.le_trans (cutV_length xs lo hi) hz, _, 0, (r.drop (HT.sIx xs.length 0 lo)).take (HT.sIx xs.length xs.length hi - HT.sIx xs.length 0 lo), Heap.get?_push_size _ rfl⟩

/-! ### in, not in: flat items -/
def flatV : V → Bool
  | .non => true
  | .bl _ => true
  | .int _ => true
  | .str _ => true
  | _ => false
/-- == of flat values -/
def eqV : V → V → Bool
  | .non, .non => true
  | .bl a, .bl b => a == b
  | .bl a, .int b => (if a then 1 else 0) == b
  | .int a, .bl b => a == (if b then 1 else 0)
  | .int a, .int b => a == b
  | .str a, .str b => a == b
  | _, _ => false
theorem eqAt_V {A : Around} {s : Shared} {y x : V} {u v : Value} (ry : RelV y u) (rx : RelV x v) (fy : flatV y = true) (fx : flatV x = true) : SeqAt.EqAt A s u v (eqV y x) := by
  cases y with
  | non =>
    cases ry
    cases x with
    | non => cases rx; exact SeqAt.EqAt.same _
    | bl b => cases rx; exact SeqAt.EqAt.none_bool b
    | int b => obtain ⟨t, rfl⟩ := rx; exact SeqAt.EqAt.none_int b t
    | str b => obtain ⟨t, rfl⟩ := rx; exact SeqAt.EqAt.none_str b t
    | _ => exact absurd (show false = true from fx) Bool.false_ne_true
  | bl a =>
    cases ry
    cases x with
    | non => cases rx; exact SeqAt.EqAt.bool_none a
    | bl b => cases rx; exact SeqAt.EqAt.bool_bool a b
    | int b => obtain ⟨t, rfl⟩ := rx; exact SeqAt.EqAt.bool_int a b t
    | str b => obtain ⟨t, rfl⟩ := rx; exact SeqAt.EqAt.bool_str a b t
    | _ => exact absurd (show false = true from fx) Bool.false_ne_true
  | int a =>
    obtain ⟨t', rfl⟩ := ry
    cases x with
    | non => cases rx; exact SeqAt.EqAt.int_none a t'
    | bl b => cases rx; exact SeqAt.EqAt.int_bool a t' b
    | int b => obtain ⟨t, rfl⟩ := rx; exact SeqAt.EqAt.int_int a t' b t
    | str b => obtain ⟨t, rfl⟩ := rx; exact SeqAt.EqAt.int_str a t' b t
    | _ => exact absurd (show false = true from fx) Bool.false_ne_true
  | str a =>
    obtain ⟨t', rfl⟩ := ry
    cases x with
    | non => cases rx; exact SeqAt.EqAt.str_none a t'
    | bl b => cases rx; exact SeqAt.EqAt.str_bool a t' b
    | int b => obtain ⟨t, rfl⟩ := rx; exact SeqAt.EqAt.str_int a t' b t
    | str b => obtain ⟨t, rfl⟩ := rx; exact SeqAt.EqAt.str_str a t' b t
    | _ => exact absurd (show false = true from fx) Bool.false_ne_true
  | _ => exact absurd (show false = true from fy) Bool.false_ne_true
/-- the items' answers, read off the values (a value's own answer does not lean on its token) -/
def eqU (x : V) (u : Value) : Bool := match u with
  | .none => eqV .non x
  | .bool b => eqV (.bl b) x
  | .int i _ => eqV (.int i) x
  | .str z _ => eqV (.str z) x
  | _ => false
theorem eqU_of {x y : V} {u : Value} (r : RelV y u) (f : flatV y = true) : eqU x u = eqV y x := by
  cases y with
  | non => cases r; rfl
  | bl b => cases r; rfl
  | int i => obtain ⟨t, rfl⟩ := r; rfl
  | str z => obtain ⟨t, rfl⟩ := r; rfl
  | _ => exact absurd (show false = true from f) Bool.false_ne_true
theorem any_eqU {x : V} : ∀ {xs : List V} {us : List Value}, Vals xs us → xs.all flatV = true → us.any (eqU x) = xs.any fun y => eqV y x
  | _, _, .nil, _ => rfl
  | y :: xs, u :: us, .cons r t, f => by
    rw [List.all_cons, Bool.and_eq_true] at f
    rw [List.any_cons, List.any_cons, eqU_of r f.1, any_eqU t f.2]
theorem mem_eqAt {A : Around} {s : Shared} {x : V} {v : Value} (rx : RelV x v) (fx : flatV x = true) : ∀ {xs : List V} {us : List Value}, Vals xs us → xs.all flatV = true → ∀ u ∈ us, SeqAt.EqAt A s u v (eqU x u)
  | _, _, .nil, _ => fun u hu => by cases hu
  | y :: xs, u :: us, .cons r t, f => fun u' hu => by
    rw [List.all_cons, Bool.and_eq_true] at f
    rcases List.mem_cons.mp hu with rfl | hu
    · rw [eqU_of r f.1]; exact eqAt_V r rx f.1 fx
    · exact mem_eqAt rx fx t f.2 u' hu
def inV (x : V) (xs : List V) : Bool := xs.any fun y => eqV y x
/-- x in a list or tuple of flat items -/
def rIn (K : PySem.W.Frag) (neg : Bool) : R2 := fun x y H Q => ∃ p xs, y = .ref p ∧ (SqL K H p xs ∨ SqT K H p xs) ∧ flatV x = true ∧ xs.all flatV = true ∧ Q (.bl (if neg then !inV x xs else inV x xs)) H
theorem op_in_seq : OpR X (compareOp .In) (rIn X.K false) := by
  intro pins s σ H x y v u Q I rx ry h
  obtain ⟨p, xs, rfl, hq, fx, fs, q⟩ := h
  cases ry
  rcases hq with hq | hq
  · obtain ⟨its, r, pl, hz⟩ := I.list hq
    refine SeqAt.in_listAt (eqU x) pl.isList (fun w hw => mem_eqAt rx fx r fs w (by simpa using hw)) ⟨.bl _, H, I, rfl, ?_⟩
    rw [show its.toArray.any (eqU x) = its.any (eqU x) by simp, any_eqU r fs]
    exact q
  · obtain ⟨its, r, pl, hz⟩ := I.tuple hq
    refine SeqAt.in_tupleAt (eqU x) pl (fun w hw => mem_eqAt rx fx r fs w (by simpa using hw)) ⟨.bl _, H, I, rfl, ?_⟩
    rw [show its.toArray.any (eqU x) = its.any (eqU x) by simp, any_eqU r fs]
    exact q
theorem op_notIn_seq : OpR X (compareOp .NotIn) (rIn X.K true) := by
  intro pins s σ H x y v u Q I rx ry h
  obtain ⟨p, xs, rfl, hq, fx, fs, q⟩ := h
  cases ry
  rcases hq with hq | hq
  · obtain ⟨its, r, pl, hz⟩ := I.list hq
    refine SeqAt.notIn_listAt (eqU x) pl.isList (fun w hw => mem_eqAt rx fx r fs w (by simpa using hw)) ⟨.bl _, H, I, rfl, ?_⟩
    rw [show its.toArray.any (eqU x) = its.any (eqU x) by simp, any_eqU r fs]
    exact q
  · obtain ⟨its, r, pl, hz⟩ := I.tuple hq
    refine SeqAt.notIn_tupleAt (eqU x) pl (fun w hw => mem_eqAt rx fx r fs w (by simpa using hw)) ⟨.bl _, H, I, rfl, ?_⟩
    rw [show its.toArray.any (eqU x) = its.any (eqU x) by simp, any_eqU r fs]
    exact q
theorem op_notIn_str : OpR X (compareOp .NotIn) (fun x y H Q => ∃ i j, x = .str i ∧ y = .str j ∧ Q (.bl (!(!(Builtin.Str.occurrences j i 0 j.length 1).isEmpty))) H) := by
  intro pins s σ H x y v u Q I rx ry h
  obtain ⟨i, j, rfl, rfl, q⟩ := h
  obtain ⟨t, rfl⟩ := rx
  obtain ⟨t', rfl⟩ := ry
  exact notIn_str ⟨.bl _, H, I, rfl, q⟩

/-! ### len, list(x), tuple(x) of any list or tuple that is read -/
theorem call_len_seq : CallR X (.builtin "len") (fun xs H Q => ∃ p ys, xs = [.ref p] ∧ (SqL X.K H p ys ∨ SqT X.K H p ys) ∧ Q (.int ys.length) H) := by
  intro pins s σ H xs us Q I r h
  obtain ⟨p, ys, rfl, hq, q⟩ := h
  obtain ⟨u, rfl, rx⟩ := vals1 r
  cases rx
  have hn := line63
  rcases hq with hq | hq
  · obtain ⟨its, r', pl, hz⟩ := I.list hq
    have hlen := r'.length
    exact Calls.call_len_list pl.isList (by simp only [List.size_toArray] <;> omega) ⟨.int ys.length, H, I.tok _, ⟨s.toks + 1, by rw [List.size_toArray, hlen]⟩, q⟩
  · obtain ⟨its, r', pl, hz⟩ := I.tuple hq
    have hlen := r'.length
    exact len_tuple pl (by simp only [List.size_toArray] <;> omega) ⟨.int ys.length, H, I.tok _, ⟨s.toks + 1, by rw [List.size_toArray, hlen]⟩, q⟩
theorem call_len_str : CallR X (.builtin "len") (fun xs H Q => ∃ z, xs = [.str z] ∧ z.length ≤ sizeLine ∧ Q (.int z.length) H) := by
  intro pins s σ H xs us Q I r h
  obtain ⟨z, rfl, hz, q⟩ := h
  obtain ⟨u, rfl, t, rfl⟩ := vals1 r
  have hn := line63
  exact len_str (by omega) ⟨.int z.length, H, I.tok _, ⟨_, rfl⟩, q⟩
theorem CallR.or {f : Value} {r r' : List V → Hp → VK → Prop} (h : CallR X f r) (h' : CallR X f r') : CallR X f (fun xs H Q => r xs H Q ∨ r' xs H Q) := by
  intro pins s σ H xs us Q I rs q
  rcases q with q | q
  · exact h pins s σ H xs us Q I rs q
  · exact h' pins s σ H xs us Q I rs q
theorem call_list_of : CallR X (.type "list") (fun xs H Q => ∃ p ys, xs = [.ref p] ∧ (SqL X.K H p ys ∨ SqT X.K H p ys) ∧ ∀ l, H l = none → Q (.ref l) (upd H l (.lst ys))) := by
  intro pins s σ H xs us Q I r h
  obtain ⟨p, ys, rfl, hq, q⟩ := h
  obtain ⟨u, rfl, rx⟩ := vals1 r
  cases rx
  have fin : ∀ (its : List Value), Vals ys its → ys.length ≤ sizeLine → ∀ (h' : Heap) (c' : Nat), (∀ b o', s.heap.get? b = some o' → h'.get? b = some o') →
      h'.get? s.heap.objs.size = some { cls := .type "list", dict := none, data := .seq its.toArray c', slots := #[] } → EP X pins σ Q (.ref s.heap.objs.size) { s with heap := h' } := fun its r' hz h' c' kp e =>
    ⟨.ref s.heap.objs.size, _, I.laid (t' := s.toks) kp (Nat.le_refl _) (show ObjOk X.prog X.w _ h' _ (.lst ys) from ⟨hz, its, c', r', e⟩), rfl, q _ (I.hok.fresh (Nat.le_refl _))⟩
  rcases hq with hq | hq
  · obtain ⟨its, r', pl, hz⟩ := I.list hq
    have hlen := r'.length
    obtain ⟨o, ho, hc, n, hd⟩ := pl.isList
    exact call_list_seq p (.inl rfl) ho hc hd (fun h' c' kp e => fin its r' hz h' c' kp e) (by simp only [List.size_toArray] <;> omega)
  · obtain ⟨its, r', pl, hz⟩ := I.tuple hq
    have hlen := r'.length
    obtain ⟨o, ho, hc, n, hd⟩ := pl
    exact call_list_seq p (.inr rfl) ho hc hd (fun h' c' kp e => fin its r' hz h' c' kp e) (by simp only [List.size_toArray] <;> omega)
theorem call_tuple_of : CallR X (.type "tuple") (fun xs H Q => ∃ p ys, xs = [.ref p] ∧ ((SqL X.K H p ys ∧ ∀ l, H l = none → Q (.ref l) (upd H l (.tup ys))) ∨ (SqT X.K H p ys ∧ Q (.ref p) H))) := by
  intro pins s σ H xs us Q I r h
  obtain ⟨p, ys, rfl, h⟩ := h
  obtain ⟨u, rfl, rx⟩ := vals1 r
  cases rx
  rcases h with ⟨hq, q⟩ | ⟨hq, q⟩
  · obtain ⟨its, r', pl, hz⟩ := I.list hq
    have hlen := r'.length
    refine call_tuple_list pl.isList (fun h' kp => ?_) (by simp only [List.size_toArray] <;> omega)
    have I1 : Inv X pins σ H { s with heap := h' } := I.kept (t' := s.toks) kp
    have I2 : Inv X pins σ (upd H h'.objs.size (.tup ys)) { s with heap := h'.push { cls := .type "tuple", data := .seq its.toArray } } :=
      I1.laid (t' := s.toks) (fun b o e => Heap.get?_push_of_some _ e) (Nat.le_refl _) (show ObjOk X.prog X.w _ _ _ (.tup ys) from ⟨hz, its, r', IsTup.new _ _⟩)
    exact ⟨.ref h'.objs.size, _, I2, rfl, q _ (I1.hok.fresh (Nat.le_refl _))⟩
  · obtain ⟨its, r', pl, hz⟩ := I.tuple hq
    exact call_tuple_same pl ⟨.ref p, H, I, rfl, q⟩

/-! ### the call of a builtin's method: o.m(..) -/
/-- the value is of that builtin type -/
def tyV (K : PySem.W.Frag) (T : String) (x : V) (H : Hp) : Prop := match x with
  | .str _ => T = "str"
  | .int _ => T = "int"
  | .ref p => (T = "list" ∧ ∃ xs, SqL K H p xs) ∨ (T = "tuple" ∧ ∃ o, K.lookup p = some o ∧ o.cls = .type "tuple" ∧ o.dict = none) ∨
      (T = "dict" ∧ ((∃ kvs, H p = some (.dK kvs)) ∨ ∃ kvs, H p = some (.dT kvs))) ∨ (T = "set" ∧ ∃ S n, H p = some (.set S n))
  | _ => False
theorem tyV_is {pins : List (Addr × Obj)} {σ : St} {H : Hp} {s : Shared} {T : String} {x : V} {v : Value} (I : Inv X pins σ H s) (r : RelV x v) (ty : tyV X.K T x H) :
    s.TypeIs v T ∧ ∀ a, v = .ref a → ∃ ob, s.heap.get? a = some ob ∧ ob.dict = none := by
  cases x with
  | str z =>
    obtain ⟨t, rfl⟩ := r
    cases (show T = "str" from ty)
    exact ⟨typeIs_str s z t, fun _ e => nomatch e⟩
  | int i =>
    obtain ⟨t, rfl⟩ := r
    cases (show T = "int" from ty)
    exact ⟨typeIs_int s i t, fun _ e => nomatch e⟩
  | ref p =>
    cases r
    rcases ty with ⟨rfl, xs, hq⟩ | ⟨rfl, o, hk, hc, hd⟩ | ⟨rfl, hk⟩ | ⟨rfl, S, n, hk⟩
    · obtain ⟨its, _, pl, _⟩ := I.list hq
      refine ⟨pl.isList.typeIs, fun a e => ?_⟩
      cases e
      obtain ⟨o, n, e, c, hd, _⟩ := pl
      exact ⟨o, e, hd⟩
    · refine ⟨⟨o, I.kIn p o hk, hc⟩, fun a e => ?_⟩
      cases e
      exact ⟨o, I.kIn _ o hk, hd⟩
    · have z : ∃ o, s.heap.get? p = some o ∧ o.ExactDict := by
        rcases hk with ⟨kvs, hk⟩ | ⟨kvs, hk⟩
        · obtain ⟨_, _, _, _, o, _, _, e, ex, _⟩ := I.hok p _ hk
          exact ⟨o, e, ex⟩
        · obtain ⟨_, _, _, _, o, _, _, e, ex, _⟩ := I.hok p _ hk
          exact ⟨o, e, ex⟩
      obtain ⟨o, e, ex⟩ := z
      refine ⟨⟨o, e, ex.1⟩, fun a e2 => ?_⟩
      cases e2
      exact ⟨o, e, ex.2.1⟩
    · obtain ⟨o, _, _, _, e, ex, _⟩ := I.hok p _ hk
      refine ⟨⟨o, e, ex.1⟩, fun a e2 => ?_⟩
      cases e2
      exact ⟨o, e, ex.2.1⟩
  | _ => exact False.elim ty
def tBM0 (K : PySem.W.Frag) (T : String) (r : V → List V → Hp → VK → Prop) (to : TE) : TE := fun σ H Q => to σ H fun x H1 => tyV K T x H1 ∧ r x [] H1 Q
def tBM (K : PySem.W.Frag) (T : String) (r : V → List V → Hp → VK → Prop) (to : TE) (t : TA) : TE := fun σ H Q => to σ H fun x H1 => tyV K T x H1 ∧ t σ H1 fun xs H2 => r x xs H2 Q
variable {o e : Expr} {es : List Expr} {to : TE} {t : TA} {name : Str} {apos cpos : Pos} {T id : String} {r : V → List V → Hp → VK → Prop}
theorem pe_bm0 (pa : PlainAttrs T) (slot : Slot T name id) (hty : typeOf (.builtin id) = pure (.type "method_descriptor")) (hm : MtR X id r) (ho : PE X o to)
    (hbase : attributeBase o name X.env (eval o X.env) = eval o X.env := by rfl) (hline : (apos.endLine == cpos.line) = true := by rfl) : PE X (.Call (.Attribute o name apos) [] [] cpos) (tBM0 X.K T r to) := by
  intro pins s σ H Q I h
  refine wpAny_Call_method0_late hbase hline (thn (ho pins s σ H _ I h) fun v s1 ⟨x, H1, I1, r1, ty, q1⟩ => ?_)
  obtain ⟨h1, h2⟩ := tyV_is I1 r1 ty
  exact ⟨T, id, pa, slot, hty, h1, h2, Calls.callWith_builtin rfl (PySem.evalArgs_none (hm pins s1 σ H1 x [] v [] Q I1 r1 .nil q1))⟩
theorem pe_bm (pa : PlainAttrs T) (slot : Slot T name id) (hty : typeOf (.builtin id) = pure (.type "method_descriptor")) (hm : MtR X id r) (ho : PE X o to) (ha : PA X (e :: es) t)
    (hbase : attributeBase o name X.env (eval o X.env) = eval o X.env := by rfl)
    (hfew : ((backTo cpos (starEach (e :: es) X.env)).all (fun x => !x.1) && (backToKw cpos (keywordEach [] X.env)).all (fun x => x.1.isSome)
      && decide ((e :: es).length + ([] : List Keyword).length + (if ([] : List Keyword).isEmpty then 0 else 1) < 30)) = true := by rfl)
    (hline : (apos.endLine == cpos.line) = true := by rfl) (hs : starEach (e :: es) X.env = (false, eval e X.env) :: starEach es X.env := by rfl) (hplain : (backTo cpos (starEach es X.env)).any (·.1) = false := by rfl) :
    PE X (.Call (.Attribute o name apos) (e :: es) [] cpos) (tBM X.K T r to t) := by
  intro pins s σ H Q I h
  refine wpAny_Call_method_late hbase hfew hline rfl (thn (ho pins s σ H _ I h) fun v s1 ⟨x, H1, I1, r1, ty, q1⟩ => ?_)
  obtain ⟨h1, h2⟩ := tyV_is I1 r1 ty
  refine ⟨T, id, pa, slot, hty, h1, h2, ?_⟩
  have hA := ha cpos pins s1 σ H1 _ I1 q1
  rw [hs] at hA ⊢
  refine Calls.callWith_builtin (by show (false || (backTo cpos (starEach es X.env)).any (·.1)) = false; rw [hplain] <;> rfl) (Calls.evalArgs_plain ?_)
  exact thn hA fun us s2 ⟨vs, H2, I2, r2, q2⟩ => hm pins s2 σ H2 x vs v us Q I2 r1 r2 q2
/- xs.append(e), list.index on a module's tuple .. are MtR facts of 06m -/
end
end L2

namespace L2
open PySem PySem.Spec PyProof.Rows

def MtM (X : Cx) (id : String) (r : V → List V → Hp → VK → Prop) : Prop :=
  ∀ (pins : List (Addr × Obj)) (s : Shared) (σ : St) (H : Hp) (x : V) (xs : List V) (v : Value) (us : List Value) (Q : VK), Inv X pins σ H s → RelV x v → Vals xs us → r x xs H Q →
    wpAny (model X.prog X.w) X.A (call (.builtin id) (v :: us)) (EP X pins σ Q) X.xe s

/-! ### lists of values -/
theorem Vals.one : ∀ {x : V} {us : List Value}, Vals [x] us → ∃ u, us = [u] ∧ RelV x u
  | _, _, .cons r .nil => ⟨_, rfl, r⟩
theorem Vals.two : ∀ {x y : V} {us : List Value}, Vals [x, y] us → ∃ u v, us = [u, v] ∧ RelV x u ∧ RelV y v
  | _, _, _, .cons r (.cons q .nil) => ⟨_, _, rfl, r, q⟩
theorem Vals.zero : ∀ {us : List Value}, Vals [] us → us = []
  | _, .nil => rfl
theorem Vals.dropLast {xs : List V} {us : List Value} (h : Vals xs us) : Vals xs.dropLast us.dropLast := by
  induction h with
  | nil => exact .nil
  | cons r t ih =>
    cases t with
    | nil => exact .nil
    | cons q t' => exact .cons r ih
theorem Vals.eraseIdx : ∀ {xs : List V} {us : List Value} (i : Nat), Vals xs us → Vals (xs.eraseIdx i) (us.eraseIdx i)
  | _, _, _, .nil => .nil
  | _, _, 0, .cons _ t => t
  | _, _, i + 1, .cons r t => .cons r (Vals.eraseIdx i t)
theorem Vals.reverse {xs : List V} {us : List Value} (h : Vals xs us) : Vals xs.reverse us.reverse := by
  induction h with
  | nil => exact .nil
  | cons r t ih => rw [List.reverse_cons, List.reverse_cons]; exact Vals.append ih (.cons r .nil)
theorem Vals.rep {xs : List V} {us : List Value} (h : Vals xs us) : ∀ k : Nat, Vals (List.replicate k xs).flatten (List.replicate k us).flatten
  | 0 => .nil
  | k + 1 => by
    rw [List.replicate_succ, List.replicate_succ, List.flatten_cons, List.flatten_cons]
    exact Vals.append h (Vals.rep h k)
theorem erase_last {α : Type} (l : List α) : l.eraseIdx (l.length - 1) = l.dropLast := by
  induction l with
  | nil => rfl
  | cons a r ih =>
    cases r with
    | nil => rfl
    | cons b r =>
      have e : (a :: b :: r).length - 1 = ((b :: r).length - 1) + 1 := by
        have h1 : (a :: b :: r).length = r.length + 2 := rfl
        have h2 : (b :: r).length = r.length + 1 := rfl
        omega
      rw [e, List.eraseIdx_cons_succ, ih]
      all_goals rfl
theorem len_erase {α : Type} : ∀ (l : List α) (i : Nat), (l.eraseIdx i).length ≤ l.length
  | [], _ => Nat.le_refl _
  | _ :: _, 0 => Nat.le_succ _
  | _ :: r, i + 1 => Nat.succ_le_succ (len_erase r i)
theorem foldl_rep (its : List Value) : ∀ (k : Nat) (acc : List Value),
    List.foldl (fun x1 x2 => x1 ++ x2) acc.toArray (List.replicate k its.toArray) = (acc ++ (List.replicate k its).flatten).toArray
  | 0, acc => by simp
  | k + 1, acc => by
    have e : acc.toArray ++ its.toArray = (acc ++ its).toArray := by simp
    have e2 : (acc ++ its) ++ (List.replicate k its).flatten = acc ++ (List.replicate (k + 1) its).flatten := by
      rw [List.replicate_succ, List.flatten_cons, List.append_assoc]
    rw [← e2, ← foldl_rep its k (acc ++ its), ← e, List.replicate_succ, List.foldl_cons]

section
variable {X : Cx} {pins : List (Addr × Obj)} {σ : St} {H : Hp} {s : Shared} {l b : Addr} {xs ys zs : List V}

/-! ### the two steps: a tracked list is rewritten, a new list is laid -/
theorem Inv.lset {its its' : List Value} {n : Nat} {f : Array Value → Array Value} {t' : Nat} (I : Inv X pins σ H s) (hH : H l = some (.lst xs))
    (e : s.heap.get? l = some { cls := .type "list", data := .seq its.toArray n }) (hf : f its.toArray = its'.toArray) (hv : Vals ys its') (hz : ys.length ≤ sizeLine) :
    Inv X pins σ (upd H l (.lst ys)) { s with heap := s.heap.update l (Obj.mapSeq f), toks := t' } := by
  have q := PySem.IsL.update e f
  rw [hf] at q
  refine I.write (x := l) (e := l) (by rw [hH]; exact trivial) (.inl rfl) (fun b' u hb hu => (Heap.get?_update_other s.heap (Obj.mapSeq f) (Ne.symm hb)).trans hu) ⟨_, q⟩ ?_
  exact ⟨hz, its', _, hv, q⟩
theorem Inv.lnew {its : List Value} {t' : Nat} (I : Inv X pins σ H s) (hv : Vals ys its) (hz : ys.length ≤ sizeLine) :
    Inv X pins σ (upd H s.heap.objs.size (.lst ys)) { s with heap := s.heap.push { cls := .type "list", data := .seq its.toArray }, toks := t' } :=
  I.laid (fun _ _ q => Heap.get?_push_of_some _ q) (Nat.le_refl _) ⟨hz, its, 0, hv, Heap.get?_push_size _ rfl⟩
theorem Inv.fresh (I : Inv X pins σ H s) : H s.heap.objs.size = none := I.hok.fresh (Nat.le_refl _)
theorem Inv.lstM (I : Inv X pins σ H s) (hH : H l = some (.lst xs)) : xs.length ≤ sizeLine ∧ ∃ (its : List Value) (n : Nat), Vals xs its ∧ xs.length = its.length ∧ s.heap.get? l = some { cls := .type "list", data := .seq its.toArray n } := by
  obtain ⟨z, its, n, r, e⟩ := I.hok l _ hH
  exact ⟨z, its, n, r, r.length, e⟩

theorem notLongL {n : Nat} (h : n ≤ sizeLine) : Builtin.List.listTooLong n = false := by
  unfold Builtin.List.listTooLong
  exact decide_eq_false (by omega)
end

section
variable {X : Cx}

/-! ### methods -/
def rAppend : V → List V → Hp → VK → Prop := fun x vs H Q => ∃ l xs y, x = .ref l ∧ vs = [y] ∧ H l = some (.lst xs) ∧ xs.length < sizeLine ∧ Q .non (upd H l (.lst (xs ++ [y])))
theorem mt_append : MtM X "list.append" rAppend := by
  intro pins s σ H x vs v us Q I rx rv h
  obtain ⟨l, xs, y, rfl, rfl, hH, hz, q⟩ := h
  cases rx
  obtain ⟨u, rfl, ru⟩ := rv.one
  obtain ⟨z, its, n, r, hl, e⟩ := I.lstM hH
  refine call_meets F.slot_list_append ⟨_, e, rfl⟩ F.entry_list_append (F.args_list_append_2 _ _) (PySem.list_append l its.toArray n u (by rw [List.size_toArray]; omega)) ⟨e, ?_⟩
  refine ⟨.non, _, I.lset (its' := its ++ [u]) hH e (by simp) (r.append (.cons ru .nil)) ?_, rfl, q⟩
  rw [List.length_append, List.length_singleton]
  omega

def rExtend : V → List V → Hp → VK → Prop := fun x vs H Q => ∃ l b xs zs, x = .ref l ∧ vs = [.ref b] ∧ H l = some (.lst xs) ∧ H b = some (.lst zs) ∧ xs.length + zs.length ≤ sizeLine ∧ Q .non (upd H l (.lst (xs ++ zs)))
theorem mt_extend : MtM X "list.extend" rExtend := by
  intro pins s σ H x vs v us Q I rx rv h
  obtain ⟨l, b, xs, zs, rfl, rfl, hH, hB, hz, q⟩ := h
  cases rx
  obtain ⟨u, rfl, ru⟩ := rv.one
  cases ru
  obtain ⟨z, its, n, r, hl, e⟩ := I.lstM hH
  obtain ⟨z2, its2, n2, r2, hl2, e2⟩ := I.lstM hB
  have hsz : its.toArray.size + its2.toArray.size ≤ sizeLine := by rw [List.size_toArray, List.size_toArray]; omega
  have hlong : ¬ (!its.toArray.isEmpty && Builtin.List.listTooLong (its.toArray.size + its2.toArray.size)) = true := by
    rw [notLongL hsz, Bool.and_false]
    exact Bool.false_ne_true
  refine call_meets F.slot_list_extend ⟨_, e, rfl⟩ F.entry_list_extend (F.args_list_extend_2 _ _)
    (AutoSeq1.list_extend_list_list_0 l its.toArray n b its2.toArray n2 hlong (by rw [List.size_toArray]; omega) (by omega)) ⟨e, e2, ?_⟩
  refine ⟨.non, _, I.lset (its' := its ++ its2) hH e (by simp) (r.append r2) ?_, rfl, q⟩
  rw [List.length_append]
  omega

def rPop : V → List V → Hp → VK → Prop := fun x vs H Q => ∃ l xs y, x = .ref l ∧ vs = [] ∧ H l = some (.lst xs) ∧ xs[xs.length - 1]? = some y ∧ Q y (upd H l (.lst xs.dropLast))
theorem mt_pop : MtM X "list.pop" rPop := by
  intro pins s σ H x vs v us Q I rx rv h
  obtain ⟨l, xs, y, rfl, rfl, hH, hy, q⟩ := h
  cases rx
  have hus := rv.zero
  subst hus
  obtain ⟨z, its, n, r, hl, e⟩ := I.lstM hH
  obtain ⟨u, hu, ru⟩ := r.get hy
  have hy' : its.toArray[its.toArray.size - 1]? = some u := by
    show its.toArray[its.length - 1]? = some u
    rw [← Array.getElem?_toList, ← hl]
    exact hu
  refine call_meets F.slot_list_pop ⟨_, e, rfl⟩ F.entry_list_pop (F.args_list_pop_1 _) (MeetsSeq.list_pop_last l its.toArray n u hy' (by rw [List.size_toArray]; omega)) ⟨e, ?_⟩
  refine ⟨y, _, I.lset (its' := its.dropLast) hH e ?_ r.dropLast ?_, ru, q⟩
  · show its.toArray.eraseIdxIfInBounds (its.toArray.size - 1) = its.dropLast.toArray
    rw [List.size_toArray, List.eraseIdxIfInBounds_toArray, erase_last]
  · rw [List.length_dropLast]
    omega

def rPopAt : V → List V → Hp → VK → Prop := fun x vs H Q => ∃ l xs i k y, x = .ref l ∧ vs = [.int i] ∧ H l = some (.lst xs) ∧ -(2 ^ 63) ≤ i ∧ i < 2 ^ 63 ∧ seqIndex? i xs.length = some k ∧ xs[k]? = some y ∧ Q y (upd H l (.lst (xs.eraseIdx k)))
theorem mt_popAt : MtM X "list.pop" rPopAt := by
  intro pins s σ H x vs v us Q I rx rv h
  obtain ⟨l, xs, i, k, y, rfl, rfl, hH, h1, h2, hk, hy, q⟩ := h
  cases rx
  obtain ⟨u, rfl, ru⟩ := rv.one
  obtain ⟨t, rfl⟩ := ru
  obtain ⟨z, its, n, r, hl, e⟩ := I.lstM hH
  obtain ⟨w, hw, rw'⟩ := r.get hy
  refine call_meets F.slot_list_pop ⟨_, e, rfl⟩ F.entry_list_pop (F.args_list_pop_2 _ _)
    (MeetsSeq.list_pop_at l its.toArray n i t k w (fitsIndex_both h1 h2) (by rw [List.size_toArray, ← hl]; exact hk) (by rw [← Array.getElem?_toList]; exact hw) (by rw [List.size_toArray]; omega)) ⟨e, ?_⟩
  refine ⟨y, _, I.lset (its' := its.eraseIdx k) hH e ?_ (r.eraseIdx k) ?_, rw', q⟩
  · show its.toArray.eraseIdxIfInBounds k = (its.eraseIdx k).toArray
    rw [List.eraseIdxIfInBounds_toArray]
  · have := len_erase xs k
    omega

def rReverse : V → List V → Hp → VK → Prop := fun x vs H Q => ∃ l xs, x = .ref l ∧ vs = [] ∧ H l = some (.lst xs) ∧ Q .non (upd H l (.lst xs.reverse))
theorem mt_reverse : MtM X "list.reverse" rReverse := by
  intro pins s σ H x vs v us Q I rx rv h
  obtain ⟨l, xs, rfl, rfl, hH, q⟩ := h
  cases rx
  have hus := rv.zero
  subst hus
  obtain ⟨z, its, n, r, hl, e⟩ := I.lstM hH
  refine call_meets F.slot_list_reverse ⟨_, e, rfl⟩ F.entry_list_reverse (F.args_list_reverse_1 _) (AutoSeq1.list_reverse_list_0 l its.toArray n (by rw [List.size_toArray]; omega)) ⟨e, ?_⟩
  refine ⟨.non, _, I.lset (its' := its.reverse) hH e (by simp) r.reverse ?_, rfl, q⟩
  rw [List.length_reverse]
  omega

def rClear : V → List V → Hp → VK → Prop := fun x vs H Q => ∃ l xs, x = .ref l ∧ vs = [] ∧ H l = some (.lst xs) ∧ Q .non (upd H l (.lst []))
theorem mt_clear : MtM X "list.clear" rClear := by
  intro pins s σ H x vs v us Q I rx rv h
  obtain ⟨l, xs, rfl, rfl, hH, q⟩ := h
  cases rx
  have hus := rv.zero
  subst hus
  obtain ⟨z, its, n, r, hl, e⟩ := I.lstM hH
  refine call_meets F.slot_list_clear ⟨_, e, rfl⟩ F.entry_list_clear (F.args_list_clear_1 _) (AutoSeq1.list_clear_list_0 l its.toArray n (by rw [List.size_toArray]; omega)) ⟨e, ?_⟩
  exact ⟨.non, _, I.lset (its' := []) (ys := []) hH e rfl .nil (Nat.zero_le _), rfl, q⟩

/-! ### list + list, list += list, list * int -/
def rCat : R2 := fun x y H Q => ∃ l b xs zs, x = .ref l ∧ y = .ref b ∧ H l = some (.lst xs) ∧ H b = some (.lst zs) ∧ xs.length + zs.length ≤ sizeLine ∧ ∀ p, H p = none → Q (.ref p) (upd H p (.lst (xs ++ zs)))
theorem op_cat : OpR X (binaryOp .Add) rCat := by
  intro pins s σ H x y v u Q I rx ry h
  obtain ⟨l, b, xs, zs, rfl, rfl, hH, hB, hz, q⟩ := h
  cases rx
  cases ry
  obtain ⟨z, its, n, r, hl, e⟩ := I.lstM hH
  obtain ⟨z2, its2, n2, r2, hl2, e2⟩ := I.lstM hB
  refine PySem.P.add_list e e2 ?_ (by rw [List.size_toArray, List.size_toArray]; omega)
  have ea : its.toArray ++ its2.toArray = (its ++ its2).toArray := by simp
  rw [ea]
  exact ⟨.ref _, _, I.lnew (t' := s.toks) (r.append r2) (by rw [List.length_append]; omega), rfl, q _ I.fresh⟩
/-- a list times an int (a negative one is nothing) -/
def rRep : R2 := fun x y H Q => ∃ l k xs, x = .ref l ∧ y = .int k ∧ H l = some (.lst xs) ∧ -(2 ^ 63) ≤ k ∧ k < 2 ^ 63 ∧ xs.length * k.toNat ≤ sizeLine ∧
  ∀ p, H p = none → Q (.ref p) (upd H p (.lst (List.replicate k.toNat xs).flatten))
theorem len_rep {α : Type} (xs : List α) (k : Nat) : (List.replicate k xs).flatten.length = k * xs.length := by
  induction k with
  | zero => simp
  | succ k ih => rw [List.replicate_succ, List.flatten_cons, List.length_append, ih, Nat.succ_mul, Nat.add_comm]
theorem op_rep : OpR X (binaryOp .Mult) rRep := by
  intro pins s σ H x y v u Q I rx ry h
  obtain ⟨l, k, xs, rfl, rfl, hH, h1, h2, hz, q⟩ := h
  cases rx
  obtain ⟨t, rfl⟩ := ry
  obtain ⟨z, its, n, r, hl, e⟩ := I.lstM hH
  have hlen : its.toArray.size * k.toNat ≤ sizeLine := by rw [List.size_toArray, ← hl]; exact hz
  have hcap : ¬ its.toArray.size * k.toNat > (2 ^ 63 - 1) / 8 := by
    have : (sizeLine : Nat) ≤ (2 ^ 63 - 1) / 8 := by decide
    omega
  have hfit : ¬ (!Builtin.List.listFitsIndex k) = true := by
    rw [fitsIndex_both h1 h2]
    exact Bool.false_ne_true
  have hlong : ¬ Builtin.List.listTooLong (its.toArray.size * k.toNat) = true := by
    rw [notLongL hlen]
    exact Bool.false_ne_true
  have hnew : List.foldl (fun x1 x2 => x1 ++ x2) #[] (List.replicate (if its.toArray.isEmpty = true then 0 else k.toNat) its.toArray) = (List.replicate k.toNat its).flatten.toArray := by
    have f0 : ∀ m : Nat, List.foldl (fun x1 x2 => x1 ++ x2) #[] (List.replicate m its.toArray) = (List.replicate m its).flatten.toArray := fun m => by
      have := foldl_rep its m []
      rw [List.nil_append] at this
      exact this
    rw [f0]
    cases its with
    | nil => simp
    | cons a r' => rw [if_neg (by simp)]
  refine wpAny_binaryOp_repeat_ref (T := "list") (U := "int") (by decide) ⟨_, e, rfl⟩ (fun s' => typeIs_int s' k t) noFill_list_mul F.fills_int_mul F.slot_int_rmul repeat_list F.slot_int_index.lookup
    (call_meets F.slot_int_rmul (typeIs_int s k t) F.entry_int_rmul (F.args_int_rmul_2 _ _) (int___rmul___int_list k t l its.toArray n)
      ⟨e, rfl, ⟨_, e, rfl⟩, call_meets F.slot_list_mul ⟨_, e, rfl⟩ F.entry_list_mul (F.args_list_mul_2 _ _) (AutoListH.list___mul___list_int_3 l its.toArray n k t hfit hcap hlong) ⟨e, ?_⟩⟩)
  rw [hnew]
  exact ⟨.ref _, _, I.lnew (t' := s.toks) (r.rep k.toNat) (by rw [len_rep, Nat.mul_comm]; exact hz), rfl, q _ I.fresh⟩

/-! ### del xs[i] -/
theorem del_list {pins : List (Addr × Obj)} {s : Shared} {σ : St} {H : Hp} {l : Addr} {xs : List V} {i : Int} {t : Tok} {k : Nat} {Q : Unit → Shared → Prop} (I : Inv X pins σ H s) (hH : H l = some (.lst xs))
    (h1 : -(2 ^ 63) ≤ i) (h2 : i < 2 ^ 63) (hk : seqIndex? i xs.length = some k) (h : ∀ s', Inv X pins σ (upd H l (.lst (xs.eraseIdx k))) s' → Q () s') :
    wpAny (model X.prog X.w) X.A (delItem (.ref l) (.int i t)) Q X.xe s := by
  obtain ⟨z, its, n, r, hl, e⟩ := I.lstM hH
  refine PySem.P.delItem_list (k := k) e (fitsIndex_both h1 h2) (by rw [List.size_toArray, ← hl]; exact hk) (h _ ?_) (by rw [List.size_toArray]; omega)
  refine I.lset (its' := its.eraseIdx k) (t' := s.toks) hH e ?_ (r.eraseIdx k) ?_
  · show its.toArray.eraseIdxIfInBounds k = (its.eraseIdx k).toArray
    rw [List.eraseIdxIfInBounds_toArray]
  · have := len_erase xs k
    omega
end

/-! ### xs[a:b] = ys -/
section
variable {prog : Program} {w : World} {A : Around} {E : Value → Shared → Prop} {s : Shared}
theorem splice_eq (its its2 : List Value) (a c : Nat) : its.toArray.extract 0 a ++ its2.toArray ++ its.toArray.extract c its.toArray.size = (its.take a ++ its2 ++ its.drop c).toArray := by
  apply Array.toList_inj.mp
  first
    | (simp
       exact List.take_of_length_le (by simp))
    | simp [List.take_of_length_le]
    | simp
theorem bounds_run {a c n : Nat} (hac : a ≤ c) (hc : c ≤ n) : sliceBounds (some (a : Int)) (some (c : Int)) none n = ((a : Int), (c : Int), 1) := by
  simp only [sliceBounds, Option.getD_none]
  have h1 : ¬ ((a : Int) < 0) := by omega
  have h2 : ¬ ((c : Int) < 0) := by omega
  simp only [h1, h2, if_false, show (1 : Int) > 0 by decide, if_true]
  congr 1
  · omega
  · congr 1; omega
set_option maxRecDepth 100000 in
/-- list.__setitem__ with a slice of step one and another list -/
theorem setItem_slice {l b sl : Addr} {items new : Array Value} {n n2 : Nat} {vl vu : Value} {a c : Nat} {Q : Unit → Shared → Prop}
    (e : s.heap.get? l = some { cls := .type "list", data := .seq items n }) (e2 : s.heap.get? b = some { cls := .type "list", data := .seq new n2 }) (hne : l ≠ b)
    (hs : s.heap.IsSliceOf sl vl vu .none) (pl : IsPart vl (some (a : Int))) (pu : IsPart vu (some (c : Int))) (hac : a ≤ c) (hc : c ≤ items.size)
    (hsz : items.size + new.size ≤ sizeLine) (h : Q () { s with heap := s.heap.update l (Obj.mapSeq fun xs => xs.extract 0 a ++ new ++ xs.extract c xs.size) }) :
    wpAny (model prog w) A (setItem (.ref l) (.ref sl) (.ref b)) Q E s := by
  have hl : s.heap.IsList l items := PySem.IsL.isList e
  have hb : s.heap.IsList b new := PySem.IsL.isList e2
  obtain ⟨os, hos, hcs, hds⟩ := id hs
  have hTs : s.TypeIs (.ref sl) "slice" := ⟨os, hos, hcs⟩
  have hstep : ¬ ((rawPart none == rawInt 0) = true) := Bool.false_ne_true
  have hsame : Builtin.List.listSameRef (.ref l) (.ref b) = false := by
    unfold Builtin.List.listSameRef
    exact beq_eq_false_iff_ne.mpr hne
  have hmax : (max (a : Int) (c : Int)).toNat = c := by omega
  have hz' : ((fun xs : Array Value => xs.extract 0 a ++ new ++ xs.extract c xs.size) items).size ≤ sizeLine + 1 := by
    simp only [Array.size_append, Array.size_extract]
    omega
  unfold setItem
  try with_reducible refine wpAny_holding ?_
  first | refine wpAny_bind (wpAny_pure ?_) | skip
  refine wpAny_bind (wpAny_sequenceKey hl.typeIs (by decide) ?_)
  refine wpAny_bind (wpAny_callSpecial?_slot (name := Str.ofString "__setitem__") hl.typeIs slot_list_setitem
    (wpAny_call_entry slot_list_setitem hl.typeIs entry_list_setitem ?_ (args_list_setitem _ _ _)))
  show wpAny _ _ (Builtin.List.listSubscript? (.ref sl) >>= _) _ _ s
  refine wpAny_bind ?_
  unfold Builtin.List.listSubscript?
  refine wpAny_bind (wpAny_specialOf hTs slice_no_index ?_)
  simp only [Option.isNone_none, if_true]
  refine wpAny_pure ?_
  show wpAny _ _ (typeOf (.ref sl) >>= _) _ _ s
  refine wpAny_bind (wpAny_typeOf hTs ?_)
  first
    | rw [if_neg (by decide)]
    | refine PySem.W.KFB.if_not (by decide) ?_
  rw [listSliceParts_eq]
  refine wpAny_bind (wpAny_bind (wpAny_field hos hds (x := .none) rfl (wpAny_bind (wpAny_listPart .none ?_))))
  rw [if_neg hstep]
  refine wpAny_bind (wpAny_field hos hds (x := vl) rfl (wpAny_bind (wpAny_listPart pl ?_)))
  refine wpAny_bind (wpAny_field hos hds (x := vu) rfl (wpAny_bind (wpAny_listPart pu (wpAny_pure ?_))))
  first
    | simp only [hsame, Bool.false_eq_true, if_false]
    | refine PySem.W.KFB.if_not hsame ?_
    | (dsimp only
       rw [if_neg (by rw [hsame]; exact Bool.false_ne_true)])
  refine wpAny_bind (m := Builtin.List.listAllItems (.ref b) "must assign iterable to extended slice") ?_
  unfold Builtin.List.listAllItems
  refine wpAny_bind (wpAny_typeOf hb.typeIs ?_)
  first
    | refine PySem.W.KFB.if_so (by decide) ?_
    | rw [if_pos (by decide)]
    | simp only [beq_self_eq_true, Bool.true_or, if_true]
  unfold Builtin.List.listItems
  refine wpAny_bind (wpAny_seqItems e2 rfl (wpAny_pure ?_))
  refine wpAny_bind (wpAny_bind (wpAny_seqItems e rfl (wpAny_pure ?_)))
  refine wpAny_bind (wpAny_of_eq ((sliceIndices_raw (some (a : Int)) (some (c : Int)) none items.size (by simp)).trans (congrArg (pure : Int × Int × Int → Sem (Int × Int × Int)) (bounds_run hac hc))) ?_)
  show wpAny _ _ (if ((1 : Int) == 1) = true then _ else _) _ _ s
  rw [if_pos (by decide)]
  refine wpAny_bind (wpAny_rule ?_)
  first
    | simp only [notLongL hsz, Bool.false_eq_true, if_false]
    | refine PySem.W.KFB.if_not (notLongL hsz) ?_
  first | refine wpAny_bind (wpAny_pure ?_) | skip
  show wpAny _ _ (updateSeq l (fun xs => xs.extract 0 ((a : Int)).toNat ++ new ++ xs.extract (max (a : Int) (c : Int)).toNat xs.size) >>= _) _ _ s
  rw [hmax, Int.toNat_natCast]
  refine wpAny_bind (wpAny_updateSeq (hz := Nat.le_trans (Nat.le_add_right _ _) hsz) (_hz' := hz') e rfl ?_)
  refine wpAny_bind (wpAny_letGo ?_)
  first
    | exact wpAny_bind (wpAny_pure (wpAny_pure ⟨.none, rfl, wpAny_pure h⟩))
    | exact wpAny_pure ⟨.none, rfl, wpAny_pure h⟩
end

section
variable {X : Cx}
/-- xs[a:c] = ys of another list, at the value level: sl is the slice object that was just made -/
theorem set_slice {pins : List (Addr × Obj)} {s : Shared} {σ : St} {H : Hp} {l b sl : Addr} {xs ys : List V} {a c : Int} {vl vu : Value} {Q : Unit → Shared → Prop} (I : Inv X pins σ H s)
    (hH : H l = some (.lst xs)) (hB : H b = some (.lst ys)) (hne : l ≠ b) (hs : s.heap.IsSliceOf sl vl vu .none) (ra : RelV (.int a) vl) (rc : RelV (.int c) vu) (h0 : 0 ≤ a) (hac : a ≤ c) (hc : c ≤ xs.length)
    (hz : xs.length + ys.length ≤ sizeLine) (h : ∀ s', Inv X pins σ (upd H l (.lst (xs.take a.toNat ++ ys ++ xs.drop c.toNat))) s' → Q () s') :
    wpAny (model X.prog X.w) X.A (setItem (.ref l) (.ref sl) (.ref b)) Q X.xe s := by
  obtain ⟨ta, rfl⟩ := ra
  obtain ⟨tc, rfl⟩ := rc
  obtain ⟨z, its, n, r, hl, e⟩ := I.lstM hH
  obtain ⟨z2, its2, n2, r2, hl2, e2⟩ := I.lstM hB
  obtain ⟨a', rfl⟩ := Int.eq_ofNat_of_zero_le h0
  obtain ⟨c', rfl⟩ := Int.eq_ofNat_of_zero_le (Int.le_trans h0 hac)
  simp only [Int.toNat_natCast] at h
  refine setItem_slice (a := a') (c := c') e e2 hne hs (.int _ _) (.int _ _) (by omega) (by rw [List.size_toArray]; omega) (by rw [List.size_toArray, List.size_toArray]; omega) (h _ ?_)
  refine I.lset (its' := its.take a' ++ its2 ++ its.drop c') (t' := s.toks) hH e ?_ (Vals.append (Vals.append (r.take _) r2) (r.drop _)) ?_
  · exact splice_eq its its2 a' c'
  · rw [List.length_append, List.length_append, List.length_take, List.length_drop]
    omega
end
end L2

namespace Att
open PySem PySem.W PySem.Calls PyProof.Rows

/-! ### the script -/
theorem ints_of_wellAll {P : Params} {h : Heap} : ∀ (ns : List Int) (vs : List Value), WellAll P h vs (ns.map WData.int) → IntsAre vs ns := by
  intro ns
  induction ns with
  | nil =>
    intro vs w
    rw [List.map_nil] at w
    cases w
    exact .nil
  | cons n ns ih =>
    intro vs w
    rw [List.map_cons] at w
    cases w with
    | cons a b =>
      cases a
      exact .cons _ _ (ih _ b)

theorem script_of {l : OpenLaw} {n : Nat} (hn : l.most = some n) {P : Params} {h : Heap} {args : List WData} {vals : List Value}
    (hpre : l.row.toRowW.claim.pre args = true) (hwl : WellAll P h vals args) :
    ∃ a vs ns, vals = [Value.ref a] ∧ args = [WData.list (ns.map WData.int)] ∧ h.get? a = some { cls := .type "list", data := .seq vs.toArray } ∧ IntsAre vs ns ∧ ns.length ≤ n := by
  have hsh : WShape.hasAll [] args [.list .int] = true := (pre_splitW hpre).1
  have hc : l.pre.holds [] { args := args } = true := (pre_splitW hpre).2
  obtain ⟨d, r, rfl, h1, h2⟩ := hasAllW_cons hsh
  obtain rfl := hasAllW_nil h2
  obtain ⟨xs, rfl, h3⟩ := hasW_list h1
  obtain ⟨ns, rfl⟩ := items_int h3
  have hlen : ns.length ≤ n := by
    unfold OpenLaw.pre at hc
    have h4 : (WTm.not (.lt (.lit (.int (n : Int))) (.len (.arg 0)))).holds [] { args := [.list (ns.map .int)] } = true := by
      have h4 := (holds_andW hc).1
      rw [hn] at h4
      exact h4
    have h5 := condW_of h4 (w_not (w_lt w_lit (w_len_list (w_arg rfl))))
    rw [List.length_map] at h5
    refine Nat.le_of_not_lt fun q => ?_
    have q' : (n : Int) < ((ns.length : Nat) : Int) := by omega
    first
      | (rw [decide_eq_true q'] at h5; exact absurd h5 (by decide))
      | (simp at h5; omega)
  cases hwl with
  | cons w1 w2 =>
    cases w2
    cases w1 with
    | list ho hall => exact ⟨_, _, ns, rfl, rfl, ho, ints_of_wellAll ns _ hall, hlen⟩

theorem post_true (l : OpenLaw) (args : List WData) : l.row.toRowW.claim.post args (.bool true) args = true :=
  postW_of (r := l.row.toRowW) (X := (true == true))
    (show WShape.has [] (.bool true) .bool = true by first | rfl | decide | simp [WShape.has, WShape.arms, WShape.armsAll])
    (show (WTm.eq .res (.lit (.bool true))).value [] { args := args, res := some (.bool true), after := args } = some (.bool (true == true)) from w_eq_bool (w_res rfl) w_lit) rfl

/-! ### the attachment: holds_open's last premise (the goal 'hc' behind k_head) from a wpAny of the law's body -/
theorem attach {l : OpenLaw} {n : Nat} {q : Program} {loose : List Str} {XP : (Str → Option Value) → Heap → Prop} {YP : World → Heap → Prop} {d : DefRec} {x : Str}
    (hn : l.most = some n) (hdf : d.params.defaults = [])
    (hbind : ∀ pm cd doc v : Value, bindArgs (docDef d.name d.params d.body d.scope pm cd doc) ⟨[v], []⟩ = pure [(x, v)])
    (hx : d.scope.names.lookup x = some .local ∨ d.scope.names.lookup x = some .cell)
    (hk : d.scope.kind = .function) (hco : d.scope.isCoroutine = false) (hgen : d.scope.isGenerator = false)
    (body : ∀ (w : World) (s₀ s₁ s : Shared) (mg mb : Str → Option Value) (fa : Addr) (o : Obj) (pm cd doc : Value) (a : Addr) (vs : List Value) (ns : List Int),
      Ground q loose [] XP w s₀ mg mb s₁.heap → YP w s₁.heap →
      s₁.heap.get? fa = some o → o.data = .func (docDef d.name d.params d.body d.scope pm cd doc) → s₁.heap.CodeRec cd d.name → mg d.name = some (.ref fa) →
      s₁.heap.get? a = some { cls := .type "list", data := .seq vs.toArray } → IntsAre vs ns → ns.length ≤ n →
      s.gens = #[] → s.os = s₁.os →
      Fr s₁.heap s₁.heap.objs.size s.heap (bindL (envOfC d.name d.scope s₁.heap.objs.size fa cd).kindOf [(x, .ref a)] fun _ => none) →
      Cl s₁.heap.objs.size (cellsFrom (s₁.heap.objs.size + 1) d.scope.names []) s.heap (bindC (envOfC d.name d.scope s₁.heap.objs.size fa cd).kindOf [(x, .ref a)] fun _ => none) →
      wpAny (model l.prog w) (callerA.deeper (envOfC d.name d.scope s₁.heap.objs.size fa cd)) (execs d.body (envOfC d.name d.scope s₁.heap.objs.size fa cd))
        (fun f s' => f = .ret (.bool true) ∧ OldK s₁.heap s'.heap ∧ s'.os = s₁.os ∧ AllBare s'.gens) (fun _ _ => False) s) :
    WalkO q loose XP YP l.row.toRowW d [] (fun f vs => PySem.call f vs) := by
  intro w s₀ s₁ mg mb G Y fa o pm cd doc dV kV ho hd hcd hD hmg hg args vals as hpre hlay hrd hwl hlo
  obtain rfl : dV = .none := Dflts.none hD hdf
  obtain rfl : kV = .none := Dflts.noKw hD
  obtain ⟨a, vs, ns, rfl, rfl, hobj, hints, hlen⟩ := script_of hn hpre hwl
  refine enter_call ?_
  refine call_cells_ret (o := o) (by rw [depth_caller]; decide) ho (fd_plain hd) G.T.nolimit hcd (hbind pm cd doc (.ref a)) (fun y hy => ?_) (fun h₁ tk F X => ?_) hco hgen hk
  · obtain rfl : y = (x, Value.ref a) := List.mem_singleton.mp hy
    rcases hx with e | e
    · exact .inl e
    · exact .inr ⟨e, cellsFrom_some _ _ _ (.inl e)⟩
  · refine wpAny_mono (body w s₀ s₁ { s₁ with heap := h₁, toks := tk } mg mb fa o pm cd doc a vs ns G Y ho (fd_plain hd) hcd hmg hobj hints hlen hg rfl F X) (fun f s' hq => ?_) (fun _ _ hq => hq)
    obtain ⟨rfl, h2, h3, h4⟩ := hq
    exact ⟨.inl ⟨.bool true, .bool true, [], rfl, fun _ => rfl, .bool true, post_true l _, fun _ => ⟨List.Pairwise.nil, fun _ hm => (nomatch hm)⟩⟩, h2, h3, h4⟩

/-- the same from a codeAny of the CALL (for a layer whose function contracts speak of calls) -/
theorem attach_call {l : OpenLaw} {n : Nat} {q : Program} {loose : List Str} {XP : (Str → Option Value) → Heap → Prop} {YP : World → Heap → Prop} {d : DefRec}
    (hn : l.most = some n) (hdf : d.params.defaults = [])
    (call : ∀ (w : World) (s₀ s₁ : Shared) (mg mb : Str → Option Value) (fa : Addr) (o : Obj) (pm cd doc : Value) (a : Addr) (vs : List Value) (ns : List Int),
      Ground q loose [] XP w s₀ mg mb s₁.heap → YP w s₁.heap →
      s₁.heap.get? fa = some o → o.data = .func (docDef d.name d.params d.body d.scope pm cd doc) → s₁.heap.CodeRec cd d.name → mg d.name = some (.ref fa) →
      s₁.heap.get? a = some { cls := .type "list", data := .seq vs.toArray } → IntsAre vs ns → ns.length ≤ n → s₁.gens = #[] →
      codeAny (model l.prog w) callerA (.call (.ref fa) ⟨[.ref a], []⟩) (fun r s' => r = .ok (.ret (.bool true)) ∧ OldK s₁.heap s'.heap ∧ s'.os = s₁.os ∧ AllBare s'.gens) s₁) :
    WalkO q loose XP YP l.row.toRowW d [] (fun f vs => PySem.call f vs) := by
  intro w s₀ s₁ mg mb G Y fa o pm cd doc dV kV ho hd hcd hD hmg hg args vals as hpre hlay hrd hwl hlo
  obtain rfl : dV = .none := Dflts.none hD hdf
  obtain rfl : kV = .none := Dflts.noKw hD
  obtain ⟨a, vs, ns, rfl, rfl, hobj, hints, hlen⟩ := script_of hn hpre hwl
  refine enter_call (codeAny_mono (call w s₀ s₁ mg mb fa o pm cd doc a vs ns G Y ho (fd_plain hd) hcd hmg hobj hints hlen hg) fun r s' hq => ?_)
  obtain ⟨rfl, h2, h3, h4⟩ := hq
  exact ⟨.inl ⟨.bool true, .bool true, [], rfl, fun _ => rfl, .bool true, post_true l _, fun _ => ⟨List.Pairwise.nil, fun _ hm => (nomatch hm)⟩⟩, h2, h3, h4⟩

/-- the same where the top left finished generators (o_head chose holds_openN): nothing may have changed at all and no generator may be left -/
theorem attachN {l : OpenLaw} {n : Nat} {q : Program} {loose : List Str} {XP : (Str → Option Value) → Heap → Prop} {YP : World → Heap → Prop} {d : DefRec} {x : Str}
    (hn : l.most = some n) (hdf : d.params.defaults = [])
    (hbind : ∀ pm cd doc v : Value, bindArgs (docDef d.name d.params d.body d.scope pm cd doc) ⟨[v], []⟩ = pure [(x, v)])
    (hx : d.scope.names.lookup x = some .local ∨ d.scope.names.lookup x = some .cell)
    (hk : d.scope.kind = .function) (hco : d.scope.isCoroutine = false) (hgen : d.scope.isGenerator = false)
    (body : ∀ (w : World) (s₀ s₁ s : Shared) (mg mb : Str → Option Value) (fa : Addr) (o : Obj) (pm cd doc : Value) (a : Addr) (vs : List Value) (ns : List Int),
      Ground q loose [] XP w s₀ mg mb s₁.heap → YP w s₁.heap →
      s₁.heap.get? fa = some o → o.data = .func (docDef d.name d.params d.body d.scope pm cd doc) → s₁.heap.CodeRec cd d.name → mg d.name = some (.ref fa) →
      s₁.heap.get? a = some { cls := .type "list", data := .seq vs.toArray } → IntsAre vs ns → ns.length ≤ n →
      s.gens = #[] → s.os = s₁.os →
      Fr s₁.heap s₁.heap.objs.size s.heap (bindL (envOfC d.name d.scope s₁.heap.objs.size fa cd).kindOf [(x, .ref a)] fun _ => none) →
      Cl s₁.heap.objs.size (cellsFrom (s₁.heap.objs.size + 1) d.scope.names []) s.heap (bindC (envOfC d.name d.scope s₁.heap.objs.size fa cd).kindOf [(x, .ref a)] fun _ => none) →
      wpAny (model l.prog w) (callerA.deeper (envOfC d.name d.scope s₁.heap.objs.size fa cd)) (execs d.body (envOfC d.name d.scope s₁.heap.objs.size fa cd))
        (fun f s' => f = .ret (.bool true) ∧ (∀ b o, s₁.heap.get? b = some o → s'.heap.get? b = some o) ∧ s'.os = s₁.os ∧ s'.gens = #[]) (fun _ _ => False) s) :
    WalkN q loose XP YP l.row.toRowW d [] (fun f vs => PySem.call f vs) := by
  intro w s₀ s₁ mg mb G Y fa o pm cd doc dV kV ho hd hcd hD hmg hg args vals as hpre hlay hrd hwl hlo
  obtain rfl : dV = .none := Dflts.none hD hdf
  obtain rfl : kV = .none := Dflts.noKw hD
  obtain ⟨a, vs, ns, rfl, rfl, hobj, hints, hlen⟩ := script_of hn hpre hwl
  refine enter_callW ?_
  refine call_cells_ret (o := o) (by rw [depth_caller]; decide) ho (fd_plain hd) G.T.nolimit hcd (hbind pm cd doc (.ref a)) (fun y hy => ?_) (fun h₁ tk F X => ?_) hco hgen hk
  · obtain rfl : y = (x, Value.ref a) := List.mem_singleton.mp hy
    rcases hx with e | e
    · exact .inl e
    · exact .inr ⟨e, cellsFrom_some _ _ _ (.inl e)⟩
  · refine wpAny_mono (body w s₀ s₁ { s₁ with heap := h₁, toks := tk } mg mb fa o pm cd doc a vs ns G Y ho (fd_plain hd) hcd hmg hobj hints hlen hg rfl F X) (fun f s' hq => ?_) (fun _ _ hq => hq)
    obtain ⟨rfl, h2, h3, h4⟩ := hq
    exact ⟨.inl ⟨.bool true, .bool true, [], rfl, fun _ => rfl, .bool true, post_true l _, fun _ => ⟨List.Pairwise.nil, fun _ hm => (nomatch hm)⟩⟩, h2, h3, h4⟩

/-! ### rules over ANY heap (no ledger) from facts about the written part K: the library's own take a ledger (News) for what they write -/
section
variable {prog : Program} {w : World} {A : Around} {E : Value → Shared → Prop} {s : Shared} {K : Frag}

/-- a def of the module, or a method (qual 'C.m'), entered: the frame is the next address; cells behind it -/
theorem call_fn {R : Result → Shared → Prop} {name qual : Str} {params : Arguments} {body : List Stmt} {scope : Scope} {dV kV doc pm cdv ct oc : Value} {an od : Option Addr} {osl : Array (Option Value)} {f : Addr} {args : Args} {binds : List (Str × Value)}
    (X : K.In s.heap) (hlim : s.heap.NoLimit) (ho : K.lookup f = some ⟨oc, od, .func (fnOf name qual params body scope dV kV doc pm an cdv ct), osl⟩) (hcd : codeIn K cdv qual = true) (hroom : A.depth < recursionLimit)
    (hbind : BindsTo s (fnOf name qual params body scope dV kV doc pm an cdv ct) args binds)
    (hkind : (binds.all fun y => scope.names.lookup y.1 == some .local || scope.names.lookup y.1 == some .cell) = true)
    (h : ∀ s₁, InCallC s s.heap.objs.size (bindL (envOfC qual scope s.heap.objs.size f cdv).kindOf binds fun _ => none) (cellsFrom (s.heap.objs.size + 1) scope.names [])
        (bindC (envOfC qual scope s.heap.objs.size f cdv).kindOf binds fun _ => none) s₁ →
      wpAny (model prog w) (A.deeper (envOfC qual scope s.heap.objs.size f cdv)) (execs body (envOfC qual scope s.heap.objs.size f cdv))
        (fun fl s' => R (.ok (.ret (match fl with | .ret v => v | _ => .none))) s')
        (fun e s' => wpAny (model prog w) (A.deeper (envOfC qual scope s.heap.objs.size f cdv)) (leaving (envOfC qual scope s.heap.objs.size f cdv) e) (fun _ s'' => R (.error e) s'') (fun e' s'' => R (.error e') s'') s') s₁)
    (hco : scope.isCoroutine = false) (hgen : scope.isGenerator = false) (hk : scope.kind = .function) : codeAny (model prog w) A (.call (.ref f) args) R s := by
  refine codeAny_call_function hroom (X _ _ ho) rfl hco hgen rfl (codeRec_of X hcd) (hbind _ _ _ _ ?_)
  refine wpAny_newFunctionEnv_cells hk (kindsX hkind _) fun env he s₁ x => ?_
  subst he
  exact ⟨hlim.keeps x.toInCall.keep, codeAny_func (h s₁ x)⟩

/-- C(..): dict at size, instance at size + 1, then __init__ -/
theorem make_obj {R : Result → Shared → Prop} {C fI : Addr} {rest : List Value} {kw : List (Str × Value)}
    (X : K.In s.heap) (hm : makesIn K C = true) (hi : findIn K (.ref C) "__init__" = some (some (.ref fI))) (hf : isFn K (.ref fI) = true)
    (h : codeAny (model prog w) (A.under (.builtin "type.__call__" ⟨.ref C :: rest, kw⟩)) (.call (.ref fI) ⟨.ref (s.heap.objs.size + 1) :: rest, kw⟩) (InitBack (s.heap.objs.size + 1) R)
      { s with heap := (s.heap.push emptyDict).push (instObj C s.heap.objs.size) }) : codeAny (model prog w) A (.call (.ref C) ⟨rest, kw⟩) R s := by
  obtain ⟨hh, g, d, t, os⟩ := s
  exact make_core (makes_of X hm) (looks_findIn X hi) (fun self => bind_fn X self (beq_iff_eq.mp hf)) (.inl rfl) h

/-- x.name where the instance's dict holds the name and the class does not -/
theorem get_field {x C : Addr} {ox : Obj} {es : List DictEntry} {n : Nat} {name : Str} {expr : Bool} {v : Value} {Q : Value → Shared → Prop}
    (X : K.In s.heap) (I : PySem.W.InstAt s.heap x ox C (some (dictOf es n))) (hg : plainGet K C name = true) (hh : hasDictIn K C = true) (ha : findIn K (.ref C) name = some none)
    (hl : getL name es = some (some v)) (hv : handedIn v = true) (h : Q v { s with toks := s.toks + 1 }) : wpAny (model prog w) A (getAttr (.ref x) name expr) Q E s :=
  get_value X I (plainGet_of hg).1 (findObj_own hh ha rfl hl) hv h

/-- x.m(..): the method found in the class -/
theorem get_method {x C f : Addr} {ox : Obj} {es : List DictEntry} {n : Nat} {name : Str} {pl : Sem Bool} {Q : Value × List Value → Shared → Prop}
    (X : K.In s.heap) (I : PySem.W.InstAt s.heap x ox C (some (dictOf es n))) (hg : plainGet K C name = true) (hf : findIn K (.ref C) name = some (some (.ref f))) (ht : isFn K (.ref f) = true)
    (hl : getL name es = some none) (h : Q (.ref f, [.ref x]) s) : wpAny (model prog w) A (getMethod (.ref x) name pl) Q E s :=
  method_fn X I (plainGet_of hg).1 (plainGet_of hg).2 hf (beq_iff_eq.mp ht) (by show (lookIn name (dictOf es n)).map _ = _; rw [lookIn_dict, hl]; rfl) h

/-! the whole heap as the ledger: makes every rule that writes through a ledger a rule over any heap -/
def noObjs (h : Heap) : Heap := { h with objs := #[] }
theorem noObjs_get (h : Heap) (b : Addr) : (noObjs h).get? b = none := by
  cases e : (noObjs h).get? b with
  | none => rfl
  | some o => exact absurd (Heap.lt_size e) (Nat.not_lt_zero _)
def ledger (h : Heap) (L d : Addr) : List (Addr × Obj) := (List.range h.objs.size).filterMap fun a => if a = L ∨ a = d then none else (h.get? a).map fun o => (a, o)
theorem mem_ledger {h : Heap} {L d a : Addr} {o : Obj} : (a, o) ∈ ledger h L d ↔ a ≠ L ∧ a ≠ d ∧ h.get? a = some o := by
  unfold ledger
  rw [List.mem_filterMap]
  constructor
  · rintro ⟨b, _, e⟩
    split at e
    · cases e
    · rename_i hb
      obtain ⟨o', ho, e'⟩ := Option.map_eq_some_iff.mp e
      cases e'
      exact ⟨fun q => hb (.inl q), fun q => hb (.inr q), ho⟩
  · rintro ⟨n1, n2, ho⟩
    refine ⟨a, List.mem_range.mpr (Heap.lt_size ho), ?_⟩
    rw [if_neg (show ¬ (a = L ∨ a = d) from fun q => q.elim n1 n2), ho] <;> rfl
theorem news_ledger {h : Heap} {L d : Addr} {od : Obj} (hne : d ≠ L) (ho : h.get? d = some od) : News (noObjs h) L h ([] ++ (d, od) :: ledger h L d) := by
  rintro ⟨a, o⟩ hp
  rcases List.mem_cons.mp hp with e | hp
  · cases e
    exact ⟨ho, hne, noObjs_get _ _⟩
  · obtain ⟨n1, n2, e⟩ := mem_ledger.mp hp
    exact ⟨e, n1, noObjs_get _ _⟩
theorem fr_all {h : Heap} {L : Addr} {m : Str → Option Value} (n : h.Ns L m) : Fr (noObjs h) L h m :=
  ⟨n, fun b o e => (by rw [noObjs_get] at e; cases e), Nat.zero_le _⟩
/-- Upd of the head entry (for append_K, setItem_K ..) -/
theorem upd_ledger {h : Heap} {L d : Addr} {o o' : Obj} : Upd d o o' ((d, o) :: ledger h L d) ((d, o') :: ledger h L d) :=
  .head fun ⟨_, _⟩ hp => (mem_ledger.mp hp).2.1

/-- x.name = v over any heap: L is any namespace of the heap (the frame's, say): its map stays, its object is not told; all else but the dict stays -/
theorem set_field {x C dx L : Addr} {ox : Obj} {m : Str → Option Value} {es es' : List DictEntry} {n n' : Nat} {name : Str} {v : Value} {Q : Unit → Shared → Prop}
    (X : K.In s.heap) (I : PySem.W.InstAt s.heap x ox C (some (dictOf es n))) (hd : ox.dict = some dx) (hL : s.heap.Ns L m) (hne : dx ≠ L)
    (hs : findIn K (.ref C) "__setattr__" = some (some (.builtin "object.__setattr__"))) (hp : plainOver K C = true) (ht : takerIn K C name = some none) (hh : hasDictIn K C = true) (hl : (getL name es).isSome = true)
    (e : (putL name (PyData.keyHash w.params name) (.str name (s.toks + 1)) v es, putN name es n) = (es', n')) (hz : es'.length ≤ 1000)
    (h : ∀ h' : Heap, h'.Ns L m → h'.get? dx = some (dictOf es' n') → (∀ b o, b ≠ dx → b ≠ L → s.heap.get? b = some o → h'.get? b = some o) → Q () { s with heap := h', toks := s.toks + 2 }) :
    wpAny (model prog w) A (setAttr (.ref x) name v) Q E s := by
  obtain ⟨e1, e2⟩ := Prod.mk.inj e
  have hdx : s.heap.get? dx = some (dictOf es n) := by
    have := I.dict
    rw [hd] at this
    exact this
  refine set_plain X I hs (osa_dict (s := { s with toks := s.toks + 1 }) (h₀ := noObjs s.heap) (L := L) (m := m) (od := dictOf es n) (od' := dictOf es' n') (es := es') (n := n') (pre := []) (post := ledger s.heap L dx)
    (fr_all hL) (news_ledger hne hdx) X I hd hp ht hh hl (fun _ q => nomatch q) (fun ⟨_, _⟩ q => (mem_ledger.mp q).2.1) (by rw [putName_dict, e1, e2]) rfl hz fun h' F' N' => ?_)
  exact h h' F'.ns (N'.get (List.Mem.head _)) fun b o n1 n2 ho => N'.get (List.Mem.tail _ (mem_ledger.mpr ⟨n2, n1, ho⟩))
end
end Att

namespace L2
open PySem PySem.Spec PyProof.Rows

theorem vals_ints : ∀ {vs : List Value} {ns : List Int}, IntsAre vs ns → Vals (ns.map V.int) vs
  | _, _, .nil => .nil
  | _, _, .cons n t h => .cons ⟨t, rfl⟩ (vals_ints h)

/-- nothing is tracked but the script, known to the object (or it is an object of the module) -/
def Only (H : Hp) : Prop := ∀ b, H b = none ∨ ∃ o xs, H b = some (.frz o (.lst xs))

/-- THE HEAD: the law's promise, at the heap behind the top. F, the promise of the law's def, may use that base is part of the heap (so K.In base, base.Ns mainGlobals mg stand in Mod) -/
theorem law_call {P : Program} {w : World} {K : PySem.W.Frag} {mg mb : Str → Option Value} {CX : CXT} {k : Nat} {fa a : Addr} {fd : FuncData} {x : Str} {sp : Sp} {s₁ : Shared} {vs : List Value} {ns : List Int}
    (KX : K.In s₁.heap) (hns : s₁.heap.Ns mainGlobals mg) (hb : s₁.heap.Ns builtinsNs mb) (hbb : ∀ x : Str, x ≠ "__name__" → mb x = bootBuiltins x) (hlim : s₁.heap.NoLimit) (hg : s₁.gens = #[])
    (ha : s₁.heap.get? a = some { cls := .type "list", data := .seq vs.toArray }) (hi : IntsAre vs ns) (hl : ns.length ≤ sizeLine) (hr : Room k callerA)
    (F : ∀ base : Heap, K.In base → base.Ns mainGlobals mg → FnOk P w K mg base CX k fa fd [x] sp) (hbind : ∀ (s : Shared) (u : Value), BindsTo s fd ⟨[u], []⟩ [(x, u)])
    (hsp : ∀ H : Hp, Only H → SqL K H a (ns.map V.int) → sp [.ref a] H (fun v _ => v = .bl true) fun _ _ _ => False)
    (hCX : ∀ H e s', CX [] H s₁ (fun _ _ _ => False) e s' → False) :
    codeAny (model P w) callerA (.call (.ref fa) ⟨[.ref a], []⟩) (fun r s' => r = .ok (.ret (.bool true)) ∧ OldK s₁.heap s'.heap ∧ s'.os = s₁.os ∧ AllBare s'.gens) s₁ := by
  have rv := vals_ints hi
  have lenV := hi.length
  -- from an abstract heap in which nothing but the script may be tracked
  have core : ∀ H : Hp, Only H → SqL K H a (ns.map V.int) → HOk P w H s₁.heap → (∀ b, H b ≠ none → b = a) → (H a ≠ none → K.lookup a = none) →
      codeAny (model P w) callerA (.call (.ref fa) ⟨[.ref a], []⟩) (fun r s' => r = .ok (.ret (.bool true)) ∧ OldK s₁.heap s'.heap ∧ s'.os = s₁.os ∧ AllBare s'.gens) s₁ := by
    intro H hO hS hok hA hK
    have base_of : ∀ {b : Addr} {o : Obj}, s₁.heap.get? b = some o → H b = none → (hidT s₁.heap H).get? b = some o := fun e n => hidT_get e n
    have noA : ∀ {b : Addr} {o : Obj} {es : Array DictEntry} {ep : Nat}, s₁.heap.get? b = some o → o.data = .dict es ep → H b = none := fun {b o es ep} e d => by
      cases q : H b with
      | none => rfl
      | some u =>
        have e' : b = a := hA b (by rw [q]; simp)
        subst e'
        rw [ha] at e; cases e
        have d' : Data.seq vs.toArray _ = Data.dict es ep := d
        cases d'
    have nsK : ∀ {b : Addr} {m : Str → Option Value}, s₁.heap.Ns b m → (hidT s₁.heap H).Ns b m := fun {b m} ⟨o, es, ep, e, d, r⟩ => ⟨o, es, ep, base_of e (noA e d), d, r⟩
    have hKb : K.In (hidT s₁.heap H) := fun b o e => base_of (KX b o e) (by
      cases q : H b with
      | none => rfl
      | some u =>
        have e' : b = a := hA b (by rw [q]; simp)
        subst e'
        rw [hK (by rw [q]; simp)] at e; cases e)
    have hM : Mod K mg (hidT s₁.heap H) := ⟨hKb, nsK hns, ⟨mb, nsK hb, hbb⟩, let ⟨mc, h1, h2⟩ := hlim; ⟨mc, nsK h1, h2⟩⟩
    have e0 : Env0 P w K mg (hidT s₁.heap H) callerA [] s₁ H := ⟨rfl, hM, fun b o e => of_hidT e, Nat.le_of_eq (hidT_size _ _), trivial, fun b hb => absurd (show b ∈ ([] : List Addr) from hb) (by simp), hok, .of_eq hg⟩
    refine codeAny_mono ((F _ hKb (nsK hns)).run callerA [] s₁ H ⟨[.ref a], []⟩ [.ref a] [.ref a] _ _ hr e0 (hbind s₁ (.ref a)) (.cons rfl .nil) (hsp H hO hS)) fun r s' h => ?_
    cases r with
    | error e => exact (hCX H e s' h).elim
    | ok fl =>
      cases fl with
      | next => exact False.elim h
      | brk => exact False.elim h
      | cont => exact False.elim h
      | ret u =>
        obtain ⟨v, H', os, bare, un, hok', r', q⟩ := h
        have q' : v = .bl true := q
        subst q'
        obtain rfl : u = Value.bool true := r'
        refine ⟨rfl, OldK.of_keep fun b o e => ?_, os, bare⟩
        cases q : H b with
        | none => exact un.keep b o e q (by intro z; exact absurd (show b ∈ ([] : List Addr) from z) (by simp)) (by simp)
        | some u =>
          rcases hO b with z | ⟨ob, xs, z⟩
          · rw [q] at z; cases z
          · have z2 := un.frzs b ob _ z
            obtain ⟨e1, _⟩ := hok b _ z
            obtain ⟨e2, _⟩ := hok' b _ z2
            rw [e] at e1; cases e1
            exact e2
  cases hk : K.lookup a with
  | some o =>
    -- the script is one of the module's own objects
    have e := KX a o hk
    rw [ha] at e
    cases e
    refine core (fun _ => none) (fun _ => .inl rfl) (.inr ⟨_, vs.toArray, _, hk, rfl, rfl, rfl, by rw [List.size_toArray, lenV]; exact hl, by simpa using rv⟩) (fun b u z => by have z' : (none : Option HO) = some u := z; cases z') (fun b z => absurd rfl z) fun z => absurd rfl z
  | none =>
    refine core (fun b => if b = a then some (.frz { cls := .type "list", data := .seq vs.toArray } (.lst (ns.map V.int))) else none) (fun b => ?_) (.inl (.inr ⟨{ cls := .type "list", data := .seq vs.toArray }, if_pos rfl⟩)) (fun b u z => ?_) (fun b z => ?_) fun _ => hk
    · by_cases hb : b = a
      · exact .inr ⟨_, _, if_pos hb⟩
      · exact .inl (if_neg hb)
    · by_cases hb : b = a
      · have z' := (if_pos hb).symm.trans z
        cases z'
        subst hb
        exact ⟨ha, by rw [List.length_map]; exact hl, vs, _, rv, ha⟩
      · have z' := (if_neg hb).symm.trans z
        cases z'
    · by_cases hb : b = a
      · exact hb
      · exact absurd (if_neg hb) z
end L2

namespace L2
open PySem PySem.Spec PyProof.Rows

abbrev KOf {K : PySem.W.Frag} {h : Heap} (_ : K.In h) : PySem.W.Frag := K

/-- the goal that k_head leaves (case hc), from the law's promise. F gives the function object fd (K's own) once, then the promise over every base -/
theorem walk_of {l : PySem.W.OpenLaw} {n k : Nat} {q : Program} {loose : List Str} {XP : (Str → Option Value) → Heap → Prop} {YP : World → Heap → Prop} {d : DefRec} {K : Params → PySem.W.Frag} {CX : World → CXT} {sp : World → Sp} {x : Str}
    (hn : l.most = some n) (hn2 : n ≤ sizeLine) (hdf : d.params.defaults = []) (hr : Room k callerA)
    (hY : ∀ (w : World) (h : Heap), YP w h → (K w.params).In h)
    (F : ∀ (w : World) (mg : Str → Option Value) (fa : Addr) (h : Heap), (K w.params).In h → h.Ns mainGlobals mg → mg d.name = some (.ref fa) →
      ∃ fd : FuncData, (∀ (s : Shared) (u : Value), BindsTo s fd ⟨[u], []⟩ [(x, u)]) ∧
        ∀ base : Heap, (K w.params).In base → base.Ns mainGlobals mg → FnOk l.prog w (K w.params) mg base (CX w) k fa fd [x] (sp w))
    (hsp : ∀ (w : World) (H : Hp) (a : Addr) (ns : List Int), ns.length ≤ n → Only H → SqL (K w.params) H a (ns.map V.int) → sp w [.ref a] H (fun v _ => v = .bl true) fun _ _ _ => False)
    (hCX : ∀ (w : World) (H : Hp) (s : Shared) (e : Value) (s' : Shared), CX w [] H s (fun _ _ _ => False) e s' → False) :
    PySem.W.WalkO q loose XP YP l.row.toRowW d [] (fun f vs => PySem.call f vs) := by
  refine Att.attach_call hn hdf fun w s₀ s₁ mg mb fa o pm cd doc a vs ns G Y ho hd hcd hmg hobj hints hlen hg => ?_
  have KX := hY w _ Y
  obtain ⟨fd, hb, hF⟩ := F w mg fa _ KX G.T.g hmg
  exact law_call KX G.T.g G.T.b G.T.builtins G.T.nolimit hg hobj hints (Nat.le_trans hlen hn2) hr hF hb (fun H hO hS => hsp w H a ns hlen hO hS) fun H e s' => hCX w H s₁ e s'
/-- the same where the promise hangs on the written part alone: (sp := My.sp_law), no hole under a binder -/
theorem walk_ofK {l : PySem.W.OpenLaw} {n k : Nat} {q : Program} {loose : List Str} {XP : (Str → Option Value) → Heap → Prop} {YP : World → Heap → Prop} {d : DefRec} {K : Params → PySem.W.Frag} {CX : CXT} {sp : PySem.W.Frag → Sp} {x : Str}
    (hn : l.most = some n) (hn2 : n ≤ sizeLine) (hdf : d.params.defaults = []) (hr : Room k callerA)
    (hY : ∀ (w : World) (h : Heap), YP w h → (K w.params).In h)
    (F : ∀ (w : World) (mg : Str → Option Value) (fa : Addr) (h : Heap), (K w.params).In h → h.Ns mainGlobals mg → mg d.name = some (.ref fa) →
      ∃ fd : FuncData, (∀ (s : Shared) (u : Value), BindsTo s fd ⟨[u], []⟩ [(x, u)]) ∧
        ∀ base : Heap, (K w.params).In base → base.Ns mainGlobals mg → FnOk l.prog w (K w.params) mg base CX k fa fd [x] (sp (K w.params)))
    (hsp : ∀ (K : PySem.W.Frag) (H : Hp) (a : Addr) (ns : List Int), ns.length ≤ n → Only H → SqL K H a (ns.map V.int) → sp K [.ref a] H (fun v _ => v = .bl true) fun _ _ _ => False)
    (hCX : ∀ (H : Hp) (s : Shared) (e : Value) (s' : Shared), CX [] H s (fun _ _ _ => False) e s' → False) :
    PySem.W.WalkO q loose XP YP l.row.toRowW d [] (fun f vs => PySem.call f vs) :=
  walk_of (K := K) (CX := fun _ => CX) (sp := fun w => sp (K w.params)) hn hn2 hdf hr hY F (fun w H a ns h1 h2 h3 => hsp (K w.params) H a ns h1 h2 h3) fun _ H s e s' => hCX H s e s'
end L2

/- THE LAST THEOREM (shape; LID, My.* are yours):
   My.Adr: a structure of the addresses that your layer names (classes, functions); My.Txt K t: a structure (Prop) of the equations over K;
   My.txt_mk : {K} {implicit addresses ..} (e1 : nsIn K mainGlobals "law" = some (some (.ref f))) (e2 : K.lookup f = some ⟨oc, od, .func (fnOf "law" "law" params body scope dV kV doc pm an cdv ct), sl⟩) (e3 : codeIn K cdv "law" = true) .. : ∃ t, My.Txt K t

set_option maxRecDepth 100000 in
set_option maxHeartbeats 0 in
theorem PySem.Challenge.cw_LID_holds : PySem.Challenge.rw_LID.Holds := by
  w_on; o_law; k_head; (case hw => w_witness2)
  k_fill
  refine L2.walk_of (l := PySem.Challenge.rw_LID) (n := 63) (k := 40) (x := "script") (CX := fun w => ..) (sp := fun _ => My.sp_law) rfl (by decide) rfl ⟨rfl, by decide, by decide⟩ (fun w h Y => PySem.W.kIn_of Y) ?F ?S ?C
  case F =>
    intro w mg fa h KX G hmg
    have T : ∃ t, My.Txt (L2.KOf KX) t := by
      dsimp only [L2.KOf]                          -- K must stand as «<heap const> w.params» for k_is
      refine' My.txt_mk ?e1 ?e2 ?e3 ..
      (case e1 => PySem.W.k_is)                    -- in the order: a name -> its address -> its object -> its parts
      (case e2 => PySem.W.k_is)
      ..
    obtain ⟨t, T⟩ := T
    have e0 := hmg.symm.trans (PySem.W.mg_of KX G T.law)
    cases e0                                       -- fa is the law's own address
    exact ⟨_, fun s u => .of_eq rfl, fun base kb nb => My.law_fn T kb nb⟩     -- if «.of_eq rfl» comes too early: refine' ⟨_, ?b, fun base kb nb => My.law_fn T kb nb⟩; exact fun s u => .of_eq rfl
  case S => exact fun w H a ns hl hO hS => ..
  case C => exact ..
(the tactic k_is has no namespace: write k_is) -/

/-! SHORT WORDS over the layer: a def of the text, its body, what a loop and a test want. -/
namespace L2
open PySem PySem.Spec PyProof.Rows

/-! ### the text by places -/
/-- the j-th statement of a class's body -/
def inClass (s : Stmt) (j : Nat) : Stmt := match s with
  | .ClassDef _ _ _ body _ _ _ _ _ _ _ => body.getD j (.Pass ⟨0, 0, 0, 0⟩)
  | _ => .Pass ⟨0, 0, 0, 0⟩
def defArgs (s : Stmt) : Arguments := match s with
  | .FunctionDef _ a _ _ _ _ _ _ _ _ => a
  | _ => { posonlyargs := [], args := [], vararg := none, kwonlyargs := [], kw_defaults := [], kwarg := none, defaults := [] }
def defBody (s : Stmt) : List Stmt := match s with
  | .FunctionDef _ _ b _ _ _ _ _ _ _ => b
  | _ => []
def defScope (s : Stmt) : Scope := match s with
  | .FunctionDef _ _ _ _ _ _ sc _ _ _ => sc
  | _ => { kind := .function, names := [], isGenerator := false, isCoroutine := false }

/-! ### no exception leaves a def -/
abbrev CX0 : CXT := fun _ _ _ _ _ _ => False
abbrev E0 : XK := fun _ _ _ => False
theorem pass0 {X : Cx} : Passes CX0 X E0 := fun _ _ _ _ _ _ _ h => h.elim

/-! ### a def (or method) of the text as it stands behind the top -/
structure Fun (K : PySem.W.Frag) (x qual : Str) (st : Stmt) (f : Addr) (fd : FuncData) : Prop where
  ex : ∃ (oc : Value) (od : Option Addr) (kV doc pm : Value) (an : Option Addr) (cdv ct : Value) (osl : Array (Option Value)),
    fd = PySem.W.fnOf x qual (defArgs st) (defBody st) (defScope st) .none kV doc pm an cdv ct ∧ K.lookup f = some ⟨oc, od, .func fd, osl⟩ ∧ PySem.W.codeIn K cdv qual = true
  kp : PySem.W.keepIn K (.ref f) = true
section
variable {P : Program} {w : World} {K : PySem.W.Frag} {mg : Str → Option Value} {base : Heap}
/-- THE RULE for a def: its body as a term of rules, and the reading of that term -/
theorem Fun.ok {x qual : Str} {st : Stmt} {f : Addr} {fd : FuncData} {N ps : List Str} {k : Nat} {sp : Sp} (F : Fun K x qual st f fd) (S : FnScope N ps (defScope st)) (len : ∀ vs H Q E, sp vs H Q E → vs.length = ps.length)
    (hbody : ∀ (cdv : Value) (A : Around) (outer : List Env) (s : Shared) (H : Hp) (vs : List V) (Q : VK) (E : XK), Room k (A.deeper (envOfC qual (defScope st) s.heap.objs.size f cdv)) → sp vs H Q E →
      ∃ t, PSs (cxOf CX0 P w K mg base N qual (defScope st) f cdv A outer s H E).nox (defBody st) t ∧ t { nx := fun _ H' => Q .non H', rt := Q } (start N vs) H) : FnOk P w K mg base CX0 (k + 1) f fd ps sp := by
  obtain ⟨oc, od, kV, doc, pm, an, cdv, ct, osl, rfl, lk, hcd⟩ := F.ex
  refine fn_of lk hcd S len fun A outer s H vs Q E hr hsp => ?_
  obtain ⟨t, h, q⟩ := hbody cdv A outer s H vs Q E hr hsp
  exact ⟨t, h.nox, q⟩
/-- how its arguments bind (no defaults): h is «fun _ _ _ _ _ _ us hl => match us, hl with | [_, _], _ => rfl», one _ a parameter -/
theorem Fun.binds {x qual : Str} {st : Stmt} {f : Addr} {fd : FuncData} {ps : List Str} (F : Fun K x qual st f fd)
    (h : ∀ (kV doc pm : Value) (an : Option Addr) (cdv ct : Value) (us : List Value), us.length = ps.length → bindArgs (PySem.W.fnOf x qual (defArgs st) (defBody st) (defScope st) .none kV doc pm an cdv ct) ⟨us, []⟩ = pure (ps.zip us)) : Binds K fd ps [] := by
  obtain ⟨oc, od, kV, doc, pm, an, cdv, ct, osl, rfl, lk, hcd⟩ := F.ex
  exact .all (h kV doc pm an cdv ct)
theorem fun_mk {x qual : Str} {st : Stmt} {f : Addr} {oc : Value} {od an : Option Addr} {osl : Array (Option Value)} {kV doc pm cdv ct : Value} (l : K.lookup f = some ⟨oc, od, .func (PySem.W.fnOf x qual (defArgs st) (defBody st) (defScope st) .none kV doc pm an cdv ct), osl⟩)
    (c : PySem.W.codeIn K cdv qual = true) (k : PySem.W.keepIn K (.ref f) = true) : Fun K x qual st f (PySem.W.fnOf x qual (defArgs st) (defBody st) (defScope st) .none kV doc pm an cdv ct) := ⟨⟨oc, od, kV, doc, pm, an, cdv, ct, osl, rfl, l, c⟩, k⟩
end
theorem hu_of {A : Around} {k : Nat} (hr : Room k A) : A.units + 1 < cLine := Nat.lt_of_le_of_lt (Nat.add_le_add_left (by decide : 1 ≤ 64) _) hr.units
theorem small1000 {n : Nat} (h : n ≤ 1000) : n < sizeLine := Nat.lt_of_le_of_lt h (by decide)

/-! ### expressions in short: the name that stands in the i-th slot -/
section
variable {X : Cx}
theorem pv (i : Nat) {x : Str} {pos : Pos} (hN : X.N[i]? = some x := by rfl) (hv : Vis X.env.scope x := by first | exact Or.inl rfl | exact Or.inr (Or.inl rfl) | exact Or.inr (Or.inr rfl)) (hd : (x == ("__debug__" : Str)) = false := by decide)
    (hcd : (x == ("__classdict__" : Str)) = false := by decide) : PE X (.Name x pos) (tVar i) := pe_var hN hv hd hcd
end

/-! ### tests -/
theorem iteF {A B : Prop} (h : B) : if false = true then A else B := by
  rw [if_neg Bool.false_ne_true]
  exact h
theorem iteT {A B : Prop} (h : A) : if true = true then A else B := by
  rw [if_pos rfl]
  exact h
theorem ite2 {c A B : Prop} [Decidable c] (h1 : c → A) (h2 : ¬ c → B) : if c then A else B := by
  by_cases h : c
  · rw [if_pos h]
    exact h1 h
  · rw [if_neg h]
    exact h2 h
theorem iteNS {c A B : Prop} [Decidable c] (hc : c) (h : B) : if (!decide c) = true then A else B := by
  rw [decide_eq_true hc]
  exact iteF h

/-! ### heaps -/
/-- all that was tracked is as it was -/
def Same (H H' : Hp) : Prop := ∀ b o, H b = some o → H' b = some o
theorem Same.refl (H : Hp) : Same H H := fun _ _ h => h
theorem Same.trans {H H1 H2 : Hp} (a : Same H H1) (b : Same H1 H2) : Same H H2 := fun c o h => b c o (a c o h)
theorem Same.free {H H' : Hp} (e : Same H H') {l : Addr} (h : H' l = Option.none) : H l = Option.none := by
  cases q : H l with
  | none => rfl
  | some o =>
    rw [e l o q] at h
    cases h
theorem Same.seq {K : PySem.W.Frag} {H H' : Hp} {a : Addr} {xs : List V} (e : Same H H') (h : SqL K H a xs) : SqL K H' a xs := by
  rcases h with (h | ⟨o, h⟩) | h
  · exact .inl (.inl (e _ _ h))
  · exact .inl (.inr ⟨o, e _ _ h⟩)
  · exact .inr h

end L2

set_option Elab.async false
set_option linter.all false
set_option maxRecDepth 100000
/-! COMPREHENSIONS over the hand layer: [e for t in it if c], as a block of its own that sees the body's captured names. -/
namespace L2
open PySem PySem.Spec PyProof.Rows

/-! ### the captured names -/
def clOf (cells : List (Str × Addr)) : List (Str × NameKind) → List (Str × Addr) → List (Str × Addr)
  | [], acc => acc
  | (n, k) :: r, acc => if k == NameKind.free then clOf cells r ((n, (cells.lookup n).getD 0) :: acc) else clOf cells r acc
theorem clOf_sub {cells : List (Str × Addr)} : ∀ (names : List (Str × NameKind)) (acc : List (Str × Addr)) (p : Str × Addr), p ∈ acc → p ∈ clOf cells names acc
  | [], _, _, h => h
  | (n, k) :: r, acc, p, h => by
    unfold clOf
    split
    · exact clOf_sub r _ p (List.mem_cons_of_mem _ h)
    · exact clOf_sub r acc p h
theorem clOf_has {cells : List (Str × Addr)} {x : Str} : ∀ (names : List (Str × NameKind)) (acc : List (Str × Addr)), (x, NameKind.free) ∈ names → (x, (cells.lookup x).getD 0) ∈ clOf cells names acc
  | [], _, h => by cases h
  | (n, k) :: r, acc, h => by
    unfold clOf
    rcases List.mem_cons.mp h with e | h
    · have e1 : x = n := congrArg Prod.fst e
      have e2 : NameKind.free = k := congrArg Prod.snd e
      subst e1 e2
      exact clOf_sub r _ _ List.mem_cons_self
    · split
      · exact clOf_has r _ h
      · exact clOf_has r _ h
theorem clOf_of {cells : List (Str × Addr)} : ∀ (names : List (Str × NameKind)) (acc : List (Str × Addr)) (p : Str × Addr), p ∈ clOf cells names acc → p ∈ acc ∨ ((p.1, NameKind.free) ∈ names ∧ p.2 = (cells.lookup p.1).getD 0)
  | [], _, _, h => .inl h
  | (n, k) :: r, acc, p, h => by
    unfold clOf at h
    split at h
    · rename_i hk
      have hk' : k = NameKind.free := by simpa using hk
      rcases clOf_of r _ p h with q | ⟨q, e⟩
      · rcases List.mem_cons.mp q with q | q
        · subst q; subst hk'; exact .inr ⟨List.mem_cons_self, rfl⟩
        · exact .inl q
      · exact .inr ⟨List.mem_cons_of_mem _ q, e⟩
    · rcases clOf_of r _ p h with q | ⟨q, e⟩
      · exact .inl q
      · exact .inr ⟨List.mem_cons_of_mem _ q, e⟩
theorem closure_is {sc : Scope} {env : Env} (h : ∀ y ∈ sc.names, y.2 = NameKind.free → ∃ c, env.cells.lookup y.1 = some c) : closureFor sc env = pure (clOf env.cells sc.names []) := by
  have all : ∀ (names : List (Str × NameKind)) (acc : List (Str × Addr)), (∀ y ∈ names, y.2 = NameKind.free → ∃ c, env.cells.lookup y.1 = some c) →
      (forIn names acc fun (y : Str × NameKind) (cs : List (Str × Addr)) => (if (y.2 == NameKind.free) = true then (do let a ← cellOf env y.1; pure (ForInStep.yield ((y.1, a) :: cs))) else pure (ForInStep.yield cs) : Sem (ForInStep (List (Str × Addr))))) = pure (clOf env.cells names acc) := by
    intro names
    induction names with
    | nil => intro acc _; rfl
    | cons y r ih =>
      intro acc hy
      obtain ⟨n, k⟩ := y
      rw [List.forIn_cons]
      unfold clOf
      by_cases hk : k = NameKind.free
      · subst hk
        obtain ⟨c, hc⟩ := hy (n, NameKind.free) List.mem_cons_self rfl
        have hc' : env.cells.lookup n = some c := hc
        simp only [beq_self_eq_true, if_true, cellOf, hc', pure_bind, Option.getD_some]
        exact ih _ fun z hz => hy z (List.mem_cons_of_mem _ hz)
      · have hb : (k == NameKind.free) = false := by simpa using hk
        simp only [hb, Bool.false_eq_true, if_false, pure_bind]
        exact ih _ fun z hz => hy z (List.mem_cons_of_mem _ hz)
  have q := all sc.names [] h
  unfold closureFor
  show (forIn sc.names [] fun (y : Str × NameKind) (cs : List (Str × Addr)) => _) >>= _ = _
  first
    | (rw [q]; rfl)
    | (refine Eq.trans (congrArg (fun t => t >>= fun cs => pure cs) q) ?_; rfl)

/-- the block's scope over the body's: its names, none of them a cell of its own; the captured ones are captured by the body -/
structure CmpScope (X : Cx) (sc : Scope) : Prop where
  kind : sc.kind = .function
  nocell : ∀ y ∈ sc.names, y.2 ≠ NameKind.cell
  loc : ∀ y ∈ sc.names, y.2 = NameKind.local → sc.names.lookup y.1 = some .local
  clos : ∀ y ∈ sc.names, y.2 = NameKind.free → (X.env.kindOf y.1 = some .cell ∨ X.env.kindOf y.1 = some .free)
/-- the block's names' values at its start, by their places in the body's -/
def pick (ix : List (Option Nat)) (σ : St) : St := ix.map fun o => o.bind fun i => (σ[i]?).join
def idxOk (N M : List Str) (sc : Scope) (ix : List (Option Nat)) : Bool :=
  ix.length == N.length && (N.zip ix).all fun p => match p.2 with | none => true | some i => decide (M[i]? = some p.1) && decide (sc.names.lookup p.1 = some NameKind.free)

/-- the block as a context -/
def bx (X : Cx) (sc : Scope) (N : List Str) (fp : List Addr) (s₀ : Shared) (H : Hp) (pn : List (Addr × Obj)) : Cx :=
  { X with N := N, s₀ := s₀, H₀ := H, env := compEnvC sc (clOf X.env.cells sc.names []) s₀.heap.objs.size X.env, outer := X.stack, stack := X.stack, ex := fp, fn := fun _ => false, pn := pn, xe := fun _ _ => False }

theorem relabel_mem {sc : Scope} {env : Env} {x : Str} {k : NameKind} (h : (relabel sc env).names.lookup x = some k) : (x, k) ∈ sc.names ∨ (k = .cell ∧ (x, NameKind.free) ∈ sc.names) := by
  have m := PySem.mem_of_lookup h
  unfold relabel at m
  obtain ⟨⟨n, k'⟩, hm, e⟩ := List.mem_map.mp m
  dsimp only at e
  split at e
  · rename_i hc
    have e1 : n = x := congrArg Prod.fst e
    have e2 : NameKind.cell = k := congrArg Prod.snd e
    have e3 : k' = NameKind.free := by
      rw [Bool.and_eq_true, Bool.and_eq_true] at hc
      simpa using hc.1.1
    subst e1 e2 e3
    exact .inr ⟨rfl, hm⟩
  · have e1 : n = x := congrArg Prod.fst e
    have e2 : k' = k := congrArg Prod.snd e
    subst e1 e2
    exact .inl hm
theorem relabel_free {env : Env} {x : Str} : ∀ {names : List (Str × NameKind)}, names.lookup x = some NameKind.free →
    (names.map fun (n, k) => if (k == NameKind.free && env.scope.kind == .function && env.kindOf n == some .cell) then (n, NameKind.cell) else (n, k)).lookup x = some .cell ∨
    (names.map fun (n, k) => if (k == NameKind.free && env.scope.kind == .function && env.kindOf n == some .cell) then (n, NameKind.cell) else (n, k)).lookup x = some .free
  | [], h => by simp at h
  | (n, k) :: r, h => by
    by_cases hx : x = n
    · subst hx
      simp only [List.lookup_cons, beq_self_eq_true] at h
      cases h
      simp only [List.map_cons]
      split
      · left; simp [List.lookup_cons]
      · right; simp [List.lookup_cons]
    · have hb : (x == n) = false := by simpa using hx
      simp only [List.lookup_cons, hb] at h
      have ih := relabel_free (env := env) h
      simp only [List.map_cons]
      split
      · simpa only [List.lookup_cons, hb] using ih
      · simpa only [List.lookup_cons, hb] using ih

theorem lookup_of_mem {α : Type} {x : Str} {c : α} : ∀ {l : List (Str × α)}, (x, c) ∈ l → ∃ c', l.lookup x = some c'
  | [], h => by cases h
  | (n, d) :: r, h => by
    by_cases hx : x = n
    · subst hx; exact ⟨d, by simp [List.lookup_cons]⟩
    · have hb : (x == n) = false := by simpa using hx
      rcases List.mem_cons.mp h with e | h
      · exact absurd (congrArg Prod.fst e) hx
      · obtain ⟨c', e⟩ := lookup_of_mem h
        exact ⟨c', by simpa only [List.lookup_cons, hb] using e⟩

section
variable {X : Cx} {pins : List (Addr × Obj)} {σ : St} {H : Hp} {s : Shared} {sc : Scope} {N : List Str} {fp : List Addr} {ix : List (Option Nat)}

theorem Inv.capt (I : Inv X pins σ H s) (S : CmpScope X sc) : ∀ y ∈ sc.names, y.2 = NameKind.free → ∃ c, X.env.cells.lookup y.1 = some c := fun y hy e => I.ok.has y.1 (S.clos y hy e)
theorem Inv.clcell (I : Inv X pins σ H s) (S : CmpScope X sc) {x : Str} {c : Addr} (h : (clOf X.env.cells sc.names []).lookup x = some c) : X.env.cells.lookup x = some c := by
  rcases clOf_of _ _ _ (PySem.mem_of_lookup h) with q | ⟨q, e⟩
  · cases q
  · obtain ⟨c', hc⟩ := I.capt S _ q rfl
    have hc' : X.env.cells.lookup x = some c' := hc
    have e' : c = (X.env.cells.lookup x).getD 0 := e
    rw [hc', Option.getD_some] at e'
    rw [e']; exact hc'
theorem Inv.clhas (I : Inv X pins σ H s) (S : CmpScope X sc) {x : Str} (h : (x, NameKind.free) ∈ sc.names) : ∃ c, (clOf X.env.cells sc.names []).lookup x = some c ∧ X.env.cells.lookup x = some c := by
  obtain ⟨c, e⟩ := lookup_of_mem (clOf_has (cells := X.env.cells) sc.names [] h)
  exact ⟨c, e, I.clcell S e⟩

/-- the block's state at its start: s is the body's state, s1 the one with the block's frame -/
theorem Inv.block {h1 : Heap} {tk : Nat} {m : Str → Option Value} (I : Inv X pins σ H s) (S : CmpScope X sc) (hix : idxOk N X.N sc ix = true) (hf : ∀ b ∈ fp, FpOk X pins H b ∧ b < s.heap.objs.size)
    (hk : ∀ b o, s.heap.get? b = some o → h1.get? b = some o) (hn : h1.Ns s.heap.objs.size m) :
    Inv (bx X sc N fp s H (X.pn ++ pins)) [] (pick ix σ) H { s with heap := h1, toks := tk } := by
  have hC : ∀ b o, s.heap.get? b = some o → b ≠ s.heap.objs.size := fun b o e => Nat.ne_of_lt (Heap.lt_size e)
  have hcell : ∀ x c, (clOf X.env.cells sc.names []).lookup x = some c → ∃ v, s.heap.IsCell c v := fun x c e => I.cell x c (I.clcell S e)
  have stk : ∀ b, b ≠ X.env.locals → b ∉ X.fs → b ∉ frs X.stack := fun b h1 h2 hb => by
    rcases List.mem_cons.mp (I.stkSub b hb) with z | z
    · exact h1 z
    · exact h2 z
  rw [idxOk, Bool.and_eq_true] at hix
  refine ⟨⟨I.ok.mod, S.kind, I.ok.glob, I.ok.blt, Nat.le_refl _, ?_, ?_, ?_, I.ok.hd, I.ok.frames, .inl rfl, ?_, I.bs, Nat.le_trans I.ok.bsz I.sz, ?_, ?_, I.stack, I.stkFree⟩,
    rfl, I.bare, Un.kept hk, ⟨m, hn, ?_⟩, ?_, I.fresh, ?_, ?_, I.hok.kept hk, ?_⟩
  · intro x y c e1 e2
    exact I.ok.inj x y c (I.clcell S e1) (I.clcell S e2)
  · intro x hx
    have hx : (relabel sc X.env).names.lookup x = some .cell ∨ (relabel sc X.env).names.lookup x = some .free := hx
    have hm : (x, NameKind.free) ∈ sc.names := by
      rcases hx with hx | hx
      · rcases relabel_mem hx with q | ⟨_, q⟩
        · exact absurd rfl (S.nocell _ q)
        · exact q
      · rcases relabel_mem hx with q | ⟨q, _⟩
        · exact q
        · cases q
    obtain ⟨c, e, _⟩ := I.clhas S hm
    exact ⟨c, e⟩
  · intro x c z
    cases z
  · intro b hb
    obtain ⟨f, hlt⟩ := hf b hb
    refine ⟨Nat.ne_of_lt hlt, fun x c e => f.2.2.2.2.1 x c (I.clcell S e)⟩
  · intro b o e hb
    obtain ⟨⟨_, _, _, f3, _⟩, _⟩ := hf b hb
    rcases f3 with z | z
    · exact I.ok.noex b o e z
    · exact absurd (Heap.lt_size e) (Nat.not_lt.mpr (Nat.le_trans I.ok.bsz z))
  · intro b hb
    obtain ⟨⟨_, f1, f2, _⟩, _⟩ := hf b hb
    exact stk b f1 f2
  · intro i x v e1 e2 e3
    have e1 : N[i]? = some x := e1
    have hi : ∃ j, ix[i]? = some (some j) ∧ σ[j]? = some (some v) := by
      unfold pick at e2
      rw [List.getElem?_map] at e2
      cases q : ix[i]? with
      | none => rw [q] at e2; cases e2
      | some o =>
        rw [q] at e2
        cases o with
        | none => cases e2
        | some j =>
          refine ⟨j, rfl, ?_⟩
          have e4 : (σ[j]?).join = some v := Option.some.inj e2
          cases q2 : σ[j]? with
          | none => rw [q2] at e4; cases e4
          | some w => rw [q2] at e4; cases w with
            | none => cases e4
            | some w => rw [← e4]; rfl
    obtain ⟨j, hj, hσ⟩ := hi
    have hz : (x, some j) ∈ N.zip ix := by
      have q : (N.zip ix)[i]? = some (x, some j) := by rw [List.getElem?_zip_eq_some]; exact ⟨e1, hj⟩
      exact List.mem_of_getElem? q
    have hp := List.all_eq_true.mp hix.2 _ hz
    dsimp only at hp
    rw [Bool.and_eq_true] at hp
    have hM : X.N[j]? = some x := of_decide_eq_true hp.1
    have hfr : sc.names.lookup x = some NameKind.free := of_decide_eq_true hp.2
    have hmem := PySem.mem_of_lookup hfr
    obtain ⟨mo, hno, hlo⟩ := I.loc
    have hvis : Vis X.env.scope x := by
      rcases S.clos _ hmem rfl with z | z
      · exact .inr (.inl z)
      · exact .inr (.inr z)
    obtain ⟨u, ru, l⟩ := hlo j x v hM hσ hvis
    refine ⟨u, ru, .inr ⟨?_, ?_⟩⟩
    · exact relabel_free (env := X.env) hfr
    · obtain ⟨c, e, e'⟩ := I.clhas S hmem
      refine ⟨c, e, ?_⟩
      rcases l with ⟨k, _⟩ | ⟨_, c', ec, z⟩
      · rcases S.clos _ hmem rfl with q | q
        · rw [k] at q; cases q
        · rw [k] at q; cases q
      · rw [e'] at ec
        cases ec
        obtain ⟨o, ho, hd⟩ := z
        exact ⟨o, hk _ _ ho, hd⟩
  · intro x c e
    obtain ⟨v, o, ho, hd⟩ := hcell x c e
    exact ⟨v, o, hk _ _ ho, hd⟩
  · intro x c e
    exact I.freeC x c (I.clcell S e)
  · intro p hp
    have hp : p ∈ X.pn ++ pins := by
      rcases List.mem_append.mp hp with z | z
      · exact z
      · cases z
    obtain ⟨e, n, ne, nf, d⟩ := I.pin p hp
    exact ⟨hk _ _ e, n, hC _ _ e, stk p.1 ne nf, d⟩
  · show (pick ix σ).length = N.length
    unfold pick
    rw [List.length_map]
    simpa using hix.1

/-- the body's state behind the block -/
theorem Inv.unblock {τ : St} {H' : Hp} {s' : Shared} {h' : Heap} (I : Inv X pins σ H s) (hf : ∀ b ∈ fp, FpOk X pins H b) (J : Inv (bx X sc N fp s H (X.pn ++ pins)) [] τ H' s') (hs : Heap.SameBut s.heap.objs.size s'.heap h') :
    Inv X pins σ H' { s' with heap := h' } := by
  have nC : ∀ b o, s.heap.get? b = some o → b ≠ s.heap.objs.size := fun b o e => Nat.ne_of_lt (Heap.lt_size e)
  have hfr : H' s.heap.objs.size = none := J.free
  have u : Un (frs X.stack) fp H H' s.heap s'.heap := J.base
  have ok : HOk X.prog X.w H' h' := fun b ob e => by
    refine (J.hok b ob e).stay (fun c w' hc q => (hs.2 c ?_).trans q) (fun _ q => q) fun _ _ q => q
    rintro rfl
    rcases hc with rfl | hc
    · rw [hfr] at e; cases e
    · rw [hfr] at hc; cases hc
  refine I.call' (ch := fp) J.os ⟨fun b o e n h1 h2 => (hs.2 b (nC b o e)).trans (u.keep b o e n h1 h2), fun b o e n h1 h2 => ?_, u.free, fun b o e h2 => ?_, u.tups, u.frzs, u.tbls⟩ ok J.bare fun b hb => ?_
  · obtain ⟨sl, q⟩ := u.slot b o e n h1 h2
    exact ⟨sl, (hs.2 b (nC b o e)).trans q⟩
  · obtain ⟨o', q⟩ := u.there b o e h2
    exact ⟨o', (hs.2 b (nC b o e)).trans q⟩
  · obtain ⟨_, f1, _, f3, f4, f5⟩ := hf b hb
    exact ⟨f3, f1, f4, f5⟩
end

/-! ### tests of a clause -/
def PIfs (X : Cx) (ifs : List Expr) (t : TT) : Prop :=
  ∀ (pins : List (Addr × Obj)) (s : Shared) (σ : St) (H : Hp) (Q : Bool → Hp → Prop), Inv X pins σ H s → t σ H Q →
    wpAny (model X.prog X.w) X.A (forIn ifs true fun c r => if r = true then do let ok ← isTrue c X.env (eval c X.env); pure (ForInStep.yield ok) else pure (ForInStep.yield r)) (TP X pins σ Q) X.xe s
def tAll : TT := fun _ H Q => Q true H
theorem pifs_nil {X : Cx} : PIfs X [] tAll := fun _ _ _ H _ I h => wpAny_tests_nil ⟨H, I, h⟩
theorem pifs_one {X : Cx} {c : Expr} {t : TT} (h : PT X c t) : PIfs X [c] t := fun pins s σ H Q I q => wpAny_tests_one (h pins s σ H Q I q)

/-! ### the loop of a list comprehension of one clause, with any target -/
theorem compLoop_any {prog : Program} {w : World} {A : Around} {R : Result → Shared → Prop} {s : Shared} {el tgt iter : Expr} {ifs : List Expr} {scp : Scope} {pos : Pos} {it acc : Value} {env : Env} (W : Nat → Shared → Prop)
    (turn : ∀ n s, W n s → wpAny (model prog w) A (pyNext it) (fun r s₁ => match r with
      | none => R (.ok .next) s₁
      | some v => wpAny (model prog w) A (letOwnedTupleGo tgt it v) (fun _ s₁' => wpAny (model prog w) A (assign tgt env v) (fun _ s₂ =>
          wpAny (model prog w) A (forIn ifs true fun c r => if r = true then do let ok ← isTrue c env (eval c env); pure (ForInStep.yield ok) else pure (ForInStep.yield r)) (fun ok s₃ =>
            if ok = true then wpAny (model prog w) A (eval el env) (fun x s₄ =>
              wpAny (model prog w) A (call (.builtin "list.append") [acc, x]) (fun _ s₅ => ∃ m, m < n ∧ W m s₅) (fun _ _ => False) s₄) (fun _ _ => False) s₃
            else ∃ m, m < n ∧ W m s₃) (fun _ _ => False) s₂) (fun _ _ => False) s₁') (fun _ _ => False) s₁) (fun _ _ => False) s)
    (n : Nat) (h : W n s) : codeAny (model prog w) A (.compLoop (.ListComp el [⟨tgt, iter, ifs, 0⟩] scp pos) 0 it acc env) R s := by
  refine codeAny_loop rfl W (fun n s hI => ?_) n h
  show wpAny _ A ((compTurn (.ListComp el [⟨tgt, iter, ifs, 0⟩] scp pos) 0 it acc env).onRaise (fun x => do noteFrame x env; theTreesLotGoes x)) _ _ s
  refine wpAny_noted ?_
  rw [compTurn_list]
  refine wpAny_bind (wpAny_standAt (wpAny_bind (wpAny_mono (turn n s hI) (fun r s1 q1 => ?_) fun _ _ z => z.elim)))
  cases r with
  | none => exact wpAny_pure q1
  | some v =>
    refine wpAny_bind (wpAny_mono q1 (fun _ s1' q1' => ?_) fun _ _ z => z.elim)
    refine wpAny_bind (wpAny_mono q1' (fun _ s2 q2 => wpAny_bind (wpAny_mono q2 (fun ok s3 q3 => ?_) fun _ _ z => z.elim)) fun _ _ z => z.elim)
    cases ok with
    | false => exact wpAny_pure ⟨rfl, q3⟩
    | true => exact wpAny_bind (wpAny_bind (wpAny_mono q3 (fun x s4 q4 => wpAny_bind (wpAny_mono q4 (fun _ s5 q5 => wpAny_pure (wpAny_pure ⟨rfl, q5⟩)) fun _ _ z => z.elim)) fun _ _ z => z.elim))
end L2

set_option Elab.async false
set_option linter.all false
set_option maxRecDepth 100000
namespace L2
open PySem PySem.Spec PyProof.Rows

/-! ### [elt for tg in iter if ..] -/
/-- W: the word by the turn, a measure, the block's names and the heap (in which acc is the list so far) -/
def tComp (ix : List (Option Nat)) (wi : TI) (g : TG) (tt : TT) (te : TE) : TE := fun σ H Q => wi σ H fun J H1 => ∀ acc, H1 acc = none → ∃ W : Nat → Nat → St → Hp → Prop, (∃ m, W 0 m (pick ix σ) (upd H1 acc (.lst []))) ∧
  ∀ i m τ H2, W i m τ H2 → (J.stop i H2 ∧ Q (.ref acc) H2) ∨ (J.go i H2 ∧ ∃ Nx : St → Hp → Prop, (∀ τ' H', Nx τ' H' → ∃ m', m' < m ∧ W (i + 1) m' τ' H') ∧
    ∀ x H3, J.yld i H2 x H3 → g x τ H3 fun τ2 H4 => tt τ2 H4 fun b H5 => if b = true then te τ2 H5 fun y H6 => ∃ ys, H6 acc = some (.lst ys) ∧ ys.length < sizeLine ∧ Nx τ2 (upd H6 acc (.lst (ys ++ [y]))) else Nx τ2 H5)

section
variable {X : Cx} {sc : Scope} {N : List Str} {ix : List (Option Nat)} {elt tg iter : Expr} {ifs : List Expr} {pos : Pos} {wi : TI} {g : TG} {tt : TT} {te : TE}

/-- the block, whatever is done behind it with what it made -/
theorem comp_block {Q : VK} {pins : List (Addr × Obj)} {s : Shared} {σ : St} {H : Hp} {it : Addr} {fp : List Addr} {tn : Nat → Heap → Prop} {J : It} {RR : Value → Addr → Result → Shared → Prop}
    (hc : X.calm = true) (S : CmpScope X sc) (hix : idxOk N X.N sc ix = true)
    (hg : ∀ fp s₀ H₀ pn, PG (bx X sc N fp s₀ H₀ pn) tg g) (ht : ∀ fp s₀ H₀ pn, PIfs (bx X sc N fp s₀ H₀ pn) ifs tt) (he : ∀ fp s₀ H₀ pn, PE (bx X sc N fp s₀ H₀ pn) elt te)
    (I : Inv X pins σ H s) (T : Turn X.prog X.w X.K tg J fp it tn) (st : tn 0 s.heap) (hf : ∀ b ∈ fp, FpOk X pins H b)
    (q : ∀ acc, H acc = none → ∃ W : Nat → Nat → St → Hp → Prop, (∃ m, W 0 m (pick ix σ) (upd H acc (.lst []))) ∧
      ∀ i m τ H2, W i m τ H2 → (J.stop i H2 ∧ Q (.ref acc) H2) ∨ (J.go i H2 ∧ ∃ Nx : St → Hp → Prop, (∀ τ' H', Nx τ' H' → ∃ m', m' < m ∧ W (i + 1) m' τ' H') ∧
        ∀ x H3, J.yld i H2 x H3 → g x τ H3 fun τ2 H4 => tt τ2 H4 fun b H5 => if b = true then te τ2 H5 fun y H6 => ∃ ys, H6 acc = some (.lst ys) ∧ ys.length < sizeLine ∧ Nx τ2 (upd H6 acc (.lst (ys ++ [y]))) else Nx τ2 H5))
    (hR : ∀ (acc : Addr) (s₃ s' : Shared) (τ : St) (H' : Hp), Inv X pins σ (upd H acc (.lst [])) s₃ → (∀ b ∈ fp, FpOk X pins (upd H acc (.lst [])) b) → Inv (bx X sc N fp s₃ (upd H acc (.lst [])) (X.pn ++ pins)) [] τ H' s' → Q (.ref acc) H' →
      RR (.ref acc) s₃.heap.objs.size (.ok .next) s') :
    wpAny (model X.prog X.w) X.A (newList []) (fun acc s₃ => wpAny (model X.prog X.w) X.A (newFunctionEnv sc X.env.globals (clOf X.env.cells sc.names []) [] X.env.qual none .none (some X.env)) (fun cenv s₄ =>
      codeAny (model X.prog X.w) X.A (.compStart (.ListComp elt [⟨tg, iter, ifs, 0⟩] sc pos) 0 (.ref it) acc { cenv with scope := relabel sc X.env }) (RR acc cenv.locals) s₄) X.xe s₃) X.xe s := by
  refine wpAny_newObj_type ?_
  have hfr := I.fresh
  have I3 := I.lnew (its := []) (ys := []) (t' := s.toks) .nil (Nat.zero_le _)
  have fne : ∀ b ∈ fp, b < s.heap.objs.size := fun b hb => by
    obtain ⟨o, e, _⟩ := T.obj 0 _ st b hb
    exact Heap.lt_size e
  have hf3 : ∀ b ∈ fp, FpOk X pins (upd H s.heap.objs.size (.lst [])) b := fun b hb => by
    obtain ⟨f0, f⟩ := hf b hb
    refine ⟨?_, f⟩
    rw [upd_ne (Nat.ne_of_lt (fne b hb))]
    exact f0
  have q3 := q _ hfr
  have st3 : tn 0 (s.heap.push { cls := .type "list", data := .seq ([] : List Value).toArray }) := T.keep _ _ _ st fun b _ o e => Heap.get?_push_of_some _ e
  generalize e3 : ({ s with heap := s.heap.push { cls := .type "list", data := .seq ([] : List Value).toArray }, toks := s.toks } : Shared) = s3 at I3
  have es3 : s3.heap = s.heap.push { cls := .type "list", data := .seq ([] : List Value).toArray } := by rw [← e3]
  rw [← es3] at st3
  have hf3' : ∀ b ∈ fp, FpOk X pins (upd H s.heap.objs.size (.lst [])) b ∧ b < s3.heap.objs.size := fun b hb => ⟨hf3 b hb, by rw [es3, Heap.size_push]; exact Nat.lt_succ_of_lt (fne b hb)⟩
  refine wpAny_newFunctionEnv S.nocell (by intro y hy; cases hy) (fun h₁ hns₁ hsb₁ => ?_) S.kind
  have hk : ∀ b o, s3.heap.get? b = some o → h₁.get? b = some o := fun b o e => hsb₁.extBut b o (Nat.ne_of_lt (Heap.lt_size e)) (Heap.get?_push_of_some _ e)
  have I4 := I3.block (N := N) (ix := ix) (tk := s3.toks + ([] : List (Str × Value)).length) S hix hf3' hk hns₁
  have st4 : tn 0 h₁ := T.keep _ _ _ st3 fun b _ o e => hk b o e
  obtain ⟨W, ⟨m0, w0⟩, turn⟩ := q3
  have statN : ∀ {H' : Hp}, (∀ b ∈ fp, H' b = none) → ∀ b ∈ fp, FpOk (bx X sc N fp s3 (upd H s.heap.objs.size (.lst [])) (X.pn ++ pins)) [] H' b := fun {H'} hn b hb => by
    obtain ⟨⟨_, f1, f2, f3, f4, f5⟩, hlt⟩ := hf3' b hb
    refine ⟨hn b hb, Nat.ne_of_lt hlt, fun z => ?_, .inl hb, fun x c e => f4 x c (I3.clcell S e), fun p hp => ?_⟩
    · rcases List.mem_cons.mp (I3.stkSub b z) with z | z
      · exact f1 z
      · exact f2 z
    · refine f5 p ?_
      rcases List.mem_append.mp hp with z | z
      · exact z
      · cases z
  have loop : ∀ s4 : Shared, s4 = { s3 with heap := h₁, toks := s3.toks + ([] : List (Str × Value)).length } →
      codeAny (model X.prog X.w) X.A (.compLoop (.ListComp elt [⟨tg, iter, ifs, 0⟩] sc pos) 0 (.ref it) (.ref s.heap.objs.size) (compEnvC sc (clOf X.env.cells sc.names []) s3.heap.objs.size X.env)) (RR (.ref s.heap.objs.size) s3.heap.objs.size) s4 := by
    rintro s4 rfl
    refine compLoop_any (fun n s' => ∃ i τ H', Inv (bx X sc N fp s3 (upd H s.heap.objs.size (.lst [])) (X.pn ++ pins)) [] τ H' s' ∧ tn i s'.heap ∧ (∀ b ∈ fp, H' b = none) ∧ W i n τ H') ?_ m0 ⟨0, _, _, I4, st4, fun b hb => (hf3 b hb).1, w0⟩
    rintro n s5 ⟨i, τ, H5, I5, st5, fr5, w5⟩
    rcases turn i n τ H5 w5 with ⟨stop, qn⟩ | ⟨go, Nx, hN, step⟩
    · refine thn (T.done (bx X sc N fp s3 (upd H s.heap.objs.size (.lst [])) (X.pn ++ pins)) rfl rfl rfl hc i [] s5 τ H5 (fun _ _ => False) I5 (statN fr5) st5 stop) fun r s6 ⟨hr, I6⟩ => ?_
      subst hr
      exact hR _ _ _ _ _ I3 hf3 I6 qn
    · refine thn (T.item (bx X sc N fp s3 (upd H s.heap.objs.size (.lst [])) (X.pn ++ pins)) rfl rfl rfl hc i [] s5 τ H5 (fun _ _ => False) I5 (statN fr5) st5 go) fun r s6 ⟨u, hr, h6⟩ => ?_
      subst hr
      refine thn h6 fun _ s7 ⟨x, H7, I7, r7, y7, st7, fr7⟩ => ?_
      have I7' := I7.pinned (statN fr7) (T.obj _ _ st7)
      refine thn (hg _ _ _ _ _ s7 τ H7 x u _ I7' r7 (step x H7 y7)) fun _ s8 ⟨τ8, H8, I8, q8⟩ => ?_
      have again : ∀ {s9 : Shared} {τ9 : St} {H9 : Hp}, Inv (bx X sc N fp s3 (upd H s.heap.objs.size (.lst [])) (X.pn ++ pins)) ([] ++ pinsAt fp s7.heap) τ9 H9 s9 → Nx τ9 H9 →
          ∃ m, m < n ∧ ∃ i τ H', Inv (bx X sc N fp s3 (upd H s.heap.objs.size (.lst [])) (X.pn ++ pins)) [] τ H' s9 ∧ tn i s9.heap ∧ (∀ b ∈ fp, H' b = none) ∧ W i m τ H' := fun {s9 τ9 H9} I9 n9 => by
        obtain ⟨m', hm, w9⟩ := hN τ9 H9 n9
        refine ⟨m', hm, i + 1, τ9, H9, I9.unpinned, T.keep _ _ _ st7 fun b hb o e => (I9.pin (b, o) (List.mem_append_right _ (List.mem_append_right _ (mem_pinsAt hb e)))).1, fun b hb => ?_, w9⟩
        obtain ⟨o, e, d⟩ := T.obj _ _ st7 b hb
        exact (I9.pin (b, o) (List.mem_append_right _ (List.mem_append_right _ (mem_pinsAt hb e)))).2.1
      refine thn (ht _ _ _ _ _ s8 τ8 H8 _ I8 q8) fun ok s9 ⟨H9, I9, q9⟩ => ?_
      cases ok with
      | false => exact again I9 q9
      | true =>
        rw [if_pos rfl] at q9 ⊢
        refine thn (he _ _ _ _ _ s9 τ8 H9 _ I9 q9) fun yv s10 ⟨y, H10, I10, r10, ys, ha, hz, q10⟩ => ?_
        refine thn (mt_append _ s10 τ8 H10 (.ref s.heap.objs.size) [y] (.ref s.heap.objs.size) [yv] (fun v H' => v = .non ∧ Nx τ8 H') I10 rfl (.cons r10 .nil) ⟨_, ys, y, rfl, rfl, ha, hz, rfl, q10⟩) fun _ s11 ⟨_, H11, I11, _, _, q11⟩ => ?_
        exact again I11 q11
  exact codeAny_compStart_list (loop _ rfl) (T.self _ 0 _ _ _ st4 (loop _ rfl))

theorem pe_comp (hc : X.calm = true) (S : CmpScope X sc) (hix : idxOk N X.N sc ix = true) (hi : PI X tg iter wi)
    (hg : ∀ fp s₀ H₀ pn, PG (bx X sc N fp s₀ H₀ pn) tg g) (ht : ∀ fp s₀ H₀ pn, PIfs (bx X sc N fp s₀ H₀ pn) ifs tt) (he : ∀ fp s₀ H₀ pn, PE (bx X sc N fp s₀ H₀ pn) elt te)
    (hs : ∀ x, foldedSetIterable iter X.env x = pure x := by intro _; rfl) : PE X (.ListComp elt [⟨tg, iter, ifs, 0⟩] sc pos) (tComp ix wi g tt te) := by
  intro pins s σ H Q I h
  rw [eval_ListComp]
  refine wpAny_comprehension_free (use := none) rfl hs (closure_is (I.capt S)) S.kind S.loc (thn (hi pins s σ H _ I h) fun v s1 h1 => thn h1 fun itv s2 h2 => ?_)
  obtain ⟨it, fp, tn, J, H2, e, I2, T, st2, f2, q⟩ := h2
  subst e
  refine comp_block (Q := Q) (RR := fun acc C => compPost (model X.prog X.w) X.A X.xe none (EP X pins σ Q) acc C) hc S hix hg ht he I2 T st2 f2 q ?_
  intro acc s3 s' τ H' I3 hf3 J' qq
  obtain ⟨m, hn, _⟩ := J'.loc
  exact ⟨m, hn, fun h' hs' => ⟨.ref acc, H', I3.unblock hf3 J' hs', rfl, qq⟩⟩

/-- x = [..] where the store comes ahead of the block's end -/
theorem ps_comp {i : Nat} {x : Str} {px spos : Pos} (hsw : swapsWith (.ListComp elt [⟨tg, iter, ifs, 0⟩] sc pos) (some (.Name x px)) spos.line X.env = pure true)
    (hN : X.N.Nodup) (hi' : X.N[i]? = some x) (hx : X.env.scope.names.lookup x = some .local) (hc : X.calm = true) (S : CmpScope X sc) (hix : idxOk N X.N sc ix = true) (hi : PI X tg iter wi)
    (hg : ∀ fp s₀ H₀ pn, PG (bx X sc N fp s₀ H₀ pn) tg g) (ht : ∀ fp s₀ H₀ pn, PIfs (bx X sc N fp s₀ H₀ pn) ifs tt) (he : ∀ fp s₀ H₀ pn, PE (bx X sc N fp s₀ H₀ pn) elt te)
    (hs : ∀ x, foldedSetIterable iter X.env x = pure x := by intro _; rfl) : PS X (.Assign [.Name x px] (.ListComp elt [⟨tg, iter, ifs, 0⟩] sc pos) spos) (tAsg (tComp ix wi g tt te) (gName i)) := by
  intro pins s σ H D I h
  rw [exec_Assign_Name_used _ _ _ _ hsw]
  refine wpAny_bind (wpAny_standAt (wpAny_bind ?_))
  show wpAny _ X.A (do let _ ← comprehension (.ListComp elt [⟨tg, iter, ifs, 0⟩] sc pos) sc X.env _ (newList []) false (eval iter X.env) (some (assign (.Name x px) X.env))) _ _ s
  refine wpAny_bind (wpAny_mono (wpAny_comprehension_free (use := some (assign (.Name x px) X.env)) (Q := fun _ s' => SP X pins D .next s') rfl hs (closure_is (I.capt S)) S.kind S.loc
    (thn (hi pins s σ H _ I h) fun v s1 h1 => thn h1 fun itv s2 h2 => ?_)) (fun _ s' hq => wpAny_pure (wpAny_pure hq)) fun _ _ z => z)
  obtain ⟨it, fp, tn, J, H2, e, I2, T, st2, f2, q⟩ := h2
  subst e
  refine comp_block (Q := fun y H1 => gName i y σ H1 D.nx) (RR := fun acc C => compPost (model X.prog X.w) X.A X.xe (some (assign (.Name x px) X.env)) (fun _ s' => SP X pins D .next s') acc C) hc S hix hg ht he I2 T st2 f2 q ?_
  intro acc s3 s' τ H' I3 hf3 J' qq
  show wpAny _ X.A (assign (.Name x px) X.env (.ref acc)) _ _ _
  have I5 : Inv X pins σ H' s' := I3.unblock hf3 J' (.refl ..)
  obtain ⟨m, hn, _⟩ := J'.loc
  have hn : s'.heap.Ns s3.heap.objs.size m := hn
  have hLC : s3.heap.objs.size ≠ X.env.locals := Nat.ne_of_gt I3.lt
  refine wpAny_assign_Name (store_ok2 I5 hN hi' (.inl hx) (v := .ref acc) rfl (fun s6 I6 ⟨a, sb, ha⟩ => ?_) (.inr hx))
  have ea : a ≠ s3.heap.objs.size := by
    rcases ha with ha | ha
    · rw [ha]; exact Ne.symm hLC
    · obtain ⟨v, o, ho, _⟩ := I3.cell x a ha
      exact Nat.ne_of_lt (Heap.lt_size ho)
  refine ⟨m, hn.sameBut sb (Ne.symm ea), fun h' hs' => ?_⟩
  have hfr : H' s3.heap.objs.size = none := J'.free
  refine ⟨_, H', ?_, qq⟩
  -- the block's own frame goes
  have ok : HOk X.prog X.w H' h' := fun b ob e => by
    refine (I6.hok b ob e).stay (fun c w' hc q => (hs'.2 c ?_).trans q) (fun _ q => q) fun _ _ q => q
    rintro rfl
    rcases hc with rfl | hc
    · rw [hfr] at e; cases e
    · rw [hfr] at hc; cases hc
  have l3 : X.s₀.heap.objs.size ≤ s3.heap.objs.size := I3.sz
  have cne : ∀ y c, X.env.cells.lookup y = some c → c ≠ s3.heap.objs.size := fun y c e z => by
    obtain ⟨v, o, ho, _⟩ := I3.cell y c e
    exact absurd (Heap.lt_size ho) (by rw [z]; exact Nat.lt_irrefl _)
  exact I6.turned (t' := s6.toks) (it := s3.heap.objs.size) (fun b o hb e => (hs'.2 b hb).trans e) hfr hLC (.inr l3) cne fun p hp z => by
    have := (I3.pin p hp).1
    exact absurd (Heap.lt_size this) (by rw [z]; exact Nat.lt_irrefl _)
end

/-! ### the forms one uses: a comprehension whose turns only add to the heap -/
/-- over a list that stays: Pv i τ H ys: behind i turns -/
theorem comp_list {K : PySem.W.Frag} {a : Addr} {xs : List V} {g : TG} {tt : TT} {te : TE} {Q : VK} {τ0 : St} {H1 : Hp} {acc : Addr} (Pv : Nat → St → Hp → List V → Prop) (h0 : Pv 0 τ0 (upd H1 acc (.lst [])) [])
    (hl : ∀ i τ H ys, i ≤ xs.length → Pv i τ H ys → SqL K H a xs ∧ H acc = some (.lst ys) ∧ ys.length ≤ i) (hz : xs.length ≤ sizeLine)
    (hs : ∀ i x τ H ys, xs[i]? = some x → Pv i τ H ys → g x τ H fun τ2 H4 => tt τ2 H4 fun b H5 => if b = true then te τ2 H5 fun y H6 => H6 acc = some (.lst ys) ∧ Pv (i + 1) τ2 (upd H6 acc (.lst (ys ++ [y]))) (ys ++ [y]) else Pv (i + 1) τ2 H5 ys)
    (mono : ∀ x τ H Q Q', (∀ τ2 H2, Q τ2 H2 → Q' τ2 H2) → g x τ H Q → g x τ H Q') (monoT : ∀ τ H Q Q', (∀ b H2, Q b H2 → Q' b H2) → tt τ H Q → tt τ H Q') (monoE : ∀ τ H Q Q', (∀ v H2, Q v H2 → Q' v H2) → te τ H Q → te τ H Q')
    (hd : ∀ τ H ys, Pv xs.length τ H ys → Q (.ref acc) H) :
    ∃ W : Nat → Nat → St → Hp → Prop, (∃ m, W 0 m τ0 (upd H1 acc (.lst []))) ∧
      ∀ i m τ H2, W i m τ H2 → ((Itl K a).stop i H2 ∧ Q (.ref acc) H2) ∨ ((Itl K a).go i H2 ∧ ∃ Nx : St → Hp → Prop, (∀ τ' H', Nx τ' H' → ∃ m', m' < m ∧ W (i + 1) m' τ' H') ∧
        ∀ x H3, (Itl K a).yld i H2 x H3 → g x τ H3 fun τ2 H4 => tt τ2 H4 fun b H5 => if b = true then te τ2 H5 fun y H6 => ∃ ys, H6 acc = some (.lst ys) ∧ ys.length < sizeLine ∧ Nx τ2 (upd H6 acc (.lst (ys ++ [y]))) else Nx τ2 H5) := by
  refine ⟨fun i m τ H => m = xs.length - i ∧ i ≤ xs.length ∧ ∃ ys, Pv i τ H ys, ⟨xs.length, by simp, Nat.zero_le _, [], h0⟩, ?_⟩
  rintro i m τ H2 ⟨rfl, hi, ys, p⟩
  obtain ⟨q, ha, hlen⟩ := hl i τ H2 ys hi p
  by_cases hlt : i < xs.length
  · refine .inr ⟨⟨xs, xs[i], q, by simp [hlt]⟩, fun τ' H' => ∃ ys', Pv (i + 1) τ' H' ys', fun τ' H' p' => ⟨xs.length - (i + 1), by omega, rfl, hlt, p'⟩, fun x H' y => ?_⟩
    obtain ⟨e, y⟩ := y
    subst e
    refine mono _ _ _ _ _ (fun τ2 H4 z => monoT _ _ _ _ (fun b H5 z => ?_) z) (hs i x τ _ ys (y xs q) p)
    cases b with
    | true =>
      rw [if_pos rfl] at z ⊢
      exact monoE _ _ _ _ (fun v H6 ⟨z1, z2⟩ => ⟨ys, z1, by omega, _, z2⟩) z
    | false => exact ⟨ys, z⟩
  · have e : i = xs.length := by omega
    subst e
    exact .inl ⟨⟨xs, q, Nat.le_refl _⟩, hd τ H2 ys p⟩
theorem comp_range {lo : Int} {n : Nat} {g : TG} {tt : TT} {te : TE} {Q : VK} {τ0 : St} {H1 : Hp} {acc : Addr} (Pv : Nat → St → Hp → List V → Prop) (h0 : Pv 0 τ0 (upd H1 acc (.lst [])) [])
    (hl : ∀ i τ H ys, i ≤ n → Pv i τ H ys → H acc = some (.lst ys) ∧ ys.length ≤ i) (hz : n ≤ sizeLine)
    (hs : ∀ i τ H ys, i < n → Pv i τ H ys → g (.int (lo + i)) τ H fun τ2 H4 => tt τ2 H4 fun b H5 => if b = true then te τ2 H5 fun y H6 => H6 acc = some (.lst ys) ∧ Pv (i + 1) τ2 (upd H6 acc (.lst (ys ++ [y]))) (ys ++ [y]) else Pv (i + 1) τ2 H5 ys)
    (mono : ∀ x τ H Q Q', (∀ τ2 H2, Q τ2 H2 → Q' τ2 H2) → g x τ H Q → g x τ H Q') (monoT : ∀ τ H Q Q', (∀ b H2, Q b H2 → Q' b H2) → tt τ H Q → tt τ H Q') (monoE : ∀ τ H Q Q', (∀ v H2, Q v H2 → Q' v H2) → te τ H Q → te τ H Q')
    (hd : ∀ τ H ys, Pv n τ H ys → Q (.ref acc) H) :
    ∃ W : Nat → Nat → St → Hp → Prop, (∃ m, W 0 m τ0 (upd H1 acc (.lst []))) ∧
      ∀ i m τ H2, W i m τ H2 → ((Itr lo n).stop i H2 ∧ Q (.ref acc) H2) ∨ ((Itr lo n).go i H2 ∧ ∃ Nx : St → Hp → Prop, (∀ τ' H', Nx τ' H' → ∃ m', m' < m ∧ W (i + 1) m' τ' H') ∧
        ∀ x H3, (Itr lo n).yld i H2 x H3 → g x τ H3 fun τ2 H4 => tt τ2 H4 fun b H5 => if b = true then te τ2 H5 fun y H6 => ∃ ys, H6 acc = some (.lst ys) ∧ ys.length < sizeLine ∧ Nx τ2 (upd H6 acc (.lst (ys ++ [y]))) else Nx τ2 H5) := by
  refine ⟨fun i m τ H => m = n - i ∧ i ≤ n ∧ ∃ ys, Pv i τ H ys, ⟨n, by simp, Nat.zero_le _, [], h0⟩, ?_⟩
  rintro i m τ H2 ⟨rfl, hi, ys, p⟩
  obtain ⟨ha, hlen⟩ := hl i τ H2 ys hi p
  by_cases hlt : i < n
  · refine .inr ⟨hlt, fun τ' H' => ∃ ys', Pv (i + 1) τ' H' ys', fun τ' H' p' => ⟨n - (i + 1), by omega, rfl, hlt, p'⟩, fun x H' y => ?_⟩
    obtain ⟨e, y⟩ := y
    subst e y
    refine mono _ _ _ _ _ (fun τ2 H4 z => monoT _ _ _ _ (fun b H5 z => ?_) z) (hs i τ _ ys hlt p)
    cases b with
    | true =>
      rw [if_pos rfl] at z ⊢
      exact monoE _ _ _ _ (fun v H6 ⟨z1, z2⟩ => ⟨ys, z1, by omega, _, z2⟩) z
    | false => exact ⟨ys, z⟩
  · have e : i = n := by omega
    subst e
    exact .inl ⟨Nat.le_refl _, hd τ H2 ys p⟩
end L2

set_option Elab.async false
set_option linter.all false
set_option maxRecDepth 100000
/-! TEXTS over the hand layer: a text is the list of its signs' codes. -/
namespace L2
open PySem PySem.Spec PyProof.Rows

abbrev tx (l : List Nat) : V := .str ⟨l.toArray⟩
theorem tx_inj {a b : List Nat} : tx a = tx b ↔ a = b := by
  constructor
  · intro h
    have h1 : (⟨a.toArray⟩ : Str) = ⟨b.toArray⟩ := V.str.inj h
    have h2 : a.toArray = b.toArray := congrArg Str.cps h1
    simpa using h2
  · rintro rfl; rfl
theorem dec_tx {a b : List Nat} : decide (tx a = tx b) = decide (a = b) := by
  by_cases h : a = b
  · subst h; simp
  · rw [decide_eq_false h, decide_eq_false fun z => h (tx_inj.mp z)]
theorem txlen (l : List Nat) : (⟨l.toArray⟩ : Str).length = l.length := by
  show l.toArray.size = l.length
  simp
theorem tx_of (x : Str) : V.str x = tx x.cps.toList := by
  obtain ⟨c⟩ := x
  show V.str ⟨c⟩ = V.str ⟨c.toList.toArray⟩
  simp

/-- text, text: under C a value -/
def rT (C : List Nat → List Nat → Prop) (g : List Nat → List Nat → V) : R2 := fun x y H Q => ∃ a b, x = tx a ∧ y = tx b ∧ C a b ∧ Q (g a b) H
def cut {α : Type} (l : List α) (lo hi : Option Int) : List α := (l.drop (HT.sIx l.length 0 lo)).take (HT.sIx l.length l.length hi - HT.sIx l.length 0 lo)
theorem cut_length {α : Type} (l : List α) (lo hi : Option Int) : (cut l lo hi).length ≤ l.length := by
  unfold cut
  rw [List.length_take, List.length_drop]
  omega
theorem cut_nn {α : Type} (l : List α) (a b : Nat) : cut l (some (a : Int)) (some (b : Int)) = (l.drop a).take (b - a) := by
  unfold cut
  rw [HT.sIx_nat, HT.sIx_nat]
  apply List.ext_getElem?
  intro i
  simp only [List.getElem?_take, List.getElem?_drop]
  by_cases h1 : i < min b l.length - min a l.length
  · rw [if_pos h1, if_pos (by omega)]
    congr 1; omega
  · rw [if_neg h1]
    by_cases h2 : i < b - a
    · rw [if_pos h2, List.getElem?_eq_none (by omega)]
    · rw [if_neg h2]
theorem cut_to {α : Type} (l : List α) (b : Nat) : cut l none (some (b : Int)) = l.take b := by
  unfold cut
  rw [HT.sIx_nat, HT.sIx_none]
  apply List.ext_getElem?
  intro i
  simp only [List.getElem?_take, List.getElem?_drop, Nat.zero_add, Nat.sub_zero]
  by_cases h1 : i < min b l.length
  · rw [if_pos h1, if_pos (by omega)]
  · rw [if_neg h1]
    by_cases h2 : i < b
    · rw [if_pos h2, List.getElem?_eq_none (by omega)]
    · rw [if_neg h2]
theorem cut_from {α : Type} (l : List α) (a : Nat) : cut l (some (a : Int)) none = l.drop a := by
  unfold cut
  rw [HT.sIx_nat, HT.sIx_none]
  apply List.ext_getElem?
  intro i
  simp only [List.getElem?_take, List.getElem?_drop]
  by_cases h1 : i < l.length - min a l.length
  · rw [if_pos h1]; congr 1; omega
  · rw [if_neg h1, List.getElem?_eq_none (by omega)]

def clp (n : Nat) (v : Option Int) (d : Int) : Int := match v with
  | none => d
  | some i => max 0 (min (if i < 0 then i + (n : Int) else i) (n : Int))
theorem clp_eq (n d : Nat) (o : Option Int) : clp n o (d : Int) = ((HT.sIx n d o : Nat) : Int) := by
  cases o with
  | none => rw [HT.sIx_none]; rfl
  | some v =>
    have := HT.clip_eq v n d
    unfold clp
    dsimp only
    rw [← this]
    split <;> omega
theorem strIdx_eq (lo hi : Option Int) (n : Nat) : Builtin.Str.strSliceIndices lo hi 1 n = (List.range (HT.sIx n n hi - HT.sIx n 0 lo)).map fun k => HT.sIx n 0 lo + k := by
  have g : Builtin.Str.strSliceIndices lo hi 1 n = sliceRange (clp n lo ((0 : Nat) : Int)) (clp n hi (n : Int)) 1 := by
    cases lo <;> cases hi <;> rfl
  rw [g, clp_eq, clp_eq]
  generalize HT.sIx n 0 lo = a
  generalize HT.sIx n n hi = b
  unfold sliceRange
  have hc : (if (1 : Int) > 0 then (if (a : Int) < (b : Int) then ((b : Int) - a + 1 - 1) / 1 else 0) else (if (a : Int) > (b : Int) then ((a : Int) - b - 1 - 1) / (-1) else 0)).toNat = b - a := by
    simp only [show (1 : Int) > 0 by decide, if_true, Int.ediv_one]
    split <;> omega
  dsimp only
  rw [hc]
  apply List.map_congr_left
  intro k _
  omega
theorem slice_tx (l : List Nat) (lo hi : Option Int) : Txt.slice ⟨l.toArray⟩ lo hi = ⟨(cut l lo hi).toArray⟩ := by
  have h1 := HT.sIx_le l.length 0 (Nat.zero_le _) lo
  have h2 := HT.sIx_le l.length l.length (Nat.le_refl _) hi
  unfold Txt.slice
  rw [txlen, strIdx_eq]
  have e : ((List.range (HT.sIx l.length l.length hi - HT.sIx l.length 0 lo)).map fun k => HT.sIx l.length 0 lo + k).filterMap (fun i => l.toArray[i]?) = cut l lo hi := by
    unfold cut
    generalize HT.sIx l.length 0 lo = a at *
    generalize HT.sIx l.length l.length hi = b at *
    have hab : ∀ n, a + n ≤ l.length → ((List.range n).map fun k => a + k).filterMap (fun i => l.toArray[i]?) = (l.drop a).take n := by
      intro n
      induction n with
      | zero => intro _; simp
      | succ n ih =>
        intro hn
        rw [List.range_succ, List.map_append, List.filterMap_append, ih (by omega), List.take_add_one]
        have : (l.drop a)[n]? = l[a + n]? := List.getElem?_drop
        simp [this, List.getElem?_eq_getElem (show a + n < l.length by omega)]
    by_cases hle : a ≤ b
    · exact hab _ (by omega)
    · have : b - a = 0 := by omega
      rw [this]; simp
  split
  · rename_i hc
    simp only [beq_self_eq_true, Bool.true_and, List.length_map, List.length_range] at hc
    have hc' : HT.sIx l.length l.length hi - HT.sIx l.length 0 lo = l.length := by simpa using hc
    have : cut l lo hi = l := by
      unfold cut
      have ha : HT.sIx l.length 0 lo = 0 := by omega
      rw [hc', ha, List.drop_zero, List.take_of_length_le (Nat.le_refl _)]
    rw [this]
  · show (⟨(List.filterMap (fun i => l.toArray[i]?) _).toArray⟩ : Str) = _
    rw [e]

section
variable {X : Cx}

theorem op_add_tx : OpR X (binaryOp .Add) (rT (fun a b => a.length + b.length ≤ sizeLine) fun a b => tx (a ++ b)) := by
  rintro pins s σ H x y v u Q I rx ry ⟨a, b, rfl, rfl, hz, q⟩
  refine op_add_str pins s σ H _ _ v u Q I rx ry ⟨_, _, rfl, rfl, by rw [txlen, txlen]; exact hz, ?_⟩
  have e : ((⟨a.toArray⟩ : Str) ++ (⟨b.toArray⟩ : Str)) = ⟨(a ++ b).toArray⟩ := by
    show (⟨a.toArray ++ b.toArray⟩ : Str) = _
    simp
  rw [e]; exact q
theorem op_lt_tx : OpR X (compareOp .Lt) (rT (fun _ _ => True) fun a b => .bl (decide (a < b))) := by
  rintro pins s σ H x y v u Q I rx ry ⟨a, b, rfl, rfl, _, q⟩
  exact op_lt_str pins s σ H _ _ v u Q I rx ry ⟨_, _, rfl, rfl, q⟩
theorem op_le_tx : OpR X (compareOp .LtE) (rT (fun _ _ => True) fun a b => .bl (!decide (b < a))) := by
  rintro pins s σ H x y v u Q I rx ry ⟨a, b, rfl, rfl, _, q⟩
  obtain ⟨t, rfl⟩ := rx
  obtain ⟨t', rfl⟩ := ry
  exact PySem.P.le_str ⟨.bl _, H, I, rfl, q⟩
/-- a sign in a text -/
theorem op_in_sign : OpR X (compareOp .In) (fun x y H Q => ∃ c l, x = tx [c] ∧ y = tx l ∧ Q (.bl (decide (c ∈ l))) H) := by
  rintro pins s σ H x y v u Q I rx ry ⟨c, l, rfl, rfl, q⟩
  refine op_in_str pins s σ H _ _ v u Q I rx ry ⟨_, _, rfl, rfl, ?_⟩
  have e := StrLaws.found_one ⟨l.toArray⟩ c
  have e' : (!(Builtin.Str.occurrences ⟨l.toArray⟩ ⟨[c].toArray⟩ 0 (⟨l.toArray⟩ : Str).length 1).isEmpty) = decide (c ∈ l) := by
    rw [show ([c].toArray) = #[c] from rfl, e]
  rw [e']; exact q
theorem op_notin_sign : OpR X (compareOp .NotIn) (fun x y H Q => ∃ c l, x = tx [c] ∧ y = tx l ∧ Q (.bl (!decide (c ∈ l))) H) := by
  rintro pins s σ H x y v u Q I rx ry ⟨c, l, rfl, rfl, q⟩
  refine op_notin_str pins s σ H _ _ v u Q I rx ry ⟨_, _, rfl, rfl, ?_⟩
  have e := StrLaws.found_one ⟨l.toArray⟩ c
  have e' : (!(Builtin.Str.occurrences ⟨l.toArray⟩ ⟨[c].toArray⟩ 0 (⟨l.toArray⟩ : Str).length 1).isEmpty) = decide (c ∈ l) := by
    rw [show ([c].toArray) = #[c] from rfl, e]
  rw [e']; exact q
/-- t[i] -/
theorem ix_tx : IxR X (fun x y H Q => ∃ l i c, x = tx l ∧ y = .int i ∧ l.length ≤ sizeLine ∧ atI l i = some c ∧ Q (tx [c]) H) := by
  rintro value slice pins s σ H x y v u Q I rx ry ⟨l, i, c, rfl, rfl, hz, h, q⟩ hs
  exact ix_str value slice pins s σ H _ _ v u Q I rx ry ⟨_, i, c, rfl, rfl, by rw [txlen]; exact hz, h, q⟩ hs
/-- t[lo:hi] -/
theorem sl_tx : SlR X (fun x lo hi H Q => ∃ l, x = tx l ∧ l.length ≤ sizeLine ∧ Q (tx (cut l lo hi)) H) := by
  rintro pins s σ H x v vl vu lo hi sl Q I rx hs pl pu ⟨l, rfl, hz, q⟩
  obtain ⟨t, rfl⟩ := rx
  refine ⟨"str", _, F.slot_str_getitem.lookup, typeIs_str _ _ _, ?_⟩
  have part : ∀ {v : Value} {o : Option Int}, IsPart v o → ∃ p : Option (Int × Tok), v = partValue p ∧ p.map (·.1) = o := fun {v o} h => by
    cases h with
    | none => exact ⟨none, rfl, rfl⟩
    | int i t => exact ⟨some (i, t), rfl, rfl⟩
  obtain ⟨a, rfl, ea⟩ := part pl
  obtain ⟨b, rfl, eb⟩ := part pu
  refine wpAny_getItem_str_slice (l := a) (u := b) (st := none) hs rfl ?_
  have e : (if ((1 : Int) == 1 && (Builtin.Str.strSliceIndices lo hi 1 (⟨l.toArray⟩ : Str).length).length == (⟨l.toArray⟩ : Str).length) = true then (⟨l.toArray⟩ : Str) else ⟨((Builtin.Str.strSliceIndices lo hi 1 (⟨l.toArray⟩ : Str).length).filterMap ((⟨l.toArray⟩ : Str).cps[·]?)).toArray⟩) = ⟨(cut l lo hi).toArray⟩ := slice_tx l lo hi
  unfold sliceMade slicePicked
  rw [ea, eb]
  refine post_val_or_str ?_
  refine ⟨?_, fun t' k => ?_⟩
  · show (if ((1 : Int) == 1 && (Builtin.Str.strSliceIndices lo hi 1 (⟨l.toArray⟩ : Str).length).length == (⟨l.toArray⟩ : Str).length) = true then (⟨l.toArray⟩ : Str) else ⟨((Builtin.Str.strSliceIndices lo hi 1 (⟨l.toArray⟩ : Str).length).filterMap ((⟨l.toArray⟩ : Str).cps[·]?)).toArray⟩).length ≤ sizeLine
    rw [e, txlen]
    exact Nat.le_trans (cut_length _ _ _) hz
  · refine ⟨tx (cut l lo hi), H, I.tok _, ⟨t', ?_⟩, q⟩
    exact congrArg (fun z => Value.str z t') e
/-- len of a text -/
theorem call_len_tx : CallR X (.builtin "len") (fun xs H Q => ∃ l, xs = [tx l] ∧ l.length ≤ sizeLine ∧ Q (.int l.length) H) := by
  rintro pins s σ H xs us Q I r ⟨l, rfl, hz, q⟩
  exact call_len_str pins s σ H _ us Q I r ⟨_, rfl, by rw [txlen]; exact hz, by rw [txlen]; exact q⟩
/-- ''.join, sep.join of a list of texts -/
def glue (sep : List Nat) : List (List Nat) → List Nat
  | [] => []
  | [x] => x
  | x :: r => x ++ sep ++ glue sep r
theorem glue_nil : ∀ ls : List (List Nat), glue [] ls = ls.flatten
  | [] => rfl
  | [x] => by simp [glue]
  | x :: y :: r => by
    show x ++ [] ++ glue [] (y :: r) = _
    rw [glue_nil (y :: r)]
    simp
theorem join_tx (sep : List Nat) : ∀ ls : List (List Nat), Str.join ⟨sep.toArray⟩ (ls.map fun l => (⟨l.toArray⟩ : Str)) = ⟨(glue sep ls).toArray⟩
  | [] => rfl
  | [x] => rfl
  | x :: y :: r => by
    have ih := join_tx sep (y :: r)
    show (⟨x.toArray⟩ : Str) ++ ⟨sep.toArray⟩ ++ Str.join ⟨sep.toArray⟩ ((y :: r).map fun l => (⟨l.toArray⟩ : Str)) = _
    rw [ih]
    show (⟨x.toArray ++ sep.toArray ++ (glue sep (y :: r)).toArray⟩ : Str) = ⟨(x ++ sep ++ glue sep (y :: r)).toArray⟩
    simp
theorem strsAre_tx : ∀ {ls : List (List Nat)} {us : List Value}, Vals (ls.map tx) us → StrsAre us (ls.map fun l => (⟨l.toArray⟩ : Str))
  | [], us, r => by
    rw [List.map_nil] at r; cases r; exact .nil
  | l :: ls, us, r => by
    rw [List.map_cons] at r
    cases r with
    | cons r1 r2 =>
      obtain ⟨t, e⟩ := r1
      subst e
      exact .cons _ t (strsAre_tx r2)
theorem mt_join : MtM X "str.join" (fun x vs H Q => ∃ sep a ls, x = tx sep ∧ vs = [.ref a] ∧ H a = some (.lst (ls.map tx)) ∧ (ls.map List.length).sum + ls.length * sep.length ≤ 16777216 ∧ Q (tx (glue sep ls)) H) := by
  rintro pins s σ H x vs v us Q I rx rv ⟨sep, a, ls, rfl, rfl, ha, hz, q⟩
  obtain ⟨t, rfl⟩ := rx
  obtain ⟨u, rfl, ru⟩ := rv.one
  cases ru
  obtain ⟨_, its, n, r, _, e⟩ := I.lstM ha
  refine join_list (PySem.IsL.isList e) (strsAre_tx (by simpa using r)) ?_ fun t' k => ?_
  · have e1 : ((ls.map fun l => (⟨l.toArray⟩ : Str)).map (·.length)).sum = (ls.map List.length).sum := by
      rw [List.map_map]
      congr 1
      all_goals (apply List.map_congr_left; intro l _; exact txlen l)
    rw [e1, List.length_map, txlen]
    exact hz
  · refine ⟨tx (glue sep ls), H, I.tok _, ⟨t', ?_⟩, q⟩
    have e2 : Txt.join ⟨sep.toArray⟩ (ls.map fun l => (⟨l.toArray⟩ : Str)) = ⟨(glue sep ls).toArray⟩ := by
      show Builtin.Str.glued _ _ = _
      rw [StrLaws.glued_eq_join, join_tx]
    rw [e2]
end

/-! ### for sign in text -/
def Its (l : List Nat) : It := ⟨fun i _ => i < l.length, fun i H x H' => H' = H ∧ ∃ c, l[i]? = some c ∧ x = tx [c], fun i _ => l.length ≤ i⟩
theorem turn_text {P : Program} {w : World} {K : PySem.W.Frag} {tg : Expr} (l : List Nat) (t : Tok) (it : Addr) (ty : String) (hty : ty = "str_ascii_iterator" ∨ ty = "str_iterator") : Turn P w K tg (Its l) [it] it (fun i h => h.IsStrIter it ty ⟨l.toArray⟩ t i) where
  mem := by simp
  obj := fun i h st b hb => by
    have e : b = it := by simpa using hb
    subst e
    obtain ⟨o, e, c, d⟩ := st
    exact ⟨o, e, fun v z => by rw [d] at z; cases z⟩
  keep := fun i h h' st k => by
    obtain ⟨o, e, r⟩ := st
    exact ⟨o, k it (by simp) o e, r⟩
  item := by
    intro X hP hw hK hc i pins s σ H E I hf st hg
    subst hP hw hK
    obtain ⟨f0, f1, f2, f3, f4, f5⟩ := hf it (by simp)
    have hg : i < l.length := hg
    have hx : (⟨l.toArray⟩ : Str).cps[i]? = some l[i] := by
      show l.toArray[i]? = some l[i]
      simp [hg]
    have fin : ∀ (h' : Heap) (tk : Tok), h'.IsStrIter it ty ⟨l.toArray⟩ t (i + 1) → Heap.SameBut it s.heap h' →
        ∃ u, some (Value.str ⟨#[l[i]]⟩ s.toks) = some u ∧ wpAny (model X.prog X.w) X.A (letOwnedTupleGo tg (.ref it) u) (fun _ s2 => ∃ x H', Inv X pins σ H' s2 ∧ RelV x u ∧ (Its l).yld i H x H' ∧ s2.heap.IsStrIter it ty ⟨l.toArray⟩ t (i + 1) ∧ ∀ b ∈ [it], H' b = none) E { s with heap := h', toks := tk } := fun h' tk st' sb => by
      have I1 : Inv X pins σ H { s with heap := h', toks := tk } := I.turned (t' := tk) (fun b o hb e => (sb.2 b hb).trans e) f0 f1 f3 f4 f5
      obtain ⟨o, e, c, d⟩ := id st'
      refine ⟨_, rfl, go_of (s := { s with heap := h', toks := tk }) e c d ?_ ⟨tx [l[i]], H, I1, ⟨_, rfl⟩, ⟨rfl, l[i], by simp [hg], rfl⟩, st', fun b hb => (hf b hb).1⟩⟩
      rcases hty with rfl | rfl <;> decide
    rcases hty with rfl | rfl
    · exact wpAny_pyNext_ascii_item st hx fun h' st' sb => fin h' _ st' sb
    · exact wpAny_pyNext_wide_item st hx fun h' st' sb => fin h' _ st' sb
  done := by
    intro X hP hw hK hc i pins s σ H E I hf st hg
    subst hP hw hK
    obtain ⟨f0, f1, f2, f3, f4, f5⟩ := hf it (by simp)
    have hg : l.length ≤ i := hg
    have hx : (⟨l.toArray⟩ : Str).cps[i]? = none := by
      show l.toArray[i]? = none
      simp [hg]
    rcases hty with rfl | rfl
    · exact wpAny_pyNext_ascii_end (I.ok.hd hc) st hx fun h' eb => ⟨rfl, I.turned (t' := s.toks) (fun b o hb e => eb b o hb e) f0 f1 f3 f4 f5⟩
    · exact wpAny_pyNext_wide_end (I.ok.hd hc) st hx fun h' eb => ⟨rfl, I.turned (t' := s.toks) (fun b o hb e => eb b o hb e) f0 f1 f3 f4 f5⟩
  self := by
    intro A i s Q E st h
    rcases hty with rfl | rfl
    · exact wpAny_pyIter_striter_ascii st h
    · exact wpAny_pyIter_striter_wide st h
section
variable {X : Cx} {tg : Expr}
def iText (tl : TE) : TI := fun σ H R => tl σ H fun x H1 => ∃ l, x = tx l ∧ R (Its l) H1
theorem pi_text {l : Expr} {tl : TE} (hl : PE X l tl) : PI X tg l (iText tl) := by
  intro pins s σ H R I h
  refine thn (hl pins s σ H _ I h) fun v s1 ⟨x, H1, I1, r1, q1⟩ => ?_
  obtain ⟨l, rfl, q⟩ := q1
  obtain ⟨t, rfl⟩ := r1
  have fin : ∀ ty, (ty = "str_ascii_iterator" ∨ ty = "str_iterator") → PIE X pins σ tg R (.ref s1.heap.objs.size) { s1 with heap := s1.heap.push { cls := .type ty, data := .fields #[.str ⟨l.toArray⟩ t, .int 0 0] } } := fun ty hty => by
    refine ⟨s1.heap.objs.size, [s1.heap.objs.size], _, _, H1, rfl, I1.kept (t' := s1.toks) fun b o e => Heap.get?_push_of_some _ e, turn_text l t _ ty hty, ⟨_, Heap.get?_push_size _ rfl, rfl, rfl⟩, fun b hb => ?_, q⟩
    have e : b = s1.heap.objs.size := by simpa using hb
    subst e
    exact I1.fpOk (Nat.le_refl _) (I1.hok.fresh (Nat.le_refl _))
  cases ha : (⟨l.toArray⟩ : Str).cps.all (· < 128)
  · exact wpAny_pyIter_wide ha (fin _ (.inr rfl))
  · exact wpAny_pyIter_ascii ha (fin _ (.inl rfl))
end
theorem for_text {l : List Nat} {g : TG} {tb : TS} {D : Ends} {σ : St} {H : Hp} (Pv : Nat → St → Hp → Prop) (h0 : Pv 0 σ H)
    (hs : ∀ i c σ H, l[i]? = some c → Pv i σ H → g (tx [c]) σ H fun σ2 H2 => tb { D with nx := Pv (i + 1), ct := Pv (i + 1), bk := D.nx } σ2 H2) (hd : ∀ σ H, Pv l.length σ H → D.nx σ H) :
    ∃ W : Nat → Nat → St → Hp → Prop, (∃ m, W 0 m σ H) ∧ ∀ i m σ H, W i m σ H →
      ((Its l).stop i H ∧ D.nx σ H) ∨ ((Its l).go i H ∧ ∃ N : St → Hp → Prop, (∀ σ' H', N σ' H' → ∃ m', m' < m ∧ W (i + 1) m' σ' H') ∧ ∀ x H', (Its l).yld i H x H' → g x σ H' fun σ2 H2 => tb { D with nx := N, ct := N, bk := D.nx } σ2 H2) := by
  refine ⟨fun i m σ H => m = l.length - i ∧ i ≤ l.length ∧ Pv i σ H, ⟨l.length, by simp, Nat.zero_le _, h0⟩, ?_⟩
  rintro i m σ H ⟨rfl, hi, p⟩
  by_cases hlt : i < l.length
  · refine .inr ⟨hlt, Pv (i + 1), fun σ' H' p' => ⟨l.length - (i + 1), by omega, rfl, hlt, p'⟩, fun x H' y => ?_⟩
    obtain ⟨e, c, hc, y⟩ := y
    subst e y
    exact hs i c σ _ hc p
  · have e : i = l.length := by omega
    subst e
    exact .inl ⟨Nat.le_refl _, hd σ H p⟩
theorem comp_text {l : List Nat} {g : TG} {tt : TT} {te : TE} {Q : VK} {τ0 : St} {H1 : Hp} {acc : Addr} (Pv : Nat → St → Hp → List V → Prop) (h0 : Pv 0 τ0 (upd H1 acc (.lst [])) [])
    (hl : ∀ i τ H ys, i ≤ l.length → Pv i τ H ys → H acc = some (.lst ys) ∧ ys.length ≤ i) (hz : l.length ≤ sizeLine)
    (hs : ∀ i c τ H ys, l[i]? = some c → Pv i τ H ys → g (tx [c]) τ H fun τ2 H4 => tt τ2 H4 fun b H5 => if b = true then te τ2 H5 fun y H6 => H6 acc = some (.lst ys) ∧ Pv (i + 1) τ2 (upd H6 acc (.lst (ys ++ [y]))) (ys ++ [y]) else Pv (i + 1) τ2 H5 ys)
    (mono : ∀ x τ H Q Q', (∀ τ2 H2, Q τ2 H2 → Q' τ2 H2) → g x τ H Q → g x τ H Q') (monoT : ∀ τ H Q Q', (∀ b H2, Q b H2 → Q' b H2) → tt τ H Q → tt τ H Q') (monoE : ∀ τ H Q Q', (∀ v H2, Q v H2 → Q' v H2) → te τ H Q → te τ H Q')
    (hd : ∀ τ H ys, Pv l.length τ H ys → Q (.ref acc) H) :
    ∃ W : Nat → Nat → St → Hp → Prop, (∃ m, W 0 m τ0 (upd H1 acc (.lst []))) ∧
      ∀ i m τ H2, W i m τ H2 → ((Its l).stop i H2 ∧ Q (.ref acc) H2) ∨ ((Its l).go i H2 ∧ ∃ Nx : St → Hp → Prop, (∀ τ' H', Nx τ' H' → ∃ m', m' < m ∧ W (i + 1) m' τ' H') ∧
        ∀ x H3, (Its l).yld i H2 x H3 → g x τ H3 fun τ2 H4 => tt τ2 H4 fun b H5 => if b = true then te τ2 H5 fun y H6 => ∃ ys, H6 acc = some (.lst ys) ∧ ys.length < sizeLine ∧ Nx τ2 (upd H6 acc (.lst (ys ++ [y]))) else Nx τ2 H5) := by
  refine ⟨fun i m τ H => m = l.length - i ∧ i ≤ l.length ∧ ∃ ys, Pv i τ H ys, ⟨l.length, by simp, Nat.zero_le _, [], h0⟩, ?_⟩
  rintro i m τ H2 ⟨rfl, hi, ys, p⟩
  obtain ⟨ha, hlen⟩ := hl i τ H2 ys hi p
  by_cases hlt : i < l.length
  · refine .inr ⟨hlt, fun τ' H' => ∃ ys', Pv (i + 1) τ' H' ys', fun τ' H' p' => ⟨l.length - (i + 1), by omega, rfl, hlt, p'⟩, fun x H' y => ?_⟩
    obtain ⟨e, c, hc, y⟩ := y
    subst e y
    refine mono _ _ _ _ _ (fun τ2 H4 z => monoT _ _ _ _ (fun b H5 z => ?_) z) (hs i c τ _ ys hc p)
    cases b with
    | true =>
      rw [if_pos rfl] at z ⊢
      exact monoE _ _ _ _ (fun v H6 ⟨z1, z2⟩ => ⟨ys, z1, by omega, _, z2⟩) z
    | false => exact ⟨ys, z⟩
  · have e : i = l.length := by omega
    subst e
    exact .inl ⟨Nat.le_refl _, hd τ H2 ys p⟩
end L2

set_option Elab.async false
set_option linter.all false
set_option maxRecDepth 100000
/-! DATA over the hand layer: lists and tuples of lists and tuples of flat values, and their == and != -/
namespace L2
open PySem PySem.Spec PyProof.Rows

inductive DT where
  | f (v : V)
  | l (xs : List DT)
  | t (xs : List DT)

section
variable (K : PySem.W.Frag) (H : Hp)
mutual
def DatOk : DT → V → Prop
  | .f w, v => v = w ∧ flatV w = true
  | .l ds, v => ∃ a vs, v = .ref a ∧ SqL K H a vs ∧ DatsOk ds vs
  | .t ds, v => ∃ a vs, v = .ref a ∧ SqT K H a vs ∧ DatsOk ds vs
def DatsOk : List DT → List V → Prop
  | [], vs => vs = []
  | d :: ds, vs => ∃ v r, vs = v :: r ∧ DatOk d v ∧ DatsOk ds r
end
end
mutual
def deq : DT → DT → Bool
  | .f v, .f w => eqV v w
  | .l xs, .l ys => deqs xs ys
  | .t xs, .t ys => deqs xs ys
  | .f _, .l _ => false
  | .f _, .t _ => false
  | .l _, .f _ => false
  | .t _, .f _ => false
  | .l _, .t _ => false
  | .t _, .l _ => false
def deqs : List DT → List DT → Bool
  | [], [] => true
  | x :: xs, y :: ys => deq x y && deqs xs ys
  | [], _ :: _ => false
  | _ :: _, [] => false
end
mutual
def dep : DT → Nat
  | .f _ => 0
  | .l xs => deps xs + 1
  | .t xs => deps xs + 1
def deps : List DT → Nat
  | [] => 0
  | x :: xs => max (dep x) (deps xs)
end
theorem eqV_self {v : V} (h : flatV v = true) : eqV v v = true := by
  cases v <;> first | rfl | (simp [eqV]; done) | exact absurd (show false = true from h) Bool.false_ne_true
theorem DatsOk.length {K : PySem.W.Frag} {H : Hp} : ∀ {ds : List DT} {vs : List V}, DatsOk K H ds vs → vs.length = ds.length
  | [], vs, h => by
    unfold DatsOk at h; subst h; rfl
  | d :: ds, vs, h => by
    unfold DatsOk at h
    obtain ⟨v, r, rfl, _, hr⟩ := h
    rw [List.length_cons, List.length_cons, DatsOk.length hr]
theorem DatsOk.get {K : PySem.W.Frag} {H : Hp} : ∀ {ds : List DT} {vs : List V} {i : Nat} {v : V}, DatsOk K H ds vs → vs[i]? = some v → ∃ d, ds[i]? = some d ∧ DatOk K H d v
  | [], vs, i, v, h, e => by
    unfold DatsOk at h; subst h; simp at e
  | d :: ds, vs, i, v, h, e => by
    unfold DatsOk at h
    obtain ⟨v0, r, rfl, h0, hr⟩ := h
    cases i with
    | zero => simp at e; subst e; exact ⟨d, rfl, h0⟩
    | succ i =>
      obtain ⟨d', h1, h2⟩ := DatsOk.get hr (i := i) (by simpa using e)
      exact ⟨d', by simpa using h1, h2⟩
def pairDeq (xs ys : List DT) (j : Nat) : Bool := match xs[j]?, ys[j]? with
  | some x, some y => deq x y
  | _, _ => false
theorem deqs_eq : ∀ xs ys : List DT, deqs xs ys = ((List.range (min xs.length ys.length)).all (pairDeq xs ys) && xs.length == ys.length)
  | [], [] => by simp [deqs]
  | [], _ :: _ => by simp [deqs]
  | _ :: _, [] => by simp [deqs]
  | x :: xs, y :: ys => by
    have e : min (x :: xs).length (y :: ys).length = min xs.length ys.length + 1 := by simp only [List.length_cons]; omega
    have e2 : ∀ j, pairDeq (x :: xs) (y :: ys) (j + 1) = pairDeq xs ys j := fun j => by simp [pairDeq]
    have e3 : pairDeq (x :: xs) (y :: ys) 0 = deq x y := by simp [pairDeq]
    rw [deqs, deqs_eq xs ys, e, List.range_succ_eq_map, List.all_cons, e3, List.all_map]
    have e4 : ((fun j => pairDeq (x :: xs) (y :: ys) j) ∘ Nat.succ) = pairDeq xs ys := by funext j; exact e2 j
    have e5 : (pairDeq (x :: xs) (y :: ys) ∘ Nat.succ) = pairDeq xs ys := e4
    rw [e5, Bool.and_assoc]
    simp
mutual
theorem DatOk.uniq {K : PySem.W.Frag} {X : Cx} {pins : List (Addr × Obj)} {σ : St} {H : Hp} {s : Shared} (I : Inv X pins σ H s) : ∀ (d e : DT) (v : V), DatOk X.K H d v → DatOk X.K H e v → deq d e = true
  | .f w, .f u, v, h1, h2 => by
    unfold DatOk at h1 h2
    obtain ⟨rfl, hf⟩ := h1
    obtain ⟨e, _⟩ := h2
    subst e
    unfold deq
    exact eqV_self hf
  | .f w, .l ys, v, h1, h2 => by
    unfold DatOk at h1 h2
    obtain ⟨rfl, hf⟩ := h1
    obtain ⟨a, vs, rfl, _⟩ := h2
    exact absurd (show false = true from hf) Bool.false_ne_true
  | .f w, .t ys, v, h1, h2 => by
    unfold DatOk at h1 h2
    obtain ⟨rfl, hf⟩ := h1
    obtain ⟨a, vs, rfl, _⟩ := h2
    exact absurd (show false = true from hf) Bool.false_ne_true
  | .l xs, .f w, v, h1, h2 => by
    unfold DatOk at h1 h2
    obtain ⟨rfl, hf⟩ := h2
    obtain ⟨a, vs, rfl, _⟩ := h1
    exact absurd (show false = true from hf) Bool.false_ne_true
  | .t xs, .f w, v, h1, h2 => by
    unfold DatOk at h1 h2
    obtain ⟨rfl, hf⟩ := h2
    obtain ⟨a, vs, rfl, _⟩ := h1
    exact absurd (show false = true from hf) Bool.false_ne_true
  | .l xs, .l ys, v, h1, h2 => by
    unfold DatOk at h1 h2
    obtain ⟨a, vs, rfl, q1, r1⟩ := h1
    obtain ⟨b, ws, e, q2, r2⟩ := h2
    cases e
    have := I.list_inj q1 q2
    subst this
    unfold deq
    exact DatsOk.uniq (K := K) I xs ys vs r1 r2
  | .t xs, .t ys, v, h1, h2 => by
    unfold DatOk at h1 h2
    obtain ⟨a, vs, rfl, q1, r1⟩ := h1
    obtain ⟨b, ws, e, q2, r2⟩ := h2
    cases e
    have := I.tuple_inj q1 q2
    subst this
    unfold deq
    exact DatsOk.uniq (K := K) I xs ys vs r1 r2
  | .l xs, .t ys, v, h1, h2 => by
    unfold DatOk at h1 h2
    obtain ⟨a, vs, rfl, q1, r1⟩ := h1
    obtain ⟨b, ws, e, q2, r2⟩ := h2
    cases e
    obtain ⟨_, _, ⟨o, n, e1, c1, _⟩, _⟩ := I.list q1
    obtain ⟨_, _, ⟨o', e2, c2, _⟩, _⟩ := I.tuple q2
    rw [e1] at e2; cases e2
    rw [c1] at c2; exact absurd c2 (by simp)
  | .t xs, .l ys, v, h1, h2 => by
    unfold DatOk at h1 h2
    obtain ⟨a, vs, rfl, q1, r1⟩ := h1
    obtain ⟨b, ws, e, q2, r2⟩ := h2
    cases e
    obtain ⟨_, _, ⟨o', e2, c2, _⟩, _⟩ := I.tuple q1
    obtain ⟨_, _, ⟨o, n, e1, c1, _⟩, _⟩ := I.list q2
    rw [e1] at e2; cases e2
    rw [c1] at c2; exact absurd c2 (by simp)
theorem DatsOk.uniq {K : PySem.W.Frag} {X : Cx} {pins : List (Addr × Obj)} {σ : St} {H : Hp} {s : Shared} (I : Inv X pins σ H s) : ∀ (xs ys : List DT) (vs : List V), DatsOk X.K H xs vs → DatsOk X.K H ys vs → deqs xs ys = true
  | [], [], vs, h1, h2 => by unfold deqs; rfl
  | [], y :: ys, vs, h1, h2 => by
    unfold DatsOk at h1 h2
    subst h1
    obtain ⟨_, _, e, _⟩ := h2
    cases e
  | x :: xs, [], vs, h1, h2 => by
    unfold DatsOk at h1 h2
    subst h2
    obtain ⟨_, _, e, _⟩ := h1
    cases e
  | x :: xs, y :: ys, vs, h1, h2 => by
    unfold DatsOk at h1 h2
    obtain ⟨v, r, rfl, a1, a2⟩ := h1
    obtain ⟨v', r', e, b1, b2⟩ := h2
    cases e
    unfold deqs
    rw [DatOk.uniq (K := K) I x y v a1 b1, DatsOk.uniq (K := K) I xs ys r a2 b2]
    rfl
end

section
variable {X : Cx} {pins : List (Addr × Obj)} {σ : St} {H : Hp} {s : Shared}
open SeqAt

/-- a flat value against a list or a tuple -/
theorem eqAt_fl {A : Around} {w : V} {u : Value} {l : Addr} {items : Array Value} (hf : flatV w = true) (r : RelV w u) (hl : s.heap.IsList l items) (hu : A.units < cLine) : EqAt A s u (.ref l) false ∧ EqAt A s (.ref l) u false ∧ RcAt A s u (.ref l) false ∧ RcAt A s (.ref l) u false ∧ RcNeAt A s u (.ref l) true ∧ RcNeAt A s (.ref l) u true := by
  cases w with
  | non => cases r; exact ⟨.none_list hl hu, .list_none hl hu, .none_list hl hu, .list_none hl hu, .none_list hl hu, .list_none hl hu⟩
  | bl b => cases r; exact ⟨.bool_list b hl hu, .list_bool b hl hu, .bool_list b hl hu, .list_bool b hl hu, .bool_list b hl hu, .list_bool b hl hu⟩
  | int i => obtain ⟨t, rfl⟩ := r; exact ⟨.int_list i t hl hu, .list_int i t hl hu, .int_list i t hl hu, .list_int i t hl hu, .int_list i t hl hu, .list_int i t hl hu⟩
  | str i => obtain ⟨t, rfl⟩ := r; exact ⟨.str_list i t hl hu, .list_str i t hl hu, .str_list i t hl hu, .list_str i t hl hu, .str_list i t hl hu, .list_str i t hl hu⟩
  | _ => exact absurd (show false = true from hf) Bool.false_ne_true
theorem eqAt_ft {A : Around} {w : V} {u : Value} {l : Addr} {items : Array Value} (hf : flatV w = true) (r : RelV w u) (hl : s.heap.IsTuple l items) (hu : A.units < cLine) : EqAt A s u (.ref l) false ∧ EqAt A s (.ref l) u false ∧ RcAt A s u (.ref l) false ∧ RcAt A s (.ref l) u false ∧ RcNeAt A s u (.ref l) true ∧ RcNeAt A s (.ref l) u true := by
  cases w with
  | non => cases r; exact ⟨.none_tuple hl hu, .tuple_none hl hu, .none_tuple hl hu, .tuple_none hl hu, .none_tuple hl hu, .tuple_none hl hu⟩
  | bl b => cases r; exact ⟨.bool_tuple b hl hu, .tuple_bool b hl hu, .bool_tuple b hl hu, .tuple_bool b hl hu, .bool_tuple b hl hu, .tuple_bool b hl hu⟩
  | int i => obtain ⟨t, rfl⟩ := r; exact ⟨.int_tuple i t hl hu, .tuple_int i t hl hu, .int_tuple i t hl hu, .tuple_int i t hl hu, .int_tuple i t hl hu, .tuple_int i t hl hu⟩
  | str i => obtain ⟨t, rfl⟩ := r; exact ⟨.str_tuple i t hl hu, .tuple_str i t hl hu, .str_tuple i t hl hu, .tuple_str i t hl hu, .str_tuple i t hl hu, .tuple_str i t hl hu⟩
  | _ => exact absurd (show false = true from hf) Bool.false_ne_true
/-- what two lists (tuples) are, item by item -/
theorem rc_ll {A : Around} {l b : Addr} {ps qs : List Value} {xs ys : List DT} (hl : s.heap.IsList l ps.toArray) (hb : s.heap.IsList b qs.toArray) (n1 : ps.length = xs.length) (n2 : qs.length = ys.length) (hu : A.units < cLine)
    (he : ∀ j (h1 : j < ps.length) (h2 : j < qs.length), EqAt A.in1 s ps[j] qs[j] (pairDeq xs ys j)) : RcAt A s (.ref l) (.ref b) (deqs xs ys) ∧ RcNeAt A s (.ref l) (.ref b) (!deqs xs ys) := by
  rw [deqs_eq]
  by_cases hz : ps.length = qs.length
  · have hsz : ps.toArray.size = qs.toArray.size := by rw [List.size_toArray, List.size_toArray]; exact hz
    have e1 : ((List.range (min xs.length ys.length)).all (pairDeq xs ys) && xs.length == ys.length) = (List.range ps.toArray.size).all (pairDeq xs ys) := by
      have : xs.length = ys.length := by omega
      rw [List.size_toArray, n1, ← this, Nat.min_self]
      simp
    rw [e1]
    exact ⟨RcAt.lists hl hb hsz hu fun j j1 j2 => by simpa using he j (by simpa using j1) (by simpa using j2), RcNeAt.lists hl hb hsz hu fun j j1 j2 => by simpa using he j (by simpa using j1) (by simpa using j2)⟩
  · have e1 : ((List.range (min xs.length ys.length)).all (pairDeq xs ys) && xs.length == ys.length) = false := by
      have : xs.length ≠ ys.length := by omega
      simp [this]
    rw [e1]
    have hsz : (ps.toArray.size != qs.toArray.size) = true := by rw [List.size_toArray, List.size_toArray]; simpa using hz
    exact ⟨RcAt.lists_lengths hl hb hsz hu, RcNeAt.lists_lengths hl hb hsz hu⟩
theorem rc_tt {A : Around} {l b : Addr} {ps qs : List Value} {xs ys : List DT} (hl : s.heap.IsTuple l ps.toArray) (hb : s.heap.IsTuple b qs.toArray) (n1 : ps.length = xs.length) (n2 : qs.length = ys.length) (hu : A.units < cLine)
    (he : ∀ j (h1 : j < ps.length) (h2 : j < qs.length), EqAt A.in1 s ps[j] qs[j] (pairDeq xs ys j)) : RcAt A s (.ref l) (.ref b) (deqs xs ys) ∧ RcNeAt A s (.ref l) (.ref b) (!deqs xs ys) := by
  have e1 : deqs xs ys = ((List.range (min ps.toArray.size qs.toArray.size)).all (pairDeq xs ys) && ps.toArray.size == qs.toArray.size) := by
    rw [deqs_eq, List.size_toArray, List.size_toArray, n1, n2]
  rw [e1]
  exact ⟨RcAt.tuples hl hb hu fun j j1 j2 => by simpa using he j (by simpa using j1) (by simpa using j2), RcNeAt.tuples hl hb hu fun j j1 j2 => by simpa using he j (by simpa using j1) (by simpa using j2)⟩

mutual
theorem eqAt_D (I : Inv X pins σ H s) : ∀ (d e : DT) (A : Around) (x y : V) (u v : Value), DatOk X.K H d x → DatOk X.K H e y → RelV x u → RelV y v → A.units + dep d < cLine → EqAt A s u v (deq d e)
  | .f w, .f w', A, x, y, u, v, h1, h2, ru, rv, hu => by
    unfold DatOk at h1 h2
    obtain ⟨rfl, f1⟩ := h1
    obtain ⟨rfl, f2⟩ := h2
    unfold deq
    exact eqAt_V ru rv f1 f2
  | .f w, .l ys, A, x, y, u, v, h1, h2, ru, rv, hu => by
    unfold DatOk at h1 h2
    obtain ⟨rfl, f1⟩ := h1
    obtain ⟨a, vs, rfl, q, _⟩ := h2
    cases rv
    obtain ⟨its, _, p, _⟩ := I.list q
    unfold deq
    exact (eqAt_fl f1 ru p.isList (by unfold dep at hu; omega)).1
  | .f w, .t ys, A, x, y, u, v, h1, h2, ru, rv, hu => by
    unfold DatOk at h1 h2
    obtain ⟨rfl, f1⟩ := h1
    obtain ⟨a, vs, rfl, q, _⟩ := h2
    cases rv
    obtain ⟨its, _, p, _⟩ := I.tuple q
    unfold deq
    exact (eqAt_ft f1 ru (show s.heap.IsTuple a its.toArray from p) (by unfold dep at hu; omega)).1
  | .l xs, .f w, A, x, y, u, v, h1, h2, ru, rv, hu => by
    unfold DatOk at h1 h2
    obtain ⟨rfl, f1⟩ := h2
    obtain ⟨a, vs, rfl, q, _⟩ := h1
    cases ru
    obtain ⟨its, _, p, _⟩ := I.list q
    unfold deq
    exact (eqAt_fl f1 rv p.isList (by omega)).2.1
  | .t xs, .f w, A, x, y, u, v, h1, h2, ru, rv, hu => by
    unfold DatOk at h1 h2
    obtain ⟨rfl, f1⟩ := h2
    obtain ⟨a, vs, rfl, q, _⟩ := h1
    cases ru
    obtain ⟨its, _, p, _⟩ := I.tuple q
    unfold deq
    exact (eqAt_ft f1 rv (show s.heap.IsTuple a its.toArray from p) (by omega)).2.1
  | .l xs, .t ys, A, x, y, u, v, h1, h2, ru, rv, hu => by
    unfold DatOk at h1 h2
    obtain ⟨a, vs, rfl, q, _⟩ := h1
    obtain ⟨b, ws, rfl, q', _⟩ := h2
    cases ru
    cases rv
    obtain ⟨its, _, p, _⟩ := I.list q
    obtain ⟨its', _, p', _⟩ := I.tuple q'
    unfold deq
    exact EqAt.list_tuple p.isList (show s.heap.IsTuple b its'.toArray from p') (by omega)
  | .t xs, .l ys, A, x, y, u, v, h1, h2, ru, rv, hu => by
    unfold DatOk at h1 h2
    obtain ⟨a, vs, rfl, q, _⟩ := h1
    obtain ⟨b, ws, rfl, q', _⟩ := h2
    cases ru
    cases rv
    obtain ⟨its, _, p, _⟩ := I.tuple q
    obtain ⟨its', _, p', _⟩ := I.list q'
    unfold deq
    exact EqAt.tuple_list (show s.heap.IsTuple a its.toArray from p) p'.isList (by omega)
  | .l xs, .l ys, A, x, y, u, v, h1, h2, ru, rv, hu => by
    by_cases hxy : x = y
    · subst hxy
      rw [DatOk.uniq (K := X.K) I (.l xs) (.l ys) x h1 h2]
      unfold DatOk at h1
      obtain ⟨a, vs, rfl, _⟩ := h1
      cases ru
      cases rv
      exact EqAt.same _
    · unfold DatOk at h1 h2
      obtain ⟨a, vs, rfl, q, d1⟩ := h1
      obtain ⟨b, ws, rfl, q', d2⟩ := h2
      cases ru
      cases rv
      obtain ⟨its, r, p, _⟩ := I.list q
      obtain ⟨its', r', p', _⟩ := I.list q'
      unfold deq
      unfold dep at hu
      refine EqAt.of_refs (fun e => hxy (by rw [e])) (rc_ll p.isList p'.isList (by rw [← r.length, d1.length]) (by rw [← r'.length, d2.length]) (by omega) fun j j1 j2 => ?_).1
      exact eqAts_D I xs ys A.in1 vs ws its its' d1 d2 r r' (by show A.units + 1 + _ < _; omega) j j1 j2
  | .t xs, .t ys, A, x, y, u, v, h1, h2, ru, rv, hu => by
    by_cases hxy : x = y
    · subst hxy
      rw [DatOk.uniq (K := X.K) I (.t xs) (.t ys) x h1 h2]
      unfold DatOk at h1
      obtain ⟨a, vs, rfl, _⟩ := h1
      cases ru
      cases rv
      exact EqAt.same _
    · unfold DatOk at h1 h2
      obtain ⟨a, vs, rfl, q, d1⟩ := h1
      obtain ⟨b, ws, rfl, q', d2⟩ := h2
      cases ru
      cases rv
      obtain ⟨its, r, p, _⟩ := I.tuple q
      obtain ⟨its', r', p', _⟩ := I.tuple q'
      unfold deq
      unfold dep at hu
      refine EqAt.of_refs (fun e => hxy (by rw [e])) (rc_tt (show s.heap.IsTuple a its.toArray from p) (show s.heap.IsTuple b its'.toArray from p') (by rw [← r.length, d1.length]) (by rw [← r'.length, d2.length]) (by omega) fun j j1 j2 => ?_).1
      exact eqAts_D I xs ys A.in1 vs ws its its' d1 d2 r r' (by show A.units + 1 + _ < _; omega) j j1 j2
theorem eqAts_D (I : Inv X pins σ H s) : ∀ (xs ys : List DT) (A : Around) (vs ws : List V) (ps qs : List Value), DatsOk X.K H xs vs → DatsOk X.K H ys ws → Vals vs ps → Vals ws qs → A.units + deps xs < cLine →
    ∀ (j : Nat) (h1 : j < ps.length) (h2 : j < qs.length), EqAt A s ps[j] qs[j] (pairDeq xs ys j)
  | [], ys, A, vs, ws, ps, qs, d1, d2, r1, r2, hu, j, h1, h2 => by
    unfold DatsOk at d1
    subst d1
    cases r1
    exact absurd h1 (Nat.not_lt_zero _)
  | x :: xs, [], A, vs, ws, ps, qs, d1, d2, r1, r2, hu, j, h1, h2 => by
    unfold DatsOk at d2
    subst d2
    cases r2
    exact absurd h2 (Nat.not_lt_zero _)
  | x :: xs, y :: ys, A, vs, ws, ps, qs, d1, d2, r1, r2, hu, j, h1, h2 => by
    unfold DatsOk at d1 d2
    obtain ⟨v, vr, rfl, a1, a2⟩ := d1
    obtain ⟨w, wr, rfl, b1, b2⟩ := d2
    unfold deps at hu
    cases r1 with
    | cons ru rus =>
      cases r2 with
      | cons rv rvs =>
        cases j with
        | zero =>
          have := eqAt_D I x y A v w _ _ a1 b1 ru rv (by omega)
          simpa [pairDeq] using this
        | succ j =>
          have := eqAts_D I xs ys A vr wr _ _ a2 b2 rus rvs (by omega) j (Nat.lt_of_succ_lt_succ h1) (Nat.lt_of_succ_lt_succ h2)
          simpa [pairDeq] using this
end
/-- two data, not both flat -/
theorem rcs_D (I : Inv X pins σ H s) {d e : DT} {A : Around} {x y : V} {u v : Value} (h1 : DatOk X.K H d x) (h2 : DatOk X.K H e y) (ru : RelV x u) (rv : RelV y v) (hu : A.units + dep d < cLine) (hn : ¬ (flatV x = true ∧ flatV y = true)) :
    RcAt A s u v (deq d e) ∧ RcNeAt A s u v (!deq d e) := by
  cases d with
  | f w =>
    unfold DatOk at h1
    obtain ⟨rfl, f1⟩ := h1
    cases e with
    | f w' =>
      unfold DatOk at h2
      obtain ⟨rfl, f2⟩ := h2
      exact absurd ⟨f1, f2⟩ hn
    | l ys =>
      unfold DatOk at h2
      obtain ⟨a, vs, rfl, q, _⟩ := h2
      cases rv
      obtain ⟨its, _, p, _⟩ := I.list q
      have z := eqAt_fl (A := A) f1 ru p.isList (by omega)
      unfold deq
      exact ⟨z.2.2.1, z.2.2.2.2.1⟩
    | t ys =>
      unfold DatOk at h2
      obtain ⟨a, vs, rfl, q, _⟩ := h2
      cases rv
      obtain ⟨its, _, p, _⟩ := I.tuple q
      have z := eqAt_ft (A := A) f1 ru (show s.heap.IsTuple a its.toArray from p) (by omega)
      unfold deq
      exact ⟨z.2.2.1, z.2.2.2.2.1⟩
  | l xs =>
    unfold DatOk at h1
    obtain ⟨a, vs, rfl, q, d1⟩ := h1
    cases ru
    obtain ⟨its, r, p, _⟩ := I.list q
    cases e with
    | f w =>
      unfold DatOk at h2
      obtain ⟨rfl, f1⟩ := h2
      have z := eqAt_fl (A := A) f1 rv p.isList (by omega)
      unfold deq
      exact ⟨z.2.2.2.1, z.2.2.2.2.2⟩
    | l ys =>
      unfold DatOk at h2
      obtain ⟨b, ws, rfl, q', d2⟩ := h2
      cases rv
      obtain ⟨its', r', p', _⟩ := I.list q'
      unfold deq
      unfold dep at hu
      exact rc_ll p.isList p'.isList (by rw [← r.length, d1.length]) (by rw [← r'.length, d2.length]) (by omega) fun j j1 j2 => eqAts_D I xs ys A.in1 vs ws its its' d1 d2 r r' (by show A.units + 1 + _ < _; omega) j j1 j2
    | t ys =>
      unfold DatOk at h2
      obtain ⟨b, ws, rfl, q', d2⟩ := h2
      cases rv
      obtain ⟨its', r', p', _⟩ := I.tuple q'
      unfold deq
      exact ⟨RcAt.list_tuple p.isList (show s.heap.IsTuple b its'.toArray from p') (by omega), RcNeAt.list_tuple p.isList (show s.heap.IsTuple b its'.toArray from p') (by omega)⟩
  | t xs =>
    unfold DatOk at h1
    obtain ⟨a, vs, rfl, q, d1⟩ := h1
    cases ru
    obtain ⟨its, r, p, _⟩ := I.tuple q
    cases e with
    | f w =>
      unfold DatOk at h2
      obtain ⟨rfl, f1⟩ := h2
      have z := eqAt_ft (A := A) f1 rv (show s.heap.IsTuple a its.toArray from p) (by omega)
      unfold deq
      exact ⟨z.2.2.2.1, z.2.2.2.2.2⟩
    | t ys =>
      unfold DatOk at h2
      obtain ⟨b, ws, rfl, q', d2⟩ := h2
      cases rv
      obtain ⟨its', r', p', _⟩ := I.tuple q'
      unfold deq
      unfold dep at hu
      exact rc_tt (show s.heap.IsTuple a its.toArray from p) (show s.heap.IsTuple b its'.toArray from p') (by rw [← r.length, d1.length]) (by rw [← r'.length, d2.length]) (by omega) fun j j1 j2 => eqAts_D I xs ys A.in1 vs ws its its' d1 d2 r r' (by show A.units + 1 + _ < _; omega) j j1 j2
    | l ys =>
      unfold DatOk at h2
      obtain ⟨b, ws, rfl, q', d2⟩ := h2
      cases rv
      obtain ⟨its', r', p', _⟩ := I.list q'
      unfold deq
      exact ⟨RcAt.tuple_list (show s.heap.IsTuple a its.toArray from p) p'.isList (by omega), RcNeAt.tuple_list (show s.heap.IsTuple a its.toArray from p) p'.isList (by omega)⟩
end

/-- == and != of two values by their data: flat ones that == tells apart as data does, or a list or tuple among them -/
def rEqD (K : PySem.W.Frag) (neg : Bool) : R2 := fun x y H Q => (scal x y = true ∧ Q (.bl (if neg then !decide (x = y) else decide (x = y))) H) ∨
  ∃ d e, DatOk K H d x ∧ DatOk K H e y ∧ ¬ (flatV x = true ∧ flatV y = true) ∧ dep d ≤ 60 ∧ Q (.bl (if neg then !deq d e else deq d e)) H
theorem op_eqD {X : Cx} (hu : X.A.units + 64 < cLine) : OpR X (compareOp .Eq) (rEqD X.K false) := by
  intro pins s σ H x y v u Q I rx ry h
  rcases h with ⟨h1, q⟩ | ⟨d, e, h1, h2, hn, hd, q⟩
  · exact op_eq pins s σ H x y v u Q I rx ry ⟨h1, q⟩
  · exact (rcs_D I h1 h2 rx ry (by omega) hn).1 _ _ _ _ ⟨.bl _, H, I, rfl, q⟩
theorem op_neD {X : Cx} (hu : X.A.units + 64 < cLine) : OpR X (compareOp .NotEq) (rEqD X.K true) := by
  intro pins s σ H x y v u Q I rx ry h
  rcases h with ⟨h1, q⟩ | ⟨d, e, h1, h2, hn, hd, q⟩
  · exact op_ne pins s σ H x y v u Q I rx ry ⟨h1, q⟩
  · exact (rcs_D I h1 h2 rx ry (by omega) hn).2 _ _ _ _ ⟨.bl _, H, I, rfl, q⟩

/-! ### data in short -/
theorem DatOk.same {K : PySem.W.Frag} {H H' : Hp} (hl : ∀ a xs, SqL K H a xs → SqL K H' a xs) (ht : ∀ a xs, SqT K H a xs → SqT K H' a xs) : ∀ {d : DT} {v : V}, DatOk K H d v → DatOk K H' d v := by
  have both : ∀ d : DT, (∀ v, DatOk K H d v → DatOk K H' d v) := by
    intro d
    refine DT.rec (motive_1 := fun d => ∀ v, DatOk K H d v → DatOk K H' d v) (motive_2 := fun ds => ∀ vs, DatsOk K H ds vs → DatsOk K H' ds vs) ?_ ?_ ?_ ?_ ?_ d
    · intro w v h; unfold DatOk at h ⊢; exact h
    · intro xs ih v h
      unfold DatOk at h ⊢
      obtain ⟨a, vs, e, q, r⟩ := h
      exact ⟨a, vs, e, hl a vs q, ih vs r⟩
    · intro xs ih v h
      unfold DatOk at h ⊢
      obtain ⟨a, vs, e, q, r⟩ := h
      exact ⟨a, vs, e, ht a vs q, ih vs r⟩
    · intro vs h; unfold DatsOk at h ⊢; exact h
    · intro x xs h1 h2 vs h
      unfold DatsOk at h ⊢
      obtain ⟨v, r, e, a, b⟩ := h
      exact ⟨v, r, e, h1 v a, h2 r b⟩
  exact fun {d v} h => both d v h
theorem Same.seqT {K : PySem.W.Frag} {H H' : Hp} {a : Addr} {xs : List V} (e : Same H H') (h : SqT K H a xs) : SqT K H' a xs := by
  rcases h with (h | ⟨o, h⟩) | h
  · exact .inl (.inl (e _ _ h))
  · exact .inl (.inr ⟨o, e _ _ h⟩)
  · exact .inr h
theorem Same.dat {K : PySem.W.Frag} {H H' : Hp} (e : Same H H') {d : DT} {v : V} (h : DatOk K H d v) : DatOk K H' d v := h.same (fun _ _ q => e.seq q) (fun _ _ q => e.seqT q)
theorem datsFlat {K : PySem.W.Frag} {H : Hp} : ∀ {vs : List V}, vs.all flatV = true → DatsOk K H (vs.map DT.f) vs
  | [], _ => by unfold DatsOk; rfl
  | v :: r, h => by
    rw [List.all_cons, Bool.and_eq_true] at h
    rw [List.map_cons]
    unfold DatsOk
    exact ⟨v, r, rfl, by unfold DatOk; exact ⟨rfl, h.1⟩, datsFlat h.2⟩
theorem deps_flat (vs : List V) : deps (vs.map DT.f) = 0 := by
  induction vs with
  | nil => rfl
  | cons v r ih => rw [List.map_cons]; unfold deps; rw [ih]; rfl
theorem deqs_flat : ∀ {vs ws : List V}, (∀ v ∈ vs, ∀ w ∈ ws, eqV v w = decide (v = w)) → deqs (vs.map DT.f) (ws.map DT.f) = decide (vs = ws)
  | [], [], _ => by simp [deqs]
  | [], _ :: _, _ => by simp [deqs]
  | _ :: _, [], _ => by simp [deqs]
  | v :: vs, w :: ws, h => by
    rw [List.map_cons, List.map_cons, deqs, deqs_flat fun a ha b hb => h a (List.mem_cons_of_mem _ ha) b (List.mem_cons_of_mem _ hb)]
    have e := h v List.mem_cons_self w List.mem_cons_self
    show (eqV v w && _) = _
    rw [e, Bool.eq_iff_iff]
    simp
theorem eqV_tx (a b : List Nat) : eqV (tx a) (tx b) = decide (tx a = tx b) := by
  rw [dec_tx]
  show ((⟨a.toArray⟩ : Str) == ⟨b.toArray⟩) = _
  by_cases h : a = b
  · subst h; simp
  · rw [decide_eq_false h]
    exact beq_eq_false_iff_ne.mpr fun z => h (tx_inj.mp (congrArg V.str z))
theorem eqV_int (a b : Int) : eqV (.int a) (.int b) = decide (V.int a = V.int b) := by rw [dec_int]; rfl
theorem eqV_bl (a b : Bool) : eqV (.bl a) (.bl b) = decide (V.bl a = V.bl b) := by rw [dec_bl]; rfl
/-- a list of flat values against another one -/
theorem datL {K : PySem.W.Frag} {H : Hp} {a : Addr} {vs : List V} (h : SqL K H a vs) (hf : vs.all flatV = true) : DatOk K H (.l (vs.map DT.f)) (.ref a) := by
  unfold DatOk
  exact ⟨a, vs, rfl, h, datsFlat hf⟩
theorem datT {K : PySem.W.Frag} {H : Hp} {a : Addr} {vs : List V} (h : SqT K H a vs) (hf : vs.all flatV = true) : DatOk K H (.t (vs.map DT.f)) (.ref a) := by
  unfold DatOk
  exact ⟨a, vs, rfl, h, datsFlat hf⟩
theorem datF {K : PySem.W.Frag} {H : Hp} {v : V} (hf : flatV v = true) : DatOk K H (.f v) v := by
  unfold DatOk
  exact ⟨rfl, hf⟩
end L2

set_option Elab.async false
set_option linter.all false
set_option maxRecDepth 100000
/-! EXCEPTIONS of own classes over the hand layer, I: the object, its attributes, its class -/
namespace L2
open PySem PySem.Spec PyProof.Rows
open PySem.W (Frag findIn specialIn typeIn mroIn clsIn InstAt Looks)

/-! ### what of the text an exception class must have (its mro: own classes, then ValueError's) -/
def veMro : List Value := [.type "ValueError", .type "Exception", .type "BaseException", .type "object"]
def isRefV : Value → Bool
  | .ref _ => true
  | _ => false
def xmro (l : List Value) : Bool := l.dropWhile isRefV == veMro
theorem xmro_ind {P : List Value → Prop} (h0 : P veMro) (h1 : ∀ c r, P r → P (.ref c :: r)) : ∀ l : List Value, xmro l = true → P l
  | [], e => by simp [xmro, veMro] at e
  | v :: r, e => by
    cases hv : isRefV v with
    | true =>
      cases v with
      | ref c =>
        refine h1 c r (xmro_ind h0 h1 r ?_)
        unfold xmro at e ⊢
        rw [List.dropWhile_cons, if_pos hv] at e
        exact e
      | _ => cases hv
    | false =>
      unfold xmro at e
      rw [List.dropWhile_cons, if_neg (by rw [hv]; exact Bool.false_ne_true)] at e
      rw [show (v :: r) = veMro by simpa using e]
      exact h0
theorem refuse_ve (self : Value) : refuseLoop self "__setattr__" veMro = pure () := by
  first | rfl | kernel_rfl
theorem refuse_x (self : Value) {l : List Value} (e : xmro l = true) : refuseLoop self "__setattr__" l = pure () :=
  xmro_ind (P := fun l => refuseLoop self "__setattr__" l = pure ()) (refuse_ve self) (fun c r h => by rw [refuseLoop_ref]; exact h) l e
theorem xmro_has {n : String} {b : Bool} (h : veMro.contains (.type n) = b) {l : List Value} (e : xmro l = true) : l.contains (.type n) = b :=
  xmro_ind (P := fun l => l.contains (.type n) = b) h (fun c r h => by rw [List.contains_cons, h]; rfl) l e

structure Xc (K : Frag) (C : Addr) : Prop where
  ga : findIn K (.ref C) "__getattribute__" = some (some (.builtin "BaseException.__getattribute__"))
  gr : findIn K (.ref C) "__getattr__" = some none
  sa : findIn K (.ref C) "__setattr__" = some (some (.builtin "object.__setattr__"))
  hd : PySem.W.hasDictIn K C = true
  mr : (clsIn K C).any (fun cd => xmro cd.mro) = true
theorem xmro_ne {l : List Value} (e : xmro l = true) : l.isEmpty = false := by
  cases l with
  | nil => simp [xmro, veMro] at e
  | cons _ _ => rfl
theorem Xc.base {K : Frag} {C : Addr} (c : Xc K C) {n : String} {b : Bool} (h : veMro.contains (.type n) = b) : mroIn K C (.type n) = some b := by
  obtain ⟨cd, hc, hm⟩ := PySem.W.any_some c.mr
  unfold PySem.W.mroIn
  rw [hc, Option.bind_some, if_neg (by rw [xmro_ne hm]; exact Bool.false_ne_true), xmro_has h hm]

/-! ### the object -/
/-- an exception of the class at C, not raised; its dict (where it has one) at d -/
def xo (a C : Addr) (d : Option Addr) : HO := .ext fun h => ∃ (o : Obj) (t : Addr), h.get? a = some o ∧ o.cls = .ref C ∧ o.dict = d ∧ o.data = .fields #[.ref t, .none, .none, .none, .bool false, .none]
/-- its dict -/
def xdO (d : Addr) (fs : List (Str × V)) : HO := .ext fun h => fs.length ≤ 1000 ∧ ∃ mA, h.Ns1 d mA ∧ (∀ f, RelO (fs.lookup f) (mA f)) ∧ PySem.Within mA (fs.map (·.1))
inductive XAt (H : Hp) (e C : Addr) : List (Str × V) → Prop where
  | bare : H e = some (xo e C none) → XAt H e C []
  | full {d : Addr} {fs : List (Str × V)} : H e = some (xo e C (some d)) → H d = some (xdO d fs) → d ≠ e → XAt H e C fs
theorem upd_id {H : Hp} {a : Addr} {o : HO} (h : H a = some o) : upd H a o = H := by
  funext b
  unfold upd
  by_cases hb : b = a
  · rw [if_pos hb, hb, h]
  · rw [if_neg hb]
theorem XAt.same {H H' : Hp} {e C : Addr} {fs : List (Str × V)} (x : XAt H e C fs) (s : Same H H') : XAt H' e C fs := by
  cases x with
  | bare h => exact .bare (s _ _ h)
  | full h1 h2 h3 => exact .full (s _ _ h1) (s _ _ h2) h3

section
variable {X : Cx} {pins : List (Addr × Obj)} {σ : St} {H : Hp} {s : Shared} {e C : Addr} {fs : List (Str × V)} {f : Str} {v : V} {A : Around} {E : Value → Shared → Prop}

theorem xo_obj {d : Option Addr} (I : Inv X pins σ H s) (h : H e = some (xo e C d)) : ∃ (o : Obj) (t : Addr), s.heap.get? e = some o ∧ o.cls = .ref C ∧ o.dict = d ∧ o.data = .fields #[.ref t, .none, .none, .none, .bool false, .none] := (I.hok e _ h).1
theorem xo_ok {P : Program} {w : World} {H : Hp} {h : Heap} {d : Option Addr} {o : Obj} {t : Addr} (h1 : h.get? e = some o) (h2 : o.cls = .ref C) (h3 : o.dict = d) (h4 : o.data = .fields #[.ref t, .none, .none, .none, .bool false, .none]) : ObjOk P w H h e (xo e C d) :=
  ⟨⟨o, t, h1, h2, h3, h4⟩, ⟨o, h1⟩, fun a b ⟨o, t, q1, q⟩ k => ⟨o, t, k o q1, q⟩⟩
theorem xdO_ok {P : Program} {w : World} {H : Hp} {h : Heap} {d : Addr} {mA : Str → Option Value} (hz : fs.length ≤ 1000) (h1 : h.Ns1 d mA) (h2 : ∀ f, RelO (fs.lookup f) (mA f)) (h3 : PySem.Within mA (fs.map (·.1))) : ObjOk P w H h d (xdO d fs) := by
  obtain ⟨o, es, ep, ho, r⟩ := id h1
  refine ⟨⟨hz, mA, h1, h2, h3⟩, ⟨o, ho⟩, fun a b ⟨hz, m, ⟨o, es, ep, q, r⟩, z⟩ k => ⟨hz, m, ⟨o, es, ep, k o q, r⟩, z⟩⟩

/-- it as the deciders take it -/
theorem XAt.inst (I : Inv X pins σ H s) (x : XAt H e C fs) : ∃ (ox : Obj) (od : Option Obj), InstAt s.heap e ox C od ∧ ∀ name, ∃ r, (match od with | some o => PySem.W.lookIn name o | none => some none) = some r ∧ RelO (fs.lookup name) r := by
  cases x with
  | bare h =>
    obtain ⟨o, t, h1, h2, h3, h4⟩ := xo_obj I h
    exact ⟨o, none, ⟨h1, h2, by unfold PySem.W.notCls; rw [h4], by rw [h3]; trivial⟩, fun name => ⟨none, rfl, by trivial⟩⟩
  | @full d _ h h' hne =>
    obtain ⟨o, t, h1, h2, h3, h4⟩ := xo_obj I h
    obtain ⟨⟨_, mA, hn, hr, _⟩, _⟩ := I.hok d _ h'
    obtain ⟨od, hod, hl⟩ := lookIn_ns hn
    exact ⟨o, some od, ⟨h1, h2, by unfold PySem.W.notCls; rw [h4], by rw [h3]; exact hod⟩, fun name => ⟨mA name, hl name, hr name⟩⟩

theorem entry_bga : entryFor table "BaseException.__getattribute__" = some Builtin.«object.__getattribute__» := F.entry_bexc_ga
theorem xget_value {K : Frag} {x : Addr} {ox : Obj} {od : Option Obj} {name : Str} {expr : Bool} {u : Value} {prog : Program} {w : World} {Q : Value → Shared → Prop} (KX : K.In s.heap) (I : InstAt s.heap x ox C od) (c : Xc K C)
    (hf : PySem.W.findObj K C od name = some (.value u)) (hh : PySem.W.handedIn u = true) (h : Q u { s with toks := s.toks + 1 }) : wpAny (model prog w) A (getAttr (.ref x) name expr) Q E s := by
  obtain ⟨hp, g, d, t, os⟩ := s
  have L0 := I.type (M := model prog w)
  have L1 := PySem.W.looks_findIn (M := model prog w) KX c.ga
  have L2 := PySem.W.looks_findIn (M := model prog w) KX c.gr
  have L3 := PySem.W.looks_find (M := model prog w) KX I hf
  have L4 := PySem.W.looks_mroIn (M := model prog w) KX (c.base (n := "BaseException") (b := true) (by decide +kernel))
  have hx2 : (Value.builtin "BaseException.__getattribute__" == Value.builtin "object.__getattribute__") = false := by decide +kernel
  have slot := F.excAttr_ValueError.ga
  unfold getAttr getAttrBy
  refine wpAny_bind (wpAny_mkText (wpAny_holding (wpAny_bind (L0.at (wpAny_bind (L1.at ?_))))))
  dsimp only
  rw [hx2, Bool.and_false, if_neg Bool.false_ne_true]
  unfold getAttrByItsOwn hookBefore
  refine wpAny_bind ?_
  show wpAny _ _ (if onTheHeap (Value.ref C) = true then typeLookup (.ref C) "__getattr__" else pure none) _ _ _
  rw [if_pos (show onTheHeap (Value.ref C) = true from rfl)]
  refine L2.at (wpAny_bind (wpAny_attempt (wpAny_holding ?_)))
  unfold callGetattribute
  rw [show (expr && onTheHeap (Value.builtin "BaseException.__getattribute__")) = false from Bool.and_false _, if_neg Bool.false_ne_true]
  unfold boundAndCalled
  rw [slot.bind]
  refine wpAny_bind (wpAny_pure ?_)
  show wpAny _ _ (call (.builtin "BaseException.__getattribute__") [.ref x, .str name t]) _ _ _
  refine wpAny_call (codeAny_call_builtin slot.plain entry_bga ?_)
  refine @PySem.W.check_slot (model prog w) _ _ ⟨hp, g, d, t + 1, os⟩ "BaseException.__getattribute__" "BaseException" "__getattribute__" (.ref x) [.str name t] [] _ (by decide +kernel) (by decide +kernel) (L0.andThen L4) (F.args_bexc_ga (.ref x) (.str name t)) ?_
  refine wpAny_bind (wpAny_pure (wpAny_bind (wpAny_pure (wpAny_bind (L0.at (wpAny_bind (L3.at (wpAny_pure ?_))))))))
  show wpAny _ _ (handedOut u) _ _ _
  rw [PySem.W.handedOut_of hh]
  exact wpAny_pure h

/-- e.f -/
theorem xget {b : Bool} {Q : Value → Shared → Prop} (I : Inv X pins σ H s) (x : XAt H e C fs) (c : Xc X.K C) (n : NoAttr X.K C f) (l : fs.lookup f = some v) (h : ∀ u s', Inv X pins σ H s' → RelV v u → Q u s') :
    wpAny (model X.prog X.w) A (getAttr (.ref e) f b) Q E s := by
  obtain ⟨ox, od, J, hr⟩ := x.inst I
  obtain ⟨r, hl, ro⟩ := hr f
  rw [l] at ro
  obtain ⟨u, rfl, ru⟩ := RelO.some_of ro
  refine xget_value I.kIn J c ?_ (handed_of ru) (h u _ (I.tok _) ru)
  cases od with
  | none => cases hl
  | some o => exact PySem.W.findObj_own c.hd n rfl hl

/-- e.f = y: the new dict's address d, where there was none -/
theorem xset {y : V} {u : Value} {Q : Unit → Shared → Prop} (I : Inv X pins σ H s) (x : XAt H e C fs) (c : Xc X.K C) (n : NoAttr X.K C f) (hz : fs.length < 1000) (ry : RelV y u)
    (h : ∀ s' H', Inv X pins σ H' s' → XAt H' e C (putF f y fs) → (∀ b o, H b = some o → b ≠ e → (∀ d, H e = some (xo e C (some d)) → b ≠ d) → H' b = some o) →
      (∃ d, H' e = some (xo e C (some d)) ∧ (H e = some (xo e C (some d)) ∨ H d = none)) → Q () s') : wpAny (model X.prog X.w) A (setAttr (.ref e) f u) Q E s := by
  obtain ⟨ox, od, J, hr⟩ := x.inst I
  obtain ⟨cd, hc, hd'⟩ := PySem.W.any_some c.hd
  obtain ⟨cd', hc2, hm⟩ := PySem.W.any_some c.mr
  rw [hc] at hc2; cases hc2
  refine PySem.W.set_plain I.kIn J c.sa ?_
  have SF := PySem.F.store_object
  have hne := xmro_ne hm
  have KX : X.K.In ({ s with toks := s.toks + 1 } : Shared).heap := I.kIn
  have J1 : InstAt ({ s with toks := s.toks + 1 } : Shared).heap e ox C od := J
  have L1 : Looks (model X.prog X.w) s.heap (mroOf (.ref C)) cd.mro := (PySem.W.looks_clsIn I.kIn hc).andThen .now
  have sub : Looks (model X.prog X.w) s.heap (isInstance (.ref e) (.type "object")) true := J.type.andThen (PySem.W.looks_mroIn I.kIn (c.base (n := "object") (b := true) (by decide +kernel)))
  refine codeAny_call_builtin SF.slot.plain SF.entry (@PySem.W.check_slot (model X.prog X.w) _ _ { s with toks := s.toks + 1 } "object.__setattr__" "object" "__setattr__" (.ref e) [.str f s.toks, u] [] _ SF.kind SF.split sub (SF.args (.ref e) (.str f s.toks) u) ?_)
  rw [PySem.W.osa_eq, refuse_eq]
  refine wpAny_bind (wpAny_bind (Looks.here (s := { s with toks := s.toks + 1 }) J.type (wpAny_bind (Looks.here (s := { s with toks := s.toks + 1 }) L1 ?_))))
  rw [refuse_x _ hm]
  refine wpAny_pure (wpAny_bind (Looks.here (s := { s with toks := s.toks + 1 }) J.type (wpAny_bind (Looks.here (s := { s with toks := s.toks + 1 }) (PySem.W.looks_findIn I.kIn n) (wpAny_bind (wpAny_pure ?_))))))
  dsimp only
  refine wpAny_bind (wpAny_pure (wpAny_bind (wpAny_bind ?_)))
  have LC := PySem.W.looks_clsIn (M := model X.prog X.w) I.kIn hc
  cases x with
  | bare hb =>
    obtain ⟨o, t, h1, h2, h3, h4⟩ := xo_obj I hb
    obtain ⟨oc, odi, oda, osl⟩ := o
    dsimp only at h2 h3 h4
    subst h2 h3 h4
    refine wpAny_loadPart h1 (wpAny_bind (Looks.here (s := { s with toks := s.toks + 1 }) LC ?_))
    rw [hd']
    refine wpAny_bind (wpAny_alloc (wpAny_bind (wpAny_update (Heap.get?_push_of_some _ h1) (wpAny_pure ?_))))
    dsimp only
    refine wpAny_bind (wpAny_pure (wpAny_bind ?_))
    -- the object with its new dict, tracked
    have hlt : e < s.heap.objs.size := Heap.lt_size h1
    have hfr := I.fresh
    have hed : s.heap.objs.size ≠ e := Nat.ne_of_gt hlt
    have ee : (s.heap.push PySem.W.emptyDict).get? s.heap.objs.size = some PySem.W.emptyDict := Heap.get?_push_size s.heap rfl
    have e2 : ((s.heap.push PySem.W.emptyDict).update e fun o => { o with dict := some s.heap.objs.size }).get? e = some ⟨.ref C, some s.heap.objs.size, .fields #[.ref t, .none, .none, .none, .bool false, .none], osl⟩ := Heap.get?_update_self _ (Heap.get?_push_of_some _ h1) rfl
    have e3 : ((s.heap.push PySem.W.emptyDict).update e fun o => { o with dict := some s.heap.objs.size }).get? s.heap.objs.size = some PySem.W.emptyDict := by
      rw [Heap.get?_update_other _ _ (Ne.symm hed)]; exact ee
    have ns : ((s.heap.push PySem.W.emptyDict).update e fun o => { o with dict := some s.heap.objs.size }).Ns s.heap.objs.size (fun _ => none) := ⟨PySem.W.emptyDict, #[], _, e3, rfl, (fun e he => absurd he (by simp)), fun _ => rfl⟩
    have ns1 := Heap.Ns1.of_empty ns
    have I1 := I.laid (a := s.heap.objs.size) (o := xdO s.heap.objs.size []) (h' := s.heap.push PySem.W.emptyDict) (t' := s.toks + 1) (fun b u q => Heap.get?_push_of_some _ q) (Nat.le_refl _)
      (xdO_ok (fs := []) (Nat.zero_le _) (Heap.Ns1.of_empty (h := s.heap.push PySem.W.emptyDict) ⟨PySem.W.emptyDict, #[], _, ee, rfl, (fun e he => absurd he (by simp)), fun _ => rfl⟩) (fun _ => by trivial) (fun y hy => absurd rfl hy))
    have I2 := I1.write (x := e) (e := e) (o := xo e C (some s.heap.objs.size)) (h' := (s.heap.push PySem.W.emptyDict).update e fun o => { o with dict := some s.heap.objs.size }) (t' := s.toks + 1)
      (by rw [upd_ne (Ne.symm hed), hb]; exact trivial) (.inl rfl) (fun b u hbe q => by rw [Heap.get?_update_other _ _ (Ne.symm hbe)]; exact q) ⟨_, e2⟩ (xo_ok e2 rfl rfl rfl)
    refine wpAny_nsSet1 (s := { s with heap := (s.heap.push PySem.W.emptyDict).update e fun o => { o with dict := some s.heap.objs.size }, toks := s.toks + 1 }) ns1 fun h' hn2 hs2 => ?_
    have hw : PySem.Within (fun x => if x = f then some u else none) [f] := fun z hz => by
      by_cases q : z = f
      · rw [q]; exact List.mem_cons_self
      · exact absurd (if_neg q) hz
    obtain ⟨oD, esD, epD, hoD, hdD, hcD⟩ := hn2.count hw
    refine wpAny_bind (wpAny_lookBehind hoD (by rw [hdD]; exact pastItsLine_dict (Nat.le_trans hcD (by rw [List.length_singleton, sizeLine_eq]; decide))) ?_)
    refine wpAny_pure (h _ _ (I2.write (x := s.heap.objs.size) (e := s.heap.objs.size) (o := xdO s.heap.objs.size [(f, y)]) (h' := h') (t' := s.toks + 1 + 1) ?_ (.inl rfl) (fun b u' hb' q => (hs2.2 b hb').trans q) ⟨oD, hoD⟩ (xdO_ok (by show 1 ≤ 1000; decide) hn2 ?_ hw)) ?_ ?_ ⟨_, (by rw [upd_ne (Ne.symm hed), upd_same]), .inr hfr⟩)
    · rw [upd_ne hed, upd_same]; exact trivial
    · intro g
      show RelO (List.lookup g [(f, y)]) (if g = f then some u else none)
      by_cases q : g = f
      · rw [if_pos q, q]; simp [List.lookup_cons]; exact ry
      · have hbq : (g == f) = false := by simpa using q
        rw [if_neg q]; simp [List.lookup_cons, hbq]; trivial
    · refine .full (d := s.heap.objs.size) (by rw [upd_ne (Ne.symm hed), upd_same]) ?_ hed
      rw [upd_same]; rfl
    · intro b o' hb' hbe _
      have nb : b ≠ s.heap.objs.size := ne_of_none hb' hfr
      rw [upd_ne nb, upd_ne hbe, upd_ne nb]
      exact hb'
  | @full d _ hb hd2 hne2 =>
    obtain ⟨o, t, h1, h2, h3, h4⟩ := xo_obj I hb
    obtain ⟨oc, odi, oda, osl⟩ := o
    dsimp only at h2 h3 h4
    subst h2 h3 h4
    obtain ⟨⟨hz', mA, hn, hr', hw⟩, _⟩ := I.hok d _ hd2
    refine wpAny_loadPart h1 (wpAny_bind (Looks.here (s := { s with toks := s.toks + 1 }) LC ?_))
    rw [hd']
    refine wpAny_pure ?_
    dsimp only
    refine wpAny_bind (wpAny_pure (wpAny_bind ?_))
    refine wpAny_nsSet1 (s := { s with toks := s.toks + 1 }) hn fun h' hn2 hs2 => ?_
    obtain ⟨oD, esD, epD, hoD, hdD, hcD⟩ := hn2.count (PySem.Within.cons f u hw)
    refine wpAny_bind (wpAny_lookBehind hoD (by rw [hdD]; exact pastItsLine_dict (Nat.le_trans hcD (by rw [List.length_cons, List.length_map, sizeLine_eq]; omega))) ?_)
    refine wpAny_pure (h _ _ (I.write (x := d) (e := d) (o := xdO d (putF f y fs)) (h' := h') (t' := s.toks + 1 + 1) (by rw [hd2]; exact trivial) (.inl rfl) (fun b u' hb' q => (hs2.2 b hb').trans q) ⟨oD, hoD⟩ (xdO_ok ?_ hn2 ?_ ?_)) ?_ ?_ ⟨d, (by rw [upd_ne (Ne.symm hne2)]; exact hb), .inl hb⟩)
    · have := length_putF f y fs; omega
    · intro g
      show RelO ((putF f y fs).lookup g) (if g = f then some u else mA g)
      rw [lookup_putF]
      by_cases q : g = f
      · rw [if_pos q, if_pos q]; exact ry
      · rw [if_neg q, if_neg q]; exact hr' g
    · intro g hg
      by_cases q : g = f
      · rw [q]; exact (keys_putF f y fs).1
      · refine (keys_putF f y fs).2 g (hw g fun z => hg ?_)
        show (if g = f then some u else mA g) = none
        rw [if_neg q]; exact z
    · exact .full (d := d) (by rw [upd_ne (Ne.symm hne2)]; exact hb) upd_same hne2
    · intro b o' hb' hbe hbd
      rw [upd_ne (hbd d hb)]
      exact hb'
end
end L2

set_option Elab.async false
set_option linter.all false
set_option maxRecDepth 100000
/-! EXCEPTIONS of own classes over the hand layer, II: made, with or without an own __init__; ValueError's own __init__; isinstance -/
namespace L2
open PySem PySem.Spec PyProof.Rows
open PySem.W (Frag findIn specialIn typeIn mroIn clsIn InstAt Looks)

abbrev xraw (C t : Addr) : Obj := { cls := .ref C, data := .fields #[.ref t, .none, .none, .none, .bool false, .none] }
abbrev tupO (vs : List Value) : Obj := { cls := .type "tuple", data := .seq vs.toArray }

/-- the class object as ValueError's maker wants it -/
structure Xm (K : Frag) (C : Addr) : Prop where
  c : Xc K C
  ob : ∃ (nm q : Str) (N : Addr) (bs bm : List Value) (hdct : Bool) (sn : List Str) (sub : List Value) (ab : Bool) (col : Option Bool) (dd : Option Addr) (k0 k1 k2 k3 k5 : Option Value),
    K.lookup C = some (excClassObj nm q C N bs bm hdct sn sub ab col dd k0 k1 k2 k3 k5 "ValueError.__new__")
  kp : PySem.W.keepIn K (.ref C) = true

section
variable {prog : Program} {w : World} {A : Around} {E : Value → Shared → Prop} {h : Heap} {g : Array GenState} {d : Drawn} {t : Nat} {os : OsState} {K : Frag}
variable {nm q : Str} {C N : Addr} {bs bm : List Value} {hdct : Bool} {sn : List Str} {sub : List Value} {ab : Bool} {col : Option Bool} {dd : Option Addr} {k0 k1 k2 k3 k5 : Option Value}

theorem xnew_check {M : Model} {rest : List Value} {Q : Unit → Shared → Prop} (hx : xmro (.ref C :: bm) = true) (hC : h.get? C = some (excClassObj nm q C N bs bm hdct sn sub ab col dd k0 k1 k2 k3 k5 "ValueError.__new__"))
    (hq : Q () ⟨h, g, d, t, os⟩) : wpAny M A (checkBuiltinCall "ValueError.__new__" ⟨.ref C :: rest, []⟩) Q E ⟨h, g, d, t, os⟩ := by
  have Fn := F.excBase_ValueError
  have hcB := xmro_has (n := "ValueError") (b := true) (by decide +kernel) hx
  have hstar := Fn.noStar
  simp only [checkBuiltinCall, Fn.newKind, Fn.newSplit, Fn.newRow]
  repeat (first | refine wpAny_loadPart_at hC ?_ | (refine wpAny_isSubtype_exc hC ?_; rw [hcB]) | refine wpAny_staticBase_exc hC ?_ | refine wpAny_madeBy_exc hC ?_ | simp only [bne_self_eq_false, Bool.false_eq_true, if_false] | wp_step)
  exact hq

theorem xnew {R : Result → Shared → Prop} {rest : List Value} (hx : xmro (.ref C :: bm) = true) (hC : h.get? C = some (excClassObj nm q C N bs bm hdct sn sub ab col dd k0 k1 k2 k3 k5 "ValueError.__new__"))
    (hq : R (.ok (.ret (.ref (h.objs.size + 1)))) ⟨(h.push (tupO rest)).push (xraw C h.objs.size), g, d, t, os⟩) (hrest : rest.length ≤ sizeLine) :
    codeAny (model prog w) A (.builtin "ValueError.__new__" ⟨.ref C :: rest, []⟩) R ⟨h, g, d, t, os⟩ := by
  have Fn := F.excBase_ValueError
  have hends := Fn.ends
  have hcB := xmro_has (n := "ValueError") (b := true) (by decide +kernel) hx
  have hcA := xmro_has (n := "AttributeError") (b := false) (by decide +kernel) hx
  have hcN := xmro_has (n := "NameError") (b := false) (by decide +kernel) hx
  refine codeAny_builtinAt Fn.entry ?_
  unfold Builtin.«BaseException.__new__»
  refine PySem.wpAt_bind ?_
  show PySem.wpAt _ _ _ (stack >>= _) _ _ _
  refine PySem.wpAt_bind (PySem.wpAt_stack fun p below => PySem.wpAt_of_wpAny ?_)
  wp_walk
  refine PySem.wpAt_of_wpAny ?_
  rw [Fn.owner]
  repeat (first | with_reducible refine wpAny_madeHere_exc Fn.canon hC ?_ | with_reducible refine wpAny_loadPart_at hC ?_ | (with_reducible refine wpAny_isSubtype_exc hC ?_; first | rw [hcB] | rw [hcA] | rw [hcN]) | wp_step)
  show R _ _
  rw [Heap.size_push]
  exact hq

/-- C(rest): the new object, then whatever __init__ the class has -/
theorem xcall {R : Result → Shared → Prop} {rest : List Value} {init : Value} (KX : K.In h) (hx : xmro (.ref C :: bm) = true) (hC : h.get? C = some (excClassObj nm q C N bs bm hdct sn sub ab col dd k0 k1 k2 k3 k5 "ValueError.__new__"))
    (hi : Looks (model prog w) h (typeLookup (.ref C) "__init__") (some init)) (hb : ∀ self, Looks (model prog w) h (bindSpecial init self) (init, [self])) (hrest : rest.length ≤ sizeLine)
    (hq : codeAny (model prog w) (A.under (.builtin "type.__call__" ⟨.ref C :: rest, []⟩)) (.call init ⟨.ref (h.objs.size + 1) :: rest, []⟩) (PySem.W.InitBack (h.objs.size + 1) R) ⟨(h.push (tupO rest)).push (xraw C h.objs.size), g, d, t, os⟩) :
    codeAny (model prog w) A (.call (.ref C) ⟨rest, []⟩) R ⟨h, g, d, t, os⟩ := by
  have f1 := tc_lookup
  have f2 := tc_bind (.ref C)
  have hT : (⟨h, g, d, t, os⟩ : Shared).TypeIs (.ref C) "type" := ⟨_, hC, rfl⟩
  have Fn := F.excBase_ValueError
  refine codeAny_of_tree ?_
  show wpAny _ _ (callAny (.ref C) _) _ _ _
  repeat (any_goals (first | assumption | with_reducible refine wpAny_loadPart_at hC ?_ | wp_step))
  refine ⟨rfl, ?_⟩
  refine codeAny_call_builtin_at (Code.quiet_builtin _ (by decide +kernel)) entry_typeCall (wpAny_check_type_call_sub hC ?_)
  repeat (first | with_reducible refine wpAny_loadPart_at hC ?_ | with_reducible refine wpAny_madeBy_exc hC ?_ | wp_step)
  refine codeAny_call_builtin_code (Code.quiet_builtin _ Fn.quiet) (xnew_check hx hC ?_)
  refine xnew hx hC ?_ hrest
  show wpAny _ _ _ _ _ _
  have k : ∀ b o, h.get? b = some o → ((h.push (tupO rest)).push (xraw C h.objs.size)).get? b = some o := fun b o e => Heap.get?_push_of_some _ (Heap.get?_push_of_some _ e)
  have hC1 := k _ _ hC
  have hget : ((h.push (tupO rest)).push (xraw C h.objs.size)).get? (h.objs.size + 1) = some { cls := .ref C, data := .fields #[.ref h.objs.size, .none, .none, .none, .bool false, .none] } := by heap_get
  have hcC : (Value.ref C :: bm).contains (.ref C) = true := by simp
  have i1 := hi.keeps k
  have b1 := (hb (.ref (h.objs.size + 1))).keeps k
  have t1 : Looks (model prog w) ((h.push (tupO rest)).push (xraw C h.objs.size)) (typeOf (.ref (h.objs.size + 1))) (.ref C) := (Looks.ld hget).andThen .now
  unfold isInstance
  repeat (first | with_reducible refine wpAny_loadPart_at hget ?_ | (with_reducible refine wpAny_isSubtype_exc hC1 ?_; rw [hcC]) | wp_step)
  refine wpAny_isSubtype_exc hC1 ?_
  rw [hcC]
  repeat (first | with_reducible refine wpAny_loadPart_at hget ?_ | wp_step)
  show wpAny _ _ (typeLookup (.ref C) _) _ _ _
  refine i1.at (wpAny_holding (wpAny_bind (b1.at ?_)))
  refine wpAny_bind (wpAny_call ?_)
  refine codeAny_mono hq fun r s' z => ?_
  rcases r with e | (v | _ | _ | _) <;> first | exact z | exact z.elim | skip
  obtain ⟨rfl, z⟩ := z
  exact wpAny_pure (wpAny_pure z)
end

section
variable {X : Cx} {pins : List (Addr × Obj)} {σ : St} {H : Hp} {s : Shared} {C : Addr} {us : List Value} {vs : List V} {Q : VK}

/-- the new object, tracked -/
theorem Inv.xmade (I : Inv X pins σ H s) : Inv X pins σ (upd H (s.heap.objs.size + 1) (xo (s.heap.objs.size + 1) C none)) { s with heap := (s.heap.push (tupO us)).push (xraw C s.heap.objs.size) } := by
  have I1 : Inv X pins σ H { s with heap := s.heap.push (tupO us) } := I.kept (t' := s.toks) fun b o e => Heap.get?_push_of_some _ e
  have e2 : ((s.heap.push (tupO us)).push (xraw C s.heap.objs.size)).get? (s.heap.objs.size + 1) = some (xraw C s.heap.objs.size) := by
    have := Heap.get?_push_size (s.heap.push (tupO us)) (o := xraw C s.heap.objs.size) rfl
    rwa [Heap.size_push] at this
  exact I1.laid (a := s.heap.objs.size + 1) (t' := s.toks) (fun b u q => Heap.get?_push_of_some _ q) (Nat.le_of_eq (Heap.size_push _ _)) (xo_ok e2 rfl rfl rfl)

/-- ValueError.__init__(e, ..), by value -/
theorem xinit_run {e : Addr} {d : Option Addr} {R : Result → Shared → Prop} (I : Inv X pins σ H s) (m : Xm X.K C) (hx : H e = some (xo e C d)) (hz : us.length ≤ sizeLine) (A : Around)
    (h : ∀ s', Inv X pins σ H s' → R (.ok (.ret .none)) s') : codeAny (model X.prog X.w) A (.call (.builtin "ValueError.__init__") ⟨.ref e :: us, []⟩) R s := by
  have Fn := F.excBase_ValueError
  have c := m.c
  obtain ⟨nm, qn, N, bs, bm, hdct, sn, sub, ab, col, dd, k0, k1, k2, k3, k5, lC⟩ := m.ob
  have hC := I.kIn _ _ lC
  obtain ⟨o, t, h1, h2, h3, h4⟩ := xo_obj I hx
  obtain ⟨oc, od, oda, osl⟩ := o
  dsimp only at h2 h3 h4
  subst h2 h3 h4
  have L : Looks (model X.prog X.w) s.heap (isInstance (.ref e) (.type "ValueError")) true := ((Looks.ld h1).andThen .now).andThen (PySem.W.looks_mroIn I.kIn (c.base (n := "ValueError") (b := true) (by decide +kernel)))
  obtain ⟨hp, g, dr, tk, os⟩ := s
  refine codeAny_call_builtin Fn.init.plain Fn.initEntry ?_
  have hshort := Fn.noStar
  simp only [checkBuiltinCall, Fn.initKind, Fn.initSplit, Fn.initRow]
  refine wpAny_bind (L.at ?_)
  simp only [Bool.not_true, Bool.false_eq_true, if_false]
  have fin : wpAny (model X.prog X.w) A.in1 (Builtin.«BaseException.__init__» ⟨.ref e :: us, []⟩) (fun fin s' => match fin with | .done f => R (.ok f) s' | .again c' => c'.quiet = true ∧ codeAny (model X.prog X.w) A c' R s') (fun e s' => R (.error e) s') ⟨hp, g, dr, tk, os⟩ := by
    have hlt : e < hp.objs.size := Heap.lt_size h1
    wp_walk
    refine h _ ?_
    have I1 : Inv X pins σ H { (⟨hp, g, dr, tk, os⟩ : Shared) with heap := hp.push (tupO us) } := I.kept (t' := tk) fun b o e => Heap.get?_push_of_some _ e
    have e2 := Heap.get?_update_self (Obj.mapFields (·.setIfInBounds 0 (Value.ref hp.objs.size))) (Heap.get?_push_of_some (h := hp) (tupO us) h1) rfl
    have I2 := I1.write (x := e) (e := e) (o := xo e C od) (h' := (hp.push (tupO us)).update e (Obj.mapFields (·.setIfInBounds 0 (Value.ref hp.objs.size)))) (t' := tk) (by rw [hx]; exact trivial) (.inl rfl)
      (fun b u hb q => by rw [Heap.get?_update_other _ _ (Ne.symm hb)]; exact q) ⟨_, e2⟩ (xo_ok e2 rfl rfl rfl)
    rw [upd_id hx] at I2
    exact I2
  repeat (first | with_reducible refine wpAny_loadPart_at hC ?_ | (with_reducible refine wpAny_load hC ?_) | with_reducible refine wpAny_loadPart_at h1 ?_ | wp_step)
  first
    | (refine wpAny_onRaise ?_
       rw [show ∀ (a b : String) (n : Nat), Bind.check ⟨.positional, "*", "ValueError", .self, [⟨"args", .varPos, false⟩]⟩ a b n (List.map (fun x => x.fst) ({ pos := Value.ref e :: us } : Args).kw) = pure () from fun a b n => check_star_args _ _ _ _ _ _]
       exact wpAny_pure fin)
    | skip
end
end L2

set_option Elab.async false
set_option linter.all false
set_option maxRecDepth 100000
/-! EXCEPTIONS of own classes over the hand layer, III: isinstance; the rules for expressions -/
namespace L2
open PySem PySem.Spec PyProof.Rows
open PySem.W (Frag findIn specialIn typeIn mroIn clsIn InstAt Looks)

/-- what isinstance asks of the class beside Xc -/
structure Xi (K : Frag) (C : Addr) : Prop where
  c : Xc K C
  ha : findIn K (.ref C) "__class__" = some (some (.builtin "object.__class__"))
  hn : specialIn K (.builtin "object.__class__") "__get__" = some (some (.builtin "getset_descriptor.__get__"))
  htk : PySem.W.takesIn K (.builtin "object.__class__") = some true

section
variable {K : Frag} {x C : Addr} {ox : Obj} {od : Option Obj} {prog : Program} {w : World} {A : Around} {E : Value → Shared → Prop} {s : Shared}
theorem xclass {Q : Option Value → Shared → Prop} (i : Xi K C) (KX : K.In s.heap) (I : InstAt s.heap x ox C od) (h : Q (some (.ref C)) { s with toks := s.toks + 1 }) : wpAny (model prog w) A (getAttr? (.ref x) "__class__") Q E s := by
  have c := i.c
  have hf : PySem.W.findObj K C od "__class__" = some (.bind (.builtin "getset_descriptor.__get__") (.builtin "object.__class__")) := by
    obtain ⟨cd, hc, _⟩ := PySem.W.any_some c.hd
    unfold PySem.W.findObj
    rw [hc, i.ha]
    simp only [Option.bind_some, i.hn, i.htk]
  obtain ⟨hp, g, d, t, os⟩ := s
  have L0 := I.type (M := model prog w)
  have L1 := PySem.W.looks_findIn (M := model prog w) KX c.ga
  have L2 := PySem.W.looks_findIn (M := model prog w) KX c.gr
  have L3 := PySem.W.looks_find (M := model prog w) KX I hf
  have L4 := PySem.W.looks_mroIn (M := model prog w) KX (c.base (n := "BaseException") (b := true) (by decide +kernel))
  have hm := c.base (n := "object") (b := true) (by decide +kernel)
  have hx2 : (Value.builtin "BaseException.__getattribute__" == Value.builtin "object.__getattribute__") = false := by decide +kernel
  have slot := F.excAttr_ValueError.ga
  unfold getAttr? getAttrBy?
  refine wpAny_bind (wpAny_mkText (wpAny_bind (wpAny_attempt ?_)))
  unfold getAttrBy
  refine wpAny_holding (wpAny_bind (L0.at (wpAny_bind (L1.at ?_))))
  dsimp only
  rw [hx2, Bool.and_false, if_neg Bool.false_ne_true]
  unfold getAttrByItsOwn hookBefore
  refine wpAny_bind ?_
  show wpAny _ _ (if onTheHeap (Value.ref C) = true then typeLookup (.ref C) "__getattr__" else pure none) _ _ _
  rw [if_pos (show onTheHeap (Value.ref C) = true from rfl)]
  refine L2.at (wpAny_bind (wpAny_attempt (wpAny_holding ?_)))
  unfold callGetattribute
  rw [show (false && onTheHeap (Value.builtin "BaseException.__getattribute__")) = false from rfl, if_neg Bool.false_ne_true]
  unfold boundAndCalled
  rw [slot.bind]
  refine wpAny_bind (wpAny_pure ?_)
  show wpAny _ _ (call (.builtin "BaseException.__getattribute__") [.ref x, .str "__class__" t]) _ _ _
  refine wpAny_call (codeAny_call_builtin slot.plain entry_bga ?_)
  refine @PySem.W.check_slot (model prog w) _ _ ⟨hp, g, d, t + 1, os⟩ "BaseException.__getattribute__" "BaseException" "__getattribute__" (.ref x) [.str "__class__" t] [] _ (by decide +kernel) (by decide +kernel) (L0.andThen L4) (F.args_bexc_ga (.ref x) (.str "__class__" t)) ?_
  refine wpAny_bind (wpAny_pure (wpAny_bind (wpAny_pure (wpAny_bind (L0.at (wpAny_bind (L3.at ?_)))))))
  show wpAny _ _ (holding [.builtin "object.__class__"] (call (.builtin "getset_descriptor.__get__") [.builtin "object.__class__", .ref x, .ref C]) >>= ret) _ _ _
  refine wpAny_bind (wpAny_holding (wpAny_call (PySem.W.class_get (s := ⟨hp, g, d, t + 1, os⟩) (ox := ox) (od := od) KX I hm (wpAny_pure ?_))))
  exact PySem.W.handed_on rfl (wpAny_pure h)
theorem kitx_exc (i : Xi K C) : PySem.W.KitX K (.ref x) (.ref C) (fun h => InstAt h x ox C od) where
  ty := fun _ _ _ I => I.type
  it := fun _ _ KX _ => by
    obtain ⟨cd, hc, _⟩ := PySem.W.any_some i.c.hd
    unfold PySem.W.clsIn at hc
    split at hc
    · rename_i ho
      intro A' Q' E' s' k q
      unfold isType loadHead
      exact wpAny_bind (wpAny_loadPart (k _ _ (KX _ _ ho)) (wpAny_pure q))
    · cases hc
  ne := fun h tp dd its n sl KX htp => by
    obtain ⟨cd, hc, _⟩ := PySem.W.any_some i.c.hd
    refine Bool.eq_false_iff.mpr fun q => ?_
    have e : C = tp := Value.ref.inj (beq_iff_eq.mp q)
    subst e
    unfold PySem.W.clsIn at hc
    split at hc
    · rename_i ho
      have z := (KX _ _ ho).symm.trans htp
      cases z
    · cases hc
  ca := fun KX I k => xclass i KX I k
end

/-- the type of a value, an exception's too -/
inductive TyX (K : Frag) (H : Hp) : V → Value → Prop where
  | pl {x : V} {t : Value} (h : TyOf K H x t) : TyX K H x t
  | seqL {a : Addr} {xs : List V} (h : SqL K H a xs) : TyX K H (.ref a) (.type "list")
  | seqT {a : Addr} {xs : List V} (h : SqT K H a xs) : TyX K H (.ref a) (.type "tuple")
  | exc {e C : Addr} {fs : List (Str × V)} (x : XAt H e C fs) (i : Xi K C) : TyX K H (.ref e) (.ref C)
/-- a class as a value -/
def clsV : V → Option Value
  | .ref a => some (.ref a)
  | .ty n => some (.type n)
  | _ => none
theorem call_isinst {X : Cx} : CallR X (.builtin "isinstance") (fun xs H Q => ∃ x c t k b, xs = [x, c] ∧ clsV c = some k ∧ TyX X.K H x t ∧ PySem.W.kitOne X.K t k = some b ∧ Q (.bl b) H) := by
  rintro pins s σ H xs us Q I r ⟨x, c, t, k, b, rfl, hk, ty, e, q⟩
  obtain ⟨u, v, rfl, ru, rv⟩ := r.two
  have hv : v = k := by
    cases c with
    | ref a => cases hk; exact rv
    | ty n => cases hk; exact rv
    | _ => cases hk
  subst hv
  cases ty with
  | pl ty => exact isinst_ok I ru ty e fun tk => ⟨.bl b, H, I.tok _, rfl, q⟩
  | seqL h =>
    cases ru
    obtain ⟨its, _, ⟨o, n, ho, hc, _⟩, _⟩ := I.list h
    exact PySem.W.kia_one PySem.W.kitx_list I.kIn ⟨o, ho, hc⟩ e (fun z => nomatch z) fun tk => ⟨.bl b, H, I.tok _, rfl, q⟩
  | seqT h =>
    cases ru
    obtain ⟨its, _, ⟨o, ho, hc, _⟩, _⟩ := I.tuple h
    exact PySem.W.kia_one PySem.W.kitx_tuple I.kIn ⟨o, ho, hc⟩ e (fun z => nomatch z) fun tk => ⟨.bl b, H, I.tok _, rfl, q⟩
  | exc x i =>
    cases ru
    obtain ⟨ox, od, J, _⟩ := x.inst I
    exact PySem.W.kia_one (kitx_exc i) I.kIn J e (fun z => nomatch z) fun tk => ⟨.bl b, H, I.tok _, rfl, q⟩

/-! ### rules -/
/-- e.f of an exception; e.f of an instance or an exception -/
def tXFld (K : Frag) (ta : TE) (f : Str) : TE := fun σ H Q => ta σ H fun x H1 => ∃ e C fs v, x = .ref e ∧ XAt H1 e C fs ∧ Xc K C ∧ NoAttr K C f ∧ fs.lookup f = some v ∧ Q v H1
def sXFld (K : Frag) (ta tv : TE) (f : Str) : TS := fun D σ H => tv σ H fun y H1 => ta σ H1 fun x H2 => ∃ e C fs, x = .ref e ∧ XAt H2 e C fs ∧ Xc K C ∧ NoAttr K C f ∧ fs.length < 1000 ∧
  ∀ H', XAt H' e C (putF f y fs) → (∀ b o, H2 b = some o → b ≠ e → (∀ d, H2 e = some (xo e C (some d)) → b ≠ d) → H' b = some o) → (∃ d, H' e = some (xo e C (some d)) ∧ (H2 e = some (xo e C (some d)) ∨ H2 d = none)) → D.nx σ H'
/-- C(..): an exception class without an __init__ of its own, with one -/
def tXMake0 (K : Frag) (C : Addr) (t : TA) : TE := fun σ H Q => t σ H fun vs H1 => vs.length ≤ 1000 ∧ ∀ e, H1 e = none → Q (.ref e) (upd H1 e (xo e C none))
def tXMake (C : Addr) (sp : Sp) (E : XK) (t : TA) : TE := fun σ H Q => t σ H fun vs H1 => vs.length ≤ 1000 ∧ ∀ e, H1 e = none → sp (.ref e :: vs) (upd H1 e (xo e C none)) (fun v H2 => v = .non ∧ Q (.ref e) H2) E
section
variable {X : Cx} {o e value : Expr} {es : List Expr} {f x : Str} {p pos pos' : Pos} {ta tv : TE} {t : TA} {C fI : Addr}
theorem pe_xfld (he : PE X e ta) (hb : attributeBase e f X.env (eval e X.env) = eval e X.env) : PE X (.Attribute e f pos) (tXFld X.K ta f) := by
  intro pins s σ H Q I h
  refine attr_of hb (thn (he pins s σ H _ I h) fun u s1 ⟨x, H1, I1, rx, a, C, fs, v, ex, xa, c, n, l, q⟩ => ?_)
  subst ex
  obtain rfl : u = Value.ref a := rx
  exact xget I1 xa c n l fun u' s2 I2 ru => ⟨v, H1, I2, ru, q⟩
theorem ps_xfld (ha : PE X o ta) (hv : PE X value tv) (hs : swapsWith value (some (.Attribute o f pos')) pos.line X.env = pure false) : PS X (.Assign [.Attribute o f pos'] value pos) (sXFld X.K ta tv f) := by
  intro pins s σ H D I h
  refine plainObj_wpAny_Assign_Attribute (thn (hv pins s σ H _ I h) fun u s1 ⟨y, H1, I1, ry, q⟩ => thn (ha pins s1 σ H1 _ I1 q) fun ov s2 ⟨x, H2, I2, rx, a, C, fs, ex, xa, c, n, l, q2⟩ => ?_) hs
  subst ex
  obtain rfl : ov = Value.ref a := rx
  exact xset I2 xa c n l ry fun s3 H3 I3 x3 k3 d3 => ⟨σ, H3, I3, q2 H3 x3 k3 d3⟩

theorem Xm.parts {K : Frag} {C : Addr} (m : Xm K C) : ∃ (nm q : Str) (N : Addr) (bs bm : List Value) (hdct : Bool) (sn : List Str) (sub : List Value) (ab : Bool) (col : Option Bool) (dd : Option Addr) (k0 k1 k2 k3 k5 : Option Value),
    K.lookup C = some (excClassObj nm q C N bs bm hdct sn sub ab col dd k0 k1 k2 k3 k5 "ValueError.__new__") ∧ xmro (.ref C :: bm) = true := by
  obtain ⟨nm, qn, N, bs, bm, hdct, sn, sub, ab, col, dd, k0, k1, k2, k3, k5, lC⟩ := m.ob
  refine ⟨nm, qn, N, bs, bm, hdct, sn, sub, ab, col, dd, k0, k1, k2, k3, k5, lC, ?_⟩
  have hm := m.c.mr
  unfold PySem.W.clsIn at hm
  rw [lC] at hm
  exact hm
theorem run_xmake0 {pins : List (Addr × Obj)} {σ : St} {H : Hp} {s : Shared} {Q : VK} {us : List Value} (m : Xm X.K C) (hi : findIn X.K (.ref C) "__init__" = some (some (.builtin "ValueError.__init__"))) (I : Inv X pins σ H s) (hz : us.length ≤ 1000)
    (h : ∀ e, H e = none → Q (.ref e) (upd H e (xo e C none))) : wpAny (model X.prog X.w) X.A (call (.ref C) us) (EP X pins σ Q) X.xe s := by
  obtain ⟨nm, qn, N, bs, bm, hdct, sn, sub, ab, col, dd, k0, k1, k2, k3, k5, lC, hx⟩ := m.parts
  have I2 := Inv.xmade (C := C) (us := us) I
  have hq := h (s.heap.objs.size + 1) (I.hok.fresh (Nat.le_succ _))
  have hz' : us.length ≤ sizeLine := Nat.le_trans hz (by rw [sizeLine_eq]; decide)
  have KX := I.kIn
  have hC := KX _ _ lC
  obtain ⟨hp, g, d, t, os⟩ := s
  refine wpAny_call (xcall (K := X.K) KX hx hC (PySem.W.looks_findIn KX hi) (fun self => Looks.of_pure (F.excBase_ValueError.init.bind self)) hz' ?_)
  refine xinit_run I2 m upd_same hz' _ fun s' I3 => ⟨rfl, ?_⟩
  exact ⟨.ref _, _, I3, rfl, hq⟩
theorem run_xmake {CX : CXT} {k : Nat} {fd : FuncData} {ps : List Str} {sp : Sp} {E : XK} {pins : List (Addr × Obj)} {σ : St} {H : Hp} {s : Shared} {Q : VK} {us : List Value} {vs : List V} (m : Xm X.K C) (hi : findIn X.K (.ref C) "__init__" = some (some (.ref fI))) (hfn : PySem.W.isFn X.K (.ref fI) = true)
    (F : FnOk X.prog X.w X.K X.mg X.base CX k fI fd ps sp) (hr : Room (k + 1) X.A) (hb : Binds X.K fd ps []) (hxp : Passes CX X E) (I : Inv X pins σ H s) (r : Vals vs us) (hz : vs.length ≤ 1000)
    (h : ∀ e, H e = none → sp (.ref e :: vs) (upd H e (xo e C none)) (fun v H2 => v = .non ∧ Q (.ref e) H2) E) : wpAny (model X.prog X.w) X.A (call (.ref C) us) (EP X pins σ Q) X.xe s := by
  obtain ⟨nm, qn, N, bs, bm, hdct, sn, sub, ab, col, dd, k0, k1, k2, k3, k5, lC, hx⟩ := m.parts
  have I2 := Inv.xmade (C := C) (us := us) I
  have hq := h (s.heap.objs.size + 1) (I.hok.fresh (Nat.le_succ _))
  have hz' : us.length ≤ sizeLine := by rw [← r.length]; exact Nat.le_trans hz (by rw [sizeLine_eq]; decide)
  have KX := I.kIn
  have hC := KX _ _ lC
  have r2 : Vals (V.ref (s.heap.objs.size + 1) :: vs) (Value.ref (s.heap.objs.size + 1) :: us) := .cons rfl r
  have hl : ((Value.ref (s.heap.objs.size + 1) :: us) ++ []).length = ps.length := by
    have e := r2.length
    rw [F.len _ _ _ _ hq] at e
    rw [List.append_nil]
    exact e.symm
  have hb2 := hb { s with heap := (s.heap.push (tupO us)).push (xraw C s.heap.objs.size) } (Value.ref (s.heap.objs.size + 1) :: us) I2.kIn hl
  rw [List.append_nil] at hb2
  obtain ⟨hp, g, d, t, os⟩ := s
  refine wpAny_call (xcall (K := X.K) KX hx hC (PySem.W.looks_findIn KX hi) (fun self => PySem.W.bind_fn KX self (beq_iff_eq.mp hfn)) hz' ?_)
  refine codeAny_mono (F.run _ X.stack _ _ ⟨Value.ref (hp.objs.size + 1) :: us, []⟩ (Value.ref (hp.objs.size + 1) :: us) _ _ E (hr.make C us []) (I2.env0.make C us []) hb2 r2 hq) fun r s' hq' => ?_
  cases r with
  | error e => exact hxp pins σ _ _ e s' I2 hq'
  | ok fl =>
    cases fl with
    | ret u =>
      obtain ⟨v, H', I3, rv, ev, q3⟩ := I2.after hq'
      subst ev
      exact ⟨rv, ⟨V.ref (hp.objs.size + 1), H', I3, rfl, q3⟩⟩
    | next => exact False.elim hq'
    | brk => exact False.elim hq'
    | cont => exact False.elim hq'
theorem pe_xmake0 (m : Xm X.K C) (hi : findIn X.K (.ref C) "__init__" = some (some (.builtin "ValueError.__init__"))) (hg : Gl X x) (hm : X.mg x = some (.ref C)) (ha : PA X (e :: es) t)
    (hdb : (x == ("__debug__" : Str)) = false := by decide) (he : starEach (e :: es) X.env = (false, eval e X.env) :: starEach es X.env := by rfl) (hpl : (backTo pos (starEach es X.env)).any (·.1) = false := by rfl) :
    PE X (.Call (.Name x p) (e :: es) [] pos) (tXMake0 X.K C t) := by
  intro pins s σ H Q I h
  refine wpAny_Call_Name_kw (ld_glob I hg hm ?_ hdb)
  refine PySem.W.callWith_K (h₀ := X.base) I.ok.mod.kin m.kp (thn (ha pos pins s σ H _ I h) fun us s1 ⟨vs, H1, I1, r, hz, q⟩ => ⟨I1.kIn, ?_⟩) he hpl
  exact run_xmake0 m hi I1 (by rw [List.nil_append, ← r.length]; exact hz) q
theorem pe_xmake {CX : CXT} {k : Nat} {fd : FuncData} {ps : List Str} {sp : Sp} {E : XK} (m : Xm X.K C) (hi : findIn X.K (.ref C) "__init__" = some (some (.ref fI))) (hfn : PySem.W.isFn X.K (.ref fI) = true)
    (F : FnOk X.prog X.w X.K X.mg X.base CX k fI fd ps sp) (hr : Room (k + 1) X.A) (hb : Binds X.K fd ps []) (hxp : Passes CX X E) (hg : Gl X x) (hm : X.mg x = some (.ref C)) (ha : PA X (e :: es) t)
    (hdb : (x == ("__debug__" : Str)) = false := by decide) (he : starEach (e :: es) X.env = (false, eval e X.env) :: starEach es X.env := by rfl) (hpl : (backTo pos (starEach es X.env)).any (·.1) = false := by rfl) :
    PE X (.Call (.Name x p) (e :: es) [] pos) (tXMake C sp E t) := by
  intro pins s σ H Q I h
  refine wpAny_Call_Name_kw (ld_glob I hg hm ?_ hdb)
  refine PySem.W.callWith_K (h₀ := X.base) I.ok.mod.kin m.kp (thn (ha pos pins s σ H _ I h) fun us s1 ⟨vs, H1, I1, r, hz, q⟩ => ⟨I1.kIn, ?_⟩) he hpl
  exact run_xmake m hi hfn F hr hb hxp I1 r hz q

/-- L.__init__(e, ..) where that is ValueError's own -/
structure ClsRead (K : Frag) (C : Addr) (f : Str) (v : Value) : Prop where
  sp : specialIn K (.ref C) "__getattribute__" = some (some (.builtin "type.__getattribute__"))
  rd : PySem.W.readsIn K C (.type "type") = true
  fd : PySem.W.findCls K (.ref C) (.type "type") f = some (.val v)
  hn : PySem.W.handedIn v = true
def tXInit (K : Frag) (t : TA) : TE := fun σ H Q => t σ H fun vs H1 => ∃ e C d rest, vs = .ref e :: rest ∧ H1 e = some (xo e C d) ∧ Xm K C ∧ rest.length ≤ 1000 ∧ Q .non H1
theorem pe_xinit {L : Addr} {pl : Sem Bool} {apos : Pos} {np : Pos} (hg : Gl X x) (hm : X.mg x = some (.ref L)) (cr : ClsRead X.K L "__init__" (.builtin "ValueError.__init__")) (ha : PA X (e :: es) t)
    (hdb : (x == ("__debug__" : Str)) = false := by decide) (hst : starEach (e :: es) X.env = (false, eval e X.env) :: starEach es X.env := by rfl) (hpl : (backTo pos (starEach es X.env)).any (·.1) = false := by rfl)
    (ht : eval (.Call (.Attribute (.Name x np) "__init__" apos) (e :: es) [] pos) X.env = (do
      let ov ← eval (.Name x np) X.env
      standAt apos.atName
      let (f, first) ← holding [ov] (getMethod ov "__init__" pl)
      callWith pos f first (backTo pos (starEach (e :: es) X.env)) (backToKw pos (keywordEach [] X.env))) := by rfl) :
    PE X (.Call (.Attribute (.Name x np) "__init__" apos) (e :: es) [] pos) (tXInit X.K t) := by
  intro pins s σ H Q I h
  refine PySem.W.methodCall_KW (pl := pl) (ld_glob I hg hm ?_ hdb) ht
  refine PySem.W.method_cls I.kIn cr.sp (PySem.W.cls_value I.kIn cr.rd cr.fd cr.hn ?_)
  refine PyProof.Rows.callWith_builtin1 (thn (ha pos pins _ σ H _ (I.tok _) h) fun us s1 ⟨vs, H1, I1, r1, ev, C, d, rest, evs, hx, m, hz, q⟩ => ?_) hst hpl
  subst evs
  cases r1 with
  | cons ru rr =>
    cases ru
    refine wpAny_call (xinit_run I1 m hx (by rw [← rr.length]; exact Nat.le_trans hz (by rw [sizeLine_eq]; decide)) _ fun s' I3 => ?_)
    exact ⟨.non, H1, I3, rfl, q⟩
end
end L2

set_option Elab.async false
set_option linter.all false
set_option maxRecDepth 100000
/-! enumerate(list) in a for or a comprehension, over the hand layer -/
namespace L2
open PySem PySem.Spec PyProof.Rows

section
variable {X : Cx} {pins : List (Addr × Obj)} {σ : St} {H : Hp} {s : Shared}
/-- several untracked records of ours have turned -/
theorem Inv.turnedN {t' : Nat} {h' : Heap} {fp : List Addr} (I : Inv X pins σ H s) (k : ∀ b o, b ∉ fp → s.heap.get? b = some o → h'.get? b = some o) (hf : ∀ b ∈ fp, FpOk X pins H b) : Inv X pins σ H { s with heap := h', toks := t' } := by
  have nit : ∀ b u, H b = some u → b ∉ fp := fun b u e z => by rw [(hf b z).1] at e; cases e
  refine I.step (g' := s.gens) (d' := s.drawn) (ch := fp) (fun b hb => ?_) (fun b o _ _ hc e _ => k b o hc e) (fun b o _ _ hc e _ => ⟨o.slots, k b o hc e⟩) (fun _ _ _ _ n => n)
    (fun b o hc e => ⟨o, k b o hc e⟩) (fun _ _ e => e) (fun _ _ _ e => e) (fun b ps e => ⟨#[], by rw [e]; simp⟩) (fun m hm => ?_) (fun b u e => ?_) I.bare
  · obtain ⟨_, f1, _, f3, f4, f5⟩ := hf b hb
    exact ⟨f3, f1, f4, f5⟩
  · obtain ⟨o, es, ep, ho, r⟩ := hm
    exact ⟨o, es, ep, k _ o (fun z => (hf _ z).2.1 rfl) ho, r⟩
  · refine (I.hok b u e).stay (fun c v hc q => k c v ?_ q) (fun _ q => q) fun _ _ q => q
    rcases hc with z | z
    · rw [z]; exact nit b u e
    · exact nit c _ z
/-- an object of ours that was not tracked is tracked from now on -/
theorem Inv.track {p : Addr} {o : HO} (I : Inv X pins σ H s) (hf : FpOk X pins H p) (hs : X.s₀.heap.objs.size ≤ p) (ok : ObjOk X.prog X.w (upd H p o) s.heap p o) : Inv X pins σ (upd H p o) s := by
  obtain ⟨f0, f1, f2, f3, f4, f5⟩ := hf
  have ne : ∀ b o', X.s₀.heap.get? b = some o' → b ≠ p := fun b o' e => Nat.ne_of_lt (Nat.lt_of_lt_of_le (Heap.lt_size e) hs)
  have nh : ∀ b u, H b = some u → b ≠ p := fun b u e => ne_of_none e f0
  refine ⟨I.ok, I.os, I.bare, ⟨I.base.keep, I.base.slot, fun b o' e n hb => ?_, I.base.there, fun b xs e => ?_, fun b o' u e => ?_, fun b ps e => ?_⟩, I.loc, I.cell, ?_, fun x c e => ?_, fun q hq => ?_, fun b u e => ?_, I.len⟩
  · rw [upd_ne (ne b o' e)]; exact I.base.free b o' e n hb
  · have := I.base.tups b xs e
    rw [upd_ne (nh b _ this)]; exact this
  · have := I.base.frzs b o' u e
    rw [upd_ne (nh b _ this)]; exact this
  · obtain ⟨m, q⟩ := I.base.tbls b ps e
    exact ⟨m, by rw [upd_ne (nh b _ q)]; exact q⟩
  · rw [upd_ne (Ne.symm f1)]; exact I.free
  · rw [upd_ne (f4 x c e)]; exact I.freeC x c e
  · obtain ⟨e, n, r⟩ := I.pin q hq
    refine ⟨e, ?_, r⟩
    rw [upd_ne (f5 q hq)]; exact n
  · by_cases hb : b = p
    · subst hb
      rw [upd_same] at e
      cases e
      exact ok
    · rw [upd_ne hb] at e
      refine (I.hok b u e).stay (fun _ _ _ q => q) (fun c q => ?_) fun c xs q => ?_
      · rw [upd_ne (nh c _ q)]; exact q
      · rw [upd_ne (nh c _ q)]; exact q
end

def Ite (K : PySem.W.Frag) (a : Addr) : It :=
  ⟨fun i H => ∃ xs x, SqL K H a xs ∧ xs[i]? = some x, fun i H x H' => ∃ p v, H p = none ∧ x = .ref p ∧ H' = upd H p (.tup [.int i, v]) ∧ ∀ xs, SqL K H a xs → xs[i]? = some v, fun i H => ∃ xs, SqL K H a xs ∧ xs.length ≤ i⟩
theorem turn_enum {P : Program} {w : World} {K : PySem.W.Frag} {es : List Expr} {x1 : Nat} {tp : Pos} (a e it : Addr) (hne : e ≠ it) : Turn P w K (.Tuple es x1 tp) (Ite K a) [e, it] e (fun i h => (∃ old, IsEnum h e it (i : Nat) old) ∧ h.IsListIter it a i) where
  mem := by simp
  obj := fun i h st b hb => by
    obtain ⟨⟨old, s1⟩, s2⟩ := st
    rcases List.mem_cons.mp hb with z | z
    · subst z
      exact ⟨_, s1, fun v z => by
        have z' : Data.fields _ = Data.cell v := z
        cases z'⟩
    · have z : b = it := by simpa using z
      subst z
      obtain ⟨o, e1, c, d⟩ := s2
      exact ⟨o, e1, fun v z => by rw [d] at z; cases z⟩
  keep := fun i h h' st k => by
    obtain ⟨⟨old, s1⟩, s2⟩ := st
    exact ⟨⟨old, k e (by simp) _ s1⟩, s2.at fun o q => k it (by simp) o q⟩
  item := by
    intro X hP hw hK hc i pins s σ H E I hf st hg
    subst hP hw hK
    obtain ⟨⟨old, s1⟩, s2⟩ := st
    obtain ⟨xs, x, hq, hx⟩ := hg
    obtain ⟨its, rv, p, hz⟩ := I.list hq
    obtain ⟨u, hu, ru⟩ := rv.get hx
    refine wpAny_pyNext_enum_item s1 s2 p.isList (x := u) (by simpa using hu) hne fun h' o1 l1 t1 z1 k1 => ?_
    refine ⟨_, rfl, ?_⟩
    refine wpAny_letOwnedTupleGo_enum (s := { s with heap := h', toks := s.toks + 1 }) o1 fun h2 o2 sb => ?_
    have hfr := I.fresh
    have hsz : s.heap.objs.size ≠ e := fun z => by
      obtain ⟨o, q, _⟩ : ∃ o, s.heap.get? e = some o ∧ True := ⟨_, s1, trivial⟩
      exact absurd (Heap.lt_size q) (by rw [← z]; exact Nat.lt_irrefl _)
    have k2 : ∀ b o, b ∉ [e, it] → s.heap.get? b = some o → h2.get? b = some o := fun b o hb q => by
      have hbe : b ≠ e := fun z => hb (by simp [z])
      have hbi : b ≠ it := fun z => hb (by simp [z])
      exact (sb.2 b hbe).trans (k1 b o hbe hbi q)
    have I1 : Inv X pins σ H { s with heap := h2, toks := s.toks + 1 } := I.turnedN (t' := s.toks + 1) k2 hf
    have t2 : h2.get? s.heap.objs.size = some { cls := .type "tuple", data := .seq #[.int i s.toks, u] } := (sb.2 _ hsz).trans t1
    have fp := I.fpOk (H' := H) (Nat.le_refl _) hfr
    refine ⟨.ref s.heap.objs.size, upd H s.heap.objs.size (.tup [.int i, x]), I1.track fp I.sz ?_, rfl, ⟨_, x, hfr, rfl, rfl, fun ys hy => by rw [I.list_inj hy hq]; exact hx⟩, ⟨⟨u, ?_⟩, ?_⟩, fun b hb => ?_⟩
    · exact ⟨by show 2 ≤ sizeLine; rw [sizeLine_eq]; decide, [.int i s.toks, u], .cons ⟨_, rfl⟩ (.cons ru .nil), ⟨_, t2, rfl, _, rfl⟩⟩
    · have : (((i + 1 : Nat) : Int)) = (i : Int) + 1 := by omega
      rw [this]; exact o2
    · obtain ⟨o, q, r⟩ := l1
      exact ⟨o, (sb.2 it (Ne.symm hne)).trans q, r⟩
    · have hb' := hf b hb
      have : b ≠ s.heap.objs.size := fun z => by
        rcases List.mem_cons.mp hb with q | q
        · exact hsz (z.symm.trans q)
        · have q : b = it := by simpa using q
          obtain ⟨o, q2, _⟩ := s2
          exact absurd (Heap.lt_size q2) (by rw [← q, z]; exact Nat.lt_irrefl _)
      rw [upd_ne this]; exact hb'.1
  done := by
    intro X hP hw hK hc i pins s σ H E I hf st hg
    subst hP hw hK
    obtain ⟨⟨old, s1⟩, s2⟩ := st
    obtain ⟨xs, hq, hx⟩ := hg
    obtain ⟨its, rv, p, hz⟩ := I.list hq
    have hl := rv.length
    refine wpAny_pyNext_enum_end (I.ok.hd hc) s1 s2 p.isList (by simp; omega) fun h' eb => ⟨rfl, I.turnedN (t' := s.toks) (fun b o hb q => eb b o (fun z => hb (by simp [z])) q) hf⟩
  self := fun _ _ _ _ _ st h => by
    obtain ⟨⟨old, s1⟩, _⟩ := st
    exact wpAny_pyIter_enum s1 h
section
variable {X : Cx} {es : List Expr} {x1 : Nat} {tp : Pos}
def iEnum (K : PySem.W.Frag) (ta : TA) : TI := fun σ H R => ta σ H fun vs H1 => ∃ a, vs = [.ref a] ∧ (∃ xs, SqL K H1 a xs) ∧ R (Ite K a) H1
theorem pi_enum {l : Expr} {ta : TA} {p pos : Pos} (hg : Gl X "enumerate") (hm : X.mg "enumerate" = none) (ha : PA X [l] ta) (hs : starEach [l] X.env = [(false, eval l X.env)] := by rfl) : PI X (.Tuple es x1 tp) (.Call (.Name "enumerate" p) [l] [] pos) (iEnum X.K ta) := by
  intro pins s σ H R I h
  refine Call_ (ld_blt I hg hm boot_enumerate (PyProof.Rows.callWith_type1 (thn (ha pos pins s σ H _ I h) fun us s1 ⟨vs, H1, I1, r1, a, ev, ⟨xs, hq⟩, q⟩ => ?_) hs rfl))
  subst ev
  obtain ⟨u, rfl, ru⟩ := r1.one
  cases ru
  obtain ⟨its, rv, p, hz⟩ := I1.list hq
  refine call_enumerate_list p.isList fun h' e1 l1 z1 k1 => ?_
  have I2 : Inv X pins σ H1 { s1 with heap := h' } := I1.kept (t' := s1.toks) k1
  refine wpAny_pyIter_enum (s := { s1 with heap := h' }) e1 ?_
  have h0 : (((0 : Nat) : Int)) = 0 := rfl
  refine ⟨s1.heap.objs.size + 1, [s1.heap.objs.size + 1, s1.heap.objs.size], _, _, H1, rfl, I2, turn_enum a _ _ (Nat.succ_ne_self _), ⟨⟨_, e1⟩, l1⟩, fun b hb => ?_, q⟩
  have hb' : s1.heap.objs.size ≤ b := by
    rcases List.mem_cons.mp hb with z | z
    · rw [z]; exact Nat.le_succ _
    · have z : b = s1.heap.objs.size := by simpa using z
      rw [z]; exact Nat.le_refl _
  exact I1.fpOk hb' (I1.hok.fresh hb')
end
/-- for n, x in enumerate(list), the list stays; p is the turn's tuple -/
theorem for_enum {K : PySem.W.Frag} {a : Addr} {xs : List V} {g : TG} {tb : TS} {D : Ends} {σ : St} {H : Hp} (Pv : Nat → St → Hp → Prop) (h0 : Pv 0 σ H) (hl : ∀ i σ H, i ≤ xs.length → Pv i σ H → SqL K H a xs)
    (hs : ∀ i x p σ H, xs[i]? = some x → Pv i σ H → H p = none → g (.ref p) σ (upd H p (.tup [.int i, x])) fun σ2 H2 => tb { D with nx := Pv (i + 1), ct := Pv (i + 1), bk := D.nx } σ2 H2) (hd : ∀ σ H, Pv xs.length σ H → D.nx σ H) :
    ∃ W : Nat → Nat → St → Hp → Prop, (∃ m, W 0 m σ H) ∧ ∀ i m σ H, W i m σ H →
      ((Ite K a).stop i H ∧ D.nx σ H) ∨ ((Ite K a).go i H ∧ ∃ N : St → Hp → Prop, (∀ σ' H', N σ' H' → ∃ m', m' < m ∧ W (i + 1) m' σ' H') ∧ ∀ x H', (Ite K a).yld i H x H' → g x σ H' fun σ2 H2 => tb { D with nx := N, ct := N, bk := D.nx } σ2 H2) := by
  refine ⟨fun i m σ H => m = xs.length - i ∧ i ≤ xs.length ∧ Pv i σ H, ⟨xs.length, by simp, Nat.zero_le _, h0⟩, ?_⟩
  rintro i m σ H ⟨rfl, hi, p⟩
  have q := hl i σ H hi p
  by_cases hlt : i < xs.length
  · refine .inr ⟨⟨xs, xs[i], q, by simp [hlt]⟩, Pv (i + 1), fun σ' H' p' => ⟨xs.length - (i + 1), by omega, rfl, hlt, p'⟩, fun x H' y => ?_⟩
    obtain ⟨pt, v, hn, rfl, rfl, hv⟩ := y
    exact hs i v pt σ H (hv xs q) p hn
  · have e : i = xs.length := by omega
    subst e
    exact .inl ⟨⟨xs, q, Nat.le_refl _⟩, hd σ H p⟩
end L2

set_option Elab.async false
set_option linter.all false
set_option maxRecDepth 100000
/-! READINGS in short: what a reading asks at values that are written out -/
namespace L2
open PySem PySem.Spec PyProof.Rows
section
variable {H : Hp} {Q : VK} {σ : St}
theorem q_I {C : Int → Int → Prop} {g : Int → Int → V} {i j : Int} : rI C g (.int i) (.int j) H Q = (C i j ∧ Q (g i j) H) :=
  propext ⟨fun ⟨_, _, e1, e2, h⟩ => by cases e1; cases e2; exact h, fun h => ⟨i, j, rfl, rfl, h⟩⟩
theorem q_I0 {g : Int → Int → V} {i j : Int} : rI0 g (.int i) (.int j) H Q = Q (g i j) H :=
  propext ⟨fun ⟨_, _, e1, e2, h⟩ => by cases e1; cases e2; exact h, fun h => ⟨i, j, rfl, rfl, h⟩⟩
theorem q_U {g : Int → V} {i : Int} : rU g (.int i) H Q = Q (g i) H :=
  propext ⟨fun ⟨_, e1, h⟩ => by cases e1; exact h, fun h => ⟨i, rfl, h⟩⟩
theorem q_T {C : List Nat → List Nat → Prop} {g : List Nat → List Nat → V} {a b : List Nat} : rT C g (tx a) (tx b) H Q = (C a b ∧ Q (g a b) H) :=
  propext ⟨fun ⟨_, _, e1, e2, h⟩ => by rw [tx_inj.mp e1, tx_inj.mp e2]; exact h, fun h => ⟨a, b, rfl, rfl, h⟩⟩
theorem q_b {b : Bool} {p : Bool → Prop} : (∃ k, V.bl b = V.bl k ∧ p k) = p b :=
  propext ⟨fun ⟨_, e, h⟩ => by cases e; exact h, fun h => ⟨b, rfl, h⟩⟩
theorem q_var {v : V} {p : V → Prop} : (∃ u, some (some v) = some (some u) ∧ p u) = p v :=
  propext ⟨fun ⟨_, e, h⟩ => by cases e; exact h, fun h => ⟨v, rfl, h⟩⟩
theorem q_var' {v : V} {p : V → Prop} : (∃ u, v = u ∧ p u) = p v :=
  propext ⟨fun ⟨_, e, h⟩ => by cases e; exact h, fun h => ⟨v, rfl, h⟩⟩
theorem q_mulR {i j : Int} (h1 : -(2 ^ 64) < j) (h2 : j < 2 ^ 64) : CMul i j := .inr ⟨h1, h2⟩
theorem q_mulL {i j : Int} (h1 : -(2 ^ 64) < i) (h2 : i < 2 ^ 64) : CMul i j := .inl ⟨h1, h2⟩
end
end L2

set_option Elab.async false
set_option linter.all false
set_option maxRecDepth 100000
/-! SMALL RULES: a comprehension's scope by a look; the exceptions' makings and isinstance in short -/
namespace L2
open PySem PySem.Spec PyProof.Rows
open PySem.W (Frag findIn specialIn typeIn mroIn clsIn subIn kitOne kitCls)

def cmpOk (sc sco : Scope) : Bool := decide (sc.kind = .function) && sc.names.all fun y => decide (y.2 ≠ NameKind.cell) && (decide (y.2 ≠ NameKind.local) || decide (sc.names.lookup y.1 = some NameKind.local)) &&
  (decide (y.2 ≠ NameKind.free) || (decide (sco.names.lookup y.1 = some NameKind.cell) || decide (sco.names.lookup y.1 = some NameKind.free)))
theorem cmpOk_ok {X : Cx} {sc : Scope} (h : cmpOk sc X.env.scope = true) : CmpScope X sc := by
  unfold cmpOk at h
  rw [Bool.and_eq_true, List.all_eq_true] at h
  obtain ⟨h1, h2⟩ := h
  refine ⟨of_decide_eq_true h1, fun y hy => ?_, fun y hy e => ?_, fun y hy e => ?_⟩
  · have := h2 y hy
    simp only [Bool.and_eq_true, Bool.or_eq_true, decide_eq_true_eq] at this
    exact this.1.1
  · have := h2 y hy
    simp only [Bool.and_eq_true, Bool.or_eq_true, decide_eq_true_eq] at this
    rcases this.1.2 with z | z
    · exact absurd e z
    · exact z
  · have := h2 y hy
    simp only [Bool.and_eq_true, Bool.or_eq_true, decide_eq_true_eq] at this
    rcases this.2 with z | z | z
    · exact absurd e z
    · exact .inl z
    · exact .inr z

section
variable {K : Frag} {H : Hp} {C D : Addr}
/-- the class as isinstance reads it -/
structure ClsOk (K : Frag) (C : Addr) (mro : List Value) : Prop where
  cd : ∃ cd, clsIn K C = some cd ∧ cd.mro = mro
  ty : typeIn K (.ref C) = some (.type "type")
  ne : mro.isEmpty = false
theorem kit_ref {m1 m2 : List Value} {b : Bool} (c : ClsOk K C m1) (d : ClsOk K D m2) (h : m1.contains (.ref D) = b) (hh : C = D → b = true) : kitOne K (.ref C) (.ref D) = some b := by
  obtain ⟨cd, e1, e2⟩ := c.cd
  obtain ⟨cd', e3, e4⟩ := d.cd
  unfold PySem.W.kitOne
  split
  · rename_i z
    have z' : Value.ref C = Value.ref D := by simpa using z
    cases z'
    rw [hh rfl]
  · unfold PySem.W.kitCls
    dsimp only
    rw [e3, d.ty]
    simp only [Option.isSome_some, Bool.true_and, beq_self_eq_true, if_true]
    unfold PySem.W.subIn PySem.W.mroIn
    dsimp only
    rw [e1, Option.bind_some, e2, c.ne, h]
    rfl
theorem kit_ty {m1 : List Value} {b : Bool} {T : String} (c : ClsOk K C m1) (hT : PySem.W.kitMeta T = true) (h : m1.contains (.type T) = b) : kitOne K (.ref C) (.type T) = some b := by
  obtain ⟨cd, e1, e2⟩ := c.cd
  unfold PySem.W.kitOne
  split
  · rename_i z
    have z' : Value.ref C = Value.type T := by simpa using z
    cases z'
  · unfold PySem.W.kitCls
    dsimp only
    rw [hT, if_pos rfl]
    unfold PySem.W.subIn PySem.W.mroIn
    dsimp only
    rw [e1, Option.bind_some, e2, c.ne, h]
    rfl
/-- C('..'), without an __init__ of its own -/
theorem mk0 {Q : VK} {vs : List V} (hl : vs.length ≤ 1000) (h : ∀ e H2, Same H H2 → H e = none → XAt H2 e C [] → Q (.ref e) H2) : vs.length ≤ 1000 ∧ ∀ e, H e = none → Q (.ref e) (upd H e (xo e C none)) :=
  ⟨hl, fun e he => h e _ (fun b o hb => by rw [upd_ne (ne_of_none hb he)]; exact hb) he (.bare upd_same)⟩
/-- the promise of an __init__ that stores the fields fs of the values handed in -/
def spInit (K : Frag) (C : Addr) (n : Nat) (fs : List V → List (Str × V)) : Sp := fun vs H Q _ => ∃ e r, vs = .ref e :: r ∧ r.length = n ∧ H e = some (xo e C none) ∧
  ∀ H', XAt H' e C (fs r) → (∀ b o, H b = some o → b ≠ e → H' b = some o) → Q .non H'
theorem mk1 {Q : VK} {E : XK} {vs : List V} {n : Nat} {fs : List V → List (Str × V)} (hl : vs.length ≤ 1000) (hn : vs.length = n) (h : ∀ e H2, Same H H2 → H e = none → XAt H2 e C (fs vs) → Q (.ref e) H2) :
    vs.length ≤ 1000 ∧ ∀ e, H e = none → spInit K C n fs (.ref e :: vs) (upd H e (xo e C none)) (fun v H2 => v = .non ∧ Q (.ref e) H2) E :=
  ⟨hl, fun e he => ⟨e, vs, rfl, hn, upd_same, fun H' x k => ⟨rfl, h e H' (fun b o hb => k b o (by rw [upd_ne (ne_of_none hb he)]; exact hb) (ne_of_none hb he)) he x⟩⟩⟩
theorem same_upd {a : Addr} {o : HO} (h : H a = none) : Same H (upd H a o) := fun b u hb => by rw [upd_ne (ne_of_none hb h)]; exact hb
end

/-! ### what is made, in short: the heap behind it as a letter -/
def Mk0 (C : Addr) (H : Hp) (Q : VK) : Prop := ∀ e, H e = none → Q (.ref e) (upd H e (xo e C none))
def MkI (sp : Sp) (E : XK) (C : Addr) (vs : List V) (H : Hp) (Q : VK) : Prop := ∀ e, H e = none → sp (.ref e :: vs) (upd H e (xo e C none)) (fun v H2 => v = .non ∧ Q (.ref e) H2) E
def NewL (xs : List V) (H : Hp) (Q : VK) : Prop := ∀ p, H p = none → Q (.ref p) (upd H p (.lst xs))
def NewT (xs : List V) (H : Hp) (Q : VK) : Prop := ∀ p, H p = none → Q (.ref p) (upd H p (.tup xs))
section
variable {K : Frag} {C : Addr} {sp : Sp} {E : XK} {t : TA} {σ : St} {H : Hp} {Q : VK} {vs : List V}
theorem q_mk0 : tXMake0 K C t σ H Q = t σ H (fun vs H1 => vs.length ≤ 1000 ∧ Mk0 C H1 Q) := rfl
theorem q_mkI : tXMake C sp E t σ H Q = t σ H (fun vs H1 => vs.length ≤ 1000 ∧ MkI sp E C vs H1 Q) := rfl
theorem q_lst : tLst t σ H Q = t σ H (fun xs H1 => xs.length ≤ sizeLine ∧ NewL xs H1 Q) := rfl
theorem q_tup : tTup t σ H Q = t σ H (fun xs H1 => xs.length ≤ sizeLine ∧ NewT xs H1 Q) := rfl
theorem q_cat {l b : Addr} : rCat (.ref l) (.ref b) H Q = ∃ xs zs, H l = some (.lst xs) ∧ H b = some (.lst zs) ∧ xs.length + zs.length ≤ sizeLine ∧ NewL (xs ++ zs) H Q :=
  propext ⟨fun ⟨_, _, xs, zs, e1, e2, h⟩ => by cases e1; cases e2; exact ⟨xs, zs, h⟩, fun ⟨xs, zs, h⟩ => ⟨l, b, xs, zs, rfl, rfl, h⟩⟩
theorem Mk0.of (h : ∀ e H', Same H H' → H e = none → XAt H' e C [] → Q (.ref e) H') : Mk0 C H Q := fun e he => h e _ (same_upd he) he (.bare upd_same)
theorem MkI.of {n : Nat} {fs : List V → List (Str × V)} (hn : vs.length = n) (h : ∀ e H', Same H H' → H e = none → XAt H' e C (fs vs) → Q (.ref e) H') : MkI (spInit K C n fs) E C vs H Q :=
  fun e he => ⟨e, vs, rfl, hn, upd_same, fun H' x k => ⟨rfl, h e H' (fun b o hb => k b o (by rw [upd_ne (ne_of_none hb he)]; exact hb) (ne_of_none hb he)) he x⟩⟩
theorem NewL.of (h : ∀ p H', Same H H' → H p = none → H' p = some (.lst vs) → Q (.ref p) H') : NewL vs H Q := fun p hp => h p _ (same_upd hp) hp upd_same
theorem NewT.of (h : ∀ p H', Same H H' → H p = none → H' p = some (.tup vs) → Q (.ref p) H') : NewT vs H Q := fun p hp => h p _ (same_upd hp) hp upd_same
theorem NewL.at (h : ∀ p, H p = none → Q (.ref p) (upd H p (.lst vs))) : NewL vs H Q := h
theorem NewT.at (h : ∀ p, H p = none → Q (.ref p) (upd H p (.tup vs))) : NewT vs H Q := h
theorem q_isN {x : V} {r : V → Hp → Prop} : (∃ u, x = u ∧ r u H) = r x H := propext ⟨fun ⟨_, e, h⟩ => by cases e; exact h, fun h => ⟨x, rfl, h⟩⟩
theorem bt_str : bootBuiltins "str" = some (.type "str") := by decide +kernel
theorem bt_int : bootBuiltins "int" = some (.type "int") := by decide +kernel
theorem bt_bool : bootBuiltins "bool" = some (.type "bool") := by decide +kernel
theorem bt_list : bootBuiltins "list" = some (.type "list") := by decide +kernel
theorem bt_tuple : bootBuiltins "tuple" = some (.type "tuple") := by decide +kernel
theorem bt_dict : bootBuiltins "dict" = some (.type "dict") := by decide +kernel
theorem bt_set : bootBuiltins "set" = some (.type "set") := by decide +kernel
theorem bt_enumerate : bootBuiltins "enumerate" = some (.type "enumerate") := by decide +kernel
theorem bt_range : bootBuiltins "range" = some (.type "range") := by decide +kernel
theorem bt_zip : bootBuiltins "zip" = some (.type "zip") := by decide +kernel
theorem bt_reversed : bootBuiltins "reversed" = some (.type "reversed") := by decide +kernel
theorem bt_ValueError : bootBuiltins "ValueError" = some (.type "ValueError") := by decide +kernel
theorem bt_map : bootBuiltins "map" = some (.type "map") := by decide +kernel
theorem bt_len : bootBuiltins "len" = some (.builtin "len") := by decide +kernel
theorem bt_isinstance : bootBuiltins "isinstance" = some (.builtin "isinstance") := by decide +kernel
theorem bt_all : bootBuiltins "all" = some (.builtin "all") := by decide +kernel
theorem bt_any : bootBuiltins "any" = some (.builtin "any") := by decide +kernel
theorem bt_max : bootBuiltins "max" = some (.builtin "max") := by decide +kernel
theorem bt_min : bootBuiltins "min" = some (.builtin "min") := by decide +kernel
theorem bt_sorted : bootBuiltins "sorted" = some (.builtin "sorted") := by decide +kernel
theorem bt_sum : bootBuiltins "sum" = some (.builtin "sum") := by decide +kernel
theorem bt_abs : bootBuiltins "abs" = some (.builtin "abs") := by decide +kernel
theorem bt_ord : bootBuiltins "ord" = some (.builtin "ord") := by decide +kernel
theorem bt_repr : bootBuiltins "repr" = some (.builtin "repr") := by decide +kernel
theorem meta_VE : PySem.W.kitMeta "ValueError" = true := by decide +kernel
end

/-! ### == of a thing with itself -/
def Own (K : Frag) (H : Hp) (d : DT) (x : V) : Prop := DatOk K H d x ∧ deq d d = true ∧ dep d ≤ 60
theorem scal_self {x : V} (h : flatV x = true) : scal x x = true := by cases x <;> first | rfl | cases h
theorem eq_self {K : Frag} {H : Hp} {Q : VK} {d : DT} {x : V} (o : Own K H d x) (q : Q (.bl true) H) : rEqD K false x x H Q := by
  obtain ⟨h1, h2, h3⟩ := o
  by_cases hf : flatV x = true
  · exact .inl ⟨scal_self hf, by rw [decide_eq_true rfl]; exact q⟩
  · exact .inr ⟨d, d, h1, h1, fun z => hf z.1, h3, by rw [h2]; exact q⟩
theorem ne_self {K : Frag} {H : Hp} {Q : VK} {d : DT} {x : V} (o : Own K H d x) (q : Q (.bl false) H) : rEqD K true x x H Q := by
  obtain ⟨h1, h2, h3⟩ := o
  by_cases hf : flatV x = true
  · exact .inl ⟨scal_self hf, by rw [decide_eq_true rfl]; exact q⟩
  · exact .inr ⟨d, d, h1, h1, fun z => hf z.1, h3, by rw [h2]; exact q⟩
theorem Own.same {K : Frag} {H H' : Hp} {d : DT} {x : V} (o : Own K H d x) (s : Same H H') : Own K H' d x := ⟨s.dat o.1, o.2⟩
theorem SqL.mk {K : Frag} {H : Hp} {a : Addr} {xs : List V} (h : H a = some (.lst xs)) : SqL K H a xs := .inl (.inl h)
theorem SqT.mk {K : Frag} {H : Hp} {a : Addr} {xs : List V} (h : H a = some (.tup xs)) : SqT K H a xs := .inl (.inl h)

theorem cat_of {l b : Addr} {xs zs : List V} {H : Hp} {Q : VK} (h1 : H l = some (.lst xs)) (h2 : H b = some (.lst zs)) (hz : xs.length + zs.length ≤ sizeLine)
    (h : ∀ p H', Same H H' → H p = none → H' p = some (.lst (xs ++ zs)) → Q (.ref p) H') : rCat (.ref l) (.ref b) H Q := ⟨l, b, xs, zs, rfl, rfl, h1, h2, hz, fun p hp => h p _ (same_upd hp) hp upd_same⟩
theorem xo_ne {e C d : Addr} : ¬ (some (xo e C none) = some (xo e C (some d))) := by
  intro z
  have z1 : xo e C none = xo e C (some d) := Option.some.inj z
  unfold xo at z1
  have z2 := HO.ext.inj z1
  have hget : (⟨Array.replicate (e + 1) (xraw C 0), {}⟩ : Heap).get? e = some (xraw C 0) := by
    unfold Heap.get?
    have : (Array.replicate (e + 1) (xraw C 0))[e]? = some (xraw C 0) := by simp
    dsimp only
    rw [this]
  have q := congrFun z2 ⟨Array.replicate (e + 1) (xraw C 0), {}⟩
  have l : ∃ (o : Obj) (t : Addr), (⟨Array.replicate (e + 1) (xraw C 0), {}⟩ : Heap).get? e = some o ∧ o.cls = .ref C ∧ o.dict = none ∧ o.data = .fields #[.ref t, .none, .none, .none, .bool false, .none] := ⟨_, 0, hget, rfl, rfl, rfl⟩
  have r := q.mp l
  obtain ⟨o, t, h1, _, h3, _⟩ := r
  rw [hget] at h1
  cases h1
  cases h3
theorem xo_inj {e C d d' : Addr} (z : some (xo e C (some d)) = some (xo e C (some d'))) : d = d' := by
  have z1 : xo e C (some d) = xo e C (some d') := Option.some.inj z
  unfold xo at z1
  have z2 := HO.ext.inj z1
  generalize eo : ({ cls := .ref C, dict := some d, data := .fields #[.ref 0, .none, .none, .none, .bool false, .none] } : Obj) = ob at *
  have hget : (⟨Array.replicate (e + 1) ob, {}⟩ : Heap).get? e = some ob := by
    unfold Heap.get?
    have : (Array.replicate (e + 1) ob)[e]? = some ob := by simp
    dsimp only
    rw [this, ← eo]
  have q := congrFun z2 ⟨Array.replicate (e + 1) ob, {}⟩
  have r := q.mp ⟨_, 0, hget, by rw [← eo], by rw [← eo], by rw [← eo]⟩
  obtain ⟨o, t, h1, _, h3, _⟩ := r
  rw [hget] at h1
  cases h1
  rw [← eo] at h3
  exact Option.some.inj h3
section
variable {X : Cx} {K : Frag}
theorem op_eqDK (hK : X.K = K) (hu : X.A.units + 64 < cLine) : OpR X (compareOp .Eq) (rEqD K false) := by subst hK; exact op_eqD hu
theorem op_neDK (hK : X.K = K) (hu : X.A.units + 64 < cLine) : OpR X (compareOp .NotEq) (rEqD K true) := by subst hK; exact op_neD hu
theorem ix_listK (hK : X.K = K) : IxR X (rIxL K) := by subst hK; exact ix_list
theorem ix_tupK (hK : X.K = K) : IxR X (rIxT K) := by subst hK; exact ix_tup
theorem sl_listK (hK : X.K = K) : SlR X (rSlL K) := by subst hK; exact sl_list
theorem op_in_seqK (hK : X.K = K) : OpR X (compareOp .In) (rIn K false) := by subst hK; exact op_in_seq
theorem op_notIn_seqK (hK : X.K = K) : OpR X (compareOp .NotIn) (rIn K true) := by subst hK; exact op_notIn_seq
theorem call_lenK (hK : X.K = K) : CallR X (.builtin "len") (fun xs H Q => ∃ x n, xs = [x] ∧ LenV K x H n ∧ Q (.int n) H) := by subst hK; exact call_len
theorem call_isinstK (hK : X.K = K) : CallR X (.builtin "isinstance") (fun xs H Q => ∃ x c t k b, xs = [x, c] ∧ clsV c = some k ∧ TyX K H x t ∧ PySem.W.kitOne K t k = some b ∧ Q (.bl b) H) := by subst hK; exact call_isinst
theorem call_list_ofK (hK : X.K = K) : CallR X (.type "list") (fun xs H Q => ∃ p ys, xs = [.ref p] ∧ (SqL K H p ys ∨ SqT K H p ys) ∧ ∀ l, H l = none → Q (.ref l) (upd H l (.lst ys))) := by subst hK; exact call_list_of
theorem call_tuple_ofK (hK : X.K = K) : CallR X (.type "tuple") (fun xs H Q => ∃ p ys, xs = [.ref p] ∧ ((SqL K H p ys ∧ ∀ l, H l = none → Q (.ref l) (upd H l (.tup ys))) ∨ (SqT K H p ys ∧ Q (.ref p) H))) := by subst hK; exact call_tuple_of
theorem pe_xfldK {e : Expr} {f : Str} {pos : Pos} {ta : TE} (hK : X.K = K) (he : PE X e ta) (hb : attributeBase e f X.env (eval e X.env) = eval e X.env) : PE X (.Attribute e f pos) (tXFld K ta f) := by subst hK; exact pe_xfld he hb
theorem pe_fldK {e : Expr} {f : Str} {pos : Pos} {ta : TE} (hK : X.K = K) (he : PE X e ta) (hb : attributeBase e f X.env (eval e X.env) = eval e X.env) : PE X (.Attribute e f pos) (tFld K ta f) := by subst hK; exact pe_fld he hb
theorem pi_listK {tg l : Expr} {tl : TE} (hK : X.K = K) (hl : PE X l tl) : PI X tg l (iList K tl) := by subst hK; exact pi_list hl
theorem pi_tupK {tg l : Expr} {tl : TE} (hK : X.K = K) (hl : PE X l tl) : PI X tg l (iTup K tl) := by subst hK; exact pi_tup hl
end
theorem cxK {CX : CXT} {P : Program} {w : World} {K : PySem.W.Frag} {mg : Str → Option Value} {base : Heap} {N : List Str} {qual : Str} {scope : Scope} {f : Addr} {cd : Value} {A : Around} {outer : List Env} {s : Shared} {H : Hp} {E : XK} :
    (cxOf CX P w K mg base N qual scope f cd A outer s H E).K = K := rfl
theorem bxK {X : Cx} {sc : Scope} {N : List Str} {fp : List Addr} {s₀ : Shared} {H : Hp} {pn : List (Addr × Obj)} : (bx X sc N fp s₀ H pn).K = X.K := rfl
end L2

set_option Elab.async false
set_option linter.all false
set_option maxRecDepth 100000
/-! LOOPS and comprehensions in short -/
namespace L2
open PySem PySem.Spec PyProof.Rows
open PySem.W (Frag)

def ForRun (J : It) (g : TG) (tb : TS) (D : Ends) (σ : St) (H : Hp) : Prop := ∃ W : Nat → Nat → St → Hp → Prop, (∃ m, W 0 m σ H) ∧ ∀ i m σ H, W i m σ H →
  (J.stop i H ∧ D.nx σ H) ∨ (J.go i H ∧ ∃ N : St → Hp → Prop, (∀ σ' H', N σ' H' → ∃ m', m' < m ∧ W (i + 1) m' σ' H') ∧ ∀ x H', J.yld i H x H' → g x σ H' fun σ2 H2 => tb { D with nx := N, ct := N, bk := D.nx } σ2 H2)
theorem q_for {wi : TI} {g : TG} {tb : TS} {D : Ends} {σ : St} {H : Hp} : tFor wi g tb D σ H = wi σ H fun J H1 => ForRun J g tb D σ H1 := rfl
def CompRun (J : It) (τ0 : St) (g : TG) (tt : TT) (te : TE) (H1 : Hp) (Q : VK) : Prop := ∀ acc, H1 acc = none → ∃ W : Nat → Nat → St → Hp → Prop, (∃ m, W 0 m τ0 (upd H1 acc (.lst []))) ∧
  ∀ i m τ H2, W i m τ H2 → (J.stop i H2 ∧ Q (.ref acc) H2) ∨ (J.go i H2 ∧ ∃ Nx : St → Hp → Prop, (∀ τ' H', Nx τ' H' → ∃ m', m' < m ∧ W (i + 1) m' τ' H') ∧
    ∀ x H3, J.yld i H2 x H3 → g x τ H3 fun τ2 H4 => tt τ2 H4 fun b H5 => if b = true then te τ2 H5 fun y H6 => ∃ ys, H6 acc = some (.lst ys) ∧ ys.length < sizeLine ∧ Nx τ2 (upd H6 acc (.lst (ys ++ [y]))) else Nx τ2 H5)
theorem q_comp {ix : List (Option Nat)} {wi : TI} {g : TG} {tt : TT} {te : TE} {σ : St} {H : Hp} {Q : VK} : tComp ix wi g tt te σ H Q = wi σ H fun J H1 => CompRun J (pick ix σ) g tt te H1 Q := rfl

section
variable {g : TG} {tb : TS} {D : Ends} {σ : St} {H : Hp} {K : Frag} {a : Addr} {xs : List V}
theorem ForRun.list (Pv : Nat → St → Hp → Prop) (h0 : Pv 0 σ H) (hl : ∀ i σ H, i ≤ xs.length → Pv i σ H → SqL K H a xs)
    (hs : ∀ i x σ H, xs[i]? = some x → Pv i σ H → g x σ H fun σ2 H2 => tb { D with nx := Pv (i + 1), ct := Pv (i + 1), bk := D.nx } σ2 H2) (hd : ∀ σ H, Pv xs.length σ H → D.nx σ H) : ForRun (Itl K a) g tb D σ H :=
  for_list Pv h0 hl hs hd
theorem ForRun.enum (Pv : Nat → St → Hp → Prop) (h0 : Pv 0 σ H) (hl : ∀ i σ H, i ≤ xs.length → Pv i σ H → SqL K H a xs)
    (hs : ∀ i x p σ H, xs[i]? = some x → Pv i σ H → H p = none → g (.ref p) σ (upd H p (.tup [.int i, x])) fun σ2 H2 => tb { D with nx := Pv (i + 1), ct := Pv (i + 1), bk := D.nx } σ2 H2) (hd : ∀ σ H, Pv xs.length σ H → D.nx σ H) :
    ForRun (Ite K a) g tb D σ H := for_enum Pv h0 hl hs hd
theorem ForRun.range {lo : Int} {n : Nat} (Pv : Nat → St → Hp → Prop) (h0 : Pv 0 σ H)
    (hs : ∀ i σ H, i < n → Pv i σ H → g (.int (lo + i)) σ H fun σ2 H2 => tb { D with nx := Pv (i + 1), ct := Pv (i + 1), bk := D.nx } σ2 H2) (hd : ∀ σ H, Pv n σ H → D.nx σ H) :
    ForRun (Itr lo n) g tb D σ H := for_range Pv h0 hs hd
theorem ForRun.text {l : List Nat} (Pv : Nat → St → Hp → Prop) (h0 : Pv 0 σ H)
    (hs : ∀ i c σ H, l[i]? = some c → Pv i σ H → g (tx [c]) σ H fun σ2 H2 => tb { D with nx := Pv (i + 1), ct := Pv (i + 1), bk := D.nx } σ2 H2) (hd : ∀ σ H, Pv l.length σ H → D.nx σ H) :
    ForRun (Its l) g tb D σ H := for_text Pv h0 hs hd
end

section
variable {tt : TT} {te : TE} {Q : VK} {τ0 : St} {H : Hp}
/-- the turns' values by the turn: v i; the test b i, the element f i; the block's names are τ0 but for the slot 0 -/
theorem CompRun.gen {J : It} {n : Nat} (v : Nat → V) (b : Nat → Bool) (f : Nat → V) (hz : n ≤ 1000) (hgo : ∀ i H', i < n → Same H H' → J.go i H') (hst : ∀ H', Same H H' → J.stop n H') (hy : ∀ i H' x H3, i < n → Same H H' → J.yld i H' x H3 → H3 = H' ∧ x = v i)
    (ht : ∀ i H' Q', i < n → Same H H' → (∀ H'', Same H' H'' → Q' (b i) H'') → tt (τ0.set 0 (some (v i))) H' Q')
    (he : ∀ i H' Q', i < n → b i = true → Same H H' → (∀ H'', Same H' H'' → Q' (f i) H'') → te (τ0.set 0 (some (v i))) H' Q')
    (hQ : ∀ p H', Same H H' → H p = none → H' p = some (.lst (((List.range n).filter b).map f)) → Q (.ref p) H') : CompRun J τ0 (gName 0) tt te H Q := by
  intro acc ha
  refine ⟨fun i m τ H2 => i ≤ n ∧ m = n - i ∧ (∀ w : Option V, τ.set 0 w = τ0.set 0 w) ∧ Same H H2 ∧ H2 acc = some (.lst (((List.range i).filter b).map f)), ⟨n, Nat.zero_le _, rfl, fun _ => rfl, same_upd ha, upd_same⟩, ?_⟩
  rintro i m τ H2 ⟨hi, rfl, hτ, hs, hacc⟩
  by_cases hlt : i < n
  · refine .inr ⟨hgo i H2 hlt hs, fun τ' H' => (∀ w : Option V, τ'.set 0 w = τ0.set 0 w) ∧ Same H H' ∧ H' acc = some (.lst (((List.range (i + 1)).filter b).map f)), fun τ' H' q => ⟨n - (i + 1), by omega, hlt, rfl, q⟩, fun x H3 y => ?_⟩
    obtain ⟨rfl, rfl⟩ := hy i H2 x H3 hlt hs y
    show tt (τ.set 0 (some (v i))) _ _
    rw [hτ]
    have hτ' : ∀ w : Option V, (τ0.set 0 (some (v i))).set 0 w = τ0.set 0 w := fun w => by rw [List.set_set]
    refine ht i _ _ hlt hs fun H4 s4 => ?_
    cases hb : b i with
    | false =>
      rw [if_neg Bool.false_ne_true]
      refine ⟨hτ', hs.trans s4, ?_⟩
      rw [s4 _ _ hacc, List.range_succ, List.filter_append]
      simp [hb]
    | true =>
      rw [if_pos rfl]
      refine he i _ _ hlt hb (hs.trans s4) fun H5 s5 => ?_
      refine ⟨_, s5 _ _ (s4 _ _ hacc), ?_, hτ', ?_, ?_⟩
      · rw [List.length_map]
        have := List.length_filter_le b (List.range i)
        rw [List.length_range] at this
        exact small1000 (by omega)
      · intro c o hc
        have : c ≠ acc := ne_of_none hc ha
        rw [upd_ne this]
        exact s5 _ _ (s4 _ _ (hs _ _ hc))
      · rw [upd_same, List.range_succ, List.filter_append]
        simp [hb]
  · have e : i = n := by omega
    subst e
    exact .inl ⟨hst H2 hs, hQ acc H2 hs ha hacc⟩
theorem CompRun.range {lo : Int} {n : Nat} (b : Nat → Bool) (f : Nat → V) (hz : n ≤ 1000)
    (ht : ∀ (i : Nat) H' Q', i < n → Same H H' → (∀ H'', Same H' H'' → Q' (b i) H'') → tt (τ0.set 0 (some (.int (lo + i)))) H' Q')
    (he : ∀ (i : Nat) H' Q', i < n → b i = true → Same H H' → (∀ H'', Same H' H'' → Q' (f i) H'') → te (τ0.set 0 (some (.int (lo + i)))) H' Q')
    (hQ : ∀ p H', Same H H' → H p = none → H' p = some (.lst (((List.range n).filter b).map f)) → Q (.ref p) H') : CompRun (Itr lo n) τ0 (gName 0) tt te H Q :=
  .gen (fun i => .int (lo + i)) b f hz (fun i _ h _ => h) (fun _ _ => Nat.le_refl _) (fun i H' x H3 _ _ y => y) ht he hQ
theorem filter_all {n : Nat} {f : Nat → V} : ((List.range n).filter fun _ => true).map f = (List.range n).map f := by rw [List.filter_eq_self.mpr (fun _ _ => rfl)]
/-- no test -/
theorem CompRun.rangeA {lo : Int} {n : Nat} (f : Nat → V) (hz : n ≤ 1000)
    (he : ∀ (i : Nat) H' Q', i < n → Same H H' → (∀ H'', Same H' H'' → Q' (f i) H'') → te (τ0.set 0 (some (.int (lo + i)))) H' Q')
    (hQ : ∀ p H', Same H H' → H p = none → H' p = some (.lst ((List.range n).map f)) → Q (.ref p) H') : CompRun (Itr lo n) τ0 (gName 0) tAll te H Q :=
  .range (fun _ => true) f hz (fun i H' Q' _ _ q => q H' (Same.refl _)) (fun i H' Q' hi _ => he i H' Q' hi) fun p H' s n e => hQ p H' s n (by rw [e, filter_all])
theorem CompRun.text {l : List Nat} (b : Nat → Bool) (f : Nat → V) (hz : l.length ≤ 1000)
    (ht : ∀ i H' Q' (h : i < l.length), Same H H' → (∀ H'', Same H' H'' → Q' (b i) H'') → tt (τ0.set 0 (some (tx [l.getD i 0]))) H' Q')
    (he : ∀ i H' Q' (h : i < l.length), b i = true → Same H H' → (∀ H'', Same H' H'' → Q' (f i) H'') → te (τ0.set 0 (some (tx [l.getD i 0]))) H' Q')
    (hQ : ∀ p H', Same H H' → H p = none → H' p = some (.lst (((List.range l.length).filter b).map f)) → Q (.ref p) H') : CompRun (Its l) τ0 (gName 0) tt te H Q :=
  .gen (fun i => tx [l.getD i 0]) b f hz (fun i _ h _ => h) (fun _ _ => Nat.le_refl _) (fun i H' x H3 _ _ y => by
    obtain ⟨e, c, hc, rfl⟩ := y
    refine ⟨e, ?_⟩
    rw [List.getD_eq_getElem?_getD, hc]; rfl) ht he hQ
theorem CompRun.list {K : Frag} {a : Addr} {xs : List V} (b : Nat → Bool) (f : Nat → V) (hz : xs.length ≤ 1000) (hx : SqL K H a xs)
    (ht : ∀ i H' Q' (h : i < xs.length), Same H H' → (∀ H'', Same H' H'' → Q' (b i) H'') → tt (τ0.set 0 (some (xs.getD i .non))) H' Q')
    (he : ∀ i H' Q' (h : i < xs.length), b i = true → Same H H' → (∀ H'', Same H' H'' → Q' (f i) H'') → te (τ0.set 0 (some (xs.getD i .non))) H' Q')
    (hQ : ∀ p H', Same H H' → H p = none → H' p = some (.lst (((List.range xs.length).filter b).map f)) → Q (.ref p) H') : CompRun (Itl K a) τ0 (gName 0) tt te H Q :=
  .gen (fun i => xs.getD i .non) b f hz (fun i H' h s => ⟨xs, xs[i], s.seq hx, by simp [h]⟩) (fun H' s => ⟨xs, s.seq hx, Nat.le_refl _⟩) (fun i H' x H3 h s y => by
    obtain ⟨e, y⟩ := y
    refine ⟨e, ?_⟩
    rw [List.getD_eq_getElem?_getD, y xs (s.seq hx)]; rfl) ht he hQ
end
theorem deqs_self : ∀ {vs : List V}, vs.all flatV = true → deqs (vs.map DT.f) (vs.map DT.f) = true
  | [], _ => by unfold deqs; rfl
  | v :: vs, h => by
    rw [List.all_cons, Bool.and_eq_true] at h
    rw [List.map_cons]
    unfold deqs
    rw [deqs_self h.2]
    unfold deq
    rw [eqV_self h.1]
    rfl
theorem ownF {K : Frag} {H : Hp} {v : V} (h : flatV v = true) : Own K H (.f v) v := ⟨datF h, by unfold deq; exact eqV_self h, by unfold dep; exact Nat.zero_le _⟩
theorem ownL {K : Frag} {H : Hp} {a : Addr} {vs : List V} (h : SqL K H a vs) (hf : vs.all flatV = true) : Own K H (.l (vs.map DT.f)) (.ref a) := ⟨datL h hf, by unfold deq; exact deqs_self hf, by unfold dep; rw [deps_flat]; decide⟩
theorem ownT {K : Frag} {H : Hp} {a : Addr} {vs : List V} (h : SqT K H a vs) (hf : vs.all flatV = true) : Own K H (.t (vs.map DT.f)) (.ref a) := ⟨datT h hf, by unfold deq; exact deqs_self hf, by unfold dep; rw [deps_flat]; decide⟩
/-- two lists of the same flat values -/
theorem neL_same {K : Frag} {H : Hp} {Q : VK} {a b : Addr} {vs : List V} (h1 : SqL K H a vs) (h2 : SqL K H b vs) (hf : vs.all flatV = true) (q : Q (.bl false) H) : rEqD K true (.ref a) (.ref b) H Q :=
  .inr ⟨_, _, datL h1 hf, datL h2 hf, fun z => Bool.false_ne_true z.1, (ownL h1 hf).2.2, by rw [(ownL h1 hf).2.1]; exact q⟩
theorem eqL_same {K : Frag} {H : Hp} {Q : VK} {a b : Addr} {vs : List V} (h1 : SqL K H a vs) (h2 : SqL K H b vs) (hf : vs.all flatV = true) (q : Q (.bl true) H) : rEqD K false (.ref a) (.ref b) H Q :=
  .inr ⟨_, _, datL h1 hf, datL h2 hf, fun z => Bool.false_ne_true z.1, (ownL h1 hf).2.2, by rw [(ownL h1 hf).2.1]; exact q⟩
end L2

set_option Elab.async false
set_option linter.all false
set_option maxRecDepth 100000
namespace Pk02
open PySem L2
/-! ### the text by places -/
def top (i : Nat) : Stmt := PySem.Challenge.pw_lackword_k02_refusals.main.body.getD i (.Pass ⟨0, 0, 0, 0⟩)
abbrev s_cell_at : Stmt := top 21
abbrev s_made : Stmt := top 22
abbrev s_lkinds : Stmt := top 23
abbrev s_under : Stmt := top 24
abbrev s_fields : Stmt := top 25
abbrev s_law : Stmt := top 26
abbrev s_NoWord_init : Stmt := inClass (top 2) 0
abbrev s_NoLength_init : Stmt := inClass (top 3) 0
abbrev s_NoPlace_init : Stmt := inClass (top 4) 0
abbrev s_NoRoom_init : Stmt := inClass (top 5) 0
abbrev s_NoRing_init : Stmt := inClass (top 6) 0
abbrev s_NoList_init : Stmt := inClass (top 7) 0
abbrev s_TooLong_init : Stmt := inClass (top 8) 0
abbrev s_Inside_init : Stmt := inClass (top 9) 0
abbrev s_Split_init : Stmt := inClass (top 10) 0
abbrev s_Endless_init : Stmt := inClass (top 11) 0
abbrev s_NoName_init : Stmt := inClass (top 12) 0
abbrev s_NameThere_init : Stmt := inClass (top 13) 0
/-! ### what stands behind the top -/
structure Ad where
  c_LackError : Addr
  c_NoWord : Addr
  c_NoLength : Addr
  c_NoPlace : Addr
  c_NoRoom : Addr
  c_NoRing : Addr
  c_NoList : Addr
  c_TooLong : Addr
  c_Inside : Addr
  c_Split : Addr
  c_Endless : Addr
  c_NoName : Addr
  c_NameThere : Addr
  c_NoKinds : Addr
  c_Full : Addr
  c_Bare : Addr
  c_NoBack : Addr
  c_Unlike : Addr
  c_NoLine : Addr
  g_NoWord_init : Addr
  e_NoWord_init : FuncData
  g_NoLength_init : Addr
  e_NoLength_init : FuncData
  g_NoPlace_init : Addr
  e_NoPlace_init : FuncData
  g_NoRoom_init : Addr
  e_NoRoom_init : FuncData
  g_NoRing_init : Addr
  e_NoRing_init : FuncData
  g_NoList_init : Addr
  e_NoList_init : FuncData
  g_TooLong_init : Addr
  e_TooLong_init : FuncData
  g_Inside_init : Addr
  e_Inside_init : FuncData
  g_Split_init : Addr
  e_Split_init : FuncData
  g_Endless_init : Addr
  e_Endless_init : FuncData
  g_NoName_init : Addr
  e_NoName_init : FuncData
  g_NameThere_init : Addr
  e_NameThere_init : FuncData
  f_cell_at : Addr
  d_cell_at : FuncData
  f_made : Addr
  d_made : FuncData
  f_lkinds : Addr
  d_lkinds : FuncData
  f_under : Addr
  d_under : FuncData
  f_fields : Addr
  d_fields : FuncData
  f_law : Addr
  d_law : FuncData
structure Txt (K : PySem.W.Frag) (mg : Str → Option Value) (a : Ad) : Prop where
  m_cell_at : mg "_law_cell_at" = some (.ref a.f_cell_at)
  f_cell_at : Fun K "_law_cell_at" "_law_cell_at" s_cell_at a.f_cell_at a.d_cell_at
  b_cell_at : Binds K a.d_cell_at ["_law_script", "_law_k"] []
  m_made : mg "_law_made" = some (.ref a.f_made)
  f_made : Fun K "_law_made" "_law_made" s_made a.f_made a.d_made
  b_made : Binds K a.d_made ["_law_one", "_law_other"] []
  m_lkinds : mg "_law_kinds" = some (.ref a.f_lkinds)
  f_lkinds : Fun K "_law_kinds" "_law_kinds" s_lkinds a.f_lkinds a.d_lkinds
  b_lkinds : Binds K a.d_lkinds ["_law_e"] []
  m_under : mg "_law_under" = some (.ref a.f_under)
  f_under : Fun K "_law_under" "_law_under" s_under a.f_under a.d_under
  b_under : Binds K a.d_under ["_law_e"] []
  m_fields : mg "_law_fields" = some (.ref a.f_fields)
  f_fields : Fun K "_law_fields" "_law_fields" s_fields a.f_fields a.d_fields
  b_fields : Binds K a.d_fields ["_law_one", "_law_other"] []
  m_law : mg "law" = some (.ref a.f_law)
  f_law : Fun K "law" "law" s_law a.f_law a.d_law
  b_law : Binds K a.d_law ["_law_script"] []
  m_LackError : mg "LackError" = some (.ref a.c_LackError)
  x_LackError : Xm K a.c_LackError
  xi_LackError : Xi K a.c_LackError
  k_LackError : ClsOk K a.c_LackError [.ref a.c_LackError, .type "ValueError", .type "Exception", .type "BaseException", .type "object"]
  i_LackError : PySem.W.findIn K (.ref a.c_LackError) "__init__" = some (some (.builtin "ValueError.__init__"))
  r_LackError : ClsRead K a.c_LackError "__init__" (.builtin "ValueError.__init__")
  m_NoWord : mg "NoWord" = some (.ref a.c_NoWord)
  x_NoWord : Xm K a.c_NoWord
  xi_NoWord : Xi K a.c_NoWord
  k_NoWord : ClsOk K a.c_NoWord [.ref a.c_NoWord, .ref a.c_LackError, .type "ValueError", .type "Exception", .type "BaseException", .type "object"]
  i_NoWord : PySem.W.findIn K (.ref a.c_NoWord) "__init__" = some (some (.ref a.g_NoWord_init))
  fn_NoWord : PySem.W.isFn K (.ref a.g_NoWord_init) = true
  n_NoWord_word : NoAttr K a.c_NoWord "word"
  fi_NoWord : Fun K "__init__" "NoWord.__init__" s_NoWord_init a.g_NoWord_init a.e_NoWord_init
  b_NoWord : Binds K a.e_NoWord_init ["self", "word"] []
  m_NoLength : mg "NoLength" = some (.ref a.c_NoLength)
  x_NoLength : Xm K a.c_NoLength
  xi_NoLength : Xi K a.c_NoLength
  k_NoLength : ClsOk K a.c_NoLength [.ref a.c_NoLength, .ref a.c_LackError, .type "ValueError", .type "Exception", .type "BaseException", .type "object"]
  i_NoLength : PySem.W.findIn K (.ref a.c_NoLength) "__init__" = some (some (.ref a.g_NoLength_init))
  fn_NoLength : PySem.W.isFn K (.ref a.g_NoLength_init) = true
  n_NoLength_length : NoAttr K a.c_NoLength "length"
  fi_NoLength : Fun K "__init__" "NoLength.__init__" s_NoLength_init a.g_NoLength_init a.e_NoLength_init
  b_NoLength : Binds K a.e_NoLength_init ["self", "length"] []
  m_NoPlace : mg "NoPlace" = some (.ref a.c_NoPlace)
  x_NoPlace : Xm K a.c_NoPlace
  xi_NoPlace : Xi K a.c_NoPlace
  k_NoPlace : ClsOk K a.c_NoPlace [.ref a.c_NoPlace, .ref a.c_LackError, .type "ValueError", .type "Exception", .type "BaseException", .type "object"]
  i_NoPlace : PySem.W.findIn K (.ref a.c_NoPlace) "__init__" = some (some (.ref a.g_NoPlace_init))
  fn_NoPlace : PySem.W.isFn K (.ref a.g_NoPlace_init) = true
  n_NoPlace_place : NoAttr K a.c_NoPlace "place"
  fi_NoPlace : Fun K "__init__" "NoPlace.__init__" s_NoPlace_init a.g_NoPlace_init a.e_NoPlace_init
  b_NoPlace : Binds K a.e_NoPlace_init ["self", "place"] []
  m_NoRoom : mg "NoRoom" = some (.ref a.c_NoRoom)
  x_NoRoom : Xm K a.c_NoRoom
  xi_NoRoom : Xi K a.c_NoRoom
  k_NoRoom : ClsOk K a.c_NoRoom [.ref a.c_NoRoom, .ref a.c_LackError, .type "ValueError", .type "Exception", .type "BaseException", .type "object"]
  i_NoRoom : PySem.W.findIn K (.ref a.c_NoRoom) "__init__" = some (some (.ref a.g_NoRoom_init))
  fn_NoRoom : PySem.W.isFn K (.ref a.g_NoRoom_init) = true
  n_NoRoom_room : NoAttr K a.c_NoRoom "room"
  fi_NoRoom : Fun K "__init__" "NoRoom.__init__" s_NoRoom_init a.g_NoRoom_init a.e_NoRoom_init
  b_NoRoom : Binds K a.e_NoRoom_init ["self", "room"] []
  m_NoRing : mg "NoRing" = some (.ref a.c_NoRing)
  x_NoRing : Xm K a.c_NoRing
  xi_NoRing : Xi K a.c_NoRing
  k_NoRing : ClsOk K a.c_NoRing [.ref a.c_NoRing, .ref a.c_LackError, .type "ValueError", .type "Exception", .type "BaseException", .type "object"]
  i_NoRing : PySem.W.findIn K (.ref a.c_NoRing) "__init__" = some (some (.ref a.g_NoRing_init))
  fn_NoRing : PySem.W.isFn K (.ref a.g_NoRing_init) = true
  n_NoRing_thing : NoAttr K a.c_NoRing "thing"
  fi_NoRing : Fun K "__init__" "NoRing.__init__" s_NoRing_init a.g_NoRing_init a.e_NoRing_init
  b_NoRing : Binds K a.e_NoRing_init ["self", "thing"] []
  m_NoList : mg "NoList" = some (.ref a.c_NoList)
  x_NoList : Xm K a.c_NoList
  xi_NoList : Xi K a.c_NoList
  k_NoList : ClsOk K a.c_NoList [.ref a.c_NoList, .ref a.c_LackError, .type "ValueError", .type "Exception", .type "BaseException", .type "object"]
  i_NoList : PySem.W.findIn K (.ref a.c_NoList) "__init__" = some (some (.ref a.g_NoList_init))
  fn_NoList : PySem.W.isFn K (.ref a.g_NoList_init) = true
  n_NoList_word : NoAttr K a.c_NoList "word"
  fi_NoList : Fun K "__init__" "NoList.__init__" s_NoList_init a.g_NoList_init a.e_NoList_init
  b_NoList : Binds K a.e_NoList_init ["self", "word"] []
  m_TooLong : mg "TooLong" = some (.ref a.c_TooLong)
  x_TooLong : Xm K a.c_TooLong
  xi_TooLong : Xi K a.c_TooLong
  k_TooLong : ClsOk K a.c_TooLong [.ref a.c_TooLong, .ref a.c_LackError, .type "ValueError", .type "Exception", .type "BaseException", .type "object"]
  i_TooLong : PySem.W.findIn K (.ref a.c_TooLong) "__init__" = some (some (.ref a.g_TooLong_init))
  fn_TooLong : PySem.W.isFn K (.ref a.g_TooLong_init) = true
  n_TooLong_word : NoAttr K a.c_TooLong "word"
  fi_TooLong : Fun K "__init__" "TooLong.__init__" s_TooLong_init a.g_TooLong_init a.e_TooLong_init
  b_TooLong : Binds K a.e_TooLong_init ["self", "word"] []
  m_Inside : mg "Inside" = some (.ref a.c_Inside)
  x_Inside : Xm K a.c_Inside
  xi_Inside : Xi K a.c_Inside
  k_Inside : ClsOk K a.c_Inside [.ref a.c_Inside, .ref a.c_LackError, .type "ValueError", .type "Exception", .type "BaseException", .type "object"]
  i_Inside : PySem.W.findIn K (.ref a.c_Inside) "__init__" = some (some (.ref a.g_Inside_init))
  fn_Inside : PySem.W.isFn K (.ref a.g_Inside_init) = true
  n_Inside_one : NoAttr K a.c_Inside "one"
  n_Inside_other : NoAttr K a.c_Inside "other"
  fi_Inside : Fun K "__init__" "Inside.__init__" s_Inside_init a.g_Inside_init a.e_Inside_init
  b_Inside : Binds K a.e_Inside_init ["self", "one", "other"] []
  m_Split : mg "Split" = some (.ref a.c_Split)
  x_Split : Xm K a.c_Split
  xi_Split : Xi K a.c_Split
  k_Split : ClsOk K a.c_Split [.ref a.c_Split, .ref a.c_LackError, .type "ValueError", .type "Exception", .type "BaseException", .type "object"]
  i_Split : PySem.W.findIn K (.ref a.c_Split) "__init__" = some (some (.ref a.g_Split_init))
  fn_Split : PySem.W.isFn K (.ref a.g_Split_init) = true
  n_Split_one : NoAttr K a.c_Split "one"
  n_Split_other : NoAttr K a.c_Split "other"
  fi_Split : Fun K "__init__" "Split.__init__" s_Split_init a.g_Split_init a.e_Split_init
  b_Split : Binds K a.e_Split_init ["self", "one", "other"] []
  m_Endless : mg "Endless" = some (.ref a.c_Endless)
  x_Endless : Xm K a.c_Endless
  xi_Endless : Xi K a.c_Endless
  k_Endless : ClsOk K a.c_Endless [.ref a.c_Endless, .ref a.c_LackError, .type "ValueError", .type "Exception", .type "BaseException", .type "object"]
  i_Endless : PySem.W.findIn K (.ref a.c_Endless) "__init__" = some (some (.ref a.g_Endless_init))
  fn_Endless : PySem.W.isFn K (.ref a.g_Endless_init) = true
  n_Endless_head : NoAttr K a.c_Endless "head"
  n_Endless_lap : NoAttr K a.c_Endless "lap"
  fi_Endless : Fun K "__init__" "Endless.__init__" s_Endless_init a.g_Endless_init a.e_Endless_init
  b_Endless : Binds K a.e_Endless_init ["self", "head", "lap"] []
  m_NoName : mg "NoName" = some (.ref a.c_NoName)
  x_NoName : Xm K a.c_NoName
  xi_NoName : Xi K a.c_NoName
  k_NoName : ClsOk K a.c_NoName [.ref a.c_NoName, .ref a.c_LackError, .type "ValueError", .type "Exception", .type "BaseException", .type "object"]
  i_NoName : PySem.W.findIn K (.ref a.c_NoName) "__init__" = some (some (.ref a.g_NoName_init))
  fn_NoName : PySem.W.isFn K (.ref a.g_NoName_init) = true
  n_NoName_name : NoAttr K a.c_NoName "name"
  fi_NoName : Fun K "__init__" "NoName.__init__" s_NoName_init a.g_NoName_init a.e_NoName_init
  b_NoName : Binds K a.e_NoName_init ["self", "name"] []
  m_NameThere : mg "NameThere" = some (.ref a.c_NameThere)
  x_NameThere : Xm K a.c_NameThere
  xi_NameThere : Xi K a.c_NameThere
  k_NameThere : ClsOk K a.c_NameThere [.ref a.c_NameThere, .ref a.c_LackError, .type "ValueError", .type "Exception", .type "BaseException", .type "object"]
  i_NameThere : PySem.W.findIn K (.ref a.c_NameThere) "__init__" = some (some (.ref a.g_NameThere_init))
  fn_NameThere : PySem.W.isFn K (.ref a.g_NameThere_init) = true
  n_NameThere_name : NoAttr K a.c_NameThere "name"
  fi_NameThere : Fun K "__init__" "NameThere.__init__" s_NameThere_init a.g_NameThere_init a.e_NameThere_init
  b_NameThere : Binds K a.e_NameThere_init ["self", "name"] []
  m_NoKinds : mg "NoKinds" = some (.ref a.c_NoKinds)
  x_NoKinds : Xm K a.c_NoKinds
  xi_NoKinds : Xi K a.c_NoKinds
  k_NoKinds : ClsOk K a.c_NoKinds [.ref a.c_NoKinds, .ref a.c_LackError, .type "ValueError", .type "Exception", .type "BaseException", .type "object"]
  i_NoKinds : PySem.W.findIn K (.ref a.c_NoKinds) "__init__" = some (some (.builtin "ValueError.__init__"))
  m_Full : mg "Full" = some (.ref a.c_Full)
  x_Full : Xm K a.c_Full
  xi_Full : Xi K a.c_Full
  k_Full : ClsOk K a.c_Full [.ref a.c_Full, .ref a.c_LackError, .type "ValueError", .type "Exception", .type "BaseException", .type "object"]
  i_Full : PySem.W.findIn K (.ref a.c_Full) "__init__" = some (some (.builtin "ValueError.__init__"))
  m_Bare : mg "Bare" = some (.ref a.c_Bare)
  x_Bare : Xm K a.c_Bare
  xi_Bare : Xi K a.c_Bare
  k_Bare : ClsOk K a.c_Bare [.ref a.c_Bare, .ref a.c_LackError, .type "ValueError", .type "Exception", .type "BaseException", .type "object"]
  i_Bare : PySem.W.findIn K (.ref a.c_Bare) "__init__" = some (some (.builtin "ValueError.__init__"))
  m_NoBack : mg "NoBack" = some (.ref a.c_NoBack)
  x_NoBack : Xm K a.c_NoBack
  xi_NoBack : Xi K a.c_NoBack
  k_NoBack : ClsOk K a.c_NoBack [.ref a.c_NoBack, .ref a.c_LackError, .type "ValueError", .type "Exception", .type "BaseException", .type "object"]
  i_NoBack : PySem.W.findIn K (.ref a.c_NoBack) "__init__" = some (some (.builtin "ValueError.__init__"))
  m_Unlike : mg "Unlike" = some (.ref a.c_Unlike)
  x_Unlike : Xm K a.c_Unlike
  xi_Unlike : Xi K a.c_Unlike
  k_Unlike : ClsOk K a.c_Unlike [.ref a.c_Unlike, .ref a.c_LackError, .type "ValueError", .type "Exception", .type "BaseException", .type "object"]
  i_Unlike : PySem.W.findIn K (.ref a.c_Unlike) "__init__" = some (some (.builtin "ValueError.__init__"))
  m_NoLine : mg "NoLine" = some (.ref a.c_NoLine)
  x_NoLine : Xm K a.c_NoLine
  xi_NoLine : Xi K a.c_NoLine
  k_NoLine : ClsOk K a.c_NoLine [.ref a.c_NoLine, .ref a.c_LackError, .type "ValueError", .type "Exception", .type "BaseException", .type "object"]
  i_NoLine : PySem.W.findIn K (.ref a.c_NoLine) "__init__" = some (some (.builtin "ValueError.__init__"))
  nd : [a.c_LackError, a.c_NoKinds, a.c_NoWord, a.c_Full, a.c_Bare, a.c_NoBack, a.c_NoLength, a.c_NoPlace, a.c_NoRoom, a.c_NoRing, a.c_NoList, a.c_Inside, a.c_Endless, a.c_TooLong, a.c_Split, a.c_Unlike, a.c_NoName, a.c_NameThere, a.c_NoLine].Nodup
  z_len : mg "len" = none
  z_range : mg "range" = none
  z_enumerate : mg "enumerate" = none
  z_isinstance : mg "isinstance" = none
  z_ValueError : mg "ValueError" = none
  bl : ∀ (s : Shared) (u : Value), BindsTo s a.d_law ⟨[u], []⟩ [("_law_script", u)]
theorem txt_mk {K : PySem.W.Frag} {h : Heap} {mg : Str → Option Value} (X : K.In h) (G : h.Ns mainGlobals mg) {c_LackError : Addr} {cd_LackError : ClassData} {nm_LackError qn_LackError : Str} {N_LackError : Addr} {bs_LackError bm_LackError : List Value} {hdct_LackError : Bool} {sn_LackError : List Str} {sub_LackError : List Value} {ab_LackError : Bool} {col_LackError : Option Bool} {dd_LackError : Option Addr} {k0_LackError k1_LackError k2_LackError k3_LackError k5_LackError : Option Value} {c_NoWord : Addr} {cd_NoWord : ClassData} {nm_NoWord qn_NoWord : Str} {N_NoWord : Addr} {bs_NoWord bm_NoWord : List Value} {hdct_NoWord : Bool} {sn_NoWord : List Str} {sub_NoWord : List Value} {ab_NoWord : Bool} {col_NoWord : Option Bool} {dd_NoWord : Option Addr} {k0_NoWord k1_NoWord k2_NoWord k3_NoWord k5_NoWord : Option Value} {g_NoWord_init : Addr} {od_INoWord an_INoWord : Option Addr} {sl_INoWord : Array (Option Value)} {oc_INoWord kV_INoWord dc_INoWord pm_INoWord cd_INoWord ct_INoWord : Value} {c_NoLength : Addr} {cd_NoLength : ClassData} {nm_NoLength qn_NoLength : Str} {N_NoLength : Addr} {bs_NoLength bm_NoLength : List Value} {hdct_NoLength : Bool} {sn_NoLength : List Str} {sub_NoLength : List Value} {ab_NoLength : Bool} {col_NoLength : Option Bool} {dd_NoLength : Option Addr} {k0_NoLength k1_NoLength k2_NoLength k3_NoLength k5_NoLength : Option Value} {g_NoLength_init : Addr} {od_INoLength an_INoLength : Option Addr} {sl_INoLength : Array (Option Value)} {oc_INoLength kV_INoLength dc_INoLength pm_INoLength cd_INoLength ct_INoLength : Value} {c_NoPlace : Addr} {cd_NoPlace : ClassData} {nm_NoPlace qn_NoPlace : Str} {N_NoPlace : Addr} {bs_NoPlace bm_NoPlace : List Value} {hdct_NoPlace : Bool} {sn_NoPlace : List Str} {sub_NoPlace : List Value} {ab_NoPlace : Bool} {col_NoPlace : Option Bool} {dd_NoPlace : Option Addr} {k0_NoPlace k1_NoPlace k2_NoPlace k3_NoPlace k5_NoPlace : Option Value} {g_NoPlace_init : Addr} {od_INoPlace an_INoPlace : Option Addr} {sl_INoPlace : Array (Option Value)} {oc_INoPlace kV_INoPlace dc_INoPlace pm_INoPlace cd_INoPlace ct_INoPlace : Value} {c_NoRoom : Addr} {cd_NoRoom : ClassData} {nm_NoRoom qn_NoRoom : Str} {N_NoRoom : Addr} {bs_NoRoom bm_NoRoom : List Value} {hdct_NoRoom : Bool} {sn_NoRoom : List Str} {sub_NoRoom : List Value} {ab_NoRoom : Bool} {col_NoRoom : Option Bool} {dd_NoRoom : Option Addr} {k0_NoRoom k1_NoRoom k2_NoRoom k3_NoRoom k5_NoRoom : Option Value} {g_NoRoom_init : Addr} {od_INoRoom an_INoRoom : Option Addr} {sl_INoRoom : Array (Option Value)} {oc_INoRoom kV_INoRoom dc_INoRoom pm_INoRoom cd_INoRoom ct_INoRoom : Value} {c_NoRing : Addr} {cd_NoRing : ClassData} {nm_NoRing qn_NoRing : Str} {N_NoRing : Addr} {bs_NoRing bm_NoRing : List Value} {hdct_NoRing : Bool} {sn_NoRing : List Str} {sub_NoRing : List Value} {ab_NoRing : Bool} {col_NoRing : Option Bool} {dd_NoRing : Option Addr} {k0_NoRing k1_NoRing k2_NoRing k3_NoRing k5_NoRing : Option Value} {g_NoRing_init : Addr} {od_INoRing an_INoRing : Option Addr} {sl_INoRing : Array (Option Value)} {oc_INoRing kV_INoRing dc_INoRing pm_INoRing cd_INoRing ct_INoRing : Value} {c_NoList : Addr} {cd_NoList : ClassData} {nm_NoList qn_NoList : Str} {N_NoList : Addr} {bs_NoList bm_NoList : List Value} {hdct_NoList : Bool} {sn_NoList : List Str} {sub_NoList : List Value} {ab_NoList : Bool} {col_NoList : Option Bool} {dd_NoList : Option Addr} {k0_NoList k1_NoList k2_NoList k3_NoList k5_NoList : Option Value} {g_NoList_init : Addr} {od_INoList an_INoList : Option Addr} {sl_INoList : Array (Option Value)} {oc_INoList kV_INoList dc_INoList pm_INoList cd_INoList ct_INoList : Value} {c_TooLong : Addr} {cd_TooLong : ClassData} {nm_TooLong qn_TooLong : Str} {N_TooLong : Addr} {bs_TooLong bm_TooLong : List Value} {hdct_TooLong : Bool} {sn_TooLong : List Str} {sub_TooLong : List Value} {ab_TooLong : Bool} {col_TooLong : Option Bool} {dd_TooLong : Option Addr} {k0_TooLong k1_TooLong k2_TooLong k3_TooLong k5_TooLong : Option Value} {g_TooLong_init : Addr} {od_ITooLong an_ITooLong : Option Addr} {sl_ITooLong : Array (Option Value)} {oc_ITooLong kV_ITooLong dc_ITooLong pm_ITooLong cd_ITooLong ct_ITooLong : Value} {c_Inside : Addr} {cd_Inside : ClassData} {nm_Inside qn_Inside : Str} {N_Inside : Addr} {bs_Inside bm_Inside : List Value} {hdct_Inside : Bool} {sn_Inside : List Str} {sub_Inside : List Value} {ab_Inside : Bool} {col_Inside : Option Bool} {dd_Inside : Option Addr} {k0_Inside k1_Inside k2_Inside k3_Inside k5_Inside : Option Value} {g_Inside_init : Addr} {od_IInside an_IInside : Option Addr} {sl_IInside : Array (Option Value)} {oc_IInside kV_IInside dc_IInside pm_IInside cd_IInside ct_IInside : Value} {c_Split : Addr} {cd_Split : ClassData} {nm_Split qn_Split : Str} {N_Split : Addr} {bs_Split bm_Split : List Value} {hdct_Split : Bool} {sn_Split : List Str} {sub_Split : List Value} {ab_Split : Bool} {col_Split : Option Bool} {dd_Split : Option Addr} {k0_Split k1_Split k2_Split k3_Split k5_Split : Option Value} {g_Split_init : Addr} {od_ISplit an_ISplit : Option Addr} {sl_ISplit : Array (Option Value)} {oc_ISplit kV_ISplit dc_ISplit pm_ISplit cd_ISplit ct_ISplit : Value} {c_Endless : Addr} {cd_Endless : ClassData} {nm_Endless qn_Endless : Str} {N_Endless : Addr} {bs_Endless bm_Endless : List Value} {hdct_Endless : Bool} {sn_Endless : List Str} {sub_Endless : List Value} {ab_Endless : Bool} {col_Endless : Option Bool} {dd_Endless : Option Addr} {k0_Endless k1_Endless k2_Endless k3_Endless k5_Endless : Option Value} {g_Endless_init : Addr} {od_IEndless an_IEndless : Option Addr} {sl_IEndless : Array (Option Value)} {oc_IEndless kV_IEndless dc_IEndless pm_IEndless cd_IEndless ct_IEndless : Value} {c_NoName : Addr} {cd_NoName : ClassData} {nm_NoName qn_NoName : Str} {N_NoName : Addr} {bs_NoName bm_NoName : List Value} {hdct_NoName : Bool} {sn_NoName : List Str} {sub_NoName : List Value} {ab_NoName : Bool} {col_NoName : Option Bool} {dd_NoName : Option Addr} {k0_NoName k1_NoName k2_NoName k3_NoName k5_NoName : Option Value} {g_NoName_init : Addr} {od_INoName an_INoName : Option Addr} {sl_INoName : Array (Option Value)} {oc_INoName kV_INoName dc_INoName pm_INoName cd_INoName ct_INoName : Value} {c_NameThere : Addr} {cd_NameThere : ClassData} {nm_NameThere qn_NameThere : Str} {N_NameThere : Addr} {bs_NameThere bm_NameThere : List Value} {hdct_NameThere : Bool} {sn_NameThere : List Str} {sub_NameThere : List Value} {ab_NameThere : Bool} {col_NameThere : Option Bool} {dd_NameThere : Option Addr} {k0_NameThere k1_NameThere k2_NameThere k3_NameThere k5_NameThere : Option Value} {g_NameThere_init : Addr} {od_INameThere an_INameThere : Option Addr} {sl_INameThere : Array (Option Value)} {oc_INameThere kV_INameThere dc_INameThere pm_INameThere cd_INameThere ct_INameThere : Value} {c_NoKinds : Addr} {cd_NoKinds : ClassData} {nm_NoKinds qn_NoKinds : Str} {N_NoKinds : Addr} {bs_NoKinds bm_NoKinds : List Value} {hdct_NoKinds : Bool} {sn_NoKinds : List Str} {sub_NoKinds : List Value} {ab_NoKinds : Bool} {col_NoKinds : Option Bool} {dd_NoKinds : Option Addr} {k0_NoKinds k1_NoKinds k2_NoKinds k3_NoKinds k5_NoKinds : Option Value} {c_Full : Addr} {cd_Full : ClassData} {nm_Full qn_Full : Str} {N_Full : Addr} {bs_Full bm_Full : List Value} {hdct_Full : Bool} {sn_Full : List Str} {sub_Full : List Value} {ab_Full : Bool} {col_Full : Option Bool} {dd_Full : Option Addr} {k0_Full k1_Full k2_Full k3_Full k5_Full : Option Value} {c_Bare : Addr} {cd_Bare : ClassData} {nm_Bare qn_Bare : Str} {N_Bare : Addr} {bs_Bare bm_Bare : List Value} {hdct_Bare : Bool} {sn_Bare : List Str} {sub_Bare : List Value} {ab_Bare : Bool} {col_Bare : Option Bool} {dd_Bare : Option Addr} {k0_Bare k1_Bare k2_Bare k3_Bare k5_Bare : Option Value} {c_NoBack : Addr} {cd_NoBack : ClassData} {nm_NoBack qn_NoBack : Str} {N_NoBack : Addr} {bs_NoBack bm_NoBack : List Value} {hdct_NoBack : Bool} {sn_NoBack : List Str} {sub_NoBack : List Value} {ab_NoBack : Bool} {col_NoBack : Option Bool} {dd_NoBack : Option Addr} {k0_NoBack k1_NoBack k2_NoBack k3_NoBack k5_NoBack : Option Value} {c_Unlike : Addr} {cd_Unlike : ClassData} {nm_Unlike qn_Unlike : Str} {N_Unlike : Addr} {bs_Unlike bm_Unlike : List Value} {hdct_Unlike : Bool} {sn_Unlike : List Str} {sub_Unlike : List Value} {ab_Unlike : Bool} {col_Unlike : Option Bool} {dd_Unlike : Option Addr} {k0_Unlike k1_Unlike k2_Unlike k3_Unlike k5_Unlike : Option Value} {c_NoLine : Addr} {cd_NoLine : ClassData} {nm_NoLine qn_NoLine : Str} {N_NoLine : Addr} {bs_NoLine bm_NoLine : List Value} {hdct_NoLine : Bool} {sn_NoLine : List Str} {sub_NoLine : List Value} {ab_NoLine : Bool} {col_NoLine : Option Bool} {dd_NoLine : Option Addr} {k0_NoLine k1_NoLine k2_NoLine k3_NoLine k5_NoLine : Option Value} {f_cell_at : Addr} {od_cell_at an_cell_at : Option Addr} {sl_cell_at : Array (Option Value)} {oc_cell_at kV_cell_at dc_cell_at pm_cell_at cd_cell_at ct_cell_at : Value} {f_made : Addr} {od_made an_made : Option Addr} {sl_made : Array (Option Value)} {oc_made kV_made dc_made pm_made cd_made ct_made : Value} {f_lkinds : Addr} {od_lkinds an_lkinds : Option Addr} {sl_lkinds : Array (Option Value)} {oc_lkinds kV_lkinds dc_lkinds pm_lkinds cd_lkinds ct_lkinds : Value} {f_under : Addr} {od_under an_under : Option Addr} {sl_under : Array (Option Value)} {oc_under kV_under dc_under pm_under cd_under ct_under : Value} {f_fields : Addr} {od_fields an_fields : Option Addr} {sl_fields : Array (Option Value)} {oc_fields kV_fields dc_fields pm_fields cd_fields ct_fields : Value} {f_law : Addr} {od_law an_law : Option Addr} {sl_law : Array (Option Value)} {oc_law kV_law dc_law pm_law cd_law ct_law : Value}
    (oc_hn : PySem.W.specialIn K (.builtin "object.__class__") "__get__" = some (some (.builtin "getset_descriptor.__get__")))
    (oc_tk : PySem.W.takesIn K (.builtin "object.__class__") = some true)
    (a_LackError : PySem.W.nsIn K mainGlobals "LackError" = some (some (.ref c_LackError)))
    (q_LackError : PySem.W.clsIn K c_LackError = some cd_LackError)
    (r_LackError : cd_LackError.mro = [.ref c_LackError, .type "ValueError", .type "Exception", .type "BaseException", .type "object"])
    (ty_LackError : PySem.W.typeIn K (.ref c_LackError) = some (.type "type"))
    (ga_LackError : PySem.W.findIn K (.ref c_LackError) "__getattribute__" = some (some (.builtin "BaseException.__getattribute__")))
    (gr_LackError : PySem.W.findIn K (.ref c_LackError) "__getattr__" = some none)
    (sa_LackError : PySem.W.findIn K (.ref c_LackError) "__setattr__" = some (some (.builtin "object.__setattr__")))
    (hd_LackError : PySem.W.hasDictIn K c_LackError = true)
    (ob_LackError : K.lookup c_LackError = some (excClassObj nm_LackError qn_LackError c_LackError N_LackError bs_LackError bm_LackError hdct_LackError sn_LackError sub_LackError ab_LackError col_LackError dd_LackError k0_LackError k1_LackError k2_LackError k3_LackError k5_LackError "ValueError.__new__"))
    (kp_LackError : PySem.W.keepIn K (.ref c_LackError) = true)
    (ha_LackError : PySem.W.findIn K (.ref c_LackError) "__class__" = some (some (.builtin "object.__class__")))
    (i_LackError : PySem.W.findIn K (.ref c_LackError) "__init__" = some (some (.builtin "ValueError.__init__")))
    (rs_LackError : PySem.W.specialIn K (.ref c_LackError) "__getattribute__" = some (some (.builtin "type.__getattribute__")))
    (rr_LackError : PySem.W.readsIn K c_LackError (.type "type") = true)
    (rf_LackError : PySem.W.findCls K (.ref c_LackError) (.type "type") "__init__" = some (.val (.builtin "ValueError.__init__")))
    (a_NoWord : PySem.W.nsIn K mainGlobals "NoWord" = some (some (.ref c_NoWord)))
    (q_NoWord : PySem.W.clsIn K c_NoWord = some cd_NoWord)
    (r_NoWord : cd_NoWord.mro = [.ref c_NoWord, .ref c_LackError, .type "ValueError", .type "Exception", .type "BaseException", .type "object"])
    (ty_NoWord : PySem.W.typeIn K (.ref c_NoWord) = some (.type "type"))
    (ga_NoWord : PySem.W.findIn K (.ref c_NoWord) "__getattribute__" = some (some (.builtin "BaseException.__getattribute__")))
    (gr_NoWord : PySem.W.findIn K (.ref c_NoWord) "__getattr__" = some none)
    (sa_NoWord : PySem.W.findIn K (.ref c_NoWord) "__setattr__" = some (some (.builtin "object.__setattr__")))
    (hd_NoWord : PySem.W.hasDictIn K c_NoWord = true)
    (ob_NoWord : K.lookup c_NoWord = some (excClassObj nm_NoWord qn_NoWord c_NoWord N_NoWord bs_NoWord bm_NoWord hdct_NoWord sn_NoWord sub_NoWord ab_NoWord col_NoWord dd_NoWord k0_NoWord k1_NoWord k2_NoWord k3_NoWord k5_NoWord "ValueError.__new__"))
    (kp_NoWord : PySem.W.keepIn K (.ref c_NoWord) = true)
    (ha_NoWord : PySem.W.findIn K (.ref c_NoWord) "__class__" = some (some (.builtin "object.__class__")))
    (i_NoWord : PySem.W.findIn K (.ref c_NoWord) "__init__" = some (some (.ref g_NoWord_init)))
    (fn_NoWord : PySem.W.isFn K (.ref g_NoWord_init) = true)
    (l_INoWord : K.lookup g_NoWord_init = some ⟨oc_INoWord, od_INoWord, .func (PySem.W.fnOf "__init__" "NoWord.__init__" (defArgs s_NoWord_init) (defBody s_NoWord_init) (defScope s_NoWord_init) .none kV_INoWord dc_INoWord pm_INoWord an_INoWord cd_INoWord ct_INoWord), sl_INoWord⟩)
    (cc_INoWord : PySem.W.codeIn K cd_INoWord "NoWord.__init__" = true)
    (kk_INoWord : PySem.W.keepIn K (.ref g_NoWord_init) = true)
    (n_NoWord_word : PySem.W.findIn K (.ref c_NoWord) "word" = some none)
    (a_NoLength : PySem.W.nsIn K mainGlobals "NoLength" = some (some (.ref c_NoLength)))
    (q_NoLength : PySem.W.clsIn K c_NoLength = some cd_NoLength)
    (r_NoLength : cd_NoLength.mro = [.ref c_NoLength, .ref c_LackError, .type "ValueError", .type "Exception", .type "BaseException", .type "object"])
    (ty_NoLength : PySem.W.typeIn K (.ref c_NoLength) = some (.type "type"))
    (ga_NoLength : PySem.W.findIn K (.ref c_NoLength) "__getattribute__" = some (some (.builtin "BaseException.__getattribute__")))
    (gr_NoLength : PySem.W.findIn K (.ref c_NoLength) "__getattr__" = some none)
    (sa_NoLength : PySem.W.findIn K (.ref c_NoLength) "__setattr__" = some (some (.builtin "object.__setattr__")))
    (hd_NoLength : PySem.W.hasDictIn K c_NoLength = true)
    (ob_NoLength : K.lookup c_NoLength = some (excClassObj nm_NoLength qn_NoLength c_NoLength N_NoLength bs_NoLength bm_NoLength hdct_NoLength sn_NoLength sub_NoLength ab_NoLength col_NoLength dd_NoLength k0_NoLength k1_NoLength k2_NoLength k3_NoLength k5_NoLength "ValueError.__new__"))
    (kp_NoLength : PySem.W.keepIn K (.ref c_NoLength) = true)
    (ha_NoLength : PySem.W.findIn K (.ref c_NoLength) "__class__" = some (some (.builtin "object.__class__")))
    (i_NoLength : PySem.W.findIn K (.ref c_NoLength) "__init__" = some (some (.ref g_NoLength_init)))
    (fn_NoLength : PySem.W.isFn K (.ref g_NoLength_init) = true)
    (l_INoLength : K.lookup g_NoLength_init = some ⟨oc_INoLength, od_INoLength, .func (PySem.W.fnOf "__init__" "NoLength.__init__" (defArgs s_NoLength_init) (defBody s_NoLength_init) (defScope s_NoLength_init) .none kV_INoLength dc_INoLength pm_INoLength an_INoLength cd_INoLength ct_INoLength), sl_INoLength⟩)
    (cc_INoLength : PySem.W.codeIn K cd_INoLength "NoLength.__init__" = true)
    (kk_INoLength : PySem.W.keepIn K (.ref g_NoLength_init) = true)
    (n_NoLength_length : PySem.W.findIn K (.ref c_NoLength) "length" = some none)
    (a_NoPlace : PySem.W.nsIn K mainGlobals "NoPlace" = some (some (.ref c_NoPlace)))
    (q_NoPlace : PySem.W.clsIn K c_NoPlace = some cd_NoPlace)
    (r_NoPlace : cd_NoPlace.mro = [.ref c_NoPlace, .ref c_LackError, .type "ValueError", .type "Exception", .type "BaseException", .type "object"])
    (ty_NoPlace : PySem.W.typeIn K (.ref c_NoPlace) = some (.type "type"))
    (ga_NoPlace : PySem.W.findIn K (.ref c_NoPlace) "__getattribute__" = some (some (.builtin "BaseException.__getattribute__")))
    (gr_NoPlace : PySem.W.findIn K (.ref c_NoPlace) "__getattr__" = some none)
    (sa_NoPlace : PySem.W.findIn K (.ref c_NoPlace) "__setattr__" = some (some (.builtin "object.__setattr__")))
    (hd_NoPlace : PySem.W.hasDictIn K c_NoPlace = true)
    (ob_NoPlace : K.lookup c_NoPlace = some (excClassObj nm_NoPlace qn_NoPlace c_NoPlace N_NoPlace bs_NoPlace bm_NoPlace hdct_NoPlace sn_NoPlace sub_NoPlace ab_NoPlace col_NoPlace dd_NoPlace k0_NoPlace k1_NoPlace k2_NoPlace k3_NoPlace k5_NoPlace "ValueError.__new__"))
    (kp_NoPlace : PySem.W.keepIn K (.ref c_NoPlace) = true)
    (ha_NoPlace : PySem.W.findIn K (.ref c_NoPlace) "__class__" = some (some (.builtin "object.__class__")))
    (i_NoPlace : PySem.W.findIn K (.ref c_NoPlace) "__init__" = some (some (.ref g_NoPlace_init)))
    (fn_NoPlace : PySem.W.isFn K (.ref g_NoPlace_init) = true)
    (l_INoPlace : K.lookup g_NoPlace_init = some ⟨oc_INoPlace, od_INoPlace, .func (PySem.W.fnOf "__init__" "NoPlace.__init__" (defArgs s_NoPlace_init) (defBody s_NoPlace_init) (defScope s_NoPlace_init) .none kV_INoPlace dc_INoPlace pm_INoPlace an_INoPlace cd_INoPlace ct_INoPlace), sl_INoPlace⟩)
    (cc_INoPlace : PySem.W.codeIn K cd_INoPlace "NoPlace.__init__" = true)
    (kk_INoPlace : PySem.W.keepIn K (.ref g_NoPlace_init) = true)
    (n_NoPlace_place : PySem.W.findIn K (.ref c_NoPlace) "place" = some none)
    (a_NoRoom : PySem.W.nsIn K mainGlobals "NoRoom" = some (some (.ref c_NoRoom)))
    (q_NoRoom : PySem.W.clsIn K c_NoRoom = some cd_NoRoom)
    (r_NoRoom : cd_NoRoom.mro = [.ref c_NoRoom, .ref c_LackError, .type "ValueError", .type "Exception", .type "BaseException", .type "object"])
    (ty_NoRoom : PySem.W.typeIn K (.ref c_NoRoom) = some (.type "type"))
    (ga_NoRoom : PySem.W.findIn K (.ref c_NoRoom) "__getattribute__" = some (some (.builtin "BaseException.__getattribute__")))
    (gr_NoRoom : PySem.W.findIn K (.ref c_NoRoom) "__getattr__" = some none)
    (sa_NoRoom : PySem.W.findIn K (.ref c_NoRoom) "__setattr__" = some (some (.builtin "object.__setattr__")))
    (hd_NoRoom : PySem.W.hasDictIn K c_NoRoom = true)
    (ob_NoRoom : K.lookup c_NoRoom = some (excClassObj nm_NoRoom qn_NoRoom c_NoRoom N_NoRoom bs_NoRoom bm_NoRoom hdct_NoRoom sn_NoRoom sub_NoRoom ab_NoRoom col_NoRoom dd_NoRoom k0_NoRoom k1_NoRoom k2_NoRoom k3_NoRoom k5_NoRoom "ValueError.__new__"))
    (kp_NoRoom : PySem.W.keepIn K (.ref c_NoRoom) = true)
    (ha_NoRoom : PySem.W.findIn K (.ref c_NoRoom) "__class__" = some (some (.builtin "object.__class__")))
    (i_NoRoom : PySem.W.findIn K (.ref c_NoRoom) "__init__" = some (some (.ref g_NoRoom_init)))
    (fn_NoRoom : PySem.W.isFn K (.ref g_NoRoom_init) = true)
    (l_INoRoom : K.lookup g_NoRoom_init = some ⟨oc_INoRoom, od_INoRoom, .func (PySem.W.fnOf "__init__" "NoRoom.__init__" (defArgs s_NoRoom_init) (defBody s_NoRoom_init) (defScope s_NoRoom_init) .none kV_INoRoom dc_INoRoom pm_INoRoom an_INoRoom cd_INoRoom ct_INoRoom), sl_INoRoom⟩)
    (cc_INoRoom : PySem.W.codeIn K cd_INoRoom "NoRoom.__init__" = true)
    (kk_INoRoom : PySem.W.keepIn K (.ref g_NoRoom_init) = true)
    (n_NoRoom_room : PySem.W.findIn K (.ref c_NoRoom) "room" = some none)
    (a_NoRing : PySem.W.nsIn K mainGlobals "NoRing" = some (some (.ref c_NoRing)))
    (q_NoRing : PySem.W.clsIn K c_NoRing = some cd_NoRing)
    (r_NoRing : cd_NoRing.mro = [.ref c_NoRing, .ref c_LackError, .type "ValueError", .type "Exception", .type "BaseException", .type "object"])
    (ty_NoRing : PySem.W.typeIn K (.ref c_NoRing) = some (.type "type"))
    (ga_NoRing : PySem.W.findIn K (.ref c_NoRing) "__getattribute__" = some (some (.builtin "BaseException.__getattribute__")))
    (gr_NoRing : PySem.W.findIn K (.ref c_NoRing) "__getattr__" = some none)
    (sa_NoRing : PySem.W.findIn K (.ref c_NoRing) "__setattr__" = some (some (.builtin "object.__setattr__")))
    (hd_NoRing : PySem.W.hasDictIn K c_NoRing = true)
    (ob_NoRing : K.lookup c_NoRing = some (excClassObj nm_NoRing qn_NoRing c_NoRing N_NoRing bs_NoRing bm_NoRing hdct_NoRing sn_NoRing sub_NoRing ab_NoRing col_NoRing dd_NoRing k0_NoRing k1_NoRing k2_NoRing k3_NoRing k5_NoRing "ValueError.__new__"))
    (kp_NoRing : PySem.W.keepIn K (.ref c_NoRing) = true)
    (ha_NoRing : PySem.W.findIn K (.ref c_NoRing) "__class__" = some (some (.builtin "object.__class__")))
    (i_NoRing : PySem.W.findIn K (.ref c_NoRing) "__init__" = some (some (.ref g_NoRing_init)))
    (fn_NoRing : PySem.W.isFn K (.ref g_NoRing_init) = true)
    (l_INoRing : K.lookup g_NoRing_init = some ⟨oc_INoRing, od_INoRing, .func (PySem.W.fnOf "__init__" "NoRing.__init__" (defArgs s_NoRing_init) (defBody s_NoRing_init) (defScope s_NoRing_init) .none kV_INoRing dc_INoRing pm_INoRing an_INoRing cd_INoRing ct_INoRing), sl_INoRing⟩)
    (cc_INoRing : PySem.W.codeIn K cd_INoRing "NoRing.__init__" = true)
    (kk_INoRing : PySem.W.keepIn K (.ref g_NoRing_init) = true)
    (n_NoRing_thing : PySem.W.findIn K (.ref c_NoRing) "thing" = some none)
    (a_NoList : PySem.W.nsIn K mainGlobals "NoList" = some (some (.ref c_NoList)))
    (q_NoList : PySem.W.clsIn K c_NoList = some cd_NoList)
    (r_NoList : cd_NoList.mro = [.ref c_NoList, .ref c_LackError, .type "ValueError", .type "Exception", .type "BaseException", .type "object"])
    (ty_NoList : PySem.W.typeIn K (.ref c_NoList) = some (.type "type"))
    (ga_NoList : PySem.W.findIn K (.ref c_NoList) "__getattribute__" = some (some (.builtin "BaseException.__getattribute__")))
    (gr_NoList : PySem.W.findIn K (.ref c_NoList) "__getattr__" = some none)
    (sa_NoList : PySem.W.findIn K (.ref c_NoList) "__setattr__" = some (some (.builtin "object.__setattr__")))
    (hd_NoList : PySem.W.hasDictIn K c_NoList = true)
    (ob_NoList : K.lookup c_NoList = some (excClassObj nm_NoList qn_NoList c_NoList N_NoList bs_NoList bm_NoList hdct_NoList sn_NoList sub_NoList ab_NoList col_NoList dd_NoList k0_NoList k1_NoList k2_NoList k3_NoList k5_NoList "ValueError.__new__"))
    (kp_NoList : PySem.W.keepIn K (.ref c_NoList) = true)
    (ha_NoList : PySem.W.findIn K (.ref c_NoList) "__class__" = some (some (.builtin "object.__class__")))
    (i_NoList : PySem.W.findIn K (.ref c_NoList) "__init__" = some (some (.ref g_NoList_init)))
    (fn_NoList : PySem.W.isFn K (.ref g_NoList_init) = true)
    (l_INoList : K.lookup g_NoList_init = some ⟨oc_INoList, od_INoList, .func (PySem.W.fnOf "__init__" "NoList.__init__" (defArgs s_NoList_init) (defBody s_NoList_init) (defScope s_NoList_init) .none kV_INoList dc_INoList pm_INoList an_INoList cd_INoList ct_INoList), sl_INoList⟩)
    (cc_INoList : PySem.W.codeIn K cd_INoList "NoList.__init__" = true)
    (kk_INoList : PySem.W.keepIn K (.ref g_NoList_init) = true)
    (n_NoList_word : PySem.W.findIn K (.ref c_NoList) "word" = some none)
    (a_TooLong : PySem.W.nsIn K mainGlobals "TooLong" = some (some (.ref c_TooLong)))
    (q_TooLong : PySem.W.clsIn K c_TooLong = some cd_TooLong)
    (r_TooLong : cd_TooLong.mro = [.ref c_TooLong, .ref c_LackError, .type "ValueError", .type "Exception", .type "BaseException", .type "object"])
    (ty_TooLong : PySem.W.typeIn K (.ref c_TooLong) = some (.type "type"))
    (ga_TooLong : PySem.W.findIn K (.ref c_TooLong) "__getattribute__" = some (some (.builtin "BaseException.__getattribute__")))
    (gr_TooLong : PySem.W.findIn K (.ref c_TooLong) "__getattr__" = some none)
    (sa_TooLong : PySem.W.findIn K (.ref c_TooLong) "__setattr__" = some (some (.builtin "object.__setattr__")))
    (hd_TooLong : PySem.W.hasDictIn K c_TooLong = true)
    (ob_TooLong : K.lookup c_TooLong = some (excClassObj nm_TooLong qn_TooLong c_TooLong N_TooLong bs_TooLong bm_TooLong hdct_TooLong sn_TooLong sub_TooLong ab_TooLong col_TooLong dd_TooLong k0_TooLong k1_TooLong k2_TooLong k3_TooLong k5_TooLong "ValueError.__new__"))
    (kp_TooLong : PySem.W.keepIn K (.ref c_TooLong) = true)
    (ha_TooLong : PySem.W.findIn K (.ref c_TooLong) "__class__" = some (some (.builtin "object.__class__")))
    (i_TooLong : PySem.W.findIn K (.ref c_TooLong) "__init__" = some (some (.ref g_TooLong_init)))
    (fn_TooLong : PySem.W.isFn K (.ref g_TooLong_init) = true)
    (l_ITooLong : K.lookup g_TooLong_init = some ⟨oc_ITooLong, od_ITooLong, .func (PySem.W.fnOf "__init__" "TooLong.__init__" (defArgs s_TooLong_init) (defBody s_TooLong_init) (defScope s_TooLong_init) .none kV_ITooLong dc_ITooLong pm_ITooLong an_ITooLong cd_ITooLong ct_ITooLong), sl_ITooLong⟩)
    (cc_ITooLong : PySem.W.codeIn K cd_ITooLong "TooLong.__init__" = true)
    (kk_ITooLong : PySem.W.keepIn K (.ref g_TooLong_init) = true)
    (n_TooLong_word : PySem.W.findIn K (.ref c_TooLong) "word" = some none)
    (a_Inside : PySem.W.nsIn K mainGlobals "Inside" = some (some (.ref c_Inside)))
    (q_Inside : PySem.W.clsIn K c_Inside = some cd_Inside)
    (r_Inside : cd_Inside.mro = [.ref c_Inside, .ref c_LackError, .type "ValueError", .type "Exception", .type "BaseException", .type "object"])
    (ty_Inside : PySem.W.typeIn K (.ref c_Inside) = some (.type "type"))
    (ga_Inside : PySem.W.findIn K (.ref c_Inside) "__getattribute__" = some (some (.builtin "BaseException.__getattribute__")))
    (gr_Inside : PySem.W.findIn K (.ref c_Inside) "__getattr__" = some none)
    (sa_Inside : PySem.W.findIn K (.ref c_Inside) "__setattr__" = some (some (.builtin "object.__setattr__")))
    (hd_Inside : PySem.W.hasDictIn K c_Inside = true)
    (ob_Inside : K.lookup c_Inside = some (excClassObj nm_Inside qn_Inside c_Inside N_Inside bs_Inside bm_Inside hdct_Inside sn_Inside sub_Inside ab_Inside col_Inside dd_Inside k0_Inside k1_Inside k2_Inside k3_Inside k5_Inside "ValueError.__new__"))
    (kp_Inside : PySem.W.keepIn K (.ref c_Inside) = true)
    (ha_Inside : PySem.W.findIn K (.ref c_Inside) "__class__" = some (some (.builtin "object.__class__")))
    (i_Inside : PySem.W.findIn K (.ref c_Inside) "__init__" = some (some (.ref g_Inside_init)))
    (fn_Inside : PySem.W.isFn K (.ref g_Inside_init) = true)
    (l_IInside : K.lookup g_Inside_init = some ⟨oc_IInside, od_IInside, .func (PySem.W.fnOf "__init__" "Inside.__init__" (defArgs s_Inside_init) (defBody s_Inside_init) (defScope s_Inside_init) .none kV_IInside dc_IInside pm_IInside an_IInside cd_IInside ct_IInside), sl_IInside⟩)
    (cc_IInside : PySem.W.codeIn K cd_IInside "Inside.__init__" = true)
    (kk_IInside : PySem.W.keepIn K (.ref g_Inside_init) = true)
    (n_Inside_one : PySem.W.findIn K (.ref c_Inside) "one" = some none)
    (n_Inside_other : PySem.W.findIn K (.ref c_Inside) "other" = some none)
    (a_Split : PySem.W.nsIn K mainGlobals "Split" = some (some (.ref c_Split)))
    (q_Split : PySem.W.clsIn K c_Split = some cd_Split)
    (r_Split : cd_Split.mro = [.ref c_Split, .ref c_LackError, .type "ValueError", .type "Exception", .type "BaseException", .type "object"])
    (ty_Split : PySem.W.typeIn K (.ref c_Split) = some (.type "type"))
    (ga_Split : PySem.W.findIn K (.ref c_Split) "__getattribute__" = some (some (.builtin "BaseException.__getattribute__")))
    (gr_Split : PySem.W.findIn K (.ref c_Split) "__getattr__" = some none)
    (sa_Split : PySem.W.findIn K (.ref c_Split) "__setattr__" = some (some (.builtin "object.__setattr__")))
    (hd_Split : PySem.W.hasDictIn K c_Split = true)
    (ob_Split : K.lookup c_Split = some (excClassObj nm_Split qn_Split c_Split N_Split bs_Split bm_Split hdct_Split sn_Split sub_Split ab_Split col_Split dd_Split k0_Split k1_Split k2_Split k3_Split k5_Split "ValueError.__new__"))
    (kp_Split : PySem.W.keepIn K (.ref c_Split) = true)
    (ha_Split : PySem.W.findIn K (.ref c_Split) "__class__" = some (some (.builtin "object.__class__")))
    (i_Split : PySem.W.findIn K (.ref c_Split) "__init__" = some (some (.ref g_Split_init)))
    (fn_Split : PySem.W.isFn K (.ref g_Split_init) = true)
    (l_ISplit : K.lookup g_Split_init = some ⟨oc_ISplit, od_ISplit, .func (PySem.W.fnOf "__init__" "Split.__init__" (defArgs s_Split_init) (defBody s_Split_init) (defScope s_Split_init) .none kV_ISplit dc_ISplit pm_ISplit an_ISplit cd_ISplit ct_ISplit), sl_ISplit⟩)
    (cc_ISplit : PySem.W.codeIn K cd_ISplit "Split.__init__" = true)
    (kk_ISplit : PySem.W.keepIn K (.ref g_Split_init) = true)
    (n_Split_one : PySem.W.findIn K (.ref c_Split) "one" = some none)
    (n_Split_other : PySem.W.findIn K (.ref c_Split) "other" = some none)
    (a_Endless : PySem.W.nsIn K mainGlobals "Endless" = some (some (.ref c_Endless)))
    (q_Endless : PySem.W.clsIn K c_Endless = some cd_Endless)
    (r_Endless : cd_Endless.mro = [.ref c_Endless, .ref c_LackError, .type "ValueError", .type "Exception", .type "BaseException", .type "object"])
    (ty_Endless : PySem.W.typeIn K (.ref c_Endless) = some (.type "type"))
    (ga_Endless : PySem.W.findIn K (.ref c_Endless) "__getattribute__" = some (some (.builtin "BaseException.__getattribute__")))
    (gr_Endless : PySem.W.findIn K (.ref c_Endless) "__getattr__" = some none)
    (sa_Endless : PySem.W.findIn K (.ref c_Endless) "__setattr__" = some (some (.builtin "object.__setattr__")))
    (hd_Endless : PySem.W.hasDictIn K c_Endless = true)
    (ob_Endless : K.lookup c_Endless = some (excClassObj nm_Endless qn_Endless c_Endless N_Endless bs_Endless bm_Endless hdct_Endless sn_Endless sub_Endless ab_Endless col_Endless dd_Endless k0_Endless k1_Endless k2_Endless k3_Endless k5_Endless "ValueError.__new__"))
    (kp_Endless : PySem.W.keepIn K (.ref c_Endless) = true)
    (ha_Endless : PySem.W.findIn K (.ref c_Endless) "__class__" = some (some (.builtin "object.__class__")))
    (i_Endless : PySem.W.findIn K (.ref c_Endless) "__init__" = some (some (.ref g_Endless_init)))
    (fn_Endless : PySem.W.isFn K (.ref g_Endless_init) = true)
    (l_IEndless : K.lookup g_Endless_init = some ⟨oc_IEndless, od_IEndless, .func (PySem.W.fnOf "__init__" "Endless.__init__" (defArgs s_Endless_init) (defBody s_Endless_init) (defScope s_Endless_init) .none kV_IEndless dc_IEndless pm_IEndless an_IEndless cd_IEndless ct_IEndless), sl_IEndless⟩)
    (cc_IEndless : PySem.W.codeIn K cd_IEndless "Endless.__init__" = true)
    (kk_IEndless : PySem.W.keepIn K (.ref g_Endless_init) = true)
    (n_Endless_head : PySem.W.findIn K (.ref c_Endless) "head" = some none)
    (n_Endless_lap : PySem.W.findIn K (.ref c_Endless) "lap" = some none)
    (a_NoName : PySem.W.nsIn K mainGlobals "NoName" = some (some (.ref c_NoName)))
    (q_NoName : PySem.W.clsIn K c_NoName = some cd_NoName)
    (r_NoName : cd_NoName.mro = [.ref c_NoName, .ref c_LackError, .type "ValueError", .type "Exception", .type "BaseException", .type "object"])
    (ty_NoName : PySem.W.typeIn K (.ref c_NoName) = some (.type "type"))
    (ga_NoName : PySem.W.findIn K (.ref c_NoName) "__getattribute__" = some (some (.builtin "BaseException.__getattribute__")))
    (gr_NoName : PySem.W.findIn K (.ref c_NoName) "__getattr__" = some none)
    (sa_NoName : PySem.W.findIn K (.ref c_NoName) "__setattr__" = some (some (.builtin "object.__setattr__")))
    (hd_NoName : PySem.W.hasDictIn K c_NoName = true)
    (ob_NoName : K.lookup c_NoName = some (excClassObj nm_NoName qn_NoName c_NoName N_NoName bs_NoName bm_NoName hdct_NoName sn_NoName sub_NoName ab_NoName col_NoName dd_NoName k0_NoName k1_NoName k2_NoName k3_NoName k5_NoName "ValueError.__new__"))
    (kp_NoName : PySem.W.keepIn K (.ref c_NoName) = true)
    (ha_NoName : PySem.W.findIn K (.ref c_NoName) "__class__" = some (some (.builtin "object.__class__")))
    (i_NoName : PySem.W.findIn K (.ref c_NoName) "__init__" = some (some (.ref g_NoName_init)))
    (fn_NoName : PySem.W.isFn K (.ref g_NoName_init) = true)
    (l_INoName : K.lookup g_NoName_init = some ⟨oc_INoName, od_INoName, .func (PySem.W.fnOf "__init__" "NoName.__init__" (defArgs s_NoName_init) (defBody s_NoName_init) (defScope s_NoName_init) .none kV_INoName dc_INoName pm_INoName an_INoName cd_INoName ct_INoName), sl_INoName⟩)
    (cc_INoName : PySem.W.codeIn K cd_INoName "NoName.__init__" = true)
    (kk_INoName : PySem.W.keepIn K (.ref g_NoName_init) = true)
    (n_NoName_name : PySem.W.findIn K (.ref c_NoName) "name" = some none)
    (a_NameThere : PySem.W.nsIn K mainGlobals "NameThere" = some (some (.ref c_NameThere)))
    (q_NameThere : PySem.W.clsIn K c_NameThere = some cd_NameThere)
    (r_NameThere : cd_NameThere.mro = [.ref c_NameThere, .ref c_LackError, .type "ValueError", .type "Exception", .type "BaseException", .type "object"])
    (ty_NameThere : PySem.W.typeIn K (.ref c_NameThere) = some (.type "type"))
    (ga_NameThere : PySem.W.findIn K (.ref c_NameThere) "__getattribute__" = some (some (.builtin "BaseException.__getattribute__")))
    (gr_NameThere : PySem.W.findIn K (.ref c_NameThere) "__getattr__" = some none)
    (sa_NameThere : PySem.W.findIn K (.ref c_NameThere) "__setattr__" = some (some (.builtin "object.__setattr__")))
    (hd_NameThere : PySem.W.hasDictIn K c_NameThere = true)
    (ob_NameThere : K.lookup c_NameThere = some (excClassObj nm_NameThere qn_NameThere c_NameThere N_NameThere bs_NameThere bm_NameThere hdct_NameThere sn_NameThere sub_NameThere ab_NameThere col_NameThere dd_NameThere k0_NameThere k1_NameThere k2_NameThere k3_NameThere k5_NameThere "ValueError.__new__"))
    (kp_NameThere : PySem.W.keepIn K (.ref c_NameThere) = true)
    (ha_NameThere : PySem.W.findIn K (.ref c_NameThere) "__class__" = some (some (.builtin "object.__class__")))
    (i_NameThere : PySem.W.findIn K (.ref c_NameThere) "__init__" = some (some (.ref g_NameThere_init)))
    (fn_NameThere : PySem.W.isFn K (.ref g_NameThere_init) = true)
    (l_INameThere : K.lookup g_NameThere_init = some ⟨oc_INameThere, od_INameThere, .func (PySem.W.fnOf "__init__" "NameThere.__init__" (defArgs s_NameThere_init) (defBody s_NameThere_init) (defScope s_NameThere_init) .none kV_INameThere dc_INameThere pm_INameThere an_INameThere cd_INameThere ct_INameThere), sl_INameThere⟩)
    (cc_INameThere : PySem.W.codeIn K cd_INameThere "NameThere.__init__" = true)
    (kk_INameThere : PySem.W.keepIn K (.ref g_NameThere_init) = true)
    (n_NameThere_name : PySem.W.findIn K (.ref c_NameThere) "name" = some none)
    (a_NoKinds : PySem.W.nsIn K mainGlobals "NoKinds" = some (some (.ref c_NoKinds)))
    (q_NoKinds : PySem.W.clsIn K c_NoKinds = some cd_NoKinds)
    (r_NoKinds : cd_NoKinds.mro = [.ref c_NoKinds, .ref c_LackError, .type "ValueError", .type "Exception", .type "BaseException", .type "object"])
    (ty_NoKinds : PySem.W.typeIn K (.ref c_NoKinds) = some (.type "type"))
    (ga_NoKinds : PySem.W.findIn K (.ref c_NoKinds) "__getattribute__" = some (some (.builtin "BaseException.__getattribute__")))
    (gr_NoKinds : PySem.W.findIn K (.ref c_NoKinds) "__getattr__" = some none)
    (sa_NoKinds : PySem.W.findIn K (.ref c_NoKinds) "__setattr__" = some (some (.builtin "object.__setattr__")))
    (hd_NoKinds : PySem.W.hasDictIn K c_NoKinds = true)
    (ob_NoKinds : K.lookup c_NoKinds = some (excClassObj nm_NoKinds qn_NoKinds c_NoKinds N_NoKinds bs_NoKinds bm_NoKinds hdct_NoKinds sn_NoKinds sub_NoKinds ab_NoKinds col_NoKinds dd_NoKinds k0_NoKinds k1_NoKinds k2_NoKinds k3_NoKinds k5_NoKinds "ValueError.__new__"))
    (kp_NoKinds : PySem.W.keepIn K (.ref c_NoKinds) = true)
    (ha_NoKinds : PySem.W.findIn K (.ref c_NoKinds) "__class__" = some (some (.builtin "object.__class__")))
    (i_NoKinds : PySem.W.findIn K (.ref c_NoKinds) "__init__" = some (some (.builtin "ValueError.__init__")))
    (a_Full : PySem.W.nsIn K mainGlobals "Full" = some (some (.ref c_Full)))
    (q_Full : PySem.W.clsIn K c_Full = some cd_Full)
    (r_Full : cd_Full.mro = [.ref c_Full, .ref c_LackError, .type "ValueError", .type "Exception", .type "BaseException", .type "object"])
    (ty_Full : PySem.W.typeIn K (.ref c_Full) = some (.type "type"))
    (ga_Full : PySem.W.findIn K (.ref c_Full) "__getattribute__" = some (some (.builtin "BaseException.__getattribute__")))
    (gr_Full : PySem.W.findIn K (.ref c_Full) "__getattr__" = some none)
    (sa_Full : PySem.W.findIn K (.ref c_Full) "__setattr__" = some (some (.builtin "object.__setattr__")))
    (hd_Full : PySem.W.hasDictIn K c_Full = true)
    (ob_Full : K.lookup c_Full = some (excClassObj nm_Full qn_Full c_Full N_Full bs_Full bm_Full hdct_Full sn_Full sub_Full ab_Full col_Full dd_Full k0_Full k1_Full k2_Full k3_Full k5_Full "ValueError.__new__"))
    (kp_Full : PySem.W.keepIn K (.ref c_Full) = true)
    (ha_Full : PySem.W.findIn K (.ref c_Full) "__class__" = some (some (.builtin "object.__class__")))
    (i_Full : PySem.W.findIn K (.ref c_Full) "__init__" = some (some (.builtin "ValueError.__init__")))
    (a_Bare : PySem.W.nsIn K mainGlobals "Bare" = some (some (.ref c_Bare)))
    (q_Bare : PySem.W.clsIn K c_Bare = some cd_Bare)
    (r_Bare : cd_Bare.mro = [.ref c_Bare, .ref c_LackError, .type "ValueError", .type "Exception", .type "BaseException", .type "object"])
    (ty_Bare : PySem.W.typeIn K (.ref c_Bare) = some (.type "type"))
    (ga_Bare : PySem.W.findIn K (.ref c_Bare) "__getattribute__" = some (some (.builtin "BaseException.__getattribute__")))
    (gr_Bare : PySem.W.findIn K (.ref c_Bare) "__getattr__" = some none)
    (sa_Bare : PySem.W.findIn K (.ref c_Bare) "__setattr__" = some (some (.builtin "object.__setattr__")))
    (hd_Bare : PySem.W.hasDictIn K c_Bare = true)
    (ob_Bare : K.lookup c_Bare = some (excClassObj nm_Bare qn_Bare c_Bare N_Bare bs_Bare bm_Bare hdct_Bare sn_Bare sub_Bare ab_Bare col_Bare dd_Bare k0_Bare k1_Bare k2_Bare k3_Bare k5_Bare "ValueError.__new__"))
    (kp_Bare : PySem.W.keepIn K (.ref c_Bare) = true)
    (ha_Bare : PySem.W.findIn K (.ref c_Bare) "__class__" = some (some (.builtin "object.__class__")))
    (i_Bare : PySem.W.findIn K (.ref c_Bare) "__init__" = some (some (.builtin "ValueError.__init__")))
    (a_NoBack : PySem.W.nsIn K mainGlobals "NoBack" = some (some (.ref c_NoBack)))
    (q_NoBack : PySem.W.clsIn K c_NoBack = some cd_NoBack)
    (r_NoBack : cd_NoBack.mro = [.ref c_NoBack, .ref c_LackError, .type "ValueError", .type "Exception", .type "BaseException", .type "object"])
    (ty_NoBack : PySem.W.typeIn K (.ref c_NoBack) = some (.type "type"))
    (ga_NoBack : PySem.W.findIn K (.ref c_NoBack) "__getattribute__" = some (some (.builtin "BaseException.__getattribute__")))
    (gr_NoBack : PySem.W.findIn K (.ref c_NoBack) "__getattr__" = some none)
    (sa_NoBack : PySem.W.findIn K (.ref c_NoBack) "__setattr__" = some (some (.builtin "object.__setattr__")))
    (hd_NoBack : PySem.W.hasDictIn K c_NoBack = true)
    (ob_NoBack : K.lookup c_NoBack = some (excClassObj nm_NoBack qn_NoBack c_NoBack N_NoBack bs_NoBack bm_NoBack hdct_NoBack sn_NoBack sub_NoBack ab_NoBack col_NoBack dd_NoBack k0_NoBack k1_NoBack k2_NoBack k3_NoBack k5_NoBack "ValueError.__new__"))
    (kp_NoBack : PySem.W.keepIn K (.ref c_NoBack) = true)
    (ha_NoBack : PySem.W.findIn K (.ref c_NoBack) "__class__" = some (some (.builtin "object.__class__")))
    (i_NoBack : PySem.W.findIn K (.ref c_NoBack) "__init__" = some (some (.builtin "ValueError.__init__")))
    (a_Unlike : PySem.W.nsIn K mainGlobals "Unlike" = some (some (.ref c_Unlike)))
    (q_Unlike : PySem.W.clsIn K c_Unlike = some cd_Unlike)
    (r_Unlike : cd_Unlike.mro = [.ref c_Unlike, .ref c_LackError, .type "ValueError", .type "Exception", .type "BaseException", .type "object"])
    (ty_Unlike : PySem.W.typeIn K (.ref c_Unlike) = some (.type "type"))
    (ga_Unlike : PySem.W.findIn K (.ref c_Unlike) "__getattribute__" = some (some (.builtin "BaseException.__getattribute__")))
    (gr_Unlike : PySem.W.findIn K (.ref c_Unlike) "__getattr__" = some none)
    (sa_Unlike : PySem.W.findIn K (.ref c_Unlike) "__setattr__" = some (some (.builtin "object.__setattr__")))
    (hd_Unlike : PySem.W.hasDictIn K c_Unlike = true)
    (ob_Unlike : K.lookup c_Unlike = some (excClassObj nm_Unlike qn_Unlike c_Unlike N_Unlike bs_Unlike bm_Unlike hdct_Unlike sn_Unlike sub_Unlike ab_Unlike col_Unlike dd_Unlike k0_Unlike k1_Unlike k2_Unlike k3_Unlike k5_Unlike "ValueError.__new__"))
    (kp_Unlike : PySem.W.keepIn K (.ref c_Unlike) = true)
    (ha_Unlike : PySem.W.findIn K (.ref c_Unlike) "__class__" = some (some (.builtin "object.__class__")))
    (i_Unlike : PySem.W.findIn K (.ref c_Unlike) "__init__" = some (some (.builtin "ValueError.__init__")))
    (a_NoLine : PySem.W.nsIn K mainGlobals "NoLine" = some (some (.ref c_NoLine)))
    (q_NoLine : PySem.W.clsIn K c_NoLine = some cd_NoLine)
    (r_NoLine : cd_NoLine.mro = [.ref c_NoLine, .ref c_LackError, .type "ValueError", .type "Exception", .type "BaseException", .type "object"])
    (ty_NoLine : PySem.W.typeIn K (.ref c_NoLine) = some (.type "type"))
    (ga_NoLine : PySem.W.findIn K (.ref c_NoLine) "__getattribute__" = some (some (.builtin "BaseException.__getattribute__")))
    (gr_NoLine : PySem.W.findIn K (.ref c_NoLine) "__getattr__" = some none)
    (sa_NoLine : PySem.W.findIn K (.ref c_NoLine) "__setattr__" = some (some (.builtin "object.__setattr__")))
    (hd_NoLine : PySem.W.hasDictIn K c_NoLine = true)
    (ob_NoLine : K.lookup c_NoLine = some (excClassObj nm_NoLine qn_NoLine c_NoLine N_NoLine bs_NoLine bm_NoLine hdct_NoLine sn_NoLine sub_NoLine ab_NoLine col_NoLine dd_NoLine k0_NoLine k1_NoLine k2_NoLine k3_NoLine k5_NoLine "ValueError.__new__"))
    (kp_NoLine : PySem.W.keepIn K (.ref c_NoLine) = true)
    (ha_NoLine : PySem.W.findIn K (.ref c_NoLine) "__class__" = some (some (.builtin "object.__class__")))
    (i_NoLine : PySem.W.findIn K (.ref c_NoLine) "__init__" = some (some (.builtin "ValueError.__init__")))
    (nd : [c_LackError, c_NoKinds, c_NoWord, c_Full, c_Bare, c_NoBack, c_NoLength, c_NoPlace, c_NoRoom, c_NoRing, c_NoList, c_Inside, c_Endless, c_TooLong, c_Split, c_Unlike, c_NoName, c_NameThere, c_NoLine].Nodup)
    (a_cell_at : PySem.W.nsIn K mainGlobals "_law_cell_at" = some (some (.ref f_cell_at)))
    (l_cell_at : K.lookup f_cell_at = some ⟨oc_cell_at, od_cell_at, .func (PySem.W.fnOf "_law_cell_at" "_law_cell_at" (defArgs s_cell_at) (defBody s_cell_at) (defScope s_cell_at) .none kV_cell_at dc_cell_at pm_cell_at an_cell_at cd_cell_at ct_cell_at), sl_cell_at⟩)
    (cc_cell_at : PySem.W.codeIn K cd_cell_at "_law_cell_at" = true)
    (kk_cell_at : PySem.W.keepIn K (.ref f_cell_at) = true)
    (a_made : PySem.W.nsIn K mainGlobals "_law_made" = some (some (.ref f_made)))
    (l_made : K.lookup f_made = some ⟨oc_made, od_made, .func (PySem.W.fnOf "_law_made" "_law_made" (defArgs s_made) (defBody s_made) (defScope s_made) .none kV_made dc_made pm_made an_made cd_made ct_made), sl_made⟩)
    (cc_made : PySem.W.codeIn K cd_made "_law_made" = true)
    (kk_made : PySem.W.keepIn K (.ref f_made) = true)
    (a_lkinds : PySem.W.nsIn K mainGlobals "_law_kinds" = some (some (.ref f_lkinds)))
    (l_lkinds : K.lookup f_lkinds = some ⟨oc_lkinds, od_lkinds, .func (PySem.W.fnOf "_law_kinds" "_law_kinds" (defArgs s_lkinds) (defBody s_lkinds) (defScope s_lkinds) .none kV_lkinds dc_lkinds pm_lkinds an_lkinds cd_lkinds ct_lkinds), sl_lkinds⟩)
    (cc_lkinds : PySem.W.codeIn K cd_lkinds "_law_kinds" = true)
    (kk_lkinds : PySem.W.keepIn K (.ref f_lkinds) = true)
    (a_under : PySem.W.nsIn K mainGlobals "_law_under" = some (some (.ref f_under)))
    (l_under : K.lookup f_under = some ⟨oc_under, od_under, .func (PySem.W.fnOf "_law_under" "_law_under" (defArgs s_under) (defBody s_under) (defScope s_under) .none kV_under dc_under pm_under an_under cd_under ct_under), sl_under⟩)
    (cc_under : PySem.W.codeIn K cd_under "_law_under" = true)
    (kk_under : PySem.W.keepIn K (.ref f_under) = true)
    (a_fields : PySem.W.nsIn K mainGlobals "_law_fields" = some (some (.ref f_fields)))
    (l_fields : K.lookup f_fields = some ⟨oc_fields, od_fields, .func (PySem.W.fnOf "_law_fields" "_law_fields" (defArgs s_fields) (defBody s_fields) (defScope s_fields) .none kV_fields dc_fields pm_fields an_fields cd_fields ct_fields), sl_fields⟩)
    (cc_fields : PySem.W.codeIn K cd_fields "_law_fields" = true)
    (kk_fields : PySem.W.keepIn K (.ref f_fields) = true)
    (a_law : PySem.W.nsIn K mainGlobals "law" = some (some (.ref f_law)))
    (l_law : K.lookup f_law = some ⟨oc_law, od_law, .func (PySem.W.fnOf "law" "law" (defArgs s_law) (defBody s_law) (defScope s_law) .none kV_law dc_law pm_law an_law cd_law ct_law), sl_law⟩)
    (cc_law : PySem.W.codeIn K cd_law "law" = true)
    (kk_law : PySem.W.keepIn K (.ref f_law) = true)
    (z_len : PySem.W.nsIn K mainGlobals "len" = some none)
    (z_range : PySem.W.nsIn K mainGlobals "range" = some none)
    (z_enumerate : PySem.W.nsIn K mainGlobals "enumerate" = some none)
    (z_isinstance : PySem.W.nsIn K mainGlobals "isinstance" = some none)
    (z_ValueError : PySem.W.nsIn K mainGlobals "ValueError" = some none) : ∃ a, Txt K mg a := by
  have xc_LackError : Xc K c_LackError := ⟨ga_LackError, gr_LackError, sa_LackError, hd_LackError, by rw [q_LackError]; show xmro cd_LackError.mro = true; rw [r_LackError]; rfl⟩
  have xc_NoWord : Xc K c_NoWord := ⟨ga_NoWord, gr_NoWord, sa_NoWord, hd_NoWord, by rw [q_NoWord]; show xmro cd_NoWord.mro = true; rw [r_NoWord]; rfl⟩
  have F_INoWord := fun_mk (st := s_NoWord_init) l_INoWord cc_INoWord kk_INoWord
  have xc_NoLength : Xc K c_NoLength := ⟨ga_NoLength, gr_NoLength, sa_NoLength, hd_NoLength, by rw [q_NoLength]; show xmro cd_NoLength.mro = true; rw [r_NoLength]; rfl⟩
  have F_INoLength := fun_mk (st := s_NoLength_init) l_INoLength cc_INoLength kk_INoLength
  have xc_NoPlace : Xc K c_NoPlace := ⟨ga_NoPlace, gr_NoPlace, sa_NoPlace, hd_NoPlace, by rw [q_NoPlace]; show xmro cd_NoPlace.mro = true; rw [r_NoPlace]; rfl⟩
  have F_INoPlace := fun_mk (st := s_NoPlace_init) l_INoPlace cc_INoPlace kk_INoPlace
  have xc_NoRoom : Xc K c_NoRoom := ⟨ga_NoRoom, gr_NoRoom, sa_NoRoom, hd_NoRoom, by rw [q_NoRoom]; show xmro cd_NoRoom.mro = true; rw [r_NoRoom]; rfl⟩
  have F_INoRoom := fun_mk (st := s_NoRoom_init) l_INoRoom cc_INoRoom kk_INoRoom
  have xc_NoRing : Xc K c_NoRing := ⟨ga_NoRing, gr_NoRing, sa_NoRing, hd_NoRing, by rw [q_NoRing]; show xmro cd_NoRing.mro = true; rw [r_NoRing]; rfl⟩
  have F_INoRing := fun_mk (st := s_NoRing_init) l_INoRing cc_INoRing kk_INoRing
  have xc_NoList : Xc K c_NoList := ⟨ga_NoList, gr_NoList, sa_NoList, hd_NoList, by rw [q_NoList]; show xmro cd_NoList.mro = true; rw [r_NoList]; rfl⟩
  have F_INoList := fun_mk (st := s_NoList_init) l_INoList cc_INoList kk_INoList
  have xc_TooLong : Xc K c_TooLong := ⟨ga_TooLong, gr_TooLong, sa_TooLong, hd_TooLong, by rw [q_TooLong]; show xmro cd_TooLong.mro = true; rw [r_TooLong]; rfl⟩
  have F_ITooLong := fun_mk (st := s_TooLong_init) l_ITooLong cc_ITooLong kk_ITooLong
  have xc_Inside : Xc K c_Inside := ⟨ga_Inside, gr_Inside, sa_Inside, hd_Inside, by rw [q_Inside]; show xmro cd_Inside.mro = true; rw [r_Inside]; rfl⟩
  have F_IInside := fun_mk (st := s_Inside_init) l_IInside cc_IInside kk_IInside
  have xc_Split : Xc K c_Split := ⟨ga_Split, gr_Split, sa_Split, hd_Split, by rw [q_Split]; show xmro cd_Split.mro = true; rw [r_Split]; rfl⟩
  have F_ISplit := fun_mk (st := s_Split_init) l_ISplit cc_ISplit kk_ISplit
  have xc_Endless : Xc K c_Endless := ⟨ga_Endless, gr_Endless, sa_Endless, hd_Endless, by rw [q_Endless]; show xmro cd_Endless.mro = true; rw [r_Endless]; rfl⟩
  have F_IEndless := fun_mk (st := s_Endless_init) l_IEndless cc_IEndless kk_IEndless
  have xc_NoName : Xc K c_NoName := ⟨ga_NoName, gr_NoName, sa_NoName, hd_NoName, by rw [q_NoName]; show xmro cd_NoName.mro = true; rw [r_NoName]; rfl⟩
  have F_INoName := fun_mk (st := s_NoName_init) l_INoName cc_INoName kk_INoName
  have xc_NameThere : Xc K c_NameThere := ⟨ga_NameThere, gr_NameThere, sa_NameThere, hd_NameThere, by rw [q_NameThere]; show xmro cd_NameThere.mro = true; rw [r_NameThere]; rfl⟩
  have F_INameThere := fun_mk (st := s_NameThere_init) l_INameThere cc_INameThere kk_INameThere
  have xc_NoKinds : Xc K c_NoKinds := ⟨ga_NoKinds, gr_NoKinds, sa_NoKinds, hd_NoKinds, by rw [q_NoKinds]; show xmro cd_NoKinds.mro = true; rw [r_NoKinds]; rfl⟩
  have xc_Full : Xc K c_Full := ⟨ga_Full, gr_Full, sa_Full, hd_Full, by rw [q_Full]; show xmro cd_Full.mro = true; rw [r_Full]; rfl⟩
  have xc_Bare : Xc K c_Bare := ⟨ga_Bare, gr_Bare, sa_Bare, hd_Bare, by rw [q_Bare]; show xmro cd_Bare.mro = true; rw [r_Bare]; rfl⟩
  have xc_NoBack : Xc K c_NoBack := ⟨ga_NoBack, gr_NoBack, sa_NoBack, hd_NoBack, by rw [q_NoBack]; show xmro cd_NoBack.mro = true; rw [r_NoBack]; rfl⟩
  have xc_Unlike : Xc K c_Unlike := ⟨ga_Unlike, gr_Unlike, sa_Unlike, hd_Unlike, by rw [q_Unlike]; show xmro cd_Unlike.mro = true; rw [r_Unlike]; rfl⟩
  have xc_NoLine : Xc K c_NoLine := ⟨ga_NoLine, gr_NoLine, sa_NoLine, hd_NoLine, by rw [q_NoLine]; show xmro cd_NoLine.mro = true; rw [r_NoLine]; rfl⟩
  have F_cell_at := fun_mk (st := s_cell_at) l_cell_at cc_cell_at kk_cell_at
  have F_made := fun_mk (st := s_made) l_made cc_made kk_made
  have F_lkinds := fun_mk (st := s_lkinds) l_lkinds cc_lkinds kk_lkinds
  have F_under := fun_mk (st := s_under) l_under cc_under kk_under
  have F_fields := fun_mk (st := s_fields) l_fields cc_fields kk_fields
  have F_law := fun_mk (st := s_law) l_law cc_law kk_law
  refine ⟨{ c_LackError := c_LackError, g_NoWord_init := g_NoWord_init, e_NoWord_init := PySem.W.fnOf "__init__" "NoWord.__init__" (defArgs s_NoWord_init) (defBody s_NoWord_init) (defScope s_NoWord_init) .none kV_INoWord dc_INoWord pm_INoWord an_INoWord cd_INoWord ct_INoWord, c_NoWord := c_NoWord, g_NoLength_init := g_NoLength_init, e_NoLength_init := PySem.W.fnOf "__init__" "NoLength.__init__" (defArgs s_NoLength_init) (defBody s_NoLength_init) (defScope s_NoLength_init) .none kV_INoLength dc_INoLength pm_INoLength an_INoLength cd_INoLength ct_INoLength, c_NoLength := c_NoLength, g_NoPlace_init := g_NoPlace_init, e_NoPlace_init := PySem.W.fnOf "__init__" "NoPlace.__init__" (defArgs s_NoPlace_init) (defBody s_NoPlace_init) (defScope s_NoPlace_init) .none kV_INoPlace dc_INoPlace pm_INoPlace an_INoPlace cd_INoPlace ct_INoPlace, c_NoPlace := c_NoPlace, g_NoRoom_init := g_NoRoom_init, e_NoRoom_init := PySem.W.fnOf "__init__" "NoRoom.__init__" (defArgs s_NoRoom_init) (defBody s_NoRoom_init) (defScope s_NoRoom_init) .none kV_INoRoom dc_INoRoom pm_INoRoom an_INoRoom cd_INoRoom ct_INoRoom, c_NoRoom := c_NoRoom, g_NoRing_init := g_NoRing_init, e_NoRing_init := PySem.W.fnOf "__init__" "NoRing.__init__" (defArgs s_NoRing_init) (defBody s_NoRing_init) (defScope s_NoRing_init) .none kV_INoRing dc_INoRing pm_INoRing an_INoRing cd_INoRing ct_INoRing, c_NoRing := c_NoRing, g_NoList_init := g_NoList_init, e_NoList_init := PySem.W.fnOf "__init__" "NoList.__init__" (defArgs s_NoList_init) (defBody s_NoList_init) (defScope s_NoList_init) .none kV_INoList dc_INoList pm_INoList an_INoList cd_INoList ct_INoList, c_NoList := c_NoList, g_TooLong_init := g_TooLong_init, e_TooLong_init := PySem.W.fnOf "__init__" "TooLong.__init__" (defArgs s_TooLong_init) (defBody s_TooLong_init) (defScope s_TooLong_init) .none kV_ITooLong dc_ITooLong pm_ITooLong an_ITooLong cd_ITooLong ct_ITooLong, c_TooLong := c_TooLong, g_Inside_init := g_Inside_init, e_Inside_init := PySem.W.fnOf "__init__" "Inside.__init__" (defArgs s_Inside_init) (defBody s_Inside_init) (defScope s_Inside_init) .none kV_IInside dc_IInside pm_IInside an_IInside cd_IInside ct_IInside, c_Inside := c_Inside, g_Split_init := g_Split_init, e_Split_init := PySem.W.fnOf "__init__" "Split.__init__" (defArgs s_Split_init) (defBody s_Split_init) (defScope s_Split_init) .none kV_ISplit dc_ISplit pm_ISplit an_ISplit cd_ISplit ct_ISplit, c_Split := c_Split, g_Endless_init := g_Endless_init, e_Endless_init := PySem.W.fnOf "__init__" "Endless.__init__" (defArgs s_Endless_init) (defBody s_Endless_init) (defScope s_Endless_init) .none kV_IEndless dc_IEndless pm_IEndless an_IEndless cd_IEndless ct_IEndless, c_Endless := c_Endless, g_NoName_init := g_NoName_init, e_NoName_init := PySem.W.fnOf "__init__" "NoName.__init__" (defArgs s_NoName_init) (defBody s_NoName_init) (defScope s_NoName_init) .none kV_INoName dc_INoName pm_INoName an_INoName cd_INoName ct_INoName, c_NoName := c_NoName, g_NameThere_init := g_NameThere_init, e_NameThere_init := PySem.W.fnOf "__init__" "NameThere.__init__" (defArgs s_NameThere_init) (defBody s_NameThere_init) (defScope s_NameThere_init) .none kV_INameThere dc_INameThere pm_INameThere an_INameThere cd_INameThere ct_INameThere, c_NameThere := c_NameThere, c_NoKinds := c_NoKinds, c_Full := c_Full, c_Bare := c_Bare, c_NoBack := c_NoBack, c_Unlike := c_Unlike, c_NoLine := c_NoLine, f_cell_at := f_cell_at, d_cell_at := PySem.W.fnOf "_law_cell_at" "_law_cell_at" (defArgs s_cell_at) (defBody s_cell_at) (defScope s_cell_at) .none kV_cell_at dc_cell_at pm_cell_at an_cell_at cd_cell_at ct_cell_at, f_made := f_made, d_made := PySem.W.fnOf "_law_made" "_law_made" (defArgs s_made) (defBody s_made) (defScope s_made) .none kV_made dc_made pm_made an_made cd_made ct_made, f_lkinds := f_lkinds, d_lkinds := PySem.W.fnOf "_law_kinds" "_law_kinds" (defArgs s_lkinds) (defBody s_lkinds) (defScope s_lkinds) .none kV_lkinds dc_lkinds pm_lkinds an_lkinds cd_lkinds ct_lkinds, f_under := f_under, d_under := PySem.W.fnOf "_law_under" "_law_under" (defArgs s_under) (defBody s_under) (defScope s_under) .none kV_under dc_under pm_under an_under cd_under ct_under, f_fields := f_fields, d_fields := PySem.W.fnOf "_law_fields" "_law_fields" (defArgs s_fields) (defBody s_fields) (defScope s_fields) .none kV_fields dc_fields pm_fields an_fields cd_fields ct_fields, f_law := f_law, d_law := PySem.W.fnOf "law" "law" (defArgs s_law) (defBody s_law) (defScope s_law) .none kV_law dc_law pm_law an_law cd_law ct_law }, { m_cell_at := PySem.W.mg_of X G a_cell_at, f_cell_at := F_cell_at, b_cell_at := F_cell_at.binds (ps := ["_law_script", "_law_k"]) fun _ _ _ _ _ _ us hl => match us, hl with | [_, _], _ => rfl, m_made := PySem.W.mg_of X G a_made, f_made := F_made, b_made := F_made.binds (ps := ["_law_one", "_law_other"]) fun _ _ _ _ _ _ us hl => match us, hl with | [_, _], _ => rfl, m_lkinds := PySem.W.mg_of X G a_lkinds, f_lkinds := F_lkinds, b_lkinds := F_lkinds.binds (ps := ["_law_e"]) fun _ _ _ _ _ _ us hl => match us, hl with | [_], _ => rfl, m_under := PySem.W.mg_of X G a_under, f_under := F_under, b_under := F_under.binds (ps := ["_law_e"]) fun _ _ _ _ _ _ us hl => match us, hl with | [_], _ => rfl, m_fields := PySem.W.mg_of X G a_fields, f_fields := F_fields, b_fields := F_fields.binds (ps := ["_law_one", "_law_other"]) fun _ _ _ _ _ _ us hl => match us, hl with | [_, _], _ => rfl, m_law := PySem.W.mg_of X G a_law, f_law := F_law, b_law := F_law.binds (ps := ["_law_script"]) fun _ _ _ _ _ _ us hl => match us, hl with | [_], _ => rfl, m_LackError := PySem.W.mg_of X G a_LackError, x_LackError := ⟨xc_LackError, ⟨_, _, _, _, _, _, _, _, _, _, _, _, _, _, _, _, ob_LackError⟩, kp_LackError⟩, xi_LackError := ⟨xc_LackError, ha_LackError, oc_hn, oc_tk⟩, k_LackError := ⟨⟨_, q_LackError, r_LackError⟩, ty_LackError, rfl⟩, i_LackError := i_LackError, r_LackError := ⟨rs_LackError, rr_LackError, rf_LackError, rfl⟩, m_NoWord := PySem.W.mg_of X G a_NoWord, x_NoWord := ⟨xc_NoWord, ⟨_, _, _, _, _, _, _, _, _, _, _, _, _, _, _, _, ob_NoWord⟩, kp_NoWord⟩, xi_NoWord := ⟨xc_NoWord, ha_NoWord, oc_hn, oc_tk⟩, k_NoWord := ⟨⟨_, q_NoWord, r_NoWord⟩, ty_NoWord, rfl⟩, i_NoWord := i_NoWord, fn_NoWord := fn_NoWord, n_NoWord_word := n_NoWord_word, fi_NoWord := F_INoWord, b_NoWord := F_INoWord.binds (ps := ["self", "word"]) fun _ _ _ _ _ _ us hl => match us, hl with | [_, _], _ => rfl, m_NoLength := PySem.W.mg_of X G a_NoLength, x_NoLength := ⟨xc_NoLength, ⟨_, _, _, _, _, _, _, _, _, _, _, _, _, _, _, _, ob_NoLength⟩, kp_NoLength⟩, xi_NoLength := ⟨xc_NoLength, ha_NoLength, oc_hn, oc_tk⟩, k_NoLength := ⟨⟨_, q_NoLength, r_NoLength⟩, ty_NoLength, rfl⟩, i_NoLength := i_NoLength, fn_NoLength := fn_NoLength, n_NoLength_length := n_NoLength_length, fi_NoLength := F_INoLength, b_NoLength := F_INoLength.binds (ps := ["self", "length"]) fun _ _ _ _ _ _ us hl => match us, hl with | [_, _], _ => rfl, m_NoPlace := PySem.W.mg_of X G a_NoPlace, x_NoPlace := ⟨xc_NoPlace, ⟨_, _, _, _, _, _, _, _, _, _, _, _, _, _, _, _, ob_NoPlace⟩, kp_NoPlace⟩, xi_NoPlace := ⟨xc_NoPlace, ha_NoPlace, oc_hn, oc_tk⟩, k_NoPlace := ⟨⟨_, q_NoPlace, r_NoPlace⟩, ty_NoPlace, rfl⟩, i_NoPlace := i_NoPlace, fn_NoPlace := fn_NoPlace, n_NoPlace_place := n_NoPlace_place, fi_NoPlace := F_INoPlace, b_NoPlace := F_INoPlace.binds (ps := ["self", "place"]) fun _ _ _ _ _ _ us hl => match us, hl with | [_, _], _ => rfl, m_NoRoom := PySem.W.mg_of X G a_NoRoom, x_NoRoom := ⟨xc_NoRoom, ⟨_, _, _, _, _, _, _, _, _, _, _, _, _, _, _, _, ob_NoRoom⟩, kp_NoRoom⟩, xi_NoRoom := ⟨xc_NoRoom, ha_NoRoom, oc_hn, oc_tk⟩, k_NoRoom := ⟨⟨_, q_NoRoom, r_NoRoom⟩, ty_NoRoom, rfl⟩, i_NoRoom := i_NoRoom, fn_NoRoom := fn_NoRoom, n_NoRoom_room := n_NoRoom_room, fi_NoRoom := F_INoRoom, b_NoRoom := F_INoRoom.binds (ps := ["self", "room"]) fun _ _ _ _ _ _ us hl => match us, hl with | [_, _], _ => rfl, m_NoRing := PySem.W.mg_of X G a_NoRing, x_NoRing := ⟨xc_NoRing, ⟨_, _, _, _, _, _, _, _, _, _, _, _, _, _, _, _, ob_NoRing⟩, kp_NoRing⟩, xi_NoRing := ⟨xc_NoRing, ha_NoRing, oc_hn, oc_tk⟩, k_NoRing := ⟨⟨_, q_NoRing, r_NoRing⟩, ty_NoRing, rfl⟩, i_NoRing := i_NoRing, fn_NoRing := fn_NoRing, n_NoRing_thing := n_NoRing_thing, fi_NoRing := F_INoRing, b_NoRing := F_INoRing.binds (ps := ["self", "thing"]) fun _ _ _ _ _ _ us hl => match us, hl with | [_, _], _ => rfl, m_NoList := PySem.W.mg_of X G a_NoList, x_NoList := ⟨xc_NoList, ⟨_, _, _, _, _, _, _, _, _, _, _, _, _, _, _, _, ob_NoList⟩, kp_NoList⟩, xi_NoList := ⟨xc_NoList, ha_NoList, oc_hn, oc_tk⟩, k_NoList := ⟨⟨_, q_NoList, r_NoList⟩, ty_NoList, rfl⟩, i_NoList := i_NoList, fn_NoList := fn_NoList, n_NoList_word := n_NoList_word, fi_NoList := F_INoList, b_NoList := F_INoList.binds (ps := ["self", "word"]) fun _ _ _ _ _ _ us hl => match us, hl with | [_, _], _ => rfl, m_TooLong := PySem.W.mg_of X G a_TooLong, x_TooLong := ⟨xc_TooLong, ⟨_, _, _, _, _, _, _, _, _, _, _, _, _, _, _, _, ob_TooLong⟩, kp_TooLong⟩, xi_TooLong := ⟨xc_TooLong, ha_TooLong, oc_hn, oc_tk⟩, k_TooLong := ⟨⟨_, q_TooLong, r_TooLong⟩, ty_TooLong, rfl⟩, i_TooLong := i_TooLong, fn_TooLong := fn_TooLong, n_TooLong_word := n_TooLong_word, fi_TooLong := F_ITooLong, b_TooLong := F_ITooLong.binds (ps := ["self", "word"]) fun _ _ _ _ _ _ us hl => match us, hl with | [_, _], _ => rfl, m_Inside := PySem.W.mg_of X G a_Inside, x_Inside := ⟨xc_Inside, ⟨_, _, _, _, _, _, _, _, _, _, _, _, _, _, _, _, ob_Inside⟩, kp_Inside⟩, xi_Inside := ⟨xc_Inside, ha_Inside, oc_hn, oc_tk⟩, k_Inside := ⟨⟨_, q_Inside, r_Inside⟩, ty_Inside, rfl⟩, i_Inside := i_Inside, fn_Inside := fn_Inside, n_Inside_one := n_Inside_one, n_Inside_other := n_Inside_other, fi_Inside := F_IInside, b_Inside := F_IInside.binds (ps := ["self", "one", "other"]) fun _ _ _ _ _ _ us hl => match us, hl with | [_, _, _], _ => rfl, m_Split := PySem.W.mg_of X G a_Split, x_Split := ⟨xc_Split, ⟨_, _, _, _, _, _, _, _, _, _, _, _, _, _, _, _, ob_Split⟩, kp_Split⟩, xi_Split := ⟨xc_Split, ha_Split, oc_hn, oc_tk⟩, k_Split := ⟨⟨_, q_Split, r_Split⟩, ty_Split, rfl⟩, i_Split := i_Split, fn_Split := fn_Split, n_Split_one := n_Split_one, n_Split_other := n_Split_other, fi_Split := F_ISplit, b_Split := F_ISplit.binds (ps := ["self", "one", "other"]) fun _ _ _ _ _ _ us hl => match us, hl with | [_, _, _], _ => rfl, m_Endless := PySem.W.mg_of X G a_Endless, x_Endless := ⟨xc_Endless, ⟨_, _, _, _, _, _, _, _, _, _, _, _, _, _, _, _, ob_Endless⟩, kp_Endless⟩, xi_Endless := ⟨xc_Endless, ha_Endless, oc_hn, oc_tk⟩, k_Endless := ⟨⟨_, q_Endless, r_Endless⟩, ty_Endless, rfl⟩, i_Endless := i_Endless, fn_Endless := fn_Endless, n_Endless_head := n_Endless_head, n_Endless_lap := n_Endless_lap, fi_Endless := F_IEndless, b_Endless := F_IEndless.binds (ps := ["self", "head", "lap"]) fun _ _ _ _ _ _ us hl => match us, hl with | [_, _, _], _ => rfl, m_NoName := PySem.W.mg_of X G a_NoName, x_NoName := ⟨xc_NoName, ⟨_, _, _, _, _, _, _, _, _, _, _, _, _, _, _, _, ob_NoName⟩, kp_NoName⟩, xi_NoName := ⟨xc_NoName, ha_NoName, oc_hn, oc_tk⟩, k_NoName := ⟨⟨_, q_NoName, r_NoName⟩, ty_NoName, rfl⟩, i_NoName := i_NoName, fn_NoName := fn_NoName, n_NoName_name := n_NoName_name, fi_NoName := F_INoName, b_NoName := F_INoName.binds (ps := ["self", "name"]) fun _ _ _ _ _ _ us hl => match us, hl with | [_, _], _ => rfl, m_NameThere := PySem.W.mg_of X G a_NameThere, x_NameThere := ⟨xc_NameThere, ⟨_, _, _, _, _, _, _, _, _, _, _, _, _, _, _, _, ob_NameThere⟩, kp_NameThere⟩, xi_NameThere := ⟨xc_NameThere, ha_NameThere, oc_hn, oc_tk⟩, k_NameThere := ⟨⟨_, q_NameThere, r_NameThere⟩, ty_NameThere, rfl⟩, i_NameThere := i_NameThere, fn_NameThere := fn_NameThere, n_NameThere_name := n_NameThere_name, fi_NameThere := F_INameThere, b_NameThere := F_INameThere.binds (ps := ["self", "name"]) fun _ _ _ _ _ _ us hl => match us, hl with | [_, _], _ => rfl, m_NoKinds := PySem.W.mg_of X G a_NoKinds, x_NoKinds := ⟨xc_NoKinds, ⟨_, _, _, _, _, _, _, _, _, _, _, _, _, _, _, _, ob_NoKinds⟩, kp_NoKinds⟩, xi_NoKinds := ⟨xc_NoKinds, ha_NoKinds, oc_hn, oc_tk⟩, k_NoKinds := ⟨⟨_, q_NoKinds, r_NoKinds⟩, ty_NoKinds, rfl⟩, i_NoKinds := i_NoKinds, m_Full := PySem.W.mg_of X G a_Full, x_Full := ⟨xc_Full, ⟨_, _, _, _, _, _, _, _, _, _, _, _, _, _, _, _, ob_Full⟩, kp_Full⟩, xi_Full := ⟨xc_Full, ha_Full, oc_hn, oc_tk⟩, k_Full := ⟨⟨_, q_Full, r_Full⟩, ty_Full, rfl⟩, i_Full := i_Full, m_Bare := PySem.W.mg_of X G a_Bare, x_Bare := ⟨xc_Bare, ⟨_, _, _, _, _, _, _, _, _, _, _, _, _, _, _, _, ob_Bare⟩, kp_Bare⟩, xi_Bare := ⟨xc_Bare, ha_Bare, oc_hn, oc_tk⟩, k_Bare := ⟨⟨_, q_Bare, r_Bare⟩, ty_Bare, rfl⟩, i_Bare := i_Bare, m_NoBack := PySem.W.mg_of X G a_NoBack, x_NoBack := ⟨xc_NoBack, ⟨_, _, _, _, _, _, _, _, _, _, _, _, _, _, _, _, ob_NoBack⟩, kp_NoBack⟩, xi_NoBack := ⟨xc_NoBack, ha_NoBack, oc_hn, oc_tk⟩, k_NoBack := ⟨⟨_, q_NoBack, r_NoBack⟩, ty_NoBack, rfl⟩, i_NoBack := i_NoBack, m_Unlike := PySem.W.mg_of X G a_Unlike, x_Unlike := ⟨xc_Unlike, ⟨_, _, _, _, _, _, _, _, _, _, _, _, _, _, _, _, ob_Unlike⟩, kp_Unlike⟩, xi_Unlike := ⟨xc_Unlike, ha_Unlike, oc_hn, oc_tk⟩, k_Unlike := ⟨⟨_, q_Unlike, r_Unlike⟩, ty_Unlike, rfl⟩, i_Unlike := i_Unlike, m_NoLine := PySem.W.mg_of X G a_NoLine, x_NoLine := ⟨xc_NoLine, ⟨_, _, _, _, _, _, _, _, _, _, _, _, _, _, _, _, ob_NoLine⟩, kp_NoLine⟩, xi_NoLine := ⟨xc_NoLine, ha_NoLine, oc_hn, oc_tk⟩, k_NoLine := ⟨⟨_, q_NoLine, r_NoLine⟩, ty_NoLine, rfl⟩, i_NoLine := i_NoLine, nd := nd, z_len := PySem.W.mg_none_of X G z_len, z_range := PySem.W.mg_none_of X G z_range, z_enumerate := PySem.W.mg_none_of X G z_enumerate, z_isinstance := PySem.W.mg_none_of X G z_isinstance, z_ValueError := PySem.W.mg_none_of X G z_ValueError, bl := fun s u => .of_eq rfl }⟩
end Pk02

set_option Elab.async false
set_option linter.all false
set_option maxRecDepth 100000
namespace Pk02
open PySem L2

def ord (a : Ad) : List Addr := [a.c_NoKinds, a.c_NoWord, a.c_Full, a.c_Bare, a.c_NoBack, a.c_NoLength, a.c_NoPlace, a.c_NoRoom, a.c_NoRing, a.c_NoList, a.c_Inside, a.c_Endless, a.c_TooLong, a.c_Split, a.c_Unlike, a.c_NoName, a.c_NameThere, a.c_NoLine]
def fs1 (f : Str) : List V → List (Str × V) := fun r => putF f (r.getD 0 .non) []
def fs2 (f g : Str) : List V → List (Str × V) := fun r => putF g (r.getD 1 .non) (putF f (r.getD 0 .non) [])
def cell (ns : List Int) (k : Int) : Int := ns.getD k.toNat 0
def sp_cell (K : PySem.W.Frag) : Sp := fun vs H Q _ => ∃ b ns k, vs = [.ref b, .int k] ∧ SqL K H b (ns.map V.int) ∧ 0 ≤ k ∧ Q (.int (cell ns k)) H
def sp_made (a : Ad) : Sp := fun vs H Q _ => ∃ x y, vs = [x, y] ∧ ∀ (p : Addr) (es : List Addr) (H' : Hp), Same H H' → H p = none → H' p = some (.lst (es.map .ref)) → es.length = 18 → (∀ (i : Nat) (e : Addr), es[i]? = some e → ∃ fs C, (ord a)[i]? = some C ∧ XAt H' e C fs) → Q (.ref p) H'
def sp_kinds (a : Ad) : Sp := fun vs H Q _ => ∃ (e C : Addr) (fs : List (Str × V)) (i : Nat), vs = [.ref e] ∧ XAt H e C fs ∧ (ord a)[i]? = some C ∧ ∀ (p : Addr) (H' : Hp), Same H H' → H p = none → H' p = some (.lst ((List.range 18).map fun k => .bl (decide (k = i)))) → Q (.ref p) H'
def sp_under (a : Ad) : Sp := fun vs H Q _ => ∃ (e C : Addr) (fs : List (Str × V)) (i : Nat), vs = [.ref e] ∧ XAt H e C fs ∧ (ord a)[i]? = some C ∧ Q (.bl true) H
def sp_fields (K : PySem.W.Frag) : Sp := fun vs H Q _ => ∃ (x y : V) (d1 d2 : DT), vs = [x, y] ∧ Own K H d1 x ∧ Own K H d2 y ∧ ∀ H', Same H H' → Q (.bl true) H'
def spLaw (K : PySem.W.Frag) : Sp := fun vs H Q _ => ∃ (b : Addr) (ns : List Int), vs = [.ref b] ∧ SqL K H b (ns.map V.int) ∧ ns.length ≤ 63 ∧ ∀ H', Q (.bl true) H'

abbrev lm (a : Ad) (C : Addr) : List Value := [.ref C, .ref a.c_LackError, .type "ValueError", .type "Exception", .type "BaseException", .type "object"]
theorem cls_of {K : PySem.W.Frag} {mg : Str → Option Value} {a : Ad} (T : Txt K mg a) : ∀ (i : Nat) (C : Addr), (ord a)[i]? = some C → ClsOk K C (lm a C) ∧ Xi K C
  | 0, C, h => by cases h; exact ⟨T.k_NoKinds, T.xi_NoKinds⟩
  | 1, C, h => by cases h; exact ⟨T.k_NoWord, T.xi_NoWord⟩
  | 2, C, h => by cases h; exact ⟨T.k_Full, T.xi_Full⟩
  | 3, C, h => by cases h; exact ⟨T.k_Bare, T.xi_Bare⟩
  | 4, C, h => by cases h; exact ⟨T.k_NoBack, T.xi_NoBack⟩
  | 5, C, h => by cases h; exact ⟨T.k_NoLength, T.xi_NoLength⟩
  | 6, C, h => by cases h; exact ⟨T.k_NoPlace, T.xi_NoPlace⟩
  | 7, C, h => by cases h; exact ⟨T.k_NoRoom, T.xi_NoRoom⟩
  | 8, C, h => by cases h; exact ⟨T.k_NoRing, T.xi_NoRing⟩
  | 9, C, h => by cases h; exact ⟨T.k_NoList, T.xi_NoList⟩
  | 10, C, h => by cases h; exact ⟨T.k_Inside, T.xi_Inside⟩
  | 11, C, h => by cases h; exact ⟨T.k_Endless, T.xi_Endless⟩
  | 12, C, h => by cases h; exact ⟨T.k_TooLong, T.xi_TooLong⟩
  | 13, C, h => by cases h; exact ⟨T.k_Split, T.xi_Split⟩
  | 14, C, h => by cases h; exact ⟨T.k_Unlike, T.xi_Unlike⟩
  | 15, C, h => by cases h; exact ⟨T.k_NoName, T.xi_NoName⟩
  | 16, C, h => by cases h; exact ⟨T.k_NameThere, T.xi_NameThere⟩
  | 17, C, h => by cases h; exact ⟨T.k_NoLine, T.xi_NoLine⟩
  | (n + 18), C, h => by simp [ord] at h
theorem kit_all {K : PySem.W.Frag} {mg : Str → Option Value} {a : Ad} (T : Txt K mg a) {i j : Nat} {C D : Addr} (hi : (ord a)[i]? = some C) (hj : (ord a)[j]? = some D) : PySem.W.kitOne K (.ref C) (.ref D) = some (decide (j = i)) := by
  have nd : (a.c_LackError :: ord a).Nodup := T.nd
  rw [List.nodup_cons] at nd
  have hiff : C = D ↔ j = i := by
    constructor
    · intro e
      subst e
      have l1 := (List.getElem?_eq_some_iff.mp hi).1
      exact ((List.getElem?_inj l1 nd.2).mp (hi.trans hj.symm)).symm
    · intro e
      subst e
      rw [hi] at hj
      exact Option.some.inj hj
  refine kit_ref (cls_of T i C hi).1 (cls_of T j D hj).1 ?_ (fun e => by simpa using hiff.mp e)
  have hL : D ≠ a.c_LackError := fun e => nd.1 (e ▸ List.mem_of_getElem? hj)
  by_cases h : j = i
  · rw [decide_eq_true h, hiff.mpr h]
    simp [lm, List.contains_cons]
  · have hc : C ≠ D := fun e => h (hiff.mp e)
    rw [decide_eq_false h]
    simp [lm, List.contains_cons, hL, Ne.symm hc]

theorem fs1_get {f : Str} {vs : List V} : (fs1 f vs).lookup f = some (vs.getD 0 .non) := by unfold fs1; rw [lookup_putF, if_pos rfl]
theorem fs2_1 {f g : Str} {vs : List V} (h : ¬ f = g) : (fs2 f g vs).lookup f = some (vs.getD 0 .non) := by unfold fs2; rw [lookup_putF, if_neg h, lookup_putF, if_pos rfl]
theorem fs2_2 {f g : Str} {vs : List V} : (fs2 f g vs).lookup g = some (vs.getD 1 .non) := by unfold fs2; rw [lookup_putF, if_pos rfl]

theorem some_at {K : PySem.W.Frag} {H : Hp} {c : Int} {p : Addr} (hp : SqL K H p [.int c]) {i : Int} (h0 : 0 ≤ i) (h1 : i < 7) :
    ∃ v d, atI [V.str (Str.ofString ""), V.str (Str.ofString "a"), V.int c, V.int (-1), V.non, V.ref p, V.str (Str.ofString "word")] i = some v ∧ Own K H d v := by
  have hi : i = 0 ∨ i = 1 ∨ i = 2 ∨ i = 3 ∨ i = 4 ∨ i = 5 ∨ i = 6 := by omega
  rcases hi with rfl | rfl | rfl | rfl | rfl | rfl | rfl
  · exact ⟨_, _, rfl, ownF rfl⟩
  · exact ⟨_, _, rfl, ownF rfl⟩
  · exact ⟨_, _, rfl, ownF rfl⟩
  · exact ⟨_, _, rfl, ownF rfl⟩
  · exact ⟨_, _, rfl, ownF rfl⟩
  · exact ⟨_, _, rfl, ownL hp rfl⟩
  · exact ⟨_, _, rfl, ownF rfl⟩
theorem row_flat {i : Nat} : ((List.range 18).map fun k => V.bl (decide (k = i))).all flatV = true := by
  rw [List.all_eq_true]
  intro v hv
  obtain ⟨k, _, rfl⟩ := List.mem_map.mp hv
  rfl

theorem cell_out {ns : List Int} {k : Int} (h : ¬ k < ns.length) : cell ns k = 0 := by
  unfold cell
  rw [List.getD_eq_getElem?_getD, List.getElem?_eq_none (by omega)]; rfl
theorem atI_map {ns : List Int} {k : Int} (h0 : 0 ≤ k) (h1 : k < ns.length) : atI (ns.map V.int) k = some (.int (cell ns k)) := by
  have hk : k.toNat < ns.length := by omega
  unfold atI ixN cell
  rw [List.length_map, if_pos h0, if_pos h1, Option.bind_some, List.getElem?_map, List.getD_eq_getElem?_getD, List.getElem?_eq_getElem hk]
  rfl

section
variable {P : Program} {w : World} {K : PySem.W.Frag} {mg : Str → Option Value} {base : Heap} {a : Ad}
local macro_rules | `(tactic| walk_at "rd") => `(tactic| simp only [tSeq, tAsg, tOp, tUn, tVar, tC, gName, gNil, gCons, tRet, tRetN, tIfS, tTest, tB, tNot, tAnd, tOr, tAndV, tOrV, tNotV, tIf, tDrop, tNil, tCons, q_lst, q_tup, q_mk0, q_mkI, q_cat, tCall, tCB, tXFld, sXFld, tXInit, tBM, tBM0, tSl, tPart, tNoPart, tNext, L2.start, cxK, bxK, q_for, q_comp, iRng1, iRng2, iList, iTup, iEnum, iText, gTup, pick, Option.bind_some, Option.bind_none, Option.join_some, Option.join_none, List.map_cons, List.map_nil, List.length_cons, List.length_nil, Nat.zero_add, Nat.reduceAdd, Nat.reduceSub, List.replicate_succ, List.replicate_zero, List.cons_append, List.nil_append, List.append_nil, List.getElem?_cons_zero, List.getElem?_cons_succ, List.set_cons_zero, List.set_cons_succ, q_I, q_I0, q_U, q_T, q_b, q_var, q_var'])
local macro_rules | `(tactic| walk_at "rd?") => `(tactic| (try walk_at "rd"))
theorem sc_cell_at : FnScope ["_law_script", "_law_k"] ["_law_script", "_law_k"] (defScope s_cell_at) := ⟨rfl, rfl, rfl, by decide +kernel, rfl, by decide +kernel, by decide +kernel⟩
theorem ok_cell_at (T : Txt K mg a) : FnOk P w K mg base CX0 1 a.f_cell_at a.d_cell_at ["_law_script", "_law_k"] (sp_cell K) := by
  refine T.f_cell_at.ok sc_cell_at (fun vs H Q E h => ?_) (fun cdv A outer s H vs Q E hr h => ?_)
  · obtain ⟨b, ns, k, rfl, _⟩ := h; rfl
  · have hu64 := hr.units
    obtain ⟨b, ns, k, rfl, hS, hk, q⟩ := h
    refine ⟨_, (pss_cons (ps_if (pt_cmpR op_lt (pv 1) (pe_callB (call_lenK (K := K) rfl) rfl T.z_len bt_len (pa_cons (pv 0) pa_nil)) (nomark _)) (pss_one (ps_ret (pe_ix (ix_listK (K := K) rfl) (pv 0) (pv 1) (fun _ _ => rfl)))) pss_nil)
      (pss_one (ps_ret pe_int))), ?_⟩
    walk_at "rd"
    refine ⟨_, _, rfl, .inl ⟨_, hS, rfl⟩, ?_⟩
    rw [List.length_map]
    refine ite2 (fun h => ?_) (fun h => ?_)
    · have h' : k < ns.length := of_decide_eq_true h
      refine ⟨b, _, k, _, rfl, rfl, hS, atI_map hk h', ?_⟩
      exact q
    · have h' : ¬ k < ns.length := fun z => h (decide_eq_true z)
      rw [cell_out h'] at q
      exact q
theorem sc_TooLong_init : FnScope ["self", "word"] ["self", "word"] (defScope s_TooLong_init) := ⟨rfl, rfl, rfl, by decide +kernel, rfl, by decide +kernel, by decide +kernel⟩
theorem ok_TooLong_init (T : Txt K mg a) : FnOk P w K mg base CX0 1 a.g_TooLong_init a.e_TooLong_init ["self", "word"] (spInit K a.c_TooLong 1 (fs1 "word")) := by
  refine T.fi_TooLong.ok sc_TooLong_init (fun vs H Q E h => ?_) (fun cdv A outer s H vs Q E hr h => ?_)
  · obtain ⟨e, r, rfl, hl, _⟩ := h; simp [hl]
  · have hu64 := hr.units
    obtain ⟨e, r, rfl, hl, he, q⟩ := h
    obtain ⟨x, rfl⟩ : ∃ x, r = [x] := by match r, hl with | [x], _ => exact ⟨x, rfl⟩
    refine ⟨_, (pss_cons (ps_expr (pe_xinit rfl T.m_LackError T.r_LackError (pa_cons (pv 0) (pa_cons pe_str pa_nil))))
      (pss_one (ps_xfld (pv 0) (pv 1) rfl))), ?_⟩
    walk_at "rd"
    refine ⟨e, a.c_TooLong, none, _, rfl, he, T.x_TooLong, (by show 1 ≤ 1000; decide), e, a.c_TooLong, [], rfl, .bare he, T.x_TooLong.c, T.n_TooLong_word, (by show 0 < 1000; decide), fun H1 x1 k1 _ => ?_⟩
    exact q H1 x1 fun b o hb hne => k1 b o hb hne fun d hd => by rw [he] at hd; exact absurd hd xo_ne
theorem sc_Split_init : FnScope ["self", "one", "other"] ["self", "one", "other"] (defScope s_Split_init) := ⟨rfl, rfl, rfl, by decide +kernel, rfl, by decide +kernel, by decide +kernel⟩
theorem ok_Split_init (T : Txt K mg a) : FnOk P w K mg base CX0 1 a.g_Split_init a.e_Split_init ["self", "one", "other"] (spInit K a.c_Split 2 (fs2 "one" "other")) := by
  refine T.fi_Split.ok sc_Split_init (fun vs H Q E h => ?_) (fun cdv A outer s H vs Q E hr h => ?_)
  · obtain ⟨e, r, rfl, hl, _⟩ := h; simp [hl]
  · have hu64 := hr.units
    obtain ⟨e, r, rfl, hl, he, q⟩ := h
    obtain ⟨x, y, rfl⟩ : ∃ x y, r = [x, y] := by match r, hl with | [x, y], _ => exact ⟨x, y, rfl⟩
    refine ⟨_, (pss_cons (ps_expr (pe_xinit rfl T.m_LackError T.r_LackError (pa_cons (pv 0) (pa_cons pe_str pa_nil))))
      (pss_cons (ps_xfld (pv 0) (pv 1) rfl)
      (pss_one (ps_xfld (pv 0) (pv 2) rfl)))), ?_⟩
    walk_at "rd"
    refine ⟨e, a.c_Split, none, _, rfl, he, T.x_Split, (by show 1 ≤ 1000; decide), e, a.c_Split, [], rfl, .bare he, T.x_Split.c, T.n_Split_one, (by show 0 < 1000; decide), fun H1 x1 k1 d1 => ?_⟩
    have kk : ∀ b o, H b = some o → b ≠ e → H1 b = some o := fun b o hb hne => k1 b o hb hne fun d hd => by rw [he] at hd; exact absurd hd xo_ne
    refine ⟨e, a.c_Split, _, rfl, x1, T.x_Split.c, T.n_Split_other, (by show 1 < 1000; decide), fun H2 x2 k2 _ => ?_⟩
    refine q H2 x2 fun b o hb hne => k2 b o (kk b o hb hne) hne fun d hd z => ?_
    subst z
    obtain ⟨d', h1', h2'⟩ := d1
    rw [h1'] at hd
    have e1 := xo_inj hd
    subst e1
    rcases h2' with z | z
    · rw [he] at z; exact xo_ne z
    · rw [hb] at z; cases z
theorem sc_NoLength_init : FnScope ["self", "length"] ["self", "length"] (defScope s_NoLength_init) := ⟨rfl, rfl, rfl, by decide +kernel, rfl, by decide +kernel, by decide +kernel⟩
theorem ok_NoLength_init (T : Txt K mg a) : FnOk P w K mg base CX0 1 a.g_NoLength_init a.e_NoLength_init ["self", "length"] (spInit K a.c_NoLength 1 (fs1 "length")) := by
  refine T.fi_NoLength.ok sc_NoLength_init (fun vs H Q E h => ?_) (fun cdv A outer s H vs Q E hr h => ?_)
  · obtain ⟨e, r, rfl, hl, _⟩ := h; simp [hl]
  · have hu64 := hr.units
    obtain ⟨e, r, rfl, hl, he, q⟩ := h
    obtain ⟨x, rfl⟩ : ∃ x, r = [x] := by match r, hl with | [x], _ => exact ⟨x, rfl⟩
    refine ⟨_, (pss_cons (ps_expr (pe_xinit rfl T.m_LackError T.r_LackError (pa_cons (pv 0) (pa_cons pe_str pa_nil))))
      (pss_one (ps_xfld (pv 0) (pv 1) rfl))), ?_⟩
    walk_at "rd"
    refine ⟨e, a.c_NoLength, none, _, rfl, he, T.x_NoLength, (by show 1 ≤ 1000; decide), e, a.c_NoLength, [], rfl, .bare he, T.x_NoLength.c, T.n_NoLength_length, (by show 0 < 1000; decide), fun H1 x1 k1 _ => ?_⟩
    exact q H1 x1 fun b o hb hne => k1 b o hb hne fun d hd => by rw [he] at hd; exact absurd hd xo_ne
theorem sc_NoList_init : FnScope ["self", "word"] ["self", "word"] (defScope s_NoList_init) := ⟨rfl, rfl, rfl, by decide +kernel, rfl, by decide +kernel, by decide +kernel⟩
theorem ok_NoList_init (T : Txt K mg a) : FnOk P w K mg base CX0 1 a.g_NoList_init a.e_NoList_init ["self", "word"] (spInit K a.c_NoList 1 (fs1 "word")) := by
  refine T.fi_NoList.ok sc_NoList_init (fun vs H Q E h => ?_) (fun cdv A outer s H vs Q E hr h => ?_)
  · obtain ⟨e, r, rfl, hl, _⟩ := h; simp [hl]
  · have hu64 := hr.units
    obtain ⟨e, r, rfl, hl, he, q⟩ := h
    obtain ⟨x, rfl⟩ : ∃ x, r = [x] := by match r, hl with | [x], _ => exact ⟨x, rfl⟩
    refine ⟨_, (pss_cons (ps_expr (pe_xinit rfl T.m_LackError T.r_LackError (pa_cons (pv 0) (pa_cons pe_str pa_nil))))
      (pss_one (ps_xfld (pv 0) (pv 1) rfl))), ?_⟩
    walk_at "rd"
    refine ⟨e, a.c_NoList, none, _, rfl, he, T.x_NoList, (by show 1 ≤ 1000; decide), e, a.c_NoList, [], rfl, .bare he, T.x_NoList.c, T.n_NoList_word, (by show 0 < 1000; decide), fun H1 x1 k1 _ => ?_⟩
    exact q H1 x1 fun b o hb hne => k1 b o hb hne fun d hd => by rw [he] at hd; exact absurd hd xo_ne
theorem sc_Inside_init : FnScope ["self", "one", "other"] ["self", "one", "other"] (defScope s_Inside_init) := ⟨rfl, rfl, rfl, by decide +kernel, rfl, by decide +kernel, by decide +kernel⟩
theorem ok_Inside_init (T : Txt K mg a) : FnOk P w K mg base CX0 1 a.g_Inside_init a.e_Inside_init ["self", "one", "other"] (spInit K a.c_Inside 2 (fs2 "one" "other")) := by
  refine T.fi_Inside.ok sc_Inside_init (fun vs H Q E h => ?_) (fun cdv A outer s H vs Q E hr h => ?_)
  · obtain ⟨e, r, rfl, hl, _⟩ := h; simp [hl]
  · have hu64 := hr.units
    obtain ⟨e, r, rfl, hl, he, q⟩ := h
    obtain ⟨x, y, rfl⟩ : ∃ x y, r = [x, y] := by match r, hl with | [x, y], _ => exact ⟨x, y, rfl⟩
    refine ⟨_, (pss_cons (ps_expr (pe_xinit rfl T.m_LackError T.r_LackError (pa_cons (pv 0) (pa_cons pe_str pa_nil))))
      (pss_cons (ps_xfld (pv 0) (pv 1) rfl)
      (pss_one (ps_xfld (pv 0) (pv 2) rfl)))), ?_⟩
    walk_at "rd"
    refine ⟨e, a.c_Inside, none, _, rfl, he, T.x_Inside, (by show 1 ≤ 1000; decide), e, a.c_Inside, [], rfl, .bare he, T.x_Inside.c, T.n_Inside_one, (by show 0 < 1000; decide), fun H1 x1 k1 d1 => ?_⟩
    have kk : ∀ b o, H b = some o → b ≠ e → H1 b = some o := fun b o hb hne => k1 b o hb hne fun d hd => by rw [he] at hd; exact absurd hd xo_ne
    refine ⟨e, a.c_Inside, _, rfl, x1, T.x_Inside.c, T.n_Inside_other, (by show 1 < 1000; decide), fun H2 x2 k2 _ => ?_⟩
    refine q H2 x2 fun b o hb hne => k2 b o (kk b o hb hne) hne fun d hd z => ?_
    subst z
    obtain ⟨d', h1', h2'⟩ := d1
    rw [h1'] at hd
    have e1 := xo_inj hd
    subst e1
    rcases h2' with z | z
    · rw [he] at z; exact xo_ne z
    · rw [hb] at z; cases z
theorem sc_Endless_init : FnScope ["self", "head", "lap"] ["self", "head", "lap"] (defScope s_Endless_init) := ⟨rfl, rfl, rfl, by decide +kernel, rfl, by decide +kernel, by decide +kernel⟩
theorem ok_Endless_init (T : Txt K mg a) : FnOk P w K mg base CX0 1 a.g_Endless_init a.e_Endless_init ["self", "head", "lap"] (spInit K a.c_Endless 2 (fs2 "head" "lap")) := by
  refine T.fi_Endless.ok sc_Endless_init (fun vs H Q E h => ?_) (fun cdv A outer s H vs Q E hr h => ?_)
  · obtain ⟨e, r, rfl, hl, _⟩ := h; simp [hl]
  · have hu64 := hr.units
    obtain ⟨e, r, rfl, hl, he, q⟩ := h
    obtain ⟨x, y, rfl⟩ : ∃ x y, r = [x, y] := by match r, hl with | [x, y], _ => exact ⟨x, y, rfl⟩
    refine ⟨_, (pss_cons (ps_expr (pe_xinit rfl T.m_LackError T.r_LackError (pa_cons (pv 0) (pa_cons pe_str pa_nil))))
      (pss_cons (ps_xfld (pv 0) (pv 1) rfl)
      (pss_one (ps_xfld (pv 0) (pv 2) rfl)))), ?_⟩
    walk_at "rd"
    refine ⟨e, a.c_Endless, none, _, rfl, he, T.x_Endless, (by show 1 ≤ 1000; decide), e, a.c_Endless, [], rfl, .bare he, T.x_Endless.c, T.n_Endless_head, (by show 0 < 1000; decide), fun H1 x1 k1 d1 => ?_⟩
    have kk : ∀ b o, H b = some o → b ≠ e → H1 b = some o := fun b o hb hne => k1 b o hb hne fun d hd => by rw [he] at hd; exact absurd hd xo_ne
    refine ⟨e, a.c_Endless, _, rfl, x1, T.x_Endless.c, T.n_Endless_lap, (by show 1 < 1000; decide), fun H2 x2 k2 _ => ?_⟩
    refine q H2 x2 fun b o hb hne => k2 b o (kk b o hb hne) hne fun d hd z => ?_
    subst z
    obtain ⟨d', h1', h2'⟩ := d1
    rw [h1'] at hd
    have e1 := xo_inj hd
    subst e1
    rcases h2' with z | z
    · rw [he] at z; exact xo_ne z
    · rw [hb] at z; cases z
theorem sc_NoPlace_init : FnScope ["self", "place"] ["self", "place"] (defScope s_NoPlace_init) := ⟨rfl, rfl, rfl, by decide +kernel, rfl, by decide +kernel, by decide +kernel⟩
theorem ok_NoPlace_init (T : Txt K mg a) : FnOk P w K mg base CX0 1 a.g_NoPlace_init a.e_NoPlace_init ["self", "place"] (spInit K a.c_NoPlace 1 (fs1 "place")) := by
  refine T.fi_NoPlace.ok sc_NoPlace_init (fun vs H Q E h => ?_) (fun cdv A outer s H vs Q E hr h => ?_)
  · obtain ⟨e, r, rfl, hl, _⟩ := h; simp [hl]
  · have hu64 := hr.units
    obtain ⟨e, r, rfl, hl, he, q⟩ := h
    obtain ⟨x, rfl⟩ : ∃ x, r = [x] := by match r, hl with | [x], _ => exact ⟨x, rfl⟩
    refine ⟨_, (pss_cons (ps_expr (pe_xinit rfl T.m_LackError T.r_LackError (pa_cons (pv 0) (pa_cons pe_str pa_nil))))
      (pss_one (ps_xfld (pv 0) (pv 1) rfl))), ?_⟩
    walk_at "rd"
    refine ⟨e, a.c_NoPlace, none, _, rfl, he, T.x_NoPlace, (by show 1 ≤ 1000; decide), e, a.c_NoPlace, [], rfl, .bare he, T.x_NoPlace.c, T.n_NoPlace_place, (by show 0 < 1000; decide), fun H1 x1 k1 _ => ?_⟩
    exact q H1 x1 fun b o hb hne => k1 b o hb hne fun d hd => by rw [he] at hd; exact absurd hd xo_ne
theorem sc_NoRoom_init : FnScope ["self", "room"] ["self", "room"] (defScope s_NoRoom_init) := ⟨rfl, rfl, rfl, by decide +kernel, rfl, by decide +kernel, by decide +kernel⟩
theorem ok_NoRoom_init (T : Txt K mg a) : FnOk P w K mg base CX0 1 a.g_NoRoom_init a.e_NoRoom_init ["self", "room"] (spInit K a.c_NoRoom 1 (fs1 "room")) := by
  refine T.fi_NoRoom.ok sc_NoRoom_init (fun vs H Q E h => ?_) (fun cdv A outer s H vs Q E hr h => ?_)
  · obtain ⟨e, r, rfl, hl, _⟩ := h; simp [hl]
  · have hu64 := hr.units
    obtain ⟨e, r, rfl, hl, he, q⟩ := h
    obtain ⟨x, rfl⟩ : ∃ x, r = [x] := by match r, hl with | [x], _ => exact ⟨x, rfl⟩
    refine ⟨_, (pss_cons (ps_expr (pe_xinit rfl T.m_LackError T.r_LackError (pa_cons (pv 0) (pa_cons pe_str pa_nil))))
      (pss_one (ps_xfld (pv 0) (pv 1) rfl))), ?_⟩
    walk_at "rd"
    refine ⟨e, a.c_NoRoom, none, _, rfl, he, T.x_NoRoom, (by show 1 ≤ 1000; decide), e, a.c_NoRoom, [], rfl, .bare he, T.x_NoRoom.c, T.n_NoRoom_room, (by show 0 < 1000; decide), fun H1 x1 k1 _ => ?_⟩
    exact q H1 x1 fun b o hb hne => k1 b o hb hne fun d hd => by rw [he] at hd; exact absurd hd xo_ne
theorem sc_NoWord_init : FnScope ["self", "word"] ["self", "word"] (defScope s_NoWord_init) := ⟨rfl, rfl, rfl, by decide +kernel, rfl, by decide +kernel, by decide +kernel⟩
theorem ok_NoWord_init (T : Txt K mg a) : FnOk P w K mg base CX0 1 a.g_NoWord_init a.e_NoWord_init ["self", "word"] (spInit K a.c_NoWord 1 (fs1 "word")) := by
  refine T.fi_NoWord.ok sc_NoWord_init (fun vs H Q E h => ?_) (fun cdv A outer s H vs Q E hr h => ?_)
  · obtain ⟨e, r, rfl, hl, _⟩ := h; simp [hl]
  · have hu64 := hr.units
    obtain ⟨e, r, rfl, hl, he, q⟩ := h
    obtain ⟨x, rfl⟩ : ∃ x, r = [x] := by match r, hl with | [x], _ => exact ⟨x, rfl⟩
    refine ⟨_, (pss_cons (ps_expr (pe_xinit rfl T.m_LackError T.r_LackError (pa_cons (pv 0) (pa_cons pe_str pa_nil))))
      (pss_one (ps_xfld (pv 0) (pv 1) rfl))), ?_⟩
    walk_at "rd"
    refine ⟨e, a.c_NoWord, none, _, rfl, he, T.x_NoWord, (by show 1 ≤ 1000; decide), e, a.c_NoWord, [], rfl, .bare he, T.x_NoWord.c, T.n_NoWord_word, (by show 0 < 1000; decide), fun H1 x1 k1 _ => ?_⟩
    exact q H1 x1 fun b o hb hne => k1 b o hb hne fun d hd => by rw [he] at hd; exact absurd hd xo_ne
theorem sc_NoName_init : FnScope ["self", "name"] ["self", "name"] (defScope s_NoName_init) := ⟨rfl, rfl, rfl, by decide +kernel, rfl, by decide +kernel, by decide +kernel⟩
theorem ok_NoName_init (T : Txt K mg a) : FnOk P w K mg base CX0 1 a.g_NoName_init a.e_NoName_init ["self", "name"] (spInit K a.c_NoName 1 (fs1 "name")) := by
  refine T.fi_NoName.ok sc_NoName_init (fun vs H Q E h => ?_) (fun cdv A outer s H vs Q E hr h => ?_)
  · obtain ⟨e, r, rfl, hl, _⟩ := h; simp [hl]
  · have hu64 := hr.units
    obtain ⟨e, r, rfl, hl, he, q⟩ := h
    obtain ⟨x, rfl⟩ : ∃ x, r = [x] := by match r, hl with | [x], _ => exact ⟨x, rfl⟩
    refine ⟨_, (pss_cons (ps_expr (pe_xinit rfl T.m_LackError T.r_LackError (pa_cons (pv 0) (pa_cons pe_str pa_nil))))
      (pss_one (ps_xfld (pv 0) (pv 1) rfl))), ?_⟩
    walk_at "rd"
    refine ⟨e, a.c_NoName, none, _, rfl, he, T.x_NoName, (by show 1 ≤ 1000; decide), e, a.c_NoName, [], rfl, .bare he, T.x_NoName.c, T.n_NoName_name, (by show 0 < 1000; decide), fun H1 x1 k1 _ => ?_⟩
    exact q H1 x1 fun b o hb hne => k1 b o hb hne fun d hd => by rw [he] at hd; exact absurd hd xo_ne
theorem sc_NameThere_init : FnScope ["self", "name"] ["self", "name"] (defScope s_NameThere_init) := ⟨rfl, rfl, rfl, by decide +kernel, rfl, by decide +kernel, by decide +kernel⟩
theorem ok_NameThere_init (T : Txt K mg a) : FnOk P w K mg base CX0 1 a.g_NameThere_init a.e_NameThere_init ["self", "name"] (spInit K a.c_NameThere 1 (fs1 "name")) := by
  refine T.fi_NameThere.ok sc_NameThere_init (fun vs H Q E h => ?_) (fun cdv A outer s H vs Q E hr h => ?_)
  · obtain ⟨e, r, rfl, hl, _⟩ := h; simp [hl]
  · have hu64 := hr.units
    obtain ⟨e, r, rfl, hl, he, q⟩ := h
    obtain ⟨x, rfl⟩ : ∃ x, r = [x] := by match r, hl with | [x], _ => exact ⟨x, rfl⟩
    refine ⟨_, (pss_cons (ps_expr (pe_xinit rfl T.m_LackError T.r_LackError (pa_cons (pv 0) (pa_cons pe_str pa_nil))))
      (pss_one (ps_xfld (pv 0) (pv 1) rfl))), ?_⟩
    walk_at "rd"
    refine ⟨e, a.c_NameThere, none, _, rfl, he, T.x_NameThere, (by show 1 ≤ 1000; decide), e, a.c_NameThere, [], rfl, .bare he, T.x_NameThere.c, T.n_NameThere_name, (by show 0 < 1000; decide), fun H1 x1 k1 _ => ?_⟩
    exact q H1 x1 fun b o hb hne => k1 b o hb hne fun d hd => by rw [he] at hd; exact absurd hd xo_ne
theorem sc_NoRing_init : FnScope ["self", "thing"] ["self", "thing"] (defScope s_NoRing_init) := ⟨rfl, rfl, rfl, by decide +kernel, rfl, by decide +kernel, by decide +kernel⟩
theorem ok_NoRing_init (T : Txt K mg a) : FnOk P w K mg base CX0 1 a.g_NoRing_init a.e_NoRing_init ["self", "thing"] (spInit K a.c_NoRing 1 (fs1 "thing")) := by
  refine T.fi_NoRing.ok sc_NoRing_init (fun vs H Q E h => ?_) (fun cdv A outer s H vs Q E hr h => ?_)
  · obtain ⟨e, r, rfl, hl, _⟩ := h; simp [hl]
  · have hu64 := hr.units
    obtain ⟨e, r, rfl, hl, he, q⟩ := h
    obtain ⟨x, rfl⟩ : ∃ x, r = [x] := by match r, hl with | [x], _ => exact ⟨x, rfl⟩
    refine ⟨_, (pss_cons (ps_expr (pe_xinit rfl T.m_LackError T.r_LackError (pa_cons (pv 0) (pa_cons pe_str pa_nil))))
      (pss_one (ps_xfld (pv 0) (pv 1) rfl))), ?_⟩
    walk_at "rd"
    refine ⟨e, a.c_NoRing, none, _, rfl, he, T.x_NoRing, (by show 1 ≤ 1000; decide), e, a.c_NoRing, [], rfl, .bare he, T.x_NoRing.c, T.n_NoRing_thing, (by show 0 < 1000; decide), fun H1 x1 k1 _ => ?_⟩
    exact q H1 x1 fun b o hb hne => k1 b o hb hne fun d hd => by rw [he] at hd; exact absurd hd xo_ne
theorem sc_lkinds : FnScope ["_law_e", "_law_found"] ["_law_e"] (defScope s_lkinds) := ⟨rfl, rfl, rfl, by decide +kernel, rfl, by decide +kernel, by decide +kernel⟩
theorem ok_lkinds (T : Txt K mg a) : FnOk P w K mg base CX0 1 a.f_lkinds a.d_lkinds ["_law_e"] (sp_kinds a) := by
  refine T.f_lkinds.ok sc_lkinds (fun vs H Q E h => ?_) (fun cdv A outer s H vs Q E hr h => ?_)
  · obtain ⟨e, C, fs, i, rfl, _⟩ := h; rfl
  · have hu64 := hr.units
    obtain ⟨e, C, fs, i, rfl, hx, hi, q⟩ := h
    refine ⟨_, (pss_cons (ps_set (i := 1) sc_lkinds.nd rfl (Or.inl rfl) (pe_lst (pa_cons (pe_callB (call_isinstK (K := K) rfl) rfl T.z_isinstance bt_isinstance (pa_cons (pv 0) (pa_cons (pe_glob (v := .ref a.c_NoKinds) rfl T.m_NoKinds rfl) pa_nil))) (pa_cons (pe_callB (call_isinstK (K := K) rfl) rfl T.z_isinstance bt_isinstance (pa_cons (pv 0) (pa_cons (pe_glob (v := .ref a.c_NoWord) rfl T.m_NoWord rfl) pa_nil))) (pa_cons (pe_callB (call_isinstK (K := K) rfl) rfl T.z_isinstance bt_isinstance (pa_cons (pv 0) (pa_cons (pe_glob (v := .ref a.c_Full) rfl T.m_Full rfl) pa_nil))) (pa_cons (pe_callB (call_isinstK (K := K) rfl) rfl T.z_isinstance bt_isinstance (pa_cons (pv 0) (pa_cons (pe_glob (v := .ref a.c_Bare) rfl T.m_Bare rfl) pa_nil))) pa_nil))))))
      (pss_cons (ps_set (i := 1) sc_lkinds.nd rfl (Or.inl rfl) (pe_op op_cat (pv 1) (pe_lst (pa_cons (pe_callB (call_isinstK (K := K) rfl) rfl T.z_isinstance bt_isinstance (pa_cons (pv 0) (pa_cons (pe_glob (v := .ref a.c_NoBack) rfl T.m_NoBack rfl) pa_nil))) (pa_cons (pe_callB (call_isinstK (K := K) rfl) rfl T.z_isinstance bt_isinstance (pa_cons (pv 0) (pa_cons (pe_glob (v := .ref a.c_NoLength) rfl T.m_NoLength rfl) pa_nil))) (pa_cons (pe_callB (call_isinstK (K := K) rfl) rfl T.z_isinstance bt_isinstance (pa_cons (pv 0) (pa_cons (pe_glob (v := .ref a.c_NoPlace) rfl T.m_NoPlace rfl) pa_nil))) (pa_cons (pe_callB (call_isinstK (K := K) rfl) rfl T.z_isinstance bt_isinstance (pa_cons (pv 0) (pa_cons (pe_glob (v := .ref a.c_NoRoom) rfl T.m_NoRoom rfl) pa_nil))) pa_nil)))))))
      (pss_cons (ps_set (i := 1) sc_lkinds.nd rfl (Or.inl rfl) (pe_op op_cat (pv 1) (pe_lst (pa_cons (pe_callB (call_isinstK (K := K) rfl) rfl T.z_isinstance bt_isinstance (pa_cons (pv 0) (pa_cons (pe_glob (v := .ref a.c_NoRing) rfl T.m_NoRing rfl) pa_nil))) (pa_cons (pe_callB (call_isinstK (K := K) rfl) rfl T.z_isinstance bt_isinstance (pa_cons (pv 0) (pa_cons (pe_glob (v := .ref a.c_NoList) rfl T.m_NoList rfl) pa_nil))) (pa_cons (pe_callB (call_isinstK (K := K) rfl) rfl T.z_isinstance bt_isinstance (pa_cons (pv 0) (pa_cons (pe_glob (v := .ref a.c_Inside) rfl T.m_Inside rfl) pa_nil))) (pa_cons (pe_callB (call_isinstK (K := K) rfl) rfl T.z_isinstance bt_isinstance (pa_cons (pv 0) (pa_cons (pe_glob (v := .ref a.c_Endless) rfl T.m_Endless rfl) pa_nil))) pa_nil)))))))
      (pss_cons (ps_set (i := 1) sc_lkinds.nd rfl (Or.inl rfl) (pe_op op_cat (pv 1) (pe_lst (pa_cons (pe_callB (call_isinstK (K := K) rfl) rfl T.z_isinstance bt_isinstance (pa_cons (pv 0) (pa_cons (pe_glob (v := .ref a.c_TooLong) rfl T.m_TooLong rfl) pa_nil))) (pa_cons (pe_callB (call_isinstK (K := K) rfl) rfl T.z_isinstance bt_isinstance (pa_cons (pv 0) (pa_cons (pe_glob (v := .ref a.c_Split) rfl T.m_Split rfl) pa_nil))) (pa_cons (pe_callB (call_isinstK (K := K) rfl) rfl T.z_isinstance bt_isinstance (pa_cons (pv 0) (pa_cons (pe_glob (v := .ref a.c_Unlike) rfl T.m_Unlike rfl) pa_nil))) (pa_cons (pe_callB (call_isinstK (K := K) rfl) rfl T.z_isinstance bt_isinstance (pa_cons (pv 0) (pa_cons (pe_glob (v := .ref a.c_NoName) rfl T.m_NoName rfl) pa_nil))) pa_nil)))))))
      (pss_one (ps_ret (pe_op op_cat (pv 1) (pe_lst (pa_cons (pe_callB (call_isinstK (K := K) rfl) rfl T.z_isinstance bt_isinstance (pa_cons (pv 0) (pa_cons (pe_glob (v := .ref a.c_NameThere) rfl T.m_NameThere rfl) pa_nil))) (pa_cons (pe_callB (call_isinstK (K := K) rfl) rfl T.z_isinstance bt_isinstance (pa_cons (pv 0) (pa_cons (pe_glob (v := .ref a.c_NoLine) rfl T.m_NoLine rfl) pa_nil))) pa_nil)))))))))), ?_⟩
    walk_at "rd"
    refine ⟨_, _, _, _, _, rfl, rfl, .exc (hx.same (Same.refl _)) (cls_of T i C hi).2, kit_all T hi (j := 0) rfl, ?_⟩
    refine ⟨_, _, _, _, _, rfl, rfl, .exc (hx.same (Same.refl _)) (cls_of T i C hi).2, kit_all T hi (j := 1) rfl, ?_⟩
    refine ⟨_, _, _, _, _, rfl, rfl, .exc (hx.same (Same.refl _)) (cls_of T i C hi).2, kit_all T hi (j := 2) rfl, ?_⟩
    refine ⟨_, _, _, _, _, rfl, rfl, .exc (hx.same (Same.refl _)) (cls_of T i C hi).2, kit_all T hi (j := 3) rfl, ?_⟩
    refine ⟨by decide, NewL.of fun p1 H1 s1 n1 l1 => ?_⟩
    refine ⟨_, _, _, _, _, rfl, rfl, .exc (hx.same s1) (cls_of T i C hi).2, kit_all T hi (j := 4) rfl, ?_⟩
    refine ⟨_, _, _, _, _, rfl, rfl, .exc (hx.same s1) (cls_of T i C hi).2, kit_all T hi (j := 5) rfl, ?_⟩
    refine ⟨_, _, _, _, _, rfl, rfl, .exc (hx.same s1) (cls_of T i C hi).2, kit_all T hi (j := 6) rfl, ?_⟩
    refine ⟨_, _, _, _, _, rfl, rfl, .exc (hx.same s1) (cls_of T i C hi).2, kit_all T hi (j := 7) rfl, ?_⟩
    refine ⟨by decide, NewL.of fun p2 H2 s2 n2 l2 => ?_⟩
    refine cat_of (s2 _ _ l1) ((Same.refl _) _ _ l2) (by show (8 : Nat) ≤ sizeLine; decide) fun p3 H3 s3 n3 l3 => ?_
    refine ⟨_, _, _, _, _, rfl, rfl, .exc (hx.same (s1.trans (s2.trans s3))) (cls_of T i C hi).2, kit_all T hi (j := 8) rfl, ?_⟩
    refine ⟨_, _, _, _, _, rfl, rfl, .exc (hx.same (s1.trans (s2.trans s3))) (cls_of T i C hi).2, kit_all T hi (j := 9) rfl, ?_⟩
    refine ⟨_, _, _, _, _, rfl, rfl, .exc (hx.same (s1.trans (s2.trans s3))) (cls_of T i C hi).2, kit_all T hi (j := 10) rfl, ?_⟩
    refine ⟨_, _, _, _, _, rfl, rfl, .exc (hx.same (s1.trans (s2.trans s3))) (cls_of T i C hi).2, kit_all T hi (j := 11) rfl, ?_⟩
    refine ⟨by decide, NewL.of fun p4 H4 s4 n4 l4 => ?_⟩
    refine cat_of (s4 _ _ l3) ((Same.refl _) _ _ l4) (by show (12 : Nat) ≤ sizeLine; decide) fun p5 H5 s5 n5 l5 => ?_
    refine ⟨_, _, _, _, _, rfl, rfl, .exc (hx.same (s1.trans (s2.trans (s3.trans (s4.trans s5))))) (cls_of T i C hi).2, kit_all T hi (j := 12) rfl, ?_⟩
    refine ⟨_, _, _, _, _, rfl, rfl, .exc (hx.same (s1.trans (s2.trans (s3.trans (s4.trans s5))))) (cls_of T i C hi).2, kit_all T hi (j := 13) rfl, ?_⟩
    refine ⟨_, _, _, _, _, rfl, rfl, .exc (hx.same (s1.trans (s2.trans (s3.trans (s4.trans s5))))) (cls_of T i C hi).2, kit_all T hi (j := 14) rfl, ?_⟩
    refine ⟨_, _, _, _, _, rfl, rfl, .exc (hx.same (s1.trans (s2.trans (s3.trans (s4.trans s5))))) (cls_of T i C hi).2, kit_all T hi (j := 15) rfl, ?_⟩
    refine ⟨by decide, NewL.of fun p6 H6 s6 n6 l6 => ?_⟩
    refine cat_of (s6 _ _ l5) ((Same.refl _) _ _ l6) (by show (16 : Nat) ≤ sizeLine; decide) fun p7 H7 s7 n7 l7 => ?_
    refine ⟨_, _, _, _, _, rfl, rfl, .exc (hx.same (s1.trans (s2.trans (s3.trans (s4.trans (s5.trans (s6.trans s7))))))) (cls_of T i C hi).2, kit_all T hi (j := 16) rfl, ?_⟩
    refine ⟨_, _, _, _, _, rfl, rfl, .exc (hx.same (s1.trans (s2.trans (s3.trans (s4.trans (s5.trans (s6.trans s7))))))) (cls_of T i C hi).2, kit_all T hi (j := 17) rfl, ?_⟩
    refine ⟨by decide, NewL.of fun p8 H8 s8 n8 l8 => ?_⟩
    refine cat_of (s8 _ _ l7) ((Same.refl _) _ _ l8) (by show (18 : Nat) ≤ sizeLine; decide) fun p9 H9 s9 n9 l9 => ?_
    refine q p9 H9 (s1.trans (s2.trans (s3.trans (s4.trans (s5.trans (s6.trans (s7.trans (s8.trans s9)))))))) ?_ ?_
    · exact (s1.trans (s2.trans (s3.trans (s4.trans (s5.trans (s6.trans (s7.trans s8))))))).free n9
    · rw [l9]; rfl
theorem sc_under : FnScope ["_law_e"] ["_law_e"] (defScope s_under) := ⟨rfl, rfl, rfl, by decide +kernel, rfl, by decide +kernel, by decide +kernel⟩
theorem ok_under (T : Txt K mg a) : FnOk P w K mg base CX0 1 a.f_under a.d_under ["_law_e"] (sp_under a) := by
  refine T.f_under.ok sc_under (fun vs H Q E h => ?_) (fun cdv A outer s H vs Q E hr h => ?_)
  · obtain ⟨e, C, fs, i, rfl, _⟩ := h; rfl
  · have hu64 := hr.units
    obtain ⟨e, C, fs, i, rfl, hx, hi, q⟩ := h
    refine ⟨_, (pss_one (ps_ret (pe_and (pe_callB (call_isinstK (K := K) rfl) rfl T.z_isinstance bt_isinstance (pa_cons (pv 0) (pa_cons (pe_glob (v := .ref a.c_LackError) rfl T.m_LackError rfl) pa_nil))) (pe_one (pe_callB (call_isinstK (K := K) rfl) rfl T.z_isinstance bt_isinstance (pa_cons (pv 0) (pa_cons (pe_bltn (v := .ty "ValueError") rfl T.z_ValueError bt_ValueError rfl) pa_nil))))))), ?_⟩
    walk_at "rd"
    obtain ⟨hc, hxi⟩ := cls_of T i C hi
    refine ⟨_, _, _, _, _, rfl, rfl, .exc hx hxi, kit_ref (b := true) hc T.k_LackError (by simp [lm, List.contains_cons]) (fun _ => rfl), ?_⟩
    refine iteT ?_
    exact ⟨_, _, _, _, _, rfl, rfl, .exc hx hxi, kit_ty (b := true) hc meta_VE (by simp [lm, List.contains_cons]), q⟩
theorem sc_made : FnScope ["_law_one", "_law_other", "_law_found"] ["_law_one", "_law_other"] (defScope s_made) := ⟨rfl, rfl, rfl, by decide +kernel, rfl, by decide +kernel, by decide +kernel⟩
theorem ok_made (T : Txt K mg a) : FnOk P w K mg base CX0 3 a.f_made a.d_made ["_law_one", "_law_other"] (sp_made a) := by
  refine T.f_made.ok sc_made (fun vs H Q E h => ?_) (fun cdv A outer s H vs Q E hr h => ?_)
  · obtain ⟨x, y, rfl, _⟩ := h; rfl
  · have hu64 := hr.units
    obtain ⟨x, y, rfl, q⟩ := h
    refine ⟨_, (pss_cons (ps_set (i := 2) sc_made.nd rfl (Or.inl rfl) (pe_lst (pa_cons (pe_xmake0 T.x_NoKinds T.i_NoKinds rfl T.m_NoKinds (pa_cons pe_str pa_nil)) (pa_cons (pe_xmake T.x_NoWord T.i_NoWord T.fn_NoWord (ok_NoWord_init T) (hr.mono (by decide)) T.b_NoWord pass0 rfl T.m_NoWord (pa_cons (pv 0) pa_nil)) (pa_cons (pe_xmake0 T.x_Full T.i_Full rfl T.m_Full (pa_cons pe_str pa_nil)) (pa_cons (pe_xmake0 T.x_Bare T.i_Bare rfl T.m_Bare (pa_cons pe_str pa_nil)) (pa_cons (pe_xmake0 T.x_NoBack T.i_NoBack rfl T.m_NoBack (pa_cons pe_str pa_nil)) (pa_cons (pe_xmake T.x_NoLength T.i_NoLength T.fn_NoLength (ok_NoLength_init T) (hr.mono (by decide)) T.b_NoLength pass0 rfl T.m_NoLength (pa_cons (pv 0) pa_nil)) pa_nil))))))))
      (pss_cons (ps_set (i := 2) sc_made.nd rfl (Or.inl rfl) (pe_op op_cat (pv 2) (pe_lst (pa_cons (pe_xmake T.x_NoPlace T.i_NoPlace T.fn_NoPlace (ok_NoPlace_init T) (hr.mono (by decide)) T.b_NoPlace pass0 rfl T.m_NoPlace (pa_cons (pv 0) pa_nil)) (pa_cons (pe_xmake T.x_NoRoom T.i_NoRoom T.fn_NoRoom (ok_NoRoom_init T) (hr.mono (by decide)) T.b_NoRoom pass0 rfl T.m_NoRoom (pa_cons (pv 0) pa_nil)) (pa_cons (pe_xmake T.x_NoRing T.i_NoRing T.fn_NoRing (ok_NoRing_init T) (hr.mono (by decide)) T.b_NoRing pass0 rfl T.m_NoRing (pa_cons (pv 0) pa_nil)) (pa_cons (pe_xmake T.x_NoList T.i_NoList T.fn_NoList (ok_NoList_init T) (hr.mono (by decide)) T.b_NoList pass0 rfl T.m_NoList (pa_cons (pv 0) pa_nil)) (pa_cons (pe_xmake T.x_Inside T.i_Inside T.fn_Inside (ok_Inside_init T) (hr.mono (by decide)) T.b_Inside pass0 rfl T.m_Inside (pa_cons (pv 0) (pa_cons (pv 1) pa_nil))) (pa_cons (pe_xmake T.x_Endless T.i_Endless T.fn_Endless (ok_Endless_init T) (hr.mono (by decide)) T.b_Endless pass0 rfl T.m_Endless (pa_cons (pv 0) (pa_cons (pv 1) pa_nil))) pa_nil)))))))))
      (pss_one (ps_ret (pe_op op_cat (pv 2) (pe_lst (pa_cons (pe_xmake T.x_TooLong T.i_TooLong T.fn_TooLong (ok_TooLong_init T) (hr.mono (by decide)) T.b_TooLong pass0 rfl T.m_TooLong (pa_cons (pv 0) pa_nil)) (pa_cons (pe_xmake T.x_Split T.i_Split T.fn_Split (ok_Split_init T) (hr.mono (by decide)) T.b_Split pass0 rfl T.m_Split (pa_cons (pv 0) (pa_cons (pv 1) pa_nil))) (pa_cons (pe_xmake0 T.x_Unlike T.i_Unlike rfl T.m_Unlike (pa_cons pe_str pa_nil)) (pa_cons (pe_xmake T.x_NoName T.i_NoName T.fn_NoName (ok_NoName_init T) (hr.mono (by decide)) T.b_NoName pass0 rfl T.m_NoName (pa_cons (pv 0) pa_nil)) (pa_cons (pe_xmake T.x_NameThere T.i_NameThere T.fn_NameThere (ok_NameThere_init T) (hr.mono (by decide)) T.b_NameThere pass0 rfl T.m_NameThere (pa_cons (pv 0) pa_nil)) (pa_cons (pe_xmake0 T.x_NoLine T.i_NoLine rfl T.m_NoLine (pa_cons pe_str pa_nil)) pa_nil)))))))))))), ?_⟩
    walk_at "rd"
    refine ⟨by decide, Mk0.of fun e1 H1 s1 n1 x1 => ?_⟩
    refine ⟨by decide, MkI.of rfl fun e2 H2 s2 n2 x2 => ?_⟩
    refine ⟨by decide, Mk0.of fun e3 H3 s3 n3 x3 => ?_⟩
    refine ⟨by decide, Mk0.of fun e4 H4 s4 n4 x4 => ?_⟩
    refine ⟨by decide, Mk0.of fun e5 H5 s5 n5 x5 => ?_⟩
    refine ⟨by decide, MkI.of rfl fun e6 H6 s6 n6 x6 => ?_⟩
    refine ⟨by decide, NewL.of fun p7 H7 s7 n7 l7 => ?_⟩
    refine ⟨by decide, MkI.of rfl fun e8 H8 s8 n8 x8 => ?_⟩
    refine ⟨by decide, MkI.of rfl fun e9 H9 s9 n9 x9 => ?_⟩
    refine ⟨by decide, MkI.of rfl fun e10 H10 s10 n10 x10 => ?_⟩
    refine ⟨by decide, MkI.of rfl fun e11 H11 s11 n11 x11 => ?_⟩
    refine ⟨by decide, MkI.of rfl fun e12 H12 s12 n12 x12 => ?_⟩
    refine ⟨by decide, MkI.of rfl fun e13 H13 s13 n13 x13 => ?_⟩
    refine ⟨by decide, NewL.of fun p14 H14 s14 n14 l14 => ?_⟩
    refine cat_of ((s8.trans (s9.trans (s10.trans (s11.trans (s12.trans (s13.trans s14)))))) _ _ l7) ((Same.refl _) _ _ l14) (by show (12 : Nat) ≤ sizeLine; decide) fun p15 H15 s15 n15 l15 => ?_
    refine ⟨by decide, MkI.of rfl fun e16 H16 s16 n16 x16 => ?_⟩
    refine ⟨by decide, MkI.of rfl fun e17 H17 s17 n17 x17 => ?_⟩
    refine ⟨by decide, Mk0.of fun e18 H18 s18 n18 x18 => ?_⟩
    refine ⟨by decide, MkI.of rfl fun e19 H19 s19 n19 x19 => ?_⟩
    refine ⟨by decide, MkI.of rfl fun e20 H20 s20 n20 x20 => ?_⟩
    refine ⟨by decide, Mk0.of fun e21 H21 s21 n21 x21 => ?_⟩
    refine ⟨by decide, NewL.of fun p22 H22 s22 n22 l22 => ?_⟩
    refine cat_of ((s16.trans (s17.trans (s18.trans (s19.trans (s20.trans (s21.trans s22)))))) _ _ l15) ((Same.refl _) _ _ l22) (by show (18 : Nat) ≤ sizeLine; decide) fun p23 H23 s23 n23 l23 => ?_
    refine q p23 [e1, e2, e3, e4, e5, e6, e8, e9, e10, e11, e12, e13, e16, e17, e18, e19, e20, e21] H23 (s1.trans (s2.trans (s3.trans (s4.trans (s5.trans (s6.trans (s7.trans (s8.trans (s9.trans (s10.trans (s11.trans (s12.trans (s13.trans (s14.trans (s15.trans (s16.trans (s17.trans (s18.trans (s19.trans (s20.trans (s21.trans (s22.trans s23)))))))))))))))))))))) ?_ l23 rfl ?_
    · exact (s1.trans (s2.trans (s3.trans (s4.trans (s5.trans (s6.trans (s7.trans (s8.trans (s9.trans (s10.trans (s11.trans (s12.trans (s13.trans (s14.trans (s15.trans (s16.trans (s17.trans (s18.trans (s19.trans (s20.trans (s21.trans s22))))))))))))))))))))).free n23
    intro i e he
    match i, he with
    | 0, h => cases h; exact ⟨_, _, rfl, x1.same (s2.trans (s3.trans (s4.trans (s5.trans (s6.trans (s7.trans (s8.trans (s9.trans (s10.trans (s11.trans (s12.trans (s13.trans (s14.trans (s15.trans (s16.trans (s17.trans (s18.trans (s19.trans (s20.trans (s21.trans (s22.trans s23)))))))))))))))))))))⟩
    | 1, h => cases h; exact ⟨_, _, rfl, x2.same (s3.trans (s4.trans (s5.trans (s6.trans (s7.trans (s8.trans (s9.trans (s10.trans (s11.trans (s12.trans (s13.trans (s14.trans (s15.trans (s16.trans (s17.trans (s18.trans (s19.trans (s20.trans (s21.trans (s22.trans s23))))))))))))))))))))⟩
    | 2, h => cases h; exact ⟨_, _, rfl, x3.same (s4.trans (s5.trans (s6.trans (s7.trans (s8.trans (s9.trans (s10.trans (s11.trans (s12.trans (s13.trans (s14.trans (s15.trans (s16.trans (s17.trans (s18.trans (s19.trans (s20.trans (s21.trans (s22.trans s23)))))))))))))))))))⟩
    | 3, h => cases h; exact ⟨_, _, rfl, x4.same (s5.trans (s6.trans (s7.trans (s8.trans (s9.trans (s10.trans (s11.trans (s12.trans (s13.trans (s14.trans (s15.trans (s16.trans (s17.trans (s18.trans (s19.trans (s20.trans (s21.trans (s22.trans s23))))))))))))))))))⟩
    | 4, h => cases h; exact ⟨_, _, rfl, x5.same (s6.trans (s7.trans (s8.trans (s9.trans (s10.trans (s11.trans (s12.trans (s13.trans (s14.trans (s15.trans (s16.trans (s17.trans (s18.trans (s19.trans (s20.trans (s21.trans (s22.trans s23)))))))))))))))))⟩
    | 5, h => cases h; exact ⟨_, _, rfl, x6.same (s7.trans (s8.trans (s9.trans (s10.trans (s11.trans (s12.trans (s13.trans (s14.trans (s15.trans (s16.trans (s17.trans (s18.trans (s19.trans (s20.trans (s21.trans (s22.trans s23))))))))))))))))⟩
    | 6, h => cases h; exact ⟨_, _, rfl, x8.same (s9.trans (s10.trans (s11.trans (s12.trans (s13.trans (s14.trans (s15.trans (s16.trans (s17.trans (s18.trans (s19.trans (s20.trans (s21.trans (s22.trans s23))))))))))))))⟩
    | 7, h => cases h; exact ⟨_, _, rfl, x9.same (s10.trans (s11.trans (s12.trans (s13.trans (s14.trans (s15.trans (s16.trans (s17.trans (s18.trans (s19.trans (s20.trans (s21.trans (s22.trans s23)))))))))))))⟩
    | 8, h => cases h; exact ⟨_, _, rfl, x10.same (s11.trans (s12.trans (s13.trans (s14.trans (s15.trans (s16.trans (s17.trans (s18.trans (s19.trans (s20.trans (s21.trans (s22.trans s23))))))))))))⟩
    | 9, h => cases h; exact ⟨_, _, rfl, x11.same (s12.trans (s13.trans (s14.trans (s15.trans (s16.trans (s17.trans (s18.trans (s19.trans (s20.trans (s21.trans (s22.trans s23)))))))))))⟩
    | 10, h => cases h; exact ⟨_, _, rfl, x12.same (s13.trans (s14.trans (s15.trans (s16.trans (s17.trans (s18.trans (s19.trans (s20.trans (s21.trans (s22.trans s23))))))))))⟩
    | 11, h => cases h; exact ⟨_, _, rfl, x13.same (s14.trans (s15.trans (s16.trans (s17.trans (s18.trans (s19.trans (s20.trans (s21.trans (s22.trans s23)))))))))⟩
    | 12, h => cases h; exact ⟨_, _, rfl, x16.same (s17.trans (s18.trans (s19.trans (s20.trans (s21.trans (s22.trans s23))))))⟩
    | 13, h => cases h; exact ⟨_, _, rfl, x17.same (s18.trans (s19.trans (s20.trans (s21.trans (s22.trans s23)))))⟩
    | 14, h => cases h; exact ⟨_, _, rfl, x18.same (s19.trans (s20.trans (s21.trans (s22.trans s23))))⟩
    | 15, h => cases h; exact ⟨_, _, rfl, x19.same (s20.trans (s21.trans (s22.trans s23)))⟩
    | 16, h => cases h; exact ⟨_, _, rfl, x20.same (s21.trans (s22.trans s23))⟩
    | 17, h => cases h; exact ⟨_, _, rfl, x21.same (s22.trans s23)⟩
    | (n + 18), h => simp at h
theorem sc_fields : FnScope ["_law_one", "_law_other", "_law_within", "_law_endless", "_law_split"] ["_law_one", "_law_other"] (defScope s_fields) := ⟨rfl, rfl, rfl, by decide +kernel, rfl, by decide +kernel, by decide +kernel⟩
theorem ok_fields (T : Txt K mg a) : FnOk P w K mg base CX0 3 a.f_fields a.d_fields ["_law_one", "_law_other"] (sp_fields K) := by
  refine T.f_fields.ok sc_fields (fun vs H Q E h => ?_) (fun cdv A outer s H vs Q E hr h => ?_)
  · obtain ⟨x, y, d1, d2, rfl, _⟩ := h; rfl
  · have hu64 := hr.units
    obtain ⟨x, y, d1, d2, rfl, h1, h2, q⟩ := h
    refine ⟨_, (pss_cons (ps_set (i := 2) sc_fields.nd rfl (Or.inl rfl) (pe_xmake T.x_Inside T.i_Inside T.fn_Inside (ok_Inside_init T) (hr.mono (by decide)) T.b_Inside pass0 rfl T.m_Inside (pa_cons (pv 0) (pa_cons (pv 1) pa_nil))))
      (pss_cons (ps_set (i := 3) sc_fields.nd rfl (Or.inl rfl) (pe_xmake T.x_Endless T.i_Endless T.fn_Endless (ok_Endless_init T) (hr.mono (by decide)) T.b_Endless pass0 rfl T.m_Endless (pa_cons (pv 0) (pa_cons (pv 1) pa_nil))))
      (pss_cons (ps_set (i := 4) sc_fields.nd rfl (Or.inl rfl) (pe_xmake T.x_Split T.i_Split T.fn_Split (ok_Split_init T) (hr.mono (by decide)) T.b_Split pass0 rfl T.m_Split (pa_cons (pv 0) (pa_cons (pv 1) pa_nil))))
      (pss_cons (ps_if (PW.pt (pw_or (pt_cmpR (op_neDK (K := K) rfl hu64) (pe_xfldK (K := K) rfl (pv 2) rfl) (pv 0) (nomark _)) (pw_or (pt_cmpR (op_neDK (K := K) rfl hu64) (pe_xfldK (K := K) rfl (pv 2) rfl) (pv 1) (nomark _)) (pw_or (pt_cmpR (op_neDK (K := K) rfl hu64) (pe_xfldK (K := K) rfl (pv 4) rfl) (pv 0) (nomark _)) (pw_or1 (pt_cmpR (op_neDK (K := K) rfl hu64) (pe_xfldK (K := K) rfl (pv 4) rfl) (pv 1) (nomark _))))))) (pss_one (ps_ret pe_bl)) pss_nil)
      (pss_cons (ps_if (PW.pt (pw_or (pt_cmpR (op_neDK (K := K) rfl hu64) (pe_xfldK (K := K) rfl (pv 3) rfl) (pv 0) (nomark _)) (pw_or (pt_cmpR (op_neDK (K := K) rfl hu64) (pe_xfldK (K := K) rfl (pv 3) rfl) (pv 1) (nomark _)) (pw_or1 (pt_cmpR (op_neDK (K := K) rfl hu64) (pe_xfldK (K := K) rfl (pe_xmake T.x_NoWord T.i_NoWord T.fn_NoWord (ok_NoWord_init T) (hr.mono (by decide)) T.b_NoWord pass0 rfl T.m_NoWord (pa_cons (pv 0) pa_nil)) rfl) (pv 0) (nomark _)))))) (pss_one (ps_ret pe_bl)) pss_nil)
      (pss_cons (ps_if (PW.pt (pw_or (pt_cmpR (op_neDK (K := K) rfl hu64) (pe_xfldK (K := K) rfl (pe_xmake T.x_NoLength T.i_NoLength T.fn_NoLength (ok_NoLength_init T) (hr.mono (by decide)) T.b_NoLength pass0 rfl T.m_NoLength (pa_cons (pv 0) pa_nil)) rfl) (pv 0) (nomark _)) (pw_or (pt_cmpR (op_neDK (K := K) rfl hu64) (pe_xfldK (K := K) rfl (pe_xmake T.x_NoPlace T.i_NoPlace T.fn_NoPlace (ok_NoPlace_init T) (hr.mono (by decide)) T.b_NoPlace pass0 rfl T.m_NoPlace (pa_cons (pv 0) pa_nil)) rfl) (pv 0) (nomark _)) (pw_or1 (pt_cmpR (op_neDK (K := K) rfl hu64) (pe_xfldK (K := K) rfl (pe_xmake T.x_NoRoom T.i_NoRoom T.fn_NoRoom (ok_NoRoom_init T) (hr.mono (by decide)) T.b_NoRoom pass0 rfl T.m_NoRoom (pa_cons (pv 0) pa_nil)) rfl) (pv 0) (nomark _)))))) (pss_one (ps_ret pe_bl)) pss_nil)
      (pss_cons (ps_if (PW.pt (pw_or (pt_cmpR (op_neDK (K := K) rfl hu64) (pe_xfldK (K := K) rfl (pe_xmake T.x_NoRing T.i_NoRing T.fn_NoRing (ok_NoRing_init T) (hr.mono (by decide)) T.b_NoRing pass0 rfl T.m_NoRing (pa_cons (pv 0) pa_nil)) rfl) (pv 0) (nomark _)) (pw_or (pt_cmpR (op_neDK (K := K) rfl hu64) (pe_xfldK (K := K) rfl (pe_xmake T.x_NoList T.i_NoList T.fn_NoList (ok_NoList_init T) (hr.mono (by decide)) T.b_NoList pass0 rfl T.m_NoList (pa_cons (pv 0) pa_nil)) rfl) (pv 0) (nomark _)) (pw_or1 (pt_cmpR (op_neDK (K := K) rfl hu64) (pe_xfldK (K := K) rfl (pe_xmake T.x_TooLong T.i_TooLong T.fn_TooLong (ok_TooLong_init T) (hr.mono (by decide)) T.b_TooLong pass0 rfl T.m_TooLong (pa_cons (pv 0) pa_nil)) rfl) (pv 0) (nomark _)))))) (pss_one (ps_ret pe_bl)) pss_nil)
      (pss_one (ps_ret (pe_and (pe_cmpR (op_eqDK (K := K) rfl hu64) (pe_xfldK (K := K) rfl (pe_xmake T.x_NoName T.i_NoName T.fn_NoName (ok_NoName_init T) (hr.mono (by decide)) T.b_NoName pass0 rfl T.m_NoName (pa_cons (pv 0) pa_nil)) rfl) (pv 0) (nomark _)) (pe_one (pe_cmpR (op_eqDK (K := K) rfl hu64) (pe_xfldK (K := K) rfl (pe_xmake T.x_NameThere T.i_NameThere T.fn_NameThere (ok_NameThere_init T) (hr.mono (by decide)) T.b_NameThere pass0 rfl T.m_NameThere (pa_cons (pv 0) pa_nil)) rfl) (pv 0) (nomark _))))))))))))), ?_⟩
    walk_at "rd"
    refine ⟨by decide, MkI.of rfl fun e1 H1 s1 n1 x1 => ?_⟩
    refine ⟨by decide, MkI.of rfl fun e2 H2 s2 n2 x2 => ?_⟩
    refine ⟨by decide, MkI.of rfl fun e3 H3 s3 n3 x3 => ?_⟩
    refine ⟨_, _, _, _, rfl, x1.same (s2.trans s3), T.x_Inside.c, T.n_Inside_one, fs2_1 (by decide +kernel), ne_self (h1.same (s1.trans (s2.trans s3))) ⟨false, rfl, iteF ?_⟩⟩
    refine ⟨_, _, _, _, rfl, x1.same (s2.trans s3), T.x_Inside.c, T.n_Inside_other, fs2_2, ne_self (h2.same (s1.trans (s2.trans s3))) ⟨false, rfl, iteF ?_⟩⟩
    refine ⟨_, _, _, _, rfl, x3.same (Same.refl _), T.x_Split.c, T.n_Split_one, fs2_1 (by decide +kernel), ne_self (h1.same (s1.trans (s2.trans s3))) ⟨false, rfl, iteF ?_⟩⟩
    refine ⟨_, _, _, _, rfl, x3.same (Same.refl _), T.x_Split.c, T.n_Split_other, fs2_2, ne_self (h2.same (s1.trans (s2.trans s3))) ⟨false, rfl, iteF ?_⟩⟩
    refine ⟨_, _, _, _, rfl, x2.same s3, T.x_Endless.c, T.n_Endless_head, fs2_1 (by decide +kernel), ne_self (h1.same (s1.trans (s2.trans s3))) ⟨false, rfl, iteF ?_⟩⟩
    refine ⟨_, _, _, _, rfl, x2.same s3, T.x_Endless.c, T.n_Endless_lap, fs2_2, ne_self (h2.same (s1.trans (s2.trans s3))) ⟨false, rfl, iteF ?_⟩⟩
    refine ⟨by decide, MkI.of rfl fun e4 H4 s4 n4 x4 => ?_⟩
    refine ⟨_, _, _, _, rfl, x4.same (Same.refl _), T.x_NoWord.c, T.n_NoWord_word, fs1_get, ne_self (h1.same (s1.trans (s2.trans (s3.trans s4)))) ⟨false, rfl, iteF ?_⟩⟩
    refine ⟨by decide, MkI.of rfl fun e5 H5 s5 n5 x5 => ?_⟩
    refine ⟨_, _, _, _, rfl, x5.same (Same.refl _), T.x_NoLength.c, T.n_NoLength_length, fs1_get, ne_self (h1.same (s1.trans (s2.trans (s3.trans (s4.trans s5))))) ⟨false, rfl, iteF ?_⟩⟩
    refine ⟨by decide, MkI.of rfl fun e6 H6 s6 n6 x6 => ?_⟩
    refine ⟨_, _, _, _, rfl, x6.same (Same.refl _), T.x_NoPlace.c, T.n_NoPlace_place, fs1_get, ne_self (h1.same (s1.trans (s2.trans (s3.trans (s4.trans (s5.trans s6)))))) ⟨false, rfl, iteF ?_⟩⟩
    refine ⟨by decide, MkI.of rfl fun e7 H7 s7 n7 x7 => ?_⟩
    refine ⟨_, _, _, _, rfl, x7.same (Same.refl _), T.x_NoRoom.c, T.n_NoRoom_room, fs1_get, ne_self (h1.same (s1.trans (s2.trans (s3.trans (s4.trans (s5.trans (s6.trans s7))))))) ⟨false, rfl, iteF ?_⟩⟩
    refine ⟨by decide, MkI.of rfl fun e8 H8 s8 n8 x8 => ?_⟩
    refine ⟨_, _, _, _, rfl, x8.same (Same.refl _), T.x_NoRing.c, T.n_NoRing_thing, fs1_get, ne_self (h1.same (s1.trans (s2.trans (s3.trans (s4.trans (s5.trans (s6.trans (s7.trans s8)))))))) ⟨false, rfl, iteF ?_⟩⟩
    refine ⟨by decide, MkI.of rfl fun e9 H9 s9 n9 x9 => ?_⟩
    refine ⟨_, _, _, _, rfl, x9.same (Same.refl _), T.x_NoList.c, T.n_NoList_word, fs1_get, ne_self (h1.same (s1.trans (s2.trans (s3.trans (s4.trans (s5.trans (s6.trans (s7.trans (s8.trans s9))))))))) ⟨false, rfl, iteF ?_⟩⟩
    refine ⟨by decide, MkI.of rfl fun e10 H10 s10 n10 x10 => ?_⟩
    refine ⟨_, _, _, _, rfl, x10.same (Same.refl _), T.x_TooLong.c, T.n_TooLong_word, fs1_get, ne_self (h1.same (s1.trans (s2.trans (s3.trans (s4.trans (s5.trans (s6.trans (s7.trans (s8.trans (s9.trans s10)))))))))) ⟨false, rfl, iteF ?_⟩⟩
    refine ⟨by decide, MkI.of rfl fun e11 H11 s11 n11 x11 => ?_⟩
    refine ⟨_, _, _, _, rfl, x11.same (Same.refl _), T.x_NoName.c, T.n_NoName_name, fs1_get, eq_self (h1.same (s1.trans (s2.trans (s3.trans (s4.trans (s5.trans (s6.trans (s7.trans (s8.trans (s9.trans (s10.trans s11))))))))))) ⟨true, rfl, iteT ?_⟩⟩
    refine ⟨by decide, MkI.of rfl fun e12 H12 s12 n12 x12 => ?_⟩
    exact ⟨_, _, _, _, rfl, x12.same (Same.refl _), T.x_NameThere.c, T.n_NameThere_name, fs1_get, eq_self (h1.same (s1.trans (s2.trans (s3.trans (s4.trans (s5.trans (s6.trans (s7.trans (s8.trans (s9.trans (s10.trans (s11.trans s12)))))))))))) (q _ (s1.trans (s2.trans (s3.trans (s4.trans (s5.trans (s6.trans (s7.trans (s8.trans (s9.trans (s10.trans (s11.trans s12))))))))))))⟩
theorem sc_law : FnScope ["_law_script", "_law_cell", "_law_some", "_law_one", "_law_other", "_law_number", "_law_refusal"] ["_law_script"] (defScope s_law) := ⟨rfl, rfl, rfl, by decide +kernel, rfl, by decide +kernel, by decide +kernel⟩
theorem ok_law (T : Txt K mg a) : FnOk P w K mg base CX0 4 a.f_law a.d_law ["_law_script"] (spLaw K) := by
  refine T.f_law.ok sc_law (fun vs H Q E h => ?_) (fun cdv A outer s H vs Q E hr h => ?_)
  · obtain ⟨b, ns, rfl, _⟩ := h; rfl
  · have hu64 := hr.units
    obtain ⟨b, ns, rfl, hS, hl, q⟩ := h
    refine ⟨_, (pss_cons (ps_set (i := 1) sc_law.nd rfl (Or.inl rfl) (pe_call (ok_cell_at T) (hr.mono (by decide)) rfl T.m_cell_at T.f_cell_at.kp T.b_cell_at .nil pass0 (pa_cons (pv 0) (pa_cons pe_int pa_nil))))
      (pss_cons (ps_set (i := 2) sc_law.nd rfl (Or.inl rfl) (pe_lst (pa_cons pe_str (pa_cons pe_str (pa_cons (pv 1) (pa_cons (pe_un un_neg pe_int) (pa_cons pe_non (pa_cons (pe_lst (pa_cons (pv 1) pa_nil)) (pa_cons pe_str pa_nil)))))))))
      (pss_cons (ps_set (i := 3) sc_law.nd rfl (Or.inl rfl) (pe_ix (ix_listK (K := K) rfl) (pv 2) (pe_op op_mod (pv 1) pe_int) (fun _ _ => rfl)))
      (pss_cons (ps_set (i := 4) sc_law.nd rfl (Or.inl rfl) (pe_ix (ix_listK (K := K) rfl) (pv 2) (pe_op op_mod (pe_op op_fdiv (pv 1) pe_int) pe_int) (fun _ _ => rfl)))
      (pss_cons (ps_for PassesOwn.never rfl (pi_enum rfl T.z_enumerate (pa_cons (pe_call (ok_made T) (hr.mono (by decide)) rfl T.m_made T.f_made.kp T.b_made .nil pass0 (pa_cons (pv 3) (pa_cons (pv 4) pa_nil))) pa_nil)) (pg_tup rfl (pgs_cons (pg_name (i := 5) sc_law.nd rfl (Or.inr rfl)) (pgs_cons (pg_name (i := 6) sc_law.nd rfl (Or.inl rfl)) pgs_nil)))
      (pss_one (ps_if (PW.pt (pw_or (pt_cmpR (op_neDK (K := K) rfl hu64) (pe_call (ok_lkinds T) (hr.mono (by decide)) rfl T.m_lkinds T.f_lkinds.kp T.b_lkinds .nil pass0 (pa_cons (pv 6) pa_nil)) (pe_comp (N := ["_law_k", "_law_number"]) (ix := [none, some 5]) rfl (cmpOk_ok rfl) rfl (pi_range1 rfl T.z_range (pa_cons pe_int pa_nil)) (fun _ _ _ _ => (pg_name (i := 0) (show (["_law_k", "_law_number"] : List Str).Nodup from by decide +kernel) rfl (Or.inl rfl) (Or.inr rfl))) (fun _ _ _ _ => pifs_nil) (fun _ _ _ _ => (pe_cmpR (op_eqDK (K := K) rfl hu64) (pv 0) (pv 1) (nomark _)))) (nomark _)) (pw_or1 (pt_not (pt_val (pe_call (ok_under T) (hr.mono (by decide)) rfl T.m_under T.f_under.kp T.b_under .nil pass0 (pa_cons (pv 6) pa_nil))))))) (pss_one (ps_ret pe_bl)) pss_nil)))
      (pss_one (ps_ret (pe_and (pe_callB (call_isinstK (K := K) rfl) rfl T.z_isinstance bt_isinstance (pa_cons (pe_xmake0 T.x_LackError T.i_LackError rfl T.m_LackError (pa_cons pe_str pa_nil)) (pa_cons (pe_bltn (v := .ty "ValueError") rfl T.z_ValueError bt_ValueError rfl) pa_nil))) (pe_and (pe_call (ok_fields T) (hr.mono (by decide)) rfl T.m_fields T.f_fields.kp T.b_fields .nil pass0 (pa_cons (pv 3) (pa_cons (pv 4) pa_nil))) (pe_one (pe_call (ok_fields T) (hr.mono (by decide)) rfl T.m_fields T.f_fields.kp T.b_fields .nil pass0 (pa_cons (pv 4) (pa_cons (pv 3) pa_nil))))))))))))), ?_⟩
    walk_at "rd"
    refine ⟨b, ns, 0, rfl, hS, by decide, ?_⟩
    generalize cell ns 0 = c
    refine ⟨by decide, NewL.of fun p1 H1 s1 n1 l1 => ?_⟩
    refine ⟨by decide, NewL.of fun p2 H2 s2 n2 l2 => ?_⟩
    walk_at "rd"
    refine ⟨by decide, ?_⟩
    have o1 : SqL K H2 p1 [.int c] := .mk (s2 _ _ l1)
    obtain ⟨x, d1, hx, ox⟩ := some_at (i := c % 7) o1 (Int.emod_nonneg _ (by decide)) (Int.emod_lt_of_pos _ (by decide))
    obtain ⟨y, d2, hy, oy⟩ := some_at (i := c / 7 % 7) o1 (Int.emod_nonneg _ (by decide)) (Int.emod_lt_of_pos _ (by decide))
    refine ⟨p2, _, _, x, rfl, rfl, .mk l2, hx, ?_⟩
    walk_at "rd"
    refine ⟨⟨by decide, by decide⟩, by decide, ?_⟩
    refine ⟨p2, _, _, y, rfl, rfl, .mk l2, hy, ?_⟩
    walk_at "rd"
    refine ⟨x, y, rfl, fun p3 es H3 s3 n3 l3 hlen hes => ?_⟩
    refine ⟨p3, rfl, ⟨_, .mk l3⟩, ForRun.enum (xs := es.map .ref) (fun i σ H' => ∃ v5 v6, σ = [some (.ref b), some (.int c), some (.ref p2), some x, some y, v5, v6] ∧ Same H3 H') ⟨none, none, rfl, Same.refl _⟩ (fun i σ H' _ ⟨_, _, _, s'⟩ => s'.seq (.mk l3)) ?_ ?_⟩
    · rintro i z p4 σ H4 hz ⟨v5, v6, rfl, s4⟩ n4
      rw [List.getElem?_map] at hz
      cases he : es[i]? with
      | none => rw [he] at hz; cases hz
      | some e =>
        rw [he] at hz
        cases hz
        obtain ⟨fs, C, hC, hX⟩ := hes i e he
        have s5 : Same H4 (upd H4 p4 (.tup [.int i, .ref e])) := same_upd n4
        walk_at "rd"
        refine ⟨p4, _, rfl, .mk upd_same, rfl, _, _, rfl, _, _, rfl, rfl, ?_⟩
        generalize upd H4 p4 (.tup [.int i, .ref e]) = H5 at s5
        have hX5 := hX.same (s4.trans s5)
        refine ⟨e, C, fs, i, rfl, hX5, hC, fun p6 H6 s6 n6 l6 => ?_⟩
        refine ⟨18, rfl, by decide, by decide, CompRun.rangeA (fun k => .bl (decide (k = i))) (by decide) ?_ ?_⟩
        · intro k H7 Q7 hk s7 q7
          walk_at "rd"
          refine .inl ⟨rfl, ?_⟩
          have e7 := q7 H7 (Same.refl _)
          have e8 : decide (V.int (0 + (k : Int)) = V.int (i : Int)) = decide (k = i) := by
            rw [dec_int]
            by_cases h : k = i
            · subst h; simp
            · have : ¬ ((0 : Int) + (k : Int) = (i : Int)) := by omega
              rw [decide_eq_false h]
              exact beq_eq_false_iff_ne.mpr this
          rw [e8]
          exact e7
        · intro p8 H8 s8 n8 l8
          refine neL_same (.mk (s8 _ _ l6)) (.mk l8) row_flat ⟨false, rfl, iteF ?_⟩
          refine ⟨e, C, fs, i, rfl, hX5.same (s6.trans s8), hC, ⟨true, rfl, iteF ?_⟩⟩
          exact ⟨_, _, rfl, s4.trans (s5.trans (s6.trans s8))⟩
    · rintro σ H4 ⟨v5, v6, rfl, s4⟩
      walk_at "rd"
      refine ⟨by decide, Mk0.of fun e5 H5 s5 n5 x5 => ?_⟩
      refine ⟨_, _, _, _, _, rfl, rfl, .exc x5 T.xi_LackError, kit_ty (b := true) T.k_LackError meta_VE (by simp [List.contains_cons]), ?_⟩
      walk_at "rd?"
      simp only [if_true]
      have s25 := s3.trans (s4.trans s5)
      refine ⟨x, y, d1, d2, rfl, ox.same s25, oy.same s25, fun H6 s6 => ?_⟩
      refine ⟨true, rfl, iteT ?_⟩
      exact ⟨y, x, d2, d1, rfl, oy.same (s25.trans s6), ox.same (s25.trans s6), fun H7 s7 => q H7⟩
end
end Pk02

set_option Elab.async false
set_option linter.all false
set_option maxRecDepth 100000
open PySem PySem.W PyProof.Rows
def PySem.W.Fast.tw11717055891801517133 : Unit := ()
def PySem.W.Fast.tw3805399879030184283 : Unit := ()
def PySem.W.Fast.tw6037779515617395826 : Unit := ()
def PySem.W.Fast.tw14301829543285682532 : Unit := ()
def PySem.W.Fast.tw7931408578254248177 : Unit := ()
def PySem.W.Fast.tw3064705163269839035 : Unit := ()
def PySem.W.Fast.tw17325178272202642549 : Unit := ()
def PySem.W.Fast.tw4928264637641949324 : Unit := ()
def PySem.W.Fast.tw6200084205083492964 : Unit := ()
def PySem.W.Fast.tw17660089916221514802 : Unit := ()
def PySem.W.Fast.tw6920515155987092716 : Unit := ()
def PySem.W.Fast.tw3958864618826085033 : Unit := ()
def PySem.W.Fast.tw6334206278085252042 : Unit := ()
def PySem.W.Fast.tw7274822716097236708 : Unit := ()
def PySem.W.Fast.tw10644780810563954718 : Unit := ()
def PySem.W.Fast.tw16303399864458777327 : Unit := ()
def PySem.W.Fast.tw7483665835454415726 : Unit := ()
def PySem.W.Fast.tw12912827068763614105 : Unit := ()
def PySem.W.Fast.tw15974557292910840594 : Unit := ()
def PySem.W.Fast.tw9716300092499630778 : Unit := ()
def PySem.W.Fast.tw18325010152716302834 : Unit := ()
def PySem.W.Fast.tw6232095235558211886 : Unit := ()
set_option maxRecDepth 100000 in
set_option maxHeartbeats 0 in
theorem PySem.Challenge.cw_lackword_k02_refusals_holds : PySem.Challenge.rw_lackword_k02_refusals.Holds := by
  w_on; o_law; k_head; (case hw => w_witness2)
  k_fill
  refine L2.walk_ofK (l := PySem.Challenge.rw_lackword_k02_refusals) (n := 63) (k := 4) (x := "_law_script") (CX := L2.CX0) (sp := Pk02.spLaw) rfl (by decide) rfl ⟨rfl, by decide, by decide⟩ (fun w h Y => PySem.W.kIn_of Y) ?F ?S ?C
  case F =>
    intro w mg fa h KX G hmg
    have T : ∃ t, Pk02.Txt (L2.KOf KX) mg t := by
      dsimp only [L2.KOf]
      refine' Pk02.txt_mk KX G ?oc_hn ?oc_tk ?a_LackError ?q_LackError ?r_LackError ?ty_LackError ?ga_LackError ?gr_LackError ?sa_LackError ?hd_LackError ?ob_LackError ?kp_LackError ?ha_LackError ?i_LackError ?rs_LackError ?rr_LackError ?rf_LackError ?a_NoWord ?q_NoWord ?r_NoWord ?ty_NoWord ?ga_NoWord ?gr_NoWord ?sa_NoWord ?hd_NoWord ?ob_NoWord ?kp_NoWord ?ha_NoWord ?i_NoWord ?fn_NoWord ?l_INoWord ?cc_INoWord ?kk_INoWord ?n_NoWord_word ?a_NoLength ?q_NoLength ?r_NoLength ?ty_NoLength ?ga_NoLength ?gr_NoLength ?sa_NoLength ?hd_NoLength ?ob_NoLength ?kp_NoLength ?ha_NoLength ?i_NoLength ?fn_NoLength ?l_INoLength ?cc_INoLength ?kk_INoLength ?n_NoLength_length ?a_NoPlace ?q_NoPlace ?r_NoPlace ?ty_NoPlace ?ga_NoPlace ?gr_NoPlace ?sa_NoPlace ?hd_NoPlace ?ob_NoPlace ?kp_NoPlace ?ha_NoPlace ?i_NoPlace ?fn_NoPlace ?l_INoPlace ?cc_INoPlace ?kk_INoPlace ?n_NoPlace_place ?a_NoRoom ?q_NoRoom ?r_NoRoom ?ty_NoRoom ?ga_NoRoom ?gr_NoRoom ?sa_NoRoom ?hd_NoRoom ?ob_NoRoom ?kp_NoRoom ?ha_NoRoom ?i_NoRoom ?fn_NoRoom ?l_INoRoom ?cc_INoRoom ?kk_INoRoom ?n_NoRoom_room ?a_NoRing ?q_NoRing ?r_NoRing ?ty_NoRing ?ga_NoRing ?gr_NoRing ?sa_NoRing ?hd_NoRing ?ob_NoRing ?kp_NoRing ?ha_NoRing ?i_NoRing ?fn_NoRing ?l_INoRing ?cc_INoRing ?kk_INoRing ?n_NoRing_thing ?a_NoList ?q_NoList ?r_NoList ?ty_NoList ?ga_NoList ?gr_NoList ?sa_NoList ?hd_NoList ?ob_NoList ?kp_NoList ?ha_NoList ?i_NoList ?fn_NoList ?l_INoList ?cc_INoList ?kk_INoList ?n_NoList_word ?a_TooLong ?q_TooLong ?r_TooLong ?ty_TooLong ?ga_TooLong ?gr_TooLong ?sa_TooLong ?hd_TooLong ?ob_TooLong ?kp_TooLong ?ha_TooLong ?i_TooLong ?fn_TooLong ?l_ITooLong ?cc_ITooLong ?kk_ITooLong ?n_TooLong_word ?a_Inside ?q_Inside ?r_Inside ?ty_Inside ?ga_Inside ?gr_Inside ?sa_Inside ?hd_Inside ?ob_Inside ?kp_Inside ?ha_Inside ?i_Inside ?fn_Inside ?l_IInside ?cc_IInside ?kk_IInside ?n_Inside_one ?n_Inside_other ?a_Split ?q_Split ?r_Split ?ty_Split ?ga_Split ?gr_Split ?sa_Split ?hd_Split ?ob_Split ?kp_Split ?ha_Split ?i_Split ?fn_Split ?l_ISplit ?cc_ISplit ?kk_ISplit ?n_Split_one ?n_Split_other ?a_Endless ?q_Endless ?r_Endless ?ty_Endless ?ga_Endless ?gr_Endless ?sa_Endless ?hd_Endless ?ob_Endless ?kp_Endless ?ha_Endless ?i_Endless ?fn_Endless ?l_IEndless ?cc_IEndless ?kk_IEndless ?n_Endless_head ?n_Endless_lap ?a_NoName ?q_NoName ?r_NoName ?ty_NoName ?ga_NoName ?gr_NoName ?sa_NoName ?hd_NoName ?ob_NoName ?kp_NoName ?ha_NoName ?i_NoName ?fn_NoName ?l_INoName ?cc_INoName ?kk_INoName ?n_NoName_name ?a_NameThere ?q_NameThere ?r_NameThere ?ty_NameThere ?ga_NameThere ?gr_NameThere ?sa_NameThere ?hd_NameThere ?ob_NameThere ?kp_NameThere ?ha_NameThere ?i_NameThere ?fn_NameThere ?l_INameThere ?cc_INameThere ?kk_INameThere ?n_NameThere_name ?a_NoKinds ?q_NoKinds ?r_NoKinds ?ty_NoKinds ?ga_NoKinds ?gr_NoKinds ?sa_NoKinds ?hd_NoKinds ?ob_NoKinds ?kp_NoKinds ?ha_NoKinds ?i_NoKinds ?a_Full ?q_Full ?r_Full ?ty_Full ?ga_Full ?gr_Full ?sa_Full ?hd_Full ?ob_Full ?kp_Full ?ha_Full ?i_Full ?a_Bare ?q_Bare ?r_Bare ?ty_Bare ?ga_Bare ?gr_Bare ?sa_Bare ?hd_Bare ?ob_Bare ?kp_Bare ?ha_Bare ?i_Bare ?a_NoBack ?q_NoBack ?r_NoBack ?ty_NoBack ?ga_NoBack ?gr_NoBack ?sa_NoBack ?hd_NoBack ?ob_NoBack ?kp_NoBack ?ha_NoBack ?i_NoBack ?a_Unlike ?q_Unlike ?r_Unlike ?ty_Unlike ?ga_Unlike ?gr_Unlike ?sa_Unlike ?hd_Unlike ?ob_Unlike ?kp_Unlike ?ha_Unlike ?i_Unlike ?a_NoLine ?q_NoLine ?r_NoLine ?ty_NoLine ?ga_NoLine ?gr_NoLine ?sa_NoLine ?hd_NoLine ?ob_NoLine ?kp_NoLine ?ha_NoLine ?i_NoLine ?nd ?a_cell_at ?l_cell_at ?cc_cell_at ?kk_cell_at ?a_made ?l_made ?cc_made ?kk_made ?a_lkinds ?l_lkinds ?cc_lkinds ?kk_lkinds ?a_under ?l_under ?cc_under ?kk_under ?a_fields ?l_fields ?cc_fields ?kk_fields ?a_law ?l_law ?cc_law ?kk_law ?z_len ?z_range ?z_enumerate ?z_isinstance ?z_ValueError
      (case oc_hn => k_is)
      (case oc_tk => k_is)
      (case a_LackError => k_is)
      (case q_LackError => k_is)
      (case r_LackError => rfl)
      (case ty_LackError => k_is)
      (case ga_LackError => k_is)
      (case gr_LackError => k_is)
      (case sa_LackError => k_is)
      (case hd_LackError => k_is)
      (case ob_LackError => k_is)
      (case kp_LackError => k_is)
      (case ha_LackError => k_is)
      (case i_LackError => k_is)
      (case rs_LackError => k_is)
      (case rr_LackError => k_is)
      (case rf_LackError => k_is)
      (case a_NoWord => k_is)
      (case q_NoWord => k_is)
      (case r_NoWord => rfl)
      (case ty_NoWord => k_is)
      (case ga_NoWord => k_is)
      (case gr_NoWord => k_is)
      (case sa_NoWord => k_is)
      (case hd_NoWord => k_is)
      (case ob_NoWord => k_is)
      (case kp_NoWord => k_is)
      (case ha_NoWord => k_is)
      (case i_NoWord => k_is)
      (case fn_NoWord => k_is)
      (case l_INoWord => k_is)
      (case cc_INoWord => k_is)
      (case kk_INoWord => k_is)
      (case n_NoWord_word => k_is)
      (case a_NoLength => k_is)
      (case q_NoLength => k_is)
      (case r_NoLength => rfl)
      (case ty_NoLength => k_is)
      (case ga_NoLength => k_is)
      (case gr_NoLength => k_is)
      (case sa_NoLength => k_is)
      (case hd_NoLength => k_is)
      (case ob_NoLength => k_is)
      (case kp_NoLength => k_is)
      (case ha_NoLength => k_is)
      (case i_NoLength => k_is)
      (case fn_NoLength => k_is)
      (case l_INoLength => k_is)
      (case cc_INoLength => k_is)
      (case kk_INoLength => k_is)
      (case n_NoLength_length => k_is)
      (case a_NoPlace => k_is)
      (case q_NoPlace => k_is)
      (case r_NoPlace => rfl)
      (case ty_NoPlace => k_is)
      (case ga_NoPlace => k_is)
      (case gr_NoPlace => k_is)
      (case sa_NoPlace => k_is)
      (case hd_NoPlace => k_is)
      (case ob_NoPlace => k_is)
      (case kp_NoPlace => k_is)
      (case ha_NoPlace => k_is)
      (case i_NoPlace => k_is)
      (case fn_NoPlace => k_is)
      (case l_INoPlace => k_is)
      (case cc_INoPlace => k_is)
      (case kk_INoPlace => k_is)
      (case n_NoPlace_place => k_is)
      (case a_NoRoom => k_is)
      (case q_NoRoom => k_is)
      (case r_NoRoom => rfl)
      (case ty_NoRoom => k_is)
      (case ga_NoRoom => k_is)
      (case gr_NoRoom => k_is)
      (case sa_NoRoom => k_is)
      (case hd_NoRoom => k_is)
      (case ob_NoRoom => k_is)
      (case kp_NoRoom => k_is)
      (case ha_NoRoom => k_is)
      (case i_NoRoom => k_is)
      (case fn_NoRoom => k_is)
      (case l_INoRoom => k_is)
      (case cc_INoRoom => k_is)
      (case kk_INoRoom => k_is)
      (case n_NoRoom_room => k_is)
      (case a_NoRing => k_is)
      (case q_NoRing => k_is)
      (case r_NoRing => rfl)
      (case ty_NoRing => k_is)
      (case ga_NoRing => k_is)
      (case gr_NoRing => k_is)
      (case sa_NoRing => k_is)
      (case hd_NoRing => k_is)
      (case ob_NoRing => k_is)
      (case kp_NoRing => k_is)
      (case ha_NoRing => k_is)
      (case i_NoRing => k_is)
      (case fn_NoRing => k_is)
      (case l_INoRing => k_is)
      (case cc_INoRing => k_is)
      (case kk_INoRing => k_is)
      (case n_NoRing_thing => k_is)
      (case a_NoList => k_is)
      (case q_NoList => k_is)
      (case r_NoList => rfl)
      (case ty_NoList => k_is)
      (case ga_NoList => k_is)
      (case gr_NoList => k_is)
      (case sa_NoList => k_is)
      (case hd_NoList => k_is)
      (case ob_NoList => k_is)
      (case kp_NoList => k_is)
      (case ha_NoList => k_is)
      (case i_NoList => k_is)
      (case fn_NoList => k_is)
      (case l_INoList => k_is)
      (case cc_INoList => k_is)
      (case kk_INoList => k_is)
      (case n_NoList_word => k_is)
      (case a_TooLong => k_is)
      (case q_TooLong => k_is)
      (case r_TooLong => rfl)
      (case ty_TooLong => k_is)
      (case ga_TooLong => k_is)
      (case gr_TooLong => k_is)
      (case sa_TooLong => k_is)
      (case hd_TooLong => k_is)
      (case ob_TooLong => k_is)
      (case kp_TooLong => k_is)
      (case ha_TooLong => k_is)
      (case i_TooLong => k_is)
      (case fn_TooLong => k_is)
      (case l_ITooLong => k_is)
      (case cc_ITooLong => k_is)
      (case kk_ITooLong => k_is)
      (case n_TooLong_word => k_is)
      (case a_Inside => k_is)
      (case q_Inside => k_is)
      (case r_Inside => rfl)
      (case ty_Inside => k_is)
      (case ga_Inside => k_is)
      (case gr_Inside => k_is)
      (case sa_Inside => k_is)
      (case hd_Inside => k_is)
      (case ob_Inside => k_is)
      (case kp_Inside => k_is)
      (case ha_Inside => k_is)
      (case i_Inside => k_is)
      (case fn_Inside => k_is)
      (case l_IInside => k_is)
      (case cc_IInside => k_is)
      (case kk_IInside => k_is)
      (case n_Inside_one => k_is)
      (case n_Inside_other => k_is)
      (case a_Split => k_is)
      (case q_Split => k_is)
      (case r_Split => rfl)
      (case ty_Split => k_is)
      (case ga_Split => k_is)
      (case gr_Split => k_is)
      (case sa_Split => k_is)
      (case hd_Split => k_is)
      (case ob_Split => k_is)
      (case kp_Split => k_is)
      (case ha_Split => k_is)
      (case i_Split => k_is)
      (case fn_Split => k_is)
      (case l_ISplit => k_is)
      (case cc_ISplit => k_is)
      (case kk_ISplit => k_is)
      (case n_Split_one => k_is)
      (case n_Split_other => k_is)
      (case a_Endless => k_is)
      (case q_Endless => k_is)
      (case r_Endless => rfl)
      (case ty_Endless => k_is)
      (case ga_Endless => k_is)
      (case gr_Endless => k_is)
      (case sa_Endless => k_is)
      (case hd_Endless => k_is)
      (case ob_Endless => k_is)
      (case kp_Endless => k_is)
      (case ha_Endless => k_is)
      (case i_Endless => k_is)
      (case fn_Endless => k_is)
      (case l_IEndless => k_is)
      (case cc_IEndless => k_is)
      (case kk_IEndless => k_is)
      (case n_Endless_head => k_is)
      (case n_Endless_lap => k_is)
      (case a_NoName => k_is)
      (case q_NoName => k_is)
      (case r_NoName => rfl)
      (case ty_NoName => k_is)
      (case ga_NoName => k_is)
      (case gr_NoName => k_is)
      (case sa_NoName => k_is)
      (case hd_NoName => k_is)
      (case ob_NoName => k_is)
      (case kp_NoName => k_is)
      (case ha_NoName => k_is)
      (case i_NoName => k_is)
      (case fn_NoName => k_is)
      (case l_INoName => k_is)
      (case cc_INoName => k_is)
      (case kk_INoName => k_is)
      (case n_NoName_name => k_is)
      (case a_NameThere => k_is)
      (case q_NameThere => k_is)
      (case r_NameThere => rfl)
      (case ty_NameThere => k_is)
      (case ga_NameThere => k_is)
      (case gr_NameThere => k_is)
      (case sa_NameThere => k_is)
      (case hd_NameThere => k_is)
      (case ob_NameThere => k_is)
      (case kp_NameThere => k_is)
      (case ha_NameThere => k_is)
      (case i_NameThere => k_is)
      (case fn_NameThere => k_is)
      (case l_INameThere => k_is)
      (case cc_INameThere => k_is)
      (case kk_INameThere => k_is)
      (case n_NameThere_name => k_is)
      (case a_NoKinds => k_is)
      (case q_NoKinds => k_is)
      (case r_NoKinds => rfl)
      (case ty_NoKinds => k_is)
      (case ga_NoKinds => k_is)
      (case gr_NoKinds => k_is)
      (case sa_NoKinds => k_is)
      (case hd_NoKinds => k_is)
      (case ob_NoKinds => k_is)
      (case kp_NoKinds => k_is)
      (case ha_NoKinds => k_is)
      (case i_NoKinds => k_is)
      (case a_Full => k_is)
      (case q_Full => k_is)
      (case r_Full => rfl)
      (case ty_Full => k_is)
      (case ga_Full => k_is)
      (case gr_Full => k_is)
      (case sa_Full => k_is)
      (case hd_Full => k_is)
      (case ob_Full => k_is)
      (case kp_Full => k_is)
      (case ha_Full => k_is)
      (case i_Full => k_is)
      (case a_Bare => k_is)
      (case q_Bare => k_is)
      (case r_Bare => rfl)
      (case ty_Bare => k_is)
      (case ga_Bare => k_is)
      (case gr_Bare => k_is)
      (case sa_Bare => k_is)
      (case hd_Bare => k_is)
      (case ob_Bare => k_is)
      (case kp_Bare => k_is)
      (case ha_Bare => k_is)
      (case i_Bare => k_is)
      (case a_NoBack => k_is)
      (case q_NoBack => k_is)
      (case r_NoBack => rfl)
      (case ty_NoBack => k_is)
      (case ga_NoBack => k_is)
      (case gr_NoBack => k_is)
      (case sa_NoBack => k_is)
      (case hd_NoBack => k_is)
      (case ob_NoBack => k_is)
      (case kp_NoBack => k_is)
      (case ha_NoBack => k_is)
      (case i_NoBack => k_is)
      (case a_Unlike => k_is)
      (case q_Unlike => k_is)
      (case r_Unlike => rfl)
      (case ty_Unlike => k_is)
      (case ga_Unlike => k_is)
      (case gr_Unlike => k_is)
      (case sa_Unlike => k_is)
      (case hd_Unlike => k_is)
      (case ob_Unlike => k_is)
      (case kp_Unlike => k_is)
      (case ha_Unlike => k_is)
      (case i_Unlike => k_is)
      (case a_NoLine => k_is)
      (case q_NoLine => k_is)
      (case r_NoLine => rfl)
      (case ty_NoLine => k_is)
      (case ga_NoLine => k_is)
      (case gr_NoLine => k_is)
      (case sa_NoLine => k_is)
      (case hd_NoLine => k_is)
      (case ob_NoLine => k_is)
      (case kp_NoLine => k_is)
      (case ha_NoLine => k_is)
      (case i_NoLine => k_is)
      (case nd => decide)
      (case a_cell_at => k_is)
      (case l_cell_at => k_is)
      (case cc_cell_at => k_is)
      (case kk_cell_at => k_is)
      (case a_made => k_is)
      (case l_made => k_is)
      (case cc_made => k_is)
      (case kk_made => k_is)
      (case a_lkinds => k_is)
      (case l_lkinds => k_is)
      (case cc_lkinds => k_is)
      (case kk_lkinds => k_is)
      (case a_under => k_is)
      (case l_under => k_is)
      (case cc_under => k_is)
      (case kk_under => k_is)
      (case a_fields => k_is)
      (case l_fields => k_is)
      (case cc_fields => k_is)
      (case kk_fields => k_is)
      (case a_law => k_is)
      (case l_law => k_is)
      (case cc_law => k_is)
      (case kk_law => k_is)
      (case z_len => k_is)
      (case z_range => k_is)
      (case z_enumerate => k_is)
      (case z_isinstance => k_is)
      (case z_ValueError => k_is)
    obtain ⟨t, T⟩ := T
    have e0 := hmg.symm.trans T.m_law
    cases e0
    refine' ⟨_, ?b, fun base kb nb => Pk02.ok_law T⟩
    exact T.bl
  case S => exact fun K H a ns hl hO hS => ⟨a, ns, rfl, hS, hl, fun _ => rfl⟩
  case C => exact fun _ _ _ _ z => z
#print axioms PySem.Challenge.cw_lackword_k02_refusals_holds
